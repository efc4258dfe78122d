/- Signs written as entities and escapes, plainly: no program in this text. -/
import Derived.Test.YtkfgfbdalkifjaaDoorwBkP
import Derived.Test.YtkfgfbdalkifjaaDoorvCL
namespace Go.Proofs.YtkfgfbdalkifjaaDoor
set_option linter.unusedVariables false
open Go.RowKit
theorem cl_mid (a m z : List Int) : cl (fun j => cL (a ++ (m ++ z)) (a.length + j)) m.length = m := by
  have h : cl (fun j => cL (a ++ (m ++ z)) (a.length + j)) m.length = cl (cL m) m.length := by
    unfold cl
    refine List.map_congr_left fun j hj => ?_
    rw [cL_right, cL_left _ _ (List.mem_range.1 hj)]
  rw [h, cl_cL]
theorem DB.in {b : Nat} {l : List Int} (hb : b ≤ 16) (h : DB b l) : ∀ x ∈ l, (48 ≤ x ∧ x ≤ 57) ∨ (97 ≤ x ∧ x ≤ 102) := fun x hx => by
  obtain ⟨d, hd, rfl⟩ := h x hx
  exact dC_in (by omega)
theorem mid_ne {pre L : List Int} (hp : ∀ x ∈ pre.drop 1, x ≠ 59) (hL : ∀ x ∈ L, x ≠ 59) : ∀ k, 1 ≤ k → k < pre.length + L.length → cL (pre ++ (L ++ [59])) k ≠ 59 := fun k h1 h2 => by
  by_cases hk : k < pre.length
  · rw [cL_left _ _ hk]
    have : cL pre k ∈ pre.drop 1 := by
      rw [cL_in (List.getElem?_eq_getElem hk)]
      refine List.mem_iff_getElem.2 ⟨k - 1, by rw [List.length_drop]; omega, ?_⟩
      rw [List.getElem_drop]
      congr 1
      omega
    exact hp _ this
  · obtain ⟨j, rfl⟩ : ∃ j, k = pre.length + j := ⟨k - pre.length, by omega⟩
    rw [cL_right, cL_left _ _ (by omega)]
    exact hL _ (cL_mem (by omega))
theorem end_is (pre L : List Int) : cL (pre ++ (L ++ [59])) (pre.length + L.length) = 59 := by
  rw [cL_right, show L.length = L.length + 0 from rfl, cL_right]
  rfl
/-- What is asked of an entity's or an escape's bytes. -/
def One (o : Option (Int × Nat)) (n e : Nat) : Prop := o = if okN (n : Int) = true then some ((n : Int), e) else none
theorem ent_one {n : Nat} {L pre : List Int} (hp : ∀ x ∈ pre.drop 1, x ≠ 59) (hL : ∀ x ∈ L, x ≠ 59) (h0 : cL (pre ++ (L ++ [59])) 0 = 38) (h1 : 1 ≤ pre.length + L.length) (h2 : pre.length + L.length < 13)
    {m : List Int} (hm : cl (fun j => cL (pre ++ (L ++ [59])) (1 + j)) (pre.length + L.length - 1) = m) (hl : m.getD 0 0 = 35) (hn : enN m = (n : Int)) : One (nv (cL (pre ++ (L ++ [59]))) (pre ++ (L ++ [59])).length) n (pre ++ (L ++ [59])).length := by
  have hlen : (pre ++ (L ++ [59])).length = pre.length + L.length + 1 := by rw [List.length_append, List.length_append]; rfl
  unfold One
  rw [nv_hit h0 h1 (by rw [hlen]; omega) (end_is pre L) (mid_ne hp hL), hm, hlen, lk_no (by refine ⟨?_, ?_, ?_, ?_, ?_, ?_⟩ <;> (rintro rfl; simp at hl)), hn]
  by_cases ho : okN (n : Int) = true
  · rw [if_pos ho, if_pos ho]
    rfl
  · rw [if_neg ho, if_neg ho]
    rfl
theorem ent_ten {n : Nat} (hn : n ≤ 1114111) {L : List Int} (h : DT 10 1 n L) : One (nv (cL (38 :: 35 :: (L ++ [59]))) (38 :: 35 :: (L ++ [59])).length) n (38 :: 35 :: (L ++ [59])).length := by
  have hlen := h.len (m := 7) (by decide) (Nat.lt_of_le_of_lt hn (by decide))
  have hl1 := h.least
  obtain ⟨x, t, rfl⟩ : ∃ x t, L = x :: t := by
    cases L with
    | nil => exact absurd hl1 (by decide)
    | cons x t => exact ⟨x, t, rfl⟩
  have hin := h.dig.in (by decide)
  obtain ⟨d, hd, hx⟩ := h.dig x (List.mem_cons_self ..)
  have hx10 := dC_ten hd
  rw [← hx] at hx10
  refine ent_one (pre := [38, 35]) (m := 35 :: x :: t) (by decide) (fun y hy => by have := hin y hy; omega) rfl (by simp; omega) (by simp at hlen ⊢; omega) ?_ rfl ?_
  · rw [show ([38, 35] : List Int).length + (x :: t).length - 1 = (35 :: x :: t).length by simp; omega]
    exact cl_mid [38] (35 :: x :: t) [59]
  · rw [enN_d rfl (by simp) (by show ¬ (x = 120 ∨ x = 88); omega)]
    exact num_dg (b := 10) (by decide) h.dig h.val (by simp) hn
theorem ent_hex {n : Nat} (hn : n ≤ 1114111) {L : List Int} (h : DT 16 1 n L) : One (nv (cL (38 :: 35 :: 120 :: (L ++ [59]))) (38 :: 35 :: 120 :: (L ++ [59])).length) n (38 :: 35 :: 120 :: (L ++ [59])).length := by
  have hlen := h.len (m := 6) (by decide) (Nat.lt_of_le_of_lt hn (by decide))
  have hl1 := h.least
  have hin := h.dig.in (by decide)
  refine ent_one (pre := [38, 35, 120]) (m := 35 :: 120 :: L) (by decide) (fun y hy => by have := hin y hy; omega) rfl (by simp; omega) (by simp at hlen ⊢; omega) ?_ rfl ?_
  · rw [show ([38, 35, 120] : List Int).length + L.length - 1 = (35 :: 120 :: L).length by simp; omega]
    exact cl_mid [38] (35 :: 120 :: L) [59]
  · rw [enN_x rfl (by simp) (Or.inl rfl)]
    exact num_dg (b := 16) (by decide) h.dig h.val (by intro e; subst e; simp at hl1) hn
theorem esc_one {f : Int} (hf : f ≠ 7) {n k : Nat} (hn : n ≤ 1114111) {x : Int} (hx : 0 ≤ x ∧ x ≤ 127) (hw : wdt x = k) (hk : k ≠ 0) {L : List Int} (h : DT 16 k n L) (hl : L.length = k) : One (ev f (cL (92 :: x :: L)) (92 :: x :: L).length) n (92 :: x :: L).length := by
  have hlen : (92 :: x :: L).length = 2 + k := by rw [List.length_cons, List.length_cons, hl]; omega
  have hnum : num 16 (cl (fun j => cL (92 :: x :: L) (2 + j)) k) = (n : Int) := by
    have h1 := cl_mid [92, x] L []
    rw [List.append_nil, hl] at h1
    rw [show (92 :: x :: L) = [92, x] ++ L from rfl, show (fun j => cL ([92, x] ++ L) (2 + j)) = fun j => cL ([92, x] ++ L) ([92, x].length + j) from rfl, h1]
    exact num_dg (b := 16) (by decide) h.dig h.val (by intro e; subst e; exact hk hl.symm) hn
  unfold One
  rw [ev_in (by omega) rfl (show cL (92 :: x :: L) 1 = x from rfl) hx.2, evI_w hf _ _ hw hk, hlen]
  by_cases ho : okN (n : Int) = true
  · rw [if_pos ho, evN_yes (Nat.le_refl _) (by rw [hnum]; exact ho), hnum]
  · rw [if_neg ho, evN_bad (by rw [hnum]; exact ho)]
theorem un_one {f l : Int} {c : Nat → Int} {n e : Nat} {a : Int} (hc : ∀ j, j < e → 0 ≤ c j ∧ c j ≤ 255) (he : 1 < e) (h0 : c 0 = a) (ha : 0 ≤ a ∧ a < 128)
    {o : Option (Int × Nat)} (h1 : One o n e) (h2 : u1 f l c e = oN o (nx c e)) :
    (okN (n : Int) = true → un f l c e 0 = [⟨(n : Int), 0, (e : Int)⟩]) ∧ (okN (n : Int) = false → ∃ u t, un f l c e 0 = ⟨a, 0, 1⟩ :: u :: t) := by
  have hz : (fun j => c (0 + j)) = c := by funext j; rw [Nat.zero_add]
  refine ⟨fun ho => ?_, fun ho => ?_⟩
  · have hu1 : u1 f l (fun j => c (0 + j)) (e - 0) = ((n : Int), e) := by
      rw [hz, Nat.sub_zero, h2, h1, if_pos ho]
      rfl
    rw [un_step hc (by omega) hu1, un_end (by omega)]
    rfl
  · have hu1 : u1 f l (fun j => c (0 + j)) (e - 0) = (a, 1) := by
      rw [hz, Nat.sub_zero, h2, h1, if_neg (by rw [ho]; decide), oN_none]
      exact nx_plain h0 ha (by omega)
    obtain ⟨r2, k2, hu2⟩ : ∃ r k, u1 f l (fun j => c (1 + j)) (e - 1) = (r, k) := ⟨_, _, rfl⟩
    exact ⟨_, _, by rw [un_step hc (by omega) hu1, un_step hc (i := 0 + 1) (by omega) hu2]; rfl⟩
theorem enc_not {n : Int} (ho : okN n = true) {S : List Int} (h4 : 4 < S.length + 1) {a : Int} (h0 : S[0]? = some a) (ha : a < 128) : S ≠ enc n := fun e => by
  have hr := okN_le ho
  unfold enc at e
  split at e
  · rw [e] at h0
    simp at h0
  · split at e
    · rw [e] at h4
      simp at h4
    · split at e
      · rw [e] at h0
        simp at h0
        omega
      · split at e
        · rw [e] at h0
          simp at h0
          omega
        · rw [e] at h0
          simp at h0
          omega
theorem lit_not {n : Nat} (ho : okN (n : Int) = true) {S : List Int} (h4 : 4 ≤ S.length) {a : Int} (h0 : S[0]? = some a) (ha : a < 128) : litB (cL S) S.length [⟨(n : Int), 0, (S.length : Int)⟩] = false := by
  rw [lit_is (x := ⟨(n : Int), 0, (S.length : Int)⟩) (y := ⟨(n : Int), 0, (S.length : Int)⟩) rfl rfl]
  have hs : cl (fun j => cL S ((0 : Int).toNat + j)) ((0 : Int) + (S.length : Int) - 0).toNat = S := by
    rw [show ((0 : Int) + (S.length : Int) - 0).toNat = S.length by omega, show (fun j => cL S ((0 : Int).toNat + j)) = cL S by funext j; simp]
    exact cl_cL S
  have ht : tU [⟨(n : Int), 0, (S.length : Int)⟩] = enc n := by simp [tU]
  dsimp only
  rw [hs, ht, show (S == enc n) = false from beq_eq_false_iff_ne.2 (enc_not ho (by omega) h0 ha), Bool.and_false]
theorem tU_plain {a : Int} (ha : 0 ≤ a ∧ a < 128) (u : U3) (t : List U3) (p q : Int) : tU (⟨a, p, q⟩ :: u :: t) = a :: tU (u :: t) := by
  have he : enc a = [a] := by
    unfold enc
    rw [if_neg (by rw [(okR_iff a).2 (by omega)]; decide), if_pos ha.2]
  show enc a ++ tU (u :: t) = _
  rw [he]
  rfl
/-- What a kind of signs is, whole. -/
structure Pk (f l a : Int) (n : Nat) (s : ByteArray) (S : List Int) : Prop where
  str : s = strOfNums S
  byt : Byt S
  least : 4 ≤ S.length
  most : S.length ≤ 20
  head : S[0]? = some a
  yes : okN (n : Int) = true → un f l (cL S) S.length 0 = [⟨(n : Int), 0, (S.length : Int)⟩]
  no : okN (n : Int) = false → ∃ u t, un f l (cL S) S.length 0 = ⟨a, 0, 1⟩ :: u :: t
theorem byt_le {S : List Int} (h : Byt S) : ∀ j, j < S.length → 0 ≤ cL S j ∧ cL S j ≤ 255 := fun j hj => by
  have := h _ (cL_mem hj)
  omega
theorem u1_html {c : Nat → Int} {e : Nat} : u1 1 1 c e = oN (nv c e) (nx c e) := by
  unfold u1
  rw [if_pos ⟨rfl, Or.inl rfl⟩, if_neg (by rintro ⟨h, -⟩; exact absurd h (by decide))]
theorem u1_esc {f : Int} (hf : 4 ≤ f ∧ f ≤ 7) {c : Nat → Int} {e : Nat} : u1 f 5 c e = oN (ev f c e) (nx c e) := by
  unfold u1
  rw [if_neg (by rintro ⟨h, -⟩; exact absurd h (by decide)), if_neg (by rintro ⟨-, h⟩; omega), if_pos ⟨rfl, hf⟩]
theorem pk_ten {n : Nat} (hn : n ≤ 1114111) {L : List Int} (h : DT 10 1 n L) : Pk 1 1 38 n (⟨#[38, 35]⟩ ++ strOfNums L ++ ⟨#[59]⟩) (38 :: 35 :: (L ++ [59])) := by
  have hlen := h.len (m := 7) (by decide) (Nat.lt_of_le_of_lt hn (by decide))
  have hl1 := h.least
  have hin := h.dig.in (by decide)
  have hb : Byt (38 :: 35 :: (L ++ [59])) := fun x hx => by
    rcases List.mem_cons.1 hx with rfl | hx
    · decide
    · rcases List.mem_cons.1 hx with rfl | hx
      · decide
      · rcases List.mem_append.1 hx with hx | hx
        · have := hin x hx; omega
        · rw [List.mem_singleton] at hx; subst hx; decide
  have hl : (38 :: 35 :: (L ++ [59])).length = L.length + 3 := by simp
  have h2 := un_one (f := 1) (l := 1) (a := 38) (byt_le hb) (by rw [hl]; omega) rfl (by decide) (ent_ten hn h) u1_html
  exact ⟨by rw [show (38 :: 35 :: (L ++ [59])) = [38, 35] ++ L ++ [59] from rfl, nums_app, nums_app]; rfl, hb, by rw [hl]; omega, by rw [hl]; omega, rfl, h2.1, h2.2⟩
theorem pk_hex {n : Nat} (hn : n ≤ 1114111) {L : List Int} (h : DT 16 1 n L) : Pk 1 1 38 n (⟨#[38, 35, 120]⟩ ++ strOfNums L ++ ⟨#[59]⟩) (38 :: 35 :: 120 :: (L ++ [59])) := by
  have hlen := h.len (m := 6) (by decide) (Nat.lt_of_le_of_lt hn (by decide))
  have hl1 := h.least
  have hin := h.dig.in (by decide)
  have hb : Byt (38 :: 35 :: 120 :: (L ++ [59])) := fun x hx => by
    rcases List.mem_cons.1 hx with rfl | hx
    · decide
    · rcases List.mem_cons.1 hx with rfl | hx
      · decide
      · rcases List.mem_cons.1 hx with rfl | hx
        · decide
        · rcases List.mem_append.1 hx with hx | hx
          · have := hin x hx; omega
          · rw [List.mem_singleton] at hx; subst hx; decide
  have hl : (38 :: 35 :: 120 :: (L ++ [59])).length = L.length + 4 := by simp
  have h2 := un_one (f := 1) (l := 1) (a := 38) (byt_le hb) (by rw [hl]; omega) rfl (by decide) (ent_hex hn h) u1_html
  exact ⟨by rw [show (38 :: 35 :: 120 :: (L ++ [59])) = [38, 35, 120] ++ L ++ [59] from rfl, nums_app, nums_app]; rfl, hb, by rw [hl]; omega, by rw [hl]; omega, rfl, h2.1, h2.2⟩
theorem pk_esc {f : Int} (hf : 4 ≤ f ∧ f ≤ 6) {n k : Nat} (hn : n ≤ 1114111) {x : Int} (hx : 0 ≤ x ∧ x ≤ 127) (hw : wdt x = k) (hk : 2 ≤ k ∧ k ≤ 8) {L : List Int} (h : DT 16 k n L) (hl : L.length = k) {s : ByteArray} (hs : s = strOfNums [92, x]) : Pk f 5 92 n (s ++ strOfNums L) (92 :: x :: L) := by
  have hin := h.dig.in (by decide)
  have hb : Byt (92 :: x :: L) := fun y hy => by
    rcases List.mem_cons.1 hy with rfl | hy
    · decide
    · rcases List.mem_cons.1 hy with rfl | hy
      · omega
      · have := hin y hy; omega
  have hl2 : (92 :: x :: L).length = k + 2 := by simp [hl]
  have h2 := un_one (f := f) (l := 5) (a := 92) (byt_le hb) (by rw [hl2]; omega) rfl (by decide) (esc_one (by omega) hn hx hw (by omega) h hl) (u1_esc ⟨hf.1, by omega⟩)
  exact ⟨by rw [show (92 :: x :: L) = [92, x] ++ L from rfl, nums_app, hs], hb, by rw [hl2]; omega, by rw [hl2]; omega, rfl, h2.1, h2.2⟩
theorem pk_eight {n : Nat} (hn : n ≤ 1114111) {L : List Int} (h : DT 16 8 n L) : Pk 6 5 92 n (⟨#[92, 85]⟩ ++ strOfNums L) (92 :: 85 :: L) := by
  have hlen := h.len (m := 6) (by decide) (Nat.lt_of_le_of_lt hn (by decide))
  have hl1 := h.least
  exact pk_esc (x := 85) (k := 8) (by decide) hn (by decide) (by decide) (by decide) h (by omega) rfl
theorem pk_four {n : Nat} (hn : n < 65536) {L : List Int} (h : DT 16 4 n L) : Pk 4 5 92 n (⟨#[92, 117]⟩ ++ strOfNums L) (92 :: 117 :: L) := by
  have hlen := h.len (m := 4) (by decide) (Nat.lt_of_lt_of_le hn (by decide))
  have hl1 := h.least
  exact pk_esc (x := 117) (k := 4) (by decide) (by omega) (by decide) (by decide) (by decide) h (by omega) rfl
end Go.Proofs.YtkfgfbdalkifjaaDoor
