/- mark: fences, plainly; no program in this text. -/
import Derived.Test.YtodjfeheagnnpaaDoormRA
import Derived.Test.YtodjfeheagnnpaaDoormSpnP
namespace Go.Proofs.YtodjfeheagnnpaaDoor
set_option linter.unusedVariables false
open Go.RowKit Go.ChangeShapes
theorem setL_low {L : Nat → Int} {l f t : Int} {j : Nat} (h : (j : Int) < f) : setL L l f t j = L j := by
  unfold setL
  rw [if_neg (by omega)]
theorem layP_low {lo j : Nat} (hj : j < lo) : ∀ (l : List (Nat × Nat)) (L : Nat → Int), (∀ p ∈ l, lo ≤ p.1) → layP L l j = L j
  | [], _, _ => rfl
  | p :: l, L, h => by
    show layP (setL L 1 (p.1 : Int) ((p.1 : Int) + (p.2 : Int))) l j = L j
    rw [layP_low hj l _ (fun q hq => h q (List.mem_cons_of_mem _ hq))]
    have := h p (List.mem_cons_self ..)
    exact setL_low (by omega)
theorem rd_lo {c : Nat → Int} {n lo : Nat} (hc : ∀ i, n ≤ i → c i = -1) : ∀ d i l r, n - i ≤ d → lo ≤ i → (∀ p ∈ l, lo ≤ p.1) → rd c n i l = some r → ∀ p ∈ r.2, lo ≤ p.1
  | 0, i, l, r, hd, hlo, hl, h => by
    rw [rd_end (by omega)] at h
    cases h
  | d + 1, i, l, r, hd, hlo, hl, h => by
    rcases Nat.lt_or_ge i n with hi | hi
    · have ha := atE_le hc hi
      by_cases h1 : c i = 62
      · rw [rd_shut hc hi h1] at h
        injection h with h
        subst h
        exact hl
      · by_cases h2 : c i = 47 ∨ bkB (c i) = true
        · rw [rd_skip hc hi h1 h2] at h
          exact rd_lo hc d (i + 1) l r (by omega) (by omega) hl h
        · rw [rd_attr hc hi h1 h2] at h
          refine rd_lo hc d (atE c n i) (l ++ prL (atP c n i)) r (by omega) (by omega) ?_ h
          intro p hp
          rcases List.mem_append.1 hp with hp | hp
          · exact hl p hp
          · unfold prL at hp
            by_cases h0 : 0 < (atP c n i).2
            · rw [if_pos h0, List.mem_singleton] at hp
              subst hp
              unfold atP at h0 ⊢
              by_cases e1 : c (a2 c n i) = 61
              · have h61 : a2 c n i < n := by
                  rcases Nat.lt_or_ge (a2 c n i) n with h5 | h5
                  · exact h5
                  · rw [hc _ h5] at e1; exact absurd e1 (by decide)
                have h3 := a3_le hi h61
                rw [if_pos e1] at h0 ⊢
                by_cases e2 : altB (nm c i (a1 c n i)) = true
                · rw [if_pos e2] at h0 ⊢
                  unfold vlP at h0 ⊢
                  by_cases e3 : quB (c (a3 c n i)) = true
                  · rw [if_pos e3] at h0 ⊢
                    by_cases e4 : a4 c n (a3 c n i) < n
                    · rw [if_pos e4] at h0 ⊢
                      dsimp only at h0 ⊢
                      omega
                    · rw [if_neg e4] at h0; exact absurd h0 (Nat.lt_irrefl 0)
                  · rw [if_neg e3] at h0; exact absurd h0 (Nat.lt_irrefl 0)
                · rw [if_neg e2] at h0; exact absurd h0 (Nat.lt_irrefl 0)
              · rw [if_neg e1] at h0; exact absurd h0 (Nat.lt_irrefl 0)
            · rw [if_neg h0] at hp; cases hp
    · rw [rd_end hi] at h
      cases h
theorem tg_lo {c : Nat → Int} {n i : Nat} (hC : Ch c n) {t : Tg} (h : tg c n i = some t) : ∀ p ∈ t.pr, i ≤ p.1 := by
  unfold tg at h
  by_cases hb : bg c i = true
  · rw [if_pos hb] at h
    obtain ⟨r, hr, rfl⟩ := Option.map_eq_some_iff.1 h
    have hF1 : i + 1 ≤ tgF c i := by unfold tgF; split <;> omega
    have h1 := ps_ge nmB c n (tgF c i)
    exact rd_lo hC.2 _ _ _ _ (Nat.le_refl _) (by omega) (fun p hp => by cases hp) hr
  · rw [if_neg hb] at h
    cases h
theorem txL_low {c : Nat → Int} {n i j : Nat} (hC : Ch c n) (hj : j < i) (L : Nat → Int) : txL L c n i j = L j := by
  unfold txL
  by_cases h1 : c i = 92
  · rw [if_pos h1]
  rw [if_neg h1]
  by_cases h2 : c i = 96
  · rw [if_pos h2]
    unfold tcL
    cases tk (tcK c n i) c n (i + tcK c n i) with
    | none => rfl
    | some q => exact setL_low (by omega)
  rw [if_neg h2]
  by_cases h3 : c i = 93
  · rw [if_pos h3]
    unfold taL
    cases tgO c n (i + 1) with
    | none => rfl
    | some q => exact setL_low (by omega)
  rw [if_neg h3]
  by_cases h4 : c i = 60
  · rw [if_pos h4]
    unfold anL
    by_cases g1 : gtB c n i = false
    · rw [if_pos g1]
    rw [if_neg g1]
    by_cases g2 : 0 < lkP c n i
    · rw [if_pos g2]; exact setL_low (by omega)
    rw [if_neg g2]
    by_cases g3 : 0 < rmP c n i
    · rw [if_pos g3]; exact setL_low (by omega)
    rw [if_neg g3]
    cases e : tg c n i with
    | none => rfl
    | some t =>
      show layT L i t j = L j
      unfold layT
      rw [layP_low hj _ _ (tg_lo hC e)]
      exact setL_low (by omega)
  rw [if_neg h4]
theorem tx_low {c : Nat → Int} {n j : Nat} (hC : Ch c n) : ∀ d i L, n - i ≤ d → j < i → tx c n i L j = L j
  | 0, i, L, hd, hj => by rw [tx_end (by omega)]
  | d + 1, i, L, hd, hj => by
    rcases Nat.lt_or_ge i n with h | h
    · have he := txE_gt hC h
      rw [tx_one hC h, tx_low hC d _ _ (by omega) (by omega), txL_low hC hj]
    · rw [tx_end h]
theorem lnL_low {c : Nat → Int} {n a e j : Nat} (hC : Ch c n) (he : e ≤ n) (hj : j < a) (m : Ms) (L : Nat → Int) : lnL L m c a e j = L j := by
  unfold lnL
  by_cases h1 : 0 < m.k
  · rw [if_pos h1]; exact setL_low (by omega)
  rw [if_neg h1]
  by_cases h2 : tmN (ln c a e) (e - a) = 0
  · rw [if_pos h2]
  rw [if_neg h2]
  by_cases h3 : (m.fr && decide (indP (ln c a e) (e - a) = 4)) = true
  · rw [if_pos h3]; exact setL_low (by omega)
  rw [if_neg h3]
  by_cases h4 : opOk (ln c a e) (e - a) = true
  · rw [if_pos h4]; exact setL_low (by omega)
  rw [if_neg h4]
  by_cases h5 : dfP (ln c a e) (e - a) = true
  · rw [if_pos h5]; exact setL_low (by omega)
  rw [if_neg h5]
  exact tx_low (tr_ch hC he) _ _ _ (Nat.le_refl _) hj
theorem mk_low {c : Nat → Int} {n j : Nat} (hC : Ch c n) : ∀ d i m L, n - i ≤ d → j < i → mk c n i m L j = L j
  | 0, i, m, L, hd, hj => by rw [mk_end (by omega)]
  | d + 1, i, m, L, hd, hj => by
    rcases Nat.lt_or_ge i n with h | h
    · have he := lnE_le c h
      rw [mk_one h, mk_low hC d _ _ _ (by omega) (by omega), lnL_low hC he.2 hj]
    · rw [mk_end h]
/-- A line of one sign, so often. -/
def fnR (s : Int) (k : Nat) : List Int := List.replicate k s
theorem fnR_len (s : Int) (k : Nat) : (fnR s k).length = k := List.length_replicate ..
theorem fnR_at {s : Int} {k j : Nat} (h : j < k) : cL (fnR s k ++ [10]) j = s := by
  rw [cL_left _ _ (by rw [fnR_len]; exact h), cL_in (l := fnR s k) (x := s) (by unfold fnR; rw [List.getElem?_replicate, if_pos h])]
theorem fnR_end (s : Int) (k : Nat) : cL (fnR s k ++ [10]) k = 10 := by
  have := cL_right (fnR s k) [10] 0
  rw [fnR_len, Nat.add_zero] at this
  rw [this]
  rfl
def FnS (s : Int) : Prop := s = 96 ∨ s = 126
theorem fn_ind {s : Int} (hs : FnS s) {k : Nat} (hk : 3 ≤ k) : indP (cL (fnR s k ++ [10])) (k + 1) = 0 := by
  have h0 := fnR_at (s := s) (k := k) (j := 0) (by omega)
  have h1 : rwP 32 (cL (fnR s k ++ [10])) (k + 1) = 0 := rwP_zero (by rw [h0]; rcases hs with rfl | rfl <;> decide)
  unfold indP
  rw [h1]
  show (if cL (fnR s k ++ [10]) 0 = 9 then 4 else 0) = 0
  rw [if_neg (by rw [h0]; rcases hs with rfl | rfl <;> decide)]
theorem fn_bd {s : Int} (hs : FnS s) {k : Nat} (hk : 3 ≤ k) : bdC (cL (fnR s k ++ [10])) (k + 1) = cL (fnR s k ++ [10]) ∧ bdN (cL (fnR s k ++ [10])) (k + 1) = k + 1 := by
  have hi := fn_ind hs hk
  constructor
  · unfold bdC
    rw [hi, if_neg (by decide)]
    funext i
    show cL (fnR s k ++ [10]) (0 + i) = _
    rw [Nat.zero_add]
  · unfold bdN
    rw [hi, if_neg (by decide), Nat.sub_zero]
theorem fn_row {s : Int} (hs : FnS s) {k : Nat} : rwP s (cL (fnR s k ++ [10])) (k + 1) = k := rwP_is (by omega) (fun i hi => fnR_at hi) (fun _ => by rw [fnR_end]; rcases hs with rfl | rfl <;> decide)
theorem fn_row2 {s : Int} {k : Nat} : rwP s (cL (fnR s k ++ [10])) k = k := rwP_is (Nat.le_refl _) (fun i hi => fnR_at hi) (fun h => absurd h (Nat.lt_irrefl _))
theorem fn_tm {s : Int} (hs : FnS s) {k : Nat} (hk : 3 ≤ k) : tmN (cL (fnR s k ++ [10])) (k + 1) = k := by
  show (if blB (cL (fnR s k ++ [10]) k) = true then tmN (cL (fnR s k ++ [10])) k else k + 1) = k
  rw [fnR_end, if_pos (show blB 10 = true from rfl)]
  obtain ⟨j, rfl⟩ : ∃ j, k = j + 1 := ⟨k - 1, by omega⟩
  show (if blB (cL (fnR s (j + 1) ++ [10]) j) = true then tmN (cL (fnR s (j + 1) ++ [10])) j else j + 1) = j + 1
  rw [fnR_at (by omega), if_neg (by rcases hs with rfl | rfl <;> decide)]
theorem fn_open {s : Int} (hs : FnS s) {k : Nat} (hk : 3 ≤ k) : opOk (cL (fnR s k ++ [10])) (k + 1) = true ∧ opS (cL (fnR s k ++ [10])) (k + 1) = s ∧ opK (cL (fnR s k ++ [10])) (k + 1) = k := by
  have hb := fn_bd hs hk
  have h0 := fnR_at (s := s) (k := k) (j := 0) (by omega)
  have hS : opS (cL (fnR s k ++ [10])) (k + 1) = s := by unfold opS; rw [hb.1, h0]
  have hK : opK (cL (fnR s k ++ [10])) (k + 1) = k := by unfold opK; rw [hb.1, hb.2, h0]; exact fn_row hs
  refine ⟨?_, hS, hK⟩
  unfold opOk
  rw [hb.1, hb.2, h0, fn_row hs, decide_eq_true (by omega), decide_eq_true hk]
  rcases hs with rfl | rfl
  · have hn : no96 (cL (fnR 96 k ++ [10])) (k + 1) k = true := by
      unfold no96
      rw [decide_eq_true_eq]
      exact fs_is (by omega) (Nat.le_refl _) (fun j h1 h2 => by obtain rfl : j = k := by omega
                                                                rw [fnR_end]; rfl) (fun h => absurd h (Nat.lt_irrefl _))
    rw [hn]
    rfl
  · rfl
theorem fn_close {s : Int} (hs : FnS s) {k : Nat} (hk : 3 ≤ k) : clP s k (cL (fnR s k ++ [10])) (k + 1) = true := by
  have hb := fn_bd hs hk
  unfold clP
  rw [hb.1, hb.2, fn_tm hs hk, fn_row2, decide_eq_true (Nat.le_refl _), decide_eq_true rfl]
  rfl
/-- What has no such sign closes nothing. -/
theorem cl_no {s : Int} {k : Nat} (hk : 0 < k) {d : Nat → Int} {n : Nat} (h : ∀ j, j < n → d j ≠ s) : clP s k d n = false := by
  unfold clP
  rw [Bool.and_eq_false_iff]
  by_cases h1 : k ≤ tmN (bdC d n) (bdN d n)
  · right
    rw [decide_eq_false_iff_not]
    intro h2
    have h3 : bdC d n 0 = s := rwP_in (s := s) (c := bdC d n) (n := tmN (bdC d n) (bdN d n)) (by omega)
    have h4 := tmN_le (bdC d n) (bdN d n)
    unfold bdC at h3
    unfold bdN at h4
    by_cases h5 : indP d n = 4
    · rw [if_pos h5] at h4; unfold bdN at h1; rw [if_pos h5] at h1; omega
    · rw [if_neg h5] at h3 h4
      have h6 := indP_le h5
      unfold bdN at h1
      rw [if_neg h5] at h1
      exact h (indP d n) (by omega) h3
  · left
    exact decide_eq_false h1
theorem setL_join (L : Nat → Int) (l : Int) {a b e : Nat} (h1 : a ≤ b) (h2 : b ≤ e) : setL (setL L l (a : Int) (b : Int)) l (b : Int) (e : Int) = setL L l (a : Int) (e : Int) := by
  funext i
  unfold setL
  by_cases g1 : (b : Int) ≤ (i : Int) ∧ (i : Int) < (e : Int)
  · rw [if_pos g1, if_pos (by omega)]
  · rw [if_neg g1]
    by_cases g2 : (a : Int) ≤ (i : Int) ∧ (i : Int) < (b : Int)
    · rw [if_pos g2, if_pos (by omega)]
    · rw [if_neg g2, if_neg (by omega)]
/-- Within a fence. -/
theorem mk_in {c : Nat → Int} {n e : Nat} {s : Int} {k : Nat} (hk : 0 < k) (he : e ≤ n) : ∀ d p L, e - p ≤ d → p ≤ e → (p < e → c (e - 1) = 10) → (∀ j, p ≤ j → j < e → c j ≠ s) → mk c n p ⟨s, k, false⟩ L = mk c n e ⟨s, k, false⟩ (setL L 4 (p : Int) (e : Int))
  | 0, p, L, hd, hp, h10, h => by
    obtain rfl : p = e := by omega
    congr 1
    funext i
    exact (setL_none L 4 p p (Int.le_refl _) i).symm
  | d + 1, p, L, hd, hp, h10, h => by
    rcases Nat.lt_or_ge p e with hlt | hge
    · have hE := lnE_le c (n := n) (i := p) (by omega)
      have hE2 : lnE c n p ≤ e := by
        have h1 : fs (fun j => c j == 10) n p ≤ e - 1 := by
          rcases Nat.lt_or_ge (e - 1) (fs (fun j => c j == 10) n p) with h2 | h2
          · have := fs_before (P := fun j => c j == 10) (n := n) (i := p) (k := e - 1) (by omega) h2
            rw [h10 hlt] at this
            exact absurd this (by decide)
          · exact h2
        unfold lnE
        rw [if_pos (by omega)]
        omega
      have hcl : clP s k (ln c p (lnE c n p)) (lnE c n p - p) = false := cl_no hk fun j hj => by
        rw [ln_in hj]
        exact h (p + j) (by omega) (by omega)
      have hst : stM ⟨s, k, false⟩ (ln c p (lnE c n p)) (lnE c n p - p) = ⟨s, k, false⟩ := by
        unfold stM
        rw [if_pos hk, hcl]
        rfl
      have hL : lnL L ⟨s, k, false⟩ c p (lnE c n p) = setL L 4 (p : Int) ((lnE c n p : Nat) : Int) := by
        unfold lnL
        rw [if_pos hk]
      rw [mk_one (by omega), hst, hL, mk_in hk he d (lnE c n p) _ (by omega) hE2 (fun _ => h10 hlt) (fun j h1 h2 => h j (by omega) h2), setL_join L 4 (by omega) hE2]
    · obtain rfl : p = e := by omega
      congr 1
      funext i
      exact (setL_none L 4 p p (Int.le_refl _) i).symm
/-- A first line of one letter. -/
theorem mk_first {x : Int} (hx : plB x = true) (hxb : 0 ≤ x ∧ x < 256) (hx2 : x ≠ 32 ∧ x ≠ 45 ∧ x ≠ 10 ∧ blB x = false) {z : List Int} (hz : Byt z) : mkA (cL ([x] ++ [10] ++ z)) ([x] ++ [10] ++ z).length = mk (cL ([x] ++ [10] ++ z)) ([x] ++ [10] ++ z).length 2 ⟨0, 0, false⟩ (fun _ => 1) := by
  have hb : Byt ([x] ++ [10] ++ z) := fun a ha => by
    simp only [List.mem_append, List.mem_singleton] at ha
    rcases ha with (rfl | rfl) | h
    · exact hxb
    · decide
    · exact hz a h
  have hC := cL_ch hb
  have hf : frP (cL ([x] ++ [10] ++ z)) ([x] ++ [10] ++ z).length = 0 := fr_none (by simp) hx2.2.1
  have hL : setL (fun _ => (1 : Int)) 4 0 ((0 : Nat) : Int) = fun _ => 1 := funext fun i => setL_none _ 4 0 _ (by simp) i
  have hE := lnE_at (A := []) (l := [x]) (z := z) (by simp; exact hx2.2.2.1)
  have hl := ln_at [] ([x] ++ [10]) z
  rw [List.nil_append, List.length_nil, Nat.zero_add] at hE hl
  have hE' : lnE (cL ([x] ++ [10] ++ z)) ([x] ++ [10] ++ z).length 0 = 2 := hE
  have hl' : ln (cL ([x] ++ [10] ++ z)) 0 2 = cL ([x] ++ [10]) := hl
  have hd0 : cL ([x] ++ [10]) 0 = x := rfl
  have hrw : rwP 32 (cL ([x] ++ [10])) 2 = 0 := rwP_zero (by rw [hd0]; exact hx2.1)
  have hpx := plB_ne hx
  have hi0 : indP (cL ([x] ++ [10])) 2 = 0 := by
    unfold indP
    rw [hrw]
    show (if x = 9 then 4 else 0) = 0
    rw [if_neg hpx.1]
  have hbc : bdC (cL ([x] ++ [10])) 2 0 = x := by
    unfold bdC
    rw [hi0, if_neg (by decide)]
    rfl
  have ho : opOk (cL ([x] ++ [10])) 2 = false := by
    unfold opOk
    rw [hbc, show (x == 126) = false by simpa using hpx.2.2.2.2.2.2, show (x == 96) = false by simpa using hpx.2.2.2.2.2.1]
    simp
  have hdf : dfP (cL ([x] ++ [10])) 2 = false := by
    unfold dfP
    rw [hbc, show (x == 91) = false by simpa using hpx.2.2.1]
    simp
  have htm : tmN (cL ([x] ++ [10])) 2 ≠ 0 := by
    show (if blB 10 = true then (if blB x = true then 0 else 0 + 1) else 1 + 1) ≠ 0
    rw [if_pos (show blB 10 = true from rfl), hx2.2.2.2]
    decide
  have htx : tx (tr (cL ([x] ++ [10] ++ z)) 2) 2 0 (fun _ => 1) = fun _ => 1 := by
    have hC2 := tr_ch hC (m := 2) (by simp)
    have := tx_skip hC2 (fun _ => 1) 2 0 2 (by omega) (by omega) (by omega) (fun j _ hj => by
      rw [tr_in hj]
      rcases (show j = 0 ∨ j = 1 by omega) with rfl | rfl
      · show pxB x = true
        unfold pxB
        simp [hpx]
      · rfl)
    rw [this, tx_end (Nat.le_refl _)]
  unfold mkA
  rw [hf, hL, mk_one (by simp), hE', hl']
  have hst : stM ⟨0, 0, true⟩ (cL ([x] ++ [10])) (2 - 0) = ⟨0, 0, false⟩ := by
    unfold stM
    rw [if_neg (by decide), if_neg htm, Nat.sub_zero, hi0, ho]
    rfl
  have hlL : lnL (fun _ => 1) ⟨0, 0, true⟩ (cL ([x] ++ [10] ++ z)) 0 2 = fun _ => 1 := by
    unfold lnL
    rw [if_neg (by decide), hl', if_neg htm, Nat.sub_zero, hi0, ho, hdf, htx]
    rfl
  rw [hst, hlL]
/-- The text. -/
def fnH (s : Int) (k : Nat) (cl : List Int) : List Int := [120] ++ [10] ++ (fnR s k ++ [10] ++ (cl ++ [10] ++ (fnR s k ++ [10])))
def fnE (k m : Nat) : Nat := 2 + (k + 1) + (m + 1) + (k + 1)
theorem fnH_len (s : Int) (k : Nat) (cl : List Int) : (fnH s k cl).length = fnE k cl.length := by
  unfold fnH fnE
  simp only [List.length_append, fnR_len, List.length_cons, List.length_nil]
  omega
theorem fence_mk {s : Int} (hs : FnS s) {k : Nat} (hk : 3 ≤ k) {cl be : List Int} (hcb : Byt cl) (hc : ∀ x ∈ cl, x ≠ s) (hbb : Byt be) :
    mkA (cL (fnH s k cl ++ be)) (fnH s k cl ++ be).length = mk (cL (fnH s k cl ++ be)) (fnH s k cl ++ be).length (fnE k cl.length) ⟨0, 0, false⟩ (setL (fun _ => 1) 4 2 ((fnE k cl.length : Nat) : Int)) := by
  have hsb : 0 ≤ s ∧ s < 256 := by rcases hs with rfl | rfl <;> decide
  have hs10 : s ≠ 10 := by rcases hs with rfl | rfl <;> decide
  have hR10 : ∀ x ∈ fnR s k, x ≠ 10 := fun x hx => by rw [List.eq_of_mem_replicate hx]; exact hs10
  have e1 : fnH s k cl ++ be = [120] ++ [10] ++ (fnR s k ++ [10] ++ (cl ++ [10] ++ (fnR s k ++ [10] ++ be))) := by simp [fnH]
  have e2 : fnH s k cl ++ be = [120, 10] ++ ((fnR s k ++ [10]) ++ (cl ++ [10] ++ (fnR s k ++ [10] ++ be))) := by simp [fnH]
  have e3 : fnH s k cl ++ be = ([120, 10] ++ (fnR s k ++ [10])) ++ ((cl ++ [10]) ++ (fnR s k ++ [10] ++ be)) := by simp [fnH]
  have e4 : fnH s k cl ++ be = ([120, 10] ++ (fnR s k ++ [10]) ++ (cl ++ [10])) ++ ((fnR s k ++ [10]) ++ be) := by simp [fnH]
  have hlen : (fnH s k cl ++ be).length = fnE k cl.length + be.length := by rw [List.length_append, fnH_len]
  have hRb : Byt (fnR s k) := fun x hx => by rw [List.eq_of_mem_replicate hx]; exact hsb
  have hzb : Byt (fnR s k ++ [10] ++ (cl ++ [10] ++ (fnR s k ++ [10] ++ be))) := fun x hx => by
    simp only [List.mem_append, List.mem_singleton] at hx
    rcases hx with (h | rfl) | (h | rfl) | (h | rfl) | h
    · exact hRb x h
    · decide
    · exact hcb x h
    · decide
    · exact hRb x h
    · decide
    · exact hbb x h
  have h1 := mk_first (x := 120) rfl (by decide) (by decide) hzb
  rw [← e1] at h1
  rw [h1]
  have hE : fnE k cl.length = 2 + (k + 1) + (cl.length + 1) + (k + 1) := rfl
  -- the line that opens
  have a1 := lnE_at (A := [120, 10]) (l := fnR s k) (z := cl ++ [10] ++ (fnR s k ++ [10] ++ be)) hR10
  rw [← e2, fnR_len] at a1
  have a2 := ln_at [120, 10] (fnR s k ++ [10]) (cl ++ [10] ++ (fnR s k ++ [10] ++ be))
  rw [← e2, show (fnR s k ++ [(10 : Int)]).length = k + 1 by rw [List.length_append, fnR_len]; rfl] at a2
  have a1' : lnE (cL (fnH s k cl ++ be)) (fnH s k cl ++ be).length 2 = 2 + (k + 1) := a1
  have a2' : ln (cL (fnH s k cl ++ be)) 2 (2 + (k + 1)) = cL (fnR s k ++ [10]) := a2
  have ho := fn_open hs hk
  have htm := fn_tm hs hk
  rw [mk_one (by omega), a1', a2', show 2 + (k + 1) - 2 = k + 1 by omega]
  have hst : stM ⟨0, 0, false⟩ (cL (fnR s k ++ [10])) (k + 1) = ⟨s, k, false⟩ := by
    unfold stM
    rw [if_neg (by decide), htm, if_neg (by omega), ho.1, ho.2.1, ho.2.2]
    rfl
  have hL : lnL (fun _ => 1) ⟨0, 0, false⟩ (cL (fnH s k cl ++ be)) 2 (2 + (k + 1)) = setL (fun _ => 1) 4 ((2 : Nat) : Int) ((2 + (k + 1) : Nat) : Int) := by
    unfold lnL
    rw [if_neg (by decide), a2', show 2 + (k + 1) - 2 = k + 1 by omega, htm, if_neg (by omega), ho.1]
    rfl
  rw [hst, hL]
  -- what lies within
  have s1 := seg_at (P := fun a => a ≠ s) ([120, 10] ++ (fnR s k ++ [10])) (cl ++ [10]) (fnR s k ++ [10] ++ be) (fun a ha => by
    rcases List.mem_append.1 ha with h | h
    · exact hc a h
    · rw [List.mem_singleton] at h; subst h; exact hs10.symm)
  have f3 : ([120, 10] ++ (fnR s k ++ [10]) : List Int).length = 2 + (k + 1) := by rw [List.length_append, List.length_append, fnR_len]; rfl
  have f3' : (cl ++ [10]).length = cl.length + 1 := by rw [List.length_append]; rfl
  rw [← e3, f3, f3'] at s1
  have f4 : ([120, 10] ++ (fnR s k ++ [10]) ++ (cl ++ [10]) : List Int).length = 2 + (k + 1) + (cl.length + 1) := by rw [List.length_append, f3, f3']
  have s10 : cL (fnH s k cl ++ be) (2 + (k + 1) + (cl.length + 1) - 1) = 10 := by
    have := cL_right ([120, 10] ++ (fnR s k ++ [10]) ++ cl) ([10] ++ (fnR s k ++ [10] ++ be)) 0
    rw [Nat.add_zero] at this
    have e5 : ([120, 10] ++ (fnR s k ++ [10]) ++ cl) ++ ([10] ++ (fnR s k ++ [10] ++ be)) = fnH s k cl ++ be := by simp [fnH]
    rw [e5, List.length_append, f3] at this
    rw [show 2 + (k + 1) + (cl.length + 1) - 1 = 2 + (k + 1) + cl.length by omega, this]
    rfl
  rw [mk_in (e := 2 + (k + 1) + (cl.length + 1)) (by omega) (by omega) _ _ _ (Nat.le_refl _) (by omega) (fun _ => s10) s1, setL_join _ 4 (by omega) (by omega)]
  -- the line that closes
  have b1 := lnE_at (A := [120, 10] ++ (fnR s k ++ [10]) ++ (cl ++ [10])) (l := fnR s k) (z := be) hR10
  rw [← e4, fnR_len, f4] at b1
  have b2 := ln_at ([120, 10] ++ (fnR s k ++ [10]) ++ (cl ++ [10])) (fnR s k ++ [10]) be
  rw [← e4, show (fnR s k ++ [(10 : Int)]).length = k + 1 by rw [List.length_append, fnR_len]; rfl, f4] at b2
  rw [mk_one (by omega), b1, b2, show 2 + (k + 1) + (cl.length + 1) + (k + 1) - (2 + (k + 1) + (cl.length + 1)) = k + 1 by omega]
  have hst2 : stM ⟨s, k, false⟩ (cL (fnR s k ++ [10])) (k + 1) = ⟨0, 0, false⟩ := by
    unfold stM
    rw [if_pos (show 0 < k by omega), fn_close hs hk]
    rfl
  have hL2 : ∀ L, lnL L ⟨s, k, false⟩ (cL (fnH s k cl ++ be)) (2 + (k + 1) + (cl.length + 1)) (2 + (k + 1) + (cl.length + 1) + (k + 1)) = setL L 4 ((2 + (k + 1) + (cl.length + 1) : Nat) : Int) ((2 + (k + 1) + (cl.length + 1) + (k + 1) : Nat) : Int) := fun L => by
    unfold lnL
    rw [if_pos (show 0 < k by omega)]
  rw [hst2, hL2, setL_join _ 4 (by omega) (by omega)]
  rfl
theorem fence_at {s : Int} (hs : FnS s) {k : Nat} (hk : 3 ≤ k) {cl be : List Int} (hcb : Byt cl) (hc : ∀ x ∈ cl, x ≠ s) (hbb : Byt be) :
    (∀ i, i < 2 → mkA (cL (fnH s k cl ++ be)) (fnH s k cl ++ be).length i = 1) ∧ (∀ i, 2 ≤ i → i < fnE k cl.length → mkA (cL (fnH s k cl ++ be)) (fnH s k cl ++ be).length i = 4) ∧ ∀ i, mkA (cL (fnH s k cl ++ be)) (fnH s k cl ++ be).length (fnE k cl.length + i) = mk (cL be) be.length 0 ⟨0, 0, false⟩ (fun _ => 1) i := by
  have hsb : 0 ≤ s ∧ s < 256 := by rcases hs with rfl | rfl <;> decide
  have hC : Ch (cL (fnH s k cl ++ be)) (fnH s k cl ++ be).length := cL_ch fun x hx => by
    unfold fnH at hx
    simp only [List.mem_append, List.mem_singleton] at hx
    rcases hx with ((rfl | rfl) | ((h | rfl) | ((h | rfl) | (h | rfl)))) | h
    · decide
    · decide
    · rw [List.eq_of_mem_replicate h]; exact hsb
    · decide
    · exact hcb x h
    · decide
    · rw [List.eq_of_mem_replicate h]; exact hsb
    · decide
    · exact hbb x h
  have hE2 : 2 ≤ fnE k cl.length := by unfold fnE; omega
  rw [fence_mk hs hk hcb hc hbb]
  refine ⟨fun i hi => ?_, fun i h1 h2 => ?_, fun i => ?_⟩
  · rw [mk_low hC _ _ _ _ (Nat.le_refl _) (by omega)]
    exact setL_low (by omega)
  · rw [mk_low hC _ _ _ _ (Nat.le_refl _) h2]
    unfold setL
    rw [if_pos (by omega)]
  · have hlen : (fnH s k cl ++ be).length = fnE k cl.length + be.length := by rw [List.length_append, fnH_len]
    have hsf : sf (cL (fnH s k cl ++ be)) (fnE k cl.length) = cL be := by
      funext j
      show cL (fnH s k cl ++ be) (fnE k cl.length + j) = cL be j
      rw [← fnH_len s k cl]
      exact cL_right _ _ j
    have hLS : LS (fnE k cl.length) (setL (fun _ => 1) 4 2 ((fnE k cl.length : Nat) : Int)) (fun _ => 1) := fun j => by
      unfold setL
      rw [if_neg (by omega)]
    have := mk_sh (cL (fnH s k cl ++ be)) (fnE k cl.length) be.length 0 ⟨0, 0, false⟩ hLS
    rw [hsf, ← hlen, Nat.add_zero] at this
    exact this i
theorem plain_at {be : List Int} (hbb : Byt be) (i : Nat) : mkA (cL ([121] ++ [10] ++ be)) ([121] ++ [10] ++ be).length (2 + i) = mk (cL be) be.length 0 ⟨0, 0, false⟩ (fun _ => 1) i := by
  rw [mk_first (x := 121) rfl (by decide) (by decide) hbb]
  have hlen : ([121] ++ [10] ++ be : List Int).length = 2 + be.length := by simp; omega
  have hsf : sf (cL ([121] ++ [10] ++ be)) 2 = cL be := funext fun j => cL_right ([121] ++ [10]) be j
  have := mk_sh (cL ([121] ++ [10] ++ be)) 2 be.length 0 ⟨0, 0, false⟩ (M := fun _ => 1) (L := fun _ => 1) (fun _ => rfl)
  rw [hsf, ← hlen, Nat.add_zero] at this
  exact this i
end Go.Proofs.YtodjfeheagnnpaaDoor
