/- decode: the sign for which the first bytes stand, if that isn't what they are. -/
import Derived.Test.YtbhjkkbempnjeaaDoorPkXShelfB2
import Derived.Test.YtbhjkkbempnjeaaDoorwEsc
import Derived.Test.YtbhjkkbempnjeaaDoorPkVUn2
import Derived.Lib.SlBytesConst
namespace Go.Proofs.YtbhjkkbempnjeaaDoor
set_option linter.unusedVariables false
open Go.RowKit Go.ChangeShapes
theorem hasS_any {w : World} {ad p2 : Option Addr} {n cap m d : Nat} {c : Nat → Int} {t : List Int} (hC : Ch c n) (h1 : BC w ad n c) (hcap : n ≤ cap) (h2 : BC w p2 m (fun j => t.getD j 0)) (hm : t.length = m) (ht : Byt t) :
    Calls Tryd.prog 66 #[.slice ad n cap, .slice p2 m d] w fun e w' => e = .returned (.bool (oc t c 0)) ∧ w' = w := by
  have := Tryd.bytes_HasPrefix_all ad p2 n cap m d (cl c n) t w (cl_len c n) hm hcap h1.inn (fun hm0 => by
    obtain ⟨b, off, e, hc⟩ := h2.at hm0
    exact ⟨b, off, e, hc⟩)
  rw [pre_oc hC t ht] at this
  exact this
theorem punct_any (X : Nat) (w : World) : Calls Tryd.prog 65 #[.int .u8 (X : Nat)] w fun e w' => e = .returned (.bool (sgB (X : Int))) ∧ w' = w := by
  rcases (show X ≤ 32 ∨ (33 ≤ X ∧ X ≤ 47) ∨ (48 ≤ X ∧ X ≤ 57) ∨ (58 ≤ X ∧ X ≤ 64) ∨ (65 ≤ X ∧ X ≤ 90) ∨ (91 ≤ X ∧ X ≤ 96) ∨ (97 ≤ X ∧ X ≤ 122) ∨ (123 ≤ X ∧ X ≤ 126) ∨ 127 ≤ X by omega) with k | k | k | k | k | k | k | k | k
  · have hs : sgB (X : Int) = false := by
      unfold sgB
      rw [decide_eq_false (show ¬ 33 ≤ (X : Int) by omega), decide_eq_true (show (X : Int) ≤ 126 by omega), decide_eq_false (show ¬ 97 ≤ (X : Int) by omega), decide_eq_true (show (X : Int) ≤ 122 by omega), decide_eq_false (show ¬ 65 ≤ (X : Int) by omega), decide_eq_true (show (X : Int) ≤ 90 by omega), decide_eq_false (show ¬ 48 ≤ (X : Int) by omega), decide_eq_true (show (X : Int) ≤ 57 by omega)]
      rfl
    rw [hs]
    have t0 : ¬ (33 : Int) ≤ (X : Int) := by omega
    have t1 : (X : Int) ≤ 47 := by omega
    have t2 : ¬ (58 : Int) ≤ (X : Int) := by omega
    have t3 : (X : Int) ≤ 64 := by omega
    have t4 : ¬ (91 : Int) ≤ (X : Int) := by omega
    have t5 : (X : Int) ≤ 96 := by omega
    have t6 : ¬ (123 : Int) ≤ (X : Int) := by omega
    have t7 : (X : Int) ≤ 126 := by omega
    clear k hs
    go_enter Tryd.func65, Tryd.ntmps65
    go_wp2
    go_ret
    exact ⟨rfl, rfl⟩
  · have hs : sgB (X : Int) = true := by
      unfold sgB
      rw [decide_eq_true (show 33 ≤ (X : Int) by omega), decide_eq_true (show (X : Int) ≤ 126 by omega), decide_eq_false (show ¬ 97 ≤ (X : Int) by omega), decide_eq_true (show (X : Int) ≤ 122 by omega), decide_eq_false (show ¬ 65 ≤ (X : Int) by omega), decide_eq_true (show (X : Int) ≤ 90 by omega), decide_eq_false (show ¬ 48 ≤ (X : Int) by omega), decide_eq_true (show (X : Int) ≤ 57 by omega)]
      rfl
    rw [hs]
    have t0 : (33 : Int) ≤ (X : Int) := by omega
    have t1 : (X : Int) ≤ 47 := by omega
    have t2 : ¬ (58 : Int) ≤ (X : Int) := by omega
    have t3 : (X : Int) ≤ 64 := by omega
    have t4 : ¬ (91 : Int) ≤ (X : Int) := by omega
    have t5 : (X : Int) ≤ 96 := by omega
    have t6 : ¬ (123 : Int) ≤ (X : Int) := by omega
    have t7 : (X : Int) ≤ 126 := by omega
    clear k hs
    go_enter Tryd.func65, Tryd.ntmps65
    go_wp2
    go_ret
    exact ⟨rfl, rfl⟩
  · have hs : sgB (X : Int) = false := by
      unfold sgB
      rw [decide_eq_true (show 33 ≤ (X : Int) by omega), decide_eq_true (show (X : Int) ≤ 126 by omega), decide_eq_false (show ¬ 97 ≤ (X : Int) by omega), decide_eq_true (show (X : Int) ≤ 122 by omega), decide_eq_false (show ¬ 65 ≤ (X : Int) by omega), decide_eq_true (show (X : Int) ≤ 90 by omega), decide_eq_true (show 48 ≤ (X : Int) by omega), decide_eq_true (show (X : Int) ≤ 57 by omega)]
      rfl
    rw [hs]
    have t0 : (33 : Int) ≤ (X : Int) := by omega
    have t1 : ¬ (X : Int) ≤ 47 := by omega
    have t2 : ¬ (58 : Int) ≤ (X : Int) := by omega
    have t3 : (X : Int) ≤ 64 := by omega
    have t4 : ¬ (91 : Int) ≤ (X : Int) := by omega
    have t5 : (X : Int) ≤ 96 := by omega
    have t6 : ¬ (123 : Int) ≤ (X : Int) := by omega
    have t7 : (X : Int) ≤ 126 := by omega
    clear k hs
    go_enter Tryd.func65, Tryd.ntmps65
    go_wp2
    go_ret
    exact ⟨rfl, rfl⟩
  · have hs : sgB (X : Int) = true := by
      unfold sgB
      rw [decide_eq_true (show 33 ≤ (X : Int) by omega), decide_eq_true (show (X : Int) ≤ 126 by omega), decide_eq_false (show ¬ 97 ≤ (X : Int) by omega), decide_eq_true (show (X : Int) ≤ 122 by omega), decide_eq_false (show ¬ 65 ≤ (X : Int) by omega), decide_eq_true (show (X : Int) ≤ 90 by omega), decide_eq_true (show 48 ≤ (X : Int) by omega), decide_eq_false (show ¬ (X : Int) ≤ 57 by omega)]
      rfl
    rw [hs]
    have t0 : (33 : Int) ≤ (X : Int) := by omega
    have t1 : ¬ (X : Int) ≤ 47 := by omega
    have t2 : (58 : Int) ≤ (X : Int) := by omega
    have t3 : (X : Int) ≤ 64 := by omega
    have t4 : ¬ (91 : Int) ≤ (X : Int) := by omega
    have t5 : (X : Int) ≤ 96 := by omega
    have t6 : ¬ (123 : Int) ≤ (X : Int) := by omega
    have t7 : (X : Int) ≤ 126 := by omega
    clear k hs
    go_enter Tryd.func65, Tryd.ntmps65
    go_wp2
    go_ret
    exact ⟨rfl, rfl⟩
  · have hs : sgB (X : Int) = false := by
      unfold sgB
      rw [decide_eq_true (show 33 ≤ (X : Int) by omega), decide_eq_true (show (X : Int) ≤ 126 by omega), decide_eq_false (show ¬ 97 ≤ (X : Int) by omega), decide_eq_true (show (X : Int) ≤ 122 by omega), decide_eq_true (show 65 ≤ (X : Int) by omega), decide_eq_true (show (X : Int) ≤ 90 by omega), decide_eq_true (show 48 ≤ (X : Int) by omega), decide_eq_false (show ¬ (X : Int) ≤ 57 by omega)]
      rfl
    rw [hs]
    have t0 : (33 : Int) ≤ (X : Int) := by omega
    have t1 : ¬ (X : Int) ≤ 47 := by omega
    have t2 : (58 : Int) ≤ (X : Int) := by omega
    have t3 : ¬ (X : Int) ≤ 64 := by omega
    have t4 : ¬ (91 : Int) ≤ (X : Int) := by omega
    have t5 : (X : Int) ≤ 96 := by omega
    have t6 : ¬ (123 : Int) ≤ (X : Int) := by omega
    have t7 : (X : Int) ≤ 126 := by omega
    clear k hs
    go_enter Tryd.func65, Tryd.ntmps65
    go_wp2
    go_ret
    exact ⟨rfl, rfl⟩
  · have hs : sgB (X : Int) = true := by
      unfold sgB
      rw [decide_eq_true (show 33 ≤ (X : Int) by omega), decide_eq_true (show (X : Int) ≤ 126 by omega), decide_eq_false (show ¬ 97 ≤ (X : Int) by omega), decide_eq_true (show (X : Int) ≤ 122 by omega), decide_eq_true (show 65 ≤ (X : Int) by omega), decide_eq_false (show ¬ (X : Int) ≤ 90 by omega), decide_eq_true (show 48 ≤ (X : Int) by omega), decide_eq_false (show ¬ (X : Int) ≤ 57 by omega)]
      rfl
    rw [hs]
    have t0 : (33 : Int) ≤ (X : Int) := by omega
    have t1 : ¬ (X : Int) ≤ 47 := by omega
    have t2 : (58 : Int) ≤ (X : Int) := by omega
    have t3 : ¬ (X : Int) ≤ 64 := by omega
    have t4 : (91 : Int) ≤ (X : Int) := by omega
    have t5 : (X : Int) ≤ 96 := by omega
    have t6 : ¬ (123 : Int) ≤ (X : Int) := by omega
    have t7 : (X : Int) ≤ 126 := by omega
    clear k hs
    go_enter Tryd.func65, Tryd.ntmps65
    go_wp2
    go_ret
    exact ⟨rfl, rfl⟩
  · have hs : sgB (X : Int) = false := by
      unfold sgB
      rw [decide_eq_true (show 33 ≤ (X : Int) by omega), decide_eq_true (show (X : Int) ≤ 126 by omega), decide_eq_true (show 97 ≤ (X : Int) by omega), decide_eq_true (show (X : Int) ≤ 122 by omega), decide_eq_true (show 65 ≤ (X : Int) by omega), decide_eq_false (show ¬ (X : Int) ≤ 90 by omega), decide_eq_true (show 48 ≤ (X : Int) by omega), decide_eq_false (show ¬ (X : Int) ≤ 57 by omega)]
      rfl
    rw [hs]
    have t0 : (33 : Int) ≤ (X : Int) := by omega
    have t1 : ¬ (X : Int) ≤ 47 := by omega
    have t2 : (58 : Int) ≤ (X : Int) := by omega
    have t3 : ¬ (X : Int) ≤ 64 := by omega
    have t4 : (91 : Int) ≤ (X : Int) := by omega
    have t5 : ¬ (X : Int) ≤ 96 := by omega
    have t6 : ¬ (123 : Int) ≤ (X : Int) := by omega
    have t7 : (X : Int) ≤ 126 := by omega
    clear k hs
    go_enter Tryd.func65, Tryd.ntmps65
    go_wp2
    go_ret
    exact ⟨rfl, rfl⟩
  · have hs : sgB (X : Int) = true := by
      unfold sgB
      rw [decide_eq_true (show 33 ≤ (X : Int) by omega), decide_eq_true (show (X : Int) ≤ 126 by omega), decide_eq_true (show 97 ≤ (X : Int) by omega), decide_eq_false (show ¬ (X : Int) ≤ 122 by omega), decide_eq_true (show 65 ≤ (X : Int) by omega), decide_eq_false (show ¬ (X : Int) ≤ 90 by omega), decide_eq_true (show 48 ≤ (X : Int) by omega), decide_eq_false (show ¬ (X : Int) ≤ 57 by omega)]
      rfl
    rw [hs]
    have t0 : (33 : Int) ≤ (X : Int) := by omega
    have t1 : ¬ (X : Int) ≤ 47 := by omega
    have t2 : (58 : Int) ≤ (X : Int) := by omega
    have t3 : ¬ (X : Int) ≤ 64 := by omega
    have t4 : (91 : Int) ≤ (X : Int) := by omega
    have t5 : ¬ (X : Int) ≤ 96 := by omega
    have t6 : (123 : Int) ≤ (X : Int) := by omega
    have t7 : (X : Int) ≤ 126 := by omega
    clear k hs
    go_enter Tryd.func65, Tryd.ntmps65
    go_wp2
    go_ret
    exact ⟨rfl, rfl⟩
  · have hs : sgB (X : Int) = false := by
      unfold sgB
      rw [decide_eq_true (show 33 ≤ (X : Int) by omega), decide_eq_false (show ¬ (X : Int) ≤ 126 by omega), decide_eq_true (show 97 ≤ (X : Int) by omega), decide_eq_false (show ¬ (X : Int) ≤ 122 by omega), decide_eq_true (show 65 ≤ (X : Int) by omega), decide_eq_false (show ¬ (X : Int) ≤ 90 by omega), decide_eq_true (show 48 ≤ (X : Int) by omega), decide_eq_false (show ¬ (X : Int) ≤ 57 by omega)]
      rfl
    rw [hs]
    have t0 : (33 : Int) ≤ (X : Int) := by omega
    have t1 : ¬ (X : Int) ≤ 47 := by omega
    have t2 : (58 : Int) ≤ (X : Int) := by omega
    have t3 : ¬ (X : Int) ≤ 64 := by omega
    have t4 : (91 : Int) ≤ (X : Int) := by omega
    have t5 : ¬ (X : Int) ≤ 96 := by omega
    have t6 : (123 : Int) ≤ (X : Int) := by omega
    have t7 : ¬ (X : Int) ≤ 126 := by omega
    clear k hs
    go_enter Tryd.func65, Tryd.ntmps65
    go_wp2
    go_ret
    exact ⟨rfl, rfl⟩
/-- The sign for which the first bytes stand. -/
def sp (f l : Int) (c : Nat → Int) (n : Nat) : Option (Int × Nat) :=
  if l = 1 ∧ f = 1 then nv c n
  else if l = 1 ∧ f = 2 then (match nv c n with
    | some x => some x
    | none => if bsB c n = true then some (c 1, 2) else none)
  else if l = 5 ∧ f = 8 then (if dqB c n = true then some (39, 2) else none)
  else if l = 5 ∧ 4 ≤ f ∧ f ≤ 7 then ev f c n
  else none
theorem u1_sp (f l : Int) (c : Nat → Int) (n : Nat) : u1 f l c n = oN (sp f l c n) (nx c n) := by
  by_cases h1 : l = 1
  · subst h1
    by_cases f1 : f = 1
    · subst f1
      simp [u1, sp]
    · by_cases f2 : f = 2
      · subst f2
        cases hv : nv c n with
        | some x => simp [u1, sp, hv, oN]
        | none =>
          by_cases hb : bsB c n = true
          · simp [u1, sp, hv, oN, hb]
          · simp [u1, sp, hv, oN, hb]
      · simp [u1, sp, f1, f2, oN]
  · by_cases h5 : l = 5
    · subst h5
      by_cases f8 : f = 8
      · subst f8
        by_cases hb : dqB c n = true
        · simp [u1, sp, oN, hb]
        · simp [u1, sp, oN, hb]
      · by_cases k : 4 ≤ f ∧ f ≤ 7
        · simp [u1, sp, f8, k]
        · simp [u1, sp, f8, k, oN]
    · simp [u1, sp, h1, h5, oN]
set_option maxRecDepth 100000 in
theorem bslash_any {w : World} {b off n cap : Nat} {c : Nat → Int} (hC : ∀ j, j < n → 0 ≤ c j ∧ c j < 256) (hb : BC w (some ⟨b, off, none⟩) n c) (h0 : 0 < n) :
    Calls Tryd.prog 47 #[.slice (some ⟨b, off, none⟩) n cap] w fun e w' => e = .returned (ans (if bsB c n = true then some (c 1, 2) else none)) ∧ Below w.heap.size w w' := by
  by_cases hn2 : 2 ≤ n
  · obtain ⟨b0, off0, e, hc0⟩ := hb 0 (by omega)
    injection e with e
    injection e with e1 e2 _
    subst e1 e2
    rw [Nat.add_zero] at hc0
    obtain ⟨b1, off1, e, hc1⟩ := hb 1 (by omega)
    injection e with e
    injection e with e1 e2 _
    subst e1 e2
    have g0 : ¬ (n : Int) < 2 := by omega
    have g1 : (0 : Int) < (n : Int) := by omega
    have g2 : (1 : Int) < (n : Int) := by omega
    by_cases h92 : c 0 = 92
    · obtain ⟨X, hX⟩ : ∃ X : Nat, c 1 = (X : Int) := ⟨(c 1).toNat, by have := hC 1 (by omega); omega⟩
      have hX9 : X < 256 := by have := hC 1 (by omega); omega
      have hbs : bsB c n = sgB (X : Int) := by unfold bsB; rw [h92, hX, decide_eq_true hn2]; simp
      rw [hbs, hX]
      rw [h92] at hc0
      rw [hX] at hc1
      have cp := fun w => punct_any X w
      have hw32 : IntKind.i32.wrap (X : Int) = (X : Int) := by rw [IntKind.wrap_i32]; omega
      clear hC hb h92 hX hX9 hbs hn2
      cases hs : sgB (X : Int) with
      | true =>
        rw [hs] at cp
        clear hs
        go_enter Tryd.func47, Tryd.ntmps47
        go_wp2_with (go_at_call 65; refine (cp _).mono ?_; rintro e w' ⟨rfl, rfl⟩)
        refine bodyPost_ret (v := ans (some ((X : Int), 2))) (by simp [results, Tryd.results47, go_sem, ans]) rfl ?_
        exact ⟨rfl, Below.refl _ _⟩
      | false =>
        rw [hs] at cp
        clear hs
        go_enter Tryd.func47, Tryd.ntmps47
        go_wp2_with (go_at_call 65; refine (cp _).mono ?_; rintro e w' ⟨rfl, rfl⟩)
        refine bodyPost_ret (v := ans none) (by simp [results, Tryd.results47, go_sem, ans]) rfl ?_
        exact ⟨rfl, Below.refl _ _⟩
    · have hbs : bsB c n = false := by
        unfold bsB
        have e : (c 0 == 92) = false := beq_eq_false_iff_ne.2 h92
        rw [e]; simp
      have hk : (c 0 != 92) = true := by simpa using h92
      rw [hbs]
      obtain ⟨x, hx⟩ : ∃ x, c 0 = x := ⟨_, rfl⟩
      rw [hx] at hc0 hk
      clear hC hb h92 hx hbs hn2 hc1
      go_enter Tryd.func47, Tryd.ntmps47
      go_wp2
      refine bodyPost_ret (v := ans none) (by simp [results, Tryd.results47, go_sem, ans]) rfl ?_
      exact ⟨rfl, Below.refl _ _⟩
  · have hbs : bsB c n = false := by unfold bsB; rw [decide_eq_false hn2]; rfl
    have g0 : (n : Int) < 2 := by omega
    rw [hbs]
    clear hC hb hbs hn2
    go_enter Tryd.func47, Tryd.ntmps47
    go_wp2
    refine bodyPost_ret (v := ans none) (by simp [results, Tryd.results47, go_sem, ans]) rfl ?_
    exact ⟨rfl, Below.refl _ _⟩
theorem dq_oc {c c' : Nat → Int} {n : Nat} (h : ∀ j, j < n → c' j = c j) (h2 : ∀ j, n ≤ j → c' j = -1) : oc [39, 39] c' 0 = dqB c n := by
  unfold dqB
  show ((c' 0 == 39) && ((c' 1 == 39) && true)) = _
  by_cases hn : 2 ≤ n
  · rw [h 0 (by omega), h 1 (by omega), decide_eq_true hn]; simp
  · rw [decide_eq_false hn, h2 1 (by omega)]; simp
set_option maxRecDepth 100000 in
theorem dbl_any {w : World} {ad : Option Addr} {n cap : Nat} {c : Nat → Int} (hC : ∀ j, j < n → 0 ≤ c j ∧ c j < 256) (hb : BC w ad n c) (hcap : n ≤ cap) :
    Calls Tryd.prog 48 #[.slice ad n cap] w fun e w' => e = .returned (ans (if dqB c n = true then some (39, 2) else none)) ∧ Below w.heap.size w w' := by
  obtain ⟨c', hc'⟩ : ∃ c' : Nat → Int, c' = fun j => if j < n then c j else -1 := ⟨_, rfl⟩
  have hin : ∀ j, j < n → c' j = c j := fun j hj => by rw [hc']; exact if_pos hj
  have hout : ∀ j, n ≤ j → c' j = -1 := fun j hj => by rw [hc']; exact if_neg (by omega)
  have hCh : Ch c' n := ⟨fun j hj => by rw [hin j hj]; exact hC j hj, hout⟩
  have hcA := fun (w' : World) => Go.Lib.run_convert_bytes_const (P := Tryd.prog) w' 22 5 #[.int .u8 39, .int .u8 39] 2 2 Tryd.underlying22 Tryd.underlying5
  obtain ⟨W, hW⟩ : ∃ W, w.alloc (.cells #[.int .u8 39, .int .u8 39] 5 (2, 3)) = W := ⟨_, rfl⟩
  have hL1 : BC W (some ⟨w.heap.size, 0, none⟩) 2 (fun j => [39, 39].getD j 0) := by rw [← hW]; exact lit_bc w [39, 39] (2, 3)
  have hB1 : Below w.heap.size w W := by rw [← hW]; exact below_alloc w _
  have HBW : Hid (Below w.heap.size w W) := hB1
  have hb1 : BC W ad n c' := (hb.stay hB1).congr fun i hi => (hin i hi).symm
  have ct := hasS_any (p2 := some ⟨w.heap.size, 0, none⟩) (m := 2) (d := 2) (t := [39, 39]) hCh hb1 hcap hL1 rfl (byt_lit _ rfl)
  rw [dq_oc hin hout] at ct
  clear hC hb hc' hin hout hCh hL1 hB1 hb1
  cases hd : dqB c n with
  | true =>
    rw [hd] at ct
    clear hd
    go_enter Tryd.func48, Tryd.ntmps48
    go_wp2_with fail
    refine ct.mono ?_
    rintro e w1 ⟨rfl, hw⟩
    subst w1
    go_wp2
    refine bodyPost_ret (v := ans (some (39, 2))) (by simp [results, Tryd.results48, go_sem, ans]) rfl ?_
    exact ⟨rfl, HBW.out⟩
  | false =>
    rw [hd] at ct
    clear hd
    go_enter Tryd.func48, Tryd.ntmps48
    go_wp2_with fail
    refine ct.mono ?_
    rintro e w1 ⟨rfl, hw⟩
    subst w1
    go_wp2
    refine bodyPost_ret (v := ans none) (by simp [results, Tryd.results48, go_sem, ans]) rfl ?_
    exact ⟨rfl, HBW.out⟩
theorem ans_tup (o : Option (Int × Nat)) : ∃ r k q, ans o = .tuple #[.int .i32 r, .int .i64 k, .bool q] := by
  cases o with
  | none => exact ⟨_, _, _, rfl⟩
  | some x => exact ⟨_, _, _, rfl⟩
set_option maxRecDepth 100000 in
set_option maxHeartbeats 4000000 in
theorem special_any {w : World} {b off n cap : Nat} {c : Nat → Int} (hC : ∀ j, j < n → 0 ≤ c j ∧ c j < 256) (hb : BC w (some ⟨b, off, none⟩) n c) (hcap : n ≤ cap) (h0 : 0 < n) (hn : n ≤ 100000) (hbig : cap ≤ 9223372036854775807) (hE : Ers w) (hT : Ent w) (f l : Int) :
    Calls Tryd.prog 32 #[.int .u8 f, .int .u8 l, .slice (some ⟨b, off, none⟩) n cap] w fun e w' => e = .returned (ans (sp f l c n)) ∧ Below w.heap.size w w' := by
  have ce := ent_any hC hb hcap h0 hn hbig hE hT
  have cs := esc_any hC hb hcap hn hbig hE f
  have cd := dbl_any hC hb hcap
  have HH : Hid ((∀ j, j < n → 0 ≤ c j ∧ c j < 256) ∧ BC w (some ⟨b, off, none⟩) n c ∧ 0 < n) := ⟨hC, hb, h0⟩
  clear hC hb hE hT
  obtain ⟨r1, k1, q1, hx⟩ := ans_tup (nv c n)
  obtain ⟨r2, k2, q2, hy⟩ := ans_tup (ev f c n)
  obtain ⟨r3, k3, q3, hz⟩ := ans_tup (if dqB c n = true then some (39, 2) else none)
  by_cases h1 : l = 1
  · subst h1
    by_cases f1 : f = 1
    · subst f1
      have hsp : sp 1 1 c n = nv c n := by unfold sp; rw [if_pos ⟨rfl, rfl⟩]
      rw [hsp, hx]
      rw [hx] at ce
      clear hsp cs cd hx hy hz HH
      go_enter Tryd.func32, Tryd.ntmps32
      go_wp2_with fail
      refine ce.mono ?_
      rintro e w1 ⟨rfl, hb1⟩
      clear ce
      go_wp2
      refine bodyPost_ret (v := .tuple #[.int .i32 r1, .int .i64 k1, .bool q1]) (by simp [results, Tryd.results32, go_sem]) rfl ?_
      exact ⟨rfl, hb1⟩
    · have t1 : (f == 1) = false := beq_eq_false_iff_ne.2 f1
      by_cases f2 : f = 2
      · subst f2
        cases hv : nv c n with
        | some x =>
          have hsp : sp 2 1 c n = some x := by unfold sp; rw [if_neg (by omega), if_pos ⟨rfl, rfl⟩, hv]
          rw [hsp]
          rw [hv] at ce
          have ce' : Calls Tryd.prog 46 #[.slice (some ⟨b, off, none⟩) n cap] w fun e w' => e = .returned (.tuple #[.int .i32 x.1, .int .i64 x.2, .bool true]) ∧ Below w.heap.size w w' := ce
          clear hsp cs cd hx hy hz HH hv ce f1
          go_enter Tryd.func32, Tryd.ntmps32
          go_wp2_with fail
          refine ce'.mono ?_
          rintro e w1 ⟨rfl, hb1⟩
          clear ce'
          go_wp2
          refine bodyPost_ret (v := .tuple #[.int .i32 x.1, .int .i64 x.2, .bool true]) (by simp [results, Tryd.results32, go_sem]) rfl ?_
          exact ⟨rfl, hb1⟩
        | none =>
          have hsp : sp 2 1 c n = if bsB c n = true then some (c 1, 2) else none := by unfold sp; rw [if_neg (by omega), if_pos ⟨rfl, rfl⟩, hv]
          obtain ⟨r4, k4, q4, hu⟩ := ans_tup (if bsB c n = true then some (c 1, 2) else none)
          rw [hsp, hu]
          rw [hv] at ce
          have ce' : Calls Tryd.prog 46 #[.slice (some ⟨b, off, none⟩) n cap] w fun e w' => e = .returned (.tuple #[.int .i32 0, .int .i64 0, .bool false]) ∧ Below w.heap.size w w' := ce
          have HU : Hid (ans (if bsB c n = true then some (c 1, 2) else none) = .tuple #[.int .i32 r4, .int .i64 k4, .bool q4]) := hu
          clear hsp cs cd hx hy hz hv ce f1 hu
          go_enter Tryd.func32, Tryd.ntmps32
          go_wp2_with fail
          refine ce'.mono ?_
          rintro e w1 ⟨rfl, hb1⟩
          have cb := bslash_any (cap := cap) HH.out.1 (HH.out.2.1.stay hb1) HH.out.2.2
          rw [HU.out] at cb
          clear ce'
          go_wp2_with fail
          refine cb.mono ?_
          rintro e w2 ⟨rfl, hb2⟩
          clear cb
          go_wp2
          refine bodyPost_ret (v := .tuple #[.int .i32 r4, .int .i64 k4, .bool q4]) (by simp [results, Tryd.results32, go_sem]) rfl ?_
          exact ⟨rfl, below_trans hb1 hb2⟩
      · have t2 : (f == 2) = false := beq_eq_false_iff_ne.2 f2
        have hsp : sp f 1 c n = none := by unfold sp; rw [if_neg (by omega), if_neg (by omega), if_neg (by omega), if_neg (by omega)]
        rw [hsp]
        clear hsp cs cd ce hx hy hz HH f1 f2
        go_enter Tryd.func32, Tryd.ntmps32
        go_wp2
        refine bodyPost_ret (v := ans none) (by simp [results, Tryd.results32, go_sem, ans]) rfl ?_
        exact ⟨rfl, Below.refl _ _⟩
  · have t0 : (l == 1) = false := beq_eq_false_iff_ne.2 h1
    by_cases h5 : l = 5
    · subst h5
      by_cases f8 : f = 8
      · subst f8
        have hsp : sp 8 5 c n = if dqB c n = true then some (39, 2) else none := by unfold sp; rw [if_neg (by omega), if_neg (by omega), if_pos ⟨rfl, rfl⟩]
        rw [hsp, hz]
        rw [hz] at cd
        clear hsp cs ce hx hy hz HH
        go_enter Tryd.func32, Tryd.ntmps32
        go_wp2_with fail
        refine cd.mono ?_
        rintro e w1 ⟨rfl, hb1⟩
        clear cd
        go_wp2
        refine bodyPost_ret (v := .tuple #[.int .i32 r3, .int .i64 k3, .bool q3]) (by simp [results, Tryd.results32, go_sem]) rfl ?_
        exact ⟨rfl, hb1⟩
      · have t1 : (f == 8) = false := beq_eq_false_iff_ne.2 f8
        by_cases f4 : 4 ≤ f
        · by_cases f7 : f ≤ 7
          · have hsp : sp f 5 c n = ev f c n := by unfold sp; rw [if_neg (by omega), if_neg (by omega), if_neg (by omega), if_pos ⟨rfl, f4, f7⟩]
            rw [hsp, hy]
            rw [hy] at cs
            clear hsp cd ce hx hy hz HH f8
            go_enter Tryd.func32, Tryd.ntmps32
            go_wp2_with fail
            refine cs.mono ?_
            rintro e w1 ⟨rfl, hb1⟩
            clear cs
            go_wp2
            refine bodyPost_ret (v := .tuple #[.int .i32 r2, .int .i64 k2, .bool q2]) (by simp [results, Tryd.results32, go_sem]) rfl ?_
            exact ⟨rfl, hb1⟩
          · have hsp : sp f 5 c n = none := by unfold sp; rw [if_neg (by omega), if_neg (by omega), if_neg (by omega), if_neg (by omega)]
            rw [hsp]
            clear hsp cs cd ce hx hy hz HH f8
            go_enter Tryd.func32, Tryd.ntmps32
            go_wp2
            refine bodyPost_ret (v := ans none) (by simp [results, Tryd.results32, go_sem, ans]) rfl ?_
            exact ⟨rfl, Below.refl _ _⟩
        · have hsp : sp f 5 c n = none := by unfold sp; rw [if_neg (by omega), if_neg (by omega), if_neg (by omega), if_neg (by omega)]
          rw [hsp]
          clear hsp cs cd ce hx hy hz HH f8
          go_enter Tryd.func32, Tryd.ntmps32
          go_wp2
          refine bodyPost_ret (v := ans none) (by simp [results, Tryd.results32, go_sem, ans]) rfl ?_
          exact ⟨rfl, Below.refl _ _⟩
    · have t1 : (l == 5) = false := beq_eq_false_iff_ne.2 h5
      have hsp : sp f l c n = none := by unfold sp; rw [if_neg (by omega), if_neg (by omega), if_neg (by omega), if_neg (by omega)]
      rw [hsp]
      clear hsp cs cd ce hx hy hz HH h1 h5
      go_enter Tryd.func32, Tryd.ntmps32
      go_wp2
      refine bodyPost_ret (v := ans none) (by simp [results, Tryd.results32, go_sem, ans]) rfl ?_
      exact ⟨rfl, Below.refl _ _⟩
end Go.Proofs.YtbhjkkbempnjeaaDoor
