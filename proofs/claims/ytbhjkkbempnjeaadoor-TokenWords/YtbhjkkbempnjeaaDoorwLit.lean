/- decode.Literal, of whatever signs. -/
import Derived.Test.YtbhjkkbempnjeaaDoorwTxt
import Derived.Test.YtbhjkkbempnjeaaDoorwUni
import Derived.Test.YtbhjkkbempnjeaaDoorvLt
import Derived.Lib.MinMax
namespace Go.Proofs.YtbhjkkbempnjeaaDoor
set_option linter.unusedVariables false
open Go.RowKit Go.ChangeShapes
/-- What decode.end answers of a sum, with so many bytes. -/
def enA (t : Int) (n : Nat) : Value := if 0 ≤ t ∧ t ≤ (n : Int) then .tuple #[.int .i64 t, .bool true] else .tuple #[.int .i64 0, .bool false]
set_option maxRecDepth 100000 in
set_option maxHeartbeats 4000000 in
theorem end_any {a m : Int} {n : Nat} (hn : n ≤ 100000) (ha : -1000000 ≤ a ∧ a ≤ 1000000) (hm : -1000000 ≤ m ∧ m ≤ 1000000) (w : World) :
    Calls Tryd.prog 71 #[.agg #[.int .i64 a, .int .i64 m], .int .i64 n] w fun e w' => e = .returned (enA (a + m) n) ∧ Below w.heap.size w w' := by
  have hb : Below w.heap.size w (w.alloc (.cells #[.int .i64 a, .int .i64 m] 43)) := below_alloc w _
  obtain ⟨p, hp⟩ : ∃ p, min a m = p := ⟨_, rfl⟩
  obtain ⟨q, hq⟩ : ∃ q, max a m = q := ⟨_, rfl⟩
  have hpq : p + q = a + m := by omega
  have hle : p ≤ q := by omega
  have hbp : -1000000 ≤ p ∧ p ≤ 1000000 := by omega
  have hbq : -1000000 ≤ q ∧ q ≤ 1000000 := by omega
  obtain ⟨z, hz⟩ : ∃ z, enA (a + m) n = z := ⟨_, rfl⟩
  rw [hz]
  have HZ : Hid (enA (a + m) n = z) := hz
  obtain ⟨N, hN⟩ : ∃ N : Int, (n : Int) = N := ⟨_, rfl⟩
  have HN : Hid ((n : Int) = N) := hN
  have hN0 : 0 ≤ N ∧ N ≤ 100000 := by omega
  rw [hN]
  have HPQ : Hid (p + q = a + m) := hpq
  clear hz hN ha hm
  by_cases h1 : q < 0
  · go_enter Tryd.func71, Tryd.ntmps71
    go_upto_region 1 with fail
    go_region
    go_wp2
    refine bodyPost_ret (v := .tuple #[.int .i64 0, .bool false]) (by simp [results, Tryd.results71, go_sem]) rfl ?_
    exact ⟨by rw [← HZ.out]; unfold enA; rw [if_neg (by have := HPQ.out; have := HN.out; omega)], hb.drew⟩
  · by_cases h2 : p < -q
    · go_enter Tryd.func71, Tryd.ntmps71
      go_upto_region 1 with fail
      go_region
      go_wp2
      refine bodyPost_ret (v := .tuple #[.int .i64 0, .bool false]) (by simp [results, Tryd.results71, go_sem]) rfl ?_
      exact ⟨by rw [← HZ.out]; unfold enA; rw [if_neg (by have := HPQ.out; have := HN.out; omega)], hb.drew⟩
    · by_cases h3 : N - q < p
      · go_enter Tryd.func71, Tryd.ntmps71
        go_upto_region 1 with fail
        go_region
        go_wp2
        refine bodyPost_ret (v := .tuple #[.int .i64 0, .bool false]) (by simp [results, Tryd.results71, go_sem]) rfl ?_
        exact ⟨by rw [← HZ.out]; unfold enA; rw [if_neg (by have := HPQ.out; have := HN.out; omega)], hb.drew⟩
      · go_enter Tryd.func71, Tryd.ntmps71
        go_upto_region 1 with fail
        go_region
        go_wp2
        refine bodyPost_ret (v := .tuple #[.int .i64 (a + m), .bool true]) (by simp [results, Tryd.results71, go_sem]) rfl ?_
        exact ⟨by rw [← HZ.out]; unfold enA; rw [if_pos (by have := HPQ.out; have := HN.out; omega)], hb.drew⟩
set_option maxRecDepth 100000 in
set_option maxHeartbeats 4000000 in
theorem lit_any {w : World} {ad : Option Addr} {n cap : Nat} {c : Nat → Int} (hC : ∀ j, j < n → 0 ≤ c j ∧ c j < 256) (hb : BC w ad n c) (hcap : n ≤ cap) (hn : n ≤ 100000) (hbig : cap ≤ 9223372036854775807)
    {v : Value} {l : List U3} (h : US w v l) (hk : l.length ≤ 5000) (hl : ∀ u ∈ l, -1000000 ≤ u.a ∧ u.a ≤ 1000000 ∧ -1000000 ≤ u.n ∧ u.n ≤ 1000000) :
    Calls Tryd.prog 52 #[.slice ad n cap, v] w fun e w' => e = .returned (.bool (litB c n l)) ∧ Below w.heap.size w w' := by
  have HV : Hid (US w v l) := h
  have CT2 : Hid (∀ w', Up w.heap.size w w' → Calls Tryd.prog 50 #[v] w' fun e w'' => e = .returned (.string (strOfNums (tU l))) ∧ Up w.heap.size w w'') := fun w' hw' => (text_any (h.stay hw'.1) hk).mono fun e w'' he => ⟨he.1, hw'.stay he.2⟩
  obtain ⟨A, C, rfl, hCk, hh⟩ := h
  by_cases h0 : l = []
  · subst h0
    clear hh CT2 hb hC hl HV
    go_enter Tryd.func52, Tryd.ntmps52
    go_wp2
    go_ret
    exact ⟨rfl, Below.refl _ _⟩
  · have hp : 0 < l.length := List.length_pos_iff.2 h0
    obtain ⟨x, hx⟩ : ∃ x, l[0]? = some x := ⟨_, List.getElem?_eq_getElem hp⟩
    obtain ⟨y, hy⟩ : ∃ y, l[l.length - 1]? = some y := ⟨_, List.getElem?_eq_getElem (by omega)⟩
    obtain ⟨b, off, rfl, hbl, a1, a2, a3⟩ := hh 0 x hx
    obtain ⟨b', off', e, hbl', b1, b2, b3⟩ := hh (l.length - 1) y hy
    injection e with e
    injection e with e1 e2 _
    subst e1 e2
    have bx := hl x (List.mem_of_getElem? hx)
    have by' := hl y (List.mem_of_getElem? hy)
    rw [lit_is hx hy]
    obtain ⟨k, hke⟩ : ∃ k, l.length = k + 1 := ⟨l.length - 1, by omega⟩
    rw [hke] at hCk hk CT2 HV ⊢
    rw [hke, show k + 1 - 1 = k by omega] at b1 b2 b3
    rw [Nat.zero_mul, Nat.add_zero] at a1 a2 a3
    obtain ⟨xa, hxa⟩ : ∃ q, x.a = q := ⟨_, rfl⟩
    obtain ⟨ya, hya⟩ : ∃ q, y.a = q := ⟨_, rfl⟩
    obtain ⟨yn, hyn⟩ : ∃ q, y.n = q := ⟨_, rfl⟩
    rw [hxa, hya, hyn]
    rw [hxa] at a2 bx
    rw [hya] at b2 by'
    rw [hyn] at b3 by'
    have z1 : (((k + 1 : Nat) : Int) == 0) = false := beq_eq_false_iff_ne.2 (by omega)
    have z2 : ((k + 1 : Nat) : Int) - 1 = (k : Int) := by omega
    have z3 : (0 : Int) < ((k + 1 : Nat) : Int) := by omega
    have z4 : (k : Int) < ((k + 1 : Nat) : Int) := by omega
    have z5 : (0 : Int) ≤ (k : Int) := by omega
    obtain ⟨RB, hRB⟩ : ∃ q, (decide (0 ≤ xa) && decide (xa ≤ ya + yn) && decide (ya + yn ≤ (n : Int)) && (cl (fun j => c (xa.toNat + j)) (ya + yn - xa).toNat == tU l)) = q := ⟨_, rfl⟩
    rw [hRB]
    have HRB : Hid ((decide (0 ≤ xa) && decide (xa ≤ ya + yn) && decide (ya + yn ≤ (n : Int)) && (cl (fun j => c (xa.toNat + j)) (ya + yn - xa).toNat == tU l)) = RB) := hRB
    clear hh h0 hx hy hxa hya hyn hl a1 b1 a3 hRB
    go_enter Tryd.func52, Tryd.ntmps52
    have ce := end_any hn (a := ya) (m := yn) ⟨by'.1, by'.2.1⟩ by'.2.2 w
    go_wp2_with fail
    refine ce.mono ?_
    rintro e w1 ⟨rfl, hb1⟩
    have HB1 : Hid (Up w.heap.size w w1) := ⟨hb1, hb1.size⟩
    have CT3 : Hid (∀ w', Up w1.heap.size w1 w' → Calls Tryd.prog 50 #[.slice (some ⟨b, off, none⟩) (k + 1) C] w' fun e w'' => e = .returned (.string (strOfNums (tU l))) ∧ Up w1.heap.size w1 w'') := fun w' hw' =>
      (text_any (HV.out.stay (HB1.out.stay hw'.1).1) (by omega)).mono fun e w'' he => ⟨he.1, hw'.stay he.2⟩
    have hb' : BC w1 ad n c := hb.stay HB1.out.1
    clear ce hb1 CT2 hb a2 b2 b3
    obtain ⟨tq, htq⟩ : ∃ q, ya + yn = q := ⟨_, rfl⟩
    rw [htq]
    have HRB2 : Hid ((decide (0 ≤ xa) && decide (xa ≤ tq) && decide (tq ≤ (n : Int)) && (cl (fun j => c (xa.toNat + j)) (tq - xa).toNat == tU l)) = RB) := by rw [← htq]; exact HRB
    clear HRB htq by'
    by_cases t0 : 0 ≤ tq ∧ tq ≤ (n : Int)
    · obtain ⟨t0a, t0b⟩ := t0
      rw [show enA tq n = .tuple #[.int .i64 tq, .bool true] from if_pos ⟨t0a, t0b⟩]
      by_cases t1 : 0 ≤ xa
      · by_cases t2 : xa ≤ tq
        · obtain ⟨X, rfl⟩ : ∃ X : Nat, xa = (X : Int) := ⟨xa.toNat, by omega⟩
          obtain ⟨T, rfl⟩ : ∃ T : Nat, tq = (T : Int) := ⟨tq.toNat, by omega⟩
          have hXT : X ≤ T := by omega
          have hTn : T ≤ n := by omega
          have y3 : (T : Int) ≤ (cap : Int) := by omega
          obtain ⟨N, hN⟩ : ∃ N, strOfNums (tU l) = N := ⟨_, rfl⟩
          have CT4 : Hid (∀ w', Up w1.heap.size w1 w' → Calls Tryd.prog 50 #[.slice (some ⟨b, off, none⟩) (k + 1) C] w' fun e w'' => e = .returned (.string N) ∧ Up w1.heap.size w1 w'') := fun w' hw' => by rw [← hN]; exact CT3.out w' hw'
          rcases Nat.lt_or_ge X n with hXn | hXn
          · obtain ⟨b2, o2, rfl, -⟩ := hb' X hXn
            have hfr := (BC.from hb' X (by omega) hcap).upto (m := T - X) (by omega)
            rw [if_neg (by omega)] at hfr
            have HCV : ∀ w', Up w1.heap.size w1 w' → (convert 22 9 (.slice (some ⟨b2, o2 + X, none⟩) (T - X) (cap - X))).run Tryd.prog w' = .ok (.string (strOfNums (cl (fun j => c (X + j)) (T - X)))) w' := fun w' hw' => str_bc (cap := cap - X) (hfr.stay hw'.1)
            have heq : ((strOfNums (cl (fun j => c (X + j)) (T - X))).toList == N.toList) = (cl (fun j => c (X + j)) (T - X) == tU l) := by
              rw [← hN, nums_beq (cl_byt2 fun j hj => hC (X + j) (by omega)) (tU_byt l)]
            obtain ⟨G, hG⟩ : ∃ G, strOfNums (cl (fun j => c (X + j)) (T - X)) = G := ⟨_, rfl⟩
            rw [hG] at HCV heq
            obtain ⟨g, hg⟩ : ∃ g, (cl (fun j => c (X + j)) (T - X) == tU l) = g := ⟨_, rfl⟩
            rw [hg] at heq
            have HF : Hid ((decide (0 ≤ (X : Int)) && decide ((X : Int) ≤ (T : Int)) && decide ((T : Int) ≤ (n : Int)) && (cl (fun j => c ((X : Int).toNat + j)) ((T : Int) - (X : Int)).toNat == tU l)) = g) := by
              show _ = _
              rw [show (X : Int).toNat = X by omega, show ((T : Int) - (X : Int)).toNat = T - X by omega, hg]
              simp [hXT, hTn]
            have HEQ : Hid ((G.toList == N.toList) = g) := heq
            have HRG : Hid (RB = g) := by show _ = _; rw [← HRB2.out]; exact HF.out
            have hcx : ¬ cap = X := by omega
            clear hfr hG hg hN hb' hC CT3 heq
            go_upto_region 5 with fail
            go_region_held3 (fun w' => Up w1.heap.size w1 w') (first | assumption | exact (Up.refl w1).drew | exact (Up.refl w1).drew.1 | exact (Up.refl w1).drew.2) (first | (go_at_call 50; refine (CT4.out _ (by first | assumption | exact (Up.refl w1).drew | exact (Up.refl w1))).mono ?_; rintro e w' ⟨rfl, hw'⟩))
            all_goals
              go_wp2
              go_ret
              exact ⟨by rw [HRG.out, ← HEQ.out]; rfl, by first | exact (HB1.out.stay (And.left ‹Up w1.heap.size w1 _›)).1 | exact (HB1.out.stay (And.left ‹Up w1.heap.size w1 _›).drew).1⟩
          · obtain rfl : X = n := by omega
            obtain rfl : T = X := by omega
            have HCV : ∀ (w' : World) (a' : Option Addr) (cc : Nat), (convert 22 9 (.slice a' 0 cc)).run Tryd.prog w' = .ok (.string ⟨#[]⟩) w' := fun w' a' cc => str_bc (cap := cc) (BC.zero w' a' (fun _ => 0))
            have heq : ((⟨#[]⟩ : ByteArray).toList == N.toList) = ([] == tU l) := by
              rw [← hN, show (⟨#[]⟩ : ByteArray) = strOfNums [] from rfl, nums_beq (fun x hx => by cases hx) (tU_byt l)]
            obtain ⟨g, hg⟩ : ∃ g, (([] : List Int) == tU l) = g := ⟨_, rfl⟩
            rw [hg] at heq
            have HF : Hid ((decide (0 ≤ (T : Int)) && decide ((T : Int) ≤ (T : Int)) && decide ((T : Int) ≤ (T : Int)) && (cl (fun j => c ((T : Int).toNat + j)) ((T : Int) - (T : Int)).toNat == tU l)) = g) := by
              show _ = _
              rw [show ((T : Int) - (T : Int)).toNat = 0 by omega, ← hg]
              simp [cl]
            have hnil : (⟨#[]⟩ : ByteArray).toList = [] := by kernel_rfl
            have HEQ : Hid (N.toList.isEmpty = g) := by
              show _ = _
              rw [← heq, hnil]
              cases N.toList <;> rfl
            clear hnil
            have HRG : Hid (RB = g) := by show _ = _; rw [← HRB2.out]; exact HF.out
            clear hg hN hb' hC CT3 heq
            by_cases hct : cap = T
            · go_upto_region 5 with fail
              go_region_held3 (fun w' => Up w1.heap.size w1 w') (first | assumption | exact (Up.refl w1).drew | exact (Up.refl w1).drew.1 | exact (Up.refl w1).drew.2) (first | (go_at_call 50; refine (CT4.out _ (by first | assumption | exact (Up.refl w1).drew | exact (Up.refl w1))).mono ?_; rintro e w' ⟨rfl, hw'⟩))
              all_goals
                go_wp2
                go_ret
                exact ⟨by rw [HRG.out, ← HEQ.out]; rfl, by first | exact (HB1.out.stay (And.left ‹Up w1.heap.size w1 _›)).1 | exact (HB1.out.stay (And.left ‹Up w1.heap.size w1 _›).drew).1⟩
            · go_upto_region 5 with fail
              go_region_held3 (fun w' => Up w1.heap.size w1 w') (first | assumption | exact (Up.refl w1).drew | exact (Up.refl w1).drew.1 | exact (Up.refl w1).drew.2) (first | (go_at_call 50; refine (CT4.out _ (by first | assumption | exact (Up.refl w1).drew | exact (Up.refl w1))).mono ?_; rintro e w' ⟨rfl, hw'⟩))
              all_goals
                go_wp2
                go_ret
                exact ⟨by rw [HRG.out, ← HEQ.out]; rfl, by first | exact (HB1.out.stay (And.left ‹Up w1.heap.size w1 _›)).1 | exact (HB1.out.stay (And.left ‹Up w1.heap.size w1 _›).drew).1⟩
        · have u2 : decide (xa ≤ tq) = false := by simp; omega
          go_upto_region 5 with fail
          go_quiet (fail)
          go_wp2
          go_ret
          exact ⟨by rw [← HRB2.out, u2]; simp, (HB1.out.stay (below_drewN (Below.refl _ _) _)).1⟩
      · have u1 : decide (0 ≤ xa) = false := by simp; omega
        go_upto_region 5 with fail
        go_quiet (fail)
        go_wp2
        go_ret
        exact ⟨by rw [← HRB2.out, u1]; rfl, (HB1.out.stay (below_drewN (Below.refl _ _) _)).1⟩
    · have HRF : Hid (RB = false) := by
        show _ = _
        rw [← HRB2.out]
        by_cases u1 : 0 ≤ xa
        · by_cases u2 : xa ≤ tq
          · have u3 : decide (tq ≤ (n : Int)) = false := by simp; omega
            rw [u3]
            simp
          · have u3 : decide (xa ≤ tq) = false := by simp; omega
            rw [u3]
            simp
        · have u3 : decide (0 ≤ xa) = false := by simp; omega
          rw [u3]
          rfl
      rw [show enA tq n = .tuple #[.int .i64 0, .bool false] from if_neg t0]
      clear HRB2 CT3 hb' hC
      go_upto_region 5 with fail
      go_quiet (fail)
      go_wp2
      go_ret
      exact ⟨by rw [HRF.out]; rfl, (HB1.out.stay (below_drewN (Below.refl _ _) _)).1⟩
end Go.Proofs.YtbhjkkbempnjeaaDoor
