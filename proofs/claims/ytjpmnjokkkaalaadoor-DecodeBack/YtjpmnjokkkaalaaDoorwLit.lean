/- decode.Literal, of signs of which the last lies in the bytes. -/
import Derived.Test.YtjpmnjokkkaalaaDoorwTxt
import Derived.Test.YtjpmnjokkkaalaaDoorwUni
import Derived.Test.YtjpmnjokkkaalaaDoorvLt
namespace Go.Proofs.YtjpmnjokkkaalaaDoor
set_option linter.unusedVariables false
open Go.RowKit Go.ChangeShapes
set_option maxRecDepth 100000 in
set_option maxHeartbeats 4000000 in
theorem lit_any {w : World} {ad : Option Addr} {n cap : Nat} {c : Nat → Int} (hC : ∀ j, j < n → 0 ≤ c j ∧ c j < 256) (hb : BC w ad n c) (hcap : n ≤ cap) (hn : n ≤ 100000) (hbig : cap ≤ 9223372036854775807)
    {v : Value} {l : List U3} (h : US w v l) (hk : l.length ≤ 5000) (hl : ∀ u ∈ l, -1000000 ≤ u.a ∧ u.a ≤ 1000000 ∧ -1000000 ≤ u.n ∧ u.n ≤ 1000000) (hlast : ∀ y, l[l.length - 1]? = some y → inB y.a y.n n = true) :
    Calls Tryd.prog 20 #[.slice ad n cap, v] w fun e w' => e = .returned (.bool (litB c n l)) ∧ Below w.heap.size w w' := by
  have HV : Hid (US w v l) := h
  have CT2 : Hid (∀ w', Up w.heap.size w w' → Calls Tryd.prog 18 #[v] w' fun e w'' => e = .returned (.string (strOfNums (tU l))) ∧ Up w.heap.size w w'') := fun w' hw' => (text_any (h.stay hw'.1) hk).mono fun e w'' he => ⟨he.1, hw'.stay he.2⟩
  obtain ⟨A, C, rfl, hCk, hh⟩ := h
  by_cases h0 : l = []
  · subst h0
    clear hh CT2 hb hC hl HV hlast
    go_enter Tryd.func20, Tryd.ntmps20
    go_wp2
    go_ret
    exact ⟨rfl, Below.refl _ _⟩
  · have hp : 0 < l.length := List.length_pos_iff.2 h0
    obtain ⟨x, hx⟩ : ∃ x, l[0]? = some x := ⟨_, List.getElem?_eq_getElem hp⟩
    obtain ⟨y, hy⟩ : ∃ y, l[l.length - 1]? = some y := ⟨_, List.getElem?_eq_getElem (by omega)⟩
    obtain ⟨b, off, rfl, hbl, a1, a2, a3⟩ := hh 0 x hx
    obtain ⟨b', off', e, hbl', b1, b2, b3⟩ := hh (l.length - 1) y hy
    injection e with e
    injection e with e1 e2 _
    subst e1 e2
    have bx := hl x (List.mem_of_getElem? hx)
    have by' := hl y (List.mem_of_getElem? hy)
    have hin := hlast y hy
    rw [lit_is hx hy]
    obtain ⟨k, hke⟩ : ∃ k, l.length = k + 1 := ⟨l.length - 1, by omega⟩
    rw [hke] at hCk hk CT2 HV ⊢
    rw [hke, show k + 1 - 1 = k by omega] at b1 b2 b3
    rw [Nat.zero_mul, Nat.add_zero] at a1 a2 a3
    obtain ⟨xa, hxa⟩ : ∃ q, x.a = q := ⟨_, rfl⟩
    obtain ⟨ya, hya⟩ : ∃ q, y.a = q := ⟨_, rfl⟩
    obtain ⟨yn, hyn⟩ : ∃ q, y.n = q := ⟨_, rfl⟩
    rw [hxa, hya, hyn]
    rw [hya, hyn] at hin
    rw [hxa] at a2 bx
    rw [hya] at b2 by'
    rw [hyn] at b3 by'
    have z1 : (((k + 1 : Nat) : Int) == 0) = false := beq_eq_false_iff_ne.2 (by omega)
    have z2 : ((k + 1 : Nat) : Int) - 1 = (k : Int) := by omega
    have z3 : (0 : Int) < ((k + 1 : Nat) : Int) := by omega
    have z4 : (k : Int) < ((k + 1 : Nat) : Int) := by omega
    have z5 : (0 : Int) ≤ (k : Int) := by omega
    obtain ⟨RB, hRB⟩ : ∃ q, (decide (0 ≤ xa) && decide (xa ≤ ya + yn) && decide (ya + yn ≤ (n : Int)) && (cl (fun j => c (xa.toNat + j)) (ya + yn - xa).toNat == tU l)) = q := ⟨_, rfl⟩
    rw [hRB]
    have HRB : Hid ((decide (0 ≤ xa) && decide (xa ≤ ya + yn) && decide (ya + yn ≤ (n : Int)) && (cl (fun j => c (xa.toNat + j)) (ya + yn - xa).toNat == tU l)) = RB) := hRB
    clear hh h0 hx hy hxa hya hyn hl a1 b1 a3 hRB hlast
    go_enter Tryd.func20, Tryd.ntmps20
    go_upto_region 3 with fail
    go_region
    obtain ⟨V, hV⟩ : ∃ V, (w.alloc (Obj.cells #[.int .i64 ya, .int .i64 yn] 35)).drew = V := ⟨_, rfl⟩
    rw [hV]
    have hbV : Below w.heap.size w V := by rw [← hV]; exact (below_alloc w _).drew
    have hV0 : V.heap[w.heap.size]? = some (.cells #[.int .i64 ya, .int .i64 yn] 35) := by rw [← hV]; exact heap_alloc_new _ _
    have d0 : V.cell? ⟨w.heap.size, 0, none⟩ = some (.int .i64 ya) := by simp [World.cell?, hV0]
    have d1 : V.cell? ⟨w.heap.size, 1, none⟩ = some (.int .i64 yn) := by simp [World.cell?, hV0]
    have cch0 := check_any ya yn n (by omega) V
    rw [hin] at cch0
    have cch : Calls Tryd.prog 35 #[.agg #[.int .i64 ya, .int .i64 yn], .int .i64 n] V fun e w' => e = .returned (.int .i64 0) ∧ Below V.heap.size V w' := cch0
    obtain ⟨DD, hDD⟩ : ∃ DD, w.heap.size = DD := ⟨_, rfl⟩
    have HBV : Hid (Below w.heap.size w V) := hbV
    rw [hDD] at d0 d1
    clear cch0 hV hbV hV0
    (try rw [hDD])
    go_wp2_with fail
    refine cch.mono ?_
    rintro e w1 ⟨rfl, hb1⟩
    have f0 := cell_stay d0 hb1
    have f1 := cell_stay d1 hb1
    have HB1 : Hid (Up w.heap.size w w1) := ⟨HBV.out.trans (hb1.mono HBV.out.size), Nat.le_trans HBV.out.size hb1.size⟩
    have CT3 : Hid (∀ w', Up w1.heap.size w1 w' → Calls Tryd.prog 18 #[.slice (some ⟨b, off, none⟩) (k + 1) C] w' fun e w'' => e = .returned (.string (strOfNums (tU l))) ∧ Up w1.heap.size w1 w'') := fun w' hw' =>
      (text_any (HV.out.stay (HB1.out.stay hw'.1).1) (by omega)).mono fun e w'' he => ⟨he.1, hw'.stay he.2⟩
    have hb' : BC w1 ad n c := hb.stay HB1.out.1
    clear cch d0 d1 hb1 CT2 hb
    have hin4 : 0 ≤ ya ∧ 0 ≤ yn ∧ ya ≤ (n : Int) ∧ yn ≤ (n : Int) - ya := by
      unfold inB at hin
      simpa [and_assoc] using hin
    clear hin a2 b2 b3
    by_cases t1 : 0 ≤ xa
    · obtain ⟨tq, htq⟩ : ∃ q, ya + yn = q := ⟨_, rfl⟩
      by_cases t2 : xa ≤ tq
      · obtain ⟨X, rfl⟩ : ∃ X : Nat, xa = (X : Int) := ⟨xa.toNat, by omega⟩
        obtain ⟨T, rfl⟩ : ∃ T : Nat, tq = (T : Int) := ⟨tq.toNat, by omega⟩
        have hXT : X ≤ T := by omega
        have hTn : T ≤ n := by omega
        have y3 : (T : Int) ≤ (cap : Int) := by omega
        obtain ⟨N, hN⟩ : ∃ N, strOfNums (tU l) = N := ⟨_, rfl⟩
        have CT4 : Hid (∀ w', Up w1.heap.size w1 w' → Calls Tryd.prog 18 #[.slice (some ⟨b, off, none⟩) (k + 1) C] w' fun e w'' => e = .returned (.string N) ∧ Up w1.heap.size w1 w'') := fun w' hw' => by rw [← hN]; exact CT3.out w' hw'
        rcases Nat.lt_or_ge X n with hXn | hXn
        · obtain ⟨b2, o2, rfl, -⟩ := hb' X hXn
          have hfr := (BC.from hb' X (by omega) hcap).upto (m := T - X) (by omega)
          rw [if_neg (by omega)] at hfr
          have HCV : ∀ w', Up w1.heap.size w1 w' → (convert 22 9 (.slice (some ⟨b2, o2 + X, none⟩) (T - X) (cap - X))).run Tryd.prog w' = .ok (.string (strOfNums (cl (fun j => c (X + j)) (T - X)))) w' := fun w' hw' => str_bc (cap := cap - X) (hfr.stay hw'.1)
          have heq : ((strOfNums (cl (fun j => c (X + j)) (T - X))).toList == N.toList) = (cl (fun j => c (X + j)) (T - X) == tU l) := by
            rw [← hN, nums_beq (cl_byt2 fun j hj => hC (X + j) (by omega)) (tU_byt l)]
          obtain ⟨G, hG⟩ : ∃ G, strOfNums (cl (fun j => c (X + j)) (T - X)) = G := ⟨_, rfl⟩
          rw [hG] at HCV heq
          obtain ⟨g, hg⟩ : ∃ g, (cl (fun j => c (X + j)) (T - X) == tU l) = g := ⟨_, rfl⟩
          rw [hg] at heq
          have HF : Hid ((decide (0 ≤ (X : Int)) && decide ((X : Int) ≤ (T : Int)) && decide ((T : Int) ≤ (n : Int)) && (cl (fun j => c ((X : Int).toNat + j)) ((T : Int) - (X : Int)).toNat == tU l)) = g) := by
            show _ = _
            rw [show (X : Int).toNat = X by omega, show ((T : Int) - (X : Int)).toNat = T - X by omega, hg]
            simp [hXT, hTn]
          have HEQ : Hid ((G.toList == N.toList) = g) := heq
          have HRG : Hid (RB = g) := by show _ = _; have q := HRB.out; rw [htq] at q; rw [← q]; exact HF.out
          have hcx : ¬ cap = X := by omega
          clear hfr hG hg hN hb' hC CT3 heq
          go_upto_region 7 with fail
          clear f0 f1
          go_region_held3 (fun w' => Up w1.heap.size w1 w') (first | assumption | exact (Up.refl w1).drew | exact (Up.refl w1).drew.1 | exact (Up.refl w1).drew.2) (first | (go_at_call 18; refine (CT4.out _ (by first | assumption | exact (Up.refl w1).drew | exact (Up.refl w1))).mono ?_; rintro e w' ⟨rfl, hw'⟩))
          all_goals
            go_wp2
            go_ret
            exact ⟨by rw [HRG.out, ← HEQ.out]; rfl, by first | exact (HB1.out.stay (And.left ‹Up w1.heap.size w1 _›)).1 | exact (HB1.out.stay (And.left ‹Up w1.heap.size w1 _›).drew).1⟩
        · obtain rfl : X = n := by omega
          obtain rfl : T = X := by omega
          have HCV : ∀ (w' : World) (a' : Option Addr) (cc : Nat), (convert 22 9 (.slice a' 0 cc)).run Tryd.prog w' = .ok (.string ⟨#[]⟩) w' := fun w' a' cc => str_bc (cap := cc) (BC.zero w' a' (fun _ => 0))
          have heq : ((⟨#[]⟩ : ByteArray).toList == N.toList) = ([] == tU l) := by
            rw [← hN, show (⟨#[]⟩ : ByteArray) = strOfNums [] from rfl, nums_beq (fun x hx => by cases hx) (tU_byt l)]
          obtain ⟨g, hg⟩ : ∃ g, (([] : List Int) == tU l) = g := ⟨_, rfl⟩
          rw [hg] at heq
          have HF : Hid ((decide (0 ≤ (T : Int)) && decide ((T : Int) ≤ (T : Int)) && decide ((T : Int) ≤ (T : Int)) && (cl (fun j => c ((T : Int).toNat + j)) ((T : Int) - (T : Int)).toNat == tU l)) = g) := by
            show _ = _
            rw [show ((T : Int) - (T : Int)).toNat = 0 by omega, ← hg]
            simp [cl]
          have hnil : (⟨#[]⟩ : ByteArray).toList = [] := by kernel_rfl
          have HEQ : Hid (N.toList.isEmpty = g) := by
            show _ = _
            rw [← heq, hnil]
            cases N.toList <;> rfl
          clear hnil
          have HRG : Hid (RB = g) := by show _ = _; have q := HRB.out; rw [htq] at q; rw [← q]; exact HF.out
          clear hg hN hb' hC CT3 heq
          by_cases hct : cap = T
          · go_upto_region 7 with fail
            clear f0 f1
            go_region_held3 (fun w' => Up w1.heap.size w1 w') (first | assumption | exact (Up.refl w1).drew | exact (Up.refl w1).drew.1 | exact (Up.refl w1).drew.2) (first | (go_at_call 18; refine (CT4.out _ (by first | assumption | exact (Up.refl w1).drew | exact (Up.refl w1))).mono ?_; rintro e w' ⟨rfl, hw'⟩))
            all_goals
              go_wp2
              go_ret
              exact ⟨by rw [HRG.out, ← HEQ.out]; rfl, by first | exact (HB1.out.stay (And.left ‹Up w1.heap.size w1 _›)).1 | exact (HB1.out.stay (And.left ‹Up w1.heap.size w1 _›).drew).1⟩
          · go_upto_region 7 with fail
            clear f0 f1
            go_region_held3 (fun w' => Up w1.heap.size w1 w') (first | assumption | exact (Up.refl w1).drew | exact (Up.refl w1).drew.1 | exact (Up.refl w1).drew.2) (first | (go_at_call 18; refine (CT4.out _ (by first | assumption | exact (Up.refl w1).drew | exact (Up.refl w1))).mono ?_; rintro e w' ⟨rfl, hw'⟩))
            all_goals
              go_wp2
              go_ret
              exact ⟨by rw [HRG.out, ← HEQ.out]; rfl, by first | exact (HB1.out.stay (And.left ‹Up w1.heap.size w1 _›)).1 | exact (HB1.out.stay (And.left ‹Up w1.heap.size w1 _›).drew).1⟩
      · have u2 : decide (xa ≤ tq) = false := by simp; omega
        go_upto_region 7 with fail
        go_quiet (fail)
        go_wp2
        go_ret
        exact ⟨by rw [← HRB.out, htq, u2]; simp, (HB1.out.stay (below_drewN (Below.refl _ _) _)).1⟩
    · have u1 : decide (0 ≤ xa) = false := by simp; omega
      go_upto_region 7 with fail
      go_quiet (fail)
      go_wp2
      go_ret
      exact ⟨by rw [← HRB.out, u1]; rfl, (HB1.out.stay (below_drewN (Below.refl _ _) _)).1⟩
end Go.Proofs.YtjpmnjokkkaalaaDoor
