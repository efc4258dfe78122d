/- The reference: whether signs stand literally. -/
import Derived.Test.YtbhjkkbempnjeaaDoorvTu
namespace Go.Proofs.YtbhjkkbempnjeaaDoor
set_option linter.unusedVariables false
open Go.RowKit Go.ChangeShapes
/-- Are the bytes from a place up to another one just the text of signs? -/
def litB (c : Nat → Int) (n : Nat) (l : List U3) : Bool := match l with
  | [] => true
  | x :: t => decide (0 ≤ x.a) && decide (x.a ≤ ((x :: t).getLastD x).a + ((x :: t).getLastD x).n) && decide (((x :: t).getLastD x).a + ((x :: t).getLastD x).n ≤ (n : Int)) && (cl (fun j => c (x.a.toNat + j)) (((x :: t).getLastD x).a + ((x :: t).getLastD x).n - x.a).toNat == tU (x :: t))
theorem lit_is {c : Nat → Int} {n : Nat} {l : List U3} {x y : U3} (h0 : l[0]? = some x) (h1 : l[l.length - 1]? = some y) : litB c n l = (decide (0 ≤ x.a) && decide (x.a ≤ y.a + y.n) && decide (y.a + y.n ≤ (n : Int)) && (cl (fun j => c (x.a.toNat + j)) (y.a + y.n - x.a).toNat == tU l)) := by
  cases l with
  | nil => simp at h0
  | cons z t =>
    obtain rfl : z = x := by simpa using h0
    have hy : (z :: t).getLastD z = y := by
      rw [List.getLastD_eq_getLast?, List.getLast?_eq_getElem?, h1]
      rfl
    show (decide _ && decide (z.a ≤ ((z :: t).getLastD z).a + ((z :: t).getLastD z).n) && _ && _) = _
    rw [hy]
theorem enc_byt (r : Int) : Byt (enc r) := by
  intro x hx
  unfold enc at hx
  by_cases ho : okR r = false
  · rw [if_pos ho] at hx; cases hx
  · have hr := (okR_iff r).1 (by simpa using ho)
    rw [if_neg ho] at hx
    repeat' split at hx
    all_goals (simp at hx; omega)
theorem tU_byt (l : List U3) : Byt (tU l) := fun x hx => by
  obtain ⟨u, _, h⟩ := List.mem_flatMap.1 hx
  exact enc_byt u.r x h
set_option maxRecDepth 100000 in
set_option maxHeartbeats 2000000 in
theorem rlit_any {w : World} {ad : Option Addr} {n cap : Nat} {c : Nat → Int} (hC : ∀ j, j < n → 0 ≤ c j ∧ c j < 256) (hb : BC w ad n c) (hcap : n ≤ cap) (hn : n ≤ 100000) (hbig : cap ≤ 9223372036854775807)
    {v : Value} {l : List U3} (h : US w v l) (hk : l.length ≤ 5000) (hl : ∀ u ∈ l, -1000000 ≤ u.a ∧ u.a ≤ 1000000 ∧ -1000000 ≤ u.n ∧ u.n ≤ 1000000) :
    Calls Tryd.prog 35 #[.slice ad n cap, v] w fun e w' => e = .returned (.bool (litB c n l)) ∧ Below w.heap.size w w' := by
  have CT : Hid (∀ q : Nat, Calls Tryd.prog 34 #[v] (w.drewN q) fun e w' => e = .returned (.string (strOfNums (tU l))) ∧ Below (w.drewN q).heap.size (w.drewN q) w') := fun q => rtextU_any (h.stay (below_drewN (Below.refl _ _) q)) hk
  have CT2 : Hid (∀ w', Up w.heap.size w w' → Calls Tryd.prog 34 #[v] w' fun e w'' => e = .returned (.string (strOfNums (tU l))) ∧ Up w.heap.size w w'') := fun w' hw' => (rtextU_any (h.stay hw'.1) hk).mono fun e w'' he => ⟨he.1, hw'.stay he.2⟩
  obtain ⟨A, C, rfl, hCk, hh⟩ := h
  by_cases h0 : l = []
  · subst h0
    clear hh CT CT2 hb hC hl
    go_enter Tryd.func35, Tryd.ntmps35
    go_wp2
    go_ret
    exact ⟨rfl, Below.refl _ _⟩
  · have hp : 0 < l.length := List.length_pos_iff.2 h0
    obtain ⟨x, hx⟩ : ∃ x, l[0]? = some x := ⟨_, List.getElem?_eq_getElem hp⟩
    obtain ⟨y, hy⟩ : ∃ y, l[l.length - 1]? = some y := ⟨_, List.getElem?_eq_getElem (by omega)⟩
    obtain ⟨b, off, rfl, hbl, a1, a2, a3⟩ := hh 0 x hx
    obtain ⟨b', off', e, hbl', b1, b2, b3⟩ := hh (l.length - 1) y hy
    injection e with e
    injection e with e1 e2 _
    subst e1 e2
    have bx := hl x (List.mem_of_getElem? hx)
    have by' := hl y (List.mem_of_getElem? hy)
    rw [lit_is hx hy]
    obtain ⟨k, hke⟩ : ∃ k, l.length = k + 1 := ⟨l.length - 1, by omega⟩
    rw [hke] at hCk hk CT CT2 ⊢
    rw [hke, show k + 1 - 1 = k by omega] at b1 b2 b3
    rw [Nat.zero_mul, Nat.add_zero] at a1 a2 a3
    obtain ⟨xa, hxa⟩ : ∃ q, x.a = q := ⟨_, rfl⟩
    obtain ⟨ya, hya⟩ : ∃ q, y.a = q := ⟨_, rfl⟩
    obtain ⟨yn, hyn⟩ : ∃ q, y.n = q := ⟨_, rfl⟩
    rw [hxa, hya, hyn]
    rw [hxa] at a2 bx
    rw [hya] at b2 by'
    rw [hyn] at b3 by'
    have z1 : (((k + 1 : Nat) : Int) == 0) = false := beq_eq_false_iff_ne.2 (by omega)
    have z2 : ((k + 1 : Nat) : Int) - 1 = (k : Int) := by omega
    have z3 : (0 : Int) < ((k + 1 : Nat) : Int) := by omega
    have z4 : (k : Int) < ((k + 1 : Nat) : Int) := by omega
    have z5 : (0 : Int) ≤ (k : Int) := by omega
    obtain ⟨RB, hRB⟩ : ∃ q, (decide (0 ≤ xa) && decide (xa ≤ ya + yn) && decide (ya + yn ≤ (n : Int)) && (cl (fun j => c (xa.toNat + j)) (ya + yn - xa).toNat == tU l)) = q := ⟨_, rfl⟩
    rw [hRB]
    have HRB : Hid ((decide (0 ≤ xa) && decide (xa ≤ ya + yn) && decide (ya + yn ≤ (n : Int)) && (cl (fun j => c (xa.toNat + j)) (ya + yn - xa).toNat == tU l)) = RB) := hRB
    clear hh h0 hx hy hxa hya hyn hl a1 b1 a3 hRB
    go_enter Tryd.func35, Tryd.ntmps35
    go_upto_region 4 with fail
    go_quiet (fail)
    by_cases t1 : 0 ≤ xa
    · obtain ⟨tq, htq⟩ : ∃ q, ya + yn = q := ⟨_, rfl⟩
      by_cases t2 : xa ≤ tq
      · by_cases t3 : tq ≤ (n : Int)
        · obtain ⟨X, rfl⟩ : ∃ X : Nat, xa = (X : Int) := ⟨xa.toNat, by omega⟩
          obtain ⟨T, rfl⟩ : ∃ T : Nat, tq = (T : Int) := ⟨tq.toNat, by omega⟩
          have hXT : X ≤ T := by omega
          have hTn : T ≤ n := by omega
          have y3 : (T : Int) ≤ (cap : Int) := by omega
          obtain ⟨N, hN⟩ : ∃ N, strOfNums (tU l) = N := ⟨_, rfl⟩
          have CT2 : Hid (∀ w', Up w.heap.size w w' → Calls Tryd.prog 34 #[.slice (some ⟨b, off, none⟩) (k + 1) C] w' fun e w'' => e = .returned (.string N) ∧ Up w.heap.size w w'') := fun w' hw' => by rw [← hN]; exact CT2.out w' hw'
          rcases Nat.lt_or_ge X n with hXn | hXn
          · obtain ⟨b2, o2, rfl, -⟩ := hb X hXn
            have hfr := (BC.from hb X (by omega) hcap).upto (m := T - X) (by omega)
            rw [if_neg (by omega)] at hfr
            have HCV : ∀ w', Up w.heap.size w w' → (convert 22 9 (.slice (some ⟨b2, o2 + X, none⟩) (T - X) (cap - X))).run Tryd.prog w' = .ok (.string (strOfNums (cl (fun j => c (X + j)) (T - X)))) w' := fun w' hw' => str_bc (cap := cap - X) (hfr.stay hw'.1)
            have heq : ((strOfNums (cl (fun j => c (X + j)) (T - X))).toList == N.toList) = (cl (fun j => c (X + j)) (T - X) == tU l) := by
              rw [← hN, nums_beq (cl_byt2 fun j hj => hC (X + j) (by omega)) (tU_byt l)]
            obtain ⟨G, hG⟩ : ∃ G, strOfNums (cl (fun j => c (X + j)) (T - X)) = G := ⟨_, rfl⟩
            rw [hG] at HCV heq
            obtain ⟨g, hg⟩ : ∃ g, (cl (fun j => c (X + j)) (T - X) == tU l) = g := ⟨_, rfl⟩
            rw [hg] at heq
            have HF : Hid ((decide (0 ≤ (X : Int)) && decide ((X : Int) ≤ (T : Int)) && decide ((T : Int) ≤ (n : Int)) && (cl (fun j => c ((X : Int).toNat + j)) ((T : Int) - (X : Int)).toNat == tU l)) = g) := by
              show _ = _
              rw [show (X : Int).toNat = X by omega, show ((T : Int) - (X : Int)).toNat = T - X by omega, hg]
              simp [hXT, hTn]
            have HEQ : Hid ((G.toList == N.toList) = g) := heq
            have HRG : Hid (RB = g) := by show _ = _; have q := HRB.out; rw [htq] at q; rw [← q]; exact HF.out
            have hcx : ¬ cap = X := by omega
            clear hfr hG hg hN hb hC CT heq
            go_upto_region 5 with fail
            go_region_held3 (fun w' => Up w.heap.size w w') (first | assumption | exact ((Up.refl w).drewN' _).drew | exact ((Up.refl w).drewN' _).drew.1 | exact ((Up.refl w).drewN' _).drew.2) (first | (go_at_call 34; refine (CT2.out _ (by first | assumption | exact ((Up.refl w).drewN' _).drew | exact (Up.refl w).drewN' _)).mono ?_; rintro e w' ⟨rfl, hw'⟩))
            all_goals
              go_wp2
              go_ret
              exact ⟨by rw [HRG.out, ← HEQ.out]; rfl, by first | exact And.left ‹Up w.heap.size w _› | exact (And.left ‹Up w.heap.size w _›).drew⟩
          · obtain rfl : X = n := by omega
            obtain rfl : T = X := by omega
            have HCV : ∀ (w' : World) (a' : Option Addr) (cc : Nat), (convert 22 9 (.slice a' 0 cc)).run Tryd.prog w' = .ok (.string ⟨#[]⟩) w' := fun w' a' cc => str_bc (cap := cc) (BC.zero w' a' (fun _ => 0))
            have heq : ((⟨#[]⟩ : ByteArray).toList == N.toList) = ([] == tU l) := by
              rw [← hN, show (⟨#[]⟩ : ByteArray) = strOfNums [] from rfl, nums_beq (fun x hx => by cases hx) (tU_byt l)]
            obtain ⟨g, hg⟩ : ∃ g, (([] : List Int) == tU l) = g := ⟨_, rfl⟩
            rw [hg] at heq
            have HF : Hid ((decide (0 ≤ (T : Int)) && decide ((T : Int) ≤ (T : Int)) && decide ((T : Int) ≤ (T : Int)) && (cl (fun j => c ((T : Int).toNat + j)) ((T : Int) - (T : Int)).toNat == tU l)) = g) := by
              show _ = _
              rw [show ((T : Int) - (T : Int)).toNat = 0 by omega, ← hg]
              simp [cl]
            have hnil : (⟨#[]⟩ : ByteArray).toList = [] := by kernel_rfl
            have HEQ : Hid (N.toList.isEmpty = g) := by
              show _ = _
              rw [← heq, hnil]
              cases N.toList <;> rfl
            clear hnil
            have HRG : Hid (RB = g) := by show _ = _; have q := HRB.out; rw [htq] at q; rw [← q]; exact HF.out
            clear hg hN hb hC CT heq
            by_cases hct : cap = T
            · go_upto_region 5 with fail
              go_region_held3 (fun w' => Up w.heap.size w w') (first | assumption | exact ((Up.refl w).drewN' _).drew | exact ((Up.refl w).drewN' _).drew.1 | exact ((Up.refl w).drewN' _).drew.2) (first | (go_at_call 34; refine (CT2.out _ (by first | assumption | exact ((Up.refl w).drewN' _).drew | exact (Up.refl w).drewN' _)).mono ?_; rintro e w' ⟨rfl, hw'⟩))
              all_goals
                go_wp2
                go_ret
                exact ⟨by rw [HRG.out, ← HEQ.out]; rfl, by first | exact And.left ‹Up w.heap.size w _› | exact (And.left ‹Up w.heap.size w _›).drew⟩
            · go_upto_region 5 with fail
              go_region_held3 (fun w' => Up w.heap.size w w') (first | assumption | exact ((Up.refl w).drewN' _).drew | exact ((Up.refl w).drewN' _).drew.1 | exact ((Up.refl w).drewN' _).drew.2) (first | (go_at_call 34; refine (CT2.out _ (by first | assumption | exact ((Up.refl w).drewN' _).drew | exact (Up.refl w).drewN' _)).mono ?_; rintro e w' ⟨rfl, hw'⟩))
              all_goals
                go_wp2
                go_ret
                exact ⟨by rw [HRG.out, ← HEQ.out]; rfl, by first | exact And.left ‹Up w.heap.size w _› | exact (And.left ‹Up w.heap.size w _›).drew⟩
        · have u3 : decide (tq ≤ (n : Int)) = false := by simp; omega
          go_upto_region 5 with fail
          go_quiet (fail)
          go_wp2
          go_ret
          exact ⟨by rw [← HRB.out, htq, u3]; simp, below_drewN (Below.refl _ _) _⟩
      · have u2 : decide (xa ≤ tq) = false := by simp; omega
        go_upto_region 5 with fail
        go_quiet (fail)
        go_wp2
        go_ret
        exact ⟨by rw [← HRB.out, htq, u2]; simp, below_drewN (Below.refl _ _) _⟩
    · have u1 : decide (0 ≤ xa) = false := by simp; omega
      go_upto_region 5 with fail
      go_quiet (fail)
      go_wp2
      go_ret
      exact ⟨by rw [← HRB.out, u1]; rfl, below_drewN (Below.refl _ _) _⟩
end Go.Proofs.YtbhjkkbempnjeaaDoor
