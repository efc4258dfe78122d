/- internal/strconv.ParseUint at base ten and sixteen, 32 bits. -/
import Derived.Test.YtbhjkkbempnjeaaDoorPkVRa3
import Derived.Lib.ConvBytes
namespace Go.Proofs.YtbhjkkbempnjeaaDoor
set_option linter.unusedVariables false
open Go.RowKit Go.ChangeShapes
theorem convB_bc (w : World) (t : List Int) (ht : Byt t) : BC (Lib.bytesWorld w 5 (strOfNums t)) (some ⟨w.heap.size, 0, none⟩) t.length (cL t) := fun i hi => by
  refine ⟨_, _, rfl, ?_⟩
  rw [Nat.zero_add, Lib.bytesWorld_cell w 5 (strOfNums t) i (by rw [strOfNums_size]; exact hi), strOfNums_data]
  have hb := (cL_ch ht).1 i hi
  have e : (t.map fun x => UInt8.ofNat x.toNat).getD i 0 = UInt8.ofNat (cL t i).toNat := by
    rw [List.getD_eq_getElem?_getD, List.getElem?_map]
    have h1 : (cl (cL t) t.length)[i]? = some (cL t i) := cl_at _ _ _ hi
    rw [cl_cL] at h1
    rw [h1]
    rfl
  rw [e, UInt8.toNat_ofNat', Nat.mod_eq_of_lt (by omega)]
  congr 2
  omega
theorem convB_below (w : World) (s : ByteArray) : Below w.heap.size w (Lib.bytesWorld w 5 s) :=
  ⟨rfl, rfl, rfl, by rw [Lib.bytesWorld_size]; omega, fun k hk => Lib.bytesWorld_at_old w 5 s k hk⟩
theorem low_tab : (List.range 256).all (fun X => let v := bits .or .u8 (X : Int) 32; decide (0 ≤ v) && decide (v ≤ 255) && (if 97 ≤ X ∧ X ≤ 122 then v == (X : Int) else if 65 ≤ X ∧ X ≤ 90 then v == (X : Int) + 32 else decide (v < 97) || decide (122 < v))) = true := by kernel_rfl
theorem low_at {X : Nat} (h : X < 256) {v : Int} (hv : bits .or .u8 (X : Int) 32 = v) : 0 ≤ v ∧ v ≤ 255 ∧ ((97 ≤ X ∧ X ≤ 122) → v = (X : Int)) ∧ ((65 ≤ X ∧ X ≤ 90) → v = (X : Int) + 32) ∧ (¬ (97 ≤ X ∧ X ≤ 122) → ¬ (65 ≤ X ∧ X ≤ 90) → v < 97 ∨ 122 < v) := by
  have h1 := List.all_eq_true.1 low_tab X (List.mem_range.2 h)
  simp only [hv, Bool.and_eq_true, decide_eq_true_eq] at h1
  obtain ⟨⟨h2, h3⟩, h4⟩ := h1
  refine ⟨h2, h3, fun k => ?_, fun k => ?_, fun k1 k2 => ?_⟩
  · rw [if_pos k] at h4; exact beq_iff_eq.1 h4
  · rw [if_neg (by omega), if_pos k] at h4; exact beq_iff_eq.1 h4
  · rw [if_neg k1, if_neg k2, Bool.or_eq_true, decide_eq_true_eq, decide_eq_true_eq] at h4; exact h4
theorem lower_any (x v : Int) (hv : bits .or .u8 x 32 = v) (w : World) : Calls Tryd.prog 85 #[.int .u8 x] w fun e w' => e = .returned (.int .u8 v) ∧ w' = w := by
  subst hv
  go_enter Tryd.func85, Tryd.ntmps85
  go_wp2
  go_ret
  exact ⟨rfl, rfl⟩
/-- What ParseUint answers: the number and no error, or an error of the number 1 or 2. -/
def PuQ (o : Option Int) (w : World) (e : Ending) (w' : World) : Prop := Below w.heap.size w w' ∧ match o with
  | some n => e = .returned (.tuple #[.int .u64 n, .nilIface])
  | none => ∃ v k : Int, (k = 1 ∨ k = 2) ∧ e = .returned (.tuple #[.int .u64 v, .iface 115 (.int .i64 k)])
theorem PuQ.yes {o : Option Int} {w w' : World} {n : Int} (hb : Below w.heap.size w w') (h : o = some n) : PuQ o w (.returned (.tuple #[.int .u64 n, .nilIface])) w' := by
  subst h
  exact ⟨hb, rfl⟩
theorem PuQ.no {o : Option Int} {w w' : World} {v k : Int} (hb : Below w.heap.size w w') (h : o = none) (hk : k = 1 ∨ k = 2) : PuQ o w (.returned (.tuple #[.int .u64 v, .iface 115 (.int .i64 k)])) w' := by
  subst h
  exact ⟨hb, v, k, hk, rfl⟩
set_option maxRecDepth 100000 in
set_option maxHeartbeats 16000000 in
theorem iparse10 {m : List Int} (hm : Byt m) (hn : m.length ≤ 100000) {s : ByteArray} (hs : strOfNums m = s) (w : World) :
    Calls Tryd.prog 83 #[.string s, .int .i64 10, .int .i64 32] w fun e w' => PuQ (pU 10 m) w e w' := by
  by_cases h0 : m = []
  · subst h0
    have hs0 : s = ⟨#[]⟩ := hs.symm
    subst hs0
    have hq : ∀ w', w' = w → PuQ (pU 10 []) w (.returned (.tuple #[.int .u64 0, .iface 115 (.int .i64 2)])) w' := fun w' e => by subst e; exact PuQ.no (Below.refl _ _) rfl (Or.inr rfl)
    obtain ⟨Q, hQ⟩ : ∃ Q, PuQ (pU 10 []) w = Q := ⟨_, rfl⟩
    rw [hQ] at hq ⊢
    have HQ : Hid (∀ w', w' = w → Q (.returned (.tuple #[.int .u64 0, .iface 115 (.int .i64 2)])) w') := hq
    clear hQ hs hq
    go_enter Tryd.func83, Tryd.ntmps83
    go_wp2
    exact HQ.out _ rfl
  · have hlen : 0 < m.length := by
      cases m with
      | nil => exact absurd rfl h0
      | cons x l => simp
    have hss : s.size = m.length := by rw [← hs, strOfNums_size]
    have hemp : s.toList.isEmpty = false := by
      rw [← decide_eq_emptyBytes]
      refine decide_eq_false (fun h => ?_)
      have h2 : s.size = 0 := (congrArg ByteArray.size h).trans rfl
      omega
    have hcv := Lib.run_convert_string_bytes (P := Tryd.prog) w 9 22 5 s (u := .string) Tryd.underlying9 Tryd.underlying22 Tryd.underlying5
    have hbc := convB_bc w m hm
    rw [hs] at hbc
    have hbw := convB_below w s
    have hC := cL_ch hm
    obtain ⟨c, hc⟩ : ∃ c, cL m = c := ⟨_, rfl⟩
    have hpu : pU 10 m = pG 10 (cl (fun k => c (0 + k)) (m.length - 0)) 0 := by rw [← hc, ← pU_cl hlen, cl_cL]
    rw [hc] at hbc hC
    obtain ⟨R, hR⟩ : ∃ R, pU 10 m = R := ⟨_, rfl⟩
    obtain ⟨n, hnn⟩ : ∃ n, m.length = n := ⟨_, rfl⟩
    rw [hnn] at hbc hC hpu hss hn hlen
    have HR0 : Hid (pG 10 (cl (fun k => c (0 + k)) (n - 0)) 0 = R) := by show _ = _; rw [← hR, hpu]
    rw [hR]
    generalize grownCap w s.size 0 5 = gc at hcv
    generalize Lib.bytesWorld w 5 s = W1 at hcv hbc hbw
    have HB : Hid (BC W1 (some ⟨w.heap.size, 0, none⟩) n c ∧ Ch c n) := ⟨hbc, hC⟩
    obtain ⟨Q, hQ⟩ : ∃ Q, PuQ R w = Q := ⟨_, rfl⟩
    have hyes : ∀ x : Int, R = some x → Q (.returned (.tuple #[.int .u64 x, .nilIface])) W1 := fun x h => by rw [← hQ]; exact PuQ.yes hbw h
    have hno2 : R = none → Q (.returned (.tuple #[.int .u64 0, .iface 115 (.int .i64 2)])) W1 := fun h => by rw [← hQ]; exact PuQ.no hbw h (Or.inr rfl)
    have hno1 : R = none → Q (.returned (.tuple #[.int .u64 4294967295, .iface 115 (.int .i64 1)])) W1 := fun h => by rw [← hQ]; exact PuQ.no hbw h (Or.inl rfl)
    rw [hQ]
    have HQ : Hid ((∀ x : Int, R = some x → Q (.returned (.tuple #[.int .u64 x, .nilIface])) W1) ∧ (R = none → Q (.returned (.tuple #[.int .u64 0, .iface 115 (.int .i64 2)])) W1) ∧ (R = none → Q (.returned (.tuple #[.int .u64 4294967295, .iface 115 (.int .i64 1)])) W1)) := ⟨hyes, hno2, hno1⟩
    have hmv : IntKind.u64.wrap (IntKind.u64.wrap 4294967296 - 1) = 4294967295 := by rw [IntKind.wrap_u64, IntKind.wrap_u64]; decide
    have sz1 : s.size ≤ n := by omega
    have sz2 : n ≤ s.size := by omega
    clear hpu hR h0 hyes hno1 hno2 hQ hbc hC hc hss hnn hs hm hlen hbw
    go_enter Tryd.func83, Tryd.ntmps83
    go_wp2
    go_loopg [12, 13, 101] s.size (fun q vu vn vi wr => ∃ (i : Nat) (a : Int), i ≤ s.size ∧ q = s.size - i ∧ vu = .bool false ∧ vi = .int .i64 i ∧ vn = .int .u64 a ∧ 0 ≤ a ∧ a ≤ 4294967295 ∧ Hid (pG 10 (cl (fun k => c (i + k)) (n - i)) a = R) ∧ wr = W1)
    case atStart => exact ⟨0, 0, Nat.zero_le _, rfl, rfl, rfl, rfl, by decide, by decide, HR0, rfl⟩
    case round =>
      obtain ⟨i, a, hi, hq, rfl, rfl, rfl, ha0, ha9, HR, hwr⟩ := hrel
      subst wr
      by_cases hlt : i < s.size
      · have z1 : (i : Int) < (s.size : Int) := by omega
        have z2 : (0 : Int) ≤ (i : Int) := by omega
        have hcb := HB.out.2.1 i (by omega)
        obtain ⟨X, hX⟩ : ∃ X : Nat, c i = (X : Int) := ⟨(c i).toNat, by omega⟩
        have hX9 : X < 256 := by omega
        obtain ⟨b', off', e, hci⟩ := HB.out.1 i (by omega)
        injection e with e
        injection e with e1 e2 _
        subst e1 e2
        rw [Nat.zero_add, hX] at hci
        obtain ⟨v, hv⟩ : ∃ v, bits .or .u8 (X : Int) 32 = v := ⟨_, rfl⟩
        obtain ⟨hv0, hv9, hvs, hvg, hvn⟩ := low_at hX9 hv
        have y1 : i < s.size := hlt
        have hcut : ¬ (1844674407370955162 : Int) ≤ a := by omega
        rcases (show (48 ≤ X ∧ X ≤ 57) ∨ ((97 ≤ X ∧ X ≤ 122) ∨ (65 ≤ X ∧ X ≤ 90)) ∨ X = 95 ∨ (X ≠ 95 ∧ ¬ (48 ≤ X ∧ X ≤ 57) ∧ ¬ (97 ≤ X ∧ X ≤ 122) ∧ ¬ (65 ≤ X ∧ X ≤ 90)) by omega) with k | k | k | ⟨k0, k1, k2, k3⟩
        · have u1 : (48 : Int) ≤ (X : Int) := by omega
          have u2 : (X : Int) ≤ 57 := by omega
          have u9 : ((X : Int) == 95) = false := beq_eq_false_iff_ne.2 (by omega)
          have hdg : dgt (c i) = (X : Int) - 48 := by rw [hX]; unfold dgt; rw [if_pos (by omega)]
          have u4 : ¬ (10 : Int) ≤ (X : Int) - 48 := by omega
          by_cases hov : 4294967295 < a * 10 + ((X : Int) - 48)
          · have hF := pG_over (b := 10) (a := a) (c := c) (n := n) (j := i) (by omega) (by omega) (by rw [hdg]; omega)
            have HRm : Hid (R = none) := by show _ = _; rw [← HR.out]; exact hF
            clear HR hF hdg hX k hvs hvg hvn hcb
            go_wp2
            exact HQ.out.2.2 HRm.out
          · have hF := pG_yes (b := 10) (a := a) (c := c) (n := n) (j := i) (by omega) (by omega) (by rw [hdg]; omega)
            rw [hdg] at hF
            have HR2 : Hid (pG 10 (cl (fun k => c (i + 1 + k)) (n - (i + 1))) (a * 10 + ((X : Int) - 48)) = R) := by show _ = _; rw [← HR.out, hF]
            have iov : a * 10 + ((X : Int) - 48) ≤ 4294967295 := by omega
            have iov0 : 0 ≤ a * 10 + ((X : Int) - 48) := by omega
            clear HR hF hdg hX k hvs hvg hvn hcb hov
            go_wp2
            go_roundg (s.size - (i + 1))
            case measure => omega
            case rel => exact ⟨i + 1, a * 10 + ((X : Int) - 48), by omega, rfl, rfl, by go_num, by go_num, by omega, by omega, HR2, rfl⟩
        · have u1 : (48 : Int) ≤ (X : Int) := by omega
          have u2 : ¬ (X : Int) ≤ 57 := by omega
          have u9 : ((X : Int) == 95) = false := beq_eq_false_iff_ne.2 (by omega)
          by_cases h95 : X = 95
          · omega
          have w1 : (97 : Int) ≤ v := by
            rcases k with k | k
            · have := hvs k; omega
            · have := hvg k; omega
          have w2 : v ≤ 122 := by
            rcases k with k | k
            · have := hvs k; omega
            · have := hvg k; omega
          have w3 : (10 : Int) ≤ v - 97 + 10 := by omega
          have hd : dgt (c i) < 0 ∨ 10 ≤ dgt (c i) := by rw [hX]; unfold dgt; split; · omega
                                                         split; · omega
                                                         split <;> omega
          have hF := pG_no (b := 10) (a := a) (c := c) (n := n) (j := i) (by omega) hd
          have HRm : Hid (R = none) := by show _ = _; rw [← HR.out]; exact hF
          clear HR hF hd hX k hvs hvg hvn hcb h95
          go_wp2_with (go_at_call 85; refine (lower_any _ _ hv _).mono ?_; rintro e w' ⟨rfl, rfl⟩)
          exact HQ.out.2.1 HRm.out
        · subst k
          have hd : dgt (c i) < 0 ∨ 10 ≤ dgt (c i) := by rw [hX]; exact Or.inl (by decide)
          have hF := pG_no (b := 10) (a := a) (c := c) (n := n) (j := i) (by omega) hd
          have HRm : Hid (R = none) := by show _ = _; rw [← HR.out]; exact hF
          have hv' : bits .or .u8 95 32 = v := hv
          have hci' : W1.cell? ⟨w.heap.size, i, none⟩ = some (.int .u8 95) := hci
          have w2 : ¬ v ≤ 122 := by have e : bits .or .u8 95 32 = 127 := by kernel_rfl
                                    omega
          have w1 : (97 : Int) ≤ v := by omega
          clear HR hF hd hX hvs hvg hvn hcb hv hci hX9
          go_wp2_with (go_at_call 85; refine (lower_any _ _ hv' _).mono ?_; rintro e w' ⟨rfl, rfl⟩)
          exact HQ.out.2.1 HRm.out
        · have hd : dgt (c i) < 0 ∨ 10 ≤ dgt (c i) := by rw [hX]; unfold dgt; rw [if_neg (by omega), if_neg (by omega), if_neg (by omega)]; omega
          have hF := pG_no (b := 10) (a := a) (c := c) (n := n) (j := i) (by omega) hd
          have HRm : Hid (R = none) := by show _ = _; rw [← HR.out]; exact hF
          have u9 : ((X : Int) == 95) = false := beq_eq_false_iff_ne.2 (by omega)
          have hvv := hvn k2 k3
          clear HR hF hd hX hvs hvg hvn hcb k2 k3 k0
          rcases (show X < 48 ∨ 57 < X by omega) with g | g
          · have u1 : ¬ (48 : Int) ≤ (X : Int) := by omega
            clear g k1
            rcases hvv with g | g
            · have w1 : ¬ (97 : Int) ≤ v := by omega
              clear g
              go_wp2_with (go_at_call 85; refine (lower_any _ _ hv _).mono ?_; rintro e w' ⟨rfl, rfl⟩)
              exact HQ.out.2.1 HRm.out
            · have w1 : (97 : Int) ≤ v := by omega
              have w2 : ¬ v ≤ 122 := by omega
              clear g
              go_wp2_with (go_at_call 85; refine (lower_any _ _ hv _).mono ?_; rintro e w' ⟨rfl, rfl⟩)
              exact HQ.out.2.1 HRm.out
          · have u1 : (48 : Int) ≤ (X : Int) := by omega
            have u2 : ¬ (X : Int) ≤ 57 := by omega
            clear g k1
            rcases hvv with g | g
            · have w1 : ¬ (97 : Int) ≤ v := by omega
              clear g
              go_wp2_with (go_at_call 85; refine (lower_any _ _ hv _).mono ?_; rintro e w' ⟨rfl, rfl⟩)
              exact HQ.out.2.1 HRm.out
            · have w1 : (97 : Int) ≤ v := by omega
              have w2 : ¬ v ≤ 122 := by omega
              clear g
              go_wp2_with (go_at_call 85; refine (lower_any _ _ hv _).mono ?_; rintro e w' ⟨rfl, rfl⟩)
              exact HQ.out.2.1 HRm.out
      · have z1 : ¬ (i : Int) < (s.size : Int) := by omega
        have hF := pG_end (b := 10) (a := a) (c := c) (n := n) (j := i) (by omega)
        have HRe : Hid (R = some a) := by show _ = _; rw [← HR.out]; exact hF
        clear HR hF
        go_wp2
        exact HQ.out.1 a HRe.out
set_option maxRecDepth 100000 in
set_option maxHeartbeats 16000000 in
theorem iparse16 {m : List Int} (hm : Byt m) (hn : m.length ≤ 100000) {s : ByteArray} (hs : strOfNums m = s) (w : World) :
    Calls Tryd.prog 83 #[.string s, .int .i64 16, .int .i64 32] w fun e w' => PuQ (pU 16 m) w e w' := by
  by_cases h0 : m = []
  · subst h0
    have hs0 : s = ⟨#[]⟩ := hs.symm
    subst hs0
    have hq : ∀ w', w' = w → PuQ (pU 16 []) w (.returned (.tuple #[.int .u64 0, .iface 115 (.int .i64 2)])) w' := fun w' e => by subst e; exact PuQ.no (Below.refl _ _) rfl (Or.inr rfl)
    obtain ⟨Q, hQ⟩ : ∃ Q, PuQ (pU 16 []) w = Q := ⟨_, rfl⟩
    rw [hQ] at hq ⊢
    have HQ : Hid (∀ w', w' = w → Q (.returned (.tuple #[.int .u64 0, .iface 115 (.int .i64 2)])) w') := hq
    clear hQ hs hq
    go_enter Tryd.func83, Tryd.ntmps83
    go_wp2
    exact HQ.out _ rfl
  · have hlen : 0 < m.length := by
      cases m with
      | nil => exact absurd rfl h0
      | cons x l => simp
    have hss : s.size = m.length := by rw [← hs, strOfNums_size]
    have hemp : s.toList.isEmpty = false := by
      rw [← decide_eq_emptyBytes]
      refine decide_eq_false (fun h => ?_)
      have h2 : s.size = 0 := (congrArg ByteArray.size h).trans rfl
      omega
    have hcv := Lib.run_convert_string_bytes (P := Tryd.prog) w 9 22 5 s (u := .string) Tryd.underlying9 Tryd.underlying22 Tryd.underlying5
    have hbc := convB_bc w m hm
    rw [hs] at hbc
    have hbw := convB_below w s
    have hC := cL_ch hm
    obtain ⟨c, hc⟩ : ∃ c, cL m = c := ⟨_, rfl⟩
    have hpu : pU 16 m = pG 16 (cl (fun k => c (0 + k)) (m.length - 0)) 0 := by rw [← hc, ← pU_cl hlen, cl_cL]
    rw [hc] at hbc hC
    obtain ⟨R, hR⟩ : ∃ R, pU 16 m = R := ⟨_, rfl⟩
    obtain ⟨n, hnn⟩ : ∃ n, m.length = n := ⟨_, rfl⟩
    rw [hnn] at hbc hC hpu hss hn hlen
    have HR0 : Hid (pG 16 (cl (fun k => c (0 + k)) (n - 0)) 0 = R) := by show _ = _; rw [← hR, hpu]
    rw [hR]
    generalize grownCap w s.size 0 5 = gc at hcv
    generalize Lib.bytesWorld w 5 s = W1 at hcv hbc hbw
    have HB : Hid (BC W1 (some ⟨w.heap.size, 0, none⟩) n c ∧ Ch c n) := ⟨hbc, hC⟩
    obtain ⟨Q, hQ⟩ : ∃ Q, PuQ R w = Q := ⟨_, rfl⟩
    have hyes : ∀ x : Int, R = some x → Q (.returned (.tuple #[.int .u64 x, .nilIface])) W1 := fun x h => by rw [← hQ]; exact PuQ.yes hbw h
    have hno2 : R = none → Q (.returned (.tuple #[.int .u64 0, .iface 115 (.int .i64 2)])) W1 := fun h => by rw [← hQ]; exact PuQ.no hbw h (Or.inr rfl)
    have hno1 : R = none → Q (.returned (.tuple #[.int .u64 4294967295, .iface 115 (.int .i64 1)])) W1 := fun h => by rw [← hQ]; exact PuQ.no hbw h (Or.inl rfl)
    rw [hQ]
    have HQ : Hid ((∀ x : Int, R = some x → Q (.returned (.tuple #[.int .u64 x, .nilIface])) W1) ∧ (R = none → Q (.returned (.tuple #[.int .u64 0, .iface 115 (.int .i64 2)])) W1) ∧ (R = none → Q (.returned (.tuple #[.int .u64 4294967295, .iface 115 (.int .i64 1)])) W1)) := ⟨hyes, hno2, hno1⟩
    have hmv : IntKind.u64.wrap (IntKind.u64.wrap 4294967296 - 1) = 4294967295 := by rw [IntKind.wrap_u64, IntKind.wrap_u64]; decide
    have sz1 : s.size ≤ n := by omega
    have sz2 : n ≤ s.size := by omega
    clear hpu hR h0 hyes hno1 hno2 hQ hbc hC hc hss hnn hs hm hlen hbw
    go_enter Tryd.func83, Tryd.ntmps83
    go_wp2
    go_loopg [12, 13, 101] s.size (fun q vu vn vi wr => ∃ (i : Nat) (a : Int), i ≤ s.size ∧ q = s.size - i ∧ vu = .bool false ∧ vi = .int .i64 i ∧ vn = .int .u64 a ∧ 0 ≤ a ∧ a ≤ 4294967295 ∧ Hid (pG 16 (cl (fun k => c (i + k)) (n - i)) a = R) ∧ wr = W1)
    case atStart => exact ⟨0, 0, Nat.zero_le _, rfl, rfl, rfl, rfl, by decide, by decide, HR0, rfl⟩
    case round =>
      obtain ⟨i, a, hi, hq, rfl, rfl, rfl, ha0, ha9, HR, hwr⟩ := hrel
      subst wr
      by_cases hlt : i < s.size
      · have z1 : (i : Int) < (s.size : Int) := by omega
        have z2 : (0 : Int) ≤ (i : Int) := by omega
        have hcb := HB.out.2.1 i (by omega)
        obtain ⟨X, hX⟩ : ∃ X : Nat, c i = (X : Int) := ⟨(c i).toNat, by omega⟩
        have hX9 : X < 256 := by omega
        obtain ⟨b', off', e, hci⟩ := HB.out.1 i (by omega)
        injection e with e
        injection e with e1 e2 _
        subst e1 e2
        rw [Nat.zero_add, hX] at hci
        obtain ⟨v, hv⟩ : ∃ v, bits .or .u8 (X : Int) 32 = v := ⟨_, rfl⟩
        obtain ⟨hv0, hv9, hvs, hvg, hvn⟩ := low_at hX9 hv
        have y1 : i < s.size := hlt
        have hcut : ¬ (1152921504606846976 : Int) ≤ a := by omega
        rcases (show (48 ≤ X ∧ X ≤ 57) ∨ ((97 ≤ X ∧ X ≤ 122) ∨ (65 ≤ X ∧ X ≤ 90)) ∨ X = 95 ∨ (X ≠ 95 ∧ ¬ (48 ≤ X ∧ X ≤ 57) ∧ ¬ (97 ≤ X ∧ X ≤ 122) ∧ ¬ (65 ≤ X ∧ X ≤ 90)) by omega) with k | k | k | ⟨k0, k1, k2, k3⟩
        · have u1 : (48 : Int) ≤ (X : Int) := by omega
          have u2 : (X : Int) ≤ 57 := by omega
          have u9 : ((X : Int) == 95) = false := beq_eq_false_iff_ne.2 (by omega)
          have hdg : dgt (c i) = (X : Int) - 48 := by rw [hX]; unfold dgt; rw [if_pos (by omega)]
          have u4 : ¬ (16 : Int) ≤ (X : Int) - 48 := by omega
          by_cases hov : 4294967295 < a * 16 + ((X : Int) - 48)
          · have hF := pG_over (b := 16) (a := a) (c := c) (n := n) (j := i) (by omega) (by omega) (by rw [hdg]; omega)
            have HRm : Hid (R = none) := by show _ = _; rw [← HR.out]; exact hF
            clear HR hF hdg hX k hvs hvg hvn hcb
            go_wp2
            exact HQ.out.2.2 HRm.out
          · have hF := pG_yes (b := 16) (a := a) (c := c) (n := n) (j := i) (by omega) (by omega) (by rw [hdg]; omega)
            rw [hdg] at hF
            have HR2 : Hid (pG 16 (cl (fun k => c (i + 1 + k)) (n - (i + 1))) (a * 16 + ((X : Int) - 48)) = R) := by show _ = _; rw [← HR.out, hF]
            have iov : a * 16 + ((X : Int) - 48) ≤ 4294967295 := by omega
            have iov0 : 0 ≤ a * 16 + ((X : Int) - 48) := by omega
            clear HR hF hdg hX k hvs hvg hvn hcb hov
            go_wp2
            go_roundg (s.size - (i + 1))
            case measure => omega
            case rel => exact ⟨i + 1, a * 16 + ((X : Int) - 48), by omega, rfl, rfl, by go_num, by go_num, by omega, by omega, HR2, rfl⟩
        · have u1 : (48 : Int) ≤ (X : Int) := by omega
          have u2 : ¬ (X : Int) ≤ 57 := by omega
          have u9 : ((X : Int) == 95) = false := beq_eq_false_iff_ne.2 (by omega)
          have w1 : (97 : Int) ≤ v := by
            rcases k with k | k
            · have := hvs k; omega
            · have := hvg k; omega
          have w2 : v ≤ 122 := by
            rcases k with k | k
            · have := hvs k; omega
            · have := hvg k; omega
          by_cases h16 : v ≤ 102
          · have w3 : ¬ (16 : Int) ≤ v - 97 + 10 := by omega
            have hdg : dgt (c i) = v - 97 + 10 := by
              rw [hX]; unfold dgt
              rcases k with k | k
              · have := hvs k; rw [if_neg (by omega), if_pos (by omega)]; omega
              · have := hvg k; rw [if_neg (by omega), if_neg (by omega), if_pos (by omega)]; omega
            by_cases hov : 4294967295 < a * 16 + (v - 97 + 10)
            · have hF := pG_over (b := 16) (a := a) (c := c) (n := n) (j := i) (by omega) (by omega) (by rw [hdg]; omega)
              have HRm : Hid (R = none) := by show _ = _; rw [← HR.out]; exact hF
              clear HR hF hdg hX k hvs hvg hvn hcb
              go_wp2_with (go_at_call 85; refine (lower_any _ _ hv _).mono ?_; rintro e w' ⟨rfl, rfl⟩)
              exact HQ.out.2.2 HRm.out
            · have hF := pG_yes (b := 16) (a := a) (c := c) (n := n) (j := i) (by omega) (by omega) (by rw [hdg]; omega)
              rw [hdg] at hF
              have HR2 : Hid (pG 16 (cl (fun k => c (i + 1 + k)) (n - (i + 1))) (a * 16 + (v - 97 + 10)) = R) := by show _ = _; rw [← HR.out, hF]
              have iov : a * 16 + (v - 97 + 10) ≤ 4294967295 := by omega
              have iov0 : 0 ≤ a * 16 + (v - 97 + 10) := by omega
              clear HR hF hdg hX k hvs hvg hvn hcb hov
              go_wp2_with (go_at_call 85; refine (lower_any _ _ hv _).mono ?_; rintro e w' ⟨rfl, rfl⟩)
              go_roundg (s.size - (i + 1))
              case measure => omega
              case rel => exact ⟨i + 1, a * 16 + (v - 97 + 10), by omega, rfl, rfl, by go_num, by go_num, by omega, by omega, HR2, rfl⟩
          · have w3 : (16 : Int) ≤ v - 97 + 10 := by omega
            have hd : dgt (c i) < 0 ∨ 16 ≤ dgt (c i) := by
              rw [hX]; unfold dgt
              rcases k with k | k
              · have := hvs k; rw [if_neg (by omega), if_neg (by omega), if_neg (by omega)]; omega
              · have := hvg k; rw [if_neg (by omega), if_neg (by omega), if_neg (by omega)]; omega
            have hF := pG_no (b := 16) (a := a) (c := c) (n := n) (j := i) (by omega) hd
            have HRm : Hid (R = none) := by show _ = _; rw [← HR.out]; exact hF
            clear HR hF hd hX k hvs hvg hvn hcb h16
            go_wp2_with (go_at_call 85; refine (lower_any _ _ hv _).mono ?_; rintro e w' ⟨rfl, rfl⟩)
            exact HQ.out.2.1 HRm.out
        · subst k
          have hd : dgt (c i) < 0 ∨ 16 ≤ dgt (c i) := by rw [hX]; exact Or.inl (by decide)
          have hF := pG_no (b := 16) (a := a) (c := c) (n := n) (j := i) (by omega) hd
          have HRm : Hid (R = none) := by show _ = _; rw [← HR.out]; exact hF
          have hv' : bits .or .u8 95 32 = v := hv
          have hci' : W1.cell? ⟨w.heap.size, i, none⟩ = some (.int .u8 95) := hci
          have w2 : ¬ v ≤ 122 := by have e : bits .or .u8 95 32 = 127 := by kernel_rfl
                                    omega
          have w1 : (97 : Int) ≤ v := by omega
          clear HR hF hd hX hvs hvg hvn hcb hv hci hX9
          go_wp2_with (go_at_call 85; refine (lower_any _ _ hv' _).mono ?_; rintro e w' ⟨rfl, rfl⟩)
          exact HQ.out.2.1 HRm.out
        · have hd : dgt (c i) < 0 ∨ 16 ≤ dgt (c i) := by rw [hX]; unfold dgt; rw [if_neg (by omega), if_neg (by omega), if_neg (by omega)]; omega
          have hF := pG_no (b := 16) (a := a) (c := c) (n := n) (j := i) (by omega) hd
          have HRm : Hid (R = none) := by show _ = _; rw [← HR.out]; exact hF
          have u9 : ((X : Int) == 95) = false := beq_eq_false_iff_ne.2 (by omega)
          have hvv := hvn k2 k3
          clear HR hF hd hX hvs hvg hvn hcb k2 k3 k0
          rcases (show X < 48 ∨ 57 < X by omega) with g | g
          · have u1 : ¬ (48 : Int) ≤ (X : Int) := by omega
            clear g k1
            rcases hvv with g | g
            · have w1 : ¬ (97 : Int) ≤ v := by omega
              clear g
              go_wp2_with (go_at_call 85; refine (lower_any _ _ hv _).mono ?_; rintro e w' ⟨rfl, rfl⟩)
              exact HQ.out.2.1 HRm.out
            · have w1 : (97 : Int) ≤ v := by omega
              have w2 : ¬ v ≤ 122 := by omega
              clear g
              go_wp2_with (go_at_call 85; refine (lower_any _ _ hv _).mono ?_; rintro e w' ⟨rfl, rfl⟩)
              exact HQ.out.2.1 HRm.out
          · have u1 : (48 : Int) ≤ (X : Int) := by omega
            have u2 : ¬ (X : Int) ≤ 57 := by omega
            clear g k1
            rcases hvv with g | g
            · have w1 : ¬ (97 : Int) ≤ v := by omega
              clear g
              go_wp2_with (go_at_call 85; refine (lower_any _ _ hv _).mono ?_; rintro e w' ⟨rfl, rfl⟩)
              exact HQ.out.2.1 HRm.out
            · have w1 : (97 : Int) ≤ v := by omega
              have w2 : ¬ v ≤ 122 := by omega
              clear g
              go_wp2_with (go_at_call 85; refine (lower_any _ _ hv _).mono ?_; rintro e w' ⟨rfl, rfl⟩)
              exact HQ.out.2.1 HRm.out
      · have z1 : ¬ (i : Int) < (s.size : Int) := by omega
        have hF := pG_end (b := 16) (a := a) (c := c) (n := n) (j := i) (by omega)
        have HRe : Hid (R = some a) := by show _ = _; rw [← HR.out]; exact hF
        clear HR hF
        go_wp2
        exact HQ.out.1 a HRe.out
end Go.Proofs.YtbhjkkbempnjeaaDoor
