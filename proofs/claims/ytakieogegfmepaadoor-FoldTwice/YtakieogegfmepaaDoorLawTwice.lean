/- FoldTwice. -/
import Derived.Test.YtakieogegfmepaaDoorAw
namespace Go.Proofs.YtakieogegfmepaaDoor
set_option linter.unusedVariables false
open Go.RowKit Go.ChangeShapes
theorem txt_map (R : Nat → Int) (k : Nat) : strOfNums (txt R k) = tx (((List.range k).map R).filter okR) := by
  rw [tx_oks]
  unfold tx txt
  rw [List.flatMap_map]
theorem twice_long (v : Value) (ad : Option Addr) (k cap : Nat) (hv : v = .slice ad k cap) (w : World) (hk : 300 < k) (hT : Tabs w) :
    Calls Tryd.prog 4 #[v] w fun e w' => e = .returned (.bool true) ∧ Below w.heap.size w w' := by
  subst hv
  have z1 : (300 : Int) < (k : Int) := by omega
  have HT : Hid (Tabs w) := hT
  clear hT
  go_enter Tryd.func4, Tryd.ntmps4
  go_wp2_with fail
  refine (awake_any w HT.out).mono ?_
  rintro e w1 ⟨rfl, hb1⟩
  have HB : Hid (Below w.heap.size w w1) := hb1
  clear hb1 HT
  go_wp2
  go_ret
  exact ⟨rfl, HB.out⟩
set_option maxHeartbeats 4000000 in
set_option maxRecDepth 100000 in
theorem twice_zero (v : Value) (ad : Option Addr) (k cap : Nat) (hv : v = .slice ad k cap) (S f U V : ByteArray) (w : World) (hk : k ≤ 300) (hT : Tabs w)
    (ht : ∀ w1, Below w.heap.size w w1 → Calls Tryd.prog 15 #[v] w1 fun e w' => e = .returned (.string S) ∧ Below w1.heap.size w1 w')
    (h1 : ∀ w, Tabs w → Calls Tryd.prog 16 #[.string S] w fun e w' => e = .returned (.string f) ∧ Below w.heap.size w w')
    (h2 : ∀ w, Tabs w → Calls Tryd.prog 17 #[.string S] w fun e w' => e = .returned (.int .u8 0) ∧ Below w.heap.size w w')
    (h3 : ∀ w, Tabs w → Calls Tryd.prog 16 #[.string f] w fun e w' => e = .returned (.string f) ∧ Below w.heap.size w w')
    (h4 : ∀ w, Tabs w → Calls Tryd.prog 17 #[.string f] w fun e w' => e = .returned (.int .u8 1) ∧ Below w.heap.size w w')
    (h5 : ∀ w, Tabs w → Calls Tryd.prog 18 #[.int .u8 1, .string S] w fun e w' => e = .returned (.string f) ∧ Below w.heap.size w w')
    (h7 : ∀ w, Tabs w → Calls Tryd.prog 18 #[.int .u8 3, .string S] w fun e w' => e = .returned (.string U) ∧ Below w.heap.size w w')
    (h7b : ∀ w, Tabs w → Calls Tryd.prog 16 #[.string U] w fun e w' => e = .returned (.string f) ∧ Below w.heap.size w w')
    (h8 : ∀ w, Tabs w → Calls Tryd.prog 18 #[.int .u8 2, .string S] w fun e w' => e = .returned (.string V) ∧ Below w.heap.size w w')
    (h8b : ∀ w, Tabs w → Calls Tryd.prog 16 #[.string V] w fun e w' => e = .returned (.string f) ∧ Below w.heap.size w w') :
    Calls Tryd.prog 4 #[v] w fun e w' => e = .returned (.bool true) ∧ Below w.heap.size w w' := by
  subst hv
  have z1 : ¬ (300 : Int) < (k : Int) := by omega
  have HT : Hid (Tabs w) := hT
  have HC : Hid (∀ w1, Below w.heap.size w w1 → Calls Tryd.prog 15 #[.slice ad k cap] w1 fun e w' => e = .returned (.string S) ∧ Below w1.heap.size w1 w') := ht
  clear hT ht
  have Hh1 : Hid (∀ w, Tabs w → Calls Tryd.prog 16 #[.string S] w fun e w' => e = .returned (.string f) ∧ Below w.heap.size w w') := h1
  have Hh2 : Hid (∀ w, Tabs w → Calls Tryd.prog 17 #[.string S] w fun e w' => e = .returned (.int .u8 0) ∧ Below w.heap.size w w') := h2
  have Hh3 : Hid (∀ w, Tabs w → Calls Tryd.prog 16 #[.string f] w fun e w' => e = .returned (.string f) ∧ Below w.heap.size w w') := h3
  have Hh4 : Hid (∀ w, Tabs w → Calls Tryd.prog 17 #[.string f] w fun e w' => e = .returned (.int .u8 1) ∧ Below w.heap.size w w') := h4
  have Hh5 : Hid (∀ w, Tabs w → Calls Tryd.prog 18 #[.int .u8 1, .string S] w fun e w' => e = .returned (.string f) ∧ Below w.heap.size w w') := h5
  have Hh7 : Hid (∀ w, Tabs w → Calls Tryd.prog 18 #[.int .u8 3, .string S] w fun e w' => e = .returned (.string U) ∧ Below w.heap.size w w') := h7
  have Hh7b : Hid (∀ w, Tabs w → Calls Tryd.prog 16 #[.string U] w fun e w' => e = .returned (.string f) ∧ Below w.heap.size w w') := h7b
  have Hh8 : Hid (∀ w, Tabs w → Calls Tryd.prog 18 #[.int .u8 2, .string S] w fun e w' => e = .returned (.string V) ∧ Below w.heap.size w w') := h8
  have Hh8b : Hid (∀ w, Tabs w → Calls Tryd.prog 16 #[.string V] w fun e w' => e = .returned (.string f) ∧ Below w.heap.size w w') := h8b
  clear h1 h2 h3 h4 h5 h7 h7b h8 h8b
  go_enter Tryd.func4, Tryd.ntmps4
  go_wp2_with fail
  refine (awake_any w HT.out).mono ?_
  rintro e w1 ⟨rfl, hb1⟩
  have HU1 : Hid (Up w.heap.size w w1) := (Up.refl w).stay hb1
  clear hb1
  go_wp2_with fail
  refine (HC.out w1 HU1.out.1).mono ?_
  rintro e w2 ⟨rfl, hb1⟩
  have HU2 : Hid (Up w.heap.size w w2) := HU1.out.stay hb1
  clear hb1 HU1 HC
  go_wp2_with fail
  refine (Hh1.out _ (tabs_stay HT.out HU2.out.1)).mono ?_
  rintro e w3 ⟨rfl, hb1⟩
  have HU3 : Hid (Up w.heap.size w w3) := HU2.out.stay hb1
  clear hb1 HU2 Hh1
  go_wp2_with fail
  refine (Hh2.out _ (tabs_stay HT.out HU3.out.1)).mono ?_
  rintro e w4 ⟨rfl, hb1⟩
  have HU4 : Hid (Up w.heap.size w w4) := HU3.out.stay hb1
  clear hb1 HU3 Hh2
  go_wp2_with fail
  refine (Hh3.out _ (tabs_stay HT.out HU4.out.1)).mono ?_
  rintro e w5 ⟨rfl, hb1⟩
  have HU5 : Hid (Up w.heap.size w w5) := HU4.out.stay hb1
  clear hb1 HU4 Hh3
  go_wp2_with fail
  refine (Hh4.out _ (tabs_stay HT.out HU5.out.1)).mono ?_
  rintro e w6 ⟨rfl, hb1⟩
  have HU6 : Hid (Up w.heap.size w w6) := HU5.out.stay hb1
  clear hb1 HU5 Hh4
  go_wp2_with fail
  refine (Hh5.out _ (tabs_stay HT.out HU6.out.1)).mono ?_
  rintro e w7 ⟨rfl, hb1⟩
  have HU7 : Hid (Up w.heap.size w w7) := HU6.out.stay hb1
  clear hb1 HU6 Hh5
  go_wp2_with fail
  refine (Hh7.out _ (tabs_stay HT.out HU7.out.1)).mono ?_
  rintro e w8 ⟨rfl, hb1⟩
  have HU8 : Hid (Up w.heap.size w w8) := HU7.out.stay hb1
  clear hb1 HU7 Hh7
  go_wp2_with fail
  refine (Hh7b.out _ (tabs_stay HT.out HU8.out.1)).mono ?_
  rintro e w9 ⟨rfl, hb1⟩
  have HU9 : Hid (Up w.heap.size w w9) := HU8.out.stay hb1
  clear hb1 HU8 Hh7b
  go_wp2_with fail
  refine (Hh8.out _ (tabs_stay HT.out HU9.out.1)).mono ?_
  rintro e w10 ⟨rfl, hb1⟩
  have HU10 : Hid (Up w.heap.size w w10) := HU9.out.stay hb1
  clear hb1 HU9 Hh8
  go_wp2_with fail
  refine (Hh8b.out _ (tabs_stay HT.out HU10.out.1)).mono ?_
  rintro e w11 ⟨rfl, hb1⟩
  have HU11 : Hid (Up w.heap.size w w11) := HU10.out.stay hb1
  clear hb1 HU10 Hh8b
  go_wp2
  go_ret
  exact ⟨rfl, HU11.out.1⟩
set_option maxHeartbeats 4000000 in
set_option maxRecDepth 100000 in
theorem twice_other (v : Value) (ad : Option Addr) (k cap : Nat) (hv : v = .slice ad k cap) (S f U V : ByteArray) (c : Int) (hc : (c == 0) = false) (w : World) (hk : k ≤ 300) (hT : Tabs w)
    (ht : ∀ w1, Below w.heap.size w w1 → Calls Tryd.prog 15 #[v] w1 fun e w' => e = .returned (.string S) ∧ Below w1.heap.size w1 w')
    (h1 : ∀ w, Tabs w → Calls Tryd.prog 16 #[.string S] w fun e w' => e = .returned (.string f) ∧ Below w.heap.size w w')
    (h2 : ∀ w, Tabs w → Calls Tryd.prog 17 #[.string S] w fun e w' => e = .returned (.int .u8 c) ∧ Below w.heap.size w w')
    (h3 : ∀ w, Tabs w → Calls Tryd.prog 16 #[.string f] w fun e w' => e = .returned (.string f) ∧ Below w.heap.size w w')
    (h4 : ∀ w, Tabs w → Calls Tryd.prog 17 #[.string f] w fun e w' => e = .returned (.int .u8 1) ∧ Below w.heap.size w w')
    (h5 : ∀ w, Tabs w → Calls Tryd.prog 18 #[.int .u8 1, .string S] w fun e w' => e = .returned (.string f) ∧ Below w.heap.size w w')
    (h6 : ∀ w, Tabs w → Calls Tryd.prog 18 #[.int .u8 c, .string S] w fun e w' => e = .returned (.string S) ∧ Below w.heap.size w w')
    (h7 : ∀ w, Tabs w → Calls Tryd.prog 18 #[.int .u8 3, .string S] w fun e w' => e = .returned (.string U) ∧ Below w.heap.size w w')
    (h7b : ∀ w, Tabs w → Calls Tryd.prog 16 #[.string U] w fun e w' => e = .returned (.string f) ∧ Below w.heap.size w w')
    (h8 : ∀ w, Tabs w → Calls Tryd.prog 18 #[.int .u8 2, .string S] w fun e w' => e = .returned (.string V) ∧ Below w.heap.size w w')
    (h8b : ∀ w, Tabs w → Calls Tryd.prog 16 #[.string V] w fun e w' => e = .returned (.string f) ∧ Below w.heap.size w w') :
    Calls Tryd.prog 4 #[v] w fun e w' => e = .returned (.bool true) ∧ Below w.heap.size w w' := by
  subst hv
  have z1 : ¬ (300 : Int) < (k : Int) := by omega
  have HT : Hid (Tabs w) := hT
  have HC : Hid (∀ w1, Below w.heap.size w w1 → Calls Tryd.prog 15 #[.slice ad k cap] w1 fun e w' => e = .returned (.string S) ∧ Below w1.heap.size w1 w') := ht
  clear hT ht
  have Hh1 : Hid (∀ w, Tabs w → Calls Tryd.prog 16 #[.string S] w fun e w' => e = .returned (.string f) ∧ Below w.heap.size w w') := h1
  have Hh2 : Hid (∀ w, Tabs w → Calls Tryd.prog 17 #[.string S] w fun e w' => e = .returned (.int .u8 c) ∧ Below w.heap.size w w') := h2
  have Hh3 : Hid (∀ w, Tabs w → Calls Tryd.prog 16 #[.string f] w fun e w' => e = .returned (.string f) ∧ Below w.heap.size w w') := h3
  have Hh4 : Hid (∀ w, Tabs w → Calls Tryd.prog 17 #[.string f] w fun e w' => e = .returned (.int .u8 1) ∧ Below w.heap.size w w') := h4
  have Hh5 : Hid (∀ w, Tabs w → Calls Tryd.prog 18 #[.int .u8 1, .string S] w fun e w' => e = .returned (.string f) ∧ Below w.heap.size w w') := h5
  have Hh6 : Hid (∀ w, Tabs w → Calls Tryd.prog 18 #[.int .u8 c, .string S] w fun e w' => e = .returned (.string S) ∧ Below w.heap.size w w') := h6
  have Hh7 : Hid (∀ w, Tabs w → Calls Tryd.prog 18 #[.int .u8 3, .string S] w fun e w' => e = .returned (.string U) ∧ Below w.heap.size w w') := h7
  have Hh7b : Hid (∀ w, Tabs w → Calls Tryd.prog 16 #[.string U] w fun e w' => e = .returned (.string f) ∧ Below w.heap.size w w') := h7b
  have Hh8 : Hid (∀ w, Tabs w → Calls Tryd.prog 18 #[.int .u8 2, .string S] w fun e w' => e = .returned (.string V) ∧ Below w.heap.size w w') := h8
  have Hh8b : Hid (∀ w, Tabs w → Calls Tryd.prog 16 #[.string V] w fun e w' => e = .returned (.string f) ∧ Below w.heap.size w w') := h8b
  clear h1 h2 h3 h4 h5 h6 h7 h7b h8 h8b
  go_enter Tryd.func4, Tryd.ntmps4
  go_wp2_with fail
  refine (awake_any w HT.out).mono ?_
  rintro e w1 ⟨rfl, hb1⟩
  have HU1 : Hid (Up w.heap.size w w1) := (Up.refl w).stay hb1
  clear hb1
  go_wp2_with fail
  refine (HC.out w1 HU1.out.1).mono ?_
  rintro e w2 ⟨rfl, hb1⟩
  have HU2 : Hid (Up w.heap.size w w2) := HU1.out.stay hb1
  clear hb1 HU1 HC
  go_wp2_with fail
  refine (Hh1.out _ (tabs_stay HT.out HU2.out.1)).mono ?_
  rintro e w3 ⟨rfl, hb1⟩
  have HU3 : Hid (Up w.heap.size w w3) := HU2.out.stay hb1
  clear hb1 HU2 Hh1
  go_wp2_with fail
  refine (Hh2.out _ (tabs_stay HT.out HU3.out.1)).mono ?_
  rintro e w4 ⟨rfl, hb1⟩
  have HU4 : Hid (Up w.heap.size w w4) := HU3.out.stay hb1
  clear hb1 HU3 Hh2
  go_wp2_with fail
  refine (Hh3.out _ (tabs_stay HT.out HU4.out.1)).mono ?_
  rintro e w5 ⟨rfl, hb1⟩
  have HU5 : Hid (Up w.heap.size w w5) := HU4.out.stay hb1
  clear hb1 HU4 Hh3
  go_wp2_with fail
  refine (Hh4.out _ (tabs_stay HT.out HU5.out.1)).mono ?_
  rintro e w6 ⟨rfl, hb1⟩
  have HU6 : Hid (Up w.heap.size w w6) := HU5.out.stay hb1
  clear hb1 HU5 Hh4
  go_wp2_with fail
  refine (Hh5.out _ (tabs_stay HT.out HU6.out.1)).mono ?_
  rintro e w7 ⟨rfl, hb1⟩
  have HU7 : Hid (Up w.heap.size w w7) := HU6.out.stay hb1
  clear hb1 HU6 Hh5
  go_wp2_with fail
  refine (Hh6.out _ (tabs_stay HT.out HU7.out.1)).mono ?_
  rintro e w8 ⟨rfl, hb1⟩
  have HU8 : Hid (Up w.heap.size w w8) := HU7.out.stay hb1
  clear hb1 HU7 Hh6
  go_wp2_with fail
  refine (Hh7.out _ (tabs_stay HT.out HU8.out.1)).mono ?_
  rintro e w9 ⟨rfl, hb1⟩
  have HU9 : Hid (Up w.heap.size w w9) := HU8.out.stay hb1
  clear hb1 HU8 Hh7
  go_wp2_with fail
  refine (Hh7b.out _ (tabs_stay HT.out HU9.out.1)).mono ?_
  rintro e w10 ⟨rfl, hb1⟩
  have HU10 : Hid (Up w.heap.size w w10) := HU9.out.stay hb1
  clear hb1 HU9 Hh7b
  go_wp2_with fail
  refine (Hh8.out _ (tabs_stay HT.out HU10.out.1)).mono ?_
  rintro e w11 ⟨rfl, hb1⟩
  have HU11 : Hid (Up w.heap.size w w11) := HU10.out.stay hb1
  clear hb1 HU10 Hh8
  go_wp2_with fail
  refine (Hh8b.out _ (tabs_stay HT.out HU11.out.1)).mono ?_
  rintro e w12 ⟨rfl, hb1⟩
  have HU12 : Hid (Up w.heap.size w w12) := HU11.out.stay hb1
  clear hb1 HU11 Hh8b
  go_wp2
  go_ret
  exact ⟨rfl, HU12.out.1⟩
theorem twice_all (R : Nat → Int) (ad : Option Addr) (k cap : Nat) (w : World) (hT : Tabs w) (hR : RSl w (.slice ad k cap) k R) :
    Calls Tryd.prog 4 #[.slice ad k cap] w fun e w' => e = .returned (.bool true) ∧ Below w.heap.size w w' := by
  by_cases hk : 300 < k
  · exact twice_long _ ad k cap rfl w hk hT
  have ht : ∀ w1, Below w.heap.size w w1 → Calls Tryd.prog 15 #[.slice ad k cap] w1 fun e w' => e = .returned (.string (tx (((List.range k).map R).filter okR))) ∧ Below w1.heap.size w1 w' := fun w1 hb => by
    rw [← txt_map]; exact text_any R k _ w1 (by omega) (hR.stay hb)
  have hM : Ok (((List.range k).map R).filter okR) := oks_Ok _
  have hl : (((List.range k).map R).filter okR).length ≤ 300 := by
    refine Nat.le_trans (List.length_filter_le _ _) ?_
    simp; omega
  generalize ((List.range k).map R).filter okR = M at ht hM hl
  have hD : ∀ q, Ok (wrL q M) := fun q => wrL_ok hM
  have hDl : ∀ q, (wrL q M).length ≤ 1000 := fun q => by rw [wrL_len]; omega
  have h1 := fun w hT => foldT M hM (by omega) w hT
  have h2 := fun w hT => ofT M hM (by omega) w hT
  have h3 := fun w hT => foldT (wrL 1 M) (hD 1) (hDl 1) w hT
  rw [wrL_twice] at h3
  have h4 := fun w hT => ofT (wrL 1 M) (hD 1) (hDl 1) w hT
  rw [of_lower] at h4
  have h5 := fun w hT => asT 1 M hM (by omega) w hT
  have h6 := fun w hT => asT (ofL M) M hM (by omega) w hT
  rw [of_same] at h6
  have h7 := fun w hT => asT 3 M hM (by omega) w hT
  have h7b := fun w hT => foldT (wrL 3 M) (hD 3) (hDl 3) w hT
  rw [wrL_twice] at h7b
  have h8 := fun w hT => asT 2 M hM (by omega) w hT
  have h8b := fun w hT => foldT (wrL 2 M) (hD 2) (hDl 2) w hT
  rw [wrL_twice] at h8b
  cases hc : (ofL M == 0)
  · exact twice_other _ ad k cap rfl _ _ _ _ _ hc w (by omega) hT ht h1 h2 h3 h4 h5 h6 h7 h7b h8 h8b
  · rw [beq_iff_eq] at hc
    rw [hc] at h2
    exact twice_zero _ ad k cap rfl _ _ _ _ w (by omega) hT ht h1 h2 h3 h4 h5 h7 h7b h8 h8b
end Go.Proofs.YtakieogegfmepaaDoor
