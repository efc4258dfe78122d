/- FaultMakes: one error, and what it is made of. -/
import Derived.Test.YthdjadkdjljciaaDoordAsA
import Derived.Test.YthdjadkdjljciaaDoordShelf
import Derived.Deep.RegionHeld3
namespace Go.Proofs.YthdjadkdjljciaaDoor
set_option linter.unusedVariables false
open Go.RowKit Go.ChangeShapes
/-- The table that Itoa reads. -/
def Tab (w : World) : Prop := Lib.TabIs Tryd.prog w "internal/strconv.uint64pow10" .u64 Lib.pow10Tab
theorem tabNamed : Tryd.prog.globalNamed "internal/strconv.uint64pow10" = some 1 := by kernel_rfl
theorem Tab.stay {w w' : World} (h : Tab w) (h3 : 1 < w.heap.size) (hb : Below w.heap.size w w') : Tab w' := var?_below hb tabNamed h3 h
/-- What Error says. -/
def errS (s : ByteArray) (n : Int) : ByteArray := ((s ++ ⟨#[58]⟩) ++ ⟨(Lib.itoa n).toArray⟩) ++ ⟨#[58, 32, 97, 110, 32, 101, 114, 114, 111, 114]⟩
/-- What Error reads, and keeps. -/
def ES (W : World) (b : Nat) (s : ByteArray) (n : Int) (w' : World) : Prop := w'.cell? ⟨b, 0, none⟩ = some (.string s) ∧ w'.cell? ⟨b, 1, none⟩ = some (.int .i64 n) ∧ Up W.heap.size W w'
theorem ES.stay {W : World} {b : Nat} {s : ByteArray} {m : Int} {w w' : World} (h : ES W b s m w) (hb : Below w.heap.size w w') : ES W b s m w' := ⟨cell_stay h.1 hb, cell_stay h.2.1 hb, h.2.2.stay hb⟩
theorem ES.drew {W : World} {b : Nat} {s : ByteArray} {m : Int} {w : World} (h : ES W b s m w) : ES W b s m w.drew := ⟨h.1, h.2.1, h.2.2.drew⟩
theorem itoa_ES (W : World) (b : Nat) (s : ByteArray) (n : Int) (h0 : -9223372036854775808 ≤ n) (h1 : n ≤ 9223372036854775807) (w : World) (ht : Tab W) (h3 : 1 < W.heap.size) (hw : ES W b s n w) :
    Calls Tryd.prog 27 #[.int .i64 n] w fun e w' => e = .returned (.string ⟨(Lib.itoa n).toArray⟩) ∧ ES W b s n w' :=
  (Tryd.strconv_Itoa n h0 h1 w (ht.stay h3 hw.2.2.1)).mono fun e w' ⟨he, k, os, hw'⟩ => ⟨he, by subst hw'; exact hw.stay (Lib.below_grow _ w (Nat.le_refl _) k os)⟩
set_option maxHeartbeats 1000000 in
theorem error_any (b : Nat) (s : ByteArray) (n : Int) (v : Value) (w : World) (hs : s.size ≤ 140737488355328) (h0 : -9223372036854775808 ≤ n) (h1 : n ≤ 9223372036854775807) (ht : Tab w) (h3 : 1 < w.heap.size) (h : w.heap[b]? = some (.cells #[.string s, .int .i64 n, v] 46 (0, 0))) :
    Calls Tryd.prog 17 #[.pointer (some ⟨b, 0, none⟩)] w fun e w' => e = .returned (.string (errS s n)) ∧ Below w.heap.size w w' := by
  have c0 : w.cell? ⟨b, 0, none⟩ = some (.string s) := by simp [World.cell?, h]
  have c1 : w.cell? ⟨b, 1, none⟩ = some (.int .i64 n) := by simp [World.cell?, h]
  have hS : ES w b s n w := ⟨c0, c1, Up.refl w⟩
  have HI : Hid (-9223372036854775808 ≤ n ∧ n ≤ 9223372036854775807 ∧ Tab w ∧ 1 < w.heap.size) := ⟨h0, h1, ht, h3⟩
  have hL := Lib.itoa_length_le n h0 h1
  obtain ⟨I, hI⟩ : ∃ I : ByteArray, I = ⟨(Lib.itoa n).toArray⟩ := ⟨_, rfl⟩
  have hIs : I.size ≤ 21 := by rw [hI]; simpa [ByteArray.size] using hL
  have z1 : ¬ 9223372036854775807 < s.size + 1 := by omega
  have z2 : ¬ 9223372036854775807 < s.size + 1 + I.size := by omega
  have z3 : ¬ 9223372036854775807 < s.size + 1 + I.size + 10 := by omega
  have HII : Hid (I = ⟨(Lib.itoa n).toArray⟩) := hI
  clear h c0 c1 h0 h1 ht h3 hL hIs hI hs
  unfold ES at hS
  go_enter Tryd.func17, Tryd.ntmps17
  go_wp2_with fail
  go_region_held3 (fun w' => w'.cell? ⟨b, 0, none⟩ = some (.string s) ∧ w'.cell? ⟨b, 1, none⟩ = some (.int .i64 n) ∧ Up w.heap.size w w') (first | assumption | exact ES.drew ‹_›) (first | (go_at_call 27; refine (itoa_ES w b s n HI.out.1 HI.out.2.1 _ HI.out.2.2.1 HI.out.2.2.2 (by assumption)).mono ?_; rintro e w' ⟨rfl, hw'⟩; rw [← HII.out]))
  go_wp2
  go_ret
  rw [HII.out]
  exact ⟨rfl, hw'.2.2.1⟩
theorem makes_zero (s : ByteArray) (n : Int) (w : World) (hg : Ety w) :
    Calls Tryd.prog 6 #[.string s, .int .i64 n, .int .i64 0] w fun e w' => e = .returned (.bool true) ∧ Below w.heap.size w w' := by
  have c7 := awake_any w hg
  clear hg
  go_enter Tryd.func6, Tryd.ntmps6
  go_wp2_with fail
  refine c7.mono ?_
  rintro e w1 ⟨rfl, hb1⟩
  have HU1 : Hid (Up w.heap.size w w1) := (Up.refl w).stay hb1
  clear c7 hb1
  go_wp2_with fail
  refine (of_nil w1).mono ?_
  rintro e w2 ⟨rfl, hw⟩
  subst w2
  go_wp2_with fail
  refine (new_nil s n w1).mono ?_
  rintro e w2 ⟨rfl, hw⟩
  subst w2
  go_wp2_with fail
  refine (new_nil s n w1).mono ?_
  rintro e w2 ⟨rfl, hw⟩
  subst w2
  go_wp2_with fail
  refine (code_nil w1).mono ?_
  rintro e w3 ⟨rfl, hb3⟩
  have HU3 : Hid (Up w.heap.size w w3) := HU1.out.stay hb3
  clear hb3 HU1
  go_wp2_with fail
  refine (inner_nil w3).mono ?_
  rintro e w4 ⟨rfl, hb4⟩
  have HU4 : Hid (Up w.heap.size w w4) := HU3.out.stay hb4
  clear hb4 HU3
  go_wp2
  go_ret
  exact ⟨rfl, HU4.out.1⟩
/-- What the last sentence reads, and keeps. -/
def MS (W : World) (tb b : Nat) (s : ByteArray) (n c : Int) (w' : World) : Prop :=
  w'.cell? ⟨tb, 0, none⟩ = some (.pointer (some ⟨b, 0, none⟩)) ∧ w'.cell? ⟨b, 0, none⟩ = some (.string s) ∧ w'.cell? ⟨b, 1, none⟩ = some (.int .i64 n) ∧ w'.cell? ⟨b, 2, none⟩ = some (.iface 27 (.int .i64 c)) ∧ Up W.heap.size W w'
theorem MS.stay {W : World} {tb b : Nat} {s : ByteArray} {n c : Int} {w w' : World} (h : MS W tb b s n c w) (hb : Below w.heap.size w w') : MS W tb b s n c w' :=
  ⟨cell_stay h.1 hb, cell_stay h.2.1 hb, cell_stay h.2.2.1 hb, cell_stay h.2.2.2.1 hb, h.2.2.2.2.stay hb⟩
theorem MS.drew {W : World} {tb b : Nat} {s : ByteArray} {n c : Int} {w : World} (h : MS W tb b s n c w) : MS W tb b s n c w.drew := ⟨h.1, h.2.1, h.2.2.1, h.2.2.2.1, h.2.2.2.2.drew⟩
/-- What holds where the last sentence begins. -/
def MH (W : World) (b : Nat) (s : ByteArray) (n c : Int) : Prop :=
  s.size ≤ 140737488355328 ∧ -9223372036854775808 ≤ n ∧ n ≤ 9223372036854775807 ∧ Tab W ∧ 1 < W.heap.size ∧ Ety W ∧ W.heap[b]? = some (.cells #[.string s, .int .i64 n, .iface 27 (.int .i64 c)] 46 (0, 0))
theorem error_MS (W : World) (tb b : Nat) (s : ByteArray) (n c : Int) (w : World) (h : MH W b s n c) (hw : MS W tb b s n c w) :
    Calls Tryd.prog 17 #[.pointer (some ⟨b, 0, none⟩)] w fun e w' => e = .returned (.string (errS s n)) ∧ MS W tb b s n c w' := by
  obtain ⟨h1, h2, h3, h4, h5, h6, h7⟩ := h
  have hb := hw.2.2.2.2.1
  exact (error_any b s n _ w h1 h2 h3 (h4.stay h5 hb) (Nat.lt_of_lt_of_le h5 hb.size) ((hb.block b (lt_of_heap h7)).trans h7)).mono fun e w' ⟨he, hb⟩ => ⟨he, hw.stay hb⟩
theorem unwrap_MS (W : World) (tb b : Nat) (s : ByteArray) (n c : Int) (w : World) (h : MH W b s n c) (hw : MS W tb b s n c w) :
    Calls Tryd.prog 18 #[.pointer (some ⟨b, 0, none⟩)] w fun e w' => e = .returned (.iface 27 (.int .i64 c)) ∧ MS W tb b s n c w' := by
  obtain ⟨h1, h2, h3, h4, h5, h6, h7⟩ := h
  have hb := hw.2.2.2.2.1
  exact (atUnwrap b s n _ w ((hb.block b (lt_of_heap h7)).trans h7)).mono fun e w' ⟨he, hw'⟩ => ⟨he, by rw [hw']; exact hw⟩
theorem code_MS (W : World) (tb b : Nat) (s : ByteArray) (n c : Int) (w : World) (h : MH W b s n c) (hw : MS W tb b s n c w) :
    Calls Tryd.prog 9 #[.iface 27 (.int .i64 c)] w fun e w' => e = .returned (.int .i64 c) ∧ MS W tb b s n c w' := by
  obtain ⟨h1, h2, h3, h4, h5, h6, h7⟩ := h
  have hb := hw.2.2.2.2.1
  exact (code_val [] (some c) 27 (.int .i64 c) w rfl (by simp) trivial (h6.stay hb)).mono fun e w' ⟨he, hb⟩ => ⟨he, hw.stay hb⟩
set_option maxHeartbeats 2000000 in
theorem makes_some (s : ByteArray) (n c : Int) (w : World) (hc : (c == 0) = false) (hs : s.size ≤ 140737488355328) (h0 : -9223372036854775808 ≤ n) (h1 : n ≤ 9223372036854775807) (hg : Ety w) (ht : Tab w) (h3 : 1 < w.heap.size) :
    Calls Tryd.prog 6 #[.string s, .int .i64 n, .int .i64 c] w fun e w' => e = .returned (.bool true) ∧ Below w.heap.size w w' := by
  have c7 := awake_any w hg
  have HH : Hid (s.size ≤ 140737488355328 ∧ -9223372036854775808 ≤ n ∧ n ≤ 9223372036854775807 ∧ Tab w ∧ 1 < w.heap.size ∧ Ety w) := ⟨hs, h0, h1, ht, h3, hg⟩
  clear hs h0 h1 ht h3 hg
  go_enter Tryd.func6, Tryd.ntmps6
  go_wp2_with fail
  refine c7.mono ?_
  rintro e w1 ⟨rfl, hb1⟩
  have HU1 : Hid (Up w.heap.size w w1) := (Up.refl w).stay hb1
  clear c7 hb1
  go_wp2_with fail
  refine (of_any c w1 hc).mono ?_
  rintro e w2 ⟨rfl, hw⟩
  subst w2
  go_wp2_with fail
  refine (new_any s n 27 (.int .i64 c) w1).mono ?_
  rintro e w2 ⟨rfl, hw⟩
  obtain ⟨b, hbn⟩ : ∃ b, w1.heap.size = b := ⟨_, rfl⟩
  have HL : Hid (Lie w2 [⟨false, b, s, n⟩] (some c)) := by
    rw [hw, ← hbn]
    exact Lie.new (l := []) (c := some c) trivial s n
  have HU2 : Hid (Up w.heap.size w w2) := by rw [hw]; exact HU1.out.alloc _
  rw [hbn]
  clear hw hbn HU1
  have tg : Tgt (w2.alloc (.cells #[.pointer none] 42)) ⟨w2.heap.size, 0, none⟩ := ⟨by simp, by simp [go_sem], .pointer none, by go_simp⟩
  have ca := AsAt b ⟨w2.heap.size, 0, none⟩ (w2.alloc (.cells #[.pointer none] 42)) ((HH.out.2.2.2.2.2.stay HU2.out.1).alloc _) tg
  have HT : Hid (Tgt (w2.alloc (.cells #[.pointer none] 42)) ⟨w2.heap.size, 0, none⟩) := tg
  clear tg
  go_wp2_with fail
  refine ca.mono ?_
  rintro e w4 ⟨rfl, w3, hb3, hw4⟩
  have HX : Hid (Up w2.heap.size w2 w4) := by rw [hw4]; exact (((Up.refl w2).alloc _).stay hb3).setCell (Nat.le_refl _) _
  have q0 : w4.cell? ⟨w2.heap.size, 0, none⟩ = some (.pointer (some ⟨b, 0, none⟩)) := by
    obtain ⟨_, _, old, h3⟩ := HT.out.stay hb3
    rw [hw4]
    simp [World.cell?_setCell_same, h3]
  clear hw4 hb3 HT ca
  obtain ⟨tb, htb⟩ : ∃ tb, w2.heap.size = tb := ⟨_, rfl⟩
  rw [htb] at q0 ⊢
  have HU4 : Hid (Up w.heap.size w w4) := HU2.out.stay HX.out.1
  have hL4 := HL.out.stay HX.out.1
  have HM : Hid (MH w4 b s n c) := ⟨HH.out.1, HH.out.2.1, HH.out.2.2.1, HH.out.2.2.2.1.stay HH.out.2.2.2.2.1 HU4.out.1, Nat.lt_of_lt_of_le HH.out.2.2.2.2.1 HU4.out.1.size, HH.out.2.2.2.2.2.stay HU4.out.1, (hL4.1 rfl).1⟩
  have r0 : w4.cell? ⟨b, 0, none⟩ = some (.string s) := by have := (hL4.1 rfl).1; simp [World.cell?, this]
  have r1 : w4.cell? ⟨b, 1, none⟩ = some (.int .i64 n) := by have := (hL4.1 rfl).1; simp [World.cell?, this]
  have r2 : w4.cell? ⟨b, 2, none⟩ = some (.iface 27 (.int .i64 c)) := by have := (hL4.1 rfl).1; simp [World.cell?, this, val]
  have hS : MS w4 tb b s n c w4 := ⟨q0, r0, r1, r2, Up.refl w4⟩
  clear hL4 htb HX HL HU2 HH q0 r0 r1 r2
  go_wp2_with fail
  unfold MS at hS
  go_region_held3 (fun w' => w'.cell? ⟨tb, 0, none⟩ = some (.pointer (some ⟨b, 0, none⟩)) ∧ w'.cell? ⟨b, 0, none⟩ = some (.string s) ∧ w'.cell? ⟨b, 1, none⟩ = some (.int .i64 n) ∧ w'.cell? ⟨b, 2, none⟩ = some (.iface 27 (.int .i64 c)) ∧ Up w4.heap.size w4 w') (first | assumption | exact MS.drew ‹_›) (first | (go_at_call 17; refine (error_MS w4 tb b s n c _ HM.out (by assumption)).mono ?_; rintro e w' ⟨rfl, hw'⟩) | (go_at_call 18; refine (unwrap_MS w4 tb b s n c _ HM.out (by assumption)).mono ?_; rintro e w' ⟨rfl, hw'⟩) | (go_at_call 9; refine (code_MS w4 tb b s n c _ HM.out (by assumption)).mono ?_; rintro e w' ⟨rfl, hw'⟩))
  go_wp2
  go_ret
  exact ⟨rfl, (HU4.out.stay hw'.2.2.2.2.1).1⟩
theorem makes_all (s : ByteArray) (n c : Int) (w : World) (hs : s.size ≤ 140737488355328) (hn : (Lit.int .i64 n).wf = true) (hg : Ety w) (ht : Tab w ∧ 1 < w.heap.size) :
    Calls Tryd.prog 6 #[.string s, .int .i64 n, .int .i64 c] w fun e w' => e = .returned (.bool true) ∧ Below w.heap.size w w' := by
  by_cases hc : c = 0
  · subst hc; exact makes_zero s n w hg
  · have hmin : IntKind.i64.min = -9223372036854775808 := by decide
    have hmax : IntKind.i64.max = 9223372036854775807 := by decide
    simp only [Lit.wf, Bool.and_eq_true, decide_eq_true_eq] at hn
    exact makes_some s n c w (by simpa using hc) hs (by omega) (by omega) hg ht.1 ht.2
end Go.Proofs.YthdjadkdjljciaaDoor
