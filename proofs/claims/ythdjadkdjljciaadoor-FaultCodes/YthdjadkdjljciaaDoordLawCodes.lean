/- FaultCodes: the number that an error has. -/
import Derived.Test.YthdjadkdjljciaaDoordMad
namespace Go.Proofs.YthdjadkdjljciaaDoor
set_option linter.unusedVariables false
open Go.RowKit Go.ChangeShapes

theorem codes_zero (n : Int) (a : Option Addr) (len cap : Nat) (F : Nat → ByteArray × Int × Bool) (w : World) (hl : len ≤ 40) (hg : Ety w) (h : Pls w a len F) :
    Calls Tryd.prog 3 #[.int .i64 0, .int .i64 n, .slice a len cap] w fun e w' => e = .returned (.bool true) ∧ Below w.heap.size w w' := by
  have HG : Hid (Ety w) := hg
  have HP : Hid (Pls w a len F) := h
  have c7 := awake_any w hg
  clear hg h
  go_enter Tryd.func3, Tryd.ntmps3
  go_wp2_with fail
  refine c7.mono ?_
  rintro e w1 ⟨rfl, hb1⟩
  have HU1 : Hid (Up w.heap.size w w1) := (Up.refl w).stay hb1
  have c8 := made_zero a len cap F w1 hl (HP.out.stay hb1)
  clear c7 hb1
  go_wp2_with fail
  refine c8.mono ?_
  rintro e w2 ⟨rfl, hb2⟩
  have HU2 : Hid (Up w.heap.size w w2) := HU1.out.stay hb2
  clear c8 hb2 HU1
  go_wp2_with fail
  refine (code_nil w2).mono ?_
  rintro e w3 ⟨rfl, hb3⟩
  have HU3 : Hid (Up w.heap.size w w3) := HU2.out.stay hb3
  clear hb3 HU2
  go_wp2_with fail
  refine (fis_nil n w3).mono ?_
  rintro e w4 ⟨rfl, hb4⟩
  have HU4 : Hid (Up w.heap.size w w4) := HU3.out.stay hb4
  clear hb4 HU3
  have c9 := code_val [⟨true, 0, ⟨#[]⟩, 0⟩] none 31 (.agg #[.nilIface]) w4 rfl (by simp) ⟨fun e => (by cases e), trivial⟩ (HG.out.stay HU4.out.1)
  simp only [numb] at c9
  by_cases hn : n = 0
  · subst hn
    go_wp2_with fail
    refine c9.mono ?_
    rintro e w5 ⟨rfl, hb5⟩
    have HU5 : Hid (Up w.heap.size w w5) := HU4.out.stay hb5
    clear hb5 HU4 c9
    go_wp2
    go_ret
    exact ⟨rfl, HU5.out.1⟩
  · have hn1 : (n == 0) = false := by simpa using hn
    clear hn
    go_wp2_with fail
    refine c9.mono ?_
    rintro e w5 ⟨rfl, hb5⟩
    have HU5 : Hid (Up w.heap.size w w5) := HU4.out.stay hb5
    clear hb5 HU4 c9
    go_wp2
    go_ret
    exact ⟨rfl, HU5.out.1⟩
theorem codes_some (c n : Int) (hc : (c == 0) = false) (a : Option Addr) (len cap : Nat) (F : Nat → ByteArray × Int × Bool) (w : World) (hl : len ≤ 40) (hg : Ety w) (h : Pls w a len F) :
    Calls Tryd.prog 3 #[.int .i64 c, .int .i64 n, .slice a len cap] w fun e w' => e = .returned (.bool true) ∧ Below w.heap.size w w' := by
  have HG : Hid (Ety w) := hg
  have HP : Hid (Pls w a len F) := h
  have c7 := awake_any w hg
  clear hg h
  go_enter Tryd.func3, Tryd.ntmps3
  go_wp2_with fail
  refine c7.mono ?_
  rintro e w1 ⟨rfl, hb1⟩
  have HU1 : Hid (Up w.heap.size w w1) := (Up.refl w).stay hb1
  have c8 := made_any c hc a len cap F w1 hl (HP.out.stay hb1)
  clear c7 hb1
  go_wp2_with fail
  refine c8.mono ?_
  rintro e w2 ⟨v, rfl, ⟨l, T, x, rfl, hv, hll, hm, hL⟩, hb2⟩
  have HV : Hid (val l (some c) = .iface T x ∧ l.length ≤ 100) := ⟨hv, by omega⟩
  have HL : Hid (Lie w2 l (some c)) := hL
  have HU2 : Hid (Up w.heap.size w w2) := HU1.out.stay hb2
  clear c8 hb2 HU1 hv hll hm hL
  have c9 := code_val l (some c) T x w2 HV.out.1 HV.out.2 HL.out (HG.out.stay HU2.out.1)
  simp only [numb] at c9
  go_wp2_with fail
  refine c9.mono ?_
  rintro e w3 ⟨rfl, hb3⟩
  have HU3 : Hid (Up w.heap.size w w3) := HU2.out.stay hb3
  have HL3 : Hid (Lie w3 l (some c)) := HL.out.stay hb3
  clear hb3 HU2 c9 HL
  have c10 := fis_val l c c T x w3 HV.out.1 HV.out.2 HL3.out
  rw [beq_self_eq_true] at c10
  go_wp2_with fail
  refine c10.mono ?_
  rintro e w4 ⟨rfl, hb4⟩
  have HU4 : Hid (Up w.heap.size w w4) := HU3.out.stay hb4
  have HL4 : Hid (Lie w4 l (some c)) := HL3.out.stay hb4
  clear hb4 HU3 HL3 c10
  have c11 := fis_val l c n T x w4 HV.out.1 HV.out.2 HL4.out
  go_wp2_with fail
  refine c11.mono ?_
  rintro e w5 ⟨rfl, hb5⟩
  have HU5 : Hid (Up w.heap.size w w5) := HU4.out.stay hb5
  clear hb5 HU4 HL4 c11
  have c9 := code_val [⟨true, 0, ⟨#[]⟩, 0⟩] none 31 (.agg #[.nilIface]) w5 rfl (by simp) ⟨fun e => (by cases e), trivial⟩ (HG.out.stay HU5.out.1)
  simp only [numb] at c9
  by_cases hn : c = n
  · subst hn
    have hc2 : (c != 0) = true := by simp only [bne, hc, Bool.not_false]
    go_wp2_with fail
    refine c9.mono ?_
    rintro e w6 ⟨rfl, hb6⟩
    have HU6 : Hid (Up w.heap.size w w6) := HU5.out.stay hb6
    clear hb6 HU5 c9
    go_wp2
    go_ret
    exact ⟨rfl, HU6.out.1⟩
  · have hn1 : (c == n) = false := by simpa using hn
    have hn2 : (n == c) = false := by simpa using fun e => hn e.symm
    clear hn
    go_wp2_with fail
    refine c9.mono ?_
    rintro e w6 ⟨rfl, hb6⟩
    have HU6 : Hid (Up w.heap.size w w6) := HU5.out.stay hb6
    clear hb6 HU5 c9
    go_wp2
    go_ret
    exact ⟨rfl, HU6.out.1⟩
theorem codes_many (c n : Int) (a : Option Addr) (len cap : Nat) (w : World) (hl : 40 < len) (hg : Ety w) :
    Calls Tryd.prog 3 #[.int .i64 c, .int .i64 n, .slice a len cap] w fun e w' => e = .returned (.bool true) ∧ Below w.heap.size w w' := by
  have c7 := awake_any w hg
  clear hg
  go_enter Tryd.func3, Tryd.ntmps3
  go_wp2_with fail
  refine c7.mono ?_
  rintro e w1 ⟨rfl, hb1⟩
  go_wp2
  go_ret
  exact ⟨rfl, hb1⟩
theorem codes_all (c n : Int) (a : Option Addr) (len cap : Nat) (F : Nat → ByteArray × Int × Bool) (w : World) (hg : Ety w) (h : Pls w a len F) :
    Calls Tryd.prog 3 #[.int .i64 c, .int .i64 n, .slice a len cap] w fun e w' => e = .returned (.bool true) ∧ Below w.heap.size w w' := by
  by_cases hl : len ≤ 40
  · by_cases hc : c = 0
    · subst hc; exact codes_zero n a len cap F w hl hg h
    · exact codes_some c n (by simpa using hc) a len cap F w hl hg h
  · exact codes_many c n a len cap w (by omega) hg
end Go.Proofs.YthdjadkdjljciaaDoor
