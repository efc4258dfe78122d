/- What the rows share: the tables; what comes in. -/
import Derived.Test.YtbhjkkbempnjeaaDoorRows
import Derived.Test.YtbhjkkbempnjeaaDoorPkVF3
import Derived.Lib.LaidIn
import Derived.Lib.LaidU8T
import Derived.Shelf.LaysM
import Derived.LaidHandle
import Derived.Deep.DeepHandedRow
import Derived.Deep.DeepWitnessRowRef
import Derived.ProofKit
import Derived.OpenShut
import Derived.ShutString
import Derived.ChangeOld
import Derived.SizedLaws
import Derived.Lib.SmallJoins
import Derived.Test.YtbhjkkbempnjeaaDooruSml
import Derived.WalkKit
import Derived.Below
import Derived.WalkSmall
import Derived.Deep.QuietTactic
import Derived.BigQuiet
namespace Go.Proofs.YtbhjkkbempnjeaaDoor
set_option linter.unusedVariables false
open Go.ChangeShapes Go.WideShapes Go.ChangeAt Go.RowKit Go.Joins Go.Shelf
theorem own : ownKnob Tryd.prog.godebug = none := by kernel_rfl
theorem laidOut : laidOutB Tryd.prog = true := by kernel_rfl
/-- The two tables, as the rows list them. -/
def tabsL : List (String × DataW Unit) := [("unicode/utf8.acceptRanges", Rows.laid_unicode_utf8_acceptRanges), ("unicode/utf8.first", Rows.laid_unicode_utf8_first)]
/-- A world in which the two tables are laid. -/
def putC (cs : Array Value) : Obj → Obj
  | .cells _ t frozen => .cells cs t frozen
  | o => o
def laidOf (w0 : World) : World :=
  { w0 with heap := (w0.heap.modify 0 (putC (Lib.firstTab.map fun z => Value.int .u8 z).toArray)).modify 1 (putC ((List.range 16).flatMap fun i => [Value.int .u8 (Lib.accLo i), Value.int .u8 (Lib.accHi i)]).toArray) }
theorem laid_met (os : Os) (args : Array Value) : laidMet Tryd.prog tabsL ((laidOf (World.holding Tryd.prog os ⟨#[], #[], []⟩)).forCall (fun _ _ => 0) ⟨#[], args, []⟩).memory :=
  (LaidIn.of_run (l := tabsL) [0, 1] 8 (by kernel_rfl) (by kernel_rfl) (by kernel_rfl) (by kernel_rfl)).met
theorem acc_data : Rows.laid_unicode_utf8_acceptRanges = Lib.acceptData := by kernel_rfl
theorem first_data : Rows.laid_unicode_utf8_first = Lib.firstData := by kernel_rfl
def u8ren : Ren := ⟨fun n => n, fun | 5 => 5 | 119 => 96 | 138 => 98 | 139 => 99 | n => n, fun | 3 => 0 | 4 => 1 | n => n⟩
theorem u8types : U8Types Tryd.prog u8ren := ⟨Tryd.underlying5, Tryd.underlying96, Tryd.underlying98, Tryd.underlying99⟩
theorem tabs_of {W : World} (hL : laidMet Tryd.prog tabsL W) : Lns.Tabs W := by
  have h1 := Lib.laidMet.reads hL (.head _)
  have h2 := Lib.laidMet.reads hL (.tail _ (.head _))
  rw [acc_data] at h1
  rw [first_data] at h2
  exact utf8Tabs_of_readsT u8types ⟨by kernel_rfl, by kernel_rfl, by kernel_rfl, by kernel_rfl, by kernel_rfl, by kernel_rfl, by kernel_rfl⟩ h2 h1
theorem tabs_in {W : World} (h : laidMetH Tryd.prog tabsL W) : Lns.Tabs W := by
  have h' : laidMet Tryd.prog tabsL W := h
  exact tabs_of h'
theorem addr_add (b off j : Nat) : (⟨b, off, none⟩ : Addr).add j = ⟨b, off + j, none⟩ := by
  unfold Addr.add; split <;> simp_all
theorem one5 : Tryd.prog.cellsOf 5 = 1 := by kernel_rfl
theorem u8_wf {z : Int} (h : (Lit.int .u8 z).wf = true) : 0 ≤ z ∧ z < 256 := by
  simp only [Lit.wf] at h
  have e1 : IntKind.u8.min = 0 := by decide
  have e2 : IntKind.u8.max = 255 := by decide
  revert h
  simp
  omega
theorem bc_trod {H : Type} {enc : TypeId × Value → H} {W : World} {base : Nat} {spare : Nat → Bool} {held : Bool} {fuel : Nat} {cs : List Value} {x : DataW H × List MemPlace} (h : DataW.trod enc Tryd.prog W base spare held fuel 22 cs = some x) :
    ∃ ad n cap c, cs = [.slice ad n cap] ∧ Ch c n ∧ BC W ad n c ∧ n ≤ cap ∧ n ≤ maxLen := by
  rcases open_ints Tryd.underlying22 Tryd.underlying5 one5 h with ⟨hcs, _⟩ | ⟨a, len, cap, zs, hcs, _, hl, hm, hz, _, hc, hwf⟩
  · exact ⟨none, 0, 0, fun _ => -1, hcs, ⟨fun i hi => absurd hi (Nat.not_lt_zero _), fun _ _ => rfl⟩, BC.zero _ _ _, Nat.le_refl _, Nat.zero_le _⟩
  · have hzl : len ≤ zs.length := by rw [hz]; split <;> omega
    refine ⟨some a, len, cap, cL (zs.take len), hcs, ?_, fun i hi => ?_, hl, by omega⟩
    · have h1 : Ch (cL (zs.take len)) (zs.take len).length := cL_ch (fun y hy => u8_wf (hwf y (List.mem_of_mem_take hy)))
      rw [List.length_take, Nat.min_eq_left hzl] at h1
      exact h1
    · obtain ⟨b, off, spot⟩ := a
      have hspot : spot = none := by simpa [Addr.add] using World.cell?_spot (hc 0 (by omega))
      subst hspot
      have h2 := hc i (by omega)
      rw [addr_add] at h2
      refine ⟨b, off, rfl, ?_⟩
      rw [h2]
      have hi' : i < zs.length := by omega
      simp [cL, hi, List.getElem?_eq_getElem hi']
end Go.Proofs.YtbhjkkbempnjeaaDoor
/- Letters and their cases: one rune. -/
namespace Go.Proofs.YtbhjkkbempnjeaaDoor
set_option linter.unusedVariables false
open Go.RowKit Go.ChangeShapes
theorem up_any (r : Int) (h : Fit r) (w : World) : Calls Tryd.prog 57 #[.int .i32 r] w fun e w' => e = .returned (.int .i32 (up r)) ∧ w' = w := by
  have c := small_any r h w
  cases hb : sB r <;> rw [hb] at c
  · rw [show up r = r by unfold up; rw [hb]; rfl]
    clear h hb
    go_enter Tryd.func57, Tryd.ntmps57
    go_wp2_with fail
    refine c.mono ?_
    rintro e w' ⟨rfl, rfl⟩
    go_wp2
    go_ret
    exact ⟨rfl, rfl⟩
  · rw [show up r = r - 32 by unfold up; rw [hb]; rfl]
    have hi := hb
    unfold sB at hi
    rw [gB_iff] at hi
    have hw : IntKind.i32.wrap (r - 32) = r - 32 := by simp [IntKind.wrap, IntKind.bits, IntKind.signed]; omega
    clear h hb hi
    go_enter Tryd.func57, Tryd.ntmps57
    go_wp2_with fail
    refine c.mono ?_
    rintro e w' ⟨rfl, rfl⟩
    go_wp2
    go_ret
    exact ⟨rfl, rfl⟩
theorem down_any (r : Int) (h : Fit r) (w : World) : Calls Tryd.prog 58 #[.int .i32 r] w fun e w' => e = .returned (.int .i32 (dn r)) ∧ w' = w := by
  have c := great_any r w
  cases hb : gB r <;> rw [hb] at c
  · rw [show dn r = r by unfold dn; rw [hb]; rfl]
    clear h hb
    go_enter Tryd.func58, Tryd.ntmps58
    go_wp2_with fail
    refine c.mono ?_
    rintro e w' ⟨rfl, rfl⟩
    go_wp2
    go_ret
    exact ⟨rfl, rfl⟩
  · rw [show dn r = r + 32 by unfold dn; rw [hb]; rfl]
    have hi := hb
    
    rw [gB_iff] at hi
    have hw : IntKind.i32.wrap (r + 32) = r + 32 := by simp [IntKind.wrap, IntKind.bits, IntKind.signed]; omega
    clear h hb hi
    go_enter Tryd.func58, Tryd.ntmps58
    go_wp2_with fail
    refine c.mono ?_
    rintro e w' ⟨rfl, rfl⟩
    go_wp2
    go_ret
    exact ⟨rfl, rfl⟩
theorem clos_any (r : Int) (w : World) : Calls Tryd.prog 56 #[.int .i32 r] w fun e w' => e = .returned (.bool (decide (r < 0))) ∧ w' = w := by
  go_enter Tryd.func56, Tryd.ntmps56
  go_wp2
  all_goals (go_ret; exact ⟨by simp_all, rfl⟩)
end Go.Proofs.YtbhjkkbempnjeaaDoor
/- Letters; a sign in a case. -/
namespace Go.Proofs.YtbhjkkbempnjeaaDoor
set_option linter.unusedVariables false
open Go.RowKit Go.ChangeShapes
/-- A sign in a case. -/
def wrt (c r : Int) (first : Bool) : Int := bif c == 3 then up r else bif c == 2 then (bif first then up r else dn r) else bif c == 1 then dn r else r
theorem fwr_upper (r : Int) (h : Fit r) (w : World) (b : Bool) : Calls Tryd.prog 41 #[.int .u8 3, .int .i32 r, .bool b] w fun e w' => e = .returned (.int .i32 (up r)) ∧ w' = w := by
  have c := up_any r h w
  generalize up r = y at c ⊢
  clear h
  go_enter Tryd.func41, Tryd.ntmps41
  go_wp2_with fail
  refine c.mono ?_
  rintro e w' ⟨rfl, rfl⟩
  go_wp2
  go_ret
  exact ⟨rfl, rfl⟩
theorem fwr_first (r : Int) (h : Fit r) (w : World) : Calls Tryd.prog 41 #[.int .u8 2, .int .i32 r, .bool true] w fun e w' => e = .returned (.int .i32 (up r)) ∧ w' = w := by
  have c := up_any r h w
  generalize up r = y at c ⊢
  clear h
  go_enter Tryd.func41, Tryd.ntmps41
  go_wp2_with fail
  refine c.mono ?_
  rintro e w' ⟨rfl, rfl⟩
  go_wp2
  go_ret
  exact ⟨rfl, rfl⟩
theorem fwr_rest (r : Int) (h : Fit r) (w : World) : Calls Tryd.prog 41 #[.int .u8 2, .int .i32 r, .bool false] w fun e w' => e = .returned (.int .i32 (dn r)) ∧ w' = w := by
  have c := down_any r h w
  generalize dn r = y at c ⊢
  clear h
  go_enter Tryd.func41, Tryd.ntmps41
  go_wp2_with fail
  refine c.mono ?_
  rintro e w' ⟨rfl, rfl⟩
  go_wp2
  go_ret
  exact ⟨rfl, rfl⟩
theorem fwr_lower (r : Int) (h : Fit r) (w : World) (b : Bool) : Calls Tryd.prog 41 #[.int .u8 1, .int .i32 r, .bool b] w fun e w' => e = .returned (.int .i32 (dn r)) ∧ w' = w := by
  have c := down_any r h w
  generalize dn r = y at c ⊢
  clear h
  go_enter Tryd.func41, Tryd.ntmps41
  go_wp2_with fail
  refine c.mono ?_
  rintro e w' ⟨rfl, rfl⟩
  go_wp2
  go_ret
  exact ⟨rfl, rfl⟩
theorem fwr_mixed (c : Int) (h3 : (c == 3) = false) (h2 : (c == 2) = false) (h1 : (c == 1) = false) (r : Int) (w : World) (b : Bool) : Calls Tryd.prog 41 #[.int .u8 c, .int .i32 r, .bool b] w fun e w' => e = .returned (.int .i32 r) ∧ w' = w := by
  go_enter Tryd.func41, Tryd.ntmps41
  go_wp2
  go_ret
  exact ⟨rfl, rfl⟩
theorem fwr_any (c r : Int) (b : Bool) (h : Fit r) (w : World) : Calls Tryd.prog 41 #[.int .u8 c, .int .i32 r, .bool b] w fun e w' => e = .returned (.int .i32 (wrt c r b)) ∧ w' = w := by
  unfold wrt
  cases h3 : (c == 3)
  · cases h2 : (c == 2)
    · cases h1 : (c == 1)
      · exact fwr_mixed c h3 h2 h1 r w b
      · obtain rfl : c = 1 := by simpa using h1
        exact fwr_lower r h w b
    · obtain rfl : c = 2 := by simpa using h2
      cases b
      · exact fwr_rest r h w
      · exact fwr_first r h w
  · obtain rfl : c = 3 := by simpa using h3
    exact fwr_upper r h w b
end Go.Proofs.YtbhjkkbempnjeaaDoor
