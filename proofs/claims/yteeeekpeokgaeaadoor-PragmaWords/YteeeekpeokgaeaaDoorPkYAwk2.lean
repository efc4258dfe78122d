/- What pragma answers; the fixed fact. -/
import Derived.Test.YteeeekpeokgaeaaDooryRd
import Derived.Test.YteeeekpeokgaeaaDooryAl
import Derived.Test.YteeeekpeokgaeaaDooruBit
import Derived.Lib.SlBytesConst
import Derived.Test.YteeeekpeokgaeaaDoorRows
import Derived.Lib.LaidIn
import Derived.Lib.LaidU8T
import Derived.Shelf.LaysM
import Derived.LaidHandle
import Derived.Deep.DeepHandedRow
import Derived.Deep.DeepWitnessRowRef
import Derived.ProofKit
import Derived.OpenShut
import Derived.ShutString
import Derived.ChangeOld
import Derived.SizedLaws
import Derived.Lib.SmallJoins
namespace Go.Proofs.YteeeekpeokgaeaaDoor
set_option linter.unusedVariables false
open Go.RowKit Go.ChangeShapes Tns
/-- Rules in memory, however they are laid there: behind so many blocks, what they are, their lines, their words. -/
def RLt := World → Nat → Value → List (Nat × Nat) → List ByteArray → Prop
def KeepOk (RL : RLt) : Prop := ∀ (w w' : World) (base : Nat) (r : Value) (rows : List (Nat × Nat)) (ws : List ByteArray), RL w base r rows ws → w.heap.size ≤ w'.heap.size → (∀ g, base ≤ g → g < w.heap.size → w'.heap[g]? = w.heap[g]?) → RL w' base r rows ws
def ReadOk (RL : RLt) : Prop := ∀ (s : ByteArray) (v : Value) (w : World), s.size ≤ 8000 → PT w → Lns.BSl w v s →
  Calls Tryd.prog 11 #[v] w fun e w' => ∃ r, e = .returned r ∧ RL w' w.heap.size r (rdA s).r (rdA s).w ∧ Below w.heap.size w w'
def OffOk (RL : RLt) : Prop := ∀ (w : World) (base : Nat) (r : Value) (rows : List (Nat × Nat)) (ws : List ByteArray) (a : Int), RL w base r rows ws → (-9223372036854775808 ≤ a ∧ a ≤ 9223372036854775807) →
  Calls Tryd.prog 14 #[r, .int .i64 a] w fun e w' => e = .returned (.bool (offB rows a)) ∧ Below w.heap.size w w'
def KnowsOk (RL : RLt) : Prop := ∀ (w : World) (base : Nat) (r : Value) (rows : List (Nat × Nat)) (ws : List ByteArray) (t : ByteArray), RL w base r rows ws → t.size ≤ 5000 → Lns.Tabs w →
  Calls Tryd.prog 16 #[r, .string t] w fun e w' => e = .returned (.bool (knB ws (fld t))) ∧ Below w.heap.size w w'
def SpansOk (RL : RLt) : Prop := ∀ (w : World) (base : Nat) (r : Value) (rows : List (Nat × Nat)) (ws : List ByteArray), RL w base r rows ws →
  Calls Tryd.prog 13 #[r] w fun e w' => ∃ v, e = .returned v ∧ SpR w' w.heap.size v rows ∧ Below w.heap.size w w'
/-- All that the laws ask of pragma, but for nil rules. -/
def PragOk (RL : RLt) : Prop := KeepOk RL ∧ ReadOk RL ∧ OffOk RL ∧ KnowsOk RL ∧ SpansOk RL
theorem PragOk.stay {RL : RLt} (h : PragOk RL) {w w' : World} {base : Nat} {r : Value} {rows : List (Nat × Nat)} {ws : List ByteArray} (hr : RL w base r rows ws) (hb : Below w.heap.size w w') : RL w' base r rows ws :=
  h.1 w w' base r rows ws hr hb.size (fun g _ hg => hb.block g hg)
theorem bsl_of_bc {w : World} {ad : Option Addr} {n cap : Nat} {c : Nat → Int} (hC : ∀ j, j < n → 0 ≤ c j ∧ c j < 256) (hb : BC w ad n c) (hcap : n ≤ cap) : Lns.BSl w (.slice ad n cap) (strOfNums (cl c n)) := by
  have hsz : (strOfNums (cl c n)).size = n := by rw [strOfNums_size, cl_len]
  rcases Nat.eq_zero_or_pos n with h0 | h0
  · exact Or.inl ⟨ad, cap, by rw [h0], by rw [hsz, h0]⟩
  · obtain ⟨bx, ox, rfl, -⟩ := hb 0 h0
    exact Or.inr ⟨bx, ox, cap, by rw [hsz], by rw [hsz]; exact h0, by rw [hsz]; exact hcap, bc_by hC hb⟩
/-- The bytes of the example. -/
def exA : List Int := [97, 32, 115, 112, 101, 108, 108, 58, 111, 102, 102, 10, 98, 10, 99, 32, 115, 112, 101, 108, 108, 58, 111, 110, 10, 100]
theorem exA_rd : (rdA (strOfNums (cl (cL exA) 26))).r = [(0, 12), (12, 2), (14, 11)] := by kernel_rfl
set_option maxHeartbeats 4000000 in
set_option maxRecDepth 100000 in
theorem awake_any {RL : RLt} (PO : PragOk RL) (w : World) (hT : PT w) : Calls Tryd.prog 8 #[] w fun e w' => e = .returned (.bool true) ∧ Below w.heap.size w w' := by
  have hcA := fun (w' : World) => Go.Lib.run_convert_bytes_const (P := Tryd.prog) w' 22 5 #[.int .u8 97, .int .u8 32, .int .u8 115, .int .u8 112, .int .u8 101, .int .u8 108, .int .u8 108, .int .u8 58, .int .u8 111, .int .u8 102, .int .u8 102, .int .u8 10, .int .u8 98, .int .u8 10, .int .u8 99, .int .u8 32, .int .u8 115, .int .u8 112, .int .u8 101, .int .u8 108, .int .u8 108, .int .u8 58, .int .u8 111, .int .u8 110, .int .u8 10, .int .u8 100] 26 26 Tryd.underlying22 Tryd.underlying5
  obtain ⟨W, hW⟩ : ∃ W, w.alloc (.cells #[.int .u8 97, .int .u8 32, .int .u8 115, .int .u8 112, .int .u8 101, .int .u8 108, .int .u8 108, .int .u8 58, .int .u8 111, .int .u8 102, .int .u8 102, .int .u8 10, .int .u8 98, .int .u8 10, .int .u8 99, .int .u8 32, .int .u8 115, .int .u8 112, .int .u8 101, .int .u8 108, .int .u8 108, .int .u8 58, .int .u8 111, .int .u8 110, .int .u8 10, .int .u8 100] 5 (26, 27)) = W := ⟨_, rfl⟩
  have hL1 : BC W (some ⟨w.heap.size, 0, none⟩) 26 (cL exA) := by
    rw [← hW]
    exact (lit_bc w exA (26, 27)).congr fun i hi => by
      have hi' : i < exA.length := hi
      simp [cL, List.getElem?_eq_getElem hi']
  have hB1 : Below w.heap.size w W := by rw [← hW]; exact below_alloc w _
  have HB1 : Hid (Below w.heap.size w W) := hB1
  have hch : ∀ j, j < 26 → 0 ≤ cL exA j ∧ cL exA j < 256 := (cL_ch (byt_lit exA rfl)).1
  have HPO : Hid (PragOk RL) := PO
  have cr := PO.2.1 (strOfNums (cl (cL exA) 26)) (.slice (some ⟨w.heap.size, 0, none⟩) 26 26) W (by rw [strOfNums_size, cl_len]; decide) (hT.stay hB1) (bsl_of_bc hch hL1 (Nat.le_refl _))
  clear hL1 hB1 hT PO hch
  go_enter Tryd.func8, Tryd.ntmps8
  go_wp2_with fail

  refine cr.mono ?_
  rintro e w1 ⟨r, rfl, hr, hb1⟩
  rw [exA_rd] at hr
  have HB2 : Hid (Below w.heap.size w w1) := HB1.out.trans (hb1.mono HB1.out.size)
  have HR1 : Hid (RL w1 W.heap.size r [(0, 12), (12, 2), (14, 11)] (rdA (strOfNums (cl (cL exA) 26))).w) := hr
  obtain ⟨ws, hws⟩ : ∃ z, (rdA (strOfNums (cl (cL exA) 26))).w = z := ⟨_, rfl⟩
  rw [hws] at HR1
  have cs := HPO.out.2.2.2.2 w1 _ _ _ _ HR1.out
  clear cr hr hb1 hcA hW hws
  go_wp2_with fail
  refine cs.mono ?_
  rintro e w2 ⟨v2, rfl, hS, hb2⟩
  have HR2 : Hid (RL w2 W.heap.size r [(0, 12), (12, 2), (14, 11)] ws) := HPO.out.stay HR1.out hb2
  have HB3 : Hid (Below w.heap.size w w2) := HB2.out.trans (hb2.mono HB2.out.size)
  obtain ⟨va, vc, rfl⟩ : ∃ a c, v2 = .slice a 3 c := by
    obtain ⟨a, c, e1, -⟩ := hS.any
    exact ⟨a, c, e1⟩
  have c1 := HPO.out.2.2.1 w2 _ _ _ _ 0 HR2.out (by decide)
  rw [show offB [(0, 12), (12, 2), (14, 11)] 0 = true by decide] at c1
  clear cs hS hb2 HR1
  go_wp2_with fail
  refine c1.mono ?_
  rintro e w3 ⟨rfl, hb3⟩
  have HR3 : Hid (RL w3 W.heap.size r [(0, 12), (12, 2), (14, 11)] ws) := HPO.out.stay HR2.out hb3
  have HB4 : Hid (Below w.heap.size w w3) := HB3.out.trans (hb3.mono HB3.out.size)
  have c2 := HPO.out.2.2.1 w3 _ _ _ _ 15 HR3.out (by decide)
  rw [show offB [(0, 12), (12, 2), (14, 11)] 15 = true by decide] at c2
  clear c1 hb3 HR2
  go_wp2_with fail
  refine c2.mono ?_
  rintro e w4 ⟨rfl, hb4⟩
  have HR4 : Hid (RL w4 W.heap.size r [(0, 12), (12, 2), (14, 11)] ws) := HPO.out.stay HR3.out hb4
  have HB5 : Hid (Below w.heap.size w w4) := HB4.out.trans (hb4.mono HB4.out.size)
  have c3 := HPO.out.2.2.1 w4 _ _ _ _ 26 HR4.out (by decide)
  rw [show offB [(0, 12), (12, 2), (14, 11)] 26 = false by decide] at c3
  clear c2 hb4 HR3
  go_wp2_with fail
  refine c3.mono ?_
  rintro e w5 ⟨rfl, hb5⟩
  have HB6 : Hid (Below w.heap.size w w5) := HB5.out.trans (hb5.mono HB5.out.size)
  clear c3 hb5
  go_wp2
  go_ret
  exact ⟨rfl, HB6.out⟩
end Go.Proofs.YteeeekpeokgaeaaDoor
/- What the rows share: the tables; what comes in. -/
namespace Go.Proofs.YteeeekpeokgaeaaDoor
set_option linter.unusedVariables false
open Go.ChangeShapes Go.WideShapes Go.ChangeAt Go.RowKit Go.Joins Go.Shelf
theorem own : ownKnob Tryd.prog.godebug = none := by kernel_rfl
theorem laidOut : laidOutB Tryd.prog = true := by kernel_rfl
/-- The two tables, as the rows list them. -/
def tabsL : List (String × DataW Unit) := [("unicode/utf8.acceptRanges", Rows.laid_unicode_utf8_acceptRanges), ("unicode/utf8.first", Rows.laid_unicode_utf8_first)]
/-- A world in which the two tables are laid. -/
def putC (cs : Array Value) : Obj → Obj
  | .cells _ t frozen => .cells cs t frozen
  | o => o
def laidOf (w0 : World) : World :=
  { w0 with heap := (w0.heap.modify 1 (putC (Lib.firstTab.map fun z => Value.int .u8 z).toArray)).modify 2 (putC ((List.range 16).flatMap fun i => [Value.int .u8 (Lib.accLo i), Value.int .u8 (Lib.accHi i)]).toArray) }
theorem laid_met (os : Os) (args : Array Value) : laidMet Tryd.prog tabsL ((laidOf (World.holding Tryd.prog os ⟨#[], #[], []⟩)).forCall (fun _ _ => 0) ⟨#[], args, []⟩).memory :=
  (LaidIn.of_run (l := tabsL) [1, 2] 8 (by kernel_rfl) (by kernel_rfl) (by kernel_rfl) (by kernel_rfl)).met
theorem acc_data : Rows.laid_unicode_utf8_acceptRanges = Lib.acceptData := by kernel_rfl
theorem first_data : Rows.laid_unicode_utf8_first = Lib.firstData := by kernel_rfl
def u8ren : Ren := ⟨fun n => n, fun | 5 => 5 | 119 => 115 | 138 => 117 | 139 => 118 | n => n, fun | 3 => 1 | 4 => 2 | n => n⟩
theorem u8types : U8Types Tryd.prog u8ren := ⟨Tryd.underlying5, Tryd.underlying115, Tryd.underlying117, Tryd.underlying118⟩
theorem tabs_of {W : World} (hL : laidMet Tryd.prog tabsL W) : Lns.Tabs W := by
  have h1 := Lib.laidMet.reads hL (.head _)
  have h2 := Lib.laidMet.reads hL (.tail _ (.head _))
  rw [acc_data] at h1
  rw [first_data] at h2
  exact utf8Tabs_of_readsT u8types ⟨by kernel_rfl, by kernel_rfl, by kernel_rfl, by kernel_rfl, by kernel_rfl, by kernel_rfl, by kernel_rfl⟩ h2 h1
theorem tabs_in {W : World} (h : laidMetH Tryd.prog tabsL W) : Lns.Tabs W := by
  have h' : laidMet Tryd.prog tabsL W := h
  exact tabs_of h'
theorem pt_in {W : World} (h : laidMetH Tryd.prog tabsL W) (hs : W.ShapedOpen Tryd.prog) : PT W :=
  ⟨tabs_in h, cell_of_shapedOpen_int (P := Tryd.prog) (g := 0) (t := 3) (zero := #[.int .i64 0]) hs (of_decide_eq_true (by kernel_rfl)) (by kernel_rfl) rfl (by kernel_rfl) (by kernel_rfl) Tryd.underlying3⟩
theorem addr_add (b off j : Nat) : (⟨b, off, none⟩ : Addr).add j = ⟨b, off + j, none⟩ := by
  unfold Addr.add; split <;> simp_all
theorem one5 : Tryd.prog.cellsOf 5 = 1 := by kernel_rfl
theorem u8_wf {z : Int} (h : (Lit.int .u8 z).wf = true) : 0 ≤ z ∧ z < 256 := by
  simp only [Lit.wf] at h
  have e1 : IntKind.u8.min = 0 := by decide
  have e2 : IntKind.u8.max = 255 := by decide
  revert h
  simp
  omega
theorem bc_trod {H : Type} {enc : TypeId × Value → H} {W : World} {base : Nat} {spare : Nat → Bool} {held : Bool} {fuel : Nat} {cs : List Value} {x : DataW H × List MemPlace} (h : DataW.trod enc Tryd.prog W base spare held fuel 22 cs = some x) :
    ∃ ad n cap c, cs = [.slice ad n cap] ∧ Ch c n ∧ BC W ad n c ∧ n ≤ cap ∧ n ≤ maxLen := by
  rcases open_ints Tryd.underlying22 Tryd.underlying5 one5 h with ⟨hcs, _⟩ | ⟨a, len, cap, zs, hcs, _, hl, hm, hz, _, hc, hwf⟩
  · exact ⟨none, 0, 0, fun _ => -1, hcs, ⟨fun i hi => absurd hi (Nat.not_lt_zero _), fun _ _ => rfl⟩, BC.zero _ _ _, Nat.le_refl _, Nat.zero_le _⟩
  · have hzl : len ≤ zs.length := by rw [hz]; split <;> omega
    refine ⟨some a, len, cap, cL (zs.take len), hcs, ?_, fun i hi => ?_, hl, by omega⟩
    · have h1 : Ch (cL (zs.take len)) (zs.take len).length := cL_ch (fun y hy => u8_wf (hwf y (List.mem_of_mem_take hy)))
      rw [List.length_take, Nat.min_eq_left hzl] at h1
      exact h1
    · obtain ⟨b, off, spot⟩ := a
      have hspot : spot = none := by simpa [Addr.add] using World.cell?_spot (hc 0 (by omega))
      subst hspot
      have h2 := hc i (by omega)
      rw [addr_add] at h2
      refine ⟨b, off, rfl, ?_⟩
      rw [h2]
      have hi' : i < zs.length := by omega
      simp [cL, hi, List.getElem?_eq_getElem hi']
end Go.Proofs.YteeeekpeokgaeaaDoor
