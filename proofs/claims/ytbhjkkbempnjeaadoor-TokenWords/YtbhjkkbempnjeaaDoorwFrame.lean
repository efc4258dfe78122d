/- What the rows share: the variables as they are laid; what comes in. -/
import Derived.Test.YtbhjkkbempnjeaaDoorRows
import Derived.Test.YtbhjkkbempnjeaaDoorwUni
import Derived.Test.YtbhjkkbempnjeaaDoorvFrm
import Derived.Lib.LaidIn
import Derived.Lib.LaidU8T
import Derived.Shelf.LaysM
import Derived.LaidHandle
import Derived.Deep.DeepHandedRow
import Derived.Deep.DeepWitnessRowRef
import Derived.ProofKit
import Derived.OpenShut
import Derived.ShutString
import Derived.ChangeOld
import Derived.SizedLaws
import Derived.Lib.SmallJoins
namespace Go.Proofs.YtbhjkkbempnjeaaDoor
set_option linter.unusedVariables false
open Go.ChangeShapes Go.WideShapes Go.ChangeAt Go.RowKit Go.Joins Go.Shelf
theorem own : ownKnob Tryd.prog.godebug = none := by kernel_rfl
theorem laidOut : laidOutB Tryd.prog = true := by kernel_rfl
/-- The variables, as the rows list them. -/
def layL : List (String × DataW Unit) := [("math/bits.deBruijn32tab", Rows.laid_math_bits_deBruijn32tab), ("math/bits.deBruijn64tab", Rows.laid_math_bits_deBruijn64tab), ("internal/strconv.uint64pow10", Rows.laid_internal_strconv_uint64pow10), ("unicode/utf8.acceptRanges", Rows.laid_unicode_utf8_acceptRanges), ("strconv.ErrRange", Rows.laid_strconv_ErrRange), ("strconv.ErrSyntax", Rows.laid_strconv_ErrSyntax), ("redpen/decode.entities", Rows.laid_redpen_decode_entities), ("unicode/utf8.first", Rows.laid_unicode_utf8_first)]
/-- A world in which they are laid. -/
def putC (cs : Array Value) : Obj → Obj
  | .cells _ t frozen => .cells cs t frozen
  | o => o
def numsOf : DataW Unit → Array Value
  | .agg parts => (parts.map fun
    | .lit (.int k z) => Value.int k z
    | _ => undef).toArray
  | _ => #[]
def laidOf (w0 : World) : World :=
  { w0 with heap := ((((((((((w0.heap.modify 0 (putC (Lib.firstTab.map fun z => Value.int .u8 z).toArray)).modify 1 (putC ((List.range 16).flatMap fun i => [Value.int .u8 (Lib.accLo i), Value.int .u8 (Lib.accHi i)]).toArray)).modify 2 (putC entV.toArray)).modify 7 (putC (numsOf Rows.laid_math_bits_deBruijn32tab))).modify 8 (putC (numsOf Rows.laid_math_bits_deBruijn64tab))).modify 6 (putC (numsOf Rows.laid_internal_strconv_uint64pow10))).modify 4 (putC #[.iface 126 (.pointer (some ⟨14, 0, none⟩))])).modify 5 (putC #[.iface 126 (.pointer (some ⟨14 + 1, 0, none⟩))])).push (.cells #[.string ⟨#[105, 110, 118, 97, 108, 105, 100, 32, 115, 121, 110, 116, 97, 120]⟩] 128)).push (.cells #[.string ⟨#[118, 97, 108, 117, 101, 32, 111, 117, 116, 32, 111, 102, 32, 114, 97, 110, 103, 101]⟩] 128)) }
theorem laid_met (os : Os) (args : Array Value) : laidMet Tryd.prog layL ((laidOf (World.holding Tryd.prog os ⟨#[], #[], []⟩)).forCall (fun _ _ => 0) ⟨#[], args, []⟩).memory :=
  (LaidIn.of_run (l := layL) [0, 1, 2, 7, 8, 6, 4, 5, 14, 14 + 1] 8 (by kernel_rfl) (by kernel_rfl) (by kernel_rfl) (by kernel_rfl)).met
theorem acc_data : Rows.laid_unicode_utf8_acceptRanges = Lib.acceptData := by kernel_rfl
theorem first_data : Rows.laid_unicode_utf8_first = Lib.firstData := by kernel_rfl
def u8ren : Ren := ⟨fun n => n, fun | 5 => 5 | 119 => 96 | 138 => 98 | 139 => 99 | n => n, fun | 3 => 0 | 4 => 1 | n => n⟩
theorem u8types : U8Types Tryd.prog u8ren := ⟨Tryd.underlying5, Tryd.underlying96, Tryd.underlying98, Tryd.underlying99⟩
theorem tabs_of {W : World} (hL : laidMet Tryd.prog layL W) : Lns.Tabs W := by
  have h1 := Lib.laidMet.reads hL (.tail _ (.tail _ (.tail _ (.head _))))
  have h2 := Lib.laidMet.reads hL (.tail _ (.tail _ (.tail _ (.tail _ (.tail _ (.tail _ (.tail _ (.head _))))))))
  rw [acc_data] at h1
  rw [first_data] at h2
  exact utf8Tabs_of_readsT u8types ⟨by kernel_rfl, by kernel_rfl, by kernel_rfl, by kernel_rfl, by kernel_rfl, by kernel_rfl, by kernel_rfl⟩ h2 h1
theorem named_cells {H : Type} {enc : TypeId × Value → H} {w : World} {base : Nat} {sp : Nat → Bool} {held : Bool} {fuel : Nat} {ks : List Value} {a : List UInt8} {z : Int} {p : List MemPlace}
    (h : DataW.trod enc Tryd.prog w base sp held fuel 105 ks = some (.agg [.lit (.string a), .lit (.int .i32 z)], p)) : ks[0]? = some (.string ⟨a.toArray⟩) ∧ ks[1]? = some (.int .i32 z) := by
  obtain ⟨xs, n, rfl, hx, hl, hxl, hall⟩ := DataW.trod_struct Tryd.underlying105 h
  have hxs : xs.map (·.1) = [.lit (.string a), .lit (.int .i32 z)] := by
    have := congrArg Prod.fst hx
    simpa using this.symm
  have c9 : Tryd.prog.cellsOf 9 = 1 := by kernel_rfl
  have c21 : Tryd.prog.cellsOf 21 = 1 := by kernel_rfl
  have g0 : DataW.trod enc Tryd.prog w base sp held n 9 ((ks.drop 0).take (Tryd.prog.cellsOf 9)) = xs[0]? := hall 0 _ rfl
  have g1 : DataW.trod enc Tryd.prog w base sp held n 21 ((ks.drop 1).take (Tryd.prog.cellsOf 21)) = xs[1]? := hall 1 _ rfl
  rw [c9] at g0
  rw [c21] at g1
  match xs, hxs with
  | [x0, x1], hxs =>
    simp only [List.map_cons, List.map_nil, List.cons.injEq, and_true] at hxs
    obtain ⟨e0, e1⟩ := hxs
    obtain ⟨s0, k0, q0, _⟩ := DataW.trod_string Tryd.underlying9 g0
    obtain ⟨z1, k1, q1, _⟩ := DataW.trod_int Tryd.underlying21 g1
    rw [q0] at e0
    rw [q1] at e1
    simp only [DataW.lit.injEq, Lit.string.injEq, Lit.int.injEq, true_and] at e0 e1
    subst e0 e1
    have h0 := congrArg (·[0]?) k0
    have h1 := congrArg (·[0]?) k1
    simp [] at h0 h1
    exact ⟨by rw [h0], h1⟩
theorem ent_of {W : World} (hL : laidMet Tryd.prog layL W) : Ent W := by
  obtain ⟨g, t, cs, fuel, p, hg, hty, hvar, hd⟩ := Lib.laidMet.reads hL (.tail _ (.tail _ (.tail _ (.tail _ (.tail _ (.tail _ (.head _)))))))
  obtain rfl := Option.some.inj ((show Tryd.prog.globalNamed "redpen/decode.entities" = some 2 by kernel_rfl).symm.trans hg)
  obtain rfl := Option.some.inj ((show (Tryd.prog.globals[2]?).map (·.type) = some 106 by kernel_rfl).symm.trans hty)
  have c88 : Tryd.prog.cellsOf 105 = 2 := by kernel_rfl
  have key : ∀ i, i < 6 → ∃ a z, entV[i * 2]? = some (.string ⟨List.toArray a⟩) ∧ entV[i * 2 + 1]? = some (.int .i32 z) ∧ cs.toList[i * 2]? = some (.string ⟨List.toArray a⟩) ∧ cs.toList[i * 2 + 1]? = some (.int .i32 z) := by
    intro i hi
    obtain ⟨fuel', d, q, hdi, he⟩ := Lib.array_elem Tryd.underlying106 hd i hi
    rw [c88] at he
    match i, hi with
    | 0, _ =>
      cases hdi
      obtain ⟨h0, h1⟩ := named_cells he
      simp only [List.getElem?_take, List.getElem?_drop] at h0 h1
      exact ⟨_, _, rfl, rfl, h0, h1⟩
    | 1, _ =>
      cases hdi
      obtain ⟨h0, h1⟩ := named_cells he
      simp only [List.getElem?_take, List.getElem?_drop] at h0 h1
      exact ⟨_, _, rfl, rfl, h0, h1⟩
    | 2, _ =>
      cases hdi
      obtain ⟨h0, h1⟩ := named_cells he
      simp only [List.getElem?_take, List.getElem?_drop] at h0 h1
      exact ⟨_, _, rfl, rfl, h0, h1⟩
    | 3, _ =>
      cases hdi
      obtain ⟨h0, h1⟩ := named_cells he
      simp only [List.getElem?_take, List.getElem?_drop] at h0 h1
      exact ⟨_, _, rfl, rfl, h0, h1⟩
    | 4, _ =>
      cases hdi
      obtain ⟨h0, h1⟩ := named_cells he
      simp only [List.getElem?_take, List.getElem?_drop] at h0 h1
      exact ⟨_, _, rfl, rfl, h0, h1⟩
    | 5, _ =>
      cases hdi
      obtain ⟨h0, h1⟩ := named_cells he
      simp only [List.getElem?_take, List.getElem?_drop] at h0 h1
      exact ⟨_, _, rfl, rfl, h0, h1⟩
  intro j v hv
  have hj : j < 12 := (List.getElem?_eq_some_iff.1 hv).1
  rw [World.var?_cell hg hvar j, ← Array.getElem?_toList]
  obtain ⟨i, hi, hr⟩ : ∃ i, i < 6 ∧ (j = i * 2 ∨ j = i * 2 + 1) := ⟨j / 2, by omega, by omega⟩
  obtain ⟨a, z, k0, k1, c0, c1⟩ := key i hi
  rcases hr with rfl | rfl
  · rw [c0, ← k0, hv]
  · rw [c1, ← k1, hv]
theorem iface_cell {H : Type} {enc : TypeId × Value → H} {w : World} {base : Nat} {sp : Nat → Bool} {held : Bool} {fuel : Nat} {cs : List Value} {nm : String} {d : DataW H} {p : List MemPlace}
    (h : DataW.trod enc Tryd.prog w base sp held fuel 110 cs = some (.iface nm d, p)) : ∃ ev, cs[0]? = some ev ∧ (ev = .nilIface ∨ ∃ te pe, ev = .iface te pe) := by
  cases fuel with
  | zero => simp [DataW.trod] at h
  | succ n =>
    unfold DataW.trod at h
    simp only [Tryd.underlying110] at h
    split at h
    all_goals first | exact ⟨_, rfl, Or.inl rfl⟩ | exact ⟨_, rfl, Or.inr ⟨_, _, rfl⟩⟩ | (exfalso; simp_all; done)
theorem err_of {W : World} {nm : String} {g : Nat} {ty : String} {d : DataW Unit} (hr : Lib.VarReads Tryd.prog W nm (.iface ty d)) (hg0 : Tryd.prog.globalNamed nm = some g) (ht0 : (Tryd.prog.globals[g]?).map (·.type) = some 110) : ∃ ev, W.cell? ⟨g, 0, none⟩ = some ev ∧ (ev = .nilIface ∨ ∃ te pe, ev = .iface te pe) := by
  obtain ⟨g', t, cs, fuel, p, hg, hty, hvar, hd⟩ := hr
  obtain rfl := Option.some.inj (hg0.symm.trans hg)
  obtain rfl := Option.some.inj (ht0.symm.trans hty)
  obtain ⟨ev, he, hk⟩ := iface_cell hd
  exact ⟨ev, by rw [World.var?_cell hg hvar 0, ← Array.getElem?_toList]; exact he, hk⟩
theorem glb_in {W : World} (h : laidMetH Tryd.prog layL W) : Glb W := by
  have h' : laidMet Tryd.prog layL W := h
  exact ⟨tabs_of h', ⟨err_of (Lib.laidMet.reads h' (.tail _ (.tail _ (.tail _ (.tail _ (.tail _ (.head _))))))) (by kernel_rfl) (by kernel_rfl), err_of (Lib.laidMet.reads h' (.tail _ (.tail _ (.tail _ (.tail _ (.head _)))))) (by kernel_rfl) (by kernel_rfl)⟩, ent_of h'⟩
theorem one5 : Tryd.prog.cellsOf 5 = 1 := by kernel_rfl
theorem u8_wf {z : Int} (h : (Lit.int .u8 z).wf = true) : 0 ≤ z ∧ z < 256 := by
  simp only [Lit.wf] at h
  have e1 : IntKind.u8.min = 0 := by decide
  have e2 : IntKind.u8.max = 255 := by decide
  revert h
  simp
  omega
theorem bc_trod {H : Type} {enc : TypeId × Value → H} {W : World} {base : Nat} {spare : Nat → Bool} {held : Bool} {fuel : Nat} {cs : List Value} {x : DataW H × List MemPlace} (h : DataW.trod enc Tryd.prog W base spare held fuel 22 cs = some x) :
    ∃ ad n cap c, cs = [.slice ad n cap] ∧ Ch c n ∧ BC W ad n c ∧ n ≤ cap ∧ n ≤ maxLen := by
  rcases open_ints Tryd.underlying22 Tryd.underlying5 one5 h with ⟨hcs, _⟩ | ⟨a, len, cap, zs, hcs, _, hl, hm, hz, _, hc, hwf⟩
  · exact ⟨none, 0, 0, fun _ => -1, hcs, ⟨fun i hi => absurd hi (Nat.not_lt_zero _), fun _ _ => rfl⟩, BC.zero _ _ _, Nat.le_refl _, Nat.zero_le _⟩
  · have hzl : len ≤ zs.length := by rw [hz]; split <;> omega
    refine ⟨some a, len, cap, cL (zs.take len), hcs, ?_, fun i hi => ?_, hl, by omega⟩
    · have h1 : Ch (cL (zs.take len)) (zs.take len).length := cL_ch (fun y hy => u8_wf (hwf y (List.mem_of_mem_take hy)))
      rw [List.length_take, Nat.min_eq_left hzl] at h1
      exact h1
    · obtain ⟨b, off, spot⟩ := a
      have hspot : spot = none := by simpa [Addr.add] using World.cell?_spot (hc 0 (by omega))
      subst hspot
      have h2 := hc i (by omega)
      rw [addr_add] at h2
      refine ⟨b, off, rfl, ?_⟩
      rw [h2]
      have hi' : i < zs.length := by omega
      simp [cL, hi, List.getElem?_eq_getElem hi']
end Go.Proofs.YtbhjkkbempnjeaaDoor
