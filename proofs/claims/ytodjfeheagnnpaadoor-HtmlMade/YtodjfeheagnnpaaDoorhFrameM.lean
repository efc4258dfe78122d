/- What the rows share: html.kinds, the bound of bytealg's; bytes that come in. -/
import Derived.Test.YtodjfeheagnnpaaDoorRows
import Derived.Test.YtodjfeheagnnpaaDoorhAwk
import Derived.Test.YtodjfeheagnnpaaDoorhMadR
import Derived.Lib.LaidIn
import Derived.Lib.LaidU8
import Derived.Shelf.LaysM
import Derived.LaidHandle
import Derived.Deep.DeepHandedRow
import Derived.Deep.DeepWitnessRowRef
import Derived.ProofKit
import Derived.OpenShut
import Derived.ShutString
import Derived.ChangeOld
import Derived.SizedLaws
import Derived.Lib.SmallJoins
namespace Go.Proofs.YtodjfeheagnnpaaDoor
set_option linter.unusedVariables false
open Go.ChangeShapes Go.WideShapes Go.ChangeAt Go.RowKit Go.Joins
theorem own : ownKnob Tryd.prog.godebug = none := by kernel_rfl
theorem laidOut : laidOutB Tryd.prog = true := by kernel_rfl
def kindsL : List (String × DataW Unit) := [("redpen/html.kinds", Rows.laid_redpen_html_kinds)]
def laidOf (w0 : World) : World :=
  let put (h : Array Obj) (g : Nat) (cs : Array Value) : Array Obj := h.modify g fun
    | .cells _ t frozen => .cells cs t frozen
    | o => o
  { w0 with heap := put w0.heap 0 kdV.toArray }
theorem laid_met (os : Os) (args : Array Value) : laidMet Tryd.prog kindsL ((laidOf (World.holding Tryd.prog os ⟨#[], #[], []⟩)).forCall (fun _ _ => 0) ⟨#[], args, []⟩).memory :=
  (LaidIn.of_run (l := kindsL) [0] 8 (by kernel_rfl) (by kernel_rfl) (by kernel_rfl) (by kernel_rfl)).met
theorem kind_cells {H : Type} {enc : TypeId × Value → H} {w : World} {base : Nat} {sp : Nat → Bool} {held : Bool} {fuel : Nat} {ks : List Value} {a b : List UInt8} {z : Int} {p : List MemPlace}
    (h : DataW.trod enc Tryd.prog w base sp held fuel 93 ks = some (.agg [.lit (.string a), .lit (.string b), .lit (.int .u8 z)], p)) : ks[0]? = some (.string ⟨a.toArray⟩) ∧ ks[1]? = some (.string ⟨b.toArray⟩) ∧ ks[2]? = some (.int .u8 z) := by
  obtain ⟨xs, n, rfl, hx, hl, hxl, hall⟩ := DataW.trod_struct Tryd.underlying93 h
  have hxs : xs.map (·.1) = [.lit (.string a), .lit (.string b), .lit (.int .u8 z)] := by
    have := congrArg Prod.fst hx
    simpa using this.symm
  have c9 : Tryd.prog.cellsOf 9 = 1 := by kernel_rfl
  have c56 : Tryd.prog.cellsOf 39 = 1 := by kernel_rfl
  have g0 : DataW.trod enc Tryd.prog w base sp held n 9 ((ks.drop 0).take (Tryd.prog.cellsOf 9)) = xs[0]? := hall 0 _ rfl
  have g1 : DataW.trod enc Tryd.prog w base sp held n 9 ((ks.drop 1).take (Tryd.prog.cellsOf 9)) = xs[1]? := hall 1 _ rfl
  have g2 : DataW.trod enc Tryd.prog w base sp held n 39 ((ks.drop 2).take (Tryd.prog.cellsOf 39)) = xs[2]? := hall 2 _ rfl
  rw [c9] at g0 g1
  rw [c56] at g2
  match xs, hxs with
  | [x0, x1, x2], hxs =>
    simp only [List.map_cons, List.map_nil, List.cons.injEq, and_true] at hxs
    obtain ⟨e0, e1, e2⟩ := hxs
    obtain ⟨s0, k0, q0, _⟩ := DataW.trod_string Tryd.underlying9 g0
    obtain ⟨s1, k1, q1, _⟩ := DataW.trod_string Tryd.underlying9 g1
    obtain ⟨z2, k2, q2, _⟩ := DataW.trod_int Tryd.underlying39 g2
    rw [q0] at e0
    rw [q1] at e1
    rw [q2] at e2
    simp only [DataW.lit.injEq, Lit.string.injEq, Lit.int.injEq, true_and] at e0 e1 e2
    subst e0 e1 e2
    have h0 := congrArg (·[0]?) k0
    have h1 := congrArg (·[0]?) k1
    have h2 := congrArg (·[0]?) k2
    simp [List.getElem?_drop] at h0 h1 h2
    exact ⟨by rw [h0], by rw [h1], h2⟩
theorem kinds_of {W : World} (hL : laidMet Tryd.prog kindsL W) : ∀ j v, kdV[j]? = some v → W.cell? ⟨0, j, none⟩ = some v := by
  obtain ⟨g, t, cs, fuel, p, hg, hty, hvar, hd⟩ := Lib.laidMet.reads hL (.head _)
  obtain rfl := Option.some.inj ((show Tryd.prog.globalNamed "redpen/html.kinds" = some 0 by kernel_rfl).symm.trans hg)
  obtain rfl := Option.some.inj ((show (Tryd.prog.globals[0]?).map (·.type) = some 94 by kernel_rfl).symm.trans hty)
  have c85 : Tryd.prog.cellsOf 93 = 3 := by kernel_rfl
  have key : ∀ i, i < 4 → ∃ a b z, kdV[i * 3]? = some (.string ⟨List.toArray a⟩) ∧ kdV[i * 3 + 1]? = some (.string ⟨List.toArray b⟩) ∧ kdV[i * 3 + 2]? = some (.int .u8 z) ∧ cs.toList[i * 3]? = some (.string ⟨List.toArray a⟩) ∧ cs.toList[i * 3 + 1]? = some (.string ⟨List.toArray b⟩) ∧ cs.toList[i * 3 + 2]? = some (.int .u8 z) := by
    intro i hi
    obtain ⟨fuel', d, q, hdi, he⟩ := Lib.array_elem Tryd.underlying94 hd i hi
    rw [c85] at he
    match i, hi with
    | 0, _ =>
      cases hdi
      obtain ⟨h0, h1, h2⟩ := kind_cells he
      simp only [List.getElem?_take, List.getElem?_drop] at h0 h1 h2
      exact ⟨_, _, _, rfl, rfl, rfl, h0, h1, h2⟩
    | 1, _ =>
      cases hdi
      obtain ⟨h0, h1, h2⟩ := kind_cells he
      simp only [List.getElem?_take, List.getElem?_drop] at h0 h1 h2
      exact ⟨_, _, _, rfl, rfl, rfl, h0, h1, h2⟩
    | 2, _ =>
      cases hdi
      obtain ⟨h0, h1, h2⟩ := kind_cells he
      simp only [List.getElem?_take, List.getElem?_drop] at h0 h1 h2
      exact ⟨_, _, _, rfl, rfl, rfl, h0, h1, h2⟩
    | 3, _ =>
      cases hdi
      obtain ⟨h0, h1, h2⟩ := kind_cells he
      simp only [List.getElem?_take, List.getElem?_drop] at h0 h1 h2
      exact ⟨_, _, _, rfl, rfl, rfl, h0, h1, h2⟩
  intro j v hv
  have hj : j < 12 := (List.getElem?_eq_some_iff.1 hv).1
  rw [World.var?_cell hg hvar j, ← Array.getElem?_toList]
  obtain ⟨i, hi, hr⟩ : ∃ i, i < 4 ∧ (j = i * 3 ∨ j = i * 3 + 1 ∨ j = i * 3 + 2) := ⟨j / 3, by omega, by omega⟩
  obtain ⟨a, b, z, k0, k1, k2, c0, c1, c2⟩ := key i hi
  rcases hr with rfl | rfl | rfl
  · rw [c0, ← k0, hv]
  · rw [c1, ← k1, hv]
  · rw [c2, ← k2, hv]
theorem glo_in {W : World} (h : laidMetH Tryd.prog kindsL W) (hs : W.ShapedOpen Tryd.prog) : Glo W := by
  have h' : laidMet Tryd.prog kindsL W := h
  exact ⟨cell_of_shapedOpen_int (P := Tryd.prog) (g := 1) (t := 3) (zero := #[.int .i64 0]) hs (of_decide_eq_true (by kernel_rfl)) (by kernel_rfl) rfl (by kernel_rfl) (by kernel_rfl) Tryd.underlying3, kinds_of h'⟩
theorem addr_add (b off j : Nat) : (⟨b, off, none⟩ : Addr).add j = ⟨b, off + j, none⟩ := by
  unfold Addr.add; split <;> simp_all
theorem one5 : Tryd.prog.cellsOf 5 = 1 := by kernel_rfl
theorem u8_wf {z : Int} (h : (Lit.int .u8 z).wf = true) : 0 ≤ z ∧ z < 256 := by
  simp only [Lit.wf] at h
  have e1 : IntKind.u8.min = 0 := by decide
  have e2 : IntKind.u8.max = 255 := by decide
  revert h
  simp
  omega
theorem bc_trod {H : Type} {enc : TypeId × Value → H} {W : World} {base : Nat} {spare : Nat → Bool} {held : Bool} {fuel : Nat} {cs : List Value} {x : DataW H × List MemPlace} (h : DataW.trod enc Tryd.prog W base spare held fuel 22 cs = some x) :
    ∃ ad n cap c, cs = [.slice ad n cap] ∧ Ch c n ∧ BC W ad n c ∧ n ≤ cap ∧ n ≤ maxLen := by
  rcases open_ints Tryd.underlying22 Tryd.underlying5 one5 h with ⟨hcs, _⟩ | ⟨a, len, cap, zs, hcs, _, hl, hm, hz, _, hc, hwf⟩
  · exact ⟨none, 0, 0, fun _ => -1, hcs, ⟨fun i hi => absurd hi (Nat.not_lt_zero _), fun _ _ => rfl⟩, BC.zero _ _ _, Nat.le_refl _, Nat.zero_le _⟩
  · have hzl : len ≤ zs.length := by rw [hz]; split <;> omega
    refine ⟨some a, len, cap, cL (zs.take len), hcs, ?_, fun i hi => ?_, hl, by omega⟩
    · have h1 : Ch (cL (zs.take len)) (zs.take len).length := cL_ch (fun y hy => u8_wf (hwf y (List.mem_of_mem_take hy)))
      rw [List.length_take, Nat.min_eq_left hzl] at h1
      exact h1
    · obtain ⟨b, off, spot⟩ := a
      have hspot : spot = none := by simpa [Addr.add] using World.cell?_spot (hc 0 (by omega))
      subst hspot
      have h2 := hc i (by omega)
      rw [addr_add] at h2
      refine ⟨b, off, rfl, ?_⟩
      rw [h2]
      have hi' : i < zs.length := by omega
      simp [cL, hi, List.getElem?_eq_getElem hi']
theorem brr_trod {H : Type} {enc : TypeId × Value → H} {W : World} {base : Nat} {spare : Nat → Bool} {held : Bool} {fuel : Nat} {cs : List Value} {x : DataW H × List MemPlace} (h : DataW.trod enc Tryd.prog W base spare held fuel 23 cs = some x) :
    ∃ ad n cap, cs = [.slice ad n cap] ∧ BRR W ad n ∧ n ≤ maxLen := by
  rcases Go.Deep.open_slice Tryd.underlying23 h with ⟨hcs, _⟩ | ⟨a, len, cap, m, n, D, Pl, hcs, hb, hl, hm, hmm, _, he⟩
  · exact ⟨none, 0, 0, hcs, fun i hi => absurd hi (Nat.not_lt_zero _), Nat.zero_le _⟩
  · have hlm : len ≤ m := by rw [hmm]; split <;> omega
    have hone : Tryd.prog.cellsOf 22 = 1 := by kernel_rfl
    have hrow : ∀ i, i < len → ∃ ad' n' cap' c, W.cell? (a.add i) = some (.slice ad' n' cap') ∧ Ch c n' ∧ BC W ad' n' c ∧ n' ≤ maxLen := fun i hi => by
      obtain ⟨cs', h1, h2⟩ := he i (by omega)
      rw [hone, Nat.mul_one] at h1
      obtain ⟨ad', n', cap', c, rfl, h3, h4, -, h5⟩ := bc_trod h2
      exact ⟨ad', n', cap', c, cell_of_cells?_one h1, h3, h4, h5⟩
    refine ⟨some a, len, cap, hcs, fun i hi => ?_, by omega⟩
    obtain ⟨ad', n', cap', c, h1, h2, h3, h4⟩ := hrow i hi
    obtain ⟨b, off, spot⟩ := a
    have hspot : spot = none := by
      obtain ⟨_, _, _, _, h0, _⟩ := hrow 0 (by omega)
      simpa [Addr.add] using World.cell?_spot h0
    subst hspot
    rw [addr_add] at h1
    exact ⟨b, off, ad', n', cap', c, rfl, h1, h2, h3, h4⟩
end Go.Proofs.YtodjfeheagnnpaaDoor
