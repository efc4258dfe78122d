/- What the rows' readings give: spans and signs that come in. -/
import Derived.Test.YtbhjkkbempnjeaaDoorvTu
import Derived.Test.YtbhjkkbempnjeaaDoorRows
import Derived.WalkKit
import Derived.ProofKit
import Derived.OpenShut
import Derived.ShutString
import Derived.ChangeOld
import Derived.Below
import Derived.Lib.SmallJoins
import Derived.Deep.Slices
namespace Go.Proofs.YtbhjkkbempnjeaaDoor
set_option linter.unusedVariables false
open Go.ChangeShapes Go.WideShapes Go.ChangeAt Go.RowKit Go.Joins
theorem addr_add (b off j : Nat) : (⟨b, off, none⟩ : Addr).add j = ⟨b, off + j, none⟩ := by
  unfold Addr.add; split <;> simp_all
theorem two {α : Type} {l : List α} (h : l.length = 2) : ∃ a b, l = [a, b] := by
  match l, h with
  | [a, b], _ => exact ⟨a, b, rfl⟩
theorem three {α : Type} {l : List α} (h : l.length = 3) : ∃ a b c, l = [a, b, c] := by
  match l, h with
  | [a, b, c], _ => exact ⟨a, b, c, rfl⟩
theorem Tryd.one21 : Tryd.prog.cellsOf 21 = 1 := by kernel_rfl
theorem Tryd.one3 : Tryd.prog.cellsOf 3 = 1 := by kernel_rfl
theorem Tryd.cellsS : Tryd.prog.cellsOf 43 = 2 := by kernel_rfl
theorem Tryd.cellsU : Tryd.prog.cellsOf 56 = 3 := by kernel_rfl
theorem Tryd.fieldsS : Tryd.prog.underlying 43 = some (.struct (Tryd.prog.fieldsOf 43)) := by kernel_rfl
theorem Tryd.fieldsU : Tryd.prog.underlying 56 = some (.struct (Tryd.prog.fieldsOf 56)) := by kernel_rfl
theorem Tryd.fieldS : (Tryd.prog.fieldsOf 43).toList.map (fun f => (f.type, f.offset)) = [(3, 0), (3, 1)] := by kernel_rfl
theorem Tryd.fieldU : (Tryd.prog.fieldsOf 56).toList.map (fun f => (f.type, f.offset)) = [(21, 0), (43, 1)] := by kernel_rfl
theorem span_of {H : Type} {enc : TypeId × Value → H} {W : World} {n : Nat} {cs : List Value} {x : DataW H × List MemPlace} (hlen : cs.length = 2) (h2 : DataW.trod enc Tryd.prog W 0 (fun _ => true) true n 43 cs = some x) :
    ∃ a m : Int, cs = [.int .i64 a, .int .i64 m] ∧ (Lit.int .i64 a).wf = true ∧ (Lit.int .i64 m).wf = true := by
  obtain ⟨xs, k, hk, hxy, _, hxl, hf⟩ := DataW.trod_struct Tryd.fieldsS h2
  have hfs := Tryd.fieldS
  generalize Tryd.prog.fieldsOf 43 = fs at hfs hf hxl
  obtain ⟨fl⟩ := fs
  obtain ⟨f0, f1, rfl⟩ := two (show fl.length = 2 by simpa using congrArg List.length hfs)
  simp only [List.map_cons, List.map_nil, List.cons.injEq, Prod.mk.injEq, and_true] at hfs
  obtain ⟨⟨t0, o0⟩, t1, o1⟩ := hfs
  obtain ⟨y0, y1, rfl⟩ := two (show xs.length = 2 from hxl)
  obtain ⟨v0, v1, rfl⟩ := two hlen
  have g0 := hf 0 f0 rfl
  have g1 := hf 1 f1 rfl
  simp [t0, t1, o0, o1, Tryd.one3] at g0 g1
  obtain ⟨a0, hs0, _, b0⟩ := DataW.trod_int Tryd.underlying3 g0
  obtain ⟨a1, hs1, _, b1⟩ := DataW.trod_int Tryd.underlying3 g1
  simp at hs0 hs1
  subst hs0 hs1
  exact ⟨a0, a1, rfl, b0, b1⟩
theorem unit_of {H : Type} {enc : TypeId × Value → H} {W : World} {n : Nat} {cs : List Value} {x : DataW H × List MemPlace} (hlen : cs.length = 3) (h2 : DataW.trod enc Tryd.prog W 0 (fun _ => true) true n 56 cs = some x) :
    ∃ u : U3, cs = u.cs := by
  obtain ⟨xs, k, hk, hxy, _, hxl, hf⟩ := DataW.trod_struct Tryd.fieldsU h2
  have hfs := Tryd.fieldU
  generalize Tryd.prog.fieldsOf 56 = fs at hfs hf hxl
  obtain ⟨fl⟩ := fs
  obtain ⟨f0, f1, rfl⟩ := two (show fl.length = 2 by simpa using congrArg List.length hfs)
  simp only [List.map_cons, List.map_nil, List.cons.injEq, Prod.mk.injEq, and_true] at hfs
  obtain ⟨⟨t0, o0⟩, t1, o1⟩ := hfs
  obtain ⟨y0, y1, rfl⟩ := two (show xs.length = 2 from hxl)
  obtain ⟨v0, v1, v2, rfl⟩ := three hlen
  have g0 := hf 0 f0 rfl
  have g1 := hf 1 f1 rfl
  simp [t0, t1, o0, o1, Tryd.one21, Tryd.cellsS] at g0 g1
  obtain ⟨a0, hs0, _, b0⟩ := DataW.trod_int Tryd.underlying21 g0
  obtain ⟨a, m, hs1, _, _⟩ := span_of rfl g1
  simp at hs0 hs1
  obtain ⟨rfl, rfl⟩ := hs1
  subst hs0
  exact ⟨⟨a0, a, m⟩, rfl⟩
/-- A row of signs that comes in. -/
theorem units_of {H : Type} {enc : TypeId × Value → H} {W : World} {fuel : Nat} {ad : Option Addr} {len cap : Nat} {x : DataW H × List MemPlace} (hf : DataW.trod enc Tryd.prog W 0 (fun _ => true) true fuel 25 [.slice ad len cap] = some x) :
    len ≤ maxLen ∧ ∃ l : List U3, l.length = len ∧ US W (.slice ad len cap) l := by
  rcases Deep.open_slice Tryd.underlying25 hf with ⟨hcs, _⟩ | ⟨a, len', cap', m, n, D, Pl, hcs, _, hl, hm, hmm, _, hx⟩
  · simp at hcs
    obtain ⟨rfl, rfl, rfl⟩ := hcs
    exact ⟨Nat.zero_le _, [], rfl, none, 0, rfl, Nat.le_refl _, fun i x hx => by simp at hx⟩
  · simp at hcs
    obtain ⟨rfl, rfl, rfl⟩ := hcs
    simp only [if_true] at hmm
    rw [Tryd.cellsU] at hx
    have : Inhabited U3 := ⟨⟨0, 0, 0⟩⟩
    obtain ⟨A, hA⟩ := Deep.choose_lt (n := m) (p := fun i (q : U3) => ∃ cs', W.cells? 0 (a.add (i * 3)) 3 = some cs' ∧ cs' = q.cs)
      (fun i hi => by
        obtain ⟨cs', h1, h2⟩ := hx i hi
        obtain ⟨_, hlen, _⟩ := World.cells?_some h1
        obtain ⟨q, e⟩ := unit_of hlen h2
        exact ⟨q, cs', h1, e⟩)
    refine ⟨by omega, (List.range len).map A, by simp, some a, cap, by simp, by simpa using hl, fun i y hy => ?_⟩
    have hi : i < len := by
      have := (List.getElem?_eq_some_iff.1 hy).1
      simpa using this
    obtain rfl : A i = y := by simpa [List.getElem?_range hi] using hy
    obtain ⟨cs', h1, e⟩ := hA i (by omega)
    obtain ⟨_, _, hcell⟩ := World.cells?_some h1
    subst e
    have c0 := hcell 0 (by decide)
    have c1 := hcell 1 (by decide)
    have c2 := hcell 2 (by decide)
    obtain ⟨b, off, spot⟩ := a
    have hspot : spot = none := by
      obtain ⟨cs0, k1, e0⟩ := hA 0 (by omega)
      obtain ⟨_, _, hcell0⟩ := World.cells?_some k1
      subst e0
      have := World.cell?_spot (v := .int .i32 (A 0).r) (by simpa [Addr.add, U3.cs] using hcell0 0 (by decide))
      simpa [Addr.add] using this
    subst hspot
    simp only [addr_add] at c0 c1 c2
    exact ⟨b, off, rfl, World.block_lt_of_cell? W _ c0, c0, c1, c2⟩
end Go.Proofs.YtbhjkkbempnjeaaDoor
