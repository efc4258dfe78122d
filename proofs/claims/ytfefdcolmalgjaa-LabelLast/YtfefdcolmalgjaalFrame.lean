/- What the rows' readings give: calls that come in, a pair of bytes. -/
import Derived.Test.YtfefdcolmalgjaalAct
import Derived.Test.YtfefdcolmalgjaaRows
import Derived.WalkKit
import Derived.ProofKit
import Derived.OpenShut
import Derived.ShutString
import Derived.ChangeOld
import Derived.Below
import Derived.Lib.SmallJoins
import Derived.Deep.Slices
namespace Go.Proofs.Ytfefdcolmalgjaa
set_option linter.unusedVariables false
open Go.ChangeShapes Go.WideShapes Go.ChangeAt Go.RowKit Go.Joins
theorem addr_add (b off j : Nat) : (⟨b, off, none⟩ : Addr).add j = ⟨b, off + j, none⟩ := by
  unfold Addr.add; split <;> simp_all
theorem five {α : Type} {l : List α} (h : l.length = 5) : ∃ a b c d e, l = [a, b, c, d, e] := by
  match l, h with
  | [a, b, c, d, e], _ => exact ⟨a, b, c, d, e, rfl⟩
theorem two {α : Type} {l : List α} (h : l.length = 2) : ∃ a b, l = [a, b] := by
  match l, h with
  | [a, b], _ => exact ⟨a, b, rfl⟩
theorem u8_bd {n : Int} (h : (Lit.int .u8 n).wf = true) : ∃ k : Nat, n = (k : Int) ∧ k < 256 := by
  simp [Lit.wf, IntKind.min, IntKind.max, IntKind.signed, IntKind.bits] at h
  exact ⟨n.toNat, by omega, by omega⟩
theorem u16_bd {n : Int} (h : (Lit.int .u16 n).wf = true) : ∃ k : Nat, n = (k : Int) ∧ k < 65536 := by
  simp [Lit.wf, IntKind.min, IntKind.max, IntKind.signed, IntKind.bits] at h
  exact ⟨n.toNat, by omega, by omega⟩
theorem Try.one5 : Try.prog.cellsOf 5 = 1 := by kernel_rfl
theorem Try.one3 : Try.prog.cellsOf 3 = 1 := by kernel_rfl
theorem Try.cellsA : Try.prog.cellsOf 35 = 5 := by kernel_rfl
theorem Try.cells2 : Try.prog.cellsOf 53 = 2 := by kernel_rfl
theorem Try.fieldsA : Try.prog.underlying 35 = some (.struct (Try.prog.fieldsOf 35)) := by kernel_rfl
theorem Try.fieldA : (Try.prog.fieldsOf 35).toList.map (fun f => (f.type, f.offset)) = [(5, 0), (5, 1), (3, 2), (3, 3), (5, 4)] := by kernel_rfl
theorem act_of {H : Type} {enc : TypeId × Value → H} {W : World} {n : Nat} {cs : List Value} {x : DataW H × List MemPlace} (hlen : cs.length = 5) (h2 : DataW.trod enc Try.prog W 0 (fun _ => true) true n 35 cs = some x) :
    ∃ a : Ac, cs = a.cs.toList ∧ a.k < 256 ∧ a.l < 256 ∧ a.N < 256 := by
  obtain ⟨xs, k, hk, hxy, _, hxl, hf⟩ := DataW.trod_struct Try.fieldsA h2
  have hfs := Try.fieldA
  generalize Try.prog.fieldsOf 35 = fs at hfs hf hxl
  obtain ⟨fl⟩ := fs
  obtain ⟨f0, f1, f2, f3, f4, rfl⟩ := five (show fl.length = 5 by simpa using congrArg List.length hfs)
  simp only [List.map_cons, List.map_nil, List.cons.injEq, Prod.mk.injEq, and_true] at hfs
  obtain ⟨⟨t0, o0⟩, ⟨t1, o1⟩, ⟨t2, o2⟩, ⟨t3, o3⟩, t4, o4⟩ := hfs
  obtain ⟨y0, y1, y2, y3, y4, rfl⟩ := five (show xs.length = 5 from hxl)
  obtain ⟨v0, v1, v2, v3, v4, rfl⟩ := five hlen
  have g0 := hf 0 f0 rfl
  have g1 := hf 1 f1 rfl
  have g2 := hf 2 f2 rfl
  have g3 := hf 3 f3 rfl
  have g4 := hf 4 f4 rfl
  simp [t0, t1, t2, t3, t4, o0, o1, o2, o3, o4, Try.one5, Try.one3] at g0 g1 g2 g3 g4
  obtain ⟨a0, hs0, _, b0⟩ := DataW.trod_int Try.underlying5 g0
  obtain ⟨a1, hs1, _, b1⟩ := DataW.trod_int Try.underlying5 g1
  obtain ⟨a2, hs2, _, b2⟩ := DataW.trod_int Try.underlying3 g2
  obtain ⟨a3, hs3, _, b3⟩ := DataW.trod_int Try.underlying3 g3
  obtain ⟨a4, hs4, _, b4⟩ := DataW.trod_int Try.underlying5 g4
  simp at hs0 hs1 hs2 hs3 hs4
  subst hs0 hs1 hs2 hs3 hs4
  obtain ⟨k0, rfl, r0⟩ := u8_bd b0
  obtain ⟨k1, rfl, r1⟩ := u8_bd b1
  obtain ⟨k4, rfl, r4⟩ := u8_bd b4
  exact ⟨⟨k0, k1, a2, a3, k4⟩, rfl, r0, r1, r4⟩
theorem acts_of {H : Type} {enc : TypeId × Value → H} {W : World} {fuel : Nat} {ad : Option Addr} {len cap : Nat} {x : DataW H × List MemPlace} (hf : DataW.trod enc Try.prog W 0 (fun _ => true) true fuel 23 [.slice ad len cap] = some x) :
    len ≤ maxLen ∧ ∃ A, ASl W (.slice ad len cap) len A := by
  rcases Deep.open_slice Try.underlying23 hf with ⟨hcs, _⟩ | ⟨a, len', cap', m, n, D, Pl, hcs, _, hl, hm, hmm, _, hx⟩
  · simp at hcs
    obtain ⟨rfl, rfl, rfl⟩ := hcs
    exact ⟨Nat.zero_le _, fun _ => ⟨0, 0, 0, 0, 0⟩, Or.inl ⟨_, _, rfl, rfl⟩⟩
  · simp at hcs
    obtain ⟨rfl, rfl, rfl⟩ := hcs
    simp only [if_true] at hmm
    rw [Try.cellsA] at hx
    have : Inhabited Ac := ⟨⟨0, 0, 0, 0, 0⟩⟩
    obtain ⟨A, hA⟩ := Deep.choose_lt (n := m) (p := fun i (q : Ac) => ∃ cs', W.cells? 0 (a.add (i * 5)) 5 = some cs' ∧ cs' = q.cs.toList ∧ q.k < 256 ∧ q.l < 256 ∧ q.N < 256)
      (fun i hi => by
        obtain ⟨cs', h1, h2⟩ := hx i hi
        obtain ⟨_, hlen, _⟩ := World.cells?_some h1
        obtain ⟨q, e, r⟩ := act_of hlen h2
        exact ⟨q, cs', h1, e, r⟩)
    refine ⟨by omega, A, ?_⟩
    by_cases h0 : len = 0
    · exact Or.inl ⟨_, _, by rw [h0], h0⟩
    · obtain ⟨b, off, spot⟩ := a
      have hspot : spot = none := by
        obtain ⟨cs', h1, e, _⟩ := hA 0 (by omega)
        obtain ⟨_, _, hcell⟩ := World.cells?_some h1
        have c0 := hcell 0 (by omega)
        subst e
        have := World.cell?_spot (v := .int .u8 ((A 0).k : Int)) (by simpa [Addr.add, Ac.cs] using c0)
        simpa [Addr.add] using this
      subst hspot
      refine Or.inr ⟨b, off, _, rfl, fun i hi => ?_⟩
      obtain ⟨cs', h1, e, r0, r1, r4⟩ := hA i (by omega)
      obtain ⟨_, _, hcell⟩ := World.cells?_some h1
      subst e
      have c0 := hcell 0 (by omega)
      have c1 := hcell 1 (by omega)
      have c2 := hcell 2 (by omega)
      have c3 := hcell 3 (by omega)
      have c4 := hcell 4 (by omega)
      simp only [addr_add] at c0 c1 c2 c3 c4
      exact ⟨c0, c1, c2, c3, c4, r0, r1, r4⟩
theorem okWide_array {P : Program} {w : World} {r : Reach} {base n : Nat} {t e : TypeId} {v : Value} (ht : P.underlying t = some (.array n e)) (h : Value.okWide P w r base t v) : ∃ cs, v = .agg cs ∧ cs.size = P.cellsOf t := by
  simp only [Value.okWide, ht] at h
  obtain ⟨cs, h1, h2, _⟩ := h
  exact ⟨cs, h1, h2⟩
theorem pair_of {H : Type} {enc : TypeId × Value → H} {W : World} {r : Reach} {b0 : Nat} {v : Value} {d : DataW H} {p : List MemPlace} (hv : Value.okWide Try.prog W r b0 53 v) (h : DataW.Trod enc Try.prog W 0 (fun _ => true) true 53 v d p) :
    ∃ x y : Int, v = .agg #[.int .u8 x, .int .u8 y] ∧ (0 ≤ x ∧ x < 256) ∧ 0 ≤ y ∧ y < 256 := by
  obtain ⟨cs, rfl, hsz⟩ := okWide_array Try.underlying53 hv
  obtain ⟨l⟩ := cs
  obtain ⟨c0, c1, rfl⟩ := two (show l.length = 2 by simpa [Try.cells2] using hsz)
  obtain ⟨fuel, hf⟩ := h
  obtain ⟨xs, m, _, _, _, hxl, hx⟩ := DataW.trod_array Try.underlying53 hf
  obtain ⟨y0, y1, rfl⟩ := two hxl
  have g0 := hx 0 (by omega)
  have g1 := hx 1 (by omega)
  simp [Value.cells, Try.one5] at g0 g1
  obtain ⟨a0, hs0, _, w0⟩ := DataW.trod_int Try.underlying5 g0
  obtain ⟨a1, hs1, _, w1⟩ := DataW.trod_int Try.underlying5 g1
  simp at hs0 hs1
  subst hs0 hs1
  obtain ⟨k0, rfl, r0⟩ := u8_bd w0
  obtain ⟨k1, rfl, r1⟩ := u8_bd w1
  exact ⟨_, _, rfl, ⟨by omega, by omega⟩, by omega, by omega⟩
theorem agg_of {H : Type} {enc : TypeId × Value → H} {W : World} {r : Reach} {b0 : Nat} {v : Value} {d : DataW H} {p : List MemPlace} (hv : Value.okWide Try.prog W r b0 35 v) (h : DataW.Trod enc Try.prog W 0 (fun _ => true) true 35 v d p) :
    ∃ a : Ac, v = .agg a.cs ∧ a.N < 256 := by
  obtain ⟨cs, rfl, hsz⟩ := okWide_struct Try.fieldsA hv
  obtain ⟨fuel, hf⟩ := h
  obtain ⟨a, e, _, _, r⟩ := act_of (cs := cs.toList) (by rw [Array.length_toList, hsz, Try.cellsA]) (by simpa [Value.cells] using hf)
  exact ⟨a, by rw [Array.toList_inj.1 e], r⟩
theorem own : ownKnob Try.prog.godebug = none := by kernel_rfl
theorem laidOut : laidOutB Try.prog = true := by kernel_rfl
end Go.Proofs.Ytfefdcolmalgjaa
