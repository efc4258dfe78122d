/- The library contracts at this program. -/
import Derived.Shelf.Strings.Cut
import Derived.Shelf.Strings.SlTrimAscii
import Derived.Test.YteeeekpeokgaeaaDoorProg
import Derived.Test.YteeeekpeokgaeaaDoorPkYNiP2
import Derived.Test.YteeeekpeokgaeaaDooryBg
namespace Go.Proofs
open Go.Shelf
def Tryd.lays161_ren : Go.Shelf.Ren := ⟨fun | 161 => 44 | 231 => 55 | 227 => 56 | 233 => 57 | 235 => 58 | 228 => 74 | 197 => 75 | 151 => 76 | 260 => 84 | 152 => 85 | 137 => 86 | 119 => 66 | 224 => 72 | 225 => 71 | 217 => 70 | 266 => 82 | n => n, fun | 9 => 9 | 4 => 4 | 3 => 3 | 5 => 5 | 117 => 96 | 116 => 95 | 0 => 0 | 124 => 99 | 105 => 87 | 21 => 21 | 119 => 115 | 46 => 76 | 139 => 118 | 138 => 117 | n => n, fun | 3 => 1 | 4 => 2 | n => n⟩
theorem Tryd.lays161 : Go.Proofs.Lays.n161 Tryd.prog Tryd.lays161_ren := {
  mixed := by kernel_rfl
  f119 := Tryd.func66.trans (congrArg some (by kernel_rfl))
  f137 := Tryd.func86.trans (congrArg some (by kernel_rfl))
  f151 := Tryd.func76.trans (congrArg some (by kernel_rfl))
  f152 := Tryd.func85.trans (congrArg some (by kernel_rfl))
  f161 := Tryd.func44.trans (congrArg some (by kernel_rfl))
  f197 := Tryd.func75.trans (congrArg some (by kernel_rfl))
  f217 := Tryd.func70.trans (congrArg some (by kernel_rfl))
  f224 := Tryd.func72.trans (congrArg some (by kernel_rfl))
  f225 := Tryd.func71.trans (congrArg some (by kernel_rfl))
  f227 := Tryd.func56.trans (congrArg some (by kernel_rfl))
  f228 := Tryd.func74.trans (congrArg some (by kernel_rfl))
  f231 := Tryd.func55.trans (congrArg some (by kernel_rfl))
  f233 := Tryd.func57.trans (congrArg some (by kernel_rfl))
  f235 := Tryd.func58.trans (congrArg some (by kernel_rfl))
  f260 := Tryd.func84.trans (congrArg some (by kernel_rfl))
  f266 := Tryd.func82.trans (congrArg some (by kernel_rfl))
  t0 := Tryd.underlying0
  a0 := Tryd.isAgg0
  z0 := Tryd.sizeOf0
  v0 := Tryd.zeroValue0
  t3 := Tryd.underlying3
  a3 := Tryd.isAgg3
  z3 := Tryd.sizeOf3
  v3 := Tryd.zeroValue3
  t4 := Tryd.underlying4
  a4 := Tryd.isAgg4
  z4 := Tryd.sizeOf4
  v4 := Tryd.zeroValue4
  t5 := Tryd.underlying5
  a5 := Tryd.isAgg5
  z5 := Tryd.sizeOf5
  v5 := Tryd.zeroValue5
  t9 := Tryd.underlying9
  a9 := Tryd.isAgg9
  z9 := Tryd.sizeOf9
  v9 := Tryd.zeroValue9
  t21 := Tryd.underlying21
  a21 := Tryd.isAgg21
  z21 := Tryd.sizeOf21
  v21 := Tryd.zeroValue21
  t46 := Tryd.underlying76
  a46 := Tryd.isAgg76
  z46 := Tryd.sizeOf76
  v46 := Tryd.zeroValue76
  t105 := Tryd.underlying87
  a105 := Tryd.isAgg87
  z105 := Tryd.sizeOf87
  v105 := Tryd.zeroValue87
  t116 := Tryd.underlying95
  a116 := Tryd.isAgg95
  z116 := Tryd.sizeOf95
  t117 := Tryd.underlying96
  a117 := Tryd.isAgg96
  z117 := Tryd.sizeOf96
  v117 := Tryd.zeroValue96
  t119 := Tryd.underlying115
  a119 := Tryd.isAgg115
  z119 := Tryd.sizeOf115
  t124 := Tryd.underlying99
  a124 := Tryd.isAgg99
  z124 := Tryd.sizeOf99
  v124 := Tryd.zeroValue99
  t138 := Tryd.underlying117
  a138 := Tryd.isAgg117
  z138 := Tryd.sizeOf117
  v138 := Tryd.zeroValue117
  t139 := Tryd.underlying118
  a139 := Tryd.isAgg118
  z139 := Tryd.sizeOf118
  v139 := Tryd.zeroValue118
  g3 := by kernel_rfl
  g4 := by kernel_rfl }
open Go.RowKit in
theorem Tryd.strings_TrimLeft_laid (s cutset : ByteArray) (w : World) (hcs : cutset.size < 4294967281) (hascii : ∀ (j : Nat) b, cutset.data.toList[j]? = some b → b.toNat < 128) :
    Calls Tryd.prog 44 #[.string s, .string cutset] w fun e w' => e = .returned (.string ⟨(Lib.trimLeftS s.data.toList cutset.data.toList).toArray⟩) ∧ Below w.heap.size w w' := Any.strings_TrimLeft_laid Tryd.lays161 (by kernel_rfl) s cutset w hcs hascii
def Tryd.lays145_ren : Go.Shelf.Ren := ⟨fun | 145 => 30 | 220 => 42 | 219 => 54 | 217 => 70 | 225 => 71 | 224 => 72 | 267 => 73 | 266 => 82 | 314 => 83 | n => n, fun | 9 => 9 | 4 => 4 | 59 => 66 | 3 => 3 | 5 => 5 | 46 => 76 | 146 => 112 | 51 => 111 | n => n, fun | 1 => 0 | n => n⟩
theorem Tryd.lays145 : Go.Proofs.Lays.n145 Tryd.prog Tryd.lays145_ren := {
  mixed := by kernel_rfl
  f145 := Tryd.func30.trans (congrArg some (by kernel_rfl))
  f217 := Tryd.func70.trans (congrArg some (by kernel_rfl))
  f219 := Tryd.func54.trans (congrArg some (by kernel_rfl))
  f220 := Tryd.func42.trans (congrArg some (by kernel_rfl))
  f224 := Tryd.func72.trans (congrArg some (by kernel_rfl))
  f225 := Tryd.func71.trans (congrArg some (by kernel_rfl))
  f266 := Tryd.func82.trans (congrArg some (by kernel_rfl))
  f267 := Tryd.func73.trans (congrArg some (by kernel_rfl))
  f314 := Tryd.func83.trans (congrArg some (by kernel_rfl))
  t3 := Tryd.underlying3
  a3 := Tryd.isAgg3
  z3 := Tryd.sizeOf3
  v3 := Tryd.zeroValue3
  t4 := Tryd.underlying4
  a4 := Tryd.isAgg4
  z4 := Tryd.sizeOf4
  v4 := Tryd.zeroValue4
  t5 := Tryd.underlying5
  a5 := Tryd.isAgg5
  z5 := Tryd.sizeOf5
  v5 := Tryd.zeroValue5
  t9 := Tryd.underlying9
  a9 := Tryd.isAgg9
  z9 := Tryd.sizeOf9
  v9 := Tryd.zeroValue9
  t46 := Tryd.underlying76
  a46 := Tryd.isAgg76
  z46 := Tryd.sizeOf76
  v46 := Tryd.zeroValue76
  t51 := Tryd.underlying111
  a51 := Tryd.isAgg111
  z51 := Tryd.sizeOf111
  v51 := Tryd.zeroValue111
  t59 := Tryd.underlying66
  a59 := Tryd.isAgg66
  z59 := Tryd.sizeOf66
  v59 := Tryd.zeroValue66
  t146 := Tryd.underlying112
  a146 := Tryd.isAgg112
  z146 := Tryd.sizeOf112
  v146 := Tryd.zeroValue112
  g1 := by kernel_rfl }
open Go.RowKit Go.Lib in
theorem Tryd.strings_Cut (s sep : ByteArray) (m : Int) (w : World) (hs : s.size < 4294967281) (hm : w.cell? ⟨0, 0, none⟩ = some (.int .i64 m)) :
    Calls Tryd.prog 30 #[.string s, .string sep] w fun e w' => e = .returned (.tuple #[.string ⟨(Lib.cut s.data.toList sep.data.toList).1.toArray⟩, .string ⟨(Lib.cut s.data.toList sep.data.toList).2.1.toArray⟩, .bool (Lib.cut s.data.toList sep.data.toList).2.2]) ∧ ∃ n, w' = w.drewN n := Any.strings_Cut Tryd.lays145 s sep m w hs hm
end Go.Proofs
/- A line: what Cut answers; the reader's cells. -/
namespace Go.Proofs.YteeeekpeokgaeaaDoor
set_option linter.unusedVariables false
open Go.RowKit Go.ChangeShapes Tns
theorem cut_no {t : ByteArray} (h : Lib.indexB t sMark = -1) (w : World) (ht : t.size ≤ 8000) (hT : PT w) :
    Calls Tryd.prog 30 #[.string t, .string ⟨#[115, 112, 101, 108, 108, 58]⟩] w fun e w' => e = .returned (.tuple #[.string t, .string ByteArray.empty, .bool false]) ∧ Below w.heap.size w w' := by
  obtain ⟨-, m, hm⟩ := hT
  have hc := Tryd.strings_Cut t sMark m w (by omega) hm
  obtain ⟨e1, e2, e3⟩ := Lib.cutB_miss t sMark h
  rw [e1, e2, e3] at hc
  refine hc.mono ?_
  rintro e w' ⟨h1, n, rfl⟩
  exact ⟨h1, Go.below_drewN (Below.refl _ _) n⟩
theorem cut_yes {t : ByteArray} {i : Nat} (h : Lib.indexB t sMark = (i : Int)) (w : World) (ht : t.size ≤ 8000) (hT : PT w) :
    Calls Tryd.prog 30 #[.string t, .string ⟨#[115, 112, 101, 108, 108, 58]⟩] w fun e w' => e = .returned (.tuple #[.string (t.extract 0 i), .string (frm t (i + 6)), .bool true]) ∧ Below w.heap.size w w' := by
  obtain ⟨-, m, hm⟩ := hT
  have hc := Tryd.strings_Cut t sMark m w (by omega) hm
  obtain ⟨e1, e2, e3⟩ := Lib.cutB_hit t sMark i h
  rw [e1, e2, e3] at hc
  refine hc.mono ?_
  rintro e w' ⟨h1, n, rfl⟩
  exact ⟨h1, Go.below_drewN (Below.refl _ _) n⟩
/-- The reader's cells. -/
def RdC (w : World) (F R : Nat) (o x : Bool) : Prop := w.heap[F]? = some (.cells #[.pointer (some ⟨R, 0, none⟩), .bool o, .bool x] 51)
theorem RdC.lt {w : World} {F R : Nat} {o x : Bool} (h : RdC w F R o x) : F < w.heap.size := (Array.getElem?_eq_some_iff.1 h).1
theorem RdC.cells {w : World} {F R : Nat} {o x : Bool} (h : RdC w F R o x) : w.cell? ⟨F, 0, none⟩ = some (.pointer (some ⟨R, 0, none⟩)) ∧ w.cell? ⟨F, 1, none⟩ = some (.bool o) ∧ w.cell? ⟨F, 2, none⟩ = some (.bool x) ∧ w.frozen? ⟨F, 1, none⟩ = false ∧ w.frozen? ⟨F, 2, none⟩ = false := by
  unfold RdC at h
  refine ⟨?_, ?_, ?_, ?_, ?_⟩ <;> simp [World.cell?, World.frozen?, h]
theorem RdC.setO {w : World} {F R : Nat} {o x : Bool} (h : RdC w F R o x) (o' : Bool) : RdC (w.setCell ⟨F, 1, none⟩ (.bool o')) F R o' x := by
  unfold RdC
  rw [cells_set h]
  rfl
theorem RdC.setX {w : World} {F R : Nat} {o x : Bool} (h : RdC w F R o x) (x' : Bool) : RdC (w.setCell ⟨F, 2, none⟩ (.bool x')) F R o x' := by
  unfold RdC
  rw [cells_set h]
  rfl
theorem RdC.stay {w w' : World} {F R : Nat} {o x : Bool} (h : RdC w F R o x) (hb : Below w.heap.size w w') : RdC w' F R o x := by
  have hl := h.lt
  unfold RdC
  rw [hb.block F hl]
  exact h
theorem RdC.kp {w w' : World} {n F R : Nat} {o x : Bool} {p : Nat → Prop} (h : RdC w F R o x) (hk : KpP n p w w') (hn : F < n) (hp : ¬ p F) : RdC w' F R o x := by
  unfold RdC
  rw [hk.block F hn hp]
  exact h
theorem RdC.ne {w : World} {F R : Nat} {o x : Bool} {cs : Array Value} (h : RdC w F R o x) (hR : w.heap[R]? = some (.cells cs 49)) : F ≠ R := by
  intro e
  unfold RdC at h
  rw [e, hR] at h
  injection h with h
  injection h with h1 h2
  exact absurd h2 (by decide)
theorem BgP.ne {w : World} {b n B : Nat} {L : List ByteArray} {cs : Array Value} {T : TypeId} (h : BgP w b n L) (hR : w.heap[B]? = some (.cells cs T)) : B ≠ b := by
  intro e
  obtain ⟨D, ⟨es, clock, hb, _⟩, _⟩ := h
  rw [← e, hR] at hb
  cases hb
theorem ask_off {t r : ByteArray} {o a x : Bool} {w : List ByteArray} (h : t = sOff) : ask t r ⟨o, a, x, w⟩ = ⟨true, true, x, w⟩ := by
  unfold ask
  rw [if_pos h]
theorem ask_line {t r : ByteArray} {o a x : Bool} {w : List ByteArray} (h : t = sLine) : ask t r ⟨o, a, x, w⟩ = ⟨o, true, x, w⟩ := by
  unfold ask
  rw [if_neg (by rw [h]; decide), if_pos h]
theorem ask_on {t r : ByteArray} {o a x : Bool} {w : List ByteArray} (h : t = sOn) : ask t r ⟨o, a, x, w⟩ = ⟨false, a, x, w⟩ := by
  unfold ask
  rw [if_neg (by rw [h]; decide), if_neg (by rw [h]; decide), if_pos h]
theorem ask_next {t r : ByteArray} {o a x : Bool} {w : List ByteArray} (h : t = sNext) : ask t r ⟨o, a, x, w⟩ = ⟨o, a, true, w⟩ := by
  unfold ask
  rw [if_neg (by rw [h]; decide), if_neg (by rw [h]; decide), if_neg (by rw [h]; decide), if_pos h]
theorem ask_words {t r : ByteArray} {o a x : Bool} {w : List ByteArray} (h : t = sWords) : ask t r ⟨o, a, x, w⟩ = ⟨o, a, x, w ++ knw r⟩ := by
  unfold ask
  rw [if_neg (by rw [h]; decide), if_neg (by rw [h]; decide), if_neg (by rw [h]; decide), if_neg (by rw [h]; decide), if_pos h]
theorem ask_none {t r : ByteArray} {p : Ps} (h1 : ¬ t = sOff) (h2 : ¬ t = sOn) (h3 : ¬ t = sLine) (h4 : ¬ t = sNext) (h5 : ¬ t = sWords) : ask t r p = p := by
  unfold ask
  rw [if_neg h1, if_neg h3, if_neg h2, if_neg h4, if_neg h5]
theorem idx_or (t : ByteArray) : Lib.indexB t sMark = -1 ∨ ∃ i : Nat, Lib.indexB t sMark = (i : Int) := by
  rcases Lib.indexB_cases t sMark with h | ⟨i, h, _⟩
  · exact Or.inl h
  · exact Or.inr ⟨i, h⟩
end Go.Proofs.YteeeekpeokgaeaaDoor
