/- The library contracts at this program. -/
import Derived.Shelf.Bytes.SlTrim
import Derived.Test.YtodjfeheagnnpaaGreatDoorProg
namespace Go.Proofs
open Go.Shelf
def Tryz.laysV7_ren : Go.Shelf.Ren := ⟨fun | 7 => 49 | 10 => 62 | 11 => 63 | 13 => 64 | 15 => 65 | 16 => 72 | 19 => 73 | 18 => 74 | 21 => 80 | 17 => 60 | 20 => 71 | n => n, fun | 22 => 22 | 9 => 9 | 3 => 3 | 4 => 4 | 5 => 5 | 28 => 108 | 27 => 107 | 0 => 0 | 31 => 111 | 21 => 21 | 33 => 96 | 36 => 118 | 37 => 119 | 40 => 122 | 39 => 121 | n => n, fun | 0 => 1 | 1 => 2 | n => n⟩
theorem Tryz.laysV7 : Go.Proofs.SlLaysV.n7 Tryz.prog Tryz.laysV7_ren := {
  mixed := by kernel_rfl
  f7 := Tryz.func49.trans (congrArg some (by kernel_rfl))
  f10 := Tryz.func62.trans (congrArg some (by kernel_rfl))
  f11 := Tryz.func63.trans (congrArg some (by kernel_rfl))
  f13 := Tryz.func64.trans (congrArg some (by kernel_rfl))
  f15 := Tryz.func65.trans (congrArg some (by kernel_rfl))
  f16 := Tryz.func72.trans (congrArg some (by kernel_rfl))
  f17 := Tryz.func60.trans (congrArg some (by kernel_rfl))
  f18 := Tryz.func74.trans (congrArg some (by kernel_rfl))
  f19 := Tryz.func73.trans (congrArg some (by kernel_rfl))
  f20 := Tryz.func71.trans (congrArg some (by kernel_rfl))
  f21 := Tryz.func80.trans (congrArg some (by kernel_rfl))
  t0 := Tryz.underlying0
  a0 := Tryz.isAgg0
  z0 := Tryz.sizeOf0
  v0 := Tryz.zeroValue0
  t3 := Tryz.underlying3
  a3 := Tryz.isAgg3
  z3 := Tryz.sizeOf3
  v3 := Tryz.zeroValue3
  t4 := Tryz.underlying4
  a4 := Tryz.isAgg4
  z4 := Tryz.sizeOf4
  v4 := Tryz.zeroValue4
  t5 := Tryz.underlying5
  a5 := Tryz.isAgg5
  z5 := Tryz.sizeOf5
  v5 := Tryz.zeroValue5
  t9 := Tryz.underlying9
  a9 := Tryz.isAgg9
  z9 := Tryz.sizeOf9
  v9 := Tryz.zeroValue9
  t21 := Tryz.underlying21
  a21 := Tryz.isAgg21
  z21 := Tryz.sizeOf21
  v21 := Tryz.zeroValue21
  t22 := Tryz.underlying22
  a22 := Tryz.isAgg22
  z22 := Tryz.sizeOf22
  v22 := Tryz.zeroValue22
  t27 := Tryz.underlying107
  a27 := Tryz.isAgg107
  z27 := Tryz.sizeOf107
  t28 := Tryz.underlying108
  a28 := Tryz.isAgg108
  z28 := Tryz.sizeOf108
  v28 := Tryz.zeroValue108
  t31 := Tryz.underlying111
  a31 := Tryz.isAgg111
  z31 := Tryz.sizeOf111
  v31 := Tryz.zeroValue111
  t33 := Tryz.underlying96
  a33 := Tryz.isAgg96
  z33 := Tryz.sizeOf96
  v33 := Tryz.zeroValue96
  t36 := Tryz.underlying118
  a36 := Tryz.isAgg118
  z36 := Tryz.sizeOf118
  t37 := Tryz.underlying119
  a37 := Tryz.isAgg119
  z37 := Tryz.sizeOf119
  v37 := Tryz.zeroValue119
  t39 := Tryz.underlying121
  a39 := Tryz.isAgg121
  z39 := Tryz.sizeOf121
  v39 := Tryz.zeroValue121
  t40 := Tryz.underlying122
  a40 := Tryz.isAgg122
  z40 := Tryz.sizeOf122
  v40 := Tryz.zeroValue122 }
open Go.RowKit Go.Lib in
theorem Tryz.bytes_TrimRight (p : Option Addr) (n c : Nat) (xs : List Int) (cutset : ByteArray) (w : World)
    (hx : xs.length = n) (hnc : n ≤ c) (hbig : c ≤ 9223372036854775807) (h1 : Lib.BytesIn w p n xs) (hr : ∀ x ∈ xs, 0 ≤ x ∧ x < 256) (hcs : cutset.size < 4294967281) (hascii : ∀ (j : Nat) b, cutset.data.toList[j]? = some b → b.toNat < 128) :
    Calls Tryz.prog 49 #[.slice p n c, .string cutset] w fun e w' => e = .returned (.slice p (Lib.trimRightS (Lib.bytesOf xs) cutset.data.toList).length c) ∧ Below w.heap.size w w' := Any.bytes_TrimRight_laid Tryz.laysV7 (by kernel_rfl) p n c xs cutset w hx hnc hbig h1 hr hcs hascii
end Go.Proofs
