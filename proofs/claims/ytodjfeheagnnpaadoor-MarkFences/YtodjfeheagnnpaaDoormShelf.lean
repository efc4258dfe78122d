/- The library contracts at this program. -/
import Derived.Shelf.Bytes.SlTrim
import Derived.Test.YtodjfeheagnnpaaDoorProg
namespace Go.Proofs
open Go.Shelf
def Tryd.laysV7_ren : Go.Shelf.Ren := ⟨fun | 7 => 56 | 10 => 67 | 11 => 68 | 13 => 69 | 15 => 70 | 16 => 79 | 19 => 80 | 18 => 81 | 21 => 86 | 17 => 65 | 20 => 78 | n => n, fun | 22 => 22 | 9 => 9 | 3 => 3 | 4 => 4 | 5 => 5 | 28 => 109 | 27 => 108 | 0 => 0 | 31 => 112 | 21 => 21 | 33 => 99 | 36 => 120 | 37 => 114 | 40 => 123 | 39 => 122 | n => n, fun | 0 => 2 | 1 => 3 | n => n⟩
theorem Tryd.laysV7 : Go.Proofs.SlLaysV.n7 Tryd.prog Tryd.laysV7_ren := {
  mixed := by kernel_rfl
  f7 := Tryd.func56.trans (congrArg some (by kernel_rfl))
  f10 := Tryd.func67.trans (congrArg some (by kernel_rfl))
  f11 := Tryd.func68.trans (congrArg some (by kernel_rfl))
  f13 := Tryd.func69.trans (congrArg some (by kernel_rfl))
  f15 := Tryd.func70.trans (congrArg some (by kernel_rfl))
  f16 := Tryd.func79.trans (congrArg some (by kernel_rfl))
  f17 := Tryd.func65.trans (congrArg some (by kernel_rfl))
  f18 := Tryd.func81.trans (congrArg some (by kernel_rfl))
  f19 := Tryd.func80.trans (congrArg some (by kernel_rfl))
  f20 := Tryd.func78.trans (congrArg some (by kernel_rfl))
  f21 := Tryd.func86.trans (congrArg some (by kernel_rfl))
  t0 := Tryd.underlying0
  a0 := Tryd.isAgg0
  z0 := Tryd.sizeOf0
  v0 := Tryd.zeroValue0
  t3 := Tryd.underlying3
  a3 := Tryd.isAgg3
  z3 := Tryd.sizeOf3
  v3 := Tryd.zeroValue3
  t4 := Tryd.underlying4
  a4 := Tryd.isAgg4
  z4 := Tryd.sizeOf4
  v4 := Tryd.zeroValue4
  t5 := Tryd.underlying5
  a5 := Tryd.isAgg5
  z5 := Tryd.sizeOf5
  v5 := Tryd.zeroValue5
  t9 := Tryd.underlying9
  a9 := Tryd.isAgg9
  z9 := Tryd.sizeOf9
  v9 := Tryd.zeroValue9
  t21 := Tryd.underlying21
  a21 := Tryd.isAgg21
  z21 := Tryd.sizeOf21
  v21 := Tryd.zeroValue21
  t22 := Tryd.underlying22
  a22 := Tryd.isAgg22
  z22 := Tryd.sizeOf22
  v22 := Tryd.zeroValue22
  t27 := Tryd.underlying108
  a27 := Tryd.isAgg108
  z27 := Tryd.sizeOf108
  t28 := Tryd.underlying109
  a28 := Tryd.isAgg109
  z28 := Tryd.sizeOf109
  v28 := Tryd.zeroValue109
  t31 := Tryd.underlying112
  a31 := Tryd.isAgg112
  z31 := Tryd.sizeOf112
  v31 := Tryd.zeroValue112
  t33 := Tryd.underlying99
  a33 := Tryd.isAgg99
  z33 := Tryd.sizeOf99
  v33 := Tryd.zeroValue99
  t36 := Tryd.underlying120
  a36 := Tryd.isAgg120
  z36 := Tryd.sizeOf120
  t37 := Tryd.underlying114
  a37 := Tryd.isAgg114
  z37 := Tryd.sizeOf114
  v37 := Tryd.zeroValue114
  t39 := Tryd.underlying122
  a39 := Tryd.isAgg122
  z39 := Tryd.sizeOf122
  v39 := Tryd.zeroValue122
  t40 := Tryd.underlying123
  a40 := Tryd.isAgg123
  z40 := Tryd.sizeOf123
  v40 := Tryd.zeroValue123 }
open Go.RowKit Go.Lib in
theorem Tryd.bytes_TrimRight (p : Option Addr) (n c : Nat) (xs : List Int) (cutset : ByteArray) (w : World)
    (hx : xs.length = n) (hnc : n ≤ c) (hbig : c ≤ 9223372036854775807) (h1 : Lib.BytesIn w p n xs) (hr : ∀ x ∈ xs, 0 ≤ x ∧ x < 256) (hcs : cutset.size < 4294967281) (hascii : ∀ (j : Nat) b, cutset.data.toList[j]? = some b → b.toNat < 128) :
    Calls Tryd.prog 56 #[.slice p n c, .string cutset] w fun e w' => e = .returned (.slice p (Lib.trimRightS (Lib.bytesOf xs) cutset.data.toList).length c) ∧ Below w.heap.size w w' := Any.bytes_TrimRight_laid Tryd.laysV7 (by kernel_rfl) p n c xs cutset w hx hnc hbig h1 hr hcs hascii
end Go.Proofs
