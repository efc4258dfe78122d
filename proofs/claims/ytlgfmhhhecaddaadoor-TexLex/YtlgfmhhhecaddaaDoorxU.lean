/- utf.Next. -/
import Derived.Test.YtlgfmhhhecaddaaDoorkA
import Derived.Test.YtlgfmhhhecaddaaDoorxShelfU
import Derived.Deep.LoopGhost
import Derived.Deep.DeepFit
import Derived.OwnWalk
namespace Go.Proofs.YtlgfmhhhecaddaaDoor.Lns
set_option linter.unusedVariables false
open Go.RowKit Go.ChangeShapes
/-- A fact that no tactic takes for a rule. -/
def Hid (p : Prop) : Prop := p
theorem Hid.out {p : Prop} (h : Hid p) : p := h
/-- So many bytes lie there. -/
def By (w : World) (b off : Nat) (s : ByteArray) : Prop := ∀ j, j < s.size → w.cell? ⟨b, off + j, none⟩ = some (.int .u8 (s.get! j).toNat)
theorem By.stay {w w' : World} {b off : Nat} {s : ByteArray} (h : By w b off s) (hb : Below w.heap.size w w') : By w' b off s :=
  fun j hj => (hb.cell (World.block_lt_of_cell? w _ (h j hj))).trans (h j hj)
abbrev Tabs (w : World) : Prop := Lib.Utf8Tabs 1 2 w
theorem tabs_stay {w w' : World} (h : Tabs w) (hb : Below w.heap.size w w') : Tabs w' :=
  ⟨fun c hc => (hb.cell (World.block_lt_of_cell? w _ (h.1 c hc))).trans (h.1 c hc),
   fun i hi => ⟨(hb.cell (World.block_lt_of_cell? w _ (h.2 i hi).1)).trans (h.2 i hi).1, (hb.cell (World.block_lt_of_cell? w _ (h.2 i hi).2)).trans (h.2 i hi).2⟩⟩
/-- The bytes from a place on. -/
def from_ (s : ByteArray) (p : Nat) : ByteArray := ⟨s.data.extract p s.data.size⟩
theorem from_size (s : ByteArray) (p : Nat) : (from_ s p).size = s.size - p := by
  show (s.data.extract p s.data.size).size = s.data.size - p
  simp
theorem from_get (s : ByteArray) (p i : Nat) : (from_ s p).get! i = s.get! (p + i) := by
  show (s.data.extract p s.data.size)[i]! = s.data[p + i]!
  simp only [getElem!_def, Array.getElem?_extract, Nat.min_self]
  by_cases h : i < s.data.size - p
  · rw [if_pos h]
  · rw [if_neg h, Array.getElem?_eq_none (by omega)]
theorem from_decode (s : ByteArray) (p i : Nat) : Utf8.decode (from_ s p) i = Utf8.decode s (p + i) := by
  rw [Go.Lib.decode_at, Go.Lib.decode_at, from_size, from_get, from_get, from_get, from_get]
  rw [show s.size - p - i = s.size - (p + i) by omega]
  rfl
theorem from_decodeGo (s : ByteArray) (p : Nat) (h : p < s.size) : Lib.decodeGo (from_ s p) = Utf8.decode s p := by
  unfold Lib.decodeGo
  rw [if_neg (by rw [from_size]; omega), from_decode, Nat.add_zero]
theorem next_go (s : ByteArray) (b off cap : Nat) (w : World) (hT : Tabs w) (hb : By w b off s) :
    Calls Tryd.prog 40 #[.slice (some ⟨b, off, none⟩) s.size cap] w fun e w' => e = .returned (.tuple #[.int .i32 (kn (Lib.decodeGo s)), .int .i64 (Lib.decodeGo s).2]) ∧ Below w.heap.size w w' := by
  have c := Tryd.utf8_DecodeRune s b off cap w hT hb
  generalize Lib.decodeGo s = d at c ⊢
  generalize s.size = n at c ⊢
  clear hT hb
  go_enter Tryd.func40, Tryd.ntmps40
  go_wp2_with fail
  refine c.mono ?_
  rintro e w1 ⟨rfl, hb⟩
  go_wp2_with fail
  refine (known_any d _).mono ?_
  rintro e w2 ⟨rfl, rfl⟩
  go_wp2
  go_ret2
  exact ⟨rfl, hb⟩
theorem next_at (s : ByteArray) (p b off cap : Nat) (w : World) (hp : p < s.size) (hT : Tabs w) (hb : By w b off s) :
    Calls Tryd.prog 40 #[.slice (some ⟨b, off + p, none⟩) (s.size - p) cap] w fun e w' => e = .returned (.tuple #[.int .i32 (rn s p), .int .i64 (wd s p)]) ∧ Below w.heap.size w w' := by
  have c := next_go (from_ s p) b (off + p) cap w hT (fun j hj => by
    rw [from_get, Nat.add_assoc]
    exact hb (p + j) (by rw [from_size] at hj; omega))
  rw [from_decodeGo s p hp, from_size] at c
  exact c
end Go.Proofs.YtlgfmhhhecaddaaDoor.Lns
