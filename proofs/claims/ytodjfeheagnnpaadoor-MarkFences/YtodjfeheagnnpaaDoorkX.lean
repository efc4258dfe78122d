/- New of any bytes; Split. -/
import Derived.Test.YtodjfeheagnnpaaDoorkW
namespace Go.Proofs.YtodjfeheagnnpaaDoor.Lns
set_option linter.unusedVariables false
open Go.RowKit Go.ChangeShapes
theorem new_zero (s : ByteArray) (ad : Option Addr) (cap : Nat) (w : World) (h0 : s.size = 0) :
    Calls Tryd.prog 29 #[.slice ad 0 cap] w fun e w' => ∃ K, ∃ v, e = .returned v ∧ Idx w' v s K ∧ Below w.heap.size w w' := by
  have H0 : Hid (s.size = 0) := h0
  clear h0
  have k0 : (w.alloc (.cells #[.int .i64 0, .slice none 0 0, .slice none 0 0] 83)).cell? ⟨w.heap.size, 0, none⟩ = some (.int .i64 0) := by simp
  have k1 : (w.alloc (.cells #[.int .i64 0, .slice none 0 0, .slice none 0 0] 83)).cell? ⟨w.heap.size, 1, none⟩ = some (.slice none 0 0) := by simp
  have k2 : (w.alloc (.cells #[.int .i64 0, .slice none 0 0, .slice none 0 0] 83)).cell? ⟨w.heap.size, 2, none⟩ = some (.slice none 0 0) := by simp
  have HI : Hid (Idx (w.alloc (.cells #[.int .i64 0, .slice none 0 0, .slice none 0 0] 83)) (.pointer (some ⟨w.heap.size, 0, none⟩)) s 0) := ⟨ends_zero H0.out, w.heap.size, _, _, rfl, by rw [H0.out]; exact k0, k1, k2, Or.inl ⟨none, 0, rfl, nL_zero H0.out⟩, Or.inl ⟨none, 0, rfl, rfl⟩⟩
  have HB : Hid (Below w.heap.size w (w.alloc (.cells #[.int .i64 0, .slice none 0 0, .slice none 0 0] 83))) := ((Up.refl w).alloc _).1
  obtain ⟨W, hW⟩ : ∃ W, w.alloc (.cells #[.int .i64 0, .slice none 0 0, .slice none 0 0] 83) = W := ⟨_, rfl⟩
  rw [hW] at HI HB
  clear k0 k1 k2
  go_enter Tryd.func29, Tryd.ntmps29
  go_wp2_with fail
  refine (units_zero ad cap W).mono ?_
  rintro e w1 ⟨rfl, rfl⟩
  go_wp2
  go_loopg [4, 14] (0) (fun g b i wr => b = .bool true ∧ i = .int .i64 0 ∧ wr = w1)
  case atStart => exact ⟨rfl, rfl, rfl⟩
  case round =>
    obtain ⟨rfl, rfl, rfl⟩ := hrel
    go_wp2_with fail
    go_ret
    exact ⟨0, _, rfl, HI.out, HB.out⟩
theorem new_any (s : ByteArray) (v : Value) (w : World) (hs : s.size ≤ 40000) (hT : Tabs w) (h : BSl w v s) :
    Calls Tryd.prog 29 #[v] w fun e w' => ∃ K, ∃ v, e = .returned v ∧ Idx w' v s K ∧ Below w.heap.size w w' := by
  rcases h with ⟨ad, c, rfl, h⟩ | ⟨b, off, c, rfl, h1, h2, h⟩
  · exact new_zero s ad c w h
  · exact new_at s b off c w hs h2 hT h
end Go.Proofs.YtodjfeheagnnpaaDoor.Lns
