/- Awake. -/
import Derived.Test.YtlmpohihbdlefaaDoorWalksJ
namespace Go.Proofs.YtlmpohihbdlefaaDoor
set_option linter.unusedVariables false
open Go.RowKit Go.ChangeShapes
def sA : ByteArray := ⟨#[195, 164, 65]⟩
def sB : ByteArray := ⟨#[255, 65]⟩
theorem decA : Lib.decodeGo sA = (228, 2) := by decide
theorem decB0 : Utf8.decode sB 0 = (65533, 1) := by decide
theorem decB1 : Utf8.decode sB 1 = (65, 1) := by decide
theorem posB1 : pos sB 1 = 1 := by simp [pos, wd, decB0]
theorem posB2 : pos sB 2 = 2 := by show pos sB 1 + wd sB (pos sB 1) = 2; rw [posB1]; simp [wd, decB1]
theorem endsB : Ends sB 2 := ⟨posB2, fun j hj => by
  match j, hj with
  | 0, _ => decide
  | 1, _ => rw [posB1]; decide
  | j + 2, h => omega⟩
theorem by_lit (w : World) (cs : Array Value) (s : ByteArray) (h : ∀ j, j < s.size → cs[j]? = some (.int .u8 (s.get! j).toNat)) : By (w.alloc (.cells cs 5)) w.heap.size 0 s := by
  intro j hj
  rw [Nat.zero_add, ← h j hj]
  simp [World.cell?, World.alloc, -World.alloc_eq]
set_option maxHeartbeats 1000000 in
theorem awake_any (w : World) (hT : Tabs w) :
    Calls Tryd.prog 8 #[] w fun e w' => e = .returned (.bool true) ∧ Below w.heap.size w w' := by
  have HT : Hid (Tabs w) := hT
  clear hT
  go_enter Tryd.func8, Tryd.ntmps8
  go_wp2_with fail
  have c1 := next_go sA w.heap.size 0 3 (w.alloc (.cells #[.int .u8 195, .int .u8 164, .int .u8 65] 5)) (tabs_stay HT.out ((Below.refl _ _).alloc (Nat.le_refl _) _)) (by_lit _ _ sA (fun j hj => by
    match j, hj with
    | 0, _ => rfl
    | 1, _ => rfl
    | 2, _ => rfl
    | j + 3, h => exact absurd h (by show ¬ (j + 3 < 3); omega)))
  rw [decA] at c1
  refine c1.mono ?_
  rintro e w1 ⟨rfl, hb1⟩
  have HU1 : Hid (Up w.heap.size w w1) := ((Up.refl w).alloc _).stay hb1
  clear c1 hb1
  go_wp2_with fail
  refine (units_any sB w1.heap.size 0 2 (w1.alloc (.cells #[.int .u8 255, .int .u8 65] 5)) (by decide) (by decide) (tabs_stay HT.out (HU1.out.alloc _).1) (by_lit _ _ sB (fun j hj => by
    match j, hj with
    | 0, _ => rfl
    | 1, _ => rfl
    | j + 2, h => exact absurd h (by show ¬ (j + 2 < 2); omega)))).mono ?_
  rintro e w2 ⟨k, v, rfl, he, hown, hb2⟩
  obtain rfl : k = 2 := he.one endsB
  have HU2 : Hid (Up w.heap.size w w2) := (HU1.out.alloc _).stay hb2
  clear hb2 HU1 he
  obtain ⟨g, cap, rfl⟩ : ∃ g cap, v = .slice (some ⟨g, 0, none⟩) 2 cap := by
    obtain ⟨_, ⟨_, h⟩ | ⟨g, cap, cur, rfl, _⟩⟩ := hown
    · cases h
    · exact ⟨g, cap, rfl⟩
  obtain ⟨_, a0, _, _⟩ := us_of hown 0 (by decide)
  obtain ⟨_, b0, _, _⟩ := us_of hown 1 (by decide)
  rw [show rn sB (pos sB 0) = -1 by unfold rn; show kn (Utf8.decode sB 0) = -1; rw [decB0]; rfl] at a0
  rw [show rn sB (pos sB 1) = 65 by unfold rn; rw [posB1, decB1]; rfl] at b0
  simp only [Nat.zero_mul, Nat.one_mul] at a0 b0
  clear hown HT
  go_wp2
  go_ret
  exact ⟨rfl, HU2.out.1⟩
end Go.Proofs.YtlmpohihbdlefaaDoor
