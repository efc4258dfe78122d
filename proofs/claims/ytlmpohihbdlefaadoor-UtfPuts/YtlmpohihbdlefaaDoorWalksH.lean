/- SameUnits, Bytes. -/
import Derived.Test.YtlmpohihbdlefaaDoorWalksG
namespace Go.Proofs.YtlmpohihbdlefaaDoor
set_option linter.unusedVariables false
open Go.RowKit Go.ChangeShapes
theorem ucells_len (s : ByteArray) : ∀ k, (ucells s k).length = k * 3
  | 0 => rfl
  | k + 1 => by rw [ucells_succ, List.length_append, ucells_len s k]; simp; omega
theorem ucells_at (s : ByteArray) : ∀ k i, i < k → (ucells s k)[i * 3]? = some (.int .i32 (rn s (pos s i))) ∧ (ucells s k)[i * 3 + 1]? = some (.int .i64 (pos s i)) ∧ (ucells s k)[i * 3 + 2]? = some (.int .i64 (wd s (pos s i)))
  | 0, i, h => absurd h (Nat.not_lt_zero i)
  | k + 1, i, h => by
    have hl := ucells_len s k
    rw [ucells_succ]
    by_cases hi : i < k
    · obtain ⟨a, b, c⟩ := ucells_at s k i hi
      rw [List.getElem?_append_left (by omega), List.getElem?_append_left (by omega), List.getElem?_append_left (by omega)]
      exact ⟨a, b, c⟩
    · obtain rfl : i = k := by omega
      rw [List.getElem?_append_right (by omega), List.getElem?_append_right (by omega), List.getElem?_append_right (by omega), hl]
      rw [show i * 3 - i * 3 = 0 by omega, show i * 3 + 1 - i * 3 = 1 by omega, show i * 3 + 2 - i * 3 = 2 by omega]
      exact ⟨rfl, rfl, rfl⟩
/-- So many signs lie there. -/
def Us (w : World) (g k : Nat) (s : ByteArray) : Prop := ∀ i, i < k → g < w.heap.size ∧ w.cell? ⟨g, i * 3, none⟩ = some (.int .i32 (rn s (pos s i))) ∧ w.cell? ⟨g, i * 3 + 1, none⟩ = some (.int .i64 (pos s i)) ∧ w.cell? ⟨g, i * 3 + 2, none⟩ = some (.int .i64 (wd s (pos s i)))
theorem us_of {w : World} {base g k cap : Nat} {s : ByteArray} (h : w.ownsRow base 43 3 (.slice (some ⟨g, 0, none⟩) k cap) k (ucells s k)) : Us w g k s := by
  intro i hi
  obtain ⟨a, b, c⟩ := ucells_at s k i hi
  exact ⟨(h.lt g rfl).2, by rw [h.cellAt _ (by omega)]; exact a, by rw [h.cellAt _ (by omega)]; exact b, by rw [h.cellAt _ (by omega)]; exact c⟩
theorem Us.stay {w w' : World} {g k : Nat} {s : ByteArray} (h : Us w g k s) (hb : Below w.heap.size w w') : Us w' g k s := by
  intro i hi
  obtain ⟨l, a, b, c⟩ := h i hi
  exact ⟨Nat.lt_of_lt_of_le l hb.size, (hb.cell l).trans a, (hb.cell l).trans b, (hb.cell l).trans c⟩
theorem same_zero (ad ad' : Option Addr) (c c' : Nat) (w : World) :
    Calls Tryd.prog 11 #[.slice ad 0 c, .slice ad' 0 c'] w fun e w' => e = .returned (.bool true) ∧ w' = w := by
  go_enter Tryd.func11, Tryd.ntmps11
  go_wp2
  go_loopg [5] (0) (fun g i wr => i = .int .i64 0 ∧ wr = w)
  case atStart => exact ⟨rfl, rfl⟩
  case round =>
    obtain ⟨rfl, rfl⟩ := hrel
    go_wp2_with fail
    go_ret
    exact ⟨rfl, rfl⟩
set_option maxHeartbeats 1000000 in
theorem same_us (s : ByteArray) (k g g' c c' : Nat) (w : World) (hk : k ≤ 5000) (h : Us w g k s) (h' : Us w g' k s) :
    Calls Tryd.prog 11 #[.slice (some ⟨g, 0, none⟩) k c, .slice (some ⟨g', 0, none⟩) k c'] w fun e w' => e = .returned (.bool true) ∧ Below w.heap.size w w' := by
  have H : Hid (Us w g k s) := h
  have H' : Hid (Us w g' k s) := h'
  clear h h'
  go_enter Tryd.func11, Tryd.ntmps11
  go_wp2
  go_loopg [5] k (fun n i wr => ∃ j : Nat, j ≤ k ∧ n = k - j ∧ i = .int .i64 j ∧ Hid (Up w.heap.size w wr))
  case atStart => exact ⟨0, Nat.zero_le _, rfl, rfl, Up.refl w⟩
  case round =>
    obtain ⟨j, hj, hn, rfl, HU⟩ := hrel
    by_cases hlt : j < k
    · have z0 : (0 : Int) ≤ (j : Int) := by omega
      have z1 : (j : Int) < (k : Int) := by omega
      obtain ⟨a0, a1, a2, a3⟩ := (H.out.stay HU.out.1) j hlt
      obtain ⟨b0, b1, b2, b3⟩ := (H'.out.stay HU.out.1) j hlt
      go_wp2_with fail
      go_quiet (fail)
      go_wp2
      go_roundg (k - (j + 1))
      case measure => omega
      case rel => exact ⟨j + 1, by omega, rfl, by go_num, HU.out.stay (Go.below_drewN (Below.refl _ _) _)⟩
    · obtain rfl : j = k := by omega
      go_wp2_with fail
      go_ret
      exact ⟨rfl, HU.out.1⟩
theorem same_any (s : ByteArray) (k base base' : Nat) (v v' : Value) (w : World) (hk : k ≤ 5000) (h : w.ownsRow base 43 3 v k (ucells s k)) (h' : w.ownsRow base' 43 3 v' k (ucells s k)) :
    Calls Tryd.prog 11 #[v, v'] w fun e w' => e = .returned (.bool true) ∧ Below w.heap.size w w' := by
  have h0 := h
  have h0' := h'
  have hz : ∀ ad c ad' c', Calls Tryd.prog 11 #[.slice ad 0 c, .slice ad' 0 c'] w fun e w' => e = .returned (.bool true) ∧ Below w.heap.size w w' := fun ad c ad' c' => (same_zero ad ad' c c' w).mono (by
    rintro e w' ⟨rfl, rfl⟩
    exact ⟨rfl, Below.refl _ _⟩)
  obtain ⟨_, ⟨rfl, rfl⟩ | ⟨g, cap, cur, rfl, _⟩⟩ := h
  · obtain ⟨_, ⟨rfl, _⟩ | ⟨g', cap', cur', rfl, _⟩⟩ := h'
    · exact hz _ _ _ _
    · exact hz _ _ _ _
  · obtain ⟨_, ⟨rfl, rfl⟩ | ⟨g', cap', cur', rfl, _⟩⟩ := h'
    · exact hz _ _ _ _
    · exact same_us s k g g' cap cap' w hk (us_of h0) (us_of h0')
theorem info5 : (Tryd.prog.info? 5).map (fun i => (i.zero, i.size, i.bytes)) = some (some (.int .u8 0), 1, 1) := by kernel_rfl
/-- A rune's bytes as cells. -/
def bcells (r : Int) : List Value := (enc r).map fun x => .int .u8 x
theorem enc_one {r : Int} (h0 : 0 ≤ r) (h1 : r < 128) : enc r = [r] := by
  have ho := (okR_iff r).2 (by omega)
  unfold enc; rw [if_neg (by simp [ho]), if_pos h1]
theorem enc_two {r : Int} (h0 : 128 ≤ r) (h1 : r < 2048) : enc r = [192 + r / 64, 128 + r % 64] := by
  have ho := (okR_iff r).2 (by omega)
  unfold enc; rw [if_neg (by simp [ho]), if_neg (by omega), if_pos h1]
theorem enc_three {r : Int} (h0 : 2048 ≤ r) (h1 : r < 65536) (ho : okR r = true) : enc r = [224 + r / 4096, 128 + r / 64 % 64, 128 + r % 64] := by
  unfold enc; rw [if_neg (by simp [ho]), if_neg (by omega), if_neg (by omega), if_pos h1]
theorem enc_four {r : Int} (h0 : 65536 ≤ r) (ho : okR r = true) : enc r = [240 + r / 262144, 128 + r / 4096 % 64, 128 + r / 64 % 64, 128 + r % 64] := by
  unfold enc; rw [if_neg (by simp [ho]), if_neg (by omega), if_neg (by omega), if_neg (by omega)]
set_option maxRecDepth 100000 in
set_option maxHeartbeats 1000000 in
theorem bytes_one (r : Int) (w : World) (h0 : 0 ≤ r) (h1 : r < 128) :
    Calls Tryd.prog 18 #[.int .i32 r] w fun e w' => ∃ v, e = .returned v ∧ w'.ownsRow w.heap.size 5 1 v (enc r).length (bcells r) ∧ Below w.heap.size w w' := by
  have a0 : ¬ r < 0 := by omega
  have a1 : ¬ 1114111 < r := by omega
  have a2 : ¬ 55296 ≤ r := by omega
  have he : enc r = _ := enc_one h0 h1
  unfold bcells
  rw [he]
  clear he
  go_enter Tryd.func18, Tryd.ntmps18
  go_wp2
  go_ret
  exact ⟨_, rfl, World.ownsRow_lit _ _ _ (Nat.le_refl _) (by unfold maxLen; simp) rfl, (Below.refl _ _).alloc (Nat.le_refl _) _⟩
set_option maxRecDepth 100000 in
set_option maxHeartbeats 1000000 in
theorem bytes_two (r : Int) (w : World) (h0 : 128 ≤ r) (h1 : r < 2048) :
    Calls Tryd.prog 18 #[.int .i32 r] w fun e w' => ∃ v, e = .returned v ∧ w'.ownsRow w.heap.size 5 1 v (enc r).length (bcells r) ∧ Below w.heap.size w w' := by
  have a0 : ¬ r < 0 := by omega
  have a1 : ¬ 1114111 < r := by omega
  have a2 : ¬ 55296 ≤ r := by omega
  have a3 : ¬ r < 128 := by omega
  have he : enc r = _ := enc_two h0 h1
  unfold bcells
  rw [he]
  clear he
  go_enter Tryd.func18, Tryd.ntmps18
  go_wp2
  go_ret
  exact ⟨_, rfl, World.ownsRow_lit _ _ _ (Nat.le_refl _) (by unfold maxLen; simp) rfl, (Below.refl _ _).alloc (Nat.le_refl _) _⟩
set_option maxRecDepth 100000 in
set_option maxHeartbeats 1000000 in
theorem bytes_three_a (r : Int) (w : World) (h0 : 2048 ≤ r) (h1 : r < 55296) (ho : okR r = true) :
    Calls Tryd.prog 18 #[.int .i32 r] w fun e w' => ∃ v, e = .returned v ∧ w'.ownsRow w.heap.size 5 1 v (enc r).length (bcells r) ∧ Below w.heap.size w w' := by
  have a0 : ¬ r < 0 := by omega
  have a1 : ¬ 1114111 < r := by omega
  have a2 : ¬ 55296 ≤ r := by omega
  have a3 : ¬ r < 128 := by omega
  have a4 : ¬ r < 2048 := by omega
  have a5 : r < 65536 := by omega
  have he : enc r = _ := enc_three h0 (by omega) ho
  unfold bcells
  rw [he]
  clear he
  go_enter Tryd.func18, Tryd.ntmps18
  go_wp2
  go_ret
  exact ⟨_, rfl, World.ownsRow_lit _ _ _ (Nat.le_refl _) (by unfold maxLen; simp) rfl, (Below.refl _ _).alloc (Nat.le_refl _) _⟩
set_option maxRecDepth 100000 in
set_option maxHeartbeats 1000000 in
theorem bytes_three_b (r : Int) (w : World) (h0 : 57343 < r) (h1 : r < 65536) (ho : okR r = true) :
    Calls Tryd.prog 18 #[.int .i32 r] w fun e w' => ∃ v, e = .returned v ∧ w'.ownsRow w.heap.size 5 1 v (enc r).length (bcells r) ∧ Below w.heap.size w w' := by
  have a0 : ¬ r < 0 := by omega
  have a1 : ¬ 1114111 < r := by omega
  have a2 : 55296 ≤ r := by omega
  have a3 : ¬ r ≤ 57343 := by omega
  have a4 : ¬ r < 128 := by omega
  have a5 : ¬ r < 2048 := by omega
  have he : enc r = _ := enc_three (by omega) h1 ho
  unfold bcells
  rw [he]
  clear he
  go_enter Tryd.func18, Tryd.ntmps18
  go_wp2
  go_ret
  exact ⟨_, rfl, World.ownsRow_lit _ _ _ (Nat.le_refl _) (by unfold maxLen; simp) rfl, (Below.refl _ _).alloc (Nat.le_refl _) _⟩
set_option maxRecDepth 100000 in
set_option maxHeartbeats 1000000 in
theorem bytes_four (r : Int) (w : World) (h0 : 65536 ≤ r) (h1 : r ≤ 1114111) (ho : okR r = true) :
    Calls Tryd.prog 18 #[.int .i32 r] w fun e w' => ∃ v, e = .returned v ∧ w'.ownsRow w.heap.size 5 1 v (enc r).length (bcells r) ∧ Below w.heap.size w w' := by
  have a0 : ¬ r < 0 := by omega
  have a1 : ¬ 1114111 < r := by omega
  have a2 : 55296 ≤ r := by omega
  have a3 : ¬ r ≤ 57343 := by omega
  have a4 : ¬ r < 128 := by omega
  have a5 : ¬ r < 2048 := by omega
  have a6 : ¬ r < 65536 := by omega
  have he : enc r = _ := enc_four h0 ho
  unfold bcells
  rw [he]
  clear he
  go_enter Tryd.func18, Tryd.ntmps18
  go_wp2
  go_ret
  exact ⟨_, rfl, World.ownsRow_lit _ _ _ (Nat.le_refl _) (by unfold maxLen; simp) rfl, (Below.refl _ _).alloc (Nat.le_refl _) _⟩
set_option maxRecDepth 100000 in
set_option maxHeartbeats 1000000 in
theorem bytes_no_a (r : Int) (w : World) (h0 : r < 0) (hb : okR r = false) :
    Calls Tryd.prog 18 #[.int .i32 r] w fun e w' => ∃ v, e = .returned v ∧ w'.ownsRow w.heap.size 5 1 v (enc r).length (bcells r) ∧ Below w.heap.size w w' := by
  unfold bcells
  rw [enc_bad r hb]
  clear hb
  go_enter Tryd.func18, Tryd.ntmps18
  go_wp2
  go_ret
  exact ⟨_, rfl, World.ownsRow_nil _ _ _ _, Below.refl _ _⟩
set_option maxRecDepth 100000 in
set_option maxHeartbeats 1000000 in
theorem bytes_no_b (r : Int) (w : World) (h0 : 1114111 < r) (hb : okR r = false) :
    Calls Tryd.prog 18 #[.int .i32 r] w fun e w' => ∃ v, e = .returned v ∧ w'.ownsRow w.heap.size 5 1 v (enc r).length (bcells r) ∧ Below w.heap.size w w' := by
  have a0 : ¬ r < 0 := by omega
  unfold bcells
  rw [enc_bad r hb]
  clear hb
  go_enter Tryd.func18, Tryd.ntmps18
  go_wp2
  go_ret
  exact ⟨_, rfl, World.ownsRow_nil _ _ _ _, Below.refl _ _⟩
set_option maxRecDepth 100000 in
set_option maxHeartbeats 1000000 in
theorem bytes_no_c (r : Int) (w : World) (h0 : 55296 ≤ r) (h1 : r ≤ 57343) (hb : okR r = false) :
    Calls Tryd.prog 18 #[.int .i32 r] w fun e w' => ∃ v, e = .returned v ∧ w'.ownsRow w.heap.size 5 1 v (enc r).length (bcells r) ∧ Below w.heap.size w w' := by
  have a0 : ¬ r < 0 := by omega
  have a1 : ¬ 1114111 < r := by omega
  unfold bcells
  rw [enc_bad r hb]
  clear hb
  go_enter Tryd.func18, Tryd.ntmps18
  go_wp2
  go_ret
  exact ⟨_, rfl, World.ownsRow_nil _ _ _ _, Below.refl _ _⟩
theorem bytes_any (r : Int) (w : World) :
    Calls Tryd.prog 18 #[.int .i32 r] w fun e w' => ∃ v, e = .returned v ∧ w'.ownsRow w.heap.size 5 1 v (enc r).length (bcells r) ∧ Below w.heap.size w w' := by
  cases ho : okR r
  · by_cases h0 : r < 0
    · exact bytes_no_a r w h0 ho
    by_cases h1 : 1114111 < r
    · exact bytes_no_b r w h1 ho
    have hn : ¬ (0 ≤ r ∧ (r < 55296 ∨ 57343 < r) ∧ r ≤ 1114111) := by rw [← okR_iff, ho]; simp
    exact bytes_no_c r w (by omega) (by omega) ho
  · have hv := (okR_iff r).1 ho
    by_cases h1 : r < 128
    · exact bytes_one r w (by omega) h1
    by_cases h2 : r < 2048
    · exact bytes_two r w (by omega) h2
    by_cases h3 : r < 55296
    · exact bytes_three_a r w (by omega) h3 ho
    by_cases h4 : r < 65536
    · exact bytes_three_b r w (by omega) h4 ho
    exact bytes_four r w (by omega) (by omega) ho
end Go.Proofs.YtlmpohihbdlefaaDoor
