/- span.Cover, where the spans are the signs'. -/
import Derived.Test.YtlmpohihbdlefaaDoorWalksM
namespace Go.Proofs.YtlmpohihbdlefaaDoor
set_option linter.unusedVariables false
open Go.RowKit Go.ChangeShapes
theorem inFile_ok (n : Int) (w : World) (h0 : 0 ≤ n) (h1 : n ≤ 65536) :
    Calls Tryd.prog 32 #[.int .i64 n] w fun e w' => e = .returned (.bool true) ∧ w' = w := by
  go_enter Tryd.func32, Tryd.ntmps32
  go_wp2
  go_ret
  exact ⟨rfl, rfl⟩
theorem sound_ok (a l : Int) (w : World) (h0 : 0 ≤ a) (h1 : a ≤ 65536) (h2 : 0 ≤ l) (h3 : l ≤ 65536) :
    Calls Tryd.prog 27 #[.agg #[.int .i64 a, .int .i64 l]] w fun e w' => e = .returned (.bool true) ∧ w' = w.alloc (.cells #[.int .i64 a, .int .i64 l] 41) := by
  go_enter Tryd.func27, Tryd.ntmps27
  go_wp2_with fail
  refine (inFile_ok a _ h0 h1).mono ?_
  rintro e w' ⟨rfl, rfl⟩
  go_wp2_with fail
  refine (inFile_ok l _ h2 h3).mono ?_
  rintro e w' ⟨rfl, rfl⟩
  go_wp2
  go_ret
  exact ⟨rfl, rfl⟩
theorem end_ok (a l : Int) (w : World) (h0 : 0 ≤ a) (h1 : a ≤ 65536) (h2 : 0 ≤ l) (h3 : l ≤ 65536) :
    Calls Tryd.prog 28 #[.agg #[.int .i64 a, .int .i64 l]] w fun e w' => e = .returned (.int .i64 (a + l)) ∧ w' = w.alloc (.cells #[.int .i64 a, .int .i64 l] 41) := by
  go_enter Tryd.func28, Tryd.ntmps28
  go_wp2
  go_ret
  exact ⟨rfl, rfl⟩
/-- The spans of so many signs. -/
def Sp (w : World) (g k : Nat) (s : ByteArray) : Prop := ∀ i, i < k → g < w.heap.size ∧ w.cell? ⟨g, i * 2, none⟩ = some (.int .i64 (pos s i)) ∧ w.cell? ⟨g, i * 2 + 1, none⟩ = some (.int .i64 (wd s (pos s i)))
theorem Sp.stay {w w' : World} {g k : Nat} {s : ByteArray} (h : Sp w g k s) (hb : Below w.heap.size w w') : Sp w' g k s := by
  intro i hi
  obtain ⟨l, a, b⟩ := h i hi
  exact ⟨Nat.lt_of_lt_of_le l hb.size, (hb.cell l).trans a, (hb.cell l).trans b⟩
def scells (s : ByteArray) (k : Nat) : List Value := (List.range k).flatMap fun j => [.int .i64 (pos s j), .int .i64 (wd s (pos s j))]
theorem scells_succ (s : ByteArray) (k : Nat) : scells s (k + 1) = scells s k ++ [.int .i64 (pos s k), .int .i64 (wd s (pos s k))] := by
  simp [scells, List.range_succ]
theorem scells_len (s : ByteArray) : ∀ k, (scells s k).length = k * 2
  | 0 => rfl
  | k + 1 => by rw [scells_succ, List.length_append, scells_len s k]; simp; omega
theorem scells_at (s : ByteArray) : ∀ k i, i < k → (scells s k)[i * 2]? = some (.int .i64 (pos s i)) ∧ (scells s k)[i * 2 + 1]? = some (.int .i64 (wd s (pos s i)))
  | 0, i, h => absurd h (Nat.not_lt_zero i)
  | k + 1, i, h => by
    have hl := scells_len s k
    rw [scells_succ]
    by_cases hi : i < k
    · obtain ⟨a, b⟩ := scells_at s k i hi
      rw [List.getElem?_append_left (by omega), List.getElem?_append_left (by omega)]
      exact ⟨a, b⟩
    · obtain rfl : i = k := by omega
      rw [List.getElem?_append_right (by omega), List.getElem?_append_right (by omega), hl]
      rw [show i * 2 - i * 2 = 0 by omega, show i * 2 + 1 - i * 2 = 1 by omega]
      exact ⟨rfl, rfl⟩
theorem sp_of {w : World} {base g k cap : Nat} {s : ByteArray} (h : w.ownsRow base 41 2 (.slice (some ⟨g, 0, none⟩) k cap) k (scells s k)) : Sp w g k s := by
  intro i hi
  obtain ⟨a, b⟩ := scells_at s k i hi
  exact ⟨(h.lt g rfl).2, by rw [h.cellAt _ (by omega)]; exact a, by rw [h.cellAt _ (by omega)]; exact b⟩
theorem cover_zero (ad : Option Addr) (c : Nat) (w : World) :
    Calls Tryd.prog 20 #[.slice ad 0 c, .int .i64 0] w fun e w' => e = .returned (.bool true) ∧ w' = w := by
  go_enter Tryd.func20, Tryd.ntmps20
  go_wp2
  go_loopg [5, 10] (0) (fun g l i wr => l = .int .i64 0 ∧ i = .int .i64 0 ∧ wr = w)
  case atStart => exact ⟨rfl, rfl, rfl⟩
  case round =>
    obtain ⟨rfl, rfl, rfl⟩ := hrel
    go_wp2_with fail
    go_ret
    exact ⟨rfl, rfl⟩
set_option maxHeartbeats 1000000 in
theorem cover_sp (s : ByteArray) (n g cap : Nat) (w : World) (hs : s.size ≤ 5000) (he : Ends s n) (h : Sp w g n s) :
    Calls Tryd.prog 20 #[.slice (some ⟨g, 0, none⟩) n cap, .int .i64 s.size] w fun e w' => e = .returned (.bool true) ∧ Below w.heap.size w w' := by
  have HS : Hid (Sp w g n s) := h
  have HE : Hid (Ends s n) := he
  have hn := he.le
  clear h he
  go_enter Tryd.func20, Tryd.ntmps20
  go_wp2
  go_loopg [5, 10] n (fun m l i wr => ∃ k : Nat, k ≤ n ∧ m = n - k ∧ i = .int .i64 k ∧ l = .int .i64 (pos s k) ∧ Hid (Up w.heap.size w wr))
  case atStart => exact ⟨0, Nat.zero_le _, rfl, rfl, rfl, Up.refl w⟩
  case round =>
    obtain ⟨k, hk, hm, rfl, rfl, HU⟩ := hrel
    by_cases hlt : k < n
    · have z0 : (0 : Int) ≤ (k : Int) := by omega
      have z1 : (k : Int) < (n : Int) := by omega
      obtain ⟨hb, c0, c1⟩ := (HS.out.stay HU.out.1) k hlt
      have hp := HE.out.2 k hlt
      obtain ⟨y1, y2, y3⟩ := wd_pos s (pos s k) hp
      have y0 : ¬ (wd s (pos s k) : Int) = 0 := by omega
      have HN : Hid (pos s (k + 1) = pos s k + wd s (pos s k)) := rfl
      generalize pos s k = p at c0 c1 y1 y2 y3 y0 hp HN ⊢
      generalize wd s p = d at c1 y1 y2 y3 y0 HN ⊢
      go_wp2_with (first | (go_at_call 27; refine (sound_ok _ _ _ (by omega) (by omega) (by omega) (by omega)).mono ?_; rintro e w' ⟨rfl, rfl⟩) | (go_at_call 28; refine (end_ok _ _ _ (by omega) (by omega) (by omega) (by omega)).mono ?_; rintro e w' ⟨rfl, rfl⟩))
      go_roundg (n - (k + 1))
      case measure => omega
      case rel => exact ⟨k + 1, by omega, rfl, by go_num, by rw [HN.out]; simp, ((HU.out.alloc _).alloc _).alloc _⟩
    · obtain rfl : k = n := by omega
      rw [HE.out.1]
      go_wp2_with fail
      go_ret
      exact ⟨rfl, HU.out.1⟩
theorem cover_any (s : ByteArray) (n base : Nat) (v : Value) (w : World) (hs : s.size ≤ 5000) (he : Ends s n) (h : w.ownsRow base 41 2 v n (scells s n)) :
    Calls Tryd.prog 20 #[v, .int .i64 s.size] w fun e w' => e = .returned (.bool true) ∧ Below w.heap.size w w' := by
  have h0 := h
  obtain ⟨_, ⟨rfl, rfl⟩ | ⟨g, cap, cur, rfl, _⟩⟩ := h
  · have hz : s.size = 0 := he.1.symm
    rw [hz]
    refine (cover_zero none 0 w).mono ?_
    rintro e w' ⟨rfl, rfl⟩
    exact ⟨rfl, Below.refl _ _⟩
  · exact cover_sp s n g cap w hs he (sp_of h0)
/-- Bytes of the call's own, as bytes. -/
theorem bsl_own {w : World} {base n : Nat} {v : Value} {l : List Int} (h : w.ownsRow base 5 1 v n (cellsOf l)) (hr : ∀ x, x ∈ l → 0 ≤ x ∧ x < 256) : BSl w v (strOfNums l) := by
  have h0 := h
  obtain ⟨hl, ⟨rfl, rfl⟩ | ⟨g, cap, cur, rfl, hg, hh, h3, _⟩⟩ := h
  · refine Or.inl ⟨none, 0, rfl, ?_⟩
    rw [strOfNums_size]
    simpa [cellsOf] using hl
  · have hln : l.length = n := by simpa [cellsOf] using hl
    have hsz : (strOfNums l).size = n := by rw [strOfNums_size, hln]
    by_cases hz : n = 0
    · subst hz
      exact Or.inl ⟨_, _, rfl, hsz⟩
    · refine Or.inr ⟨g, 0, cap, by rw [hsz], by omega, by omega, fun j hj => ?_⟩
      have hj' : j < l.length := by omega
      rw [Nat.zero_add, h0.cellAt j (by omega)]
      have hb := nums_bt (List.getElem?_eq_getElem hj') (hr _ (List.getElem_mem hj'))
      simp only [cellsOf, List.getElem?_map, List.getElem?_eq_getElem hj', Option.map_some]
      unfold bt at hb
      rw [hb]
end Go.Proofs.YtlmpohihbdlefaaDoor
