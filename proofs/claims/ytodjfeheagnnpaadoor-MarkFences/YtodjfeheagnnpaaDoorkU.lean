/- (*Index).Place. -/
import Derived.Test.YtodjfeheagnnpaaDoorkT
import Derived.Test.YtodjfeheagnnpaaDoorkF
import Derived.Deep.RegionHeld3
import Derived.BigRegion
namespace Go.Proofs.YtodjfeheagnnpaaDoor.Lns
set_option linter.unusedVariables false
open Go.RowKit Go.ChangeShapes
theorem takeH {P : Program} {ops : Array Oper} {Q : Exit → Act → World → Prop} {md : Region.Mode} {S : World → Prop} {i : Nat} {oi : Oper} {v : Value} {d : Option Tmp} {fuel : Nat} {listed : Array Bool} {a : Act} {w : World} (hi : ops[i]? = some oi)
    (hs : Region.noSelect ops = true) (hf : Region.free md ops listed i = true) (hr : (Region.ready md ops listed).contains i = true) (hd : oi.dst = d)
    (hQ : ∀ c a w, Q (.panic c) (a.put d v) w → Q (.panic c) a w) (hy : YieldsIf P ops S oi v a) (hS : S w)
    (h : wpAnyH P md ops Q S fuel (listed.setIfInBounds i true) (a.put d v) w) : wpAnyH P md ops Q S (fuel + 1) listed a w := by
  subst hd
  exact wpAnyH_take hi hs hf hr hQ hy hS h
theorem Up.drew {B : Nat} {a w : World} (h : Up B a w) : Up B a w.drew := h.stay (Below.refl _ _).drew
theorem Up.cell {a w : World} {x : Addr} {v : Value} (h : Up a.heap.size a w) (hc : a.cell? x = some v) : w.cell? x = some v := cell_stay hc h.1
theorem Up.free {a w : World} {x : Addr} {v : Value} (h : Up a.heap.size a w) (hc : a.cell? x = some v) (hf : a.frozen? x = false) : w.frozen? x = false := by
  rw [World.frozen?_of_block (h.1.block _ (World.block_lt_of_cell? a _ hc))]; exact hf
theorem pos_up (s : ByteArray) {K : Nat} (he : Ends s K) : ∀ j, j ≤ K → ∀ i, i < j → pos s i < pos s j
  | 0, _, i, h => absurd h (Nat.not_lt_zero i)
  | j + 1, hj, i, h => by
    have h1 := (wd_pos s (pos s j) (he.2 j hj)).1
    rcases Nat.lt_or_eq_of_le (Nat.le_of_lt_succ h) with h2 | rfl
    · have := pos_up s he j (by omega) i h2
      simp only [pos]; omega
    · simp only [pos]; omega
theorem pos_up_le (s : ByteArray) {K : Nat} (he : Ends s K) {i j : Nat} (hij : i ≤ j) (hj : j ≤ K) : pos s i ≤ pos s j := by
  rcases Nat.lt_or_eq_of_le hij with h | rfl
  · exact Nat.le_of_lt (pos_up s he j hj i h)
  · exact Nat.le_refl _
theorem lst_pos (s : ByteArray) {K : Nat} (he : Ends s K) : ∀ k, k ≤ K → ∀ x, x ∈ lst s (pos s k) → ∃ i, i < k ∧ pos s i = x
  | 0, _, x, h => by simp [pos, lst] at h
  | k + 1, hk, x, h => by
    simp only [pos] at h
    rw [lst_step s (pos s k) (he.2 k hk), List.mem_append] at h
    rcases h with h | h
    · obtain ⟨i, hi, hx⟩ := lst_pos s he k (by omega) x h
      exact ⟨i, by omega, hx⟩
    · split at h
      · simp at h; exact ⟨k, by omega, h.symm⟩
      · simp at h
theorem S_pos {s : ByteArray} {K j : Nat} (he : Ends s K) (hj : j < nL s) : ∃ k, k < K ∧ pos s k = S s j := by
  have h := S_mem hj
  unfold starts at h
  rw [← he.1] at h
  exact lst_pos s he K (Nat.le_refl _) _ h
theorem ahd_pos {s : ByteArray} {K k : Nat} (he : Ends s K) (hk : k ≤ K) : Ahd K (pos s) ((pos s k : Nat) : Int) k :=
  ⟨hk, fun j hj => by have := pos_up s he k hk j hj; omega, fun j h1 h2 => by have := pos_up_le s he h1 (by omega); omega⟩
end Go.Proofs.YtodjfeheagnnpaaDoor.Lns
