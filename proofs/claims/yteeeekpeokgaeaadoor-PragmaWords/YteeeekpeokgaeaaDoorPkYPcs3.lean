/- The pieces of files; bounds. -/
import Derived.Test.YteeeekpeokgaeaaDoorPkYAwk2
import Derived.Test.YteeeekpeokgaeaaDoorPkKS3
import Derived.Deep.RegionHeld3
import Derived.BigRegion
import Derived.Test.YteeeekpeokgaeaaDoorkKit
namespace Go.Proofs.YteeeekpeokgaeaaDoor
set_option linter.unusedVariables false
open Go.RowKit Go.ChangeShapes Tns
open Lns (nL nL_le line S)
def psR : List (List Int) := [[115, 112, 101, 108, 108, 58, 111, 102, 102], [115, 112, 101, 108, 108, 58, 111, 110], [115, 112, 101, 108, 108, 58, 108, 105, 110, 101], [115, 112, 101, 108, 108, 58, 110, 101, 120, 116], [115, 112, 101, 108, 108, 58, 119, 111, 114, 100, 115], [115, 112, 101, 108, 108, 58], [115, 112, 101, 108, 108], [58], [10], [13, 10], [32], [44], [119, 111, 114, 100], [84, 101, 104], [100, 111, 110, 39, 116], [39], [32, 97, 44, 32, 98], [120], [45, 45, 62], [115, 112, 101, 108, 108, 58, 111, 102, 102, 120], [195, 169], [255], [35], [115, 112, 101, 108, 108, 58, 119, 111, 114, 100, 115, 32, 65, 98, 99, 44, 100, 69, 102, 32, 45, 45, 62], [9]]
set_option maxRecDepth 100000 in
theorem piecesR_any (w : World) : Calls Tryd.prog 10 #[] w fun ev w' => ∃ G, ev = .returned (.slice (some ⟨G, 0, none⟩) 25 25) ∧ PS w' G psR ∧ Below w.heap.size w w' := by
  obtain ⟨W, hW⟩ : ∃ W, w.alloc (.cells #[.string ⟨#[115, 112, 101, 108, 108, 58, 111, 102, 102]⟩, .string ⟨#[115, 112, 101, 108, 108, 58, 111, 110]⟩, .string ⟨#[115, 112, 101, 108, 108, 58, 108, 105, 110, 101]⟩, .string ⟨#[115, 112, 101, 108, 108, 58, 110, 101, 120, 116]⟩, .string ⟨#[115, 112, 101, 108, 108, 58, 119, 111, 114, 100, 115]⟩, .string ⟨#[115, 112, 101, 108, 108, 58]⟩, .string ⟨#[115, 112, 101, 108, 108]⟩, .string ⟨#[58]⟩, .string ⟨#[10]⟩, .string ⟨#[13, 10]⟩, .string ⟨#[32]⟩, .string ⟨#[44]⟩, .string ⟨#[119, 111, 114, 100]⟩, .string ⟨#[84, 101, 104]⟩, .string ⟨#[100, 111, 110, 39, 116]⟩, .string ⟨#[39]⟩, .string ⟨#[32, 97, 44, 32, 98]⟩, .string ⟨#[120]⟩, .string ⟨#[45, 45, 62]⟩, .string ⟨#[115, 112, 101, 108, 108, 58, 111, 102, 102, 120]⟩, .string ⟨#[195, 169]⟩, .string ⟨#[255]⟩, .string ⟨#[35]⟩, .string ⟨#[115, 112, 101, 108, 108, 58, 119, 111, 114, 100, 115, 32, 65, 98, 99, 44, 100, 69, 102, 32, 45, 45, 62]⟩, .string ⟨#[9]⟩] 9) = W := ⟨_, rfl⟩
  have HP : Hid (PS W w.heap.size psR ∧ Below w.heap.size w W) := by rw [← hW]; exact ⟨lit_ps w psR, below_alloc w _⟩
  go_enter Tryd.func10, Tryd.ntmps10
  go_wp2
  go_ret
  exact ⟨w.heap.size, rfl, HP.out.1, HP.out.2⟩
theorem rdA_in (s : ByteArray) : ∀ j, ∀ p ∈ (rdL s j).r, p.1 + p.2 ≤ s.size
  | 0, p, hp => by cases hp
  | j + 1, p, hp => by
    have e : (rdL s (j + 1)).r = bif (scn (line s j) 0 ⟨(rdL s j).o, (rdL s j).o || (rdL s j).x, false, (rdL s j).w⟩).a then (rdL s j).r ++ [(S s j, (line s j).size)] else (rdL s j).r := rfl
    rw [e] at hp
    have ih := rdA_in s j p
    cases hq : (scn (line s j) 0 ⟨(rdL s j).o, (rdL s j).o || (rdL s j).x, false, (rdL s j).w⟩).a
    · rw [hq] at hp
      exact ih hp
    · rw [hq] at hp
      rcases List.mem_append.1 (show p ∈ (rdL s j).r ++ [(S s j, (line s j).size)] from hp) with h | h
      · exact ih h
      · obtain rfl : p = (S s j, (line s j).size) := by simpa using h
        show S s j + (line s j).size ≤ s.size
        rw [Lns.line_size]
        have h1 := Lns.S_le s (j + 1)
        have h2 := Lns.S_mono_le s (show j ≤ j + 1 by omega)
        omega
theorem rdA_len (s : ByteArray) : ∀ j, (rdL s j).r.length ≤ j
  | 0 => Nat.le_refl 0
  | j + 1 => by
    have e : (rdL s (j + 1)).r = bif (scn (line s j) 0 ⟨(rdL s j).o, (rdL s j).o || (rdL s j).x, false, (rdL s j).w⟩).a then (rdL s j).r ++ [(S s j, (line s j).size)] else (rdL s j).r := rfl
    rw [e]
    have ih := rdA_len s j
    cases (scn (line s j) 0 ⟨(rdL s j).o, (rdL s j).o || (rdL s j).x, false, (rdL s j).w⟩).a
    · exact Nat.le_succ_of_le ih
    · show ((rdL s j).r ++ [(S s j, (line s j).size)]).length ≤ j + 1
      rw [List.length_append]
      simp
      exact ih
theorem own_max {w : World} {base e size n : Nat} {v : Value} {xs : List Value} (h : w.ownsRow base e size v n xs) : n ≤ maxLen := by
  obtain ⟨_, ⟨_, h2⟩ | ⟨g, cap, cur, _, _, _, h3, h4, _⟩⟩ := h
  · omega
  · omega
end Go.Proofs.YteeeekpeokgaeaaDoor
/- (*Index).Place. -/
namespace Go.Proofs.YteeeekpeokgaeaaDoor.Lns
set_option linter.unusedVariables false
open Go.RowKit Go.ChangeShapes
theorem takeH {P : Program} {ops : Array Oper} {Q : Exit → Act → World → Prop} {md : Region.Mode} {S : World → Prop} {i : Nat} {oi : Oper} {v : Value} {d : Option Tmp} {fuel : Nat} {listed : Array Bool} {a : Act} {w : World} (hi : ops[i]? = some oi)
    (hs : Region.noSelect ops = true) (hf : Region.free md ops listed i = true) (hr : (Region.ready md ops listed).contains i = true) (hd : oi.dst = d)
    (hQ : ∀ c a w, Q (.panic c) (a.put d v) w → Q (.panic c) a w) (hy : YieldsIf P ops S oi v a) (hS : S w)
    (h : wpAnyH P md ops Q S fuel (listed.setIfInBounds i true) (a.put d v) w) : wpAnyH P md ops Q S (fuel + 1) listed a w := by
  subst hd
  exact wpAnyH_take hi hs hf hr hQ hy hS h
theorem Up.drew {B : Nat} {a w : World} (h : Up B a w) : Up B a w.drew := h.stay (Below.refl _ _).drew
theorem Up.cell {a w : World} {x : Addr} {v : Value} (h : Up a.heap.size a w) (hc : a.cell? x = some v) : w.cell? x = some v := cell_stay hc h.1
theorem Up.free {a w : World} {x : Addr} {v : Value} (h : Up a.heap.size a w) (hc : a.cell? x = some v) (hf : a.frozen? x = false) : w.frozen? x = false := by
  rw [World.frozen?_of_block (h.1.block _ (World.block_lt_of_cell? a _ hc))]; exact hf
theorem pos_up (s : ByteArray) {K : Nat} (he : Ends s K) : ∀ j, j ≤ K → ∀ i, i < j → pos s i < pos s j
  | 0, _, i, h => absurd h (Nat.not_lt_zero i)
  | j + 1, hj, i, h => by
    have h1 := (wd_pos s (pos s j) (he.2 j hj)).1
    rcases Nat.lt_or_eq_of_le (Nat.le_of_lt_succ h) with h2 | rfl
    · have := pos_up s he j (by omega) i h2
      simp only [pos]; omega
    · simp only [pos]; omega
theorem pos_up_le (s : ByteArray) {K : Nat} (he : Ends s K) {i j : Nat} (hij : i ≤ j) (hj : j ≤ K) : pos s i ≤ pos s j := by
  rcases Nat.lt_or_eq_of_le hij with h | rfl
  · exact Nat.le_of_lt (pos_up s he j hj i h)
  · exact Nat.le_refl _
theorem lst_pos (s : ByteArray) {K : Nat} (he : Ends s K) : ∀ k, k ≤ K → ∀ x, x ∈ lst s (pos s k) → ∃ i, i < k ∧ pos s i = x
  | 0, _, x, h => by simp [pos, lst] at h
  | k + 1, hk, x, h => by
    simp only [pos] at h
    rw [lst_step s (pos s k) (he.2 k hk), List.mem_append] at h
    rcases h with h | h
    · obtain ⟨i, hi, hx⟩ := lst_pos s he k (by omega) x h
      exact ⟨i, by omega, hx⟩
    · split at h
      · simp at h; exact ⟨k, by omega, h.symm⟩
      · simp at h
theorem S_pos {s : ByteArray} {K j : Nat} (he : Ends s K) (hj : j < nL s) : ∃ k, k < K ∧ pos s k = S s j := by
  have h := S_mem hj
  unfold starts at h
  rw [← he.1] at h
  exact lst_pos s he K (Nat.le_refl _) _ h
theorem ahd_pos {s : ByteArray} {K k : Nat} (he : Ends s K) (hk : k ≤ K) : Ahd K (pos s) ((pos s k : Nat) : Int) k :=
  ⟨hk, fun j hj => by have := pos_up s he k hk j hj; omega, fun j h1 h2 => by have := pos_up_le s he h1 (by omega); omega⟩
end Go.Proofs.YteeeekpeokgaeaaDoor.Lns
/- Lines of texts that are joined behind a newline. -/
namespace Go.Proofs.YteeeekpeokgaeaaDoor.Lns
set_option linter.unusedVariables false
open Go.Lib
theorem lst_left (t b : ByteArray) : ∀ i, i ≤ t.size → lst (t ++ b) i = lst t i
  | 0, _ => rfl
  | i + 1, h => by
    rw [lst_succ, lst_succ, lst_left t b i (by omega)]
    have : isSt (t ++ b) i = isSt t i := by
      cases i with
      | zero => rfl
      | succ j => rw [isSt_succ, isSt_succ]; unfold bt; rw [join_get_left t b j (by omega)]
    rw [this]
theorem isSt_right (t b : ByteArray) (ht : 0 < t.size) (hn : bt t (t.size - 1) = 10) (i : Nat) : isSt (t ++ b) (t.size + i) = isSt b i := by
  cases i with
  | zero =>
    rw [Nat.add_zero, show t.size = (t.size - 1) + 1 by omega, isSt_succ, isSt_zero]
    unfold bt at hn ⊢
    rw [join_get_left t b _ (by omega), hn]
    rfl
  | succ j =>
    rw [← Nat.add_assoc, isSt_succ, isSt_succ]
    unfold bt
    rw [join_get_right]
theorem lst_right (t b : ByteArray) (ht : 0 < t.size) (hn : bt t (t.size - 1) = 10) : ∀ i, lst (t ++ b) (t.size + i) = starts t ++ (lst b i).map (t.size + ·)
  | 0 => by rw [Nat.add_zero, lst_left t b t.size (Nat.le_refl _)]; simp [starts, lst]
  | i + 1 => by
    rw [← Nat.add_assoc, lst_succ, lst_right t b ht hn i, isSt_right t b ht hn i, lst_succ, List.map_append, List.append_assoc]
    congr 2
    split <;> simp
theorem starts_join (t b : ByteArray) (ht : 0 < t.size) (hn : bt t (t.size - 1) = 10) : starts (t ++ b) = starts t ++ (starts b).map (t.size + ·) := by
  have h := lst_right t b ht hn b.size
  unfold starts at h ⊢
  rw [join_size]
  exact h
theorem nL_join (t b : ByteArray) (ht : 0 < t.size) (hn : bt t (t.size - 1) = 10) : nL (t ++ b) = nL t + nL b := by
  unfold nL
  rw [starts_join t b ht hn, List.length_append, List.length_map]
theorem S_join_right (t b : ByteArray) (ht : 0 < t.size) (hn : bt t (t.size - 1) = 10) (j : Nat) : S (t ++ b) (nL t + j) = t.size + S b j := by
  by_cases h : j < nL b
  · have h1 := S_at (s := t ++ b) (j := nL t + j) (by rw [nL_join t b ht hn]; omega)
    rw [starts_join t b ht hn, List.getElem?_append_right (by show nL t ≤ _; omega)] at h1
    rw [show nL t + j - (starts t).length = j by show nL t + j - nL t = j; omega, List.getElem?_map, S_at h] at h1
    simpa using h1.symm
  · rw [S_big (by rw [nL_join t b ht hn]; omega), S_big (by omega), join_size]
theorem S_join_left (t b : ByteArray) (ht : 0 < t.size) (hn : bt t (t.size - 1) = 10) (j : Nat) (hj : j ≤ nL t) : S (t ++ b) j = S t j := by
  by_cases h : j < nL t
  · have h1 := S_at (s := t ++ b) (j := j) (by rw [nL_join t b ht hn]; omega)
    rw [starts_join t b ht hn, List.getElem?_append_left (by exact h), S_at h] at h1
    exact (Option.some.inj h1).symm
  · obtain rfl : j = nL t := by omega
    have := S_join_right t b ht hn 0
    rw [Nat.add_zero, S_zero] at this
    rw [this, S_big (Nat.le_refl _)]
    rfl
theorem sub_left (t b : ByteArray) (p q : Nat) (h : q ≤ t.size) : sub (t ++ b) p q = sub t p q := by
  apply ByteArray.ext
  show (t ++ b).data.extract p q = t.data.extract p q
  have h' : q ≤ t.data.size := h
  rw [ByteArray.data_append]
  apply Array.ext_getElem?
  intro i
  rw [Array.getElem?_extract, Array.getElem?_extract]
  by_cases h1 : p + i < q
  · rw [if_pos (by rw [Array.size_append]; omega), if_pos (by omega), Array.getElem?_append_left (by omega)]
  · rw [if_neg (by rw [Array.size_append]; omega), if_neg (by omega)]
theorem sub_right (t b : ByteArray) (p q : Nat) : sub (t ++ b) (t.size + p) (t.size + q) = sub b p q := by
  apply ByteArray.ext
  show (t ++ b).data.extract (t.size + p) (t.size + q) = b.data.extract p q
  rw [ByteArray.data_append, show t.size = t.data.size from rfl]
  apply Array.ext_getElem?
  intro i
  rw [Array.getElem?_extract, Array.getElem?_extract]
  by_cases h1 : i < min q b.data.size - p
  · rw [if_pos (by rw [Array.size_append]; omega), if_pos h1, Array.getElem?_append_right (by omega)]
    congr 1; omega
  · rw [if_neg (by rw [Array.size_append]; omega), if_neg h1]
theorem line_join_left (t b : ByteArray) (ht : 0 < t.size) (hn : bt t (t.size - 1) = 10) (j : Nat) (hj : j < nL t) : line (t ++ b) j = line t j := by
  unfold line
  rw [S_join_left t b ht hn j (by omega), S_join_left t b ht hn (j + 1) hj, sub_left t b _ _ (S_le t _)]
theorem line_join_right (t b : ByteArray) (ht : 0 < t.size) (hn : bt t (t.size - 1) = 10) (j : Nat) : line (t ++ b) (nL t + j) = line b j := by
  unfold line
  rw [S_join_right t b ht hn j, Nat.add_assoc, S_join_right t b ht hn (j + 1), sub_right]
theorem tcells_join (t b : ByteArray) (ht : 0 < t.size) (hn : bt t (t.size - 1) = 10) : tcells (line t) (nL t) ++ tcells (line b) (nL b) = tcells (line (t ++ b)) (nL (t ++ b)) := by
  rw [nL_join t b ht hn]
  apply List.ext_getElem?
  intro j
  by_cases h : j < nL t
  · rw [List.getElem?_append_left (by rw [tcells_len]; exact h), tcells_at _ _ j h, tcells_at _ _ j (by omega), line_join_left t b ht hn j h]
  · by_cases h2 : j < nL t + nL b
    · obtain ⟨i, rfl⟩ : ∃ i, j = nL t + i := ⟨j - nL t, by omega⟩
      rw [List.getElem?_append_right (by rw [tcells_len]; omega), tcells_len, show nL t + i - nL t = i by omega, tcells_at _ _ i (by omega), tcells_at _ _ _ h2, line_join_right t b ht hn i]
    · rw [List.getElem?_eq_none (by rw [List.length_append, tcells_len, tcells_len]; omega), List.getElem?_eq_none (by rw [tcells_len]; omega)]
theorem sub_add (s : ByteArray) (p q : Nat) (hpq : p ≤ q) (hq : q ≤ s.size) : sub s 0 p ++ sub s p q = sub s 0 q := by
  apply ByteArray.ext
  have hq' : q ≤ s.data.size := hq
  show (sub s 0 p ++ sub s p q).data = s.data.extract 0 q
  rw [ByteArray.data_append]
  show s.data.extract 0 p ++ s.data.extract p q = s.data.extract 0 q
  apply Array.ext_getElem?
  intro i
  have hz : (s.data.extract 0 p).size = p := by simp; omega
  by_cases h1 : i < p
  · rw [Array.getElem?_append_left (by omega), Array.getElem?_extract, Array.getElem?_extract, if_pos (by omega), if_pos (by omega)]
  · rw [Array.getElem?_append_right (by omega), hz, Array.getElem?_extract, Array.getElem?_extract]
    by_cases h2 : i < q
    · rw [if_pos (by omega), if_pos (by omega)]; congr 1; omega
    · rw [if_neg (by omega), if_neg (by omega)]
theorem sub_all (s : ByteArray) : sub s 0 s.size = s := by
  apply ByteArray.ext
  show s.data.extract 0 s.data.size = s.data
  simp
end Go.Proofs.YteeeekpeokgaeaaDoor.Lns
