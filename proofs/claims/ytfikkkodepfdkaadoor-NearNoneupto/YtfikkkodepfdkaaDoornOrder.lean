/- near.order: the sort; slices.Clone of suggestions. -/
import Derived.Test.YtfikkkodepfdkaaDoornCmp
import Derived.Test.YtfikkkodepfdkaaDoornWith
import Derived.Test.YtfikkkodepfdkaaDoortLawHas
import Derived.Lib.OwnBridge
namespace Go.Proofs.YtfikkkodepfdkaaDoor
set_option linter.unusedVariables false
open Go.RowKit Go.ChangeShapes Go.Maps Go.Sort Go.Shelf Go.Lib
open Qns (dd far at_)
/-- Suggestions whose words are none too long for a machine. -/
structure Ns where
  x : Nr
  h : x.s.size ≤ 9223372036854775807
def nencS (x : Ns) : List Value := nenc x.1
def vals (xs : List Ns) : List Nr := xs.map fun x => x.1
theorem vals_len (xs : List Ns) : (vals xs).length = xs.length := by simp [vals]
theorem nflat_cells (I : Inhabited Ns) : ∀ (xs : List Ns) (j : Nat), j < xs.length * 2 → (nrC (vals xs))[j]? = some ((nencS xs[j / 2]!)[j % 2]!)
  | [], j, h => by simp at h
  | x :: xs, j, h => by
    match j, h with
    | 0, _ => rfl
    | 1, _ => rfl
    | j + 2, h =>
      have h1 : (j + 2) / 2 = j / 2 + 1 := by omega
      have h2 : (j + 2) % 2 = j % 2 := by omega
      have ih := nflat_cells I xs j (by simp at h; omega)
      rw [h1, h2]
      show (nrC (vals xs))[j]? = _
      rw [ih]
      simp
theorem nflat_toList (I : Inhabited Ns) (xs : List Ns) : (flatK nencS 2 xs.toArray).toList = nrC (vals xs) := by
  apply List.ext_getElem?
  intro j
  by_cases h : j < xs.length * 2
  · rw [nflat_cells I xs j h, Array.getElem?_toList]
    have hs : j < (flatK nencS 2 xs.toArray).size := by simp; omega
    rw [Array.getElem?_eq_getElem hs]
    have := get_flatK nencS 2 xs.toArray j (by simpa using h)
    rw [getElem!_pos (flatK nencS 2 xs.toArray) j hs] at this
    rw [this]
    simp
  · rw [List.getElem?_eq_none (by simp; omega), List.getElem?_eq_none (by rw [nrC_len, vals_len]; omega)]
theorem enterO (args : Array Value) (w : World) : (callFunc 52 args).run Tryd.prog w = .ok (.enter 52 args) w := Proofs.enters_of Tryd.func52 (by kernel_rfl) rfl args w
open Go.Sort in
theorem putRowV_size {α : Type} [Inhabited α] (enc : α → Value) (w : World) (q g : Nat) (d : Array α) : (putRow enc (Sort.ahead w q) g 0 d).heap.size = w.heap.size := by
  simp [putRow, mapBlock, Sort.ahead]
/-- Suggestions, sorted. -/
def SortedN (Pf : List ByteArray) (ys : List Nr) : Prop := ys.Pairwise fun x y => ¬ LtN Pf y x
theorem swo_cS (Pf : List ByteArray) : SWO (Proofs.ltOf fun (x y : Ns) => cN Pf x.1 y.1) where
  irrefl x := (ltf_cN Pf x.1 x.1).2 (ltN_irr Pf x.1)
  trans x y z h1 h2 := (lt_cN Pf x.1 z.1).2 (ltN_tr ((lt_cN Pf x.1 y.1).1 h1) ((lt_cN Pf y.1 z.1).1 h2))
  ntrans x y z h1 h2 := (ltf_cN Pf x.1 z.1).2 (ltN_ntr ((ltf_cN Pf x.1 y.1).1 h1) ((ltf_cN Pf y.1 z.1).1 h2))
theorem sortS_any (I : Inhabited Ns) (Pf : List ByteArray) (xs : List Ns) (base : Nat) (v : Value) (w : World) (hn : xs.length ≤ 100000) (h : w.ownsRow base 47 2 v xs.length (nrC (vals xs))) (R m n : Nat) (hR : w.cell? ⟨R, 0, none⟩ = some (.map (some m))) (hM : BagR w m n Pf) (hRv : v.ownBlock ≠ some R) (hmv : v.ownBlock ≠ some m) :
    Calls Tryd.prog 51 #[v, .func (.func 52) #[] #[.pointer (some ⟨R, 0, none⟩)]] w fun e w' => e = .returned (.tuple #[]) ∧ ∃ ys, ys.Perm xs ∧ SortedN Pf (vals ys) ∧ w'.ownsRow base 47 2 v xs.length (nrC (vals ys)) ∧ (∀ B w0, Below B w0 w → B ≤ base → B ≤ w.heap.size → Below B w0 w') := by
  obtain ⟨h1, ⟨rfl, h2⟩ | ⟨g, cap, cur, rfl, hg, hh, hnc, hcm, hcs, htk⟩⟩ := h
  · have hz : xs = [] := List.eq_nil_of_length_eq_zero h2
    subst hz
    refine Calls.mono (show Calls Tryd.prog 51 _ _ _ from AnyF.slices_SortFunc_none Tryd.sortF none 0 _ w) ?_
    rintro e w' ⟨rfl, rfl⟩
    exact ⟨rfl, [], List.Perm.refl _, List.Pairwise.nil, World.ownsRow_nil _ _ _ _, fun B w0 hb _ _ => hb⟩
  · have hgl := lt_of_heap hh
    have hgR : R ≠ g := fun e => hRv (by rw [e]; rfl)
    have hgm : m ≠ g := fun e => hmv (by rw [e]; rfl)
    have hH : HoldsK nencS 2 w g 0 xs.toArray := by
      intro j hj
      have hj' : j < xs.length * 2 := by simpa using hj
      refine ⟨?_, by simp [World.frozen?, hh]⟩
      have e1 : (cur.toList.take (xs.length * 2))[j]? = (nrC (vals xs))[j]? := by rw [htk]
      rw [List.getElem?_take, if_pos hj', Array.getElem?_toList] at e1
      have e2 : (flatK nencS 2 xs.toArray).toList[j]? = (nrC (vals xs))[j]? := by rw [nflat_toList I]
      rw [Array.getElem?_toList, Array.getElem?_eq_getElem hj] at e2
      simp only [World.cell?, hh, Nat.zero_add]
      simp only [Option.isSome_none, Bool.false_eq_true, if_false]
      rw [e1, ← e2, getElem!_pos (flatK nencS 2 xs.toArray) j hj]
      rfl
    have hother : ∀ (q : Nat) (d' : Array Ns) (os : Array Obj) (k : Nat), k < w.heap.size → k ≠ g → (sortWorldK nencS 2 w g 0 q d' os).heap[k]? = w.heap[k]? := fun q d' os k hk hkg => by
      show ((putRow id (Sort.ahead w q) g 0 (flatK nencS 2 d')).heap ++ os)[k]? = _
      rw [Array.getElem?_append_left (by rw [putRowV_size id w q g _]; exact hk)]
      simp [putRow, mapBlock, Sort.ahead, Array.getElem?_modify, hkg.symm]
    have hcon := AnyQ.slices_SortFunc Tryd.sortF 2 Tryd.isAgg47 Tryd.sizeOf47 nencS (fun _ => rfl) (fun x v hv => by simp [nencS, nenc] at hv; rcases hv with rfl | rfl <;> rfl) (fun x y => cN Pf x.1 y.1) (swo_cS Pf) 52 #[.pointer (some ⟨R, 0, none⟩)] g 0 cap xs.toArray w enterO (fun q os dk hs x y => by
      refine Calls.mono (clos_any Pf x.1 y.1 x.2 y.2 R m n (sortWorldK nencS 2 w g 0 q dk os) ?_ (hM.block (hother q dk os m hM.lt hgm))) ?_
      · exact (World.cell?_of_block (hother q dk os R (World.block_lt_of_cell? w _ hR) hgR)).trans hR
      · rintro e w' ⟨rfl, hG⟩
        exact ⟨rfl, hG⟩) hH hgl (by simp; omega)
    change Calls Tryd.prog 51 _ _ _ at hcon
    simp only [List.size_toArray] at hcon
    refine hcon.mono ?_
    rintro e w' ⟨rfl, d', q, os, hp, hs, rfl⟩
    have hds : d'.size = xs.length := by simpa using hp.1
    have hpm : d'.toList.Perm xs := by
      have := hp.2.2
      rw [← hds, Array.extract_size, hds] at this
      simpa using this
    have hps : (putRow id (Sort.ahead w q) g 0 (flatK nencS 2 d')).heap.size = w.heap.size := putRowV_size id w q g _
    have hgrow : ∀ k, k < w.heap.size → (sortWorldK nencS 2 w g 0 q d' os).heap[k]? = (putRow id (Sort.ahead w q) g 0 (flatK nencS 2 d')).heap[k]? := fun k hk => by
      show ((putRow id (Sort.ahead w q) g 0 (flatK nencS 2 d')).heap ++ os)[k]? = _
      exact Array.getElem?_append_left (by rw [hps]; exact hk)
    refine ⟨rfl, d'.toList, hpm, ?_, ?_, ?_⟩
    · unfold SortedN
      rw [List.pairwise_iff_getElem]
      intro i j hi hj hij
      have := hs i j (Nat.zero_le _) hij (by rw [← hds]; simpa [vals] using hj)
      have hi' : i < d'.size := by simpa [vals] using hi
      have hj' : j < d'.size := by simpa [vals] using hj
      rw [getElem!_pos d' i hi', getElem!_pos d' j hj'] at this
      have this := (ltf_cN Pf _ _).1 this
      simpa [vals] using this
    · refine ⟨by rw [nrC_len, vals_len]; simp [hds], .inr ⟨g, cap, putCells id 0 (flatK nencS 2 d') cur, rfl, hg, ?_, hnc, hcm, by simpa [putCells] using hcs, ?_⟩⟩
      · rw [hgrow g hgl]
        simp [putRow, mapBlock, Sort.ahead, Array.getElem?_modify, hh, onCells]
      · apply List.ext_getElem?
        intro j
        rw [List.getElem?_take, Array.getElem?_toList]
        by_cases hj : j < xs.length * 2
        · have hjc : j < cur.size := by omega
          have hjf : j < (flatK nencS 2 d').size := by simp [hds]; omega
          have e2 : (flatK nencS 2 d').toList[j]? = (nrC (vals d'.toList))[j]? := by rw [← nflat_toList I]
          rw [Array.getElem?_toList, Array.getElem?_eq_getElem hjf] at e2
          simp only [if_pos hj, putCells, Array.getElem?_mapIdx, Array.getElem?_eq_getElem hjc, Option.map_some]
          rw [if_pos (by omega), ← e2]
          simp only [id, Nat.sub_zero]
          rw [getElem!_pos (flatK nencS 2 d') j hjf]
        · rw [if_neg hj, List.getElem?_eq_none (by rw [nrC_len, vals_len]; simp [hds]; omega)]
    · intro B w0 hb h1 h2
      exact grow_below (Lib.below_putRow hb (by omega)) (by show B ≤ (putRow id (Sort.ahead w q) g 0 (flatK nencS 2 d')).heap.size; rw [putRowV_size]; exact h2)
theorem sortN_any (Pf : List ByteArray) (xs : List Nr) (hxs : ∀ x ∈ xs, x.s.size ≤ 9223372036854775807) (base : Nat) (v : Value) (w : World) (hn : xs.length ≤ 100000) (h : ON w base v xs) (R m n : Nat) (hR : w.cell? ⟨R, 0, none⟩ = some (.map (some m))) (hM : BagR w m n Pf) (hRv : v.ownBlock ≠ some R) (hmv : v.ownBlock ≠ some m) :
    Calls Tryd.prog 51 #[v, .func (.func 52) #[] #[.pointer (some ⟨R, 0, none⟩)]] w fun e w' => e = .returned (.tuple #[]) ∧ ∃ ys, (ys.Perm xs ∧ SortedN Pf ys) ∧ ON w' base v ys ∧ (∀ B w0, Below B w0 w → B ≤ base → B ≤ w.heap.size → Below B w0 w') := by
  have hv : vals (xs.attach.map fun x => (⟨x.1, hxs x.1 x.2⟩ : Ns)) = xs := by
    unfold vals
    rw [List.map_map]
    exact List.attach_map_subtype_val xs
  have hl : (xs.attach.map fun x => (⟨x.1, hxs x.1 x.2⟩ : Ns)).length = xs.length := by simp
  refine (sortS_any ⟨⟨⟨⟨#[]⟩, 0⟩, by decide⟩⟩ Pf (xs.attach.map fun x => (⟨x.1, hxs x.1 x.2⟩ : Ns)) base v w (by omega) (by rw [hl, hv]; exact h) R m n hR hM hRv hmv).mono ?_
  rintro e w' ⟨rfl, ys, h1, h2, h3, h4⟩
  have hp : (vals ys).Perm xs := by
    rw [← hv]
    exact h1.map _
  refine ⟨rfl, vals ys, ⟨hp, h2⟩, ?_, h4⟩
  show w'.ownsRow _ _ _ _ _ _
  rw [hp.length_eq]
  rw [hl] at h3
  exact h3
end Go.Proofs.YtfikkkodepfdkaaDoor
