/- cmp.Compare of texts; slices.SortFunc of corrections. -/
import Derived.Test.YthdjadkdjljciaaGreatDoorFxs
import Derived.Test.YthdjadkdjljciaaGreatDoorgSort
import Derived.Test.YthdjadkdjljciaaGreatDoorWrd
import Derived.Laws.Cover1
namespace Go.Proofs.YthdjadkdjljciaaGreatDoor
set_option linter.unusedVariables false
open Go.RowKit Go.ChangeShapes Go.Sort Go.Shelf Go.Lib

theorem isNaN_any (s : ByteArray) (w : World) : Calls Tryz.prog 69 #[.string s] w fun e w' => e = .returned (.bool false) ∧ w' = w := by
  go_enter Tryz.func69, Tryz.ntmps69
  go_wp2
  go_ret
  exact ⟨rfl, rfl⟩
def cmpS (s t : ByteArray) : Int := bif Op.bytesLess s.toList t.toList then -1 else bif !(Op.bytesLess s.toList t.toList || s.toList == t.toList) then 1 else 0
theorem cmp_any (s t : ByteArray) (w : World) : Calls Tryz.prog 43 #[.string s, .string t] w fun e w' => e = .returned (.int .i64 (cmpS s t)) ∧ w' = w := by
  unfold cmpS
  generalize ha : Op.bytesLess s.toList t.toList = a
  generalize hb : (!(a || s.toList == t.toList)) = b
  go_enter Tryz.func43, Tryz.ntmps43
  go_wp2_with (first | (go_at_call 69; refine (isNaN_any _ _).mono ?_; rintro e w1 ⟨rfl, rfl⟩) | fail)
  all_goals go_ret
  all_goals simp_all
theorem cmpS_lt (s t : ByteArray) : decide (cmpS s t < 0) = Op.bytesLess s.toList t.toList := by
  unfold cmpS
  cases Op.bytesLess s.toList t.toList
  · cases s.toList == t.toList <;> rfl
  · rfl
def fenc (x : Fx) : List Value := [.string x.f, x.v]
def cfx (x y : Fx) : Int := cmpS x.f y.f
theorem lt_cfx (x y : Fx) : Proofs.ltOf cfx x y = ltStr x.f.data.toList y.f.data.toList := by
  show decide (cmpS x.f y.f < 0) = _
  rw [cmpS_lt, Lib.toList_data, Lib.toList_data, bytesLess_eq]
  rfl
theorem swo_cfx : SWO (Proofs.ltOf cfx) where
  irrefl x := by rw [lt_cfx]; exact swo_ltStr.irrefl _
  trans x y z h1 h2 := by rw [lt_cfx] at *; exact swo_ltStr.trans _ _ _ h1 h2
  ntrans x y z h1 h2 := by rw [lt_cfx] at *; exact swo_ltStr.ntrans _ _ _ h1 h2
theorem clos2_any (x y : Fx) (W : World) : Calls Tryz.prog 42 #[.agg #[.string x.f, x.v], .agg #[.string y.f, y.v]] W fun e w' => e = .returned (.int .i64 (cfx x y)) ∧ ∃ q os', w' = grow (W.drewN q) os' := by
  have hcon := fun W' => cmp_any x.f y.f W'
  show Calls _ _ _ _ fun e w' => e = .returned (.int .i64 (cmpS x.f y.f)) ∧ _
  unfold Fx.v
  generalize cmpS x.f y.f = r at hcon ⊢
  go_enter Tryz.func42, Tryz.ntmps42
  go_wp2_with (go_at_call 43; refine (hcon _).mono ?_; rintro e w' ⟨rfl, rfl⟩)
  go_ret
  exact ⟨rfl, 0, _, by rw [alloc_eq_grow, alloc_eq_grow, grow_grow]; rfl⟩
theorem flat_cells [Inhabited Fx] : ∀ (xs : List Fx) (j : Nat), j < xs.length * 2 → (fcells xs)[j]? = some ((fenc xs[j / 2]!)[j % 2]!)
  | [], j, h => by simp at h
  | x :: xs, j, h => by
    match j, h with
    | 0, _ => rfl
    | 1, _ => rfl
    | j + 2, h =>
      have h1 : (j + 2) / 2 = j / 2 + 1 := by omega
      have h2 : (j + 2) % 2 = j % 2 := by omega
      have ih := flat_cells xs j (by simp at h; omega)
      rw [h1, h2]
      show (fcells xs)[j]? = _
      rw [ih]
      simp
theorem fcells_len (xs : List Fx) : (fcells xs).length = xs.length * 2 := by
  induction xs with
  | nil => rfl
  | cons x xs ih => show (fcells xs).length + 1 + 1 = _; rw [ih]; simp; omega
theorem flat_toList [Inhabited Fx] (xs : List Fx) : (flatK fenc 2 xs.toArray).toList = fcells xs := by
  apply List.ext_getElem?
  intro j
  by_cases h : j < xs.length * 2
  · rw [flat_cells xs j h, Array.getElem?_toList]
    have hs : j < (flatK fenc 2 xs.toArray).size := by simp; omega
    rw [Array.getElem?_eq_getElem hs]
    have := get_flatK fenc 2 xs.toArray j (by simpa using h)
    rw [getElem!_pos (flatK fenc 2 xs.toArray) j hs] at this
    rw [this]
    simp
  · rw [List.getElem?_eq_none (by simp; omega), List.getElem?_eq_none (by rw [fcells_len]; omega)]
theorem enter2 (args : Array Value) (w : World) : (callFunc 42 args).run Tryz.prog w = .ok (.enter 42 args) w := Proofs.enters_of Tryz.func42 (by kernel_rfl) rfl args w
/-- Corrections, rising. -/
def Rise (ys : List Fx) : Prop := ys.Pairwise fun x y => ltStr y.f.data.toList x.f.data.toList = false
theorem sortF_any (xs : List Fx) (base : Nat) (v : Value) (w : World) (hn : xs.length ≤ 100000) (h : w.ownsRow base 49 2 v xs.length (fcells xs)) :
    Calls Tryz.prog 41 #[v, .func (.func 42) #[] #[]] w fun e w' => e = .returned (.tuple #[]) ∧ ∃ ys, ys.Perm xs ∧ Rise ys ∧ w'.ownsRow base 49 2 v xs.length (fcells ys) ∧ (∀ B w0, Below B w0 w → B ≤ base → B ≤ w.heap.size → Below B w0 w') ∧
      (∀ k, k < w.heap.size → v.ownBlock ≠ some k → w'.heap[k]? = w.heap[k]?) := by
  have hinh : Inhabited Fx := ⟨⟨⟨#[]⟩, [], none, 0⟩⟩
  obtain ⟨h1, ⟨rfl, h2⟩ | ⟨g, cap, cur, rfl, hg, hh, hnc, hcm, hcs, htk⟩⟩ := h
  · have hz : xs = [] := List.eq_nil_of_length_eq_zero h2
    subst hz
    refine Calls.mono (show Calls Tryz.prog 41 _ _ _ from AnyF.slices_SortFunc_none Tryz.sortF none 0 _ w) ?_
    rintro e w' ⟨rfl, rfl⟩
    exact ⟨rfl, [], List.Perm.refl _, List.Pairwise.nil, World.ownsRow_nil _ _ _ _, fun B w0 hb _ _ => hb, fun _ _ _ => rfl⟩
  · have hgl := lt_of_heap hh
    have hH : HoldsK fenc 2 w g 0 xs.toArray := by
      intro j hj
      have hj' : j < xs.length * 2 := by simpa using hj
      refine ⟨?_, by simp [World.frozen?, hh]⟩
      have e1 : (cur.toList.take (xs.length * 2))[j]? = (fcells xs)[j]? := by rw [htk]
      rw [List.getElem?_take, if_pos hj', Array.getElem?_toList] at e1
      have e2 : (flatK fenc 2 xs.toArray).toList[j]? = (fcells xs)[j]? := by rw [flat_toList]
      rw [Array.getElem?_toList, Array.getElem?_eq_getElem hj] at e2
      simp only [World.cell?, hh, Nat.zero_add]
      simp only [Option.isSome_none, Bool.false_eq_true, if_false]
      rw [e1, ← e2, getElem!_pos (flatK fenc 2 xs.toArray) j hj]
      rfl
    have hcon := AnyQ.slices_SortFunc Tryz.sortF 2 Tryz.isAgg49 Tryz.sizeOf49 fenc (fun _ => rfl) (fun x v hv => by simp [fenc, Fx.v] at hv; rcases hv with rfl | rfl <;> rfl) cfx swo_cfx 42 #[] g 0 cap xs.toArray w enter2 (fun _ _ _ _ x y => clos2_any x y _) hH hgl (by simp; omega)
    change Calls Tryz.prog 41 _ _ _ at hcon
    simp only [List.size_toArray] at hcon
    refine hcon.mono ?_
    rintro e w' ⟨rfl, d', n, os, hp, hs, rfl⟩
    have hds : d'.size = xs.length := by simpa using hp.1
    have hpm : d'.toList.Perm xs := by
      have := hp.2.2
      rw [← hds, Array.extract_size, hds] at this
      simpa using this
    have hps : (putRow id (Sort.ahead w n) g 0 (flatK fenc 2 d')).heap.size = w.heap.size := putRow_size id w n g _
    have hother : ∀ k, k ≠ g → (putRow id (Sort.ahead w n) g 0 (flatK fenc 2 d')).heap[k]? = w.heap[k]? := fun k hk => by
      simp [putRow, mapBlock, Sort.ahead, Array.getElem?_modify, hk.symm]
    have hgrow : ∀ k, k < w.heap.size → (sortWorldK fenc 2 w g 0 n d' os).heap[k]? = (putRow id (Sort.ahead w n) g 0 (flatK fenc 2 d')).heap[k]? := fun k hk => by
      show ((putRow id (Sort.ahead w n) g 0 (flatK fenc 2 d')).heap ++ os)[k]? = _
      exact Array.getElem?_append_left (by rw [hps]; exact hk)
    refine ⟨rfl, d'.toList, hpm, ?_, ?_, ?_, ?_⟩
    · unfold Rise
      rw [List.pairwise_iff_getElem]
      intro i j hi hj hij
      have := hs i j (Nat.zero_le _) hij (by rw [← hds]; simpa using hj)
      rw [lt_cfx] at this
      have hi' : i < d'.size := by simpa using hi
      have hj' : j < d'.size := by simpa using hj
      rw [getElem!_pos d' i hi', getElem!_pos d' j hj'] at this
      simpa using this
    · refine ⟨by rw [fcells_len]; simp [hds], .inr ⟨g, cap, putCells id 0 (flatK fenc 2 d') cur, rfl, hg, ?_, hnc, hcm, by simpa [putCells] using hcs, ?_⟩⟩
      · rw [hgrow g hgl]
        simp [putRow, mapBlock, Sort.ahead, Array.getElem?_modify, hh, onCells]
      · apply List.ext_getElem?
        intro j
        rw [List.getElem?_take, Array.getElem?_toList]
        by_cases hj : j < xs.length * 2
        · have hjc : j < cur.size := by omega
          have hjf : j < (flatK fenc 2 d').size := by simp [hds]; omega
          have e2 : (flatK fenc 2 d').toList[j]? = (fcells d'.toList)[j]? := by rw [← flat_toList]
          rw [Array.getElem?_toList, Array.getElem?_eq_getElem hjf] at e2
          simp only [if_pos hj, putCells, Array.getElem?_mapIdx, Array.getElem?_eq_getElem hjc, Option.map_some]
          rw [if_pos (by omega), ← e2]
          simp only [id, Nat.sub_zero]
          rw [getElem!_pos (flatK fenc 2 d') j hjf]
        · rw [if_neg hj, List.getElem?_eq_none (by rw [fcells_len]; simp [hds]; omega)]
    · intro B w0 hb h1 h2
      refine grow_below (Lib.below_putRow hb (by omega)) (by show B ≤ (putRow id (Sort.ahead w n) g 0 (flatK fenc 2 d')).heap.size; rw [putRow_size]; exact h2)
    · intro k hk hne
      rw [hgrow k hk]
      exact hother k (fun e => hne (by rw [e]; rfl))
end Go.Proofs.YthdjadkdjljciaaGreatDoor
