/- PragmaWords: the words, the text. -/
import Derived.Test.YteeeekpeokgaeaaDoorPkYWoQ2
namespace Go.Proofs.YteeeekpeokgaeaaDoor
set_option linter.unusedVariables false
open Go.RowKit Go.ChangeShapes Tns
open Lns (nL nL_le line S)
/-- The word that bytes stand for. -/
def wqt (zs : List Nat) : List Int := (zs.take 5).map fun x => ((97 + x % 5 : Nat) : Int)
def wq (zs : List Nat) : List Int := 113 :: wqt zs
theorem wqt_mem {zs : List Nat} : ∀ r ∈ wqt zs, r = 97 ∨ r = 98 ∨ r = 99 ∨ r = 100 ∨ r = 101 := by
  intro r hr
  obtain ⟨x, _, rfl⟩ := List.mem_map.1 hr
  have := Nat.mod_lt x (show 0 < 5 by decide)
  omega
theorem wq_mem {zs : List Nat} : ∀ r ∈ wq zs, r = 97 ∨ r = 98 ∨ r = 99 ∨ r = 100 ∨ r = 101 ∨ r = 113 := by
  intro r hr
  rcases List.mem_cons.1 hr with h | h
  · omega
  · have := wqt_mem r h
    omega
theorem wq_len (zs : List Nat) : 1 ≤ (wq zs).length ∧ (wq zs).length ≤ 6 := by
  unfold wq wqt
  rw [List.length_cons, List.length_map, List.length_take]
  omega
theorem wq_more {zs : List Nat} {j x : Nat} (h : zs[j]? = some x) (hj : j < 5) : wq (zs.take (j + 1)) = wq (zs.take j) ++ [((97 + x % 5 : Nat) : Int)] := by
  unfold wq wqt
  rw [List.take_take, Nat.min_eq_right (by omega), List.take_take, Nat.min_eq_right (by omega), List.take_add_one, h]
  simp
theorem wq_same {zs : List Nat} {j : Nat} (hj : 5 ≤ j) : wq (zs.take (j + 1)) = wq (zs.take j) := by
  unfold wq wqt
  rw [List.take_take, Nat.min_eq_left (by omega), List.take_take, Nat.min_eq_left hj]
theorem wq_byt (zs : List Nat) : Byt (wq zs) := fun x hx => by have := wq_mem x hx; omega
def Wt (zs : List Nat) : ByteArray := strOfNums (wq zs)
theorem wt_size (zs : List Nat) : 1 ≤ (Wt zs).size ∧ (Wt zs).size ≤ 6 := by
  unfold Wt
  rw [strOfNums_size]
  exact wq_len zs
theorem wt_bt {zs : List Nat} {i : Nat} (hi : i < (Wt zs).size) : (bt (Wt zs) i : Int) ∈ wq zs := by
  unfold Wt at hi ⊢
  rw [strOfNums_size] at hi
  have h1 := nums_bt (l := wq zs) (i := i) (x := (wq zs)[i]'hi) (List.getElem?_eq_getElem hi) (wq_byt zs _ (List.getElem_mem _))
  rw [h1]
  exact List.getElem_mem _
theorem let_ok {r : Nat} (h : (r : Int) = 97 ∨ (r : Int) = 98 ∨ (r : Int) = 99 ∨ (r : Int) = 100 ∨ (r : Int) = 101 ∨ (r : Int) = 113) : r < 128 ∧ lB (r : Int) = true ∧ gB (r : Int) = false ∧ blB r = false := by
  rcases (show r = 97 ∨ r = 98 ∨ r = 99 ∨ r = 100 ∨ r = 101 ∨ r = 113 by omega) with rfl | rfl | rfl | rfl | rfl | rfl
  all_goals exact ⟨by decide, by decide, by decide, by decide⟩
theorem wt_ok (zs : List Nat) : WrdOk (Wt zs) := by
  have h := wt_size zs
  exact ⟨by omega, by omega, fun i hi => let_ok (wq_mem _ (wt_bt hi))⟩
theorem wt_0 (zs : List Nat) : bt (Wt zs) 0 = 113 := by
  have h1 := nums_bt (l := wq zs) (i := 0) (x := 113) rfl (by omega)
  unfold Wt
  omega
def sp (i : Nat) : ByteArray := if i % 4 = 0 then ⟨#[32]⟩ else if i % 4 = 1 then ⟨#[44]⟩ else if i % 4 = 2 then ⟨#[44, 32]⟩ else ⟨#[9]⟩
theorem sp_size (i : Nat) : 1 ≤ (sp i).size ∧ (sp i).size ≤ 2 := by
  unfold sp
  split
  · decide
  · split
    · decide
    · split
      · decide
      · decide
theorem sp_ok (i : Nat) : SepOk (sp i) := by
  refine ⟨by have := sp_size i; omega, fun j hj => ?_⟩
  have h2 := (sp_size i).2
  unfold sp at hj ⊢
  split at hj
  · rename_i h
    rw [if_pos h]
    have : j < 1 := hj
    obtain rfl : j = 0 := by omega
    decide
  · rename_i h
    rw [if_neg h]
    split at hj
    · rename_i h'
      rw [if_pos h']
      have : j < 1 := hj
      obtain rfl : j = 0 := by omega
      decide
    · rename_i h'
      rw [if_neg h']
      split at hj
      · rename_i h''
        rw [if_pos h'']
        have : j < 2 := hj
        rcases (show j = 0 ∨ j = 1 by omega) with rfl | rfl
        all_goals decide
      · rename_i h''
        rw [if_neg h'']
        have : j < 1 := hj
        obtain rfl : j = 0 := by omega
        decide
def pr (Z : List (List Nat)) (i : Nat) : ByteArray × ByteArray := (sp i, Wt (Z.getD i []))
def prs (Z : List (List Nat)) (k : Nat) : List (ByteArray × ByteArray) := (List.range k).map (pr Z)
theorem prs_succ (Z : List (List Nat)) (k : Nat) : prs Z (k + 1) = prs Z k ++ [pr Z k] := by
  unfold prs
  rw [List.range_succ, List.map_append]
  rfl
theorem prs_len (Z : List (List Nat)) (k : Nat) : (prs Z k).length = k := by
  unfold prs
  rw [List.length_map, List.length_range]
theorem prs_ok {Z : List (List Nat)} {k : Nat} : ∀ p ∈ prs Z k, SepOk p.1 ∧ WrdOk p.2 := by
  intro p hp
  obtain ⟨i, _, rfl⟩ := List.mem_map.1 hp
  exact ⟨sp_ok i, wt_ok _⟩
def txt11 : ByteArray := ⟨#[115, 112, 101, 108, 108, 58, 119, 111, 114, 100, 115]⟩
theorem txt11_eq : txt11 = sMark ++ sWords := by kernel_rfl
def lnEnd : ByteArray := ⟨#[10, 115, 112, 101, 108, 108, 58, 108, 105, 110, 101]⟩
theorem lnEnd_eq : lnEnd = sNl ++ sLn := by kernel_rfl
/-- The text, so many words put. -/
def tW (Z : List (List Nat)) (β : Nat) : Nat → ByteArray
  | 0 => txt11
  | k + 1 => (if k = β then tW Z β k ++ sBad else tW Z β k) ++ (sp k ++ Wt (Z.getD k []))
def pW (Z : List (List Nat)) (β k : Nat) : ByteArray := if β < k then catW (prs Z β) ++ (sBad ++ catW ((prs Z k).drop β)) else catW (prs Z k)
theorem tW_is (Z : List (List Nat)) (β : Nat) : ∀ k, tW Z β k = txt11 ++ pW Z β k
  | 0 => by
    show txt11 = txt11 ++ (if β < 0 then _ else catW (prs Z 0))
    rw [if_neg (Nat.not_lt_zero _)]
    exact (ByteArray.append_empty).symm
  | k + 1 => by
    show (if k = β then tW Z β k ++ sBad else tW Z β k) ++ (sp k ++ Wt (Z.getD k [])) = _
    rw [tW_is Z β k]
    unfold pW
    rcases Nat.lt_trichotomy β k with h | h | h
    · rw [if_neg (by omega), if_pos h, if_pos (by omega), prs_succ, List.drop_append_of_le_length (by rw [prs_len]; omega), cat_app]
      rw [ByteArray.append_assoc, ByteArray.append_assoc, ByteArray.append_assoc]
      rfl
    · subst h
      rw [if_pos rfl, if_neg (Nat.lt_irrefl _), if_pos (Nat.lt_succ_self _), prs_succ, List.drop_append_of_le_length (by rw [prs_len]; exact Nat.le_refl _), List.drop_of_length_le (by rw [prs_len]; exact Nat.le_refl _), List.nil_append]
      rw [ByteArray.append_assoc, ByteArray.append_assoc]
      show txt11 ++ (catW (prs Z β) ++ (sBad ++ (sp β ++ Wt (Z.getD β [])))) = txt11 ++ (catW (prs Z β) ++ (sBad ++ (sp β ++ (Wt (Z.getD β []) ++ (⟨#[]⟩ : ByteArray)))))
      rw [show Wt (Z.getD β []) ++ (⟨#[]⟩ : ByteArray) = Wt (Z.getD β []) from ByteArray.append_empty]
    · rw [if_neg (by omega), if_neg (by omega), if_neg (by omega), prs_succ, cat_app, ByteArray.append_assoc]
      rfl
theorem tW_size (Z : List (List Nat)) (β : Nat) : ∀ k, (tW Z β k).size ≤ 11 + 11 * k
  | 0 => by show 11 ≤ 11; exact Nat.le_refl _
  | k + 1 => by
    have h1 := tW_size Z β k
    have h2 := sp_size k
    have h3 := wt_size (Z.getD k [])
    show ((if k = β then tW Z β k ++ sBad else tW Z β k) ++ (sp k ++ Wt (Z.getD k []))).size ≤ _
    rw [Lns.join_size, Lns.join_size]
    have h4 : (if k = β then tW Z β k ++ sBad else tW Z β k).size ≤ (tW Z β k).size + 3 := by
      split
      · rw [Lns.join_size]
        exact Nat.le_refl _
      · omega
    omega
/-- No colon, no newline. -/
def PlB (s : ByteArray) : Prop := ∀ i, i < s.size → bt s i ≠ 58 ∧ bt s i ≠ 10
theorem plb_join {A B : ByteArray} (hA : PlB A) (hB : PlB B) : PlB (A ++ B) := fun i hi => by
  rw [Lns.join_size] at hi
  rcases Nat.lt_or_ge i A.size with h | h
  · rw [bt_left h]
    exact hA i h
  · obtain ⟨j, rfl⟩ : ∃ j, i = A.size + j := ⟨i - A.size, by omega⟩
    rw [bt_right]
    exact hB j (by omega)
theorem plb_sep {a : ByteArray} (h : SepOk a) : PlB a := fun i hi => by
  have h1 := h.2 i hi
  have h2 : bt a i = 32 ∨ bt a i = 9 ∨ bt a i = 44 := by unfold blB at h1; simp at h1; omega
  omega
theorem plb_wrd {a : ByteArray} (h : WrdOk a) : PlB a := fun i hi => by
  obtain ⟨h1, h2, -⟩ := h.2.2 i hi
  refine ⟨fun e => ?_, fun e => ?_⟩
  · rw [e] at h2
    exact absurd h2 (by decide)
  · rw [e] at h2
    exact absurd h2 (by decide)
theorem plb_cat : ∀ ps : List (ByteArray × ByteArray), (∀ p ∈ ps, SepOk p.1 ∧ WrdOk p.2) → PlB (catW ps)
  | [], _ => fun i hi => absurd hi (Nat.not_lt_zero _)
  | p :: ps, h => by
    obtain ⟨h1, h2⟩ := h p (List.mem_cons_self ..)
    exact plb_join (plb_sep h1) (plb_join (plb_wrd h2) (plb_cat ps (fun q hq => h q (List.mem_cons_of_mem _ hq))))
theorem plb_bad : PlB sBad := fun i hi => by
  have : i < 3 := hi
  rcases (show i = 0 ∨ i = 1 ∨ i = 2 by omega) with rfl | rfl | rfl
  all_goals decide
theorem pW_pl (Z : List (List Nat)) (β k : Nat) : PlB (pW Z β k) := by
  unfold pW
  split
  · exact plb_join (plb_cat _ prs_ok) (plb_join plb_bad (plb_cat _ (fun p hp => prs_ok p (List.mem_of_mem_drop hp))))
  · exact plb_cat _ prs_ok
theorem sep_low {a : ByteArray} (h : SepOk a) : lowB (bt a 0) = false := by
  have h1 := h.2 0 h.1
  have h2 : bt a 0 = 32 ∨ bt a 0 = 9 ∨ bt a 0 = 44 := by unfold blB at h1; simp at h1; omega
  rcases h2 with h2 | h2 | h2 <;> rw [h2] <;> decide
theorem cat_low (ps : List (ByteArray × ByteArray)) (h : ∀ p ∈ ps, SepOk p.1 ∧ WrdOk p.2) (r : ByteArray) : ps = [] ∨ lowB (bt (catW ps ++ r) 0) = false := by
  cases ps with
  | nil => exact Or.inl rfl
  | cons p ps =>
    have h1 := (h p (List.mem_cons_self ..)).1
    refine Or.inr ?_
    show lowB (bt (p.1 ++ (p.2 ++ catW ps) ++ r) 0) = false
    rw [ByteArray.append_assoc, bt_left h1.1]
    exact sep_low h1
theorem pW_low (Z : List (List Nat)) (β k : Nat) : (pW Z β k).size = 0 ∨ lowB (bt (pW Z β k) 0) = false := by
  unfold pW
  split
  · rcases cat_low (prs Z β) prs_ok (sBad ++ catW ((prs Z k).drop β)) with h | h
    · refine Or.inr ?_
      rw [h, show (catW [] ++ (sBad ++ catW ((prs Z k).drop β))) = sBad ++ catW ((prs Z k).drop β) from ByteArray.empty_append, bt_left (show 0 < sBad.size by decide)]
      decide
    · exact Or.inr h
  · rcases cat_low (prs Z k) prs_ok ⟨#[]⟩ with h | h
    · refine Or.inl ?_
      rw [h]
      rfl
    · refine Or.inr ?_
      rw [show catW (prs Z k) ++ (⟨#[]⟩ : ByteArray) = catW (prs Z k) from ByteArray.append_empty] at h
      exact h
theorem cat_len : ∀ ps : List (ByteArray × ByteArray), (∀ p ∈ ps, SepOk p.1 ∧ WrdOk p.2) → ps.length ≤ (catW ps).size
  | [], _ => Nat.zero_le _
  | p :: ps, h => by
    have h1 := (h p (List.mem_cons_self ..)).1.1
    have h2 := cat_len ps (fun q hq => h q (List.mem_cons_of_mem _ hq))
    show ps.length + 1 ≤ (p.1 ++ (p.2 ++ catW ps)).size
    rw [Lns.join_size, Lns.join_size]
    omega
theorem pW_knw (Z : List (List Nat)) (β k : Nat) : knw (pW Z β k ++ sNl) = (prs Z (min β k)).map Prod.snd := by
  unfold pW knw
  split
  · rename_i h
    rw [Nat.min_eq_left (by omega), ByteArray.append_assoc, ByteArray.append_assoc]
    exact knF_cat (prs Z β) _ _ (by
      have := cat_len (prs Z β) prs_ok
      rw [Lns.join_size]
      omega) (end_bad _) prs_ok
  · rename_i h
    rw [Nat.min_eq_right (by omega)]
    exact knF_cat (prs Z k) _ _ (by
      have := cat_len (prs Z k) prs_ok
      rw [Lns.join_size]
      omega) end_nl prs_ok
/-- What the file says. -/
theorem tW_rd (Z : List (List Nat)) (β k : Nat) : rdA (tW Z β k ++ lnEnd) = ⟨false, false, [((tW Z β k).size + 1, 10)], (prs Z (min β k)).map Prod.snd⟩ := by
  have h := words_rd (P := pW Z β k) (fun i hi => pW_pl Z β k i hi) (pW_low Z β k)
  have e : tW Z β k ++ lnEnd = (sMark ++ (sWords ++ (pW Z β k ++ sNl))) ++ sLn := by
    rw [tW_is, txt11_eq, lnEnd_eq]
    simp only [ByteArray.append_assoc]
  have e2 : (tW Z β k).size + 1 = (sMark ++ (sWords ++ (pW Z β k ++ sNl))).size := by
    rw [tW_is, txt11_eq]
    simp only [Lns.join_size]
    show _ + 1 = _ + (_ + (_ + 1))
    omega
  rw [e, h, pW_knw, e2]
/-- The words' texts. -/
def wds (Z : List (List Nat)) (k : Nat) : List ByteArray := (prs Z k).map Prod.snd
theorem wds_at (Z : List (List Nat)) {k i : Nat} (h : i < k) : (wds Z k)[i]? = some (Wt (Z.getD i [])) := by
  unfold wds prs
  rw [List.map_map, List.getElem?_map, List.getElem?_range h]
  rfl
theorem wds_succ (Z : List (List Nat)) (k : Nat) : wds Z (k + 1) = wds Z k ++ [Wt (Z.getD k [])] := by
  unfold wds
  rw [prs_succ, List.map_append]
  rfl
theorem wds_len (Z : List (List Nat)) (k : Nat) : (wds Z k).length = k := by
  unfold wds
  rw [List.length_map, prs_len]
theorem wt_fld (zs : List Nat) : fld (Wt zs) = Wt zs := asc_fld (fun i hi => by
  obtain ⟨h1, h2, h3, -⟩ := (wt_ok zs).2.2 i hi
  exact ⟨h1, h2, h3⟩)
theorem nums_list {L : List Int} (h : Byt L) : ((List.range (strOfNums L).size).map fun i => (bt (strOfNums L) i : Int)) = L := by
  rw [strOfNums_size]
  apply List.ext_getElem?
  intro i
  rcases Nat.lt_or_ge i L.length with hi | hi
  · rw [List.getElem?_map, List.getElem?_range hi, List.getElem?_eq_getElem hi]
    exact congrArg some (nums_bt (List.getElem?_eq_getElem hi) (h _ (List.getElem_mem hi)))
  · rw [List.getElem?_eq_none hi, List.getElem?_eq_none (by rw [List.length_map, List.length_range]; exact hi)]
/-- The same word, its first letter great. -/
theorem wt_fldQ (zs : List Nat) : fld (strOfNums (81 :: wqt zs)) = Wt zs := by
  have hB : Byt (81 :: wqt zs) := fun x hx => by
    rcases List.mem_cons.1 hx with h | h
    · omega
    · have := wqt_mem x h
      omega
  have ha : ∀ i, i < (strOfNums (81 :: wqt zs)).size → bt (strOfNums (81 :: wqt zs)) i < 128 := fun i hi => by
    rw [strOfNums_size] at hi
    have h1 := nums_bt (l := 81 :: wqt zs) (i := i) (x := (81 :: wqt zs)[i]'hi) (List.getElem?_eq_getElem hi) (hB _ (List.getElem_mem _))
    have h2 : (81 :: wqt zs)[i]'hi ∈ 81 :: wqt zs := List.getElem_mem _
    rcases List.mem_cons.1 h2 with h | h
    · omega
    · have := wqt_mem _ h
      omega
  rw [fld_tx, kS_is (asc_ends ha), asc_rl ha, wrL_map, nums_list hB]
  have e1 : (81 :: wqt zs).map dn = wq zs := by
    show dn 81 :: (wqt zs).map dn = 113 :: wqt zs
    rw [show dn 81 = 113 by decide]
    congr 1
    refine (List.map_congr_left (fun x hx => ?_)).trans (List.map_id _)
    refine dn_id ?_
    rcases wqt_mem x hx with h | h | h | h | h <;> rw [h] <;> decide
  rw [e1]
  unfold tx Wt
  rw [flat_one _ (fun r hr => by have := wq_mem r hr; omega)]
theorem wds_other (Z : List (List Nat)) (k : Nat) : knB (wds Z k) (fld ⟨#[111, 116, 104, 101, 114]⟩) = false := by
  rw [show fld ⟨#[111, 116, 104, 101, 114]⟩ = ⟨#[111, 116, 104, 101, 114]⟩ by kernel_rfl]
  unfold knB
  rw [List.any_eq_false]
  intro x hx
  rw [decide_eq_true_iff]
  intro e
  unfold wds at hx
  obtain ⟨p, hp, rfl⟩ := List.mem_map.1 hx
  obtain ⟨i, _, rfl⟩ := List.mem_map.1 hp
  have h := wt_0 (Z.getD i [])
  rw [show Wt (Z.getD i []) = ⟨#[111, 116, 104, 101, 114]⟩ from e] at h
  exact absurd h (by decide)
end Go.Proofs.YteeeekpeokgaeaaDoor
