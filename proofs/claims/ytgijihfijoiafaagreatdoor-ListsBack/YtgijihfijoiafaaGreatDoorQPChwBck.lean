/- Checked words: their bytes; what lists of them are. -/
import Derived.Test.YtgijihfijoiafaaGreatDoorQPSmAMany
import Derived.Test.YtgijihfijoiafaaGreatDoorQPReaFxs
namespace Go.Proofs.YtgijihfijoiafaaGreatDoor
set_option linter.unusedVariables false
open Go.RowKit Go.ChangeShapes
/-- A byte of a listed word: none that parts rows. -/
def okB (n : Nat) : Prop := 128 ≤ n ∨ n = 39 ∨ (65 ≤ n ∧ n ≤ 90) ∨ (97 ≤ n ∧ n ≤ 122)
theorem cover_pos (s : ByteArray) : ∀ k, (∀ j, j < k → pos s j < s.size) → ∀ q, q < pos s k → ∃ j, j < k ∧ pos s j ≤ q ∧ q < pos s (j + 1)
  | 0, _, q, h => absurd h (Nat.not_lt_zero q)
  | k + 1, hk, q, h => by
    by_cases hq : q < pos s k
    · obtain ⟨j, h1, h2, h3⟩ := cover_pos s k (fun j hj => hk j (by omega)) q hq
      exact ⟨j, by omega, h2, h3⟩
    · exact ⟨k, by omega, by omega, h⟩
theorem good_of_chk {s : ByteArray} (h : chk s = 0) : s.size ≤ 64 ∧ 0 < (rl s (kS s)).length ∧ ∀ i, i < (rl s (kS s)).length → good (rl s (kS s)) i = true := by
  have h64 := chk_small h
  unfold chk chkL at h
  rw [if_neg (by omega)] at h
  cases ho : okw false (rl s (kS s))
  · rw [ho] at h; cases h
  · refine ⟨h64, ?_, fun i hi => okw_good _ ho i hi⟩
    cases hl : rl s (kS s) with
    | nil => rw [hl] at ho; cases ho
    | cons a l => simp
theorem good_rune {L : List Int} {i : Nat} (h : good L i = true) : lB (L.getD i 0) = true ∨ L.getD i 0 = 39 := by
  unfold good at h
  cases hl : lB (L.getD i 0)
  · rw [hl] at h
    simp only [Bool.false_or, Bool.and_eq_true, beq_iff_eq] at h
    exact Or.inr h.1.1.1.1
  · exact Or.inl rfl
theorem lB_low {r : Int} (h : lB r = true) (hr : r < 128) : (65 ≤ r ∧ r ≤ 90) ∨ (97 ≤ r ∧ r ≤ 122) := by
  unfold lB sB at h
  cases hg : gB r
  · cases hs : gB (r - 32)
    · rw [hg, hs] at h
      simp at h
      omega
    · have := (gB_iff _).1 hs
      omega
  · have := (gB_iff _).1 hg
    omega
theorem chk_bytes {s : ByteArray} (h : chk s = 0) (q : Nat) (hq : q < s.size) : okB (bt s q) := by
  obtain ⟨_, _, hg⟩ := good_of_chk h
  have he := kS_ends s
  obtain ⟨k, hk, h1, h2⟩ := cover_pos s (kS s) he.2 q (by rw [he.1]; exact hq)
  have hp := he.2 k hk
  have hgk := good_rune (hg k (by simpa [rl] using hk))
  have hrk : (rl s (kS s)).getD k 0 = rn s (pos s k) := by
    have := rl_at s (kS s) k hk
    simp [List.getD, this]
  rw [hrk] at hgk
  have hw : pos s (k + 1) = pos s k + wd s (pos s k) := rfl
  rcases sign_or s (pos s k) hp with hs | ⟨_, hr, _⟩
  · by_cases hlow : rn s (pos s k) < 128
    · obtain ⟨e1, e2⟩ := Lns.sign_low hs hlow
      rw [hs.wd, e2] at hw
      obtain rfl : q = pos s k := by omega
      unfold okB
      rcases hgk with hl | hl
      · have := lB_low hl hlow
        omega
      · omega
    · have := Lns.sign_high hs (by omega) (q - pos s k) (by have := hs.wd; omega)
      rw [show pos s k + (q - pos s k) = q by omega] at this
      exact Or.inl this
  · exfalso
    rw [hr] at hgk
    rcases hgk with hl | hl
    · have := lB_low hl (by omega)
      omega
    · omega
/-- No byte of a checked word is one that parts rows. -/
theorem chk_not {s : ByteArray} (h : chk s = 0) {c : UInt8} (hc : ¬ okB c.toNat) : c ∉ s.data.toList := fun hm => by
  obtain ⟨q, hq, e⟩ := List.getElem_of_mem hm
  have hq' : q < s.size := by simpa using hq
  have hb := chk_bytes h q hq'
  have e2 := bt_bA s.data.toList q hq
  rw [bA_of, e] at e2
  rw [e2] at hb
  exact hc hb
theorem chk_ne {s : ByteArray} (h : chk s = 0) : s.data.toList ≠ [] := fun e => by
  obtain ⟨_, h0, _⟩ := good_of_chk h
  have hz : s.size = 0 := by have := congrArg List.length e; simpa using this
  have hk := (kS_ends s).le
  simp [rl] at h0
  omega
theorem okB_no : ¬ okB 9 ∧ ¬ okB 10 ∧ ¬ okB 13 ∧ ¬ okB 32 ∧ ¬ okB 35 ∧ ¬ okB 44 ∧ ¬ okB 45 := by
  unfold okB
  omega
/-- Trimmed, where no blank stands. -/
theorem trim_none (l cs : List UInt8) (h : ∀ c ∈ cs, c ∉ l) : Lib.trimS l cs = l := by
  have key : ∀ m : List UInt8, (∀ c ∈ cs, c ∉ m) → m.dropWhile (fun b => cs.contains b) = m := by
    intro m hm
    cases m with
    | nil => rfl
    | cons b m =>
      rw [List.dropWhile_cons_of_neg]
      intro hb
      exact hm b (by simpa using hb) (by simp)
  unfold Lib.trimS Lib.trimLeftS Lib.trimRightS
  rw [key l.reverse (fun c hc hm => h c hc (List.mem_reverse.1 hm)), List.reverse_reverse, key l h]
theorem trim_front (l cs : List UInt8) (a : UInt8) (h : a ∈ cs) : Lib.trimS (a :: l) cs = Lib.trimS l cs := by
  have e : Lib.trimS (a :: l) cs = rt (fun b => cs.contains b) ((a :: l).dropWhile (fun b => cs.contains b)) := by
    rw [← trim_swap]
    rfl
  have e2 : Lib.trimS l cs = rt (fun b => cs.contains b) (l.dropWhile (fun b => cs.contains b)) := by
    rw [← trim_swap]
    rfl
  rw [e, e2, List.dropWhile_cons_of_pos (by simpa using h)]
theorem trim_back (l cs : List UInt8) (a : UInt8) (h : a ∈ cs) : Lib.trimS (l ++ [a]) cs = Lib.trimS l cs := by
  have e : ∀ m : List UInt8, Lib.trimS m cs = (rt (fun b => cs.contains b) m).dropWhile (fun b => cs.contains b) := fun m => rfl
  rw [e, e, rt_snoc, if_pos (by simpa using h)]
theorem trim_ends (a z : UInt8) (m cs : List UInt8) (ha : a ∉ cs) (hz : z ∉ cs) : Lib.trimS (a :: (m ++ [z])) cs = a :: (m ++ [z]) := by
  have e : Lib.trimS (a :: (m ++ [z])) cs = rt (fun b => cs.contains b) ((a :: (m ++ [z])).dropWhile (fun b => cs.contains b)) := by
    rw [← trim_swap]
    rfl
  rw [e, List.dropWhile_cons_of_neg (by simpa using ha), ← List.cons_append, rt_snoc, if_neg (by simpa using hz)]
theorem chk_trim {s : ByteArray} (h : chk s = 0) (cs : List UInt8) (hc : ∀ c ∈ cs, ¬ okB c.toNat) : Lib.trimS s.data.toList cs = s.data.toList := trim_none _ _ (fun c hcs => chk_not h (hc c hcs))
/-- A word's line of a list; its row. -/
def lnW (s : ByteArray) : List UInt8 := s.data.toList ++ [32, 32, 35, 32, 120] ++ [10]
theorem lnW_row {s : ByteArray} (h : chk s = 0) : rowB (bA (lnW s)) = s := by
  obtain ⟨n9, n10, n13, n32, n35, n44, n45⟩ := okB_no
  rw [rowB_bA]
  unfold lnW
  rw [show s.data.toList ++ [32, 32, 35, 32, 120] ++ [10] = (s.data.toList ++ [32, 32]) ++ 35 :: [32, 120, 10] by simp, row_remark _ _ (fun hm => (List.mem_append.1 hm).elim (chk_not h (c := 35) n35) (by decide))]
  rw [show s.data.toList ++ [32, 32] = (s.data.toList ++ [32]) ++ [32] by simp, trim_snoc _ _ (by decide), trim_snoc _ _ (by decide), chk_trim h _ (by
    intro c hc
    simp only [List.mem_cons, List.not_mem_nil, or_false] at hc
    rcases hc with rfl | rfl | rfl | rfl
    · exact n32
    · exact n9
    · exact n13
    · exact n10), bA_of]
/-- A word's line of a table; its row; its entry. -/
def rwF (s : ByteArray) : List UInt8 := s.data.toList ++ [45, 62] ++ ([9] ++ s.data.toList ++ [44] ++ [32, 122, 122] ++ [44] ++ [122, 122])
def lnF (s : ByteArray) : List UInt8 := [32] ++ rwF s ++ [13] ++ [10]
theorem lnF_row {s : ByteArray} (h : chk s = 0) : rowB (bA (lnF s)) = bA (rwF s) := by
  obtain ⟨n9, n10, n13, n32, n35, n44, n45⟩ := okB_no
  have h35 : (35 : UInt8) ∉ [32] ++ rwF s ++ [13] := by
    unfold rwF
    simp [chk_not h (c := 35) n35]
  rw [rowB_bA]
  unfold lnF
  rw [row_nl _ h35]
  congr 1
  rw [trim_back _ _ _ (by decide), show [32] ++ rwF s = 32 :: rwF s from rfl, trim_front _ _ _ (by decide)]
  -- the row opens with the word and ends in a letter
  obtain ⟨a, l, hal⟩ : ∃ a l, s.data.toList = a :: l := by
    cases hl : s.data.toList with
    | nil => exact absurd hl (chk_ne h)
    | cons a l => exact ⟨a, l, rfl⟩
  have hm : a ∈ s.data.toList := by rw [hal]; simp
  have ha : a ∉ ([32, 9, 13, 10] : List UInt8) := by
    intro hc
    simp only [List.mem_cons, List.not_mem_nil, or_false] at hc
    rcases hc with e | e | e | e
    · exact chk_not h (c := 32) n32 (by rw [← e]; exact hm)
    · exact chk_not h (c := 9) n9 (by rw [← e]; exact hm)
    · exact chk_not h (c := 13) n13 (by rw [← e]; exact hm)
    · exact chk_not h (c := 10) n10 (by rw [← e]; exact hm)
  have e : rwF s = a :: ((l ++ [45, 62] ++ ([9] ++ s.data.toList ++ [44] ++ [32, 122, 122] ++ [44] ++ [122])) ++ [122]) := by
    unfold rwF
    rw [hal]
    simp
  rw [e]
  exact trim_ends a 122 _ _ ha (by decide)
end Go.Proofs.YtgijihfijoiafaaGreatDoor
/- Lists and tables of checked words: what is read of them. -/
namespace Go.Proofs.YtgijihfijoiafaaGreatDoor
set_option linter.unusedVariables false
open Go.RowKit Go.ChangeShapes
def zz : ByteArray := bA [122, 122]
theorem sm_zz : SmA [122, 122] := fun b hb => by simp at hb; subst hb; decide
theorem chk_zz : chk zz = 0 := sm_chk sm_zz (by simp) (by decide)
theorem fld_zz : fld zz = zz := sm_fld sm_zz
/-- What a table tells of a word. -/
def toF (f : ByteArray) : List ByteArray :=
  haveI : ∀ (s : ByteArray) (L : List ByteArray), Decidable (s ∈ L) := memDec
  if zz ∈ [f] then [f] else [f, zz]
theorem comma_bA (l : List UInt8) : comma (bA l) = Lib.indexByte l 44 := by
  unfold comma
  rw [bA_list]
theorem pcs_one (f : Nat) (x : List UInt8) (h : (44 : UInt8) ∉ x) : pcs f (bA x) = [bA x] := pcs_last f _ (by rw [comma_bA, idx_none 44 x h]; decide)
theorem pcs_cons (f : Nat) (x r : List UInt8) (h : (44 : UInt8) ∉ x) : pcs (f + 1) (bA (x ++ 44 :: r)) = bA x :: pcs f (bA r) := by
  have hc : comma (bA (x ++ 44 :: r)) = (x.length : Int) := by rw [comma_bA, idx_at 44 x r h]
  have e1 : (bA (x ++ 44 :: r)).extract 0 x.length = bA x := by
    apply ByteArray.ext
    apply Array.toList_inj.1
    rw [up_list, bA_list, bA_list]
    simp
  have e2 : (bA (x ++ 44 :: r)).extract (x.length + 1) (bA (x ++ 44 :: r)).size = bA r := by
    apply ByteArray.ext
    apply Array.toList_inj.1
    rw [Lib.extract_to_end, bA_list, bA_list, ← List.drop_drop]
    simp
  conv => lhs; unfold pcs
  rw [if_neg (by rw [hc]; omega), hc, Int.toNat_natCast, e1, e2]
theorem bare_of (l : List UInt8) : bareB (bA l) = bA (Lib.trimS l [32, 9]) := by
  unfold bareB bareL
  rw [bA_list]
  rfl
theorem chk_bare {s : ByteArray} (h : chk s = 0) : Lib.trimS s.data.toList [32, 9] = s.data.toList := chk_trim h _ (by
  obtain ⟨n9, n10, n13, n32, n35, n44, n45⟩ := okB_no
  intro c hc
  simp only [List.mem_cons, List.not_mem_nil, or_false] at hc
  rcases hc with rfl | rfl
  · exact n32
  · exact n9)
theorem entry_F {s : ByteArray} (h : chk s = 0) : entry (bA (rwF s)) = ((fld s, toF (fld s)), 0) := by
  obtain ⟨n9, n10, n13, n32, n35, n44, n45⟩ := okB_no
  have h44 := chk_not h (c := 44) n44
  have hne := chk_ne h
  have hsz : s.data.toList.length = s.size := by simp
  obtain ⟨B, hB⟩ : ∃ B, ([9] ++ s.data.toList ++ [44] ++ [32, 122, 122] ++ [44] ++ [122, 122] : List UInt8) = B := ⟨_, rfl⟩
  have hr : rwF s = s.data.toList ++ 45 :: 62 :: B := by
    unfold rwF
    rw [hB]
    simp
  have hx := idx_arrow s.data.toList B (chk_not h (c := 45) n45)
  obtain ⟨s1, s2, s3⟩ := sides_yes (bA (rwF s)) s.data.toList.length (by rw [bA_list, hr]; exact hx)
  have e2 : (bA (rwF s)).extract 0 s.data.toList.length = s := by
    apply ByteArray.ext
    apply Array.toList_inj.1
    rw [up_list, bA_list, hr]
    simp
  have e3 : (bA (rwF s)).extract (s.data.toList.length + 2) (bA (rwF s)).size = bA B := by
    apply ByteArray.ext
    apply Array.toList_inj.1
    rw [Lib.extract_to_end, bA_list, bA_list, hr, ← List.drop_drop]
    simp
  have hbs : bareB s = s := by
    have := bare_of s.data.toList
    rw [bA_of, chk_bare h, bA_of] at this
    exact this
  have hBl : B.length = s.size + 8 := by rw [← hB]; simp
  have hB2 : B = (9 :: s.data.toList) ++ 44 :: ([32, 122, 122] ++ 44 :: [122, 122]) := by rw [← hB]; simp
  have hp : pcs (bA B).size (bA B) = [bA (9 :: s.data.toList), bA [32, 122, 122], zz] := by
    rw [bA_size, hBl]
    obtain ⟨k, hk⟩ : ∃ k, s.size + 8 = k + 1 + 1 := ⟨s.size + 6, by omega⟩
    rw [hk, hB2, pcs_cons _ _ _ (by simpa using h44), pcs_cons _ _ _ (by decide), pcs_one _ _ (by decide)]
    rfl
  have b1 : bareB (bA (9 :: s.data.toList)) = s := by rw [bare_of, trim_front _ _ _ (by decide), chk_bare h, bA_of]
  have b2 : bareB (bA [32, 122, 122]) = zz := by rw [bare_of]; decide
  have b3 : bareB zz = zz := sm_bare sm_zz
  have hs0 : s.size ≠ 0 := fun e => hne (List.eq_nil_of_length_eq_zero (by omega))
  have c1 : cstep [] (bA (9 :: s.data.toList)) = ([fld s], 0) := by
    have := cstep_out [] (bA (9 :: s.data.toList)) (by rw [b1]; exact hs0) (by rw [b1]; exact h) (by simp)
    rw [b1] at this
    exact this
  have hrun : runP cstep [bA (9 :: s.data.toList), bA [32, 122, 122], zz] [] = (toF (fld s), 0) := by
    unfold runP
    rw [c1]
    simp only [if_true]
    unfold runP
    by_cases hz : zz ∈ [fld s]
    · have c2 : cstep [fld s] (bA [32, 122, 122]) = ([fld s], 0) := cstep_in _ _ (by rw [b2]; decide) (by rw [b2]; exact chk_zz) (by rw [b2, fld_zz]; exact hz)
      have c3 : cstep [fld s] zz = ([fld s], 0) := cstep_in _ _ (by rw [b3]; decide) (by rw [b3]; exact chk_zz) (by rw [b3, fld_zz]; exact hz)
      rw [c2]
      simp only [if_true]
      unfold runP
      rw [c3]
      unfold toF
      rw [if_pos hz]
      rfl
    · have c2 : cstep [fld s] (bA [32, 122, 122]) = ([fld s, zz], 0) := by
        have := cstep_out [fld s] (bA [32, 122, 122]) (by rw [b2]; decide) (by rw [b2]; exact chk_zz) (by rw [b2, fld_zz]; exact hz)
        rw [b2, fld_zz] at this
        exact this
      have c3 : cstep [fld s, zz] zz = ([fld s, zz], 0) := cstep_in _ _ (by rw [b3]; decide) (by rw [b3]; exact chk_zz) (by rw [b3, fld_zz]; simp)
      rw [c2]
      simp only [if_true]
      unfold runP
      rw [c3]
      unfold toF
      rw [if_neg hz]
      rfl
  unfold entry
  rw [s1, if_neg (by simp), s2, e2, hbs, h, if_neg (by simp), s3, e3, hp, hrun]
  rfl
def nubS (L : List ByteArray) (s : ByteArray) : List ByteArray :=
  haveI : ∀ (s : ByteArray) (L : List ByteArray), Decidable (s ∈ L) := memDec
  if fld s ∈ L then L else L ++ [fld s]
/-- The folded words, none twice. -/
def nub (ws : List ByteArray) : List ByteArray := ws.foldl nubS []
theorem nub_snoc (ws : List ByteArray) (s : ByteArray) : nub (ws ++ [s]) = nubS (nub ws) s := by unfold nub; rw [List.foldl_append]; rfl
theorem nubS_old {L : List ByteArray} {s : ByteArray} (h : fld s ∈ L) : nubS L s = L := by unfold nubS; rw [if_pos h]
theorem nubS_new {L : List ByteArray} {s : ByteArray} (h : ¬ fld s ∈ L) : nubS L s = L ++ [fld s] := by unfold nubS; rw [if_neg h]
theorem nubS_sub {L : List ByteArray} {s f : ByteArray} (h : f ∈ L) : f ∈ nubS L s := by
  unfold nubS
  split
  · exact h
  · exact List.mem_append_left _ h
theorem fold_sub : ∀ (ws : List ByteArray) (L : List ByteArray) (f : ByteArray), f ∈ L → f ∈ ws.foldl nubS L
  | [], _, _, h => h
  | s :: ws, L, f, h => fold_sub ws (nubS L s) f (nubS_sub h)
theorem fold_mem : ∀ (ws : List ByteArray) (L : List ByteArray), ∀ s ∈ ws, fld s ∈ ws.foldl nubS L
  | [], _, s, h => by cases h
  | t :: ws, L, s, h => by
    rcases List.mem_cons.1 h with rfl | h
    · refine fold_sub ws (nubS L s) _ ?_
      unfold nubS
      split
      · assumption
      · simp
    · exact fold_mem ws (nubS L t) s h
theorem fold_same : ∀ (ws : List ByteArray) (L : List ByteArray), (∀ s ∈ ws, fld s ∈ L) → ws.foldl nubS L = L
  | [], _, _ => rfl
  | s :: ws, L, h => by
    rw [List.foldl_cons, nubS_old (h s (by simp))]
    exact fold_same ws L (fun t ht => h t (List.mem_cons_of_mem _ ht))
theorem nub_twice (ws : List ByteArray) : nub (ws ++ ws) = nub ws := by
  unfold nub
  rw [List.foldl_append]
  exact fold_same ws _ (fold_mem ws [])
theorem runW_ws : ∀ (ws : List ByteArray), (∀ s ∈ ws, chk s = 0) → ∀ (j n : Nat) (L : List ByteArray), n + ws.length ≤ 4096 → runR wstep (ws.map fun s => bA (lnW s)) j ⟨n, L⟩ = (⟨n + ws.length, ws.foldl nubS L⟩, 0, 0)
  | [], _, _, _, _, _ => rfl
  | s :: ws, h, j, n, L, hn => by
    have hs := h s (by simp)
    have hrow := lnW_row hs
    have hsz : s.size ≠ 0 := fun e => chk_ne hs (List.eq_nil_of_length_eq_zero (by simpa using e))
    simp only [List.length_cons] at hn
    have hst : wstep ⟨n, L⟩ (rowB (bA (lnW s))) = (⟨n + 1, nubS L s⟩, 0) := by
      rw [hrow]
      by_cases hm : fld s ∈ L
      · rw [mnW_old hs (by show ¬ n = 4096; omega) hm, nubS_old hm]
      · rw [mnW_new hs (by show ¬ n = 4096; omega) hm, nubS_new hm]
    rw [List.map_cons, runR_next wstep _ _ _ _ _ (by rw [hrow]; exact hsz) hst, runW_ws ws (fun t ht => h t (List.mem_cons_of_mem _ ht)) (j + 1) (n + 1) (nubS L s) (by omega)]
    rw [List.length_cons, show n + 1 + ws.length = n + (ws.length + 1) by omega]
    rfl
def prF (f : ByteArray) : ByteArray × List ByteArray := (f, toF f)
theorem runF_N : ∀ (N : List ByteArray), (∀ s ∈ N, chk s = 0) → ∀ (j : Nat) (M : List ByteArray), (M ++ N.map fld).Nodup → (M ++ N.map fld).length ≤ 4096 → runR fstep (N.map fun s => bA (lnF s)) j (M.map prF, false) = (((M ++ N.map fld).map prF, false), 0, 0)
  | [], _, _, M, _, _ => by simp [runR]
  | s :: N, h, j, M, hd, hl => by
    have hs := h s (by simp)
    have hrow := lnF_row hs
    have hnin : ¬ fld s ∈ (M.map prF).map Prod.fst := by
      rw [List.map_map]
      have e : M.map (Prod.fst ∘ prF) = M := by
        have : (Prod.fst ∘ prF) = id := rfl
        rw [this, List.map_id]
      rw [e]
      intro hm
      exact (List.nodup_append.1 hd).2.2 (fld s) hm (fld s) (by simp) rfl
    have hst : fstep (M.map prF, false) (rowB (bA (lnF s))) = (((M ++ [fld s]).map prF, false), 0) := by
      rw [hrow, mnF_new (entry_F hs) hnin (by simp at hl ⊢; omega), List.map_append]
      rfl
    have hrs : (rowB (bA (lnF s))).size ≠ 0 := by rw [hrow, bA_size]; unfold rwF; simp
    have e : M ++ (s :: N).map fld = (M ++ [fld s]) ++ N.map fld := by simp
    rw [List.map_cons, runR_next fstep _ _ _ _ _ hrs hst, runF_N N (fun t ht => h t (List.mem_cons_of_mem _ ht)) (j + 1) (M ++ [fld s]) (by rw [← e]; exact hd) (by rw [← e]; exact hl), e]
/-- The lists' bytes. -/
def wBy (ws : List ByteArray) : List UInt8 := ws.flatMap lnW
def fBy (N : List ByteArray) : List UInt8 := N.flatMap lnF
theorem spl_of {α : Type} (f : α → List UInt8) : ∀ is : List α, (∀ i ∈ is, (10 : UInt8) ∉ f i) → spl (is.flatMap fun i => f i ++ [10]) = is.map fun i => f i ++ [10]
  | [], _ => rfl
  | i :: is, h => by
    rw [List.flatMap_cons, List.append_assoc, List.map_cons, ← spl_of f is (fun j hj => h j (List.mem_cons_of_mem _ hj))]
    exact spl_line (f i) _ (h i (by simp))
theorem wBy_lines (ws : List ByteArray) (h : ∀ s ∈ ws, chk s = 0) : linesL (bA (wBy ws)) = ws.map fun s => bA (lnW s) := by
  obtain ⟨n9, n10, n13, n32, n35, n44, n45⟩ := okB_no
  rw [linesL_bA]
  unfold wBy
  rw [show ws.flatMap lnW = ws.flatMap fun s => (s.data.toList ++ [32, 32, 35, 32, 120]) ++ [10] from rfl, spl_of (fun s : ByteArray => s.data.toList ++ [32, 32, 35, 32, 120]) ws (fun s hs hm => (List.mem_append.1 hm).elim (chk_not (h s hs) (c := 10) n10) (by decide)), List.map_map]
  rfl
theorem fBy_lines (N : List ByteArray) (h : ∀ s ∈ N, chk s = 0) : linesL (bA (fBy N)) = N.map fun s => bA (lnF s) := by
  obtain ⟨n9, n10, n13, n32, n35, n44, n45⟩ := okB_no
  rw [linesL_bA]
  unfold fBy
  rw [show N.flatMap lnF = N.flatMap fun s => ([32] ++ rwF s ++ [13]) ++ [10] from rfl, spl_of (fun s : ByteArray => [32] ++ rwF s ++ [13]) N (fun s hs hm => by
    unfold rwF at hm
    simp [chk_not (h s hs) (c := 10) n10] at hm), List.map_map]
  rfl
theorem lnW_len {s : ByteArray} (h : chk s = 0) : (lnW s).length ≤ 70 := by
  have := chk_small h
  unfold lnW
  simp
  omega
theorem lnF_len {s : ByteArray} (h : chk s = 0) : (lnF s).length ≤ 142 := by
  have := chk_small h
  unfold lnF rwF
  simp
  omega
theorem flat_le {α : Type} (f : α → List UInt8) (m : Nat) : ∀ l : List α, (∀ x ∈ l, (f x).length ≤ m) → (l.flatMap f).length ≤ m * l.length
  | [], _ => Nat.le_refl _
  | x :: l, h => by
    have h1 := h x (by simp)
    have h2 := flat_le f m l (fun y hy => h y (List.mem_cons_of_mem _ hy))
    rw [List.flatMap_cons, List.length_append, List.length_cons, Nat.mul_add]
    omega
end Go.Proofs.YtgijihfijoiafaaGreatDoor
