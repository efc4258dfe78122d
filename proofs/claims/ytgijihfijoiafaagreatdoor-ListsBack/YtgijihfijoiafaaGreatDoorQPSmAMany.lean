/- Words of small letters: their signs, Check's number, Fold. -/
import Derived.Test.YtgijihfijoiafaaGreatDoorQRowS
import Derived.Test.YtgijihfijoiafaaGreatDoorQPRBytRFld
import Derived.Test.YtgijihfijoiafaaGreatDoorQPREntRFxA
import Derived.Test.YtgijihfijoiafaaGreatDoorQPWrdCmp
import Derived.Test.YtgijihfijoiafaaGreatDoorQPReaFxs
namespace Go.Proofs.YtgijihfijoiafaaGreatDoor
set_option linter.unusedVariables false
open Go.RowKit Go.ChangeShapes
/-- Small letters, of the first ones. -/
def SmA (l : List UInt8) : Prop := ∀ b ∈ l, 97 ≤ b.toNat ∧ b.toNat ≤ 122
theorem sm_dec {l : List UInt8} (h : SmA l) (i : Nat) (hi : i < l.length) : Utf8.decode (bA l) i = (l[i].toNat, 1) := by
  have hb := h _ (List.getElem_mem hi)
  have e := bt_bA l i hi
  rw [Lns.low_sign (bA l) i (by rw [e]; omega), e]
theorem sm_pos {l : List UInt8} (h : SmA l) : ∀ j, j ≤ l.length → pos (bA l) j = j
  | 0, _ => rfl
  | j + 1, hj => by
    show pos (bA l) j + wd (bA l) (pos (bA l) j) = _
    rw [sm_pos h j (by omega)]
    unfold wd
    rw [sm_dec h j (by omega)]
theorem sm_ends {l : List UInt8} (h : SmA l) : Ends (bA l) l.length := by
  refine ⟨by rw [sm_pos h _ (Nat.le_refl _), bA_size], fun j hj => ?_⟩
  rw [sm_pos h j (by omega), bA_size]
  exact hj
theorem sm_kS {l : List UInt8} (h : SmA l) : kS (bA l) = l.length := kS_is (sm_ends h)
theorem sm_rl {l : List UInt8} (h : SmA l) : rl (bA l) (kS (bA l)) = l.map fun b => (b.toNat : Int) := by
  rw [sm_kS h]
  apply List.ext_getElem
  · simp [rl]
  · intro i h1 h2
    have hi : i < l.length := by simpa [rl] using h1
    have hb := h _ (List.getElem_mem hi)
    simp only [rl, List.getElem_map, List.getElem_range]
    rw [sm_pos h i (by omega)]
    unfold rn
    rw [sm_dec h i hi]
    unfold kn
    rw [if_neg (by simp; omega)]
theorem sm_lB {n : Nat} (h : 97 ≤ n ∧ n ≤ 122) : lB (n : Int) = true ∧ gB (n : Int) = false := by
  have h1 : gB (n : Int) = false := (gB_no _).2 (by omega)
  refine ⟨?_, h1⟩
  have h2 : gB ((n : Int) - 32) = true := (gB_iff _).2 (by omega)
  unfold lB sB
  rw [h1, h2]
  rfl
theorem sm_chk {l : List UInt8} (h : SmA l) (h0 : l ≠ []) (h64 : l.length ≤ 64) : chk (bA l) = 0 := by
  unfold chk chkL
  rw [bA_size, if_neg (by omega), sm_rl h, okw_true _ (by simpa using h0) (fun i hi => ?_)]
  · rfl
  · have hi' : i < l.length := by simpa using hi
    unfold good
    have e : (l.map fun b => (b.toNat : Int)).getD i 0 = (l[i].toNat : Int) := by simp [List.getD, hi']
    rw [e, (sm_lB (h _ (List.getElem_mem hi'))).1]
    rfl
theorem sm_fld {l : List UInt8} (h : SmA l) : fld (bA l) = bA l := by
  rw [fld_tx, sm_rl h, wrL_map, List.map_map]
  unfold tx
  have e1 : (l.map ((fun x => dn x) ∘ fun b : UInt8 => (b.toNat : Int))).flatMap enc = l.map fun b : UInt8 => (b.toNat : Int) := by
    induction l with
    | nil => rfl
    | cons b l ih =>
      have hb := h b (by simp)
      rw [List.map_cons, List.flatMap_cons, ih (fun x hx => h x (List.mem_cons_of_mem _ hx)), List.map_cons]
      show enc (dn (b.toNat : Int)) ++ _ = _
      rw [dn_id (sm_lB hb).2, enc_one (by omega) (by omega)]
      rfl
  have e2 : (l.map (dn ∘ fun b : UInt8 => (b.toNat : Int))).flatMap enc = l.map fun b : UInt8 => (b.toNat : Int) := e1
  rw [e2]
  apply ByteArray.ext
  apply Array.toList_inj.1
  show ((l.map fun b : UInt8 => (b.toNat : Int)).map fun n => UInt8.ofNat n.toNat).toArray.toList = (bA l).data.toList
  rw [List.map_map, bA_list]
  have e3 : ((fun n : Int => UInt8.ofNat n.toNat) ∘ fun b : UInt8 => (b.toNat : Int)) = id := funext fun b => by simp
  rw [e3, List.map_id]
theorem sm_not {l : List UInt8} (h : SmA l) {c : UInt8} (hc : c.toNat < 97) : c ∉ l := fun hm => by
  have := h c hm
  omega
theorem sm_trim {l : List UInt8} (h : SmA l) (cs : List UInt8) (hcs : ∀ c ∈ cs, c.toNat < 97) : Lib.trimS l cs = l := by
  have key : ∀ m : List UInt8, SmA m → m.dropWhile (fun b => cs.contains b) = m := by
    intro m hm
    cases m with
    | nil => rfl
    | cons b m =>
      rw [List.dropWhile_cons_of_neg]
      intro hb
      have := hcs b (by simpa using hb)
      have := hm b (by simp)
      omega
  unfold Lib.trimS Lib.trimLeftS Lib.trimRightS
  rw [key l.reverse (fun b hb => h b (by simpa using hb)), List.reverse_reverse, key l h]
theorem sm_bare {l : List UInt8} (h : SmA l) : bareB (bA l) = bA l := by
  unfold bareB bareL
  rw [bA_list, sm_trim h [32, 9] (by decide)]
  rfl
theorem sm_app {a b : List UInt8} (ha : SmA a) (hb : SmA b) : SmA (a ++ b) := fun x hx => (List.mem_append.1 hx).elim (ha x) (hb x)
/-- A table's row of a word and another. -/
theorem idx_arrow (l r : List UInt8) (h : (45 : UInt8) ∉ l) : Lib.index (l ++ 45 :: 62 :: r) [45, 62] = l.length := by
  rcases Lib.index_spec (l ++ 45 :: 62 :: r) [45, 62] with ⟨h3, h4⟩ | ⟨k, h3, _, h5, h6⟩
  · have := h4 l.length (by simp)
    simp [Lib.occAt] at this
  · rw [h3]
    congr 1
    rcases Nat.lt_trichotomy k l.length with hk | hk | hk
    · exfalso
      unfold Lib.occAt at h5
      rw [List.drop_append_of_le_length (by omega), List.drop_eq_getElem_cons hk] at h5
      simp only [List.cons_append, List.isPrefixOf, Bool.and_eq_true, beq_iff_eq] at h5
      exact h (by rw [h5.1]; exact List.getElem_mem hk)
    · exact hk
    · have := h6 l.length hk
      simp [Lib.occAt] at this
theorem entry_arrow (l : List UInt8) (h : SmA l) (h0 : l ≠ []) (h64 : l.length ≤ 64) : entry (bA (l ++ [45, 62, 98])) = ((bA l, [bA [98]]), 0) := by
  have hx := idx_arrow l [98] (sm_not h (by decide))
  obtain ⟨s1, s2, s3⟩ := sides_yes (bA (l ++ [45, 62, 98])) l.length (by rw [bA_list]; exact hx)
  have e2 : (bA (l ++ [45, 62, 98])).extract 0 l.length = bA l := by
    apply ByteArray.ext
    apply Array.toList_inj.1
    rw [up_list, bA_list, bA_list]
    simp
  have e3 : (bA (l ++ [45, 62, 98])).extract (l.length + 2) (bA (l ++ [45, 62, 98])).size = bA [98] := by
    apply ByteArray.ext
    apply Array.toList_inj.1
    rw [Lib.extract_to_end, bA_list, bA_list]
    rw [← List.drop_drop]
    simp
  have hb : SmA [98] := fun b hb => by simp at hb; subst hb; decide
  unfold entry
  rw [s1, if_neg (by simp), s2, e2, sm_bare h, sm_chk h h0 h64, if_neg (by simp), s3, e3, sm_fld h]
  have hp : pcs (bA [98]).size (bA [98]) = [bA [98]] := pcs_last _ _ (by decide)
  have hr : runP cstep [bA [98]] [] = ([bA [98]], 0) := by
    unfold runP
    have hc := cstep_out [] (bA [98]) (by rw [sm_bare hb]; decide) (by rw [sm_bare hb]; exact sm_chk hb (by simp) (by decide)) (by simp)
    rw [sm_bare hb, sm_fld hb] at hc
    rw [hc]
    rfl
  rw [hp, hr]
  rfl
end Go.Proofs.YtgijihfijoiafaaGreatDoor
/- As many words as may be, and one more. -/
namespace Go.Proofs.YtgijihfijoiafaaGreatDoor
set_option linter.unusedVariables false
open Go.RowKit Go.ChangeShapes
theorem not_in_range {g : Nat → ByteArray} (hinj : ∀ i j, i ≤ 4096 → j ≤ 4096 → g i = g j → i = j) {k : Nat} (hk : k ≤ 4096) : g k ∉ (List.range k).map g := fun hm => by
  obtain ⟨j, hj, e⟩ := List.mem_map.1 hm
  have hj' := List.mem_range.1 hj
  have := hinj j k (by omega) hk e
  omega
theorem mnW_new {st : WSt} {r : ByteArray} (h1 : chk r = 0) (h2 : ¬ st.n = 4096) (h3 : ¬ fld r ∈ st.L) : wstep st r = (⟨st.n + 1, st.L ++ [fld r]⟩, 0) := by
  unfold wstep; rw [if_neg (by simp [h1]), if_neg h2, if_neg h3]
theorem mnW_old {st : WSt} {r : ByteArray} (h1 : chk r = 0) (h2 : ¬ st.n = 4096) (h3 : fld r ∈ st.L) : wstep st r = (⟨st.n + 1, st.L⟩, 0) := by
  unfold wstep; rw [if_neg (by simp [h1]), if_neg h2, if_pos h3]
theorem mnW_full {st : WSt} {r : ByteArray} (h1 : chk r = 0) (h2 : st.n = 4096) : wstep st r = (st, 4) := by
  unfold wstep; rw [if_neg (by simp [h1]), if_pos h2]
theorem runR_full {σ : Type} (step : σ → ByteArray → σ × Int) (r : ByteArray) (l : List ByteArray) (j : Nat) (st st' : σ) (c : Int) (h0 : (rowB r).size ≠ 0) (h1 : step st (rowB r) = (st', c)) (hc : c ≠ 0) : runR step (r :: l) j st = (st', c, j + 1) := by
  unfold runR
  rw [if_neg h0, h1]
  simp only
  rw [if_neg hc]
theorem runR_next {σ : Type} (step : σ → ByteArray → σ × Int) (r : ByteArray) (l : List ByteArray) (j : Nat) (st st' : σ) (h0 : (rowB r).size ≠ 0) (h1 : step st (rowB r) = (st', 0)) : runR step (r :: l) j st = runR step l (j + 1) st' := by
  conv => lhs; unfold runR
  rw [if_neg h0, h1, if_pos rfl]
theorem runR_skip {σ : Type} (step : σ → ByteArray → σ × Int) (r : ByteArray) (l : List ByteArray) (j : Nat) (st : σ) (h0 : (rowB r).size = 0) : runR step (r :: l) j st = runR step l (j + 1) st := by
  conv => lhs; unfold runR
  rw [if_pos h0]
theorem runW_many (g ln : Nat → ByteArray) (hrow : ∀ i, i ≤ 4096 → rowB (ln i) = g i) (hne : ∀ i, i ≤ 4096 → (g i).size ≠ 0) (hchk : ∀ i, i ≤ 4096 → chk (g i) = 0) (hfld : ∀ i, i ≤ 4096 → fld (g i) = g i)
    (hinj : ∀ i j, i ≤ 4096 → j ≤ 4096 → g i = g j → i = j) : ∀ d k, k + d ≤ 4097 → k ≤ 4096 →
    (k + d ≤ 4096 → runR wstep ((List.range' k d).map ln) k ⟨k, (List.range k).map g⟩ = (⟨k + d, (List.range (k + d)).map g⟩, 0, 0)) ∧
    (k + d = 4097 → runR wstep ((List.range' k d).map ln) k ⟨k, (List.range k).map g⟩ = (⟨4096, (List.range 4096).map g⟩, 4, 4097))
  | 0, k, _, hk => ⟨fun _ => rfl, fun h => by omega⟩
  | d + 1, k, h, hk => by
    have hr := hrow k hk
    rw [List.range'_succ, List.map_cons]
    by_cases h4 : k = 4096
    · subst h4
      refine ⟨fun h => by omega, fun _ => ?_⟩
      exact runR_full wstep _ _ _ _ _ _ (by rw [hr]; exact hne 4096 hk) (by rw [hr]; exact mnW_full (hchk 4096 hk) rfl) (by decide)
    · have hs : wstep ⟨k, (List.range k).map g⟩ (rowB (ln k)) = (⟨k + 1, (List.range (k + 1)).map g⟩, 0) := by
        rw [hr, mnW_new (hchk k hk) h4 (by rw [hfld k hk]; exact not_in_range hinj hk), hfld k hk, List.range_succ, List.map_append]
        rfl
      rw [runR_next wstep _ _ _ _ _ (by rw [hr]; exact hne k hk) hs]
      have ih := runW_many g ln hrow hne hchk hfld hinj d (k + 1) (by omega) (by omega)
      rw [show k + 1 + d = k + (d + 1) by omega] at ih
      exact ih
theorem runW_same (a ln : ByteArray) (hrow : rowB ln = a) (hne : a.size ≠ 0) (hchk : chk a = 0) (hfld : fld a = a) : ∀ d k, k + d ≤ 4097 → k ≤ 4096 →
    (k + d ≤ 4096 → runR wstep ((List.range' k d).map fun _ => ln) k ⟨k, if k = 0 then [] else [a]⟩ = (⟨k + d, if k + d = 0 then [] else [a]⟩, 0, 0)) ∧
    (k + d = 4097 → runR wstep ((List.range' k d).map fun _ => ln) k ⟨k, if k = 0 then [] else [a]⟩ = (⟨4096, [a]⟩, 4, 4097))
  | 0, k, _, hk => ⟨fun _ => rfl, fun h => by omega⟩
  | d + 1, k, h, hk => by
    rw [List.range'_succ, List.map_cons]
    by_cases h4 : k = 4096
    · subst h4
      refine ⟨fun h => by omega, fun _ => ?_⟩
      exact runR_full wstep _ _ _ _ _ _ (by rw [hrow]; exact hne) (by rw [hrow]; exact mnW_full hchk rfl) (by decide)
    · have hs : wstep ⟨k, if k = 0 then [] else [a]⟩ (rowB ln) = (⟨k + 1, if k + 1 = 0 then [] else [a]⟩, 0) := by
        rw [hrow, if_neg (by omega : ¬ k + 1 = 0)]
        by_cases h0 : k = 0
        · subst h0
          rw [if_pos rfl, mnW_new hchk (by decide) (by simp), hfld]
          rfl
        · rw [if_neg h0, mnW_old hchk h4 (by rw [hfld]; simp)]
      rw [runR_next wstep _ _ _ _ _ (by rw [hrow]; exact hne) hs]
      have ih := runW_same a ln hrow hne hchk hfld d (k + 1) (by omega) (by omega)
      rw [show k + 1 + d = k + (d + 1) by omega] at ih
      exact ih
theorem mnF_new {st : FSt} {r F : ByteArray} {L : List ByteArray} (h1 : entry r = ((F, L), 0)) (h2 : ¬ F ∈ st.1.map Prod.fst) (h3 : ¬ st.1.length = 4096) : fstep st r = ((st.1 ++ [(F, L)], false), 0) := by
  unfold fstep; rw [h1, if_neg (by simp), if_neg h2, if_neg h3]
theorem mnF_full {st : FSt} {r F : ByteArray} {L : List ByteArray} (h1 : entry r = ((F, L), 0)) (h2 : ¬ F ∈ st.1.map Prod.fst) (h3 : st.1.length = 4096) : fstep st r = ((st.1, true), 4) := by
  unfold fstep; rw [h1, if_neg (by simp), if_neg h2, if_pos h3]
theorem runF_many (g ln : Nat → ByteArray) (e : ByteArray) (B : List ByteArray) (he : (rowB e).size = 0) (hrow : ∀ i, i ≤ 4096 → (rowB (ln i)).size ≠ 0) (hent : ∀ i, i ≤ 4096 → entry (rowB (ln i)) = ((g i, B), 0))
    (hinj : ∀ i j, i ≤ 4096 → j ≤ 4096 → g i = g j → i = j) : ∀ d k, k + d ≤ 4097 → k ≤ 4096 →
    (k + d ≤ 4096 → runR fstep ((List.range' k d).flatMap fun i => [ln i, e]) (2 * k) ((List.range k).map fun i => (g i, B), false) = (((List.range (k + d)).map fun i => (g i, B), false), 0, 0)) ∧
    (k + d = 4097 → runR fstep ((List.range' k d).flatMap fun i => [ln i, e]) (2 * k) ((List.range k).map fun i => (g i, B), false) = (((List.range 4096).map fun i => (g i, B), true), 4, 8193))
  | 0, k, _, hk => ⟨fun _ => rfl, fun h => by omega⟩
  | d + 1, k, h, hk => by
    have hnin : ¬ g k ∈ (((List.range k).map fun i => (g i, B)).map Prod.fst) := by
      rw [List.map_map]
      exact not_in_range hinj hk
    rw [List.range'_succ, List.flatMap_cons]
    show (_ → runR fstep (ln k :: e :: _) _ _ = _) ∧ (_ → runR fstep (ln k :: e :: _) _ _ = _)
    by_cases h4 : k = 4096
    · refine ⟨fun h => by omega, fun _ => ?_⟩
      have hf := runR_full fstep (ln k) (e :: (List.range' (k + 1) d).flatMap fun i => [ln i, e]) (2 * k) ((List.range k).map fun i => (g i, B), false) ((List.range k).map fun i => (g i, B), true) 4 (hrow k hk) (mnF_full (hent k hk) hnin (by rw [List.length_map, List.length_range]; exact h4)) (by decide)
      rw [show 2 * k + 1 = 8193 by omega] at hf
      have hk4 : List.range 4096 = List.range k := by rw [h4]
      rw [hk4]
      exact hf
    · have hs : fstep ((List.range k).map fun i => (g i, B), false) (rowB (ln k)) = (((List.range (k + 1)).map fun i => (g i, B), false), 0) := by
        rw [mnF_new (hent k hk) hnin (by simpa using h4), List.range_succ, List.map_append]
        rfl
      rw [runR_next fstep _ _ _ _ _ (hrow k hk) hs, runR_skip fstep _ _ _ _ he]
      have ih := runF_many g ln e B he hrow hent hinj d (k + 1) (by omega) (by omega)
      rw [show k + 1 + d = k + (d + 1) by omega, show 2 * (k + 1) = 2 * k + 1 + 1 by omega] at ih
      exact ih
/-- The i-th word. -/
def wM (i : Nat) : List UInt8 := [UInt8.ofNat (97 + i % 26), UInt8.ofNat (97 + i / 26 % 26), UInt8.ofNat (97 + i / 676)]
theorem wM_sm (i : Nat) (h : i ≤ 4096) : SmA (wM i) := by
  intro b hb
  unfold wM at hb
  simp only [List.mem_cons, List.not_mem_nil, or_false] at hb
  rcases hb with rfl | rfl | rfl <;> rw [UInt8.toNat_ofNat'] <;> omega
theorem wM_inj (i j : Nat) (hi : i ≤ 4096) (hj : j ≤ 4096) (h : bA (wM i) = bA (wM j)) : i = j := by
  have h' : wM i = wM j := by have := congrArg (fun s => s.data.toList) h; simpa [bA] using this
  unfold wM at h'
  simp only [List.cons.injEq, and_true] at h'
  obtain ⟨h1, h2, h3⟩ := h'
  have e1 := congrArg UInt8.toNat h1
  have e2 := congrArg UInt8.toNat h2
  have e3 := congrArg UInt8.toNat h3
  simp only [UInt8.toNat_ofNat'] at e1 e2 e3
  omega
theorem spl_many (f : Nat → List UInt8) (hf : ∀ i, (10 : UInt8) ∉ f i) : ∀ is : List Nat, spl (is.flatMap fun i => f i ++ [10]) = is.map fun i => f i ++ [10]
  | [] => rfl
  | i :: is => by
    rw [List.flatMap_cons, List.append_assoc, List.map_cons, ← spl_many f hf is]
    exact spl_line (f i) _ (hf i)
theorem spl_many2 (f : Nat → List UInt8) (hf : ∀ i, (10 : UInt8) ∉ f i) : ∀ is : List Nat, spl (is.flatMap fun i => f i ++ [10, 10]) = is.flatMap fun i => [f i ++ [10], [10]]
  | [] => rfl
  | i :: is => by
    rw [List.flatMap_cons, List.flatMap_cons, ← spl_many2 f hf is]
    show spl (f i ++ [10, 10] ++ _) = (f i ++ [10]) :: [10] :: _
    rw [List.append_assoc]
    show spl (f i ++ 10 :: (10 :: _)) = _
    rw [spl_line (f i) _ (hf i)]
    rfl
/-- The bytes of both lists. -/
def bM (same : Bool) (n : Nat) : List UInt8 := (List.range n).flatMap fun i => (bif same then [97] else wM i) ++ [10]
def cM (n : Nat) : List UInt8 := (List.range n).flatMap fun i => (wM i ++ [45, 62, 98]) ++ [10, 10]
theorem bM_succ (same : Bool) (n : Nat) : bM same (n + 1) = bM same n ++ ((bif same then [97] else wM n) ++ [10]) := by simp [bM, List.range_succ]
theorem cM_succ (n : Nat) : cM (n + 1) = cM n ++ ((wM n ++ [45, 62, 98]) ++ [10, 10]) := by simp [cM, List.range_succ]
theorem bM_len (same : Bool) : ∀ n, (bM same n).length ≤ 4 * n
  | 0 => Nat.le_refl _
  | n + 1 => by
    have := bM_len same n
    rw [bM_succ, List.length_append, List.length_append]
    have : (bif same then [97] else wM n).length ≤ 3 := by cases same <;> simp [wM]
    simp only [List.length_cons, List.length_nil]
    omega
theorem cM_len : ∀ n, (cM n).length = 8 * n
  | 0 => rfl
  | n + 1 => by
    rw [cM_succ, List.length_append, cM_len n]
    simp [wM]
    omega
end Go.Proofs.YtgijihfijoiafaaGreatDoor
