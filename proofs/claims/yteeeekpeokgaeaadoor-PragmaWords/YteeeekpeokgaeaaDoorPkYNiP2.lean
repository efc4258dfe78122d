/- PragmaNil: what is known there. -/
import Derived.Test.YteeeekpeokgaeaaDoorPkYLnP2
import Derived.Test.YteeeekpeokgaeaaDooryOm
import Derived.Test.YteeeekpeokgaeaaDoorPkYPure3
import Derived.Lib.CutLaws
import Derived.Lib.IndexBytes
import Derived.Lib.SlTrimSet
namespace Go.Proofs.YteeeekpeokgaeaaDoor
set_option linter.unusedVariables false
open Go.RowKit Go.ChangeShapes Tns
open Lns (nL nL_le line S)
def exN : List Int := [115, 112, 101, 108, 108, 58, 119, 111, 114, 100, 115, 32, 113, 113, 10, 115, 112, 101, 108, 108, 58, 108, 105, 110, 101, 10]
def exNb : ByteArray := ⟨#[115, 112, 101, 108, 108, 58, 119, 111, 114, 100, 115, 32, 113, 113, 10, 115, 112, 101, 108, 108, 58, 108, 105, 110, 101, 10]⟩
theorem exN_nums : strOfNums exN = exNb := by kernel_rfl
theorem exN_w : (rdL exNb 2).w = [⟨#[113, 113]⟩] := by kernel_rfl
theorem exN_n : nL exNb = 2 ∧ 0 < exNb.size ∧ bt exNb (exNb.size - 1) = 10 := ⟨by kernel_rfl, by decide, by decide⟩
theorem fld_QQ : fld ⟨#[81, 81]⟩ = ⟨#[113, 113]⟩ := by kernel_rfl
theorem ask_mem {t rest x : ByteArray} {p : Ps} (h : x ∈ p.w) : x ∈ (ask t rest p).w := by
  unfold ask
  split
  · exact h
  · split
    · exact h
    · split
      · exact h
      · split
        · exact h
        · split
          · exact List.mem_append_left _ h
          · exact h
theorem scF_mem {s x : ByteArray} : ∀ f k (p : Ps), x ∈ p.w → x ∈ (scF s f k p).w
  | 0, k, p, h => h
  | f + 1, k, p, h => by
    rw [scF]
    split
    · split
      · exact scF_mem f _ _ (ask_mem h)
      · exact scF_mem f _ _ h
    · exact h
theorem rdL_mem {s x : ByteArray} {j : Nat} (h : x ∈ (rdL s j).w) : ∀ d, x ∈ (rdL s (j + d)).w
  | 0 => h
  | d + 1 => by
    show x ∈ (stp (line s (j + d)) (S s (j + d)) (rdL s (j + d))).w
    unfold stp scn
    exact scF_mem _ _ _ (rdL_mem h d)
theorem nil_knows (B : ByteArray) : knB (rdA (exNb ++ B)).w (fld ⟨#[81, 81]⟩) = true := by
  obtain ⟨h1, h2, h3⟩ := exN_n
  have e1 : (rdL (exNb ++ B) 2).w = [⟨#[113, 113]⟩] := by
    rw [rdL_left exNb B h2 h3 2 (by rw [h1]; exact Nat.le_refl _)]
    exact exN_w
  have e2 : nL (exNb ++ B) = 2 + nL B := by rw [Lns.nL_join exNb B h2 h3, h1]
  have e3 : (⟨#[113, 113]⟩ : ByteArray) ∈ (rdA (exNb ++ B)).w := by
    unfold rdA
    rw [e2]
    exact rdL_mem (by rw [e1]; exact List.mem_singleton.2 rfl) _
  rw [fld_QQ]
  unfold knB
  rw [List.any_eq_true]
  exact ⟨_, e3, by simp⟩
/-- A row of one's own, of cells so many an entry, a cell of it written. -/
theorem own_cells {w : World} {base e size n g cap j : Nat} {xs : List Value} {u : Value} (h : w.ownsRow base e size (.slice (some ⟨g, 0, none⟩) n cap) n xs) (hj : j < n * size) : (w.setCell ⟨g, j, none⟩ u).ownsRow base e size (.slice (some ⟨g, 0, none⟩) n cap) n (xs.set j u) := by
  obtain ⟨hl, ⟨h1, h2⟩ | ⟨g', cap', cur, e1, hg, hh, hc, hm, hs, ht⟩⟩ := h
  · cases h1
  · injection e1 with e1 e2 e3
    injection e1 with e1
    injection e1 with e1
    subst e1 e3
    refine ⟨by rw [List.length_set]; exact hl, Or.inr ⟨g, cap, cur.setIfInBounds j u, rfl, hg, cells_set hh j u, hc, hm, by rw [Array.size_setIfInBounds]; exact hs, ?_⟩⟩
    rw [← ht, Array.toList_setIfInBounds, List.take_set]
/-- Nil rules. -/
def NilOk : Prop := (∀ (w : World) (a : Int), (-9223372036854775808 ≤ a ∧ a ≤ 9223372036854775807) → Calls Tryd.prog 14 #[.pointer none, .int .i64 a] w fun e w' => e = .returned (.bool false) ∧ Below w.heap.size w w') ∧
  (∀ (w : World) (t : ByteArray), t.size ≤ 5000 → Lns.Tabs w → Calls Tryd.prog 16 #[.pointer none, .string t] w fun e w' => e = .returned (.bool false) ∧ Below w.heap.size w w') ∧
  (∀ (w : World), Calls Tryd.prog 13 #[.pointer none] w fun e w' => ∃ a c, e = .returned (.slice a 0 c) ∧ Below w.heap.size w w')
end Go.Proofs.YteeeekpeokgaeaaDoor
/- Cut, and what is trimmed ahead of a text: plainly. -/
namespace Go.Proofs.YteeeekpeokgaeaaDoor
set_option linter.unusedVariables false
open Go.RowKit Lns Tns
theorem frm_ext (s : ByteArray) {i a b : Nat} (h : i + b ≤ s.size) : (frm s i).extract a b = s.extract (i + a) (i + b) := by
  apply ByteArray.ext
  unfold frm
  rw [ByteArray.data_extract, ByteArray.data_extract, ByteArray.data_extract, Array.extract_extract]
  congr 1
  exact Nat.min_eq_left h
theorem lowF_frm (s : ByteArray) (i : Nat) (hi : i ≤ s.size) : ∀ f e, lowF s f (i + e) = i + lowF (frm s i) f e
  | 0, e => rfl
  | f + 1, e => by
    show (bif decide (i + e < s.size) && lowB (bt s (i + e)) then lowF s f (i + e + 1) else i + e) = i + (bif decide (e < (frm s i).size) && lowB (bt (frm s i) e) then lowF (frm s i) f (e + 1) else e)
    have hs := frm_size s i
    by_cases h : i + e < s.size
    · rw [show decide (i + e < s.size) = true by simpa using h, show decide (e < (frm s i).size) = true by simp; omega, frm_bt h]
      cases lowB (bt s (i + e))
      · rfl
      · exact lowF_frm s i hi f (e + 1)
    · rw [show decide (i + e < s.size) = false by simpa using h, show decide (e < (frm s i).size) = false by simp; omega]
      rfl
theorem low_frm (s : ByteArray) {i : Nat} (hi : i ≤ s.size) (e : Nat) : low s (i + e) = i + low (frm s i) e := by
  unfold low
  rw [lowF_frm s i hi, frm_size, show s.size - (i + e) = s.size - i - e by omega]
theorem scF_frm (s : ByteArray) {i : Nat} (hi : i ≤ s.size) : ∀ f k p, scF s f (i + k) p = scF (frm s i) f k p
  | 0, k, p => rfl
  | f + 1, k, p => by
    show (if i + k + 6 ≤ s.size then (if s.extract (i + k) (i + k + 6) = sMark then scF s f (low s (i + k + 6)) (ask (s.extract (i + k + 6) (low s (i + k + 6))) (frm s (low s (i + k + 6))) p) else scF s f (i + k + 1) p) else p) = (if k + 6 ≤ (frm s i).size then (if (frm s i).extract k (k + 6) = sMark then scF (frm s i) f (low (frm s i) (k + 6)) (ask ((frm s i).extract (k + 6) (low (frm s i) (k + 6))) (frm (frm s i) (low (frm s i) (k + 6))) p) else scF (frm s i) f (k + 1) p) else p)
    have hs := frm_size s i
    by_cases hk : i + k + 6 ≤ s.size
    · rw [if_pos hk, if_pos (show k + 6 ≤ (frm s i).size by omega), frm_ext s (by omega : i + (k + 6) ≤ s.size), show i + k + 6 = i + (k + 6) by omega, low_frm s hi]
      have hl := low_ge (s := frm s i) ((frm s i).size - (k + 6)) (k + 6) (by omega)
      by_cases hm : s.extract (i + k) (i + (k + 6)) = sMark
      · rw [if_pos hm, if_pos hm, scF_frm s hi f, frm_ext s (by omega : i + low (frm s i) (k + 6) ≤ s.size), frm_frm]
      · rw [if_neg hm, if_neg hm]
        exact scF_frm s hi f (k + 1) p
    · rw [if_neg hk, if_neg (show ¬ k + 6 ≤ (frm s i).size by omega)]
theorem scn_frm (s : ByteArray) {i : Nat} (hi : i ≤ s.size) (k : Nat) (p : Ps) : scn s (i + k) p = scn (frm s i) k p := by
  unfold scn
  rw [scF_frm s hi, frm_size, show s.size - (i + k) = s.size - i - k by omega]
theorem scn_jump {s : ByteArray} {i : Nat} {p : Ps} (h : ∀ j, j < i → j + 6 ≤ s.size → ¬ s.extract j (j + 6) = sMark) : ∀ d j, j + d = i → scn s j p = scn s i p
  | 0, j, e => by rw [show j = i by omega]
  | d + 1, j, e => by
    by_cases hk : j + 6 ≤ s.size
    · rw [scn_no hk (h j (by omega) hk)]
      exact scn_jump h d (j + 1) (by omega)
    · rw [scn_end (by omega), scn_end (by omega)]
theorem mark_size : sMark.size = 6 := rfl
theorem occ_iff {s : ByteArray} {j : Nat} (h : j + 6 ≤ s.size) : Lib.occAt s.data.toList sMark.data.toList j = true ↔ s.extract j (j + 6) = sMark := by
  rw [Lib.occ_of_piece s sMark j h, mark_size]
  constructor
  · intro e
    exact Lns.toList_inj (eq_of_beq e)
  · intro e
    rw [e]
    exact beq_self_eq_true _
theorem scn_cut {t : ByteArray} {p : Ps} {i : Nat} (h : Lib.indexB t sMark = (i : Int)) : i + 6 ≤ t.size ∧ scn t 0 p = scn (frm (frm t (i + 6)) (low (frm t (i + 6)) 0)) 0 (ask ((frm t (i + 6)).extract 0 (low (frm t (i + 6)) 0)) (frm (frm t (i + 6)) (low (frm t (i + 6)) 0)) p) := by
  have h' : Lib.index t.data.toList sMark.data.toList = (i : Int) := h
  rcases Lib.index_spec t.data.toList sMark.data.toList with ⟨h1, _⟩ | ⟨k, h1, h2, h3, h4⟩
  · omega
  · obtain rfl : k = i := by omega
    have hr := Lib.index_room t.data.toList sMark.data.toList (by omega)
    rw [h1, ← Lib.size_eq, ← Lib.size_eq, mark_size] at hr
    have hk : k + 6 ≤ t.size := by omega
    refine ⟨hk, ?_⟩
    rw [scn_jump (i := k) (fun j hj hj6 e => by
      have := (occ_iff hj6).2 e
      rw [h4 j hj] at this
      cases this) k 0 (by omega)]
    rw [scn_yes hk ((occ_iff hk).1 h3)]
    have hf := frm_size t (k + 6)
    have hl := low_ge (s := frm t (k + 6)) (frm t (k + 6)).size 0 (by omega)
    have e := low_frm t hk 0
    rw [Nat.add_zero] at e
    rw [e, frm_ext t (by omega : k + 6 + low (frm t (k + 6)) 0 ≤ t.size), Nat.add_zero, frm_frm]
    have e2 := scn_frm t (i := k + 6 + low (frm t (k + 6)) 0) (by omega) 0 (ask (t.extract (k + 6) (k + 6 + low (frm t (k + 6)) 0)) (frm t (k + 6 + low (frm t (k + 6)) 0)) p)
    rw [Nat.add_zero] at e2
    exact e2
theorem scn_none {t : ByteArray} {p : Ps} (h : Lib.indexB t sMark = -1) : scn t 0 p = p := by
  have h' : Lib.index t.data.toList sMark.data.toList = -1 := h
  rcases Lib.index_spec t.data.toList sMark.data.toList with ⟨_, h2⟩ | ⟨k, h1, _⟩
  · rw [scn_jump (i := t.size) (fun j hj hj6 e => by
      have e1 := (occ_iff hj6).2 e
      rw [h2 j (by rw [← Lib.size_eq]; omega)] at e1
      cases e1) t.size 0 (by omega)]
    exact scn_end (by omega)
  · omega
/-- Where the signs end that a text begins with and that are wanted. -/
def trF (q : Int → Bool) (s : ByteArray) : Nat → Nat → Nat
  | 0, i => i
  | f + 1, i => bif decide (i < s.size) && q (rn s i) then trF q s f (i + wd s i) else i
theorem trF_end {q : Int → Bool} {s : ByteArray} {i : Nat} (h : s.size ≤ i) : ∀ f, trF q s f i = i
  | 0 => rfl
  | f + 1 => by
    show (bif decide (i < s.size) && q (rn s i) then trF q s f (i + wd s i) else i) = i
    rw [show decide (i < s.size) = false by simp; omega]
    rfl
theorem trF_no {q : Int → Bool} {s : ByteArray} {i : Nat} (h : q (rn s i) = false) : ∀ f, trF q s f i = i
  | 0 => rfl
  | f + 1 => by
    show (bif decide (i < s.size) && q (rn s i) then trF q s f (i + wd s i) else i) = i
    rw [h, Bool.and_false]
    rfl
theorem trF_on {q : Int → Bool} {s : ByteArray} {i : Nat} (hi : i < s.size) (h : q (rn s i) = true) (f : Nat) : trF q s (f + 1) i = trF q s f (i + wd s i) := by
  show (bif decide (i < s.size) && q (rn s i) then trF q s f (i + wd s i) else i) = _
  rw [h, show decide (i < s.size) = true by simpa using hi]
  rfl
theorem trF_le {q : Int → Bool} {s : ByteArray} : ∀ f i, i ≤ s.size → i ≤ trF q s f i ∧ trF q s f i ≤ s.size
  | 0, i, h => ⟨Nat.le_refl _, h⟩
  | f + 1, i, h => by
    rcases Nat.lt_or_ge i s.size with hl | hg
    · cases hq : q (rn s i)
      · rw [trF_no hq]; omega
      · rw [trF_on hl hq]
        have hw := wd_pos s i hl
        have := trF_le (q := q) (s := s) f (i + wd s i) hw.2.1
        omega
    · rw [trF_end hg]; omega
theorem trF_any {q : Int → Bool} {s : ByteArray} : ∀ f g i, s.size ≤ i + f → s.size ≤ i + g → trF q s f i = trF q s g i
  | 0, g, i, h1, h2 => by rw [trF_end (by omega) g]; rfl
  | f + 1, 0, i, h1, h2 => by rw [trF_end (by omega) (f + 1)]; rfl
  | f + 1, g + 1, i, h1, h2 => by
    rcases Nat.lt_or_ge i s.size with hl | hg
    · cases hq : q (rn s i)
      · rw [trF_no hq, trF_no hq]
      · rw [trF_on hl hq, trF_on hl hq]
        have hw := wd_pos s i hl
        exact trF_any f g _ (by omega) (by omega)
    · rw [trF_end hg, trF_end hg]
theorem weF_tr (s : ByteArray) : ∀ f p, weF s f p = trF wsB s f p
  | 0, p => rfl
  | f + 1, p => by
    show (bif decide (p < s.size) && wsB (rn s p) then weF s f (p + wd s p) else p) = (bif decide (p < s.size) && wsB (rn s p) then trF wsB s f (p + wd s p) else p)
    rw [weF_tr s f]
/-- The letters a to z. -/
def smB (r : Int) : Bool := decide (97 ≤ r) && decide (r ≤ 122)
theorem sm_byte {s : ByteArray} {i : Nat} (hi : i < s.size) : smB (rn s i) = lowB (bt s i) ∧ (lowB (bt s i) = true → wd s i = 1) := by
  by_cases hb : bt s i < 128
  · have hd := Lns.low_sign s i hb
    have e1 : rn s i = (bt s i : Int) := by
      unfold rn kn
      rw [hd]
      show (if bt s i = 65533 ∧ 1 < 2 then (-1 : Int) else (bt s i : Int)) = _
      rw [if_neg (by omega)]
    have e2 : wd s i = 1 := by unfold wd; rw [hd]
    refine ⟨?_, fun _ => e2⟩
    rw [e1]
    unfold smB lowB
    congr 1
    · exact decide_eq_decide.2 (by omega)
    · exact decide_eq_decide.2 (by omega)
  · have hf : lowB (bt s i) = false := by
      unfold lowB
      rw [show decide (bt s i ≤ 122) = false by simp; omega, Bool.and_false]
    refine ⟨?_, fun h => by rw [hf] at h; cases h⟩
    rw [hf]
    rcases sign_or s i hi with h | ⟨_, h, _⟩
    · by_cases hr : rn s i < 128
      · have := (Lns.sign_low h hr).1
        have h0 := (okR_iff _).1 h.1
        omega
      · unfold smB
        rw [show decide (rn s i ≤ 122) = false by simp; omega, Bool.and_false]
    · rw [h]
      rfl
theorem low_tr {s : ByteArray} : ∀ f i, i ≤ s.size → s.size ≤ i + f → trF smB s f i = low s i
  | 0, i, h1, h2 => by rw [low_end (by omega)]; rfl
  | f + 1, i, h1, h2 => by
    rcases Nat.lt_or_ge i s.size with hl | hg
    · obtain ⟨e1, e2⟩ := sm_byte hl
      cases hb : lowB (bt s i)
      · rw [trF_no (by rw [e1, hb]), low_no hb]
      · rw [trF_on hl (by rw [e1, hb]), e2 hb, low_on hl hb]
        exact low_tr f (i + 1) (by omega) (by omega)
    · rw [trF_end hg, low_end hg]
theorem sk_all {s : ByteArray} : ∀ d e, e + d = s.size → ∀ j, e ≤ j → j < sk s e → blB (bt s j) = true
  | 0, e, h, j, h1, h2 => by rw [sk_end (by omega)] at h2; omega
  | d + 1, e, h, j, h1, h2 => by
    cases hb : blB (bt s e)
    · rw [sk_no hb] at h2; omega
    · rw [sk_on (by omega) hb] at h2
      rcases Nat.eq_or_lt_of_le h1 with he | he
      · subst he; exact hb
      · exact sk_all d (e + 1) (by omega) j he h2
theorem sk_not {s : ByteArray} : ∀ d e, e + d = s.size → sk s e = s.size ∨ blB (bt s (sk s e)) = false
  | 0, e, h => by rw [sk_end (by omega)]; omega
  | d + 1, e, h => by
    cases hb : blB (bt s e)
    · rw [sk_no hb]; exact Or.inr hb
    · rw [sk_on (by omega) hb]; exact sk_not d (e + 1) (by omega)
theorem bt_list {s : ByteArray} {j : Nat} {b : UInt8} (h : s.data.toList[j]? = some b) : bt s j = b.toNat := by
  have hj := (List.getElem?_eq_some_iff.1 h).1
  have h' : s.data[j]? = some b := by rw [← h]; simp
  unfold bt
  show (s.data[j]!).toNat = _
  rw [getElem!_def, h']
theorem frm_list (s : ByteArray) (k : Nat) : (frm s k).data.toList = s.data.toList.drop k := by
  unfold frm
  rw [ByteArray.data_extract, Array.toList_extract]
  show (s.data.toList.drop k).take (s.size - k) = _
  exact List.take_of_length_le (by rw [List.length_drop, ← Lib.size_eq]; exact Nat.le_refl _)
theorem bl_has (b : UInt8) : ([32, 9, 44] : List UInt8).contains b = blB b.toNat := by
  have e : ∀ c : UInt8, (b == c) = decide (b.toNat = c.toNat) := fun c => by
    rw [Bool.eq_iff_iff, beq_iff_eq, decide_eq_true_iff, UInt8.toNat_inj]
  show (b == 32 || (b == 9 || (b == 44 || false))) = (decide (b.toNat = 32) || decide (b.toNat = 9) || decide (b.toNat = 44))
  rw [e, e, e, Bool.or_false, Bool.or_assoc]
  rfl
theorem trimL_sk (s : ByteArray) : (⟨(Lib.trimLeftS s.data.toList [32, 9, 44]).toArray⟩ : ByteArray) = frm s (sk s 0) := by
  have hg := sk_ge (s := s) s.size 0 (by omega)
  have e : Lib.trimLeftS s.data.toList [32, 9, 44] = s.data.toList.drop (sk s 0) := by
    refine Lib.trimLeftS_drop _ _ _ (by rw [← Lib.size_eq]; exact hg.2) (fun j b hj hb => ?_) (fun b hb => ?_)
    · rw [bl_has, ← bt_list hb]
      exact sk_all s.size 0 (by omega) j (Nat.zero_le _) hj
    · rw [bl_has, ← bt_list hb]
      rcases sk_not (s := s) s.size 0 (by omega) with h | h
      · have := (List.getElem?_eq_some_iff.1 hb).1
        rw [← Lib.size_eq] at this
        omega
      · exact h
  rw [e, ← frm_list]
end Go.Proofs.YteeeekpeokgaeaaDoor
