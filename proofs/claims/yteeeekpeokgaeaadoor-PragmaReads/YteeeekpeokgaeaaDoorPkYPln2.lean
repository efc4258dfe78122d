/- PragmaPlain. -/
import Derived.Test.YteeeekpeokgaeaaDoorPkYAwk2
import Derived.Test.YteeeekpeokgaeaaDooryLnP
import Derived.Test.YteeeekpeokgaeaaDooryOm
namespace Go.Proofs.YteeeekpeokgaeaaDoor
set_option linter.unusedVariables false
open Go.RowKit Go.ChangeShapes Tns
open Lns (nL nL_le line S)
/-- A row of one's own, a cell of it written. -/
theorem own_cell {w : World} {base e n g cap j : Nat} {xs : List Value} {u : Value} (h : w.ownsRow base e 1 (.slice (some ⟨g, 0, none⟩) n cap) n xs) (hj : j < n) : (w.setCell ⟨g, j, none⟩ u).ownsRow base e 1 (.slice (some ⟨g, 0, none⟩) n cap) n (xs.set j u) := by
  obtain ⟨hl, ⟨h1, h2⟩ | ⟨g', cap', cur, e1, hg, hh, hc, hm, hs, ht⟩⟩ := h
  · cases h1
  · injection e1 with e1 e2 e3
    injection e1 with e1
    injection e1 with e1
    subst e1 e3
    refine ⟨by rw [List.length_set]; exact hl, Or.inr ⟨g, cap, cur.setIfInBounds j u, rfl, hg, cells_set hh j u, hc, hm, by rw [Array.size_setIfInBounds]; exact hs, ?_⟩⟩
    rw [← ht, Array.toList_setIfInBounds, List.take_set]
theorem ob_set {w : World} {base g cap j : Nat} {l : List Int} {x : Int} (h : OB w base (.slice (some ⟨g, 0, none⟩) l.length cap) l) (hj : j < l.length) : OB (w.setCell ⟨g, j, none⟩ (.int .u8 x)) base (.slice (some ⟨g, 0, none⟩) (l.set j x).length cap) (l.set j x) := by
  have h1 := own_cell (u := .int .u8 x) h hj
  unfold OB
  rw [List.length_set]
  have e : u8L (l.set j x) = (u8L l).set j (.int .u8 x) := by simp [u8L, List.map_set]
  rw [e]
  exact h1
/-- Colons turned. -/
def unc (x : Int) : Int := if x = 58 then 59 else x
def pmx (l : List Int) (i : Nat) : List Int := (l.take i).map unc ++ l.drop i
theorem pmx_len (l : List Int) (i : Nat) : (pmx l i).length = l.length := by
  unfold pmx
  rw [List.length_append, List.length_map, ← List.length_append, List.take_append_drop]
theorem pmx_zero (l : List Int) : pmx l 0 = l := rfl
theorem pmx_all (l : List Int) : pmx l l.length = l.map unc := by
  unfold pmx
  rw [List.take_length, List.drop_length, List.append_nil]
theorem pmx_at {l : List Int} {i : Nat} {x : Int} (h : l[i]? = some x) : (pmx l i)[i]? = some x := by
  have hi := (List.getElem?_eq_some_iff.1 h).1
  unfold pmx
  rw [List.getElem?_append_right (by rw [List.length_map, List.length_take]; omega), List.length_map, List.length_take, List.getElem?_drop, ← h]
  congr 1
  omega
theorem pmx_succ {l : List Int} {i : Nat} {x : Int} (h : l[i]? = some x) : pmx l (i + 1) = (pmx l i).set i (unc x) := by
  have hi := (List.getElem?_eq_some_iff.1 h).1
  have hx : l[i] = x := by rw [List.getElem?_eq_getElem hi] at h; exact Option.some.inj h
  unfold pmx
  rw [List.take_add_one, h, List.drop_eq_getElem_cons hi, hx, List.map_append]
  rw [List.set_append_right _ _ (by rw [List.length_map, List.length_take]; omega)]
  rw [show i - ((l.take i).map unc).length = 0 by rw [List.length_map, List.length_take]; omega]
  simp
theorem pmx_same {l : List Int} {i : Nat} {x : Int} (h : l[i]? = some x) (hx : x ≠ 58) : pmx l (i + 1) = pmx l i := by
  rw [pmx_succ h, show unc x = x from if_neg hx]
  have e := pmx_at h
  have hi := (List.getElem?_eq_some_iff.1 e).1
  rw [List.getElem?_eq_getElem hi] at e
  rw [← Option.some.inj e]
  exact List.set_getElem_self hi
/-- Without a colon nothing is asked. -/
theorem ext_no {X : ByteArray} {k : Nat} (hk : k + 6 ≤ X.size) (h : bt X (k + 5) ≠ 58) : ¬ X.extract k (k + 6) = sMark := fun e => by
  have e1 : bt (X.extract k (k + 6)) 5 = bt X (k + 5) := ext_bt hk (by omega)
  rw [e] at e1
  exact h (e1 ▸ (by decide : bt sMark 5 = 58))
theorem scF_none {X : ByteArray} (h : ∀ i, i < X.size → bt X i ≠ 58) : ∀ f k p, scF X f k p = p
  | 0, k, p => rfl
  | f + 1, k, p => by
    rw [scF]
    by_cases hk : k + 6 ≤ X.size
    · rw [if_pos hk, if_neg (ext_no hk (h (k + 5) (by omega)))]
      exact scF_none h f (k + 1) p
    · rw [if_neg hk]
theorem rdL_none {s : ByteArray} (h : ∀ i, i < s.size → bt s i ≠ 58) : ∀ j, rdL s j = ⟨false, false, [], []⟩
  | 0 => rfl
  | j + 1 => by
    show stp (line s j) (S s j) (rdL s j) = _
    rw [rdL_none h j]
    unfold stp scn
    rw [scF_none (fun i hi => ?_)]
    · rfl
    · rw [Lns.line_size] at hi
      have h1 := Lns.S_le s (j + 1)
      have e : bt (line s j) i = bt s (S s j + i) := by
        unfold bt line
        rw [Lns.sub_get s (S s j) (S s (j + 1)) i h1 hi]
      rw [e]
      exact h _ (by omega)
theorem unc_byt {l : List Int} (h : Byt l) : Byt (l.map unc) := fun x hx => by
  obtain ⟨y, hy, rfl⟩ := List.mem_map.1 hx
  have := h y hy
  unfold unc
  split <;> omega
theorem unc_rd {l : List Int} (h : Byt l) : rdA (strOfNums (l.map unc)) = ⟨false, false, [], []⟩ := by
  refine rdL_none (fun i hi => ?_) _
  rw [strOfNums_size, List.length_map] at hi
  have hb := unc_byt h
  have e : (bt (strOfNums (l.map unc)) i : Int) = (l.map unc)[i]'(by rw [List.length_map]; exact hi) := by
    have h1 := nums_bt (l := l.map unc) (i := i) (x := (l.map unc)[i]'(by rw [List.length_map]; exact hi)) (List.getElem?_eq_getElem _) (hb _ (List.getElem_mem _))
    exact h1
  have h2 : (l.map unc)[i]'(by rw [List.length_map]; exact hi) ≠ 58 := by
    rw [List.getElem_map]
    unfold unc
    split <;> omega
  omega
end Go.Proofs.YteeeekpeokgaeaaDoor
/- PragmaNil: what is known there. -/
namespace Go.Proofs.YteeeekpeokgaeaaDoor
set_option linter.unusedVariables false
open Go.RowKit Go.ChangeShapes Tns
open Lns (nL nL_le line S)
def exN : List Int := [115, 112, 101, 108, 108, 58, 119, 111, 114, 100, 115, 32, 113, 113, 10, 115, 112, 101, 108, 108, 58, 108, 105, 110, 101, 10]
def exNb : ByteArray := ⟨#[115, 112, 101, 108, 108, 58, 119, 111, 114, 100, 115, 32, 113, 113, 10, 115, 112, 101, 108, 108, 58, 108, 105, 110, 101, 10]⟩
theorem exN_nums : strOfNums exN = exNb := by kernel_rfl
theorem exN_w : (rdL exNb 2).w = [⟨#[113, 113]⟩] := by kernel_rfl
theorem exN_n : nL exNb = 2 ∧ 0 < exNb.size ∧ bt exNb (exNb.size - 1) = 10 := ⟨by kernel_rfl, by decide, by decide⟩
theorem fld_QQ : fld ⟨#[81, 81]⟩ = ⟨#[113, 113]⟩ := by kernel_rfl
theorem ask_mem {t rest x : ByteArray} {p : Ps} (h : x ∈ p.w) : x ∈ (ask t rest p).w := by
  unfold ask
  split
  · exact h
  · split
    · exact h
    · split
      · exact h
      · split
        · exact h
        · split
          · exact List.mem_append_left _ h
          · exact h
theorem scF_mem {s x : ByteArray} : ∀ f k (p : Ps), x ∈ p.w → x ∈ (scF s f k p).w
  | 0, k, p, h => h
  | f + 1, k, p, h => by
    rw [scF]
    split
    · split
      · exact scF_mem f _ _ (ask_mem h)
      · exact scF_mem f _ _ h
    · exact h
theorem rdL_mem {s x : ByteArray} {j : Nat} (h : x ∈ (rdL s j).w) : ∀ d, x ∈ (rdL s (j + d)).w
  | 0 => h
  | d + 1 => by
    show x ∈ (stp (line s (j + d)) (S s (j + d)) (rdL s (j + d))).w
    unfold stp scn
    exact scF_mem _ _ _ (rdL_mem h d)
theorem nil_knows (B : ByteArray) : knB (rdA (exNb ++ B)).w (fld ⟨#[81, 81]⟩) = true := by
  obtain ⟨h1, h2, h3⟩ := exN_n
  have e1 : (rdL (exNb ++ B) 2).w = [⟨#[113, 113]⟩] := by
    rw [rdL_left exNb B h2 h3 2 (by rw [h1]; exact Nat.le_refl _)]
    exact exN_w
  have e2 : nL (exNb ++ B) = 2 + nL B := by rw [Lns.nL_join exNb B h2 h3, h1]
  have e3 : (⟨#[113, 113]⟩ : ByteArray) ∈ (rdA (exNb ++ B)).w := by
    unfold rdA
    rw [e2]
    exact rdL_mem (by rw [e1]; exact List.mem_singleton.2 rfl) _
  rw [fld_QQ]
  unfold knB
  rw [List.any_eq_true]
  exact ⟨_, e3, by simp⟩
/-- A row of one's own, of cells so many an entry, a cell of it written. -/
theorem own_cells {w : World} {base e size n g cap j : Nat} {xs : List Value} {u : Value} (h : w.ownsRow base e size (.slice (some ⟨g, 0, none⟩) n cap) n xs) (hj : j < n * size) : (w.setCell ⟨g, j, none⟩ u).ownsRow base e size (.slice (some ⟨g, 0, none⟩) n cap) n (xs.set j u) := by
  obtain ⟨hl, ⟨h1, h2⟩ | ⟨g', cap', cur, e1, hg, hh, hc, hm, hs, ht⟩⟩ := h
  · cases h1
  · injection e1 with e1 e2 e3
    injection e1 with e1
    injection e1 with e1
    subst e1 e3
    refine ⟨by rw [List.length_set]; exact hl, Or.inr ⟨g, cap, cur.setIfInBounds j u, rfl, hg, cells_set hh j u, hc, hm, by rw [Array.size_setIfInBounds]; exact hs, ?_⟩⟩
    rw [← ht, Array.toList_setIfInBounds, List.take_set]
/-- Nil rules. -/
def NilOk : Prop := (∀ (w : World) (a : Int), (-9223372036854775808 ≤ a ∧ a ≤ 9223372036854775807) → Calls Tryd.prog 14 #[.pointer none, .int .i64 a] w fun e w' => e = .returned (.bool false) ∧ Below w.heap.size w w') ∧
  (∀ (w : World) (t : ByteArray), t.size ≤ 5000 → Lns.Tabs w → Calls Tryd.prog 16 #[.pointer none, .string t] w fun e w' => e = .returned (.bool false) ∧ Below w.heap.size w w') ∧
  (∀ (w : World), Calls Tryd.prog 13 #[.pointer none] w fun e w' => ∃ a c, e = .returned (.slice a 0 c) ∧ Below w.heap.size w w')
end Go.Proofs.YteeeekpeokgaeaaDoor
