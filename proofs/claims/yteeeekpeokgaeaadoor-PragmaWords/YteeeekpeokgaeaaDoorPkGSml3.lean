/- Letters and their cases: one rune. -/
import Derived.Test.YteeeekpeokgaeaaDooruSml
import Derived.WalkKit
import Derived.Below
import Derived.WalkSmall
import Derived.Deep.QuietTactic
import Derived.BigQuiet
import Derived.Test.YteeeekpeokgaeaaDoorPkVNx3
namespace Go.Proofs.YteeeekpeokgaeaaDoor
set_option linter.unusedVariables false
open Go.RowKit Go.ChangeShapes
theorem up_any (r : Int) (h : Fit r) (w : World) : Calls Tryd.prog 64 #[.int .i32 r] w fun e w' => e = .returned (.int .i32 (up r)) ∧ w' = w := by
  have c := small_any r h w
  cases hb : sB r <;> rw [hb] at c
  · rw [show up r = r by unfold up; rw [hb]; rfl]
    clear h hb
    go_enter Tryd.func64, Tryd.ntmps64
    go_wp2_with fail
    refine c.mono ?_
    rintro e w' ⟨rfl, rfl⟩
    go_wp2
    go_ret
    exact ⟨rfl, rfl⟩
  · rw [show up r = r - 32 by unfold up; rw [hb]; rfl]
    have hi := hb
    unfold sB at hi
    rw [gB_iff] at hi
    have hw : IntKind.i32.wrap (r - 32) = r - 32 := by simp [IntKind.wrap, IntKind.bits, IntKind.signed]; omega
    clear h hb hi
    go_enter Tryd.func64, Tryd.ntmps64
    go_wp2_with fail
    refine c.mono ?_
    rintro e w' ⟨rfl, rfl⟩
    go_wp2
    go_ret
    exact ⟨rfl, rfl⟩
theorem down_any (r : Int) (h : Fit r) (w : World) : Calls Tryd.prog 65 #[.int .i32 r] w fun e w' => e = .returned (.int .i32 (dn r)) ∧ w' = w := by
  have c := great_any r w
  cases hb : gB r <;> rw [hb] at c
  · rw [show dn r = r by unfold dn; rw [hb]; rfl]
    clear h hb
    go_enter Tryd.func65, Tryd.ntmps65
    go_wp2_with fail
    refine c.mono ?_
    rintro e w' ⟨rfl, rfl⟩
    go_wp2
    go_ret
    exact ⟨rfl, rfl⟩
  · rw [show dn r = r + 32 by unfold dn; rw [hb]; rfl]
    have hi := hb
    
    rw [gB_iff] at hi
    have hw : IntKind.i32.wrap (r + 32) = r + 32 := by simp [IntKind.wrap, IntKind.bits, IntKind.signed]; omega
    clear h hb hi
    go_enter Tryd.func65, Tryd.ntmps65
    go_wp2_with fail
    refine c.mono ?_
    rintro e w' ⟨rfl, rfl⟩
    go_wp2
    go_ret
    exact ⟨rfl, rfl⟩
theorem clos_any (r : Int) (w : World) : Calls Tryd.prog 63 #[.int .i32 r] w fun e w' => e = .returned (.bool (decide (r < 0))) ∧ w' = w := by
  go_enter Tryd.func63, Tryd.ntmps63
  go_wp2
  all_goals (go_ret; exact ⟨by simp_all, rfl⟩)
end Go.Proofs.YteeeekpeokgaeaaDoor
/- Letters; a sign in a case. -/
namespace Go.Proofs.YteeeekpeokgaeaaDoor
set_option linter.unusedVariables false
open Go.RowKit Go.ChangeShapes
/-- A sign in a case. -/
def wrt (c r : Int) (first : Bool) : Int := bif c == 3 then up r else bif c == 2 then (bif first then up r else dn r) else bif c == 1 then dn r else r
theorem fwr_upper (r : Int) (h : Fit r) (w : World) (b : Bool) : Calls Tryd.prog 50 #[.int .u8 3, .int .i32 r, .bool b] w fun e w' => e = .returned (.int .i32 (up r)) ∧ w' = w := by
  have c := up_any r h w
  generalize up r = y at c ⊢
  clear h
  go_enter Tryd.func50, Tryd.ntmps50
  go_wp2_with fail
  refine c.mono ?_
  rintro e w' ⟨rfl, rfl⟩
  go_wp2
  go_ret
  exact ⟨rfl, rfl⟩
theorem fwr_first (r : Int) (h : Fit r) (w : World) : Calls Tryd.prog 50 #[.int .u8 2, .int .i32 r, .bool true] w fun e w' => e = .returned (.int .i32 (up r)) ∧ w' = w := by
  have c := up_any r h w
  generalize up r = y at c ⊢
  clear h
  go_enter Tryd.func50, Tryd.ntmps50
  go_wp2_with fail
  refine c.mono ?_
  rintro e w' ⟨rfl, rfl⟩
  go_wp2
  go_ret
  exact ⟨rfl, rfl⟩
theorem fwr_rest (r : Int) (h : Fit r) (w : World) : Calls Tryd.prog 50 #[.int .u8 2, .int .i32 r, .bool false] w fun e w' => e = .returned (.int .i32 (dn r)) ∧ w' = w := by
  have c := down_any r h w
  generalize dn r = y at c ⊢
  clear h
  go_enter Tryd.func50, Tryd.ntmps50
  go_wp2_with fail
  refine c.mono ?_
  rintro e w' ⟨rfl, rfl⟩
  go_wp2
  go_ret
  exact ⟨rfl, rfl⟩
theorem fwr_lower (r : Int) (h : Fit r) (w : World) (b : Bool) : Calls Tryd.prog 50 #[.int .u8 1, .int .i32 r, .bool b] w fun e w' => e = .returned (.int .i32 (dn r)) ∧ w' = w := by
  have c := down_any r h w
  generalize dn r = y at c ⊢
  clear h
  go_enter Tryd.func50, Tryd.ntmps50
  go_wp2_with fail
  refine c.mono ?_
  rintro e w' ⟨rfl, rfl⟩
  go_wp2
  go_ret
  exact ⟨rfl, rfl⟩
theorem fwr_mixed (c : Int) (h3 : (c == 3) = false) (h2 : (c == 2) = false) (h1 : (c == 1) = false) (r : Int) (w : World) (b : Bool) : Calls Tryd.prog 50 #[.int .u8 c, .int .i32 r, .bool b] w fun e w' => e = .returned (.int .i32 r) ∧ w' = w := by
  go_enter Tryd.func50, Tryd.ntmps50
  go_wp2
  go_ret
  exact ⟨rfl, rfl⟩
theorem fwr_any (c r : Int) (b : Bool) (h : Fit r) (w : World) : Calls Tryd.prog 50 #[.int .u8 c, .int .i32 r, .bool b] w fun e w' => e = .returned (.int .i32 (wrt c r b)) ∧ w' = w := by
  unfold wrt
  cases h3 : (c == 3)
  · cases h2 : (c == 2)
    · cases h1 : (c == 1)
      · exact fwr_mixed c h3 h2 h1 r w b
      · obtain rfl : c = 1 := by simpa using h1
        exact fwr_lower r h w b
    · obtain rfl : c = 2 := by simpa using h2
      cases b
      · exact fwr_rest r h w
      · exact fwr_first r h w
  · obtain rfl : c = 3 := by simpa using h3
    exact fwr_upper r h w b
end Go.Proofs.YteeeekpeokgaeaaDoor
/- Texts as lists of signs, and their cases: no program in this text. -/
namespace Go.Proofs.YteeeekpeokgaeaaDoor
set_option linter.unusedVariables false
/-- A text's runes; its signs; runes as a text. -/
def rl (s : ByteArray) (k : Nat) : List Int := (List.range k).map fun j => rn s (pos s j)
def sg (s : ByteArray) (k : Nat) : List Int := (rl s k).filter fun x => !decide (x < 0)
def tx (L : List Int) : ByteArray := strOfNums (L.flatMap enc)
/-- All can be put. -/
def Ok (L : List Int) : Prop := ∀ r, r ∈ L → okR r = true
theorem put_rn (l : List Int) (hl : Ok l) (j : Nat) (h : j < l.length) : rn (tx l) (pos (tx l) j) = l[j] := by
  have hp := (put_all l hl j (by omega)).1
  have hok := hl l[j] (List.getElem_mem h)
  have hs := sign_in ((l.take j).flatMap enc) ((l.drop (j + 1)).flatMap enc) hok
  have he : l.flatMap enc = (l.take j).flatMap enc ++ enc l[j] ++ (l.drop (j + 1)).flatMap enc := by
    rw [List.append_assoc, ← List.flatMap_cons, ← List.flatMap_append, ← List.drop_eq_getElem_cons h, List.take_append_drop]
  rw [← he, ← hp] at hs
  exact hs.rn
theorem tx_ends (l : List Int) (hl : Ok l) : Ends (tx l) l.length := by
  have h := put_all l hl
  refine ⟨?_, fun j hj => ?_⟩
  · unfold tx; rw [(h _ (Nat.le_refl _)).1, List.take_length, strOfNums_size]
  · unfold tx; rw [(h j (by omega)).1, strOfNums_size]
    exact flat_lt _ hl j hj
theorem tx_rl (l : List Int) (hl : Ok l) : rl (tx l) l.length = l := by
  apply List.ext_getElem
  · simp [rl]
  · intro j h1 h2
    simp only [rl, List.getElem_map, List.getElem_range]
    exact put_rn l hl j h2
theorem ok_pos {r : Int} (h : okR r = true) : 0 ≤ r ∧ r ≤ 1114111 := by
  have := (okR_iff r).1 h; omega
theorem ok_fit {r : Int} (h : okR r = true) : Fit r := by
  have := ok_pos h; unfold Fit; omega
theorem tx_sg (l : List Int) (hl : Ok l) : sg (tx l) l.length = l := by
  unfold sg
  rw [tx_rl l hl, List.filter_eq_self]
  intro r hr
  have := (ok_pos (hl r hr)).1
  simp; omega
theorem sg_ok {s : ByteArray} {k : Nat} (h : Ends s k) : Ok (sg s k) := by
  intro r hr
  unfold sg rl at hr
  rw [List.mem_filter, List.mem_map] at hr
  obtain ⟨⟨j, hj, rfl⟩, h2⟩ := hr
  rw [List.mem_range] at hj
  rcases rn_range s (pos s j) (h.2 j hj) with e | e
  · rw [e] at h2; exact absurd h2 (by decide)
  · exact e
theorem sg_len (s : ByteArray) (k : Nat) : (sg s k).length ≤ k := by
  unfold sg
  refine Nat.le_trans (List.length_filter_le _ _) ?_
  simp [rl]
/-- What can't be put is left out. -/
theorem tx_oks (L : List Int) : tx (L.filter okR) = tx L := by
  unfold tx
  congr 1
  induction L with
  | nil => rfl
  | cons a t ih =>
    cases h : okR a
    · rw [List.filter_cons_of_neg (by simp [h]), ih, List.flatMap_cons, enc_bad a h, List.nil_append]
    · rw [List.filter_cons_of_pos h, List.flatMap_cons, List.flatMap_cons, ih]
theorem oks_Ok (L : List Int) : Ok (L.filter okR) := fun r hr => (List.mem_filter.1 hr).2
theorem tx_le (L : List Int) : (tx L).size ≤ 4 * L.length := by
  unfold tx
  rw [strOfNums_size]
  induction L with
  | nil => exact Nat.zero_le _
  | cons a t ih => rw [List.flatMap_cons, List.length_append, List.length_cons]; have := enc_le a; omega
theorem txt_list (L : List Int) : ∀ k, k ≤ L.length → txt (fun i => L.getD i 0) k = (L.take k).flatMap enc
  | 0, _ => rfl
  | k + 1, h => by
    rw [txt_succ, txt_list L k (by omega), ← List.take_append_getElem (show k < L.length by omega), List.flatMap_append]
    simp [List.getD, List.getElem?_eq_getElem (show k < L.length by omega)]
theorem txt_tx (L : List Int) : strOfNums (txt (fun i => L.getD i 0) L.length) = tx L := by
  rw [txt_list L _ (Nat.le_refl _), List.take_length]; rfl

/-! ### cases -/
theorem dn_ok {r : Int} (h : okR r = true) : okR (dn r) = true := by
  unfold dn
  cases hg : gB r
  · exact h
  · have := (gB_iff r).1 hg
    exact (okR_iff _).2 (by show _ ∧ _ ∧ _; simp only [cond_true]; omega)
theorem up_ok {r : Int} (h : okR r = true) : okR (up r) = true := by
  unfold up
  cases hg : sB r
  · exact h
  · unfold sB at hg
    have := (gB_iff _).1 hg
    exact (okR_iff _).2 (by show _ ∧ _ ∧ _; simp only [cond_true]; omega)
theorem wrt_ok {c r : Int} {b : Bool} (h : okR r = true) : okR (wrt c r b) = true := by
  unfold wrt
  cases (c == 3)
  · cases (c == 2)
    · cases (c == 1)
      · exact h
      · exact dn_ok h
    · cases b
      · exact dn_ok h
      · exact up_ok h
  · exact up_ok h
theorem gB_dn (r : Int) : gB (dn r) = false := by
  unfold dn
  cases hg : gB r
  · exact hg
  · have := (gB_iff r).1 hg
    rw [gB_no]; simp only [cond_true]; omega
theorem dn_id {r : Int} (h : gB r = false) : dn r = r := by unfold dn; rw [h]; rfl
theorem up_id {r : Int} (h : sB r = false) : up r = r := by unfold up; rw [h]; rfl
theorem dn_dn (r : Int) : dn (dn r) = dn r := dn_id (gB_dn r)
theorem not_both {r : Int} (h : gB r = true) : sB r = false := by
  have := (gB_iff r).1 h
  unfold sB; rw [gB_no]; omega
theorem dn_up (r : Int) : dn (up r) = dn r := by
  cases hs : sB r
  · rw [up_id hs]
  · have hg : gB r = false := by
      cases hg : gB r
      · rfl
      · rw [not_both hg] at hs; cases hs
    rw [dn_id hg]
    unfold up dn
    unfold sB at hs
    simp only [show sB r = gB (r - 32) from rfl, hs, cond_true]
    omega
theorem dn_wrt (c r : Int) (b : Bool) : dn (wrt c r b) = dn r := by
  unfold wrt
  cases (c == 3)
  · cases (c == 2)
    · cases (c == 1)
      · rfl
      · exact dn_dn r
    · cases b
      · exact dn_dn r
      · exact dn_up r
  · exact dn_up r
/-- A list of signs in a case. -/
def wrL (c : Int) (L : List Int) : List Int := L.mapIdx fun i r => wrt c r (i == 0)
theorem wrL_len (c : Int) (L : List Int) : (wrL c L).length = L.length := by simp [wrL]
theorem wrL_at (c : Int) (L : List Int) (i : Nat) (h : i < L.length) : (wrL c L)[i]'(by rw [wrL_len]; exact h) = wrt c L[i] (i == 0) := by simp [wrL]
theorem wrL_ok {c : Int} {L : List Int} (h : Ok L) : Ok (wrL c L) := by
  intro r hr
  obtain ⟨i, hi, rfl⟩ := List.getElem_of_mem hr
  rw [wrL_at c L i (by rw [wrL_len] at hi; exact hi)]
  exact wrt_ok (h _ (List.getElem_mem _))
theorem wrt_one (r : Int) (b : Bool) : wrt 1 r b = dn r := rfl
theorem wrL_twice (c : Int) (L : List Int) : wrL 1 (wrL c L) = wrL 1 L := by
  apply List.ext_getElem
  · simp [wrL_len]
  · intro i h1 h2
    have hi : i < L.length := by rw [wrL_len] at h2; exact h2
    rw [wrL_at 1 (wrL c L) i (by rw [wrL_len]; exact hi), wrL_at 1 L i hi, wrL_at c L i hi, wrt_one, wrt_one, dn_wrt]
/-- While it is being written. -/
def mid (c : Int) (L : List Int) (j : Nat) : List Int := (wrL c L).take j ++ L.drop j
theorem mid_zero (c : Int) (L : List Int) : mid c L 0 = L := by simp [mid]
theorem mid_all (c : Int) (L : List Int) : mid c L L.length = wrL c L := by
  simp only [mid, List.drop_length, List.append_nil]
  exact List.take_of_length_le (by rw [wrL_len]; exact Nat.le_refl _)
theorem mid_len (c : Int) (L : List Int) (j : Nat) (h : j ≤ L.length) : (mid c L j).length = L.length := by
  simp only [mid, List.length_append, List.length_take, List.length_drop, wrL_len]; omega
theorem mid_at (c : Int) (L : List Int) (j : Nat) (h : j < L.length) : (mid c L j)[j]? = some (L.getD j 0) := by
  unfold mid
  have hl : ((wrL c L).take j).length = j := by simp only [List.length_take, wrL_len]; omega
  rw [List.getElem?_append_right (by omega), hl, Nat.sub_self, List.getElem?_drop, Nat.add_zero]
  simp [List.getD, List.getElem?_eq_getElem h]
theorem mid_set (c : Int) (L : List Int) (j : Nat) (h : j < L.length) : (mid c L j).set j (wrt c (L.getD j 0) (j == 0)) = mid c L (j + 1) := by
  unfold mid
  have hl : ((wrL c L).take j).length = j := by simp only [List.length_take, wrL_len]; omega
  rw [List.set_append_right _ _ (by omega), hl, Nat.sub_self, List.drop_eq_getElem_cons h, List.set_cons_zero]
  rw [← List.take_append_getElem (show j < (wrL c L).length by rw [wrL_len]; exact h), wrL_at c L j h]
  simp [List.getD, List.getElem?_eq_getElem h]
/-- A word's case. -/
def ofL (L : List Int) : Int := bif L.countP gB == 0 then 1 else bif decide (1 < L.countP gB) && (L.countP sB == 0) then 3 else bif (L.countP gB == 1) && gB (L.getD 0 0) then 2 else 0
theorem of_lower (L : List Int) : ofL (wrL 1 L) = 1 := by
  unfold ofL
  rw [show (wrL 1 L).countP gB = 0 from ?_]
  · rfl
  · rw [List.countP_eq_zero]
    intro r hr
    obtain ⟨i, hi, rfl⟩ := List.getElem_of_mem hr
    rw [wrL_at 1 L i (by rw [wrL_len] at hi; exact hi), wrt_one, gB_dn]
    simp
theorem wrL_id {c : Int} {L : List Int} (h : ∀ i (hi : i < L.length), wrt c L[i] (i == 0) = L[i]) : wrL c L = L := by
  apply List.ext_getElem
  · simp [wrL_len]
  · intro i h1 h2
    rw [wrL_at c L i h2]; exact h i h2
/-- In the case that it has nothing changes. -/
theorem of_same (L : List Int) : wrL (ofL L) L = L := by
  unfold ofL
  cases h1 : (L.countP gB == 0)
  · cases h2 : (decide (1 < L.countP gB) && (L.countP sB == 0))
    · cases h3 : ((L.countP gB == 1) && gB (L.getD 0 0))
      · exact wrL_id fun i hi => rfl
      · rw [Bool.and_eq_true, beq_iff_eq] at h3
        obtain ⟨h3, h4⟩ := h3
        refine wrL_id fun i hi => ?_
        match L, h3, h4, i, hi with
        | a :: t, h3, h4, 0, _ =>
          have h4 : gB a = true := h4
          exact up_id (not_both h4)
        | a :: t, h3, h4, i + 1, hi =>
          have h4 : gB a = true := h4
          rw [List.countP_cons_of_pos h4] at h3
          have h5 : t.countP gB = 0 := by omega
          rw [List.countP_eq_zero] at h5
          have hi' : i < t.length := by simpa using hi
          have := h5 (t[i]'hi') (List.getElem_mem _)
          exact dn_id (by simpa using this)
    · rw [Bool.and_eq_true, beq_iff_eq] at h2
      have h5 := h2.2
      rw [List.countP_eq_zero] at h5
      refine wrL_id fun i hi => ?_
      exact up_id (by simpa using h5 L[i] (List.getElem_mem _))
  · rw [beq_iff_eq, List.countP_eq_zero] at h1
    refine wrL_id fun i hi => ?_
    exact dn_id (by simpa using h1 L[i] (List.getElem_mem _))
end Go.Proofs.YteeeekpeokgaeaaDoor
