/- PragmaWords: what a file says it knows. -/
import Derived.Test.YteeeekpeokgaeaaDooryWoP
import Derived.Test.YteeeekpeokgaeaaDoorPkYLnP2
namespace Go.Proofs.YteeeekpeokgaeaaDoor
set_option linter.unusedVariables false
open Go.RowKit Go.ChangeShapes Tns
open Lns (nL nL_le line S)
def sNl : ByteArray := ⟨#[10]⟩
def sLn : ByteArray := ⟨#[115, 112, 101, 108, 108, 58, 108, 105, 110, 101]⟩
theorem nl_one {X : ByteArray} (h0 : 0 < X.size) (hn : ∀ i, i + 1 < X.size → bt X i ≠ 10) : nL X = 1 ∧ line X 0 = X := by
  have e1 : Lns.starts X = [0] := by
    show Lns.lst X X.size = [0]
    rw [show X.size = 1 + (X.size - 1) by omega, Lns.lst_skip X 1 (X.size - 1) (fun j hj => by
      rw [Nat.add_comm, Lns.isSt_succ]
      exact decide_eq_false (hn j (by omega)))]
    rfl
  have e2 : nL X = 1 := by show (Lns.starts X).length = 1; rw [e1]; rfl
  refine ⟨e2, ?_⟩
  unfold line
  rw [Lns.S_zero, Lns.S_big (by rw [e2]; exact Nat.le_refl _), Lns.sub_all]
theorem scF_from {X : ByteArray} {m : Nat} (h : ∀ i, m ≤ i → i < X.size → bt X i ≠ 58) : ∀ f k p, m ≤ k → scF X f k p = p
  | 0, k, p, hk => rfl
  | f + 1, k, p, hk => by
    rw [scF]
    by_cases hk6 : k + 6 ≤ X.size
    · rw [if_pos hk6, if_neg (ext_no hk6 (h (k + 5) (by omega) (by omega)))]
      exact scF_from h f (k + 1) p (by omega)
    · rw [if_neg hk6]
theorem low_go {s : ByteArray} {k : Nat} (hk : k ≤ s.size) (he : k = s.size ∨ lowB (bt s k) = false) : ∀ d i, i + d = k → (∀ j, i ≤ j → j < k → lowB (bt s j) = true) → low s i = k
  | 0, i, hi, _ => by
    obtain rfl : i = k := by omega
    rcases he with h | h
    · exact low_end (by omega)
    · exact low_no h
  | d + 1, i, hi, h => by
    rw [low_on (by omega) (h i (Nat.le_refl _) (by omega))]
    exact low_go hk he d (i + 1) (by omega) (fun j h1 h2 => h j (by omega) h2)
theorem ask_wds (R : ByteArray) (p : Ps) : ask sWords R p = ⟨p.o, p.a, p.x, p.w ++ knw R⟩ := by
  unfold ask
  generalize knw R = K
  have h1 : ¬ sWords = sOff := by decide
  have h2 : ¬ sWords = sLine := by decide
  have h3 : ¬ sWords = sOn := by decide
  have h4 : ¬ sWords = sNext := by decide
  rw [if_neg h1, if_neg h2, if_neg h3, if_neg h4, if_pos rfl]
theorem words_scan {R : ByteArray} (h58 : ∀ i, i < R.size → bt R i ≠ 58) (h0 : 0 < R.size) (hlow : lowB (bt R 0) = false) : scn (sMark ++ (sWords ++ R)) 0 ⟨false, false, false, []⟩ = ⟨false, false, false, knw R⟩ := by
  have hz : (sMark ++ (sWords ++ R)).size = 11 + R.size := by
    rw [Lns.join_size, Lns.join_size]
    show 6 + (5 + R.size) = _
    omega
  have b1 : ∀ i, bt (sMark ++ (sWords ++ R)) (6 + i) = bt (sWords ++ R) i := fun i => bt_right sMark (sWords ++ R) i
  have b2 : ∀ i, bt (sMark ++ (sWords ++ R)) (11 + i) = bt R i := fun i => by
    rw [show 11 + i = 6 + (5 + i) by omega, b1]
    exact bt_right sWords R i
  have hl : low (sMark ++ (sWords ++ R)) 6 = 11 := by
    refine low_go (by omega) (Or.inr ?_) 5 6 rfl (fun j h1 h2 => ?_)
    · have e := b2 0
      rw [Nat.add_zero] at e
      rw [e]
      exact hlow
    · obtain ⟨i, rfl⟩ : ∃ i, j = 6 + i := ⟨j - 6, by omega⟩
      rw [b1, bt_left (show i < sWords.size by show i < 5; omega)]
      rcases (show i = 0 ∨ i = 1 ∨ i = 2 ∨ i = 3 ∨ i = 4 by omega) with rfl | rfl | rfl | rfl | rfl
      all_goals decide
  have hm : (sMark ++ (sWords ++ R)).extract 0 (0 + 6) = sMark := ext_left sMark (sWords ++ R)
  rw [scn_yes (by omega) hm, show 0 + 6 = 6 from rfl, hl]
  have e1 : (sMark ++ (sWords ++ R)).extract 6 11 = sWords := by
    rw [ext_sub]
    have e := Lns.sub_right sMark (sWords ++ R) 0 5
    rw [show sMark.size + 0 = 6 from rfl, show sMark.size + 5 = 11 from rfl] at e
    rw [e]
    have e2 := Lns.sub_left sWords R 0 5 (Nat.le_refl _)
    rw [e2]
    exact Lns.sub_all sWords
  have e3 : frm (sMark ++ (sWords ++ R)) 11 = R := by
    have e4 := frm_frm (sMark ++ (sWords ++ R)) 6 5
    have e5 := frm_right sMark (sWords ++ R)
    rw [show sMark.size = 6 from rfl] at e5
    have e6 := frm_right sWords R
    rw [show sWords.size = 5 from rfl] at e6
    rw [e5, e6] at e4
    exact e4.symm
  rw [e1, e3, ask_wds]
  generalize knw R = K
  unfold scn
  rw [scF_from (m := 11) (fun i h1 h2 => ?_) _ _ _ (Nat.le_refl _)]
  · show (⟨false, false, false, [] ++ K⟩ : Ps) = _
    rw [List.nil_append]
  · obtain ⟨j, rfl⟩ : ∃ j, i = 11 + j := ⟨i - 11, by omega⟩
    rw [b2]
    exact h58 j (by omega)
theorem line_scan (W : List ByteArray) : scn sLn 0 ⟨false, false, false, W⟩ = ⟨false, true, false, W⟩ := by kernel_rfl
theorem stp_eq {b : ByteArray} {a : Nat} {p : Rd} {q : Ps} (h : scn b 0 ⟨p.o, p.o || p.x, false, p.w⟩ = q) : stp b a p = ⟨q.o, q.x, bif q.a then p.r ++ [(a, b.size)] else p.r, q.w⟩ := by
  unfold stp
  rw [h]
/-- What a file knows that says so in its first line. -/
theorem words_rd {P : ByteArray} (h : ∀ i, i < P.size → bt P i ≠ 58 ∧ bt P i ≠ 10) (hlow : P.size = 0 ∨ lowB (bt P 0) = false) : rdA ((sMark ++ (sWords ++ (P ++ sNl))) ++ sLn) = ⟨false, false, [((sMark ++ (sWords ++ (P ++ sNl))).size, 10)], knw (P ++ sNl)⟩ := by
  obtain ⟨R, hR⟩ : ∃ R, P ++ sNl = R := ⟨_, rfl⟩
  have hRs : R.size = P.size + 1 := by rw [← hR, Lns.join_size]; rfl
  have hRl : bt R P.size = 10 := by
    have e := bt_right P sNl 0
    rw [Nat.add_zero, hR] at e
    rw [e]
    rfl
  have hRi : ∀ i, i < P.size → bt R i = bt P i := fun i hi => by rw [← hR]; exact bt_left hi
  have hR58 : ∀ i, i < R.size → bt R i ≠ 58 := fun i hi => by
    rcases Nat.lt_or_ge i P.size with h1 | h1
    · rw [hRi i h1]; exact (h i h1).1
    · obtain rfl : i = P.size := by omega
      rw [hRl]; decide
  have hR0 : lowB (bt R 0) = false := by
    rcases Nat.eq_zero_or_pos P.size with h1 | h1
    · rw [h1] at hRl
      rw [hRl]
      decide
    · rw [hRi 0 h1]
      rcases hlow with h2 | h2
      · omega
      · exact h2
  rw [hR]
  obtain ⟨X, hX⟩ : ∃ X, sMark ++ (sWords ++ R) = X := ⟨_, rfl⟩
  have hXs : X.size = 11 + R.size := by
    rw [← hX, Lns.join_size, Lns.join_size]
    show 6 + (5 + R.size) = _
    omega
  have hXb : ∀ i, bt X (11 + i) = bt R i := fun i => by
    rw [← hX, show 11 + i = 6 + (5 + i) by omega]
    have e1 := bt_right sMark (sWords ++ R) (5 + i)
    rw [show sMark.size = 6 from rfl] at e1
    rw [e1]
    exact bt_right sWords R i
  have hX0 : ∀ i, i < 11 → bt X i ≠ 10 := fun i hi => by
    rcases Nat.lt_or_ge i 6 with h1 | h1
    · rw [← hX, bt_left (show i < sMark.size from h1)]
      rcases (show i = 0 ∨ i = 1 ∨ i = 2 ∨ i = 3 ∨ i = 4 ∨ i = 5 by omega) with rfl | rfl | rfl | rfl | rfl | rfl
      all_goals decide
    · obtain ⟨j, rfl⟩ : ∃ j, i = 6 + j := ⟨i - 6, by omega⟩
      have e1 := bt_right sMark (sWords ++ R) j
      rw [show sMark.size = 6 from rfl, hX] at e1
      rw [e1, bt_left (show j < sWords.size by show j < 5; omega)]
      rcases (show j = 0 ∨ j = 1 ∨ j = 2 ∨ j = 3 ∨ j = 4 by omega) with rfl | rfl | rfl | rfl | rfl
      all_goals decide
  obtain ⟨n1, n2⟩ := nl_one (X := X) (by omega) (fun i hi => by
    rcases Nat.lt_or_ge i 11 with h1 | h1
    · exact hX0 i h1
    · obtain ⟨j, rfl⟩ : ∃ j, i = 11 + j := ⟨i - 11, by omega⟩
      rw [hXb, hRi j (by omega)]
      exact (h j (by omega)).2)
  have hXl : bt X (X.size - 1) = 10 := by
    rw [show X.size - 1 = 11 + P.size by omega, hXb]
    exact hRl
  rw [hX, rdA_join X sLn (by omega) hXl (by kernel_rfl) (by kernel_rfl), rdA_first X n1 n2]
  have e0 := words_scan hR58 (by omega) hR0
  rw [hX] at e0
  generalize knw R = K at e0 ⊢
  rw [stp_eq (b := X) (a := 0) (p := ⟨false, false, [], []⟩) e0]
  exact stp_eq (b := sLn) (a := X.size) (p := ⟨false, false, [], K⟩) (line_scan K)
end Go.Proofs.YteeeekpeokgaeaaDoor
/- PragmaWords: words one behind the other. -/
namespace Go.Proofs.YteeeekpeokgaeaaDoor
set_option linter.unusedVariables false
open Go.RowKit Go.ChangeShapes Tns
def SepOk (a : ByteArray) : Prop := 0 < a.size ∧ ∀ i, i < a.size → blB (bt a i) = true
def WrdOk (w : ByteArray) : Prop := 0 < w.size ∧ w.size ≤ 64 ∧ ∀ i, i < w.size → bt w i < 128 ∧ lB (bt w i : Int) = true ∧ gB (bt w i : Int) = false ∧ blB (bt w i) = false
/-- What ends a row of words. -/
def EndOk (e : ByteArray) : Prop := (e.size = 0 ∨ (bt e 0 < 128 ∧ wsB (bt e 0 : Int) = false)) ∧ ∀ g, knF (g + 1) e = []
theorem bl_ws {b : Nat} (h : blB b = true) : b < 128 ∧ wsB (b : Int) = false := by
  rcases (show b = 32 ∨ b = 9 ∨ b = 44 by unfold blB at h; simp at h; omega) with rfl | rfl | rfl
  all_goals exact ⟨by decide, by decide⟩
def catW : List (ByteArray × ByteArray) → ByteArray
  | [] => ⟨#[]⟩
  | p :: ps => p.1 ++ (p.2 ++ catW ps)
theorem cat_app : ∀ (ps : List (ByteArray × ByteArray)) (p : ByteArray × ByteArray), catW (ps ++ [p]) = catW ps ++ (p.1 ++ p.2)
  | [], p => by
    show p.1 ++ (p.2 ++ (⟨#[]⟩ : ByteArray)) = ⟨#[]⟩ ++ (p.1 ++ p.2)
    rw [show p.2 ++ (⟨#[]⟩ : ByteArray) = p.2 from ByteArray.append_empty, show (⟨#[]⟩ : ByteArray) ++ (p.1 ++ p.2) = p.1 ++ p.2 from ByteArray.empty_append]
  | q :: ps, p => by
    show q.1 ++ (q.2 ++ catW (ps ++ [p])) = q.1 ++ (q.2 ++ catW ps) ++ (p.1 ++ p.2)
    rw [cat_app ps p, ByteArray.append_assoc, ByteArray.append_assoc]
theorem cat_head (ps : List (ByteArray × ByteArray)) {e : ByteArray} (he : e.size = 0 ∨ (bt e 0 < 128 ∧ wsB (bt e 0 : Int) = false)) (hp : ∀ p ∈ ps, SepOk p.1 ∧ WrdOk p.2) : (catW ps ++ e).size = 0 ∨ (bt (catW ps ++ e) 0 < 128 ∧ wsB (bt (catW ps ++ e) 0 : Int) = false) := by
  cases ps with
  | nil =>
    show ((⟨#[]⟩ : ByteArray) ++ e).size = 0 ∨ _
    rw [show (catW [] ++ e) = e from ByteArray.empty_append]
    exact he
  | cons p ps =>
    obtain ⟨⟨h1, h2⟩, -⟩ := hp p (List.mem_cons_self ..)
    refine Or.inr ?_
    have e1 : bt (catW (p :: ps) ++ e) 0 = bt p.1 0 := by
      show bt (p.1 ++ (p.2 ++ catW ps) ++ e) 0 = _
      rw [ByteArray.append_assoc, bt_left h1]
    rw [e1]
    exact bl_ws (h2 0 h1)
theorem knF_cat : ∀ (ps : List (ByteArray × ByteArray)) (f : Nat) (e : ByteArray), ps.length < f → EndOk e → (∀ p ∈ ps, SepOk p.1 ∧ WrdOk p.2) → knF f (catW ps ++ e) = ps.map Prod.snd
  | [], f, e, hf, he, hp => by
    obtain ⟨g, rfl⟩ : ∃ g, f = g + 1 := ⟨f - 1, by simp at hf; omega⟩
    rw [show (catW [] ++ e) = e from ByteArray.empty_append]
    exact he.2 g
  | p :: ps, f, e, hf, he, hp => by
    obtain ⟨g, rfl⟩ : ∃ g, f = g + 1 := ⟨f - 1, by simp at hf; omega⟩
    have hp' : ∀ q ∈ ps, SepOk q.1 ∧ WrdOk q.2 := fun q hq => hp q (List.mem_cons_of_mem _ hq)
    obtain ⟨⟨s1, s2⟩, w1, w2, w3⟩ := hp p (List.mem_cons_self ..)
    have e1 : catW (p :: ps) ++ e = p.1 ++ (p.2 ++ (catW ps ++ e)) := by
      show p.1 ++ (p.2 ++ catW ps) ++ e = _
      rw [ByteArray.append_assoc, ByteArray.append_assoc]
    rw [e1, knF_word g s2 w3 w1 w2 (cat_head ps he.1 hp'), knF_cat ps g e (by simp at hf; omega) he hp']
    rfl
theorem end_nl : EndOk sNl := by
  refine ⟨Or.inr ⟨by decide, by decide⟩, fun g => ?_⟩
  have e := knF_stop g (a := ⟨#[]⟩) (r := sNl) (fun i hi => absurd hi (Nat.not_lt_zero _)) (Or.inr ⟨by decide, by decide, by decide⟩)
  rw [show (⟨#[]⟩ : ByteArray) ++ sNl = sNl from ByteArray.empty_append] at e
  exact e
/-- A sign that is no word's ends them, whatever is behind. -/
def sBad : ByteArray := ⟨#[32, 61, 39]⟩
theorem end_bad (r : ByteArray) : EndOk (sBad ++ r) := by
  have h0 : ∀ i, i < 3 → bt (sBad ++ r) i = bt sBad i := fun i hi => bt_left (show i < sBad.size from hi)
  refine ⟨Or.inr ⟨by rw [h0 0 (by decide)]; decide, by rw [h0 0 (by decide)]; decide⟩, fun g => ?_⟩
  have e1 : sBad ++ r = (⟨#[32]⟩ : ByteArray) ++ ((⟨#[61, 39]⟩ : ByteArray) ++ r) := by
    rw [← ByteArray.append_assoc]
    rfl
  rw [e1]
  refine knF_stop g (fun i hi => ?_) (Or.inr ?_)
  · obtain rfl : i = 0 := by
      have : i < 1 := hi
      omega
    decide
  · have e2 : bt ((⟨#[61, 39]⟩ : ByteArray) ++ r) 0 = 61 := by
      rw [bt_left (show 0 < (⟨#[61, 39]⟩ : ByteArray).size by decide)]
      decide
    rw [e2]
    exact ⟨by decide, by decide, by decide⟩
end Go.Proofs.YteeeekpeokgaeaaDoor
