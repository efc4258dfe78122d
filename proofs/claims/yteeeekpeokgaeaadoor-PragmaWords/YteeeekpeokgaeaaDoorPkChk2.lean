/- lists.Check; lists.trim, lists.bare. -/
import Derived.Test.YteeeekpeokgaeaaDoorPkGCnt3
namespace Go.Proofs.YteeeekpeokgaeaaDoor.Tns
set_option linter.unusedVariables false
open Go.RowKit Go.ChangeShapes

/-- Letters, an apostrophe between two of them allowed: whether the last was a letter. -/
def okw : Bool → List Int → Bool
  | b, [] => b
  | b, r :: l => bif lB r then okw true l else bif (r == 39) && b then okw false l else false
/-- Check's number. -/
def chkL (n : Nat) (L : List Int) : Int := if 64 < n then 3 else bif okw false L then 0 else 5
theorem rl_at (s : ByteArray) (k j : Nat) (h : j < k) : (rl s k)[j]? = some (rn s (pos s j)) := by
  simp [rl, List.getElem?_range h]
theorem rl_fit {s : ByteArray} {k : Nat} (he : Ends s k) (j : Nat) (h : j < k) : Fit (rn s (pos s j)) := by
  rcases rn_range s (pos s j) (he.2 j h) with e | e
  · rw [e]; unfold Fit; omega
  · exact ok_fit e
theorem drop_cons {α : Type} {L : List α} {j : Nat} {x : α} (h : L[j]? = some x) : L.drop j = x :: L.drop (j + 1) := by
  obtain ⟨hj, e⟩ := List.getElem?_eq_some_iff.1 h
  rw [List.drop_eq_getElem_cons hj, e]
set_option maxHeartbeats 1000000 in
theorem check_any (s : ByteArray) (k : Nat) (w : World) (hn : s.size ≤ 5000) (hT : Tabs w) (he : Ends s k) :
    Calls Tryd.prog 46 #[.string s] w fun e w' => e = .returned (.int .i64 (chkL s.size (rl s k))) ∧ Below w.heap.size w w' := by
  by_cases h64 : 64 < s.size
  · have hd : chkL s.size (rl s k) = 3 := by simp [chkL, h64]
    rw [hd]
    clear hd
    go_enter Tryd.func46, Tryd.ntmps46
    go_wp2
    go_ret
    exact ⟨rfl, Below.refl _ _⟩
  · have h64' : s.size ≤ 64 := by omega
    have c := runes_any s w (by omega) hT
    have HE : Hid (Ends s k) := he
    have hz : Hid (chkL s.size (rl s k) = bif okw false (rl s k) then 0 else 5) := by show _ = _; simp [chkL, h64]
    rw [hz.out]
    clear he hT hz
    generalize hZ : (bif okw false (rl s k) then (0 : Int) else 5) = z
    have HZ : Hid ((bif okw false (rl s k) then (0 : Int) else 5) = z) := hZ
    clear hZ
    go_enter Tryd.func46, Tryd.ntmps46
    go_wp2_with fail
    refine c.mono ?_
    rintro e w1 ⟨k', v, rfl, he', hown, hb⟩
    obtain rfl := he'.one HE.out
    rw [rcells_rl] at hown
    obtain ⟨hR, hlen⟩ := rls_of hown
    have hk : k' ≤ 64 := Nat.le_trans he'.le h64'
    have HR : Hid (RLs w1 v (rl s k')) := hR
    have HB : Hid (Below w.heap.size w w1) := hb
    clear hR hlen hown c hb he'
    obtain ⟨L, hL⟩ : ∃ L, rl s k' = L := ⟨_, rfl⟩
    have HF : Hid (∀ (j : Nat) (x : Int), L[j]? = some x → Fit x) := by
      intro j x hx
      rw [← hL] at hx
      have hj : j < k' := by have := (List.getElem?_eq_some_iff.1 hx).1; simpa [rl] using this
      rw [rl_at s k' j hj] at hx
      obtain rfl := Option.some.inj hx
      exact rl_fit HE.out j hj
    have HLn : Hid (L.length = k') := by show _ = _; rw [← hL]; simp [rl]
    rw [hL] at HR HZ
    clear hL HE
    have hform : ∃ ad cc, v = .slice ad k' cc := by
      rcases HR.out with ⟨ad, cc, rfl, h0⟩ | ⟨b, off, cc, rfl, _⟩
      · exact ⟨ad, cc, by rw [← HLn.out, h0]⟩
      · exact ⟨_, cc, by rw [← HLn.out]⟩
    obtain ⟨ad, cc, rfl⟩ := hform
    go_wp2
    go_loopg [3, 12] k' (fun g lt i wr => ∃ (j : Nat) (b : Bool), j ≤ k' ∧ g = k' - j ∧ lt = .bool b ∧ i = .int .i64 j ∧ Hid (okw b (L.drop j) = okw false L) ∧ Hid (wr = w1))
    case atStart => exact ⟨0, false, Nat.zero_le _, rfl, rfl, rfl, rfl, rfl⟩
    case round =>
      obtain ⟨j, b, hj, hg, rfl, rfl, HO, HW⟩ := hrel
      obtain rfl := HW.out
      by_cases hlt : j < k'
      · obtain ⟨r, hr⟩ : ∃ r, L[j]? = some r := by
          cases h : L[j]? with
          | none => exact absurd (List.getElem?_eq_none_iff.1 h) (by rw [HLn.out]; omega)
          | some r => exact ⟨r, rfl⟩
        have hfit := HF.out j r hr
        have hdrop : Hid (L.drop j = r :: L.drop (j + 1)) := drop_cons hr
        rcases HR.out with ⟨ad', cc', e, h0⟩ | ⟨b1, off, cc', e, hcells⟩
        · rw [HLn.out] at h0; omega
        · injection e with e1 e2 e3
          subst e1 e3
          have hc : wr.cell? ⟨b1, off + j, none⟩ = some (.int .i32 r) := by
            have := hcells j (by rw [HLn.out]; exact hlt)
            simpa [List.getD, hr] using this
          have ct := letter_any r hfit wr
          have HO2 : Hid (okw b (r :: L.drop (j + 1)) = okw false L) := by show _ = _; rw [← hdrop.out]; exact HO.out
          clear hcells e2 hfit hdrop hr
          cases hl : lB r
          · rw [hl] at ct
            by_cases h39 : r = 39
            · subst h39
              cases b
              · have hz : z = 5 := by
                  have := HO2.out
                  simp only [okw, hl, cond_false, Bool.and_false] at this
                  rw [← HZ.out, ← this]; rfl
                subst hz
                clear hl
                go_wp2_with fail
                refine ct.mono ?_
                rintro e w2 ⟨rfl, hw2⟩
                subst w2
                go_wp2
                go_ret
                exact ⟨rfl, HB.out⟩
              · have HO3 : Hid (okw false (L.drop (j + 1)) = okw false L) := by
                  show _ = _
                  have := HO2.out
                  simpa [okw, hl] using this
                clear hl
                go_wp2_with fail
                refine ct.mono ?_
                rintro e w2 ⟨rfl, hw2⟩
                subst w2
                go_wp2
                go_roundg (k' - (j + 1))
                case measure => omega
                case rel => exact ⟨j + 1, false, by omega, rfl, rfl, by go_num, HO3, rfl⟩
            · have hr39 : (r == 39) = false := by simpa using h39
              have hz : z = 5 := by
                have := HO2.out
                simp only [okw, hl, hr39, cond_false, Bool.false_and] at this
                rw [← HZ.out, ← this]; rfl
              subst hz
              clear hl h39
              go_wp2_with fail
              refine ct.mono ?_
              rintro e w2 ⟨rfl, hw2⟩
              subst w2
              go_wp2
              go_ret
              exact ⟨rfl, HB.out⟩
          · rw [hl] at ct
            have HO3 : Hid (okw true (L.drop (j + 1)) = okw false L) := by
              show _ = _
              have := HO2.out
              simpa [okw, hl] using this
            clear hl
            go_wp2_with fail
            refine ct.mono ?_
            rintro e w2 ⟨rfl, hw2⟩
            subst w2
            go_wp2
            go_roundg (k' - (j + 1))
            case measure => omega
            case rel => exact ⟨j + 1, true, by omega, rfl, rfl, by go_num, HO3, rfl⟩
      · obtain rfl : j = k' := by omega
        have hend : b = okw false L := by
          have := HO.out
          rw [List.drop_eq_nil_of_le (by rw [HLn.out]; exact Nat.le_refl _)] at this
          simpa [okw] using this
        have hz : z = bif b then 0 else 5 := by rw [hend]; exact HZ.out.symm
        subst hz
        clear hend HO
        cases b
        · go_wp2
          go_ret
          exact ⟨rfl, HB.out⟩
        · go_wp2
          go_ret
          exact ⟨rfl, HB.out⟩
theorem below_drew {B : Nat} {a w : World} (h : Below B a w) (n : Nat) : Below B a (w.drewN n) := below_drewN h n
end Go.Proofs.YteeeekpeokgaeaaDoor.Tns
/- How many signs; Check, Fold. -/
namespace Go.Proofs.YteeeekpeokgaeaaDoor.Tns
set_option linter.unusedVariables false
open Go.RowKit Go.ChangeShapes
theorem ends_go (s : ByteArray) : ∀ d k, s.size - pos s k ≤ d → (∀ j, j < k → pos s j < s.size) → ∃ K, Ends s K
  | 0, k, hd, h => ⟨k, ⟨by have := pos_le s k h; omega, h⟩⟩
  | d + 1, k, hd, h => by
    by_cases h1 : pos s k < s.size
    · have h2 := (wd_pos s (pos s k) h1).1
      refine ends_go s d (k + 1) (by simp only [pos]; omega) (fun j hj => ?_)
      rcases Nat.lt_succ_iff_lt_or_eq.1 hj with h3 | h3
      · exact h j h3
      · rw [h3]; exact h1
    · exact ⟨k, ⟨by have := pos_le s k h; omega, h⟩⟩
theorem ends_ex (s : ByteArray) : ∃ K, Ends s K := ends_go s s.size 0 (by omega) (fun j hj => absurd hj (Nat.not_lt_zero j))
/-- How many signs. -/
def kG (s : ByteArray) : Nat → Nat → Nat
  | 0, k => k
  | f + 1, k => if pos s k = s.size then k else kG s f (k + 1)
theorem kG_ends {s : ByteArray} {K : Nat} (hK : Ends s K) : ∀ f k, k ≤ K → K ≤ k + f → kG s f k = K
  | 0, k, h1, h2 => by show k = K; omega
  | f + 1, k, h1, h2 => by
    show (if pos s k = s.size then k else kG s f (k + 1)) = K
    by_cases h : pos s k = s.size
    · rw [if_pos h]
      rcases Nat.lt_or_ge k K with hl | hg
      · exact absurd h (Nat.ne_of_lt (hK.2 k hl))
      · omega
    · rw [if_neg h]
      have hne : k ≠ K := fun e => h (by rw [e]; exact hK.1)
      exact kG_ends hK f (k + 1) (by omega) (by omega)
def kS (s : ByteArray) : Nat := kG s s.size 0
theorem kS_ends (s : ByteArray) : Ends s (kS s) := by
  obtain ⟨K, hK⟩ := ends_ex s
  have hl := hK.le
  have h := kG_ends hK s.size 0 (Nat.zero_le _) (by omega)
  show Ends s (kG s s.size 0)
  rw [h]
  exact hK
theorem kS_is {s : ByteArray} {k : Nat} (h : Ends s k) : kS s = k := (kS_ends s).one h
/-- Check's number of a text; a text in small letters. -/
def chk (s : ByteArray) : Int := chkL s.size (rl s (kS s))
def fld (s : ByteArray) : ByteArray := tx (wrL 1 (sg s (kS s)))
theorem check_at (s : ByteArray) (w : World) (hn : s.size ≤ 5000) (hT : Tabs w) :
    Calls Tryd.prog 46 #[.string s] w fun e w' => e = .returned (.int .i64 (chk s)) ∧ Below w.heap.size w w' := check_any s (kS s) w hn hT (kS_ends s)
theorem fold_at (s : ByteArray) (w : World) (hn : s.size ≤ 5000) (hT : Tabs w) :
    Calls Tryd.prog 25 #[.string s] w fun e w' => e = .returned (.string (fld s)) ∧ Below w.heap.size w w' := fold_any s (kS s) w hn hT (kS_ends s)
theorem flat_len (l : List Int) : (l.flatMap enc).length ≤ 4 * l.length := by
  induction l with
  | nil => simp
  | cons a l ih => rw [List.flatMap_cons, List.length_append, List.length_cons]; have := enc_le a; omega
theorem fld_size (s : ByteArray) : (fld s).size ≤ 4 * s.size := by
  unfold fld tx
  rw [strOfNums_size]
  refine Nat.le_trans (flat_len _) ?_
  rw [wrL_len]
  have h1 : (sg s (kS s)).length ≤ kS s := by
    unfold sg
    refine Nat.le_trans (List.length_filter_le _ _) ?_
    simp [rl]
  have h2 := (kS_ends s).le
  omega
end Go.Proofs.YteeeekpeokgaeaaDoor.Tns
