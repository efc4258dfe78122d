/- lists.Check; lists.trim, lists.bare. -/
import Derived.Test.YthdjadkdjljciaaGreatDoorgAs
namespace Go.Proofs.YthdjadkdjljciaaGreatDoor
set_option linter.unusedVariables false
open Go.RowKit Go.ChangeShapes

/-- Letters, an apostrophe between two of them allowed: whether the last was a letter. -/
def okw : Bool → List Int → Bool
  | b, [] => b
  | b, r :: l => bif lB r then okw true l else bif (r == 39) && b then okw false l else false
/-- Check's number. -/
def chkL (n : Nat) (L : List Int) : Int := if 64 < n then 3 else bif okw false L then 0 else 5
theorem rl_at (s : ByteArray) (k j : Nat) (h : j < k) : (rl s k)[j]? = some (rn s (pos s j)) := by
  simp [rl, List.getElem?_range h]
theorem rl_fit {s : ByteArray} {k : Nat} (he : Ends s k) (j : Nat) (h : j < k) : Fit (rn s (pos s j)) := by
  rcases rn_range s (pos s j) (he.2 j h) with e | e
  · rw [e]; unfold Fit; omega
  · exact ok_fit e
theorem drop_cons {α : Type} {L : List α} {j : Nat} {x : α} (h : L[j]? = some x) : L.drop j = x :: L.drop (j + 1) := by
  obtain ⟨hj, e⟩ := List.getElem?_eq_some_iff.1 h
  rw [List.drop_eq_getElem_cons hj, e]
set_option maxHeartbeats 1000000 in
theorem check_any (s : ByteArray) (k : Nat) (w : World) (hn : s.size ≤ 5000) (hT : Tabs w) (he : Ends s k) :
    Calls Tryz.prog 12 #[.string s] w fun e w' => e = .returned (.int .i64 (chkL s.size (rl s k))) ∧ Below w.heap.size w w' := by
  by_cases h64 : 64 < s.size
  · have hd : chkL s.size (rl s k) = 3 := by simp [chkL, h64]
    rw [hd]
    clear hd
    go_enter Tryz.func12, Tryz.ntmps12
    go_wp2
    go_ret
    exact ⟨rfl, Below.refl _ _⟩
  · have h64' : s.size ≤ 64 := by omega
    have c := runes_any s w hn hT
    have HE : Hid (Ends s k) := he
    have hz : Hid (chkL s.size (rl s k) = bif okw false (rl s k) then 0 else 5) := by show _ = _; simp [chkL, h64]
    rw [hz.out]
    clear he hT hz
    generalize hZ : (bif okw false (rl s k) then (0 : Int) else 5) = z
    have HZ : Hid ((bif okw false (rl s k) then (0 : Int) else 5) = z) := hZ
    clear hZ
    go_enter Tryz.func12, Tryz.ntmps12
    go_wp2_with fail
    refine c.mono ?_
    rintro e w1 ⟨k', v, rfl, he', hown, hb⟩
    obtain rfl := he'.one HE.out
    rw [rcells_rl] at hown
    obtain ⟨hR, hlen⟩ := rls_of hown
    have hk : k' ≤ 64 := Nat.le_trans he'.le h64'
    have HR : Hid (RLs w1 v (rl s k')) := hR
    have HB : Hid (Below w.heap.size w w1) := hb
    clear hR hlen hown c hb he'
    obtain ⟨L, hL⟩ : ∃ L, rl s k' = L := ⟨_, rfl⟩
    have HF : Hid (∀ (j : Nat) (x : Int), L[j]? = some x → Fit x) := by
      intro j x hx
      rw [← hL] at hx
      have hj : j < k' := by have := (List.getElem?_eq_some_iff.1 hx).1; simpa [rl] using this
      rw [rl_at s k' j hj] at hx
      obtain rfl := Option.some.inj hx
      exact rl_fit HE.out j hj
    have HLn : Hid (L.length = k') := by show _ = _; rw [← hL]; simp [rl]
    rw [hL] at HR HZ
    clear hL HE
    have hform : ∃ ad cc, v = .slice ad k' cc := by
      rcases HR.out with ⟨ad, cc, rfl, h0⟩ | ⟨b, off, cc, rfl, _⟩
      · exact ⟨ad, cc, by rw [← HLn.out, h0]⟩
      · exact ⟨_, cc, by rw [← HLn.out]⟩
    obtain ⟨ad, cc, rfl⟩ := hform
    go_wp2
    go_loopg [3, 12] k' (fun g lt i wr => ∃ (j : Nat) (b : Bool), j ≤ k' ∧ g = k' - j ∧ lt = .bool b ∧ i = .int .i64 j ∧ Hid (okw b (L.drop j) = okw false L) ∧ Hid (wr = w1))
    case atStart => exact ⟨0, false, Nat.zero_le _, rfl, rfl, rfl, rfl, rfl⟩
    case round =>
      obtain ⟨j, b, hj, hg, rfl, rfl, HO, HW⟩ := hrel
      obtain rfl := HW.out
      by_cases hlt : j < k'
      · obtain ⟨r, hr⟩ : ∃ r, L[j]? = some r := by
          cases h : L[j]? with
          | none => exact absurd (List.getElem?_eq_none_iff.1 h) (by rw [HLn.out]; omega)
          | some r => exact ⟨r, rfl⟩
        have hfit := HF.out j r hr
        have hdrop : Hid (L.drop j = r :: L.drop (j + 1)) := drop_cons hr
        rcases HR.out with ⟨ad', cc', e, h0⟩ | ⟨b1, off, cc', e, hcells⟩
        · rw [HLn.out] at h0; omega
        · injection e with e1 e2 e3
          subst e1 e3
          have hc : wr.cell? ⟨b1, off + j, none⟩ = some (.int .i32 r) := by
            have := hcells j (by rw [HLn.out]; exact hlt)
            simpa [List.getD, hr] using this
          have ct := letter_any r hfit wr
          have HO2 : Hid (okw b (r :: L.drop (j + 1)) = okw false L) := by show _ = _; rw [← hdrop.out]; exact HO.out
          clear hcells e2 hfit hdrop hr
          cases hl : lB r
          · rw [hl] at ct
            by_cases h39 : r = 39
            · subst h39
              cases b
              · have hz : z = 5 := by
                  have := HO2.out
                  simp only [okw, hl, cond_false, Bool.and_false] at this
                  rw [← HZ.out, ← this]; rfl
                subst hz
                clear hl
                go_wp2_with fail
                refine ct.mono ?_
                rintro e w2 ⟨rfl, hw2⟩
                subst w2
                go_wp2
                go_ret
                exact ⟨rfl, HB.out⟩
              · have HO3 : Hid (okw false (L.drop (j + 1)) = okw false L) := by
                  show _ = _
                  have := HO2.out
                  simpa [okw, hl] using this
                clear hl
                go_wp2_with fail
                refine ct.mono ?_
                rintro e w2 ⟨rfl, hw2⟩
                subst w2
                go_wp2
                go_roundg (k' - (j + 1))
                case measure => omega
                case rel => exact ⟨j + 1, false, by omega, rfl, rfl, by go_num, HO3, rfl⟩
            · have hr39 : (r == 39) = false := by simpa using h39
              have hz : z = 5 := by
                have := HO2.out
                simp only [okw, hl, hr39, cond_false, Bool.false_and] at this
                rw [← HZ.out, ← this]; rfl
              subst hz
              clear hl h39
              go_wp2_with fail
              refine ct.mono ?_
              rintro e w2 ⟨rfl, hw2⟩
              subst w2
              go_wp2
              go_ret
              exact ⟨rfl, HB.out⟩
          · rw [hl] at ct
            have HO3 : Hid (okw true (L.drop (j + 1)) = okw false L) := by
              show _ = _
              have := HO2.out
              simpa [okw, hl] using this
            clear hl
            go_wp2_with fail
            refine ct.mono ?_
            rintro e w2 ⟨rfl, hw2⟩
            subst w2
            go_wp2
            go_roundg (k' - (j + 1))
            case measure => omega
            case rel => exact ⟨j + 1, true, by omega, rfl, rfl, by go_num, HO3, rfl⟩
      · obtain rfl : j = k' := by omega
        have hend : b = okw false L := by
          have := HO.out
          rw [List.drop_eq_nil_of_le (by rw [HLn.out]; exact Nat.le_refl _)] at this
          simpa [okw] using this
        have hz : z = bif b then 0 else 5 := by rw [hend]; exact HZ.out.symm
        subst hz
        clear hend HO
        cases b
        · go_wp2
          go_ret
          exact ⟨rfl, HB.out⟩
        · go_wp2
          go_ret
          exact ⟨rfl, HB.out⟩
theorem below_drew {B : Nat} {a w : World} (h : Below B a w) (n : Nat) : Below B a (w.drewN n) := below_drewN h n
/-- A line's row. -/
def rowL (l : List UInt8) : List UInt8 := Lib.trimS (Lib.cut l [35]).1 [32, 9, 13, 10]
theorem trim_any (s : ByteArray) (w : World) (hs : s.size < 4294967281) (m : Int) (hm : w.cell? ⟨3, 0, none⟩ = some (.int .i64 m)) :
    Calls Tryz.prog 57 #[.string s] w fun e w' => e = .returned (.string ⟨(rowL s.data.toList).toArray⟩) ∧ Below w.heap.size w w' := by
  have c1 := Tryz.strings_Cut s ⟨#[35]⟩ m w hs hm
  have hcs : (Lib.cut s.data.toList [35]).1.length ≤ s.size := by
    unfold Lib.cut
    split
    · simp; omega
    · simp
  unfold rowL
  obtain ⟨A, hA⟩ : ∃ A, Lib.cut s.data.toList [35] = A := ⟨_, rfl⟩
  change Calls Tryz.prog 65 #[.string s, .string ⟨#[35]⟩] w (fun e w' => e = .returned (.tuple #[.string ⟨(Lib.cut s.data.toList [35]).1.toArray⟩, .string ⟨(Lib.cut s.data.toList [35]).2.1.toArray⟩, .bool (Lib.cut s.data.toList [35]).2.2]) ∧ ∃ n, w' = w.drewN n) at c1
  rw [hA] at c1 hcs ⊢
  clear hA
  obtain ⟨a1, a2, a3⟩ := A
  simp only at c1 hcs ⊢
  obtain ⟨z, hz⟩ : ∃ z, Lib.trimS a1 [32, 9, 13, 10] = z := ⟨_, rfl⟩
  rw [hz]
  have HZ : Hid (Lib.trimS a1 [32, 9, 13, 10] = z) := hz
  clear hz
  have hsz : (⟨a1.toArray⟩ : ByteArray).size ≤ 9223372036854775807 := by show a1.toArray.size ≤ _; simp; omega
  go_enter Tryz.func57, Tryz.ntmps57
  go_wp2_with fail
  refine c1.mono ?_
  rintro e w1 ⟨rfl, n, hw1⟩
  have c2 := Tryz.strings_Trim_laid ⟨a1.toArray⟩ ⟨#[32, 9, 13, 10]⟩ w1 hsz (by decide) (ascii_of_all (by decide))
  simp only [] at c2
  rw [HZ.out] at c2
  have HB : Hid (Below w.heap.size w w1) := by rw [hw1]; exact below_drewN (Below.refl _ _) n
  clear hw1 c1 hsz hcs
  go_wp2_with fail
  refine c2.mono ?_
  rintro e w2 ⟨rfl, hb2⟩
  have HB2 : Hid (Below w.heap.size w w2) := HB.out.trans (hb2.mono HB.out.size)
  clear hb2 c2
  go_wp2
  go_ret
  exact ⟨rfl, HB2.out⟩
/-- A word's, without what may stand about it. -/
def bareL (l : List UInt8) : List UInt8 := Lib.trimS l [32, 9]
theorem bare_any (s : ByteArray) (w : World) (hs : s.size < 4294967281) :
    Calls Tryz.prog 66 #[.string s] w fun e w' => e = .returned (.string ⟨(bareL s.data.toList).toArray⟩) ∧ Below w.heap.size w w' := by
  have c2 := Tryz.strings_Trim_laid s ⟨#[32, 9]⟩ w (by omega) (by decide) (ascii_of_all (by decide))
  unfold bareL
  change Calls Tryz.prog 91 #[.string s, .string ⟨#[32, 9]⟩] w (fun e w' => e = .returned (.string ⟨(Lib.trimS s.data.toList [32, 9]).toArray⟩) ∧ Below w.heap.size w w') at c2
  generalize Lib.trimS s.data.toList [32, 9] = z at c2 ⊢
  go_enter Tryz.func66, Tryz.ntmps66
  go_wp2_with fail
  refine c2.mono ?_
  rintro e w2 ⟨rfl, hb2⟩
  go_wp2
  go_ret
  exact ⟨rfl, hb2⟩
end Go.Proofs.YthdjadkdjljciaaGreatDoor
