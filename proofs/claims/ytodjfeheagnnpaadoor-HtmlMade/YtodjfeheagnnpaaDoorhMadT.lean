/- HtmlMade: its closure. -/
import Derived.Test.YtodjfeheagnnpaaDoorhMadP
import Derived.Test.YtodjfeheagnnpaaDoorhStb
namespace Go.Proofs.YtodjfeheagnnpaaDoor
set_option linter.unusedVariables false
open Go.RowKit Go.ChangeShapes
/-- A text of no more than nine bytes, none of them a quote. -/
def TxP (w : World) (ev : Ending) (w' : World) : Prop := ∃ v, ev = .returned (.string (strOfNums v)) ∧ v.length ≤ 9 ∧ Byt v ∧ (∀ x ∈ v, x ≠ 34) ∧ Below w.heap.size w w'
set_option maxRecDepth 100000 in
set_option maxHeartbeats 1000000 in
theorem text_any {w : World} {ad : Option Addr} {n cap : Nat} {c : Nat → Int} (hC : Ch c n) (h : BC w ad n c) (hn : n ≤ maxLen) :
    Calls Tryd.prog 9 #[.slice ad n cap] w (TxP w) := by
  have HB : Hid (BC w ad n c ∧ Ch c n) := ⟨h, hC⟩
  obtain ⟨Q, hQ⟩ : ∃ Q, TxP w = Q := ⟨_, rfl⟩
  have HQ : Hid (TxP w = Q) := hQ
  rw [hQ]
  have hml : maxLen ≤ 9223372036854775807 := by unfold maxLen; omega
  clear h hC hQ
  go_enter Tryd.func9, Tryd.ntmps9
  go_wp2
  go_loopg [3, 8] n (fun q bv iv wr => ∃ (i : Nat) (bd : Option Addr) (bn bc : Nat), i ≤ n ∧ q = n - i ∧ iv = .int .i64 i ∧ bv = .slice bd bn bc ∧ bn ≤ i ∧ bn ≤ 9 ∧ Hid (∃ l, l.length = bn ∧ OB wr w.heap.size (.slice bd bn bc) l ∧ ∀ y ∈ l, (0 ≤ y ∧ y < 256) ∧ y ≠ 34) ∧ Hid (Up w.heap.size w wr))
  case atStart => exact ⟨0, none, 0, 0, Nat.zero_le _, rfl, rfl, rfl, Nat.zero_le _, by omega, ⟨[], rfl, OB.nil _ _, fun y hy => by cases hy⟩, Up.refl w⟩
  case round =>
    obtain ⟨i, bd, bn, bc, hi, hq, rfl, rfl, hbn, hb9, HL, HU⟩ := hrel
    obtain ⟨l, hl1, hl2, hl3⟩ := HL.out
    have HO : Hid (OB wr w.heap.size (.slice bd bn bc) l ∧ l.length = bn ∧ ∀ y ∈ l, (0 ≤ y ∧ y < 256) ∧ y ≠ 34) := ⟨hl2, hl1, hl3⟩
    have hu := HU.out.2
    clear hl1 hl2 hl3 HL
    by_cases hlt : i < n
    · have z1 : (i : Int) < (n : Int) := by omega
      have z2 : (0 : Int) ≤ (i : Int) := by omega
      obtain ⟨b, off, rfl, hc⟩ := HB.out.1 i hlt
      have hcw := cell_stay hc HU.out.1
      have hci := HB.out.2.1 i hlt
      obtain ⟨X, hX⟩ : ∃ X : Nat, c i = (X : Int) := ⟨(c i).toNat, by omega⟩
      rw [hX] at hcw
      clear hc hX hci
      by_cases h9 : i < 9
      · have z3 : (i : Int) < 9 := by omega
        have hmd : Int.tmod (X : Int) 9 = ((X % 9 : Nat) : Int) := nat_mod X 9
        have hr9 := Nat.mod_lt X (show 9 > 0 by decide)
        generalize X % 9 = r at hmd hr9
        rcases (show r = 0 ∨ r = 1 ∨ r = 2 ∨ r = 3 ∨ r = 4 ∨ r = 5 ∨ r = 6 ∨ r = 7 ∨ r = 8 by omega) with rfl | rfl | rfl | rfl | rfl | rfl | rfl | rfl | rfl
        · have HX : Hid (∀ y ∈ l ++ [(32 : Int)], (0 ≤ y ∧ y < 256) ∧ y ≠ 34) := fun y hy => by
            rcases List.mem_append.1 hy with h1 | h1
            · exact HO.out.2.2 y h1
            · rw [List.mem_singleton] at h1
              subst h1
              decide
          go_wp2_with (at_builtin; refine app_ob rfl _ _ rfl w.heap.size _ l rfl (HO.out.1.stay (below_alloc wr _)) (some ⟨wr.heap.size, 0, none⟩) 1 1 (cL [32]) rfl (one_bc wr 32) (by rw [HO.out.2.1]; omega) (by simp; omega) ?_)
          intro v1 w1 ho1 hg1
          rw [cl_one] at ho1
          obtain ⟨bd1, bc1, rfl, -⟩ := ho1.form
          have HO1 : Hid (OB w1 w.heap.size (.slice bd1 (l ++ [32]).length bc1) (l ++ [32])) := ho1
          have HU1 : Hid (Up w.heap.size w w1) := (HU.out.alloc _).grown hg1 (own_base HO.out.1)
          have hn1 : (l ++ [(32 : Int)]).length = bn + 1 := by rw [List.length_append, HO.out.2.1]; rfl
          have HN1 : Hid ((l ++ [(32 : Int)]).length = bn + 1) := hn1
          rw [hn1] at HO1 ⊢
          clear ho1 hg1 hn1
          go_wp2
          go_roundg (n - (i + 1))
          case measure => omega
          case rel => exact ⟨i + 1, bd1, bn + 1, bc1, by omega, rfl, by go_num, rfl, by omega, by omega, ⟨l ++ [32], HN1.out, HO1.out, HX.out⟩, HU1⟩
        · have HX : Hid (∀ y ∈ l ++ [(97 : Int)], (0 ≤ y ∧ y < 256) ∧ y ≠ 34) := fun y hy => by
            rcases List.mem_append.1 hy with h1 | h1
            · exact HO.out.2.2 y h1
            · rw [List.mem_singleton] at h1
              subst h1
              decide
          go_wp2_with (at_builtin; refine app_ob rfl _ _ rfl w.heap.size _ l rfl (HO.out.1.stay (below_alloc wr _)) (some ⟨wr.heap.size, 0, none⟩) 1 1 (cL [97]) rfl (one_bc wr 97) (by rw [HO.out.2.1]; omega) (by simp; omega) ?_)
          intro v1 w1 ho1 hg1
          rw [cl_one] at ho1
          obtain ⟨bd1, bc1, rfl, -⟩ := ho1.form
          have HO1 : Hid (OB w1 w.heap.size (.slice bd1 (l ++ [97]).length bc1) (l ++ [97])) := ho1
          have HU1 : Hid (Up w.heap.size w w1) := (HU.out.alloc _).grown hg1 (own_base HO.out.1)
          have hn1 : (l ++ [(97 : Int)]).length = bn + 1 := by rw [List.length_append, HO.out.2.1]; rfl
          have HN1 : Hid ((l ++ [(97 : Int)]).length = bn + 1) := hn1
          rw [hn1] at HO1 ⊢
          clear ho1 hg1 hn1
          go_wp2
          go_roundg (n - (i + 1))
          case measure => omega
          case rel => exact ⟨i + 1, bd1, bn + 1, bc1, by omega, rfl, by go_num, rfl, by omega, by omega, ⟨l ++ [97], HN1.out, HO1.out, HX.out⟩, HU1⟩
        · have HX : Hid (∀ y ∈ l ++ [(98 : Int)], (0 ≤ y ∧ y < 256) ∧ y ≠ 34) := fun y hy => by
            rcases List.mem_append.1 hy with h1 | h1
            · exact HO.out.2.2 y h1
            · rw [List.mem_singleton] at h1
              subst h1
              decide
          go_wp2_with (at_builtin; refine app_ob rfl _ _ rfl w.heap.size _ l rfl (HO.out.1.stay (below_alloc wr _)) (some ⟨wr.heap.size, 0, none⟩) 1 1 (cL [98]) rfl (one_bc wr 98) (by rw [HO.out.2.1]; omega) (by simp; omega) ?_)
          intro v1 w1 ho1 hg1
          rw [cl_one] at ho1
          obtain ⟨bd1, bc1, rfl, -⟩ := ho1.form
          have HO1 : Hid (OB w1 w.heap.size (.slice bd1 (l ++ [98]).length bc1) (l ++ [98])) := ho1
          have HU1 : Hid (Up w.heap.size w w1) := (HU.out.alloc _).grown hg1 (own_base HO.out.1)
          have hn1 : (l ++ [(98 : Int)]).length = bn + 1 := by rw [List.length_append, HO.out.2.1]; rfl
          have HN1 : Hid ((l ++ [(98 : Int)]).length = bn + 1) := hn1
          rw [hn1] at HO1 ⊢
          clear ho1 hg1 hn1
          go_wp2
          go_roundg (n - (i + 1))
          case measure => omega
          case rel => exact ⟨i + 1, bd1, bn + 1, bc1, by omega, rfl, by go_num, rfl, by omega, by omega, ⟨l ++ [98], HN1.out, HO1.out, HX.out⟩, HU1⟩
        · have HX : Hid (∀ y ∈ l ++ [(99 : Int)], (0 ≤ y ∧ y < 256) ∧ y ≠ 34) := fun y hy => by
            rcases List.mem_append.1 hy with h1 | h1
            · exact HO.out.2.2 y h1
            · rw [List.mem_singleton] at h1
              subst h1
              decide
          go_wp2_with (at_builtin; refine app_ob rfl _ _ rfl w.heap.size _ l rfl (HO.out.1.stay (below_alloc wr _)) (some ⟨wr.heap.size, 0, none⟩) 1 1 (cL [99]) rfl (one_bc wr 99) (by rw [HO.out.2.1]; omega) (by simp; omega) ?_)
          intro v1 w1 ho1 hg1
          rw [cl_one] at ho1
          obtain ⟨bd1, bc1, rfl, -⟩ := ho1.form
          have HO1 : Hid (OB w1 w.heap.size (.slice bd1 (l ++ [99]).length bc1) (l ++ [99])) := ho1
          have HU1 : Hid (Up w.heap.size w w1) := (HU.out.alloc _).grown hg1 (own_base HO.out.1)
          have hn1 : (l ++ [(99 : Int)]).length = bn + 1 := by rw [List.length_append, HO.out.2.1]; rfl
          have HN1 : Hid ((l ++ [(99 : Int)]).length = bn + 1) := hn1
          rw [hn1] at HO1 ⊢
          clear ho1 hg1 hn1
          go_wp2
          go_roundg (n - (i + 1))
          case measure => omega
          case rel => exact ⟨i + 1, bd1, bn + 1, bc1, by omega, rfl, by go_num, rfl, by omega, by omega, ⟨l ++ [99], HN1.out, HO1.out, HX.out⟩, HU1⟩
        · have HX : Hid (∀ y ∈ l ++ [(62 : Int)], (0 ≤ y ∧ y < 256) ∧ y ≠ 34) := fun y hy => by
            rcases List.mem_append.1 hy with h1 | h1
            · exact HO.out.2.2 y h1
            · rw [List.mem_singleton] at h1
              subst h1
              decide
          go_wp2_with (at_builtin; refine app_ob rfl _ _ rfl w.heap.size _ l rfl (HO.out.1.stay (below_alloc wr _)) (some ⟨wr.heap.size, 0, none⟩) 1 1 (cL [62]) rfl (one_bc wr 62) (by rw [HO.out.2.1]; omega) (by simp; omega) ?_)
          intro v1 w1 ho1 hg1
          rw [cl_one] at ho1
          obtain ⟨bd1, bc1, rfl, -⟩ := ho1.form
          have HO1 : Hid (OB w1 w.heap.size (.slice bd1 (l ++ [62]).length bc1) (l ++ [62])) := ho1
          have HU1 : Hid (Up w.heap.size w w1) := (HU.out.alloc _).grown hg1 (own_base HO.out.1)
          have hn1 : (l ++ [(62 : Int)]).length = bn + 1 := by rw [List.length_append, HO.out.2.1]; rfl
          have HN1 : Hid ((l ++ [(62 : Int)]).length = bn + 1) := hn1
          rw [hn1] at HO1 ⊢
          clear ho1 hg1 hn1
          go_wp2
          go_roundg (n - (i + 1))
          case measure => omega
          case rel => exact ⟨i + 1, bd1, bn + 1, bc1, by omega, rfl, by go_num, rfl, by omega, by omega, ⟨l ++ [62], HN1.out, HO1.out, HX.out⟩, HU1⟩
        · have HX : Hid (∀ y ∈ l ++ [(61 : Int)], (0 ≤ y ∧ y < 256) ∧ y ≠ 34) := fun y hy => by
            rcases List.mem_append.1 hy with h1 | h1
            · exact HO.out.2.2 y h1
            · rw [List.mem_singleton] at h1
              subst h1
              decide
          go_wp2_with (at_builtin; refine app_ob rfl _ _ rfl w.heap.size _ l rfl (HO.out.1.stay (below_alloc wr _)) (some ⟨wr.heap.size, 0, none⟩) 1 1 (cL [61]) rfl (one_bc wr 61) (by rw [HO.out.2.1]; omega) (by simp; omega) ?_)
          intro v1 w1 ho1 hg1
          rw [cl_one] at ho1
          obtain ⟨bd1, bc1, rfl, -⟩ := ho1.form
          have HO1 : Hid (OB w1 w.heap.size (.slice bd1 (l ++ [61]).length bc1) (l ++ [61])) := ho1
          have HU1 : Hid (Up w.heap.size w w1) := (HU.out.alloc _).grown hg1 (own_base HO.out.1)
          have hn1 : (l ++ [(61 : Int)]).length = bn + 1 := by rw [List.length_append, HO.out.2.1]; rfl
          have HN1 : Hid ((l ++ [(61 : Int)]).length = bn + 1) := hn1
          rw [hn1] at HO1 ⊢
          clear ho1 hg1 hn1
          go_wp2
          go_roundg (n - (i + 1))
          case measure => omega
          case rel => exact ⟨i + 1, bd1, bn + 1, bc1, by omega, rfl, by go_num, rfl, by omega, by omega, ⟨l ++ [61], HN1.out, HO1.out, HX.out⟩, HU1⟩
        · have HX : Hid (∀ y ∈ l ++ [(39 : Int)], (0 ≤ y ∧ y < 256) ∧ y ≠ 34) := fun y hy => by
            rcases List.mem_append.1 hy with h1 | h1
            · exact HO.out.2.2 y h1
            · rw [List.mem_singleton] at h1
              subst h1
              decide
          go_wp2_with (at_builtin; refine app_ob rfl _ _ rfl w.heap.size _ l rfl (HO.out.1.stay (below_alloc wr _)) (some ⟨wr.heap.size, 0, none⟩) 1 1 (cL [39]) rfl (one_bc wr 39) (by rw [HO.out.2.1]; omega) (by simp; omega) ?_)
          intro v1 w1 ho1 hg1
          rw [cl_one] at ho1
          obtain ⟨bd1, bc1, rfl, -⟩ := ho1.form
          have HO1 : Hid (OB w1 w.heap.size (.slice bd1 (l ++ [39]).length bc1) (l ++ [39])) := ho1
          have HU1 : Hid (Up w.heap.size w w1) := (HU.out.alloc _).grown hg1 (own_base HO.out.1)
          have hn1 : (l ++ [(39 : Int)]).length = bn + 1 := by rw [List.length_append, HO.out.2.1]; rfl
          have HN1 : Hid ((l ++ [(39 : Int)]).length = bn + 1) := hn1
          rw [hn1] at HO1 ⊢
          clear ho1 hg1 hn1
          go_wp2
          go_roundg (n - (i + 1))
          case measure => omega
          case rel => exact ⟨i + 1, bd1, bn + 1, bc1, by omega, rfl, by go_num, rfl, by omega, by omega, ⟨l ++ [39], HN1.out, HO1.out, HX.out⟩, HU1⟩
        · have HX : Hid (∀ y ∈ l ++ [(47 : Int)], (0 ≤ y ∧ y < 256) ∧ y ≠ 34) := fun y hy => by
            rcases List.mem_append.1 hy with h1 | h1
            · exact HO.out.2.2 y h1
            · rw [List.mem_singleton] at h1
              subst h1
              decide
          go_wp2_with (at_builtin; refine app_ob rfl _ _ rfl w.heap.size _ l rfl (HO.out.1.stay (below_alloc wr _)) (some ⟨wr.heap.size, 0, none⟩) 1 1 (cL [47]) rfl (one_bc wr 47) (by rw [HO.out.2.1]; omega) (by simp; omega) ?_)
          intro v1 w1 ho1 hg1
          rw [cl_one] at ho1
          obtain ⟨bd1, bc1, rfl, -⟩ := ho1.form
          have HO1 : Hid (OB w1 w.heap.size (.slice bd1 (l ++ [47]).length bc1) (l ++ [47])) := ho1
          have HU1 : Hid (Up w.heap.size w w1) := (HU.out.alloc _).grown hg1 (own_base HO.out.1)
          have hn1 : (l ++ [(47 : Int)]).length = bn + 1 := by rw [List.length_append, HO.out.2.1]; rfl
          have HN1 : Hid ((l ++ [(47 : Int)]).length = bn + 1) := hn1
          rw [hn1] at HO1 ⊢
          clear ho1 hg1 hn1
          go_wp2
          go_roundg (n - (i + 1))
          case measure => omega
          case rel => exact ⟨i + 1, bd1, bn + 1, bc1, by omega, rfl, by go_num, rfl, by omega, by omega, ⟨l ++ [47], HN1.out, HO1.out, HX.out⟩, HU1⟩
        · have HX : Hid (∀ y ∈ l ++ [(38 : Int)], (0 ≤ y ∧ y < 256) ∧ y ≠ 34) := fun y hy => by
            rcases List.mem_append.1 hy with h1 | h1
            · exact HO.out.2.2 y h1
            · rw [List.mem_singleton] at h1
              subst h1
              decide
          go_wp2_with (at_builtin; refine app_ob rfl _ _ rfl w.heap.size _ l rfl (HO.out.1.stay (below_alloc wr _)) (some ⟨wr.heap.size, 0, none⟩) 1 1 (cL [38]) rfl (one_bc wr 38) (by rw [HO.out.2.1]; omega) (by simp; omega) ?_)
          intro v1 w1 ho1 hg1
          rw [cl_one] at ho1
          obtain ⟨bd1, bc1, rfl, -⟩ := ho1.form
          have HO1 : Hid (OB w1 w.heap.size (.slice bd1 (l ++ [38]).length bc1) (l ++ [38])) := ho1
          have HU1 : Hid (Up w.heap.size w w1) := (HU.out.alloc _).grown hg1 (own_base HO.out.1)
          have hn1 : (l ++ [(38 : Int)]).length = bn + 1 := by rw [List.length_append, HO.out.2.1]; rfl
          have HN1 : Hid ((l ++ [(38 : Int)]).length = bn + 1) := hn1
          rw [hn1] at HO1 ⊢
          clear ho1 hg1 hn1
          go_wp2
          go_roundg (n - (i + 1))
          case measure => omega
          case rel => exact ⟨i + 1, bd1, bn + 1, bc1, by omega, rfl, by go_num, rfl, by omega, by omega, ⟨l ++ [38], HN1.out, HO1.out, HX.out⟩, HU1⟩
      · have z3 : ¬ (i : Int) < 9 := by omega
        go_wp2
        go_roundg (n - (i + 1))
        case measure => omega
        case rel => exact ⟨i + 1, bd, bn, bc, by omega, rfl, by go_num, rfl, by omega, hb9, ⟨l, HO.out.2.1, HO.out.1, HO.out.2.2⟩, HU⟩
    · obtain rfl : i = n := by omega
      have z1 : ¬ (i : Int) < (i : Int) := by omega
      have hbc : BC wr bd bn (cL l) := by
        have h2 : OB wr w.heap.size (.slice bd l.length bc) l := by rw [HO.out.2.1]; exact HO.out.1
        have := h2.bc
        rw [HO.out.2.1] at this
        exact this
      have hs := str_bc (cap := bc) hbc
      rw [show cl (cL l) bn = l by rw [← HO.out.2.1]; exact cl_cL l] at hs
      clear hbc
      go_wp2
      rw [← HQ.out]
      exact ⟨l, rfl, by rw [HO.out.2.1]; exact hb9, fun y hy => (HO.out.2.2 y hy).1, fun y hy => (HO.out.2.2 y hy).2, HU.out.1⟩
end Go.Proofs.YtodjfeheagnnpaaDoor
