/- The reference's Fold. -/
import Derived.Test.YteeeekpeokgaeaaDoorPkVRnx3
import Derived.Test.YteeeekpeokgaeaaDoorvTx
namespace Go.Proofs.YteeeekpeokgaeaaDoor.Tns
set_option linter.unusedVariables false
open Go.RowKit Go.ChangeShapes
theorem wrL_map (L : List Int) : wrL 1 L = L.map dn := by
  apply List.ext_getElem
  · simp [wrL]
  · intro i h1 h2
    simp [wrL, wrt_one]
theorem dn_neg {x : Int} (h : x < 0) : enc (dn x) = [] := by
  have hg : gB x = false := (gB_no x).2 (by omega)
  rw [dn_id hg]
  exact enc_bad x (by unfold okR; simp; omega)
theorem flat_signs : ∀ L : List Int, ((L.filter fun x => !decide (x < 0)).map dn).flatMap enc = (L.map dn).flatMap enc
  | [] => rfl
  | x :: L => by
    have ih := flat_signs L
    by_cases h : x < 0
    · rw [List.filter_cons_of_neg (by simpa using h), ih, List.map_cons, List.flatMap_cons, dn_neg h, List.nil_append]
    · rw [List.filter_cons_of_pos (by simpa using h), List.map_cons, List.flatMap_cons, ih, List.map_cons, List.flatMap_cons]
theorem fld_tx (s : ByteArray) : fld s = tx (wrL 1 (rl s (kS s))) := by
  unfold fld tx sg
  rw [wrL_map, wrL_map, flat_signs]
theorem dn_great {x : Int} (h : gB x = true) : dn x = x + 32 := by unfold dn; rw [h]; rfl
theorem rtextL_any (L : List Int) (v : Value) (w : World) (hk : L.length ≤ 5000) (hR : RLs w v L) :
    Calls Tryd.prog 40 #[v] w fun e w' => e = .returned (.string (tx L)) ∧ Below w.heap.size w w' := by
  rw [← txt_tx]
  exact rtext_any _ _ v w hk hR
set_option maxHeartbeats 1000000 in
theorem rfold_any (s : ByteArray) (w : World) (hn : s.size ≤ 5000) :
    Calls Tryd.prog 26 #[.string s] w fun e w' => e = .returned (.string (fld s)) ∧ Below w.heap.size w w' := by
  have cs : Calls Tryd.prog 38 #[.string s] w fun e w' => ∃ v, e = .returned v ∧ w'.ownsRow w.heap.size 21 1 v (rl s (kS s)).length ((rl s (kS s)).map e32) ∧ Below w.heap.size w w' :=
    (rrunes_any s w (by omega)).mono fun e w' ⟨k', v, h1, h2, h3, h4⟩ => by
      obtain rfl := kS_is h2
      refine ⟨v, h1, ?_, h4⟩
      rw [← rcells_rl, show (rl s (kS s)).length = kS s by simp [rl]]
      exact h3
  have hk := (kS_ends s).le
  have hsl : (rl s (kS s)).length ≤ s.size := by rw [show (rl s (kS s)).length = kS s by simp [rl]]; exact hk
  rw [fld_tx]
  generalize rl s (kS s) = L at cs hsl ⊢
  have HZ : Hid (∀ j, j < L.length → gB (L.getD j 0) = true → ((mid 1 L j).map e32).set j (.int .i32 (L.getD j 0 + 32)) = (mid 1 L (j + 1)).map e32) := fun j h hg => by
    rw [← mid_set 1 L j h, List.map_set, wrt_one, dn_great hg]
  have HN : Hid (∀ j, j < L.length → gB (L.getD j 0) = false → (mid 1 L j).map e32 = (mid 1 L (j + 1)).map e32) := fun j h hg => by
    rw [← mid_set 1 L j h, wrt_one, dn_id hg]
    congr 1
    apply List.ext_getElem?
    intro i
    rw [List.getElem?_set]
    split
    · rename_i e
      subst e
      split
      · exact mid_at 1 L j h
      · rename_i hh
        exact absurd (by rw [mid_len 1 L j (by omega)]; exact h) hh
    · rfl
  have HA : Hid (∀ j, j < L.length → ((mid 1 L j).map e32)[j]? = some (.int .i32 (L.getD j 0))) := fun j h => by
    rw [List.getElem?_map, mid_at 1 L j h]; rfl
  have HE : Hid ((mid 1 L L.length).map e32 = (wrL 1 L).map e32 ∧ (wrL 1 L).length = L.length) := ⟨by rw [mid_all], wrL_len 1 L⟩
  rw [← mid_zero 1 L, mid_len 1 L 0 (Nat.zero_le _)] at cs
  generalize hM : (fun j => (mid 1 L j).map e32) = M
  have hM' : ∀ j, (mid 1 L j).map e32 = M j := fun j => by rw [← hM]
  simp only [hM'] at cs HZ HN HA HE
  clear hM hM'
  generalize hR : (fun j => L.getD j 0) = R
  have hR' : ∀ j, L.getD j 0 = R j := fun j => by rw [← hR]
  simp only [hR'] at HZ HN HA
  clear hR hR'
  generalize wrL 1 L = X at HE ⊢
  generalize L.length = N at hsl cs HZ HN HA HE ⊢
  go_enter Tryd.func26, Tryd.ntmps26
  go_wp2_with fail
  refine cs.mono ?_
  rintro e w1 ⟨v, rfl, hown, hb⟩
  have HU1 : Hid (Up w.heap.size w w1) := ⟨hb, hb.size⟩
  clear cs hb
  obtain ⟨hl, ⟨rfl, rfl⟩ | ⟨g, cap, cur, rfl, hg, hh, hnc, hcm, h3⟩⟩ := (⟨hown.1, hown.2⟩ : _ ∧ _)
  · have ct := rtextL_any X (.slice none 0 0) w1 (by rw [HE.out.2]; exact Nat.zero_le _) (Or.inl ⟨none, 0, rfl, HE.out.2⟩)
    clear hown hl HZ HA HE HN
    go_wp2
    go_loopg [4] (0) (fun m i wr => i = .int .i64 0 ∧ wr = w1)
    case atStart => exact ⟨rfl, rfl⟩
    case round =>
      obtain ⟨rfl, rfl⟩ := hrel
      go_wp2_with fail
      refine ct.mono ?_
      rintro e w2 ⟨rfl, hb2⟩
      have HU2 : Hid (Up w.heap.size w w2) := HU1.out.stay hb2
      clear hb2
      go_wp2
      go_ret
      exact ⟨rfl, HU2.out.1⟩
  · have HO : Hid (w1.ownsRow w.heap.size 21 1 (.slice (some ⟨g, 0, none⟩) N cap) N (M 0)) := hown
    clear hown hl hh hcm h3
    go_wp2
    go_loopg [4] N (fun m i wr => ∃ j : Nat, j ≤ N ∧ m = N - j ∧ i = .int .i64 j ∧ Hid (wr.ownsRow w.heap.size 21 1 (.slice (some ⟨g, 0, none⟩) N cap) N (M j)) ∧ Hid (Up w.heap.size w wr))
    case atStart => exact ⟨0, Nat.zero_le _, rfl, rfl, HO, HU1⟩
    case round =>
      obtain ⟨j, hj, hm, rfl, HO1, HU⟩ := hrel
      by_cases hlt : j < N
      · have z0 : (0 : Int) ≤ (j : Int) := by omega
        have z1 : (j : Int) < (N : Int) := by omega
        have hc : wr.cell? ⟨g, j, none⟩ = some (.int .i32 (R j)) := by rw [HO1.out.cellAt j (by omega)]; exact HA.out j hlt
        have hfz : wr.frozen? ⟨g, j, none⟩ = false := HO1.out.frozenAt j
        have cg := rgreat_any (R j) wr
        cases hq : gB (R j)
        · rw [hq] at cg
          have HS1 : Hid (wr.ownsRow w.heap.size 21 1 (.slice (some ⟨g, 0, none⟩) N cap) N (M (j + 1))) := by
            show wr.ownsRow _ _ _ _ _ _
            rw [← HN.out j hlt hq]; exact HO1.out
          clear hq HO1
          generalize R j = x at cg hc
          go_wp2_with fail
          refine cg.mono ?_
          rintro e w' ⟨rfl, hw⟩
          subst w'
          clear cg
          go_wp2
          go_roundg (N - (j + 1))
          case measure => omega
          case rel => exact ⟨j + 1, by omega, rfl, by go_num, HS1, HU⟩
        · rw [hq] at cg
          have hgr := (gB_iff (R j)).1 hq
          have hwr : IntKind.i32.wrap (R j + 32) = R j + 32 := Go.IntWalk.i32_in _ (by omega)
          have HS := HO1.out.stored j (.int .i32 (R j + 32))
          rw [HZ.out j hlt hq] at HS
          have HS1 : Hid _ := HS.1
          have HS2 : Hid (Up w.heap.size w (wr.setCell ⟨g, j, none⟩ (.int .i32 (R j + 32)))) := HU.out.grown HS.2 (fun k hk => by cases hk; exact hg)
          clear HS hq hgr
          generalize R j = x at cg hc hwr HS1 HS2
          obtain ⟨y, hy⟩ : ∃ y, x + 32 = y := ⟨_, rfl⟩
          rw [hy] at hwr HS1 HS2
          go_wp2_with fail
          refine cg.mono ?_
          rintro e w' ⟨rfl, hw⟩
          subst w'
          clear cg
          go_wp2
          go_roundg (N - (j + 1))
          case measure => omega
          case rel => exact ⟨j + 1, by omega, rfl, by go_num, HS1, HS2⟩
      · obtain rfl : j = N := by omega
        have hown := HO1.out
        rw [HE.out.1] at hown
        have ct := rtextL_any X (.slice (some ⟨g, 0, none⟩) j cap) wr (by rw [HE.out.2]; omega) (rls_of hown).1
        clear hown
        go_wp2_with fail
        refine ct.mono ?_
        rintro e w2 ⟨rfl, hb2⟩
        have HU2 : Hid (Up w.heap.size w w2) := HU.out.stay hb2
        clear hb2
        go_wp2
        go_ret
        exact ⟨rfl, HU2.out.1⟩
end Go.Proofs.YteeeekpeokgaeaaDoor.Tns
