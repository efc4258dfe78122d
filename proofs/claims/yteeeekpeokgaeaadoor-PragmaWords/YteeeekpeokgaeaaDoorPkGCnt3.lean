/- fold.count. -/
import Derived.Test.YteeeekpeokgaeaaDoorPkVNx3
import Derived.Test.YteeeekpeokgaeaaDoorPkGSml3
import Derived.Test.YteeeekpeokgaeaaDoorvTx
import Derived.Test.YteeeekpeokgaeaaDoorPkUShelfD2
import Derived.Test.YteeeekpeokgaeaaDoorPkVKitB2
import Derived.Lib.OwnBridge
namespace Go.Proofs.YteeeekpeokgaeaaDoor.Tns
set_option linter.unusedVariables false
open Go.RowKit Go.ChangeShapes
/-- How many of the first ones. -/
theorem cnt_succ (p : Int → Bool) (L : List Int) (j : Nat) (h : j < L.length) : (L.take (j + 1)).countP p = (L.take j).countP p + (bif p (L.getD j 0) then 1 else 0) := by
  rw [← List.take_append_getElem h, List.countP_append]
  simp [List.getD, List.getElem?_eq_getElem h, List.countP_cons, List.countP_nil]
theorem cnt_le (p : Int → Bool) (L : List Int) (j : Nat) : (L.take j).countP p ≤ j := by
  refine Nat.le_trans List.countP_le_length ?_
  simp; omega
/-- Runes lie there as a list. -/
def RLs (w : World) (v : Value) (L : List Int) : Prop := RSl w v L.length fun i => L.getD i 0
end Go.Proofs.YteeeekpeokgaeaaDoor.Tns
/- slices.DeleteFunc where bytes that are no signs are struck; fold.signs. -/
namespace Go.Proofs.YteeeekpeokgaeaaDoor.Tns
set_option linter.unusedVariables false
open Go.RowKit Go.ChangeShapes Go.Shelf Go.Lib Go.Sort
abbrev e32 : Int → Value := Value.int .i32
/-- Those that are signs. -/
abbrev sgn (l : List Int) : List Int := l.filter fun x => !decide (x < 0)
theorem idx_zero (ad : Option Addr) (c : Nat) (w : World) :
    Calls Tryd.prog 79 #[.slice ad 0 c, .func (.func 63) #[] #[]] w fun e w' => e = .returned (.int .i64 (-1)) ∧ w' = w := by
  go_enter Tryd.func79, Tryd.ntmps79
  go_wp2
  go_loopg [8] (0) (fun m i wr => i = .int .i64 0 ∧ wr = w)
  case atStart => exact ⟨rfl, rfl⟩
  case round =>
    obtain ⟨rfl, rfl⟩ := hrel
    go_wp2_with fail
    go_ret
    exact ⟨rfl, rfl⟩
theorem del_zero (w : World) :
    Calls Tryd.prog 62 #[.slice none 0 0, .func (.func 63) #[] #[]] w fun e w' => e = .returned (.slice none 0 0) ∧ w' = w := by
  go_enter Tryd.func62, Tryd.ntmps62
  go_wp2_with fail
  refine (idx_zero none 0 w).mono ?_
  rintro e w' ⟨rfl, rfl⟩
  go_wp2
  go_ret
  exact ⟨rfl, rfl⟩
theorem clos_gives (x : Int) (W : World) : FnGives Tryd.prog 63 #[] #[.int .i32 x] (.bool (decide (x < 0))) W :=
  (clos_any x W).mono fun e w' ⟨h1, h2⟩ => ⟨h1, 0, h2⟩
theorem del_any (zs : List Int) (base n : Nat) (v : Value) (w : World) (hn : n ≤ 5000) (h : w.ownsRow base 21 1 v n (zs.map e32)) :
    Calls Tryd.prog 62 #[v, .func (.func 63) #[] #[]] w fun e w' => ∃ v', e = .returned v' ∧ w'.ownsRow base 21 1 v' (sgn zs).length ((sgn zs).map e32) ∧ ∀ B w0, Below B w0 w → B ≤ base → Below B w0 w' := by
  by_cases hv : v = .slice none 0 0
  · subst hv
    have hz : zs = [] := by
      obtain ⟨h1, ⟨_, h2⟩ | ⟨g, cap, cur, h3, _⟩⟩ := h
      · subst h2
        exact List.eq_nil_of_length_eq_zero (by simpa using h1)
      · cases h3
    subst hz
    refine (del_zero w).mono ?_
    rintro e w' ⟨rfl, rfl⟩
    exact ⟨_, rfl, World.ownsRow_nil _ _ _ _, fun B w0 hb _ => hb⟩
  · obtain ⟨g, cap, rfl, hg, hgl, hnc, hcm, hzn, hH⟩ := holds_of_ownsRow h hv
    have eg : ∀ args w, (callFunc 63 args).run Tryd.prog w = .ok (.enter 63 args) w := enters_of Tryd.func63 (by kernel_rfl) rfl
    have hsz : zs.toArray.size = n := by simpa using hzn
    have hcon := AnyE.slices_DeleteFunc Tryd.delF e32 (fun _ => rfl) (fun x => decide (x < 0)) 63 #[] eg 0 Tryd.zeroValue21 g 0 cap zs.toArray w
      (fun W x _ => clos_gives x W) (fun _ _ _ x _ => clos_gives x _) hH (by omega) (by omega)
    rw [hsz] at hcon
    refine Calls.mono (show Calls Tryd.prog 62 _ _ _ from hcon) ?_
    rintro e w' ⟨rfl, q, rfl⟩
    have hl : (sgn zs).length ≤ n := by rw [← hzn]; exact List.length_filter_le _ _
    refine ⟨_, rfl, ?_, fun B w0 hb hB => below_putRow hb (by omega)⟩
    have ho := ownsRow_putRow (q := q) (ys := sgn zs ++ List.replicate (n - (sgn zs).length) 0) h (by simp only [List.length_append, List.length_replicate]; omega) hl
    rw [List.take_left'  rfl] at ho
    exact ho
theorem rcells_rl (s : ByteArray) (k : Nat) : rcells s k = (rl s k).map e32 := by simp [rcells, rl]
theorem signs_any (s : ByteArray) (w : World) (hn : s.size ≤ 5000) (hT : Tabs w) :
    Calls Tryd.prog 49 #[.string s] w fun e w' => ∃ k v, e = .returned v ∧ Ends s k ∧ w'.ownsRow w.heap.size 21 1 v (sg s k).length ((sg s k).map e32) ∧ Below w.heap.size w w' := by
  have c := runes_any s w (by omega) hT
  clear hT
  go_enter Tryd.func49, Tryd.ntmps49
  go_wp2_with fail
  refine c.mono ?_
  rintro e w1 ⟨k, v, rfl, he, hown, hb⟩
  rw [rcells_rl] at hown
  have hk := he.le
  have HE : Hid (Ends s k) := he
  have c2 := del_any (rl s k) w.heap.size k v w1 (by omega) hown
  have HB : Hid (Below w.heap.size w w1) := hb
  clear c hb hown he
  go_wp2_with fail
  refine c2.mono ?_
  rintro e w2 ⟨v', rfl, hown2, hb2⟩
  have HO : Hid (w2.ownsRow w.heap.size 21 1 v' (sg s k).length ((sg s k).map e32)) := hown2
  have HB2 : Hid (Below w.heap.size w w2) := hb2 _ _ HB.out (Nat.le_refl _)
  clear c2 hown2 hb2
  go_wp2
  go_ret
  exact ⟨k, _, rfl, HE.out, HO.out, HB2.out⟩
end Go.Proofs.YteeeekpeokgaeaaDoor.Tns
/- fold.As, fold.Fold. -/
namespace Go.Proofs.YteeeekpeokgaeaaDoor.Tns
set_option linter.unusedVariables false
open Go.RowKit Go.ChangeShapes
theorem rls_of {w : World} {base n : Nat} {v : Value} {L : List Int} (h : w.ownsRow base 21 1 v n (L.map e32)) : RLs w v L ∧ n = L.length := by
  have h0 := h
  obtain ⟨hl, ⟨rfl, rfl⟩ | ⟨g, cap, cur, rfl, hg, hh, h3⟩⟩ := h
  · have hz : L.length = 0 := by simpa using hl
    exact ⟨Or.inl ⟨none, 0, rfl, hz⟩, hz.symm⟩
  · have hn : L.length = n := by simpa using hl
    subst hn
    refine ⟨Or.inr ⟨g, 0, cap, rfl, fun i hi => ?_⟩, rfl⟩
    rw [Nat.zero_add, h0.cellAt i (by omega)]
    simp [List.getD, List.getElem?_eq_getElem hi]
theorem textL_any (L : List Int) (v : Value) (w : World) (hk : L.length ≤ 5000) (hR : RLs w v L) :
    Calls Tryd.prog 51 #[v] w fun e w' => e = .returned (.string (tx L)) ∧ Below w.heap.size w w' := by
  rw [← txt_tx]
  exact text_any _ _ v w hk hR
theorem zero_eq (j : Nat) : ((j : Int) == 0) = (j == 0) := by cases j <;> rfl
set_option maxHeartbeats 1000000 in
theorem as_any (c : Int) (s : ByteArray) (k : Nat) (w : World) (hn : s.size ≤ 5000) (hT : Tabs w) (he : Ends s k) :
    Calls Tryd.prog 37 #[.int .u8 c, .string s] w fun e w' => e = .returned (.string (tx (wrL c (sg s k)))) ∧ Below w.heap.size w w' := by
  have cs : Calls Tryd.prog 49 #[.string s] w fun e w' => ∃ v, e = .returned v ∧ w'.ownsRow w.heap.size 21 1 v (sg s k).length ((sg s k).map e32) ∧ Below w.heap.size w w' :=
    (signs_any s w hn hT).mono fun e w' ⟨k', v, h1, h2, h3, h4⟩ => by
      obtain rfl : k' = k := h2.one he
      exact ⟨v, h1, h3, h4⟩
  have hk := he.le
  have hsl := sg_len s k
  have HF : Hid (Ok (sg s k)) := sg_ok he
  clear hT he
  generalize sg s k = L at cs hsl HF ⊢
  have HZ : Hid (∀ j, j < L.length → ((mid c L j).map e32).set j (.int .i32 (wrt c (L.getD j 0) ((j : Int) == 0))) = (mid c L (j + 1)).map e32) := fun j h => by
    rw [zero_eq, ← mid_set c L j h, List.map_set]
  have HA : Hid (∀ j, j < L.length → ((mid c L j).map e32)[j]? = some (.int .i32 (L.getD j 0))) := fun j h => by
    rw [List.getElem?_map, mid_at c L j h]; rfl
  have HF2 : Hid (∀ j, j < L.length → Fit (L.getD j 0)) := fun j h => ok_fit (HF.out _ (by simp [List.getD, List.getElem?_eq_getElem h]))
  have HE : Hid ((mid c L L.length).map e32 = (wrL c L).map e32 ∧ (wrL c L).length = L.length) := ⟨by rw [mid_all], wrL_len c L⟩
  rw [← mid_zero c L, mid_len c L 0 (Nat.zero_le _)] at cs
  clear HF
  generalize hM : (fun j => (mid c L j).map e32) = M
  have hM' : ∀ j, (mid c L j).map e32 = M j := fun j => by rw [← hM]
  simp only [hM'] at cs HZ HA HE
  clear hM hM'
  generalize hR : (fun j => L.getD j 0) = R
  have hR' : ∀ j, L.getD j 0 = R j := fun j => by rw [← hR]
  simp only [hR'] at HZ HA HF2
  clear hR hR'
  generalize wrL c L = X at HE ⊢
  generalize L.length = N at hsl cs HZ HA HF2 HE ⊢
  go_enter Tryd.func37, Tryd.ntmps37
  go_wp2_with fail
  refine cs.mono ?_
  rintro e w1 ⟨v, rfl, hown, hb⟩
  have HU1 : Hid (Up w.heap.size w w1) := ⟨hb, hb.size⟩
  clear cs hb
  obtain ⟨hl, ⟨rfl, rfl⟩ | ⟨g, cap, cur, rfl, hg, hh, hnc, hcm, h3⟩⟩ := (⟨hown.1, hown.2⟩ : _ ∧ _)
  · have ct := textL_any X (.slice none 0 0) w1 (by rw [HE.out.2]; exact Nat.zero_le _) (Or.inl ⟨none, 0, rfl, HE.out.2⟩)
    clear hown hl HZ HA HF2 HE
    go_wp2
    go_loopg [12] (0) (fun m i wr => i = .int .i64 0 ∧ wr = w1)
    case atStart => exact ⟨rfl, rfl⟩
    case round =>
      obtain ⟨rfl, rfl⟩ := hrel
      go_wp2_with fail
      refine ct.mono ?_
      rintro e w2 ⟨rfl, hb2⟩
      have HU2 : Hid (Up w.heap.size w w2) := HU1.out.stay hb2
      clear hb2
      go_wp2
      go_ret
      exact ⟨rfl, HU2.out.1⟩
  · have HO : Hid (w1.ownsRow w.heap.size 21 1 (.slice (some ⟨g, 0, none⟩) N cap) N (M 0)) := hown
    clear hown hl hh hcm h3
    go_wp2
    go_loopg [12] N (fun m i wr => ∃ j : Nat, j ≤ N ∧ m = N - j ∧ i = .int .i64 j ∧ Hid (wr.ownsRow w.heap.size 21 1 (.slice (some ⟨g, 0, none⟩) N cap) N (M j)) ∧ Hid (Up w.heap.size w wr))
    case atStart => exact ⟨0, Nat.zero_le _, rfl, rfl, HO, HU1⟩
    case round =>
      obtain ⟨j, hj, hm, rfl, HO1, HU⟩ := hrel
      by_cases hlt : j < N
      · have z0 : (0 : Int) ≤ (j : Int) := by omega
        have z1 : (j : Int) < (N : Int) := by omega
        have hc : wr.cell? ⟨g, j, none⟩ = some (.int .i32 (R j)) := by rw [HO1.out.cellAt j (by omega)]; exact HA.out j hlt
        have hfz : wr.frozen? ⟨g, j, none⟩ = false := HO1.out.frozenAt j
        have cw := fwr_any c (R j) ((j : Int) == 0) (HF2.out j hlt) wr
        have HS := HO1.out.stored j (.int .i32 (wrt c (R j) ((j : Int) == 0)))
        rw [HZ.out j hlt] at HS
        have HS1 : Hid _ := HS.1
        have HS2 : Hid (Up w.heap.size w (wr.setCell ⟨g, j, none⟩ (.int .i32 (wrt c (R j) ((j : Int) == 0))))) := HU.out.grown HS.2 (fun k hk => by cases hk; exact hg)
        clear HS
        generalize wrt c (R j) ((j : Int) == 0) = y at cw HS1 HS2
        go_wp2_with fail
        refine cw.mono ?_
        rintro e w' ⟨rfl, rfl⟩
        go_wp2
        go_roundg (N - (j + 1))
        case measure => omega
        case rel => exact ⟨j + 1, by omega, rfl, by go_num, HS1, HS2⟩
      · obtain rfl : j = N := by omega
        have hown := HO1.out
        rw [HE.out.1] at hown
        have ct := textL_any X (.slice (some ⟨g, 0, none⟩) j cap) wr (by rw [HE.out.2]; omega) (rls_of hown).1
        clear hown
        go_wp2_with fail
        refine ct.mono ?_
        rintro e w2 ⟨rfl, hb2⟩
        have HU2 : Hid (Up w.heap.size w w2) := HU.out.stay hb2
        clear hb2
        go_wp2
        go_ret
        exact ⟨rfl, HU2.out.1⟩
theorem fold_any (s : ByteArray) (k : Nat) (w : World) (hn : s.size ≤ 5000) (hT : Tabs w) (he : Ends s k) :
    Calls Tryd.prog 25 #[.string s] w fun e w' => e = .returned (.string (tx (wrL 1 (sg s k)))) ∧ Below w.heap.size w w' := by
  have c := as_any 1 s k w hn hT he
  generalize tx (wrL 1 (sg s k)) = z at c ⊢
  clear he hT
  go_enter Tryd.func25, Tryd.ntmps25
  go_wp2_with fail
  refine c.mono ?_
  rintro e w1 ⟨rfl, hb⟩
  have HB : Hid (Below w.heap.size w w1) := hb
  clear hb
  go_wp2
  go_ret
  exact ⟨rfl, HB.out⟩
end Go.Proofs.YteeeekpeokgaeaaDoor.Tns
