/- slices.DeleteFunc where bytes that are no signs are struck; fold.signs. -/
import Derived.Test.YthdjadkdjljciaaGreatDoorgKitB
import Derived.Test.YthdjadkdjljciaaGreatDoorgCnt
import Derived.Lib.OwnBridge
namespace Go.Proofs.YthdjadkdjljciaaGreatDoor
set_option linter.unusedVariables false
open Go.RowKit Go.ChangeShapes Go.Shelf Go.Lib Go.Sort
abbrev e32 : Int → Value := Value.int .i32
/-- Those that are signs. -/
abbrev sgn (l : List Int) : List Int := l.filter fun x => !decide (x < 0)
theorem idx_zero (ad : Option Addr) (c : Nat) (w : World) :
    Calls Tryz.prog 148 #[.slice ad 0 c, .func (.func 116) #[] #[]] w fun e w' => e = .returned (.int .i64 (-1)) ∧ w' = w := by
  go_enter Tryz.func148, Tryz.ntmps148
  go_wp2
  go_loopg [8] (0) (fun m i wr => i = .int .i64 0 ∧ wr = w)
  case atStart => exact ⟨rfl, rfl⟩
  case round =>
    obtain ⟨rfl, rfl⟩ := hrel
    go_wp2_with fail
    go_ret
    exact ⟨rfl, rfl⟩
theorem del_zero (w : World) :
    Calls Tryz.prog 115 #[.slice none 0 0, .func (.func 116) #[] #[]] w fun e w' => e = .returned (.slice none 0 0) ∧ w' = w := by
  go_enter Tryz.func115, Tryz.ntmps115
  go_wp2_with fail
  refine (idx_zero none 0 w).mono ?_
  rintro e w' ⟨rfl, rfl⟩
  go_wp2
  go_ret
  exact ⟨rfl, rfl⟩
theorem clos_gives (x : Int) (W : World) : FnGives Tryz.prog 116 #[] #[.int .i32 x] (.bool (decide (x < 0))) W :=
  (clos_any x W).mono fun e w' ⟨h1, h2⟩ => ⟨h1, 0, h2⟩
theorem del_any (zs : List Int) (base n : Nat) (v : Value) (w : World) (hn : n ≤ 5000) (h : w.ownsRow base 21 1 v n (zs.map e32)) :
    Calls Tryz.prog 115 #[v, .func (.func 116) #[] #[]] w fun e w' => ∃ v', e = .returned v' ∧ w'.ownsRow base 21 1 v' (sgn zs).length ((sgn zs).map e32) ∧ ∀ B w0, Below B w0 w → B ≤ base → Below B w0 w' := by
  by_cases hv : v = .slice none 0 0
  · subst hv
    have hz : zs = [] := by
      obtain ⟨h1, ⟨_, h2⟩ | ⟨g, cap, cur, h3, _⟩⟩ := h
      · subst h2
        exact List.eq_nil_of_length_eq_zero (by simpa using h1)
      · cases h3
    subst hz
    refine (del_zero w).mono ?_
    rintro e w' ⟨rfl, rfl⟩
    exact ⟨_, rfl, World.ownsRow_nil _ _ _ _, fun B w0 hb _ => hb⟩
  · obtain ⟨g, cap, rfl, hg, hgl, hnc, hcm, hzn, hH⟩ := holds_of_ownsRow h hv
    have eg : ∀ args w, (callFunc 116 args).run Tryz.prog w = .ok (.enter 116 args) w := enters_of Tryz.func116 (by kernel_rfl) rfl
    have hsz : zs.toArray.size = n := by simpa using hzn
    have hcon := AnyE.slices_DeleteFunc Tryz.delF e32 (fun _ => rfl) (fun x => decide (x < 0)) 116 #[] eg 0 Tryz.zeroValue21 g 0 cap zs.toArray w
      (fun W x _ => clos_gives x W) (fun _ _ _ x _ => clos_gives x _) hH (by omega) (by omega)
    rw [hsz] at hcon
    refine Calls.mono (show Calls Tryz.prog 115 _ _ _ from hcon) ?_
    rintro e w' ⟨rfl, q, rfl⟩
    have hl : (sgn zs).length ≤ n := by rw [← hzn]; exact List.length_filter_le _ _
    refine ⟨_, rfl, ?_, fun B w0 hb hB => below_putRow hb (by omega)⟩
    have ho := ownsRow_putRow (q := q) (ys := sgn zs ++ List.replicate (n - (sgn zs).length) 0) h (by simp only [List.length_append, List.length_replicate]; omega) hl
    rw [List.take_left'  rfl] at ho
    exact ho
theorem rcells_rl (s : ByteArray) (k : Nat) : rcells s k = (rl s k).map e32 := by simp [rcells, rl]
theorem signs_any (s : ByteArray) (w : World) (hn : s.size ≤ 5000) (hT : Tabs w) :
    Calls Tryz.prog 71 #[.string s] w fun e w' => ∃ k v, e = .returned v ∧ Ends s k ∧ w'.ownsRow w.heap.size 21 1 v (sg s k).length ((sg s k).map e32) ∧ Below w.heap.size w w' := by
  have c := runes_any s w hn hT
  clear hT
  go_enter Tryz.func71, Tryz.ntmps71
  go_wp2_with fail
  refine c.mono ?_
  rintro e w1 ⟨k, v, rfl, he, hown, hb⟩
  rw [rcells_rl] at hown
  have hk := he.le
  have HE : Hid (Ends s k) := he
  have c2 := del_any (rl s k) w.heap.size k v w1 (by omega) hown
  have HB : Hid (Below w.heap.size w w1) := hb
  clear c hb hown he
  go_wp2_with fail
  refine c2.mono ?_
  rintro e w2 ⟨v', rfl, hown2, hb2⟩
  have HO : Hid (w2.ownsRow w.heap.size 21 1 v' (sg s k).length ((sg s k).map e32)) := hown2
  have HB2 : Hid (Below w.heap.size w w2) := hb2 _ _ HB.out (Nat.le_refl _)
  clear c2 hown2 hb2
  go_wp2
  go_ret
  exact ⟨k, _, rfl, HE.out, HO.out, HB2.out⟩
end Go.Proofs.YthdjadkdjljciaaGreatDoor
