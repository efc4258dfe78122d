/- The reference's Runes. -/
import Derived.Test.YtfikkkodepfdkaaDoorpRg
import Derived.Test.YtfikkkodepfdkaaDoorpkC
namespace Go.Proofs.YtfikkkodepfdkaaDoor
set_option linter.unusedVariables false
open Go.RowKit Go.ChangeShapes
set_option maxHeartbeats 1000000 in
theorem rrunes_any (s : ByteArray) (w : World) (hn : s.size ≤ 40000) :
    Calls Tryd.prog 39 #[.string s] w fun e w' => ∃ k v, e = .returned v ∧ Ends s k ∧ w'.ownsRow w.heap.size 21 1 v k (rcells s k) ∧ Below w.heap.size w w' := by
  have hcv := Lib.run_convert_string_bytes (P := Tryd.prog) w 9 43 5 s (u := .string) Tryd.underlying9 Tryd.underlying43 Tryd.underlying5
  have cu := Lns.runits_any s w.heap.size 0 (grownCap w s.size 0 5) (Lib.bytesWorld w 5 s) hn (grownCap_ge w s.size 0 5) (by_conv w s)
  have HU0 : Hid (Up w.heap.size w (Lib.bytesWorld w 5 s)) := ⟨bw_below w 5 s, (bw_below w 5 s).size⟩
  generalize Lib.bytesWorld w 5 s = W1 at hcv cu HU0
  generalize grownCap w s.size 0 5 = cap at hcv cu
  obtain ⟨i0, hi, hz0, hz1, hz2⟩ := info_parts info21
  go_enter Tryd.func39, Tryd.ntmps39
  go_wp2_with fail
  refine cu.mono ?_
  rintro e w1 ⟨n, v, rfl, he, hown, hb1⟩
  have HU1 : Hid (Up w.heap.size w w1) := HU0.out.stay hb1
  have HE : Hid (Ends s n) := he
  have hnk := he.le
  clear cu hcv HU0 hb1 he
  have hown0 := hown
  obtain ⟨hl, ⟨rfl, rfl⟩ | ⟨g, c, cur, rfl, _⟩⟩ := hown
  · go_wp2
    go_loopg [3, 5] (0) (fun g l i wr => l = .slice none 0 0 ∧ i = .int .i64 0 ∧ wr = w1)
    case atStart => exact ⟨rfl, rfl, rfl⟩
    case round =>
      obtain ⟨rfl, rfl, rfl⟩ := hrel
      go_wp2_with fail
      go_ret
      exact ⟨0, _, rfl, HE.out, World.ownsRow_nil _ _ _ _, HU1.out.1⟩
  · have HS : Hid (∀ i, i < n → w1.cell? ⟨g, i * 3, none⟩ = some (.int .i32 (rn s (pos s i)))) := fun i hi => by
      rw [hown0.cellAt _ (by omega)]
      exact ucell0 s n i hi
    clear hown0 hl
    go_wp2
    go_loopg [3, 5] n (fun m l i wr => ∃ k : Nat, k ≤ n ∧ m = n - k ∧ i = .int .i64 k ∧ Hid (wr.ownsRow w1.heap.size 21 1 l k (rcells s k)) ∧ Hid (Up w1.heap.size w1 wr))
    case atStart => exact ⟨0, Nat.zero_le _, rfl, rfl, ⟨rfl, Or.inl ⟨rfl, rfl⟩⟩, Up.refl w1⟩
    case round =>
      obtain ⟨k, hk, hm, rfl, HO, HU⟩ := hrel
      by_cases hlt : k < n
      · have z0 : (0 : Int) ≤ (k : Int) := by omega
        have z1 : (k : Int) < (n : Int) := by omega
        have a1 := cell_stay (HS.out k hlt) HU.out.1
        go_wp2_with (at_builtin; refine wpList_append_own _ rfl _ _ 37 rfl w1.heap.size 21 i0 _ 1 4 Tryd.underlying37 hi hz0 hz1 hz2 rfl (by decide) _ _ _ rfl (HO.out.alloc _) ⟨wr.heap.size, 0, none⟩ 1 1 [.int .i32 (rn s (pos s k))] rfl rfl ?c1 ?c2 ?c3 ?c4 ?c5 ?_)
        case c1 =>
          intro j u hj
          match j, hj with
          | 0, hj => simp at hj; subst hj; simp [Addr.add]
          | (j + 1), hj => simp at hj
        case c2 => intro u hu; simp at hu; rcases hu with rfl; rfl
        case c3 => unfold maxLen; omega
        case c4 => omega
        case c5 => have := HU.out.2; simp only [World.size_alloc]; omega
        intro v' w3 hown2 hgr hnil
        have HO2 : Hid (w3.ownsRow w1.heap.size 21 1 v' (k + 1) (rcells s (k + 1))) := by
          show w3.ownsRow _ _ _ _ _ _
          rw [rcells_succ]; exact hown2
        have HU2 : Hid (Up w1.heap.size w1 w3) := (HU.out.alloc _).grown hgr (own_base HO.out)
        clear hown2 hgr hnil HO HU a1
        go_wp2
        go_roundg (n - (k + 1))
        case measure => omega
        case rel => exact ⟨k + 1, by omega, rfl, by go_num, HO2, HU2⟩
      · obtain rfl : k = n := by omega
        go_wp2_with fail
        go_ret
        exact ⟨k, _, rfl, HE.out, own_mono HO.out HU1.out.2, HU1.out.1.trans (HU.out.1.mono HU1.out.2)⟩
theorem rrunes_rs (s : ByteArray) (w : World) (hn : s.size ≤ 40000) :
    Calls Tryd.prog 39 #[.string s] w fun e w' => ∃ v, e = .returned v ∧ w'.ownsRow w.heap.size 21 1 v (rs s).length ((rs s).map i32c) ∧ Below w.heap.size w w' := by
  refine (rrunes_any s w hn).mono ?_
  rintro e w' ⟨k, v, rfl, he, ho, hb⟩
  obtain rfl : k = kS s := (kS_is he).symm
  rw [rcells_rs, ← rs_len] at ho
  exact ⟨v, rfl, ho, hb⟩
end Go.Proofs.YtfikkkodepfdkaaDoor
