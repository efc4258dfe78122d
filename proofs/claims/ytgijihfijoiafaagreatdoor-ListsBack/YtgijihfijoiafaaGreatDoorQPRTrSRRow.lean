/- The reference's trim is the program's. -/
import Derived.Test.YtgijihfijoiafaaGreatDoorQPRFndRTrm
import Derived.Test.YtgijihfijoiafaaGreatDoorQPEchWds
import Derived.Test.YtgijihfijoiafaaGreatDoorQPReaFxs
namespace Go.Proofs.YtgijihfijoiafaaGreatDoor
set_option linter.unusedVariables false
open Go.RowKit Go.ChangeShapes
theorem pB_funT : pB true = fun c => [32, 9, 13, 10].contains c := funext pB_true
theorem pB_funF : pB false = fun c => [32, 9].contains c := funext pB_false
theorem trimS_T (l : List UInt8) : rt (pB true) (l.dropWhile (pB true)) = Lib.trimS l [32, 9, 13, 10] := by
  rw [← trim_swap, pB_funT]
  rfl
theorem trimS_F (l : List UInt8) : rt (pB false) (l.dropWhile (pB false)) = Lib.trimS l [32, 9] := by
  rw [← trim_swap, pB_funF]
  rfl
end Go.Proofs.YtgijihfijoiafaaGreatDoor
/- The reference's rows. -/
namespace Go.Proofs.YtgijihfijoiafaaGreatDoor
set_option linter.unusedVariables false
open Go.RowKit Go.ChangeShapes
theorem row_cut (t : ByteArray) (k : Nat) (h : Lib.index t.data.toList [35] = k) : (⟨(rt (pB true) ((t.extract 0 k).data.toList.dropWhile (pB true))).toArray⟩ : ByteArray) = rowB t := by
  unfold rowB rowL
  rw [trimS_T, up_list]
  unfold Lib.cut
  rw [if_pos (by rw [h]; omega), h]
  rfl
theorem row_whole (t : ByteArray) (h : Lib.index t.data.toList [35] < 0) : (⟨(rt (pB true) (t.data.toList.dropWhile (pB true))).toArray⟩ : ByteArray) = rowB t := by
  unfold rowB rowL
  rw [trimS_T]
  unfold Lib.cut
  rw [if_neg (by omega)]
set_option maxRecDepth 100000 in
set_option maxHeartbeats 2000000 in
theorem rrows_any (s : ByteArray) (v : Value) (w : World) (hs : s.size ≤ 40000) (hb : Lns.BSl w v s) (hL : longL (linesL s) 0 = 0) :
    Calls Tryz.prog 34 #[v] w fun e w' => ∃ u, e = .returned (.tuple #[u, .int .i64 0]) ∧ w'.ownsRow w.heap.size 9 1 u (Lns.nL s) (Lns.tcells (fun j => rowB (Lns.line s j)) (Lns.nL s)) ∧ Below w.heap.size w w' := by
  have ct := Lns.rlines_any s v w hs hb
  have hnl := Lns.nL_le s
  have HL : Hid (∀ t ∈ linesL s, t.size ≤ 4096) := longL_zero _ _ hL
  obtain ⟨vd, vc, rfl⟩ := hb.form
  obtain ⟨i0, hi, hz0, hz1, hz2⟩ := info_parts Lns.info9
  clear hb hL
  go_enter Tryz.func34, Tryz.ntmps34
  go_wp2_with fail
  refine ct.mono ?_
  rintro e w1 ⟨v1, rfl, hown, hb1⟩
  obtain ⟨g, hg, ht, hgl⟩ := tsg_own hown
  have HB : Hid (Up w.heap.size w w1) := (Up.refl w).stay hb1
  have HT : Hid (TSg w1 g v1 (Lns.nL s) (Lns.line s)) := ht
  obtain ⟨ad, c, rfl, had⟩ := ht.form
  clear ht hown hb1 ct
  generalize hn : Lns.nL s = n at *
  have HN : Hid (Lns.nL s = n) := hn
  clear hn
  go_wp2
  go_loopg [5, 6] (n) (fun gh ov iv wr => ∃ k : Nat, k ≤ n ∧ gh = n - k ∧ iv = .int .i64 k ∧ Hid (wr.ownsRow w1.heap.size 9 1 ov k (Lns.tcells (fun j => rowB (Lns.line s j)) k)) ∧ Hid (Up w1.heap.size w1 wr))
  case atStart => exact ⟨0, Nat.zero_le _, rfl, rfl, World.ownsRow_nil _ _ _ _, Up.refl w1⟩
  case round =>
    obtain ⟨k, hk, hgh, rfl, HO, HU⟩ := hrel
    by_cases hlt : k < n
    · obtain rfl := had (by omega)
      have z0 : (0 : Int) ≤ (k : Int) := by omega
      have z1 : (k : Int) < (n : Int) := by omega
      have hgw := hgl (by omega)
      have hc := HT.out.at (HU.out.1.block g hgw) k hlt
      have htl : (Lns.line s k).size ≤ 4096 := HL.out _ (by unfold linesL; rw [HN.out]; exact List.mem_map.2 ⟨k, List.mem_range.2 hlt, rfl⟩)
      have HTC : Hid (Lns.tcells (fun j => rowB (Lns.line s j)) (k + 1) = Lns.tcells (fun j => rowB (Lns.line s j)) k ++ [.string (rowB (Lns.line s k))]) := Lns.tcells_succ _ _
      obtain ⟨t, hte⟩ : ∃ t, Lns.line s k = t := ⟨_, rfl⟩
      rw [hte] at hc htl HTC
      clear hte
      have ht' : ¬ (4096 : Int) < (t.size : Int) := by omega
      have cf := rfind_any t ⟨#[35]⟩ wr (by omega) (by decide)
      have hir := Lib.index_room t.data.toList [35]
      obtain ⟨z, hz⟩ : ∃ z, Lib.index t.data.toList [35] = z := ⟨_, rfl⟩
      change Calls _ _ _ _ (fun e w' => e = .returned (.int .i64 (Lib.index t.data.toList [35])) ∧ w' = wr) at cf
      rw [hz] at cf hir
      by_cases hq0 : 0 ≤ z
      · obtain ⟨m, rfl⟩ : ∃ m : Nat, z = m := ⟨z.toNat, by omega⟩
        have hrm := hir hq0
        have e1 : t.data.toList.length = t.size := by simp
        rw [e1] at hrm
        simp only [List.length_cons, List.length_nil] at hrm
        have hr := row_cut t m hz
        have cr := rtrim_any (t.extract 0 m) true wr (by rw [ByteArray.size_extract]; omega)
        rw [hr] at cr
        have y1 : (m : Int) ≤ (t.size : Int) := by omega
        generalize rowB t = x at cr HTC
        clear hr hz hir hrm e1
        go_wp2_with fail
        refine cf.mono ?_
        rintro e w2 ⟨rfl, hw⟩
        subst w2
        clear cf
        go_wp2_with fail
        refine cr.mono ?_
        rintro e w2 ⟨rfl, hw⟩
        subst w2
        clear cr
        go_wp2_with (at_builtin; refine wpList_append_own _ rfl _ _ 28 rfl w1.heap.size 9 i0 _ 1 16 Tryz.underlying28 hi hz0 hz1 hz2 rfl (by decide) _ _ _ rfl (HO.out.alloc _) ⟨wr.heap.size, 0, none⟩ 1 1 [.string x] rfl rfl (Lns.one_new _ _ _) (Lns.one_one _ rfl) (by unfold maxLen; omega) (by omega) (by have := HU.out.2; simp only [World.size_alloc]; omega) ?_)
        intro v' w3 hown3 hgr hnil
        have HO3 : Hid (w3.ownsRow w1.heap.size 9 1 v' (k + 1) (Lns.tcells (fun j => rowB (Lns.line s j)) (k + 1))) := by
          show w3.ownsRow _ _ _ _ _ _
          rw [HTC.out]; exact hown3
        have HU3 : Hid (Up w1.heap.size w1 w3) := (HU.out.alloc _).grown hgr (own_base HO.out)
        clear hown3 hgr hnil HO HU hc HTC
        go_wp2
        go_roundg (n - (k + 1))
        case measure => omega
        case rel => exact ⟨k + 1, hlt, rfl, by go_num, HO3, HU3⟩
      · have hr := row_whole t (by rw [hz]; omega)
        have cr := rtrim_any t true wr (by omega)
        rw [hr] at cr
        generalize rowB t = x at cr HTC
        clear hr hz hir
        go_wp2_with fail
        refine cf.mono ?_
        rintro e w2 ⟨rfl, hw⟩
        subst w2
        clear cf
        go_wp2_with fail
        refine cr.mono ?_
        rintro e w2 ⟨rfl, hw⟩
        subst w2
        clear cr
        go_wp2_with (at_builtin; refine wpList_append_own _ rfl _ _ 28 rfl w1.heap.size 9 i0 _ 1 16 Tryz.underlying28 hi hz0 hz1 hz2 rfl (by decide) _ _ _ rfl (HO.out.alloc _) ⟨wr.heap.size, 0, none⟩ 1 1 [.string x] rfl rfl (Lns.one_new _ _ _) (Lns.one_one _ rfl) (by unfold maxLen; omega) (by omega) (by have := HU.out.2; simp only [World.size_alloc]; omega) ?_)
        intro v' w3 hown3 hgr hnil
        have HO3 : Hid (w3.ownsRow w1.heap.size 9 1 v' (k + 1) (Lns.tcells (fun j => rowB (Lns.line s j)) (k + 1))) := by
          show w3.ownsRow _ _ _ _ _ _
          rw [HTC.out]; exact hown3
        have HU3 : Hid (Up w1.heap.size w1 w3) := (HU.out.alloc _).grown hgr (own_base HO.out)
        clear hown3 hgr hnil HO HU hc HTC
        go_wp2
        go_roundg (n - (k + 1))
        case measure => omega
        case rel => exact ⟨k + 1, hlt, rfl, by go_num, HO3, HU3⟩
    · obtain rfl : k = n := by omega
      go_wp2
      refine bodyPost_ret (v := .tuple #[u5, .int .i64 0]) (by simp [results, Tryz.results34, go_sem]) rfl ?_
      exact ⟨_, rfl, by rw [HN.out]; exact own_mono2 HO.out HB.out.2, (HB.out.stay HU.out.1).1⟩
end Go.Proofs.YtgijihfijoiafaaGreatDoor
