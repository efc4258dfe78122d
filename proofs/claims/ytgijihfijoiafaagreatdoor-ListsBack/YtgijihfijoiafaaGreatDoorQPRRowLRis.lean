/- The reference's rows, where a line is too long. -/
import Derived.Test.YtgijihfijoiafaaGreatDoorQPRTrSRRow
import Derived.Sort.LotA
import Derived.Sort.Walk0
namespace Go.Proofs.YtgijihfijoiafaaGreatDoor
set_option linter.unusedVariables false
open Go.RowKit Go.ChangeShapes
set_option maxRecDepth 100000 in
set_option maxHeartbeats 2000000 in
theorem rrows_long (s : ByteArray) (v : Value) (w : World) (hs : s.size ≤ 40000) (hb : Lns.BSl w v s) (j : Nat) (hL : longL (linesL s) 0 = j + 1) :
    Calls Tryz.prog 34 #[v] w fun e w' => e = .returned (.tuple #[.slice none 0 0, .int .i64 (j + 1)]) ∧ Below w.heap.size w w' := by
  have ct := Lns.rlines_any s v w hs hb
  have hnl := Lns.nL_le s
  have HL0 : Hid (longL (linesL s) 0 = j + 1) := hL
  obtain ⟨vd, vc, rfl⟩ := hb.form
  obtain ⟨i0, hi, hz0, hz1, hz2⟩ := info_parts Lns.info9
  clear hb hL
  go_enter Tryz.func34, Tryz.ntmps34
  go_wp2_with fail
  refine ct.mono ?_
  rintro e w1 ⟨v1, rfl, hown, hb1⟩
  obtain ⟨g, hg, ht, hgl⟩ := tsg_own hown
  have HB : Hid (Up w.heap.size w w1) := (Up.refl w).stay hb1
  have HT : Hid (TSg w1 g v1 (Lns.nL s) (Lns.line s)) := ht
  obtain ⟨ad, c, rfl, had⟩ := ht.form
  clear ht hown hb1 ct
  generalize hn : Lns.nL s = n at *
  have HN : Hid (Lns.nL s = n) := hn
  clear hn
  go_wp2
  go_loopg [5, 6] (n) (fun gh ov iv wr => ∃ k : Nat, k ≤ n ∧ gh = n - k ∧ iv = .int .i64 k ∧ Hid (wr.ownsRow w1.heap.size 9 1 ov k (Lns.tcells (fun j => rowB (Lns.line s j)) k)) ∧ Hid (Up w1.heap.size w1 wr) ∧ Hid (longL ((linesL s).drop k) k = j + 1))
  case atStart => exact ⟨0, Nat.zero_le _, rfl, rfl, World.ownsRow_nil _ _ _ _, Up.refl w1, HL0⟩
  case round =>
    obtain ⟨k, hk, hgh, rfl, HO, HU, HL⟩ := hrel
    by_cases hlt : k < n
    · obtain rfl := had (by omega)
      have z0 : (0 : Int) ≤ (k : Int) := by omega
      have z1 : (k : Int) < (n : Int) := by omega
      have hgw := hgl (by omega)
      have hc := HT.out.at (HU.out.1.block g hgw) k hlt
      have HL1 := HL.out
      rw [linesL_drop s k (by rw [HN.out]; exact hlt)] at HL1
      unfold longL at HL1
      have HTC : Hid (Lns.tcells (fun j => rowB (Lns.line s j)) (k + 1) = Lns.tcells (fun j => rowB (Lns.line s j)) k ++ [.string (rowB (Lns.line s k))]) := Lns.tcells_succ _ _
      obtain ⟨t, hte⟩ : ∃ t, Lns.line s k = t := ⟨_, rfl⟩
      rw [hte] at hc HTC HL1
      clear hte
      by_cases htt : 4096 < t.size
      · rw [if_pos htt] at HL1
        have HJ2 : Hid (k = j) := by show _ = _; omega
        have ht' : (4096 : Int) < (t.size : Int) := by omega
        clear HL1 HL HTC
        go_wp2
        refine bodyPost_ret (v := .tuple #[.slice none 0 0, .int .i64 ((k : Int) + 1)]) (by simp [results, Tryz.results34, go_sem]) rfl ?_
        rw [← HJ2.out]
        exact ⟨rfl, (HB.out.stay HU.out.1).1⟩
      · rw [if_neg htt] at HL1
        have HL2 : Hid (longL ((linesL s).drop (k + 1)) (k + 1) = j + 1) := HL1
        have htl : t.size ≤ 4096 := by omega
        have ht' : ¬ (4096 : Int) < (t.size : Int) := by omega
        clear HL1 HL htt
        have cf := rfind_any t ⟨#[35]⟩ wr (by omega) (by decide)
        have hir := Lib.index_room t.data.toList [35]
        obtain ⟨z, hz⟩ : ∃ z, Lib.index t.data.toList [35] = z := ⟨_, rfl⟩
        change Calls _ _ _ _ (fun e w' => e = .returned (.int .i64 (Lib.index t.data.toList [35])) ∧ w' = wr) at cf
        rw [hz] at cf hir
        by_cases hq0 : 0 ≤ z
        · obtain ⟨m, rfl⟩ : ∃ m : Nat, z = m := ⟨z.toNat, by omega⟩
          have hrm := hir hq0
          have e1 : t.data.toList.length = t.size := by simp
          rw [e1] at hrm
          simp only [List.length_cons, List.length_nil] at hrm
          have hr := row_cut t m hz
          have cr := rtrim_any (t.extract 0 m) true wr (by rw [ByteArray.size_extract]; omega)
          rw [hr] at cr
          have y1 : (m : Int) ≤ (t.size : Int) := by omega
          generalize rowB t = x at cr HTC
          clear hr hz hir hrm e1
          go_wp2_with fail
          refine cf.mono ?_
          rintro e w2 ⟨rfl, hw⟩
          subst w2
          clear cf
          go_wp2_with fail
          refine cr.mono ?_
          rintro e w2 ⟨rfl, hw⟩
          subst w2
          clear cr
          go_wp2_with (at_builtin; refine wpList_append_own _ rfl _ _ 28 rfl w1.heap.size 9 i0 _ 1 16 Tryz.underlying28 hi hz0 hz1 hz2 rfl (by decide) _ _ _ rfl (HO.out.alloc _) ⟨wr.heap.size, 0, none⟩ 1 1 [.string x] rfl rfl (Lns.one_new _ _ _) (Lns.one_one _ rfl) (by unfold maxLen; omega) (by omega) (by have := HU.out.2; simp only [World.size_alloc]; omega) ?_)
          intro v' w3 hown3 hgr hnil
          have HO3 : Hid (w3.ownsRow w1.heap.size 9 1 v' (k + 1) (Lns.tcells (fun j => rowB (Lns.line s j)) (k + 1))) := by
            show w3.ownsRow _ _ _ _ _ _
            rw [HTC.out]; exact hown3
          have HU3 : Hid (Up w1.heap.size w1 w3) := (HU.out.alloc _).grown hgr (own_base HO.out)
          clear hown3 hgr hnil HO HU hc HTC
          go_wp2
          go_roundg (n - (k + 1))
          case measure => omega
          case rel => exact ⟨k + 1, hlt, rfl, by go_num, HO3, HU3, HL2⟩
        · have hr := row_whole t (by rw [hz]; omega)
          have cr := rtrim_any t true wr (by omega)
          rw [hr] at cr
          generalize rowB t = x at cr HTC
          clear hr hz hir
          go_wp2_with fail
          refine cf.mono ?_
          rintro e w2 ⟨rfl, hw⟩
          subst w2
          clear cf
          go_wp2_with fail
          refine cr.mono ?_
          rintro e w2 ⟨rfl, hw⟩
          subst w2
          clear cr
          go_wp2_with (at_builtin; refine wpList_append_own _ rfl _ _ 28 rfl w1.heap.size 9 i0 _ 1 16 Tryz.underlying28 hi hz0 hz1 hz2 rfl (by decide) _ _ _ rfl (HO.out.alloc _) ⟨wr.heap.size, 0, none⟩ 1 1 [.string x] rfl rfl (Lns.one_new _ _ _) (Lns.one_one _ rfl) (by unfold maxLen; omega) (by omega) (by have := HU.out.2; simp only [World.size_alloc]; omega) ?_)
          intro v' w3 hown3 hgr hnil
          have HO3 : Hid (w3.ownsRow w1.heap.size 9 1 v' (k + 1) (Lns.tcells (fun j => rowB (Lns.line s j)) (k + 1))) := by
            show w3.ownsRow _ _ _ _ _ _
            rw [HTC.out]; exact hown3
          have HU3 : Hid (Up w1.heap.size w1 w3) := (HU.out.alloc _).grown hgr (own_base HO.out)
          clear hown3 hgr hnil HO HU hc HTC
          go_wp2
          go_roundg (n - (k + 1))
          case measure => omega
          case rel => exact ⟨k + 1, hlt, rfl, by go_num, HO3, HU3, HL2⟩
    · exfalso
      have : k = Lns.nL s := by rw [HN.out]; omega
      have h2 := HL.out
      rw [this, linesL_end] at h2
      simp [longL] at h2
end Go.Proofs.YtgijihfijoiafaaGreatDoor
/- Words that rise: put in. -/
namespace Go.Proofs.YtgijihfijoiafaaGreatDoor
set_option linter.unusedVariables false
/-- One text stands ahead of another. -/
def lw (x y : ByteArray) : Bool := Sort.ltStr x.data.toList y.data.toList
theorem lw_irrefl (x : ByteArray) : lw x x = false := Sort.swo_ltStr.irrefl _
theorem lw_trans {x y z : ByteArray} (h1 : lw x y = true) (h2 : lw y z = true) : lw x z = true := Sort.swo_ltStr.trans _ _ _ h1 h2
theorem lw_total {x y : ByteArray} (h1 : lw x y = false) (h2 : lw y x = false) : x = y := by
  unfold lw Sort.ltStr at h1 h2
  simp only [decide_eq_false_iff_not, List.not_lt] at h1 h2
  have h := List.le_antisymm h2 h1
  exact ByteArray.ext (Array.toList_inj.1 h)
theorem lw_asymm {x y : ByteArray} (h1 : lw x y = true) (h2 : lw y x = true) : False := by
  have h := lw_trans h1 h2
  rw [lw_irrefl] at h
  cases h
/-- Put where it belongs among what rises. -/
def putK {α : Type} (f : α → ByteArray) (L : List α) (s : α) : List α := L.takeWhile (fun x => lw (f x) (f s)) ++ s :: L.dropWhile (fun x => lw (f x) (f s))
/-- They rise, none twice. -/
def RiseK {α : Type} (f : α → ByteArray) (L : List α) : Prop := L.Pairwise fun x y => lw (f x) (f y) = true
theorem putK_perm {α : Type} (f : α → ByteArray) (L : List α) (s : α) : (putK f L s).Perm (s :: L) := by
  unfold putK
  refine List.perm_middle.trans (List.Perm.cons _ ?_)
  rw [List.takeWhile_append_dropWhile]
theorem putK_len {α : Type} (f : α → ByteArray) (L : List α) (s : α) : (putK f L s).length = L.length + 1 := (putK_perm f L s).length_eq
theorem RiseK.tail {α : Type} {f : α → ByteArray} {a : α} {L : List α} (h : RiseK f (a :: L)) : RiseK f L := (List.pairwise_cons.1 h).2
theorem putK_rise {α : Type} (f : α → ByteArray) : ∀ (L : List α) (s : α), RiseK f L → f s ∉ L.map f → RiseK f (putK f L s)
  | [], s, _, _ => by unfold putK RiseK; simp
  | a :: L, s, h, hs => by
    have ha := (List.pairwise_cons.1 h).1
    have ih := putK_rise f L s h.tail (fun hm => hs (List.mem_cons_of_mem _ hm))
    unfold putK RiseK
    cases hc : lw (f a) (f s)
    · rw [List.takeWhile_cons_of_neg (by simp [hc]), List.dropWhile_cons_of_neg (by simp [hc])]
      have hsa : lw (f s) (f a) = true := by
        cases hd : lw (f s) (f a)
        · exact absurd (lw_total hc hd) (fun e => hs (by rw [← e]; simp))
        · rfl
      show List.Pairwise _ (s :: a :: L)
      refine List.pairwise_cons.2 ⟨fun x hx => ?_, h⟩
      rcases List.mem_cons.1 hx with rfl | hx
      · exact hsa
      · exact lw_trans hsa (ha x hx)
    · rw [List.takeWhile_cons_of_pos (by simp [hc]), List.dropWhile_cons_of_pos (by simp [hc])]
      show List.Pairwise _ (a :: putK f L s)
      refine List.pairwise_cons.2 ⟨fun x hx => ?_, ih⟩
      rcases List.mem_cons.1 ((putK_perm f L s).mem_iff.1 hx) with rfl | hx
      · exact hc
      · exact ha x hx
theorem rise_one {α : Type} {f : α → ByteArray} {A B : List α} (h : A.Perm B) (hA : RiseK f A) (hB : RiseK f B) : A = B :=
  List.Perm.eq_of_pairwise (fun _ _ _ _ h1 h2 => (lw_asymm h1 h2).elim) hA hB h
theorem rise_weak {α : Type} {f : α → ByteArray} : ∀ {A : List α}, A.Pairwise (fun x y => lw (f y) (f x) = false) → (A.map f).Nodup → RiseK f A
  | [], _, _ => List.Pairwise.nil
  | a :: A, h, hn => by
    obtain ⟨h1, h2⟩ := List.pairwise_cons.1 h
    rw [List.map_cons, List.nodup_cons] at hn
    refine List.pairwise_cons.2 ⟨fun x hx => ?_, rise_weak h2 hn.2⟩
    cases hd : lw (f a) (f x)
    · exact absurd (lw_total hd (h1 x hx)) (fun e => hn.1 (by rw [e]; exact List.mem_map.2 ⟨x, hx, rfl⟩))
    · rfl
end Go.Proofs.YtgijihfijoiafaaGreatDoor
