/- The law TrieHas. -/
import Derived.Test.YtbmmjpmgkkljgaaDoortHas1
import Derived.Deep.DeepCutAuto
import Derived.Deep.OwnRows
import Derived.Deep.Heap
namespace Go.Proofs.YtbmmjpmgkkljgaaDoor
set_option linter.unusedVariables false
open Go.RowKit Go.ChangeShapes
theorem u8_nat {x : Int} (h : (Lit.int .u8 x).wf = true) : ∃ n : Nat, x = (n : Int) ∧ n ≤ 255 := by
  have h2 : 0 ≤ x ∧ x ≤ 255 := by simpa [Lit.wf, IntKind.min, IntKind.max, IntKind.signed, IntKind.bits] using h
  exact ⟨x.toNat, by omega, by omega⟩
theorem Up.drewN {B : Nat} {a w : World} (h : Up B a w) : ∀ n, Up B a (w.drewN n)
  | 0 => h
  | n + 1 => by
    have := (Up.drewN h n).drew
    exact this
/-- A variable that a closure holds. -/
def Box (w : World) (X : Nat) (v : Value) : Prop := w.rowIs X 22 1 (fun _ => v)
theorem Box.cell {w : World} {X : Nat} {v : Value} (h : Box w X v) : w.cell? ⟨X, 0, none⟩ = some v := World.rowIs.cell h (i := 0) (by omega)
theorem Box.frozen {w : World} {X : Nat} {v : Value} (h : Box w X v) : w.frozen? ⟨X, 0, none⟩ = false := World.rowIs.frozen h 0
theorem Box.stay {w w' : World} {X : Nat} {v : Value} (h : Box w X v) (hb : Below w.heap.size w w') : Box w' X v := World.rowIs.of_block h (hb.block X (World.rowIs.lt h))
theorem Box.new (w : World) (v : Value) : Box (w.alloc (.cells #[v] 22)) w.heap.size v := World.rowIs_alloc w #[v] 22 (fun _ => v) (fun i hi => by
  have : i = 0 := by simpa using hi
  subst this
  rfl)
theorem Box.set {w : World} {X : Nat} {v : Value} (h : Box w X v) (u : Value) : Box (w.setCell ⟨X, 0, none⟩ u) X u := World.rowIs.congr (World.rowIs.set h 0 u) (fun i hi => by
  have : i = 0 := by omega
  simp [this])
theorem OS.far {w : World} {b X : Nat} {v u : Value} {L : List ByteArray} (h : OS w b v L) (hX : X < b) : OS (w.setCell ⟨X, 0, none⟩ u) b v L := own_of_blocks h (fun k hk => by
  have := own_base h k hk
  exact Go.Deep.blk_setCell_other w _ _ k (by show k ≠ X; omega))
set_option maxHeartbeats 2000000 in
set_option maxRecDepth 100000 in
theorem has_law (w : World) (hT : Tabs w) (v : Value) (Ls : List ByteArray) (hv : TL w v Ls) (hl : Ls.length ≤ 2000000) (hsz : ∀ s ∈ Ls, s.size ≤ 2000000) (s : ByteArray) (hs : s.size ≤ 2000000) (q0 n0 : Int) (wq : (Lit.int .u8 q0).wf = true) (wn : (Lit.int .u8 n0).wf = true) :
    Calls Tryd.prog 4 #[v, .string s, .int .u8 q0, .int .u8 n0] w fun e w' => e = .returned (.bool true) ∧ Below w.heap.size w w' := by
  obtain ⟨q, rfl, hq⟩ := u8_nat wq
  obtain ⟨n1, rfl, hn1⟩ := u8_nat wn
  clear wq wn
  have HT : Hid (Tabs w) := hT
  have HV : Hid (TL w v Ls) := hv
  have HZ : Hid (∀ s ∈ Ls, s.size ≤ 2000000) := hsz
  obtain ⟨ad, c, rfl, -⟩ := hv
  clear hT hsz
  obtain ⟨i9, hi9, hz90, hz91, hz92⟩ := info_parts info9
  obtain ⟨hr, hgd, hL61⟩ := srtL_good Ls
  have HR : Hid (RiseK id (srtL Ls)) := hr
  have HG : Hid (∀ x ∈ srtL Ls, GoodW x) := hgd
  clear hr hgd
  obtain ⟨wX, hwX⟩ : ∃ x, w.alloc (.cells #[.slice ad Ls.length c] 22) = x := ⟨_, rfl⟩
  have HB0 : Hid (Box wX w.heap.size (.slice ad Ls.length c)) := by show Box _ _ _; rw [← hwX]; exact Box.new w _
  have HU0 : Hid (Up w.heap.size w wX) := by show Up _ _ _; rw [← hwX]; exact (Up.refl w).alloc _
  have c0 := awake_any wX (tabs_stay HT.out HU0.out.1)
  go_enter Tryd.func4, Tryd.ntmps4
  go_wp2_with fail
  refine c0.mono ?_
  rintro e w1 ⟨rfl, hb1⟩
  have HB1 : Hid (Box w1 w.heap.size (.slice ad Ls.length c)) := HB0.out.stay hb1
  have HU1 : Hid (Up w.heap.size w w1) := HU0.out.stay hb1
  have hx1 := HB1.out.cell
  have hX1 : w.heap.size < w1.heap.size := World.rowIs.lt HB1.out
  clear hb1 c0 HB0 HU0 hwX wX
  have c1 := sorted_any w1 (tabs_stay HT.out HU1.out.1) (.slice ad Ls.length c) Ls (HV.out.stay HU1.out.1) hl HZ.out
  go_wp2_with fail
  refine c1.mono ?_
  rintro e w2 ⟨v2, rfl, hO2, hU2⟩
  have HB2 : Hid (Box w2 w.heap.size (.slice ad Ls.length c)) := HB1.out.stay hU2.1
  have HO2 : Hid (OS w2 w1.heap.size v2 (srtL Ls)) := hO2
  have HU2 : Hid (Up w.heap.size w w2) := HU1.out.stay hU2.1
  have hx2 := HB2.out.cell
  have hf2 := HB2.out.frozen
  clear hO2 hU2 c1 hx1 HB1
  generalize eL : srtL Ls = L at *
  clear eL
  obtain ⟨a2, c2, rfl, hcap2, -, -⟩ := HO2.out.form
  obtain ⟨w3, hw3⟩ : ∃ x, w2.setCell ⟨w.heap.size, 0, none⟩ (.slice a2 L.length c2) = x := ⟨_, rfl⟩
  have HB3 : Hid (Box w3 w.heap.size (.slice a2 L.length c2)) := by show Box _ _ _; rw [← hw3]; exact HB2.out.set _
  have HO3 : Hid (OS w3 w1.heap.size (.slice a2 L.length c2) L) := by show OS _ _ _ _; rw [← hw3]; exact HO2.out.far hX1
  have HU3 : Hid (Up w.heap.size w w3) := by show Up _ _ _; rw [← hw3]; exact HU2.out.setCell (Nat.le_refl _) _
  have hx3 := HB3.out.cell
  have cM := made_has w3 (tabs_stay HT.out HU3.out.1) (.slice a2 L.length c2) L HO3.out.tl HR.out HG.out (by omega)
  go_wp2_with fail
  refine cM.mono ?_
  rintro e w4 ⟨hb4, vN, l, rfl, hM, hl1, hl2, hl3, hl4⟩
  have HB4 : Hid (Box w4 w.heap.size (.slice a2 L.length c2)) := HB3.out.stay hb4
  have HO4 : Hid (OS w4 w1.heap.size (.slice a2 L.length c2) L) := HO3.out.stay hb4
  have HU4 : Hid (Up w.heap.size w w4) := HU3.out.stay hb4
  have HM4 : Hid (TrieM w4 w3.heap.size (w3.heap.size + 1) L.length vN l) := hM
  have HL4 : Hid (l.map Nd.p = (makeP L).2 ∧ OkP (makeP L).2 ∧ (makeP L).2.length ≤ 300000 ∧ 0 < (makeP L).2.length) := ⟨hl1, hl2, hl3, hl4⟩
  clear hb4 hM hl1 hl2 hl3 hl4 cM hx3 hx2 hf2 HB3 HO3 HU3 HB2 HO2 HU2 hw3
  obtain ⟨w5, hw5⟩ : ∃ x, w4.alloc (.cells #[.string s, .string ⟨#[]⟩] 9) = x := ⟨_, rfl⟩
  have HU5 : Hid (Up w4.heap.size w4 w5) := by show Up _ _ _; rw [← hw5]; exact (Up.refl w4).alloc _
  have HO5 : Hid (OS w5 w4.heap.size (.slice (some ⟨w4.heap.size, 0, none⟩) 2 2) [s, ⟨#[]⟩]) := by
    show World.ownsRow _ _ _ _ _ _ _
    rw [← hw5]
    exact World.ownsRow_lit w4 #[.string s, .string ⟨#[]⟩] 2 (Nat.le_refl _) (by unfold maxLen; omega) rfl
  have hx5 := (HB4.out.stay HU5.out.1).cell
  obtain ⟨w4s, ew4⟩ : ∃ x, w4.heap.size = x := ⟨_, rfl⟩
  rw [ew4] at HU5 HO5
  go_upto_if 30 with fail
  go_cut [12] (fun lv wx => Hid (∃ XS, TL wx lv XS ∧ XS.length ≤ 6) ∧ Hid (Up w4s w4 wx))
  case first =>
    by_cases h0 : L.length = 0
    · have z : ¬ (0 : Int) < (L.length : Int) := by omega
      go_wp2
      go_meet
      case rel => exact ⟨⟨_, HO5.out.tl, by simp⟩, HU5⟩
    · have z : (0 : Int) < (L.length : Int) := by omega
      have z' : ¬ (L.length : Int) = 0 := by omega
      obtain ⟨ix, ei⟩ : ∃ i, q % L.length = i := ⟨_, rfl⟩
      have hix : ix < L.length := by rw [← ei]; exact Nat.mod_lt _ (by omega)
      have tq : (q : Int).tmod (L.length : Int) = (ix : Int) := by rw [← ei]; rfl
      have z1 : (ix : Int) < (L.length : Int) := by omega
      have z2 : (0 : Int) ≤ (ix : Int) := by omega
      obtain ⟨_, _, hov, _, hno2, hso2⟩ := HO4.out.form
      injection hov with hov1 hov2 hov3
      subst hov1 hov3
      obtain ⟨a, ha⟩ : ∃ a, a2 = some a := by
        cases a2 with
        | none => have := (hno2 rfl).1; subst this; simp at hix
        | some a => exact ⟨a, rfl⟩
      obtain ⟨g, rfl, _, _, hcs⟩ := hso2 a ha
      subst ha
      have hcy := cell_stay (hcs ix hix) (by rw [ew4]; exact HU5.out.1)
      have HY : Hid (GoodW L[ix]) := HG.out _ (List.getElem_mem hix)
      generalize L[ix] = y at hcy HY
      have hy48 := HY.out.2.1
      obtain ⟨jx, ej⟩ : ∃ i, n1 % (y.size + 1) = i := ⟨_, rfl⟩
      have hjx : jx < y.size + 1 := by rw [← ej]; exact Nat.mod_lt _ (by omega)
      have tn : (n1 : Int).tmod ((y.size : Int) + 1) = (jx : Int) := by rw [← ej]; rfl
      have z3 : (jx : Int) ≤ (y.size : Int) := by omega
      have z4 : (0 : Int) ≤ (jx : Int) := by omega
      have z5 : ¬ (y.size : Int) + 1 = 0 := by omega
      have z6 : ¬ 9223372036854775807 < y.size + s.size := by omega
      have z7 : ¬ 9223372036854775807 < y.size + 1 := by omega
      clear hno2 hso2 hov2 hcs ei ej
      go_upto_region 8 with fail
      go_quiet (fail)
      obtain ⟨wq, hwq⟩ : ∃ x, w5.drewN nq = x := ⟨_, rfl⟩
      rw [hwq]
      have HO6 : Hid (OS wq w4s (.slice (some ⟨w4s, 0, none⟩) 2 2) [s, ⟨#[]⟩]) := by show OS _ _ _ _; rw [← hwq]; exact HO5.out.stay ((Up.refl w5).drewN nq).1
      have HU6 : Hid (Up w4s w4 wq) := by show Up _ _ _; rw [← hwq]; exact HU5.out.drewN nq
      have HO6a : Hid (∀ o, (wq.alloc o).ownsRow w4s 9 1 (.slice (some ⟨w4s, 0, none⟩) 2 2) 2 [.string s, .string ⟨#[]⟩]) := fun o => World.ownsRow.alloc (show wq.ownsRow w4s 9 1 (.slice (some ⟨w4s, 0, none⟩) 2 2) 2 [.string s, .string ⟨#[]⟩] from HO6.out) o
      have HS6 : Hid (Srcs (wq.alloc (.cells #[.string y, .string (y.extract 0 jx), .string (y ++ s), .string (y ++ (⟨#[97]⟩ : ByteArray))] 9)) (.slice (some ⟨wq.heap.size, 0, none⟩) 4 4) 4 1 [.string y, .string (y.extract 0 jx), .string (y ++ s), .string (y ++ (⟨#[97]⟩ : ByteArray))]) := srcs_new wq #[.string y, .string (y.extract 0 jx), .string (y ++ s), .string (y ++ (⟨#[97]⟩ : ByteArray))] 9 4 1 4 rfl
      have HN6 : Hid (∀ u ∈ [Value.string y, .string (y.extract 0 jx), .string (y ++ s), .string (y ++ (⟨#[97]⟩ : ByteArray))], u.oneCell' = true) := str_one [y, y.extract 0 jx, y ++ s, y ++ (⟨#[97]⟩ : ByteArray)]
      have HW6 : Hid (∀ o, w4s ≤ (wq.alloc o).heap.size) := fun o => by have := HU6.out.2; simp only [World.size_alloc]; omega
      clear HO5 HU5 hwq hcy hx5
      go_wp2_with (at_builtin; refine app_src rfl _ _ 22 rfl w4s 9 i9 _ 1 16 Tryd.underlying22 hi9 hz90 hz91 hz92 rfl (by decide) _ 2 [.string s, .string ⟨#[]⟩] rfl (HO6a.out _) _ 4 _ rfl HS6.out HN6.out (by unfold maxLen; omega) (by omega) (HW6.out _) ?_)
      intro v7 w7 hO7 hg7
      have HO7 : Hid (OS w7 w4s v7 [s, ⟨#[]⟩, y, y.extract 0 jx, y ++ s, y ++ (⟨#[97]⟩ : ByteArray)]) := hO7
      have HU7 : Hid (Up w4s w4 w7) := (HU6.out.alloc _).grown hg7 (own_base HO6.out)
      clear hO7 hg7
      go_wp2
      go_meet
      case rel => exact ⟨⟨_, HO7.out.tl, by simp⟩, HU7⟩
  case rest =>
    obtain ⟨HX, HUx⟩ := hcut
    obtain ⟨XS, hXS, hX6⟩ := HX.out
    have HXS : Hid (TL wc u12 XS) := hXS
    obtain ⟨ax, cx, rfl, hcx⟩ := hXS
    have HCX : Hid (∀ (j : Nat) (s : ByteArray), XS[j]? = some s → ∃ b off, ax = some ⟨b, off, none⟩ ∧ wc.cell? ⟨b, off + j, none⟩ = some (.string s)) := hcx
    rw [← ew4] at HUx
    have HBc : Hid (Box wc w.heap.size (.slice a2 L.length c2)) := HB4.out.stay HUx.out.1
    have HOc : Hid (OS wc w1.heap.size (.slice a2 L.length c2) L) := HO4.out.stay HUx.out.1
    have HMc : Hid (TrieM wc w3.heap.size (w3.heap.size + 1) L.length vN l) := HM4.out.stay HUx.out.1
    have HUc : Hid (Up w.heap.size w wc) := HU4.out.stay HUx.out.1
    clear hcx HX HUx HB4 HO4 HM4 HU4 HO5 HU5 hw5 hx5
    generalize enx : XS.length = nx at *
    have ENX : Hid (XS.length = nx) := enx
    clear enx
    go_wp2
    go_loopg [58] nx (fun g iv wr => ∃ i : Nat, i ≤ nx ∧ g = nx - i ∧ iv = .int .i64 i ∧ Hid (Up wc.heap.size wc wr))
    case atStart => exact ⟨0, Nat.zero_le _, rfl, rfl, Up.refl wc⟩
    case round =>
      obtain ⟨i, hin, hg, rfl, HUr⟩ := hrel
      have z0 : (0 : Int) ≤ (i : Int) := by omega
      by_cases hlt : i < nx
      · have z1 : (i : Int) < (nx : Int) := by omega
        obtain ⟨x, hx⟩ : ∃ x, XS[i]? = some x := ⟨_, List.getElem?_eq_getElem (by rw [ENX.out]; exact hlt)⟩
        obtain ⟨b, off, rfl, hcx⟩ := HCX.out i x hx
        have hcx1 := cell_stay hcx HUr.out.1
        clear hcx hx
        by_cases h500 : x.size < 500
        · have z2 : (x.size : Int) < 500 := by omega
          have cH := has_made (HMc.out.stay HUr.out.1) (tabs_stay HT.out (HUc.out.stay HUr.out.1).1) HL4.out.1 HL4.out.2.1 HL4.out.2.2.1 HL4.out.2.2.2 HR.out HG.out (by omega) x (by omega)
          go_wp2_with fail
          refine cH.mono ?_
          rintro e wh ⟨⟨bh, rfl, hbh⟩, hbb⟩
          have HUh : Hid (Up wc.heap.size wc wh) := HUr.out.stay hbb
          have cC := has1_any (HBc.out.stay HUh.out.1).cell (HOc.out.stay HUh.out.1).tl (by omega) x
          clear cH hbb
          go_wp2_with fail
          refine cC.mono ?_
          rintro e wk ⟨⟨bk, rfl, hbk⟩, hwk⟩
          subst wk
          obtain rfl : bh = bk := by
            rw [Bool.eq_iff_iff, hbh, hbk]
          clear cC hbh hbk
          have hbb : (bh != bh) = false := by simp
          go_wp2
          go_roundg (nx - (i + 1))
          case measure => omega
          case rel => exact ⟨i + 1, by omega, rfl, by go_num, HUh⟩
        · have z2 : ¬ (x.size : Int) < 500 := by omega
          go_wp2
          go_roundg (nx - (i + 1))
          case measure => omega
          case rel => exact ⟨i + 1, by omega, rfl, by go_num, HUr⟩
      · obtain rfl : i = nx := by omega
        have z1 : ¬ (i : Int) < (i : Int) := by omega
        go_wp2
        go_ret
        exact ⟨rfl, (HUc.out.stay HUr.out.1).1⟩
end Go.Proofs.YtbmmjpmgkkljgaaDoor
