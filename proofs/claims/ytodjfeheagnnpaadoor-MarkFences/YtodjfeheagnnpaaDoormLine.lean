/- mark: text, line. -/
import Derived.Test.YtodjfeheagnnpaaDoormThg
namespace Go.Proofs.YtodjfeheagnnpaaDoor
set_option linter.unusedVariables false
open Go.RowKit Go.ChangeShapes Go.Maps
/-- Nothing has changed but two blocks. -/
structure Chg (B gs : Nat) (w w' : World) : Prop where
  os : w'.os = w.os
  tape : w'.tape = w.tape
  output : w'.output = w.output
  size : w.heap.size ≤ w'.heap.size
  block : ∀ g, g < w.heap.size → g ≠ B → g ≠ gs → w'.heap[g]? = w.heap[g]?
theorem Chg.refl (B gs : Nat) (w : World) : Chg B gs w w := ⟨rfl, rfl, rfl, Nat.le_refl _, fun _ _ _ _ => rfl⟩
theorem Chg.trans {B gs : Nat} {a b c : World} (h : Chg B gs a b) (k : Chg B gs b c) : Chg B gs a c :=
  ⟨k.os.trans h.os, k.tape.trans h.tape, k.output.trans h.output, Nat.le_trans h.size k.size, fun g hg h1 h2 => (k.block g (Nat.lt_of_lt_of_le hg h.size) h1 h2).trans (h.block g hg h1 h2)⟩
theorem Chg.stay {B gs : Nat} {a w w' : World} (h : Chg B gs a w) (hb : Below w.heap.size w w') : Chg B gs a w' := h.trans ⟨hb.os, hb.tape, hb.output, hb.size, fun g hg _ _ => hb.block g hg⟩
theorem Chg.grown {B gs : Nat} {a w w' : World} (h : Chg B gs a w) (hg : w.grownBy w' (some gs)) : Chg B gs a w' := h.trans ⟨hg.os, hg.tape, hg.output, hg.size, fun g hl _ hn => hg.block g hl (fun e => hn (Option.some.inj e))⟩
theorem Chg.setB {B gs : Nat} {a w : World} (h : Chg B gs a w) (i : Nat) (v : Value) : Chg B gs a (w.setCell ⟨B, i, none⟩ v) :=
  h.trans ⟨rfl, rfl, rfl, by simp [World.setCell], fun g _ hn _ => heap_setCell_other w ⟨B, i, none⟩ g v hn⟩
theorem Chg.up {B gs B0 : Nat} {a w w' : World} (h : Chg B gs w w') (hU : Up B0 a w) (h1 : B0 ≤ B) (h2 : B0 ≤ gs) : Up B0 a w' :=
  ⟨hU.1.trans ⟨h.os, h.tape, h.output, h.size, fun g hg => h.block g (Nat.lt_of_lt_of_le hg hU.2) (by omega) (by omega)⟩, Nat.le_trans hU.2 h.size⟩
theorem Fl.setS {w : World} {B T : Nat} {av : Value} {s : Int} {k : Nat} {fr : Bool} {mv : Value} (h : Fl w B T av s k fr mv) (s' : Int) : Fl (w.setCell ⟨B, 2, none⟩ (.int .u8 s')) B T av s' k fr mv := ⟨heap_setCell_same _ _ _ _ _ _ h.box⟩
theorem Fl.setK {w : World} {B T : Nat} {av : Value} {s : Int} {k : Nat} {fr : Bool} {mv : Value} (h : Fl w B T av s k fr mv) (k' : Nat) : Fl (w.setCell ⟨B, 3, none⟩ (.int .i64 k')) B T av s k' fr mv := ⟨heap_setCell_same _ _ _ _ _ _ h.box⟩
section
variable {w w' : World} {b off N cap B T gs : Nat} {c L M : Nat → Int} {s : Int} {k : Nat} {fr : Bool} {mv : Value}
theorem En.setFr (h : En w b off N cap B T gs c L s k fr mv) (hs : Sta b N cap B T gs c) (f : Bool) : En (w.setCell ⟨B, 4, none⟩ (.bool f)) b off N cap B T gs c L s k f mv := h.setB hs 4 _ (h.fl.setFr f)
theorem En.setMv (h : En w b off N cap B T gs c L s k fr mv) (hs : Sta b N cap B T gs c) (m : Value) : En (w.setCell ⟨B, 5, none⟩ m) b off N cap B T gs c L s k fr m := h.setB hs 5 _ (h.fl.setMv m)
theorem En.setF (h : En w b off N cap B T gs c L s k fr mv) (hs : Sta b N cap B T gs c) (s' : Int) (k' : Nat) : En ((w.setCell ⟨B, 2, none⟩ (.int .u8 s')).setCell ⟨B, 3, none⟩ (.int .i64 k')) b off N cap B T gs c L s' k' fr mv :=
  (h.setB hs 2 _ (h.fl.setS s')).setB hs 3 _ ((h.fl.setS s').setK k')
end
def LnP (w : World) (b off N cap B T gs : Nat) (c L : Nat → Int) (s : Int) (k : Nat) (fr : Bool) (e : Ending) (w' : World) : Prop := e = .returned (.tuple #[]) ∧ ∃ mv, En w' b off N cap B T gs c L s k fr mv ∧ Chg B gs w w'
set_option maxRecDepth 100000 in
theorem text_any {w : World} {b off N cap B T gs : Nat} {c L : Nat → Int} {s : Int} {k : Nat} {fr : Bool} {mv : Value} (hs : Sta b N cap B T gs c) (hE : En w b off N cap B T gs c L s k fr mv) (n i : Nat) (hi : i < n) (hn : n ≤ N) (hA : AnOk (tr c n) n) :
    Calls Tryd.prog 49 #[.pointer (some ⟨B, 0, none⟩), .int .i64 i, .int .i64 n] w (LnP w b off N cap B T gs c (tx (tr c n) n i L) s k fr) := by
  have hnc : n ≤ cap := Nat.le_trans hn hs.nc
  have hN := hs.n
  have ct := lastRows_any (tr_ch hs.ch hn) (hE.bc.tr hn) (by omega) hnc i (by omega)
  obtain ⟨-, x1, -, -, -, x5⟩ := hE.fl.cells
  have HE : Hid (En w b off N cap B T gs c L s k fr mv ∧ Sta b N cap B T gs c ∧ AnOk (tr c n) n) := ⟨hE, hs, hA⟩
  have hCd : Hid (Ch (tr c n) n) := tr_ch hs.ch hn
  obtain ⟨Q, hQ⟩ : ∃ Q, LnP w b off N cap B T gs c (tx (tr c n) n i L) s k fr = Q := ⟨_, rfl⟩
  have HQ : Hid (LnP w b off N cap B T gs c (tx (tr c n) n i L) s k fr = Q) := hQ
  rw [hQ]
  have z2 : (0 : Int) ≤ (n : Int) := by omega
  have z3 : (n : Int) ≤ (cap : Int) := by omega
  clear hE hs hA hQ
  go_enter Tryd.func49, Tryd.ntmps49
  go_wp2_with fail
  refine ct.mono ?_
  rintro e w1 ⟨g, NN, Mp, rfl, hg, hM, hP, hb⟩
  have hE1 := HE.out.1.stay hb
  have f5 := hE1.fl.free 5
  have y5 := hE1.fl.cells.2.2.2.2.2
  have hE2 := hE1.setMv HE.out.2.1 (.map (some g))
  have hgB : g ≠ B := by have := HE.out.1.fl.lt; omega
  have hggs : g ≠ gs := by have := HE.out.1.sh.row.lt; omega
  have hM2 : MI (w1.setCell ⟨B, 5, none⟩ (.map (some g))) g NN Mp := hM.block (heap_setCell_other w1 ⟨B, 5, none⟩ g _ hgB)
  have hC2 : Chg B gs w (w1.setCell ⟨B, 5, none⟩ (.map (some g))) := ((Chg.refl B gs w).stay hb).setB 5 _
  obtain ⟨W, hW⟩ : ∃ W, w1.setCell ⟨B, 5, none⟩ (.map (some g)) = W := ⟨_, rfl⟩
  rw [hW] at hE2 hM2 hC2
  have HI : Hid (En W b off N cap B T gs c L s k fr (.map (some g)) ∧ MI W g NN Mp ∧ Chg B gs w W) := ⟨hE2, hM2, hC2⟩
  have HP : Hid (LastP (tr c n) n i n Mp) := hP
  clear ct hE1 hE2 hM hM2 hP hb hC2 x1 x5 hg
  go_wp2
  go_loopg [1] (n + 1 - i) (fun q iv wr => ∃ (p : Nat) (L' : Nat → Int), q = n + 1 - p ∧ i ≤ p ∧ p ≤ n + 1 ∧ iv = .int .i64 p ∧ Hid (En wr b off N cap B T gs c L' s k fr (.map (some g)) ∧ MI wr g NN Mp ∧ Chg B gs w wr) ∧ Hid (tx (tr c n) n p L' = tx (tr c n) n i L))
  case atStart => exact ⟨i, L, rfl, Nat.le_refl _, by omega, rfl, HI, rfl⟩
  case round =>
    obtain ⟨p, L', hq, hp1, hp2, rfl, HR, HT⟩ := hrel
    by_cases hlt : p < n
    · have z1 : (p : Int) < (n : Int) := by omega
      have ct := mthing_any HE.out.2.1 HR.out.1 n i hn HR.out.2.1 HP.out HE.out.2.2 p hp1 hlt
      have HX : Hid (tx (tr c n) n (txE (tr c n) n p) (txL L' (tr c n) n p) = tx (tr c n) n i L) := by show _ = _; rw [← tx_one hCd.out hlt]; exact HT.out
      have hxe := txE_gt hCd.out hlt
      obtain ⟨E, hE⟩ : ∃ E, txE (tr c n) n p = E := ⟨_, rfl⟩
      rw [hE] at ct HX hxe
      clear hE
      go_wp2_with fail
      refine ct.mono ?_
      rintro e w2 ⟨rfl, hS, hg2⟩
      have HR2 : Hid (En w2 b off N cap B T gs c (txL L' (tr c n) n p) s k fr (.map (some g)) ∧ MI w2 g NN Mp ∧ Chg B gs w w2) := ⟨HR.out.1.next HE.out.2.1 hS hg2, HR.out.2.1.grown hg2 hggs, HR.out.2.2.grown hg2⟩
      clear ct hS hg2
      go_wp2
      go_roundg (n + 1 - E)
      case measure => omega
      case rel => exact ⟨E, _, rfl, by omega, by omega, rfl, HR2, HX⟩
    · have z1 : ¬ (p : Int) < (n : Int) := by omega
      have HF : Hid (L' = tx (tr c n) n i L) := by show L' = _; rw [← HT.out, tx_end (by omega)]
      go_wp2
      go_end0
      rw [← HQ.out, ← HF.out]
      exact ⟨rfl, _, HR.out.1, HR.out.2.2⟩
theorem stM_k (m : Ms) (d : Nat → Int) (n K : Nat) (h1 : m.k ≤ K) (h2 : n ≤ K) : (stM m d n).k ≤ K := by
  unfold stM
  split
  · split
    · exact Nat.zero_le _
    · exact h1
  · split
    · exact h1
    · split
      · exact h1
      · split
        · show opK d n ≤ K
          have h3 := rwP_le (bdC d n 0) (bdC d n) (bdN d n)
          have h4 := bdN_le d n
          unfold opK
          omega
        · exact h1
set_option maxRecDepth 100000 in
theorem line_a1 {w : World} {b off N cap B T gs : Nat} {c L : Nat → Int} {s : Int} {k : Nat} {fr : Bool} {mv : Value} (hs : Sta b N cap B T gs c) (hE : En w b off N cap B T gs c L s k fr mv) (hk9 : k ≤ 40000) (i n : Nat) (hi : i < n) (hn : n ≤ N) (h0 : 0 < k) (hcl : clP s k (ln c i n) (n - i) = true) :
    Calls Tryd.prog 33 #[.pointer (some ⟨B, 0, none⟩), .int .i64 i, .int .i64 n] w (LnP w b off N cap B T gs c (setL L 4 (i : Int) (n : Int)) 0 0 false) := by
  have hN := hs.n
  have hnc : n ≤ cap := Nat.le_trans hn hs.nc
  have hbig := hs.big
  obtain ⟨x0, x1, -, x3, x4, -⟩ := hE.fl.cells
  have f4 := hE.fl.free 4
  have z1 : (0 : Int) ≤ (i : Int) := by omega
  have z2 : (i : Int) ≤ (n : Int) := by omega
  have z3 : (n : Int) ≤ (cap : Int) := by omega
  have z5 : ¬ cap = i := by omega
  have hE1 := hE.setFr hs false
  have hC1 : Chg B gs w (w.setCell ⟨B, 4, none⟩ (.bool false)) := (Chg.refl B gs w).setB 4 _
  obtain ⟨W, hW⟩ : ∃ W, w.setCell ⟨B, 4, none⟩ (.bool false) = W := ⟨_, rfl⟩
  rw [hW] at hE1 hC1
  obtain ⟨d, hd⟩ : ∃ d, ln c i n = d := ⟨_, rfl⟩
  obtain ⟨m, hm⟩ : ∃ m, n - i = m := ⟨_, rfl⟩
  have hCd := ln_ch hs.ch (show i ≤ n by omega) hn
  have hfr := BC.from (hE1.bc.upto hn) i (show i ≤ n by omega) hnc
  rw [if_neg z5] at hfr
  have hbd : BC W (some ⟨b, off + i, none⟩) (n - i) (ln c i n) := hfr.congr fun j hj => (ln_in hj).symm
  
  rw [hd, hm] at hCd hbd
  obtain ⟨p, hp⟩ : ∃ p, cap - i = p := ⟨_, rfl⟩
  have hmp : m ≤ p := by omega
  have hpb : p ≤ 9223372036854775807 := by omega
  have hm9 : m ≤ 1000000 := by omega
  have HS : Hid (Sta b N cap B T gs c) := hs
  have HE1 : Hid (En W b off N cap B T gs c L s k false mv ∧ Chg B gs w W) := ⟨hE1, hC1⟩
  have HCd : Hid (Ch d m) := hCd
  obtain ⟨y0, y1, y2, y3, y4, y5⟩ := hE1.fl.cells
  obtain ⟨Q, hQ⟩ : ∃ Q, LnP w b off N cap B T gs c (setL L 4 (i : Int) (n : Int)) 0 0 false = Q := ⟨_, rfl⟩
  have HQ : Hid (LnP w b off N cap B T gs c (setL L 4 (i : Int) (n : Int)) 0 0 false = Q) := hQ
  rw [hQ]
  rw [hd, hm] at hcl
  have ctS := set_any HE1.out.1.sh (by omega) 4 (i : Int) (n : Int)
  have HB : Hid (BC W (some ⟨b, off + i, none⟩) m d) := hbd
  have zk : (0 : Int) < (k : Int) := by omega
  clear hd hbd hfr hs hE hE1 hC1 hCd hQ
  go_enter Tryd.func33, Tryd.ntmps33
  go_wp2_with fail
  refine ctS.mono ?_
  rintro e w1 ⟨rfl, hS1, hg1, -⟩
  have hE2 := HE1.out.1.next HS.out hS1 hg1
  have hC2 := HE1.out.2.grown hg1
  have ctC := closed_at HCd.out (HB.out.grown hg1 HS.out.bg) hm9 hmp hpb s k (by omega)
  rw [hcl] at ctC
  obtain ⟨-, -, u2, u3, u4, -⟩ := hE2.fl.cells
  have HE2 : Hid (En w1 b off N cap B T gs c (setL L 4 (i : Int) (n : Int)) s k false mv ∧ Chg B gs w w1) := ⟨hE2, hC2⟩
  clear ctS hS1 hg1 hE2 hC2
  go_wp2_with fail
  refine ctC.mono ?_
  rintro e w2 ⟨rfl, hb2⟩
  have hE3 := HE2.out.1.stay hb2
  have g2 := hE3.fl.free 2
  have g3 := hE3.fl.free 3
  obtain ⟨-, -, v2, v3, -, -⟩ := hE3.fl.cells
  have HE3 : Hid (En w2 b off N cap B T gs c (setL L 4 (i : Int) (n : Int)) s k false mv ∧ Chg B gs w w2) := ⟨hE3, HE2.out.2.stay hb2⟩
  clear ctC hb2 hE3
  go_wp2
  go_end0
  rw [← HQ.out]
  exact ⟨rfl, mv, HE3.out.1.setF HS.out 0 0, (HE3.out.2.setB 2 _).setB 3 _⟩
set_option maxRecDepth 100000 in
theorem line_a2 {w : World} {b off N cap B T gs : Nat} {c L : Nat → Int} {s : Int} {k : Nat} {fr : Bool} {mv : Value} (hs : Sta b N cap B T gs c) (hE : En w b off N cap B T gs c L s k fr mv) (hk9 : k ≤ 40000) (i n : Nat) (hi : i < n) (hn : n ≤ N) (h0 : 0 < k) (hcl : clP s k (ln c i n) (n - i) = false) :
    Calls Tryd.prog 33 #[.pointer (some ⟨B, 0, none⟩), .int .i64 i, .int .i64 n] w (LnP w b off N cap B T gs c (setL L 4 (i : Int) (n : Int)) s k false) := by
  have hN := hs.n
  have hnc : n ≤ cap := Nat.le_trans hn hs.nc
  have hbig := hs.big
  obtain ⟨x0, x1, -, x3, x4, -⟩ := hE.fl.cells
  have f4 := hE.fl.free 4
  have z1 : (0 : Int) ≤ (i : Int) := by omega
  have z2 : (i : Int) ≤ (n : Int) := by omega
  have z3 : (n : Int) ≤ (cap : Int) := by omega
  have z5 : ¬ cap = i := by omega
  have hE1 := hE.setFr hs false
  have hC1 : Chg B gs w (w.setCell ⟨B, 4, none⟩ (.bool false)) := (Chg.refl B gs w).setB 4 _
  obtain ⟨W, hW⟩ : ∃ W, w.setCell ⟨B, 4, none⟩ (.bool false) = W := ⟨_, rfl⟩
  rw [hW] at hE1 hC1
  obtain ⟨d, hd⟩ : ∃ d, ln c i n = d := ⟨_, rfl⟩
  obtain ⟨m, hm⟩ : ∃ m, n - i = m := ⟨_, rfl⟩
  have hCd := ln_ch hs.ch (show i ≤ n by omega) hn
  have hfr := BC.from (hE1.bc.upto hn) i (show i ≤ n by omega) hnc
  rw [if_neg z5] at hfr
  have hbd : BC W (some ⟨b, off + i, none⟩) (n - i) (ln c i n) := hfr.congr fun j hj => (ln_in hj).symm
  
  rw [hd, hm] at hCd hbd
  obtain ⟨p, hp⟩ : ∃ p, cap - i = p := ⟨_, rfl⟩
  have hmp : m ≤ p := by omega
  have hpb : p ≤ 9223372036854775807 := by omega
  have hm9 : m ≤ 1000000 := by omega
  have HS : Hid (Sta b N cap B T gs c) := hs
  have HE1 : Hid (En W b off N cap B T gs c L s k false mv ∧ Chg B gs w W) := ⟨hE1, hC1⟩
  have HCd : Hid (Ch d m) := hCd
  obtain ⟨y0, y1, y2, y3, y4, y5⟩ := hE1.fl.cells
  obtain ⟨Q, hQ⟩ : ∃ Q, LnP w b off N cap B T gs c (setL L 4 (i : Int) (n : Int)) s k false = Q := ⟨_, rfl⟩
  have HQ : Hid (LnP w b off N cap B T gs c (setL L 4 (i : Int) (n : Int)) s k false = Q) := hQ
  rw [hQ]
  rw [hd, hm] at hcl
  have ctS := set_any HE1.out.1.sh (by omega) 4 (i : Int) (n : Int)
  have HB : Hid (BC W (some ⟨b, off + i, none⟩) m d) := hbd
  have zk : (0 : Int) < (k : Int) := by omega
  clear hd hbd hfr hs hE hE1 hC1 hCd hQ
  go_enter Tryd.func33, Tryd.ntmps33
  go_wp2_with fail
  refine ctS.mono ?_
  rintro e w1 ⟨rfl, hS1, hg1, -⟩
  have hE2 := HE1.out.1.next HS.out hS1 hg1
  have hC2 := HE1.out.2.grown hg1
  have ctC := closed_at HCd.out (HB.out.grown hg1 HS.out.bg) hm9 hmp hpb s k (by omega)
  rw [hcl] at ctC
  obtain ⟨-, -, u2, u3, u4, -⟩ := hE2.fl.cells
  have HE2 : Hid (En w1 b off N cap B T gs c (setL L 4 (i : Int) (n : Int)) s k false mv ∧ Chg B gs w w1) := ⟨hE2, hC2⟩
  clear ctS hS1 hg1 hE2 hC2
  go_wp2_with fail
  refine ctC.mono ?_
  rintro e w2 ⟨rfl, hb2⟩
  have hE3 := HE2.out.1.stay hb2
  have HE3 : Hid (En w2 b off N cap B T gs c (setL L 4 (i : Int) (n : Int)) s k false mv ∧ Chg B gs w w2) := ⟨hE3, HE2.out.2.stay hb2⟩
  clear ctC hb2 hE3
  go_wp2
  go_end0
  rw [← HQ.out]
  exact ⟨rfl, mv, HE3.out⟩
set_option maxRecDepth 100000 in
theorem line_b {w : World} {b off N cap B T gs : Nat} {c L : Nat → Int} {s : Int} {k : Nat} {fr : Bool} {mv : Value} (hs : Sta b N cap B T gs c) (hE : En w b off N cap B T gs c L s k fr mv) (hk9 : k ≤ 40000) (i n : Nat) (hi : i < n) (hn : n ≤ N) (h0 : k = 0) (htm : tmN (ln c i n) (n - i) = 0) :
    Calls Tryd.prog 33 #[.pointer (some ⟨B, 0, none⟩), .int .i64 i, .int .i64 n] w (LnP w b off N cap B T gs c L s 0 true) := by
  have hN := hs.n
  have hnc : n ≤ cap := Nat.le_trans hn hs.nc
  have hbig := hs.big
  obtain ⟨x0, x1, -, x3, x4, -⟩ := hE.fl.cells
  have f4 := hE.fl.free 4
  have z1 : (0 : Int) ≤ (i : Int) := by omega
  have z2 : (i : Int) ≤ (n : Int) := by omega
  have z3 : (n : Int) ≤ (cap : Int) := by omega
  have z5 : ¬ cap = i := by omega
  have hE1 := hE.setFr hs false
  have hC1 : Chg B gs w (w.setCell ⟨B, 4, none⟩ (.bool false)) := (Chg.refl B gs w).setB 4 _
  obtain ⟨W, hW⟩ : ∃ W, w.setCell ⟨B, 4, none⟩ (.bool false) = W := ⟨_, rfl⟩
  rw [hW] at hE1 hC1
  obtain ⟨d, hd⟩ : ∃ d, ln c i n = d := ⟨_, rfl⟩
  obtain ⟨m, hm⟩ : ∃ m, n - i = m := ⟨_, rfl⟩
  have hCd := ln_ch hs.ch (show i ≤ n by omega) hn
  have hfr := BC.from (hE1.bc.upto hn) i (show i ≤ n by omega) hnc
  rw [if_neg z5] at hfr
  have hbd : BC W (some ⟨b, off + i, none⟩) (n - i) (ln c i n) := hfr.congr fun j hj => (ln_in hj).symm
  
  rw [hd, hm] at hCd hbd
  obtain ⟨p, hp⟩ : ∃ p, cap - i = p := ⟨_, rfl⟩
  have hmp : m ≤ p := by omega
  have hpb : p ≤ 9223372036854775807 := by omega
  have hm9 : m ≤ 1000000 := by omega
  have HS : Hid (Sta b N cap B T gs c) := hs
  have HE1 : Hid (En W b off N cap B T gs c L s k false mv ∧ Chg B gs w W) := ⟨hE1, hC1⟩
  have HCd : Hid (Ch d m) := hCd
  obtain ⟨y0, y1, y2, y3, y4, y5⟩ := hE1.fl.cells
  obtain ⟨Q, hQ⟩ : ∃ Q, LnP w b off N cap B T gs c L s 0 true = Q := ⟨_, rfl⟩
  have HQ : Hid (LnP w b off N cap B T gs c L s 0 true = Q) := hQ
  rw [hQ]
  rw [hd, hm] at htm
  have ctT := trimmed_at HCd.out.1 hbd hm9 hmp hpb
  subst h0
  rw [htm] at ctT
  clear hd hfr hs hE hE1 hC1 hCd hQ
  go_enter Tryd.func33, Tryd.ntmps33
  go_wp2_with fail
  refine ctT.mono ?_
  rintro e w1 ⟨rfl, hb1⟩
  have hE2 := HE1.out.1.stay hb1
  have g4 := hE2.fl.free 4
  obtain ⟨-, -, -, -, v4, -⟩ := hE2.fl.cells
  have HE2 : Hid (En w1 b off N cap B T gs c L s 0 false mv ∧ Chg B gs w w1) := ⟨hE2, HE1.out.2.stay hb1⟩
  clear ctT hb1 hE2
  go_wp2
  go_end0
  rw [← HQ.out]
  exact ⟨rfl, mv, HE2.out.1.setFr HS.out true, HE2.out.2.setB 4 _⟩
set_option maxRecDepth 100000 in
theorem line_c {w : World} {b off N cap B T gs : Nat} {c L : Nat → Int} {s : Int} {k : Nat} {fr : Bool} {mv : Value} (hs : Sta b N cap B T gs c) (hE : En w b off N cap B T gs c L s k fr mv) (hk9 : k ≤ 40000) (i n : Nat) (hi : i < n) (hn : n ≤ N) (h0 : k = 0) (htm : tmN (ln c i n) (n - i) ≠ 0) (hfr4 : fr = true) (hin : indP (ln c i n) (n - i) = 4) :
    Calls Tryd.prog 33 #[.pointer (some ⟨B, 0, none⟩), .int .i64 i, .int .i64 n] w (LnP w b off N cap B T gs c (setL L 4 (i : Int) (n : Int)) s 0 true) := by
  have hN := hs.n
  have hnc : n ≤ cap := Nat.le_trans hn hs.nc
  have hbig := hs.big
  obtain ⟨x0, x1, -, x3, x4, -⟩ := hE.fl.cells
  have f4 := hE.fl.free 4
  have z1 : (0 : Int) ≤ (i : Int) := by omega
  have z2 : (i : Int) ≤ (n : Int) := by omega
  have z3 : (n : Int) ≤ (cap : Int) := by omega
  have z5 : ¬ cap = i := by omega
  have hE1 := hE.setFr hs false
  have hC1 : Chg B gs w (w.setCell ⟨B, 4, none⟩ (.bool false)) := (Chg.refl B gs w).setB 4 _
  obtain ⟨W, hW⟩ : ∃ W, w.setCell ⟨B, 4, none⟩ (.bool false) = W := ⟨_, rfl⟩
  rw [hW] at hE1 hC1
  obtain ⟨d, hd⟩ : ∃ d, ln c i n = d := ⟨_, rfl⟩
  obtain ⟨m, hm⟩ : ∃ m, n - i = m := ⟨_, rfl⟩
  have hCd := ln_ch hs.ch (show i ≤ n by omega) hn
  have hfr := BC.from (hE1.bc.upto hn) i (show i ≤ n by omega) hnc
  rw [if_neg z5] at hfr
  have hbd : BC W (some ⟨b, off + i, none⟩) (n - i) (ln c i n) := hfr.congr fun j hj => (ln_in hj).symm
  
  rw [hd, hm] at hCd hbd
  obtain ⟨p, hp⟩ : ∃ p, cap - i = p := ⟨_, rfl⟩
  have hmp : m ≤ p := by omega
  have hpb : p ≤ 9223372036854775807 := by omega
  have hm9 : m ≤ 1000000 := by omega
  have HS : Hid (Sta b N cap B T gs c) := hs
  have HE1 : Hid (En W b off N cap B T gs c L s k false mv ∧ Chg B gs w W) := ⟨hE1, hC1⟩
  have HCd : Hid (Ch d m) := hCd
  obtain ⟨y0, y1, y2, y3, y4, y5⟩ := hE1.fl.cells
  obtain ⟨Q, hQ⟩ : ∃ Q, LnP w b off N cap B T gs c (setL L 4 (i : Int) (n : Int)) s 0 true = Q := ⟨_, rfl⟩
  have HQ : Hid (LnP w b off N cap B T gs c (setL L 4 (i : Int) (n : Int)) s 0 true = Q) := hQ
  rw [hQ]
  rw [hd, hm] at hin
  rw [hd, hm] at htm
  have ctT := trimmed_at HCd.out.1 hbd hm9 hmp hpb
  subst h0
  obtain ⟨t, ht⟩ : ∃ t, tmN d m = t := ⟨_, rfl⟩
  rw [ht] at ctT htm
  have zt : ((t : Int) == 0) = false := by simp only [beq_eq_false_iff_ne]; omega
  subst hfr4
  clear hd hs hE hE1 hC1 hCd hQ
  clear ht hfr
  go_enter Tryd.func33, Tryd.ntmps33
  go_wp2_with fail
  refine ctT.mono ?_
  rintro e w1 ⟨rfl, hb1⟩
  have hE2 := HE1.out.1.stay hb1
  have HE2 : Hid (En w1 b off N cap B T gs c L s 0 false mv ∧ Chg B gs w w1) := ⟨hE2, HE1.out.2.stay hb1⟩
  have hbd1 := hbd.stay hb1
  have ctI := indent_at HCd.out hbd1 hm9 hmp
  rw [hin] at ctI
  clear ctT hb1 hE2 hbd1
  go_wp2_with fail
  refine ctI.mono ?_
  rintro e w2 ⟨rfl, hb2⟩
  have hE3 := HE2.out.1.stay hb2
  have ctS := set_any hE3.sh (by omega) 4 (i : Int) (n : Int)
  obtain ⟨v0, -, -, -, -, -⟩ := hE3.fl.cells
  have HE3 : Hid (En w2 b off N cap B T gs c L s 0 false mv ∧ Chg B gs w w2) := ⟨hE3, HE2.out.2.stay hb2⟩
  clear ctI hb2 hE3
  go_wp2_with fail
  refine ctS.mono ?_
  rintro e w3 ⟨rfl, hS3, hg3, -⟩
  have hE4 := HE3.out.1.next HS.out hS3 hg3
  have g4 := hE4.fl.free 4
  obtain ⟨-, -, -, -, v4, -⟩ := hE4.fl.cells
  have HE4 : Hid (En w3 b off N cap B T gs c (setL L 4 (i : Int) (n : Int)) s 0 false mv ∧ Chg B gs w w3) := ⟨hE4, HE3.out.2.grown hg3⟩
  clear ctS hS3 hg3 hE4
  go_wp2
  go_end0
  rw [← HQ.out]
  exact ⟨rfl, mv, HE4.out.1.setFr HS.out true, HE4.out.2.setB 4 _⟩
set_option maxRecDepth 100000 in
theorem line_d1 {w : World} {b off N cap B T gs : Nat} {c L : Nat → Int} {s : Int} {k : Nat} {fr : Bool} {mv : Value} (hs : Sta b N cap B T gs c) (hE : En w b off N cap B T gs c L s k fr mv) (hk9 : k ≤ 40000) (i n : Nat) (hi : i < n) (hn : n ≤ N) (h0 : k = 0) (htm : tmN (ln c i n) (n - i) ≠ 0) (hfr4 : fr = false) (hop : opOk (ln c i n) (n - i) = true) :
    Calls Tryd.prog 33 #[.pointer (some ⟨B, 0, none⟩), .int .i64 i, .int .i64 n] w (LnP w b off N cap B T gs c (setL L 4 (i : Int) (n : Int)) (opS (ln c i n) (n - i)) (opK (ln c i n) (n - i)) false) := by
  have hN := hs.n
  have hnc : n ≤ cap := Nat.le_trans hn hs.nc
  have hbig := hs.big
  obtain ⟨x0, x1, -, x3, x4, -⟩ := hE.fl.cells
  have f4 := hE.fl.free 4
  have z1 : (0 : Int) ≤ (i : Int) := by omega
  have z2 : (i : Int) ≤ (n : Int) := by omega
  have z3 : (n : Int) ≤ (cap : Int) := by omega
  have z5 : ¬ cap = i := by omega
  have hE1 := hE.setFr hs false
  have hC1 : Chg B gs w (w.setCell ⟨B, 4, none⟩ (.bool false)) := (Chg.refl B gs w).setB 4 _
  obtain ⟨W, hW⟩ : ∃ W, w.setCell ⟨B, 4, none⟩ (.bool false) = W := ⟨_, rfl⟩
  rw [hW] at hE1 hC1
  obtain ⟨d, hd⟩ : ∃ d, ln c i n = d := ⟨_, rfl⟩
  obtain ⟨m, hm⟩ : ∃ m, n - i = m := ⟨_, rfl⟩
  have hCd := ln_ch hs.ch (show i ≤ n by omega) hn
  have hfr := BC.from (hE1.bc.upto hn) i (show i ≤ n by omega) hnc
  rw [if_neg z5] at hfr
  have hbd : BC W (some ⟨b, off + i, none⟩) (n - i) (ln c i n) := hfr.congr fun j hj => (ln_in hj).symm
  have HD : Hid (ln c i n = d) := hd
  have HM : Hid (n - i = m) := hm
  rw [hd, hm] at hCd hbd
  obtain ⟨p, hp⟩ : ∃ p, cap - i = p := ⟨_, rfl⟩
  have hmp : m ≤ p := by omega
  have hpb : p ≤ 9223372036854775807 := by omega
  have hm9 : m ≤ 1000000 := by omega
  have HS : Hid (Sta b N cap B T gs c) := hs
  have HE1 : Hid (En W b off N cap B T gs c L s k false mv ∧ Chg B gs w W) := ⟨hE1, hC1⟩
  have HCd : Hid (Ch d m) := hCd
  obtain ⟨y0, y1, y2, y3, y4, y5⟩ := hE1.fl.cells
  obtain ⟨Q, hQ⟩ : ∃ Q, LnP w b off N cap B T gs c (setL L 4 (i : Int) (n : Int)) (opS (ln c i n) (n - i)) (opK (ln c i n) (n - i)) false = Q := ⟨_, rfl⟩
  have HQ : Hid (LnP w b off N cap B T gs c (setL L 4 (i : Int) (n : Int)) (opS (ln c i n) (n - i)) (opK (ln c i n) (n - i)) false = Q) := hQ
  rw [hQ]
  rw [hd, hm] at hop
  subst hfr4
  rw [hd, hm] at htm
  have ctT := trimmed_at HCd.out.1 hbd hm9 hmp hpb
  subst h0
  obtain ⟨t, ht⟩ : ∃ t, tmN d m = t := ⟨_, rfl⟩
  rw [ht] at ctT htm
  have zt : ((t : Int) == 0) = false := by simp only [beq_eq_false_iff_ne]; omega
  clear hd hs hE hE1 hC1 hCd hQ
  clear ht hfr
  go_enter Tryd.func33, Tryd.ntmps33
  go_wp2_with fail
  refine ctT.mono ?_
  rintro e w1 ⟨rfl, hb1⟩
  have hE2 := HE1.out.1.stay hb1
  have HE2 : Hid (En w1 b off N cap B T gs c L s 0 false mv ∧ Chg B gs w w1) := ⟨hE2, HE1.out.2.stay hb1⟩
  have hbd1 := hbd.stay hb1
  have ctO := opens_yes HCd.out hbd1 hm9 hmp hpb HE2.out.1.fl hop
  clear ctT hb1 hE2
  obtain ⟨so, hso⟩ : ∃ so, opS d m = so := ⟨_, rfl⟩
  obtain ⟨ko, hko⟩ : ∃ ko, opK d m = ko := ⟨_, rfl⟩
  rw [hso, hko] at ctO
  go_wp2_with fail
  refine ctO.mono ?_
  rintro e w2 ⟨rfl, w2', hb2, hw2⟩
  have hE3 := (HE2.out.1.stay hb2).setF HS.out so ko
  have hC3 := ((HE2.out.2.stay hb2).setB 2 (.int .u8 so)).setB 3 (.int .i64 ko)
  rw [← hw2] at hE3 hC3
  have ctS := set_any hE3.sh (by omega) 4 (i : Int) (n : Int)
  obtain ⟨v0, -, -, -, -, -⟩ := hE3.fl.cells
  have HE3 : Hid (En w2 b off N cap B T gs c L so ko false mv ∧ Chg B gs w w2) := ⟨hE3, hC3⟩
  have HSO : Hid (opS d m = so ∧ opK d m = ko) := ⟨hso, hko⟩
  clear ctO hb2 hE3 hC3 hw2 hso hko hbd1
  go_wp2_with fail
  refine ctS.mono ?_
  rintro e w3 ⟨rfl, hS3, hg3, -⟩
  have HE4 : Hid (En w3 b off N cap B T gs c (setL L 4 (i : Int) (n : Int)) so ko false mv ∧ Chg B gs w w3) := ⟨HE3.out.1.next HS.out hS3 hg3, HE3.out.2.grown hg3⟩
  clear ctS hS3 hg3
  go_wp2
  go_end0
  rw [← HQ.out, HD.out, HM.out, HSO.out.1, HSO.out.2]
  exact ⟨rfl, mv, HE4.out⟩
set_option maxRecDepth 100000 in
theorem line_e1 {w : World} {b off N cap B T gs : Nat} {c L : Nat → Int} {s : Int} {k : Nat} {fr : Bool} {mv : Value} (hs : Sta b N cap B T gs c) (hE : En w b off N cap B T gs c L s k fr mv) (hk9 : k ≤ 40000) (i n : Nat) (hi : i < n) (hn : n ≤ N) (h0 : k = 0) (htm : tmN (ln c i n) (n - i) ≠ 0) (hfr4 : fr = false) (hop : opOk (ln c i n) (n - i) = false) (hdf : dfP (ln c i n) (n - i) = true) :
    Calls Tryd.prog 33 #[.pointer (some ⟨B, 0, none⟩), .int .i64 i, .int .i64 n] w (LnP w b off N cap B T gs c (setL L 2 (i : Int) (n : Int)) s 0 false) := by
  have hN := hs.n
  have hnc : n ≤ cap := Nat.le_trans hn hs.nc
  have hbig := hs.big
  obtain ⟨x0, x1, -, x3, x4, -⟩ := hE.fl.cells
  have f4 := hE.fl.free 4
  have z1 : (0 : Int) ≤ (i : Int) := by omega
  have z2 : (i : Int) ≤ (n : Int) := by omega
  have z3 : (n : Int) ≤ (cap : Int) := by omega
  have z5 : ¬ cap = i := by omega
  have hE1 := hE.setFr hs false
  have hC1 : Chg B gs w (w.setCell ⟨B, 4, none⟩ (.bool false)) := (Chg.refl B gs w).setB 4 _
  obtain ⟨W, hW⟩ : ∃ W, w.setCell ⟨B, 4, none⟩ (.bool false) = W := ⟨_, rfl⟩
  rw [hW] at hE1 hC1
  obtain ⟨d, hd⟩ : ∃ d, ln c i n = d := ⟨_, rfl⟩
  obtain ⟨m, hm⟩ : ∃ m, n - i = m := ⟨_, rfl⟩
  have hCd := ln_ch hs.ch (show i ≤ n by omega) hn
  have hfr := BC.from (hE1.bc.upto hn) i (show i ≤ n by omega) hnc
  rw [if_neg z5] at hfr
  have hbd : BC W (some ⟨b, off + i, none⟩) (n - i) (ln c i n) := hfr.congr fun j hj => (ln_in hj).symm
  
  rw [hd, hm] at hCd hbd
  obtain ⟨p, hp⟩ : ∃ p, cap - i = p := ⟨_, rfl⟩
  have hmp : m ≤ p := by omega
  have hpb : p ≤ 9223372036854775807 := by omega
  have hm9 : m ≤ 1000000 := by omega
  have HS : Hid (Sta b N cap B T gs c) := hs
  have HE1 : Hid (En W b off N cap B T gs c L s k false mv ∧ Chg B gs w W) := ⟨hE1, hC1⟩
  have HCd : Hid (Ch d m) := hCd
  obtain ⟨y0, y1, y2, y3, y4, y5⟩ := hE1.fl.cells
  obtain ⟨Q, hQ⟩ : ∃ Q, LnP w b off N cap B T gs c (setL L 2 (i : Int) (n : Int)) s 0 false = Q := ⟨_, rfl⟩
  have HQ : Hid (LnP w b off N cap B T gs c (setL L 2 (i : Int) (n : Int)) s 0 false = Q) := hQ
  rw [hQ]
  rw [hd, hm] at hop hdf
  subst hfr4
  rw [hd, hm] at htm
  have ctT := trimmed_at HCd.out.1 hbd hm9 hmp hpb
  subst h0
  obtain ⟨t, ht⟩ : ∃ t, tmN d m = t := ⟨_, rfl⟩
  rw [ht] at ctT htm
  have zt : ((t : Int) == 0) = false := by simp only [beq_eq_false_iff_ne]; omega
  clear hd hs hE hE1 hC1 hCd hQ
  clear ht hfr
  go_enter Tryd.func33, Tryd.ntmps33
  go_wp2_with fail
  refine ctT.mono ?_
  rintro e w1 ⟨rfl, hb1⟩
  have hE2 := HE1.out.1.stay hb1
  have HE2 : Hid (En w1 b off N cap B T gs c L s 0 false mv ∧ Chg B gs w w1) := ⟨hE2, HE1.out.2.stay hb1⟩
  have hbd1 := hbd.stay hb1
  have ctO := opens_no (B := B) (T := T) (av := mv) (s0 := 0) (k0 := 0) (fr := true) (mv := mv) HCd.out hbd1 hm9 hmp hpb hop
  clear ctT hb1 hE2
  go_wp2_with fail
  refine ctO.mono ?_
  rintro e w2 ⟨rfl, hb2⟩
  have hE3 := HE2.out.1.stay hb2
  have HE3 : Hid (En w2 b off N cap B T gs c L s 0 false mv ∧ Chg B gs w w2) := ⟨hE3, HE2.out.2.stay hb2⟩
  have ctD := defines_at HCd.out (hbd1.stay hb2) hm9 hmp hpb
  rw [hdf] at ctD
  clear ctO hb2 hE3 hbd1
  go_wp2_with fail
  refine ctD.mono ?_
  rintro e w3 ⟨rfl, hb3⟩
  have hE4 := HE3.out.1.stay hb3
  obtain ⟨v0, -, -, -, -, -⟩ := hE4.fl.cells
  have HE4 : Hid (En w3 b off N cap B T gs c L s 0 false mv ∧ Chg B gs w w3) := ⟨hE4, HE3.out.2.stay hb3⟩
  have ctS := set_any hE4.sh (by omega) 2 (i : Int) (n : Int)
  clear ctD hb3 hE4
  go_wp2_with fail
  refine ctS.mono ?_
  rintro e w4 ⟨rfl, hS3, hg3, -⟩
  have HE5 : Hid (En w4 b off N cap B T gs c (setL L 2 (i : Int) (n : Int)) s 0 false mv ∧ Chg B gs w w4) := ⟨HE4.out.1.next HS.out hS3 hg3, HE4.out.2.grown hg3⟩
  clear ctS hS3 hg3
  go_wp2
  go_end0
  rw [← HQ.out]
  exact ⟨rfl, mv, HE5.out⟩
set_option maxRecDepth 100000 in
theorem line_f1 {w : World} {b off N cap B T gs : Nat} {c L : Nat → Int} {s : Int} {k : Nat} {fr : Bool} {mv : Value} (hs : Sta b N cap B T gs c) (hE : En w b off N cap B T gs c L s k fr mv) (hk9 : k ≤ 40000) (i n : Nat) (hi : i < n) (hn : n ≤ N) (h0 : k = 0) (htm : tmN (ln c i n) (n - i) ≠ 0) (hfr4 : fr = false) (hop : opOk (ln c i n) (n - i) = false) (hdf : dfP (ln c i n) (n - i) = false) (hA : AnOk (tr c n) n) :
    Calls Tryd.prog 33 #[.pointer (some ⟨B, 0, none⟩), .int .i64 i, .int .i64 n] w (LnP w b off N cap B T gs c (tx (tr c n) n i L) s 0 false) := by
  have hN := hs.n
  have hnc : n ≤ cap := Nat.le_trans hn hs.nc
  have hbig := hs.big
  obtain ⟨x0, x1, -, x3, x4, -⟩ := hE.fl.cells
  have f4 := hE.fl.free 4
  have z1 : (0 : Int) ≤ (i : Int) := by omega
  have z2 : (i : Int) ≤ (n : Int) := by omega
  have z3 : (n : Int) ≤ (cap : Int) := by omega
  have z5 : ¬ cap = i := by omega
  have hE1 := hE.setFr hs false
  have hC1 : Chg B gs w (w.setCell ⟨B, 4, none⟩ (.bool false)) := (Chg.refl B gs w).setB 4 _
  obtain ⟨W, hW⟩ : ∃ W, w.setCell ⟨B, 4, none⟩ (.bool false) = W := ⟨_, rfl⟩
  rw [hW] at hE1 hC1
  obtain ⟨d, hd⟩ : ∃ d, ln c i n = d := ⟨_, rfl⟩
  obtain ⟨m, hm⟩ : ∃ m, n - i = m := ⟨_, rfl⟩
  have hCd := ln_ch hs.ch (show i ≤ n by omega) hn
  have hfr := BC.from (hE1.bc.upto hn) i (show i ≤ n by omega) hnc
  rw [if_neg z5] at hfr
  have hbd : BC W (some ⟨b, off + i, none⟩) (n - i) (ln c i n) := hfr.congr fun j hj => (ln_in hj).symm
  
  rw [hd, hm] at hCd hbd
  obtain ⟨p, hp⟩ : ∃ p, cap - i = p := ⟨_, rfl⟩
  have hmp : m ≤ p := by omega
  have hpb : p ≤ 9223372036854775807 := by omega
  have hm9 : m ≤ 1000000 := by omega
  have HS : Hid (Sta b N cap B T gs c) := hs
  have HE1 : Hid (En W b off N cap B T gs c L s k false mv ∧ Chg B gs w W) := ⟨hE1, hC1⟩
  have HCd : Hid (Ch d m) := hCd
  obtain ⟨y0, y1, y2, y3, y4, y5⟩ := hE1.fl.cells
  obtain ⟨Q, hQ⟩ : ∃ Q, LnP w b off N cap B T gs c (tx (tr c n) n i L) s 0 false = Q := ⟨_, rfl⟩
  have HQ : Hid (LnP w b off N cap B T gs c (tx (tr c n) n i L) s 0 false = Q) := hQ
  rw [hQ]
  rw [hd, hm] at hop hdf
  subst hfr4
  rw [hd, hm] at htm
  have ctT := trimmed_at HCd.out.1 hbd hm9 hmp hpb
  subst h0
  obtain ⟨t, ht⟩ : ∃ t, tmN d m = t := ⟨_, rfl⟩
  rw [ht] at ctT htm
  have zt : ((t : Int) == 0) = false := by simp only [beq_eq_false_iff_ne]; omega
  have HA : Hid (AnOk (tr c n) n) := hA
  clear hd hs hE hE1 hC1 hCd hQ
  clear ht hfr hA
  go_enter Tryd.func33, Tryd.ntmps33
  go_wp2_with fail
  refine ctT.mono ?_
  rintro e w1 ⟨rfl, hb1⟩
  have hE2 := HE1.out.1.stay hb1
  have HE2 : Hid (En w1 b off N cap B T gs c L s 0 false mv ∧ Chg B gs w w1) := ⟨hE2, HE1.out.2.stay hb1⟩
  have hbd1 := hbd.stay hb1
  have ctO := opens_no (B := B) (T := T) (av := mv) (s0 := 0) (k0 := 0) (fr := true) (mv := mv) HCd.out hbd1 hm9 hmp hpb hop
  clear ctT hb1 hE2
  go_wp2_with fail
  refine ctO.mono ?_
  rintro e w2 ⟨rfl, hb2⟩
  have hE3 := HE2.out.1.stay hb2
  have HE3 : Hid (En w2 b off N cap B T gs c L s 0 false mv ∧ Chg B gs w w2) := ⟨hE3, HE2.out.2.stay hb2⟩
  have ctD := defines_at HCd.out (hbd1.stay hb2) hm9 hmp hpb
  rw [hdf] at ctD
  clear ctO hb2 hE3 hbd1
  go_wp2_with fail
  refine ctD.mono ?_
  rintro e w3 ⟨rfl, hb3⟩
  have hE4 := HE3.out.1.stay hb3
  obtain ⟨v0, -, -, -, -, -⟩ := hE4.fl.cells
  have HE4 : Hid (En w3 b off N cap B T gs c L s 0 false mv ∧ Chg B gs w w3) := ⟨hE4, HE3.out.2.stay hb3⟩
  have ctS := text_any HS.out hE4 n i hi hn HA.out
  clear ctD hb3 hE4
  go_wp2_with fail
  refine ctS.mono ?_
  rintro e w4 ⟨rfl, mv2, hE5, hC5⟩
  have HE5 : Hid (En w4 b off N cap B T gs c (tx (tr c n) n i L) s 0 false mv2 ∧ Chg B gs w w4) := ⟨hE5, HE4.out.2.trans hC5⟩
  clear ctS hE5 hC5
  go_wp2
  go_end0
  rw [← HQ.out]
  exact ⟨rfl, mv2, HE5.out⟩
set_option maxRecDepth 100000 in
theorem line_d2 {w : World} {b off N cap B T gs : Nat} {c L : Nat → Int} {s : Int} {k : Nat} {fr : Bool} {mv : Value} (hs : Sta b N cap B T gs c) (hE : En w b off N cap B T gs c L s k fr mv) (hk9 : k ≤ 40000) (i n : Nat) (hi : i < n) (hn : n ≤ N) (h0 : k = 0) (htm : tmN (ln c i n) (n - i) ≠ 0) (hfr4 : fr = true) (hin : indP (ln c i n) (n - i) ≠ 4) (hop : opOk (ln c i n) (n - i) = true) :
    Calls Tryd.prog 33 #[.pointer (some ⟨B, 0, none⟩), .int .i64 i, .int .i64 n] w (LnP w b off N cap B T gs c (setL L 4 (i : Int) (n : Int)) (opS (ln c i n) (n - i)) (opK (ln c i n) (n - i)) false) := by
  have hN := hs.n
  have hnc : n ≤ cap := Nat.le_trans hn hs.nc
  have hbig := hs.big
  obtain ⟨x0, x1, -, x3, x4, -⟩ := hE.fl.cells
  have f4 := hE.fl.free 4
  have z1 : (0 : Int) ≤ (i : Int) := by omega
  have z2 : (i : Int) ≤ (n : Int) := by omega
  have z3 : (n : Int) ≤ (cap : Int) := by omega
  have z5 : ¬ cap = i := by omega
  have hE1 := hE.setFr hs false
  have hC1 : Chg B gs w (w.setCell ⟨B, 4, none⟩ (.bool false)) := (Chg.refl B gs w).setB 4 _
  obtain ⟨W, hW⟩ : ∃ W, w.setCell ⟨B, 4, none⟩ (.bool false) = W := ⟨_, rfl⟩
  rw [hW] at hE1 hC1
  obtain ⟨d, hd⟩ : ∃ d, ln c i n = d := ⟨_, rfl⟩
  obtain ⟨m, hm⟩ : ∃ m, n - i = m := ⟨_, rfl⟩
  have hCd := ln_ch hs.ch (show i ≤ n by omega) hn
  have hfr := BC.from (hE1.bc.upto hn) i (show i ≤ n by omega) hnc
  rw [if_neg z5] at hfr
  have hbd : BC W (some ⟨b, off + i, none⟩) (n - i) (ln c i n) := hfr.congr fun j hj => (ln_in hj).symm
  have HD : Hid (ln c i n = d) := hd
  have HM : Hid (n - i = m) := hm
  rw [hd, hm] at hCd hbd
  obtain ⟨p, hp⟩ : ∃ p, cap - i = p := ⟨_, rfl⟩
  have hmp : m ≤ p := by omega
  have hpb : p ≤ 9223372036854775807 := by omega
  have hm9 : m ≤ 1000000 := by omega
  have HS : Hid (Sta b N cap B T gs c) := hs
  have HE1 : Hid (En W b off N cap B T gs c L s k false mv ∧ Chg B gs w W) := ⟨hE1, hC1⟩
  have HCd : Hid (Ch d m) := hCd
  obtain ⟨y0, y1, y2, y3, y4, y5⟩ := hE1.fl.cells
  obtain ⟨Q, hQ⟩ : ∃ Q, LnP w b off N cap B T gs c (setL L 4 (i : Int) (n : Int)) (opS (ln c i n) (n - i)) (opK (ln c i n) (n - i)) false = Q := ⟨_, rfl⟩
  have HQ : Hid (LnP w b off N cap B T gs c (setL L 4 (i : Int) (n : Int)) (opS (ln c i n) (n - i)) (opK (ln c i n) (n - i)) false = Q) := hQ
  rw [hQ]
  rw [hd, hm] at hop
  subst hfr4
  rw [hd, hm] at hin
  obtain ⟨u, hu⟩ : ∃ u, indP d m = u := ⟨_, rfl⟩
  rw [hu] at hin
  have zu : ((u : Int) == 4) = false := by simp only [beq_eq_false_iff_ne]; omega
  rw [hd, hm] at htm
  have ctT := trimmed_at HCd.out.1 hbd hm9 hmp hpb
  subst h0
  obtain ⟨t, ht⟩ : ∃ t, tmN d m = t := ⟨_, rfl⟩
  rw [ht] at ctT htm
  have zt : ((t : Int) == 0) = false := by simp only [beq_eq_false_iff_ne]; omega
  clear hd hs hE hE1 hC1 hCd hQ
  clear ht hfr
  go_enter Tryd.func33, Tryd.ntmps33
  go_wp2_with fail
  refine ctT.mono ?_
  rintro e w1 ⟨rfl, hb1⟩
  have hE2 := HE1.out.1.stay hb1
  have HE2 : Hid (En w1 b off N cap B T gs c L s 0 false mv ∧ Chg B gs w w1) := ⟨hE2, HE1.out.2.stay hb1⟩
  have hbd1 := hbd.stay hb1
  have ctI := indent_at HCd.out hbd1 hm9 hmp
  rw [hu] at ctI
  clear ctT hb1 hE2
  go_wp2_with fail
  refine ctI.mono ?_
  rintro e w1b ⟨rfl, hb1b⟩
  have hE2 := HE2.out.1.stay hb1b
  have HE2b : Hid (En w1b b off N cap B T gs c L s 0 false mv ∧ Chg B gs w w1b) := ⟨hE2, HE2.out.2.stay hb1b⟩
  have hbd1b := hbd1.stay hb1b
  clear hbd1 HE2 ctI hb1b
  have ctO := opens_yes HCd.out hbd1b hm9 hmp hpb HE2b.out.1.fl hop
  clear hE2
  obtain ⟨so, hso⟩ : ∃ so, opS d m = so := ⟨_, rfl⟩
  obtain ⟨ko, hko⟩ : ∃ ko, opK d m = ko := ⟨_, rfl⟩
  rw [hso, hko] at ctO
  go_wp2_with fail
  refine ctO.mono ?_
  rintro e w2 ⟨rfl, w2', hb2, hw2⟩
  have hE3 := (HE2b.out.1.stay hb2).setF HS.out so ko
  have hC3 := ((HE2b.out.2.stay hb2).setB 2 (.int .u8 so)).setB 3 (.int .i64 ko)
  rw [← hw2] at hE3 hC3
  have ctS := set_any hE3.sh (by omega) 4 (i : Int) (n : Int)
  obtain ⟨v0, -, -, -, -, -⟩ := hE3.fl.cells
  have HE3 : Hid (En w2 b off N cap B T gs c L so ko false mv ∧ Chg B gs w w2) := ⟨hE3, hC3⟩
  have HSO : Hid (opS d m = so ∧ opK d m = ko) := ⟨hso, hko⟩
  clear ctO hb2 hE3 hC3 hw2 hso hko hbd1b
  go_wp2_with fail
  refine ctS.mono ?_
  rintro e w3 ⟨rfl, hS3, hg3, -⟩
  have HE4 : Hid (En w3 b off N cap B T gs c (setL L 4 (i : Int) (n : Int)) so ko false mv ∧ Chg B gs w w3) := ⟨HE3.out.1.next HS.out hS3 hg3, HE3.out.2.grown hg3⟩
  clear ctS hS3 hg3
  go_wp2
  go_end0
  rw [← HQ.out, HD.out, HM.out, HSO.out.1, HSO.out.2]
  exact ⟨rfl, mv, HE4.out⟩
set_option maxRecDepth 100000 in
theorem line_e2 {w : World} {b off N cap B T gs : Nat} {c L : Nat → Int} {s : Int} {k : Nat} {fr : Bool} {mv : Value} (hs : Sta b N cap B T gs c) (hE : En w b off N cap B T gs c L s k fr mv) (hk9 : k ≤ 40000) (i n : Nat) (hi : i < n) (hn : n ≤ N) (h0 : k = 0) (htm : tmN (ln c i n) (n - i) ≠ 0) (hfr4 : fr = true) (hin : indP (ln c i n) (n - i) ≠ 4) (hop : opOk (ln c i n) (n - i) = false) (hdf : dfP (ln c i n) (n - i) = true) :
    Calls Tryd.prog 33 #[.pointer (some ⟨B, 0, none⟩), .int .i64 i, .int .i64 n] w (LnP w b off N cap B T gs c (setL L 2 (i : Int) (n : Int)) s 0 false) := by
  have hN := hs.n
  have hnc : n ≤ cap := Nat.le_trans hn hs.nc
  have hbig := hs.big
  obtain ⟨x0, x1, -, x3, x4, -⟩ := hE.fl.cells
  have f4 := hE.fl.free 4
  have z1 : (0 : Int) ≤ (i : Int) := by omega
  have z2 : (i : Int) ≤ (n : Int) := by omega
  have z3 : (n : Int) ≤ (cap : Int) := by omega
  have z5 : ¬ cap = i := by omega
  have hE1 := hE.setFr hs false
  have hC1 : Chg B gs w (w.setCell ⟨B, 4, none⟩ (.bool false)) := (Chg.refl B gs w).setB 4 _
  obtain ⟨W, hW⟩ : ∃ W, w.setCell ⟨B, 4, none⟩ (.bool false) = W := ⟨_, rfl⟩
  rw [hW] at hE1 hC1
  obtain ⟨d, hd⟩ : ∃ d, ln c i n = d := ⟨_, rfl⟩
  obtain ⟨m, hm⟩ : ∃ m, n - i = m := ⟨_, rfl⟩
  have hCd := ln_ch hs.ch (show i ≤ n by omega) hn
  have hfr := BC.from (hE1.bc.upto hn) i (show i ≤ n by omega) hnc
  rw [if_neg z5] at hfr
  have hbd : BC W (some ⟨b, off + i, none⟩) (n - i) (ln c i n) := hfr.congr fun j hj => (ln_in hj).symm
  
  rw [hd, hm] at hCd hbd
  obtain ⟨p, hp⟩ : ∃ p, cap - i = p := ⟨_, rfl⟩
  have hmp : m ≤ p := by omega
  have hpb : p ≤ 9223372036854775807 := by omega
  have hm9 : m ≤ 1000000 := by omega
  have HS : Hid (Sta b N cap B T gs c) := hs
  have HE1 : Hid (En W b off N cap B T gs c L s k false mv ∧ Chg B gs w W) := ⟨hE1, hC1⟩
  have HCd : Hid (Ch d m) := hCd
  obtain ⟨y0, y1, y2, y3, y4, y5⟩ := hE1.fl.cells
  obtain ⟨Q, hQ⟩ : ∃ Q, LnP w b off N cap B T gs c (setL L 2 (i : Int) (n : Int)) s 0 false = Q := ⟨_, rfl⟩
  have HQ : Hid (LnP w b off N cap B T gs c (setL L 2 (i : Int) (n : Int)) s 0 false = Q) := hQ
  rw [hQ]
  rw [hd, hm] at hop hdf
  subst hfr4
  rw [hd, hm] at hin
  obtain ⟨u, hu⟩ : ∃ u, indP d m = u := ⟨_, rfl⟩
  rw [hu] at hin
  have zu : ((u : Int) == 4) = false := by simp only [beq_eq_false_iff_ne]; omega
  rw [hd, hm] at htm
  have ctT := trimmed_at HCd.out.1 hbd hm9 hmp hpb
  subst h0
  obtain ⟨t, ht⟩ : ∃ t, tmN d m = t := ⟨_, rfl⟩
  rw [ht] at ctT htm
  have zt : ((t : Int) == 0) = false := by simp only [beq_eq_false_iff_ne]; omega
  clear hd hs hE hE1 hC1 hCd hQ
  clear ht hfr
  go_enter Tryd.func33, Tryd.ntmps33
  go_wp2_with fail
  refine ctT.mono ?_
  rintro e w1 ⟨rfl, hb1⟩
  have hE2 := HE1.out.1.stay hb1
  have HE2 : Hid (En w1 b off N cap B T gs c L s 0 false mv ∧ Chg B gs w w1) := ⟨hE2, HE1.out.2.stay hb1⟩
  have hbd1 := hbd.stay hb1
  have ctI := indent_at HCd.out hbd1 hm9 hmp
  rw [hu] at ctI
  clear ctT hb1 hE2
  go_wp2_with fail
  refine ctI.mono ?_
  rintro e w1b ⟨rfl, hb1b⟩
  have hE2 := HE2.out.1.stay hb1b
  have HE2b : Hid (En w1b b off N cap B T gs c L s 0 false mv ∧ Chg B gs w w1b) := ⟨hE2, HE2.out.2.stay hb1b⟩
  have hbd1b := hbd1.stay hb1b
  clear hbd1 HE2 ctI hb1b
  have ctO := opens_no (B := B) (T := T) (av := mv) (s0 := 0) (k0 := 0) (fr := true) (mv := mv) HCd.out hbd1b hm9 hmp hpb hop
  clear hE2
  go_wp2_with fail
  refine ctO.mono ?_
  rintro e w2 ⟨rfl, hb2⟩
  have hE3 := HE2b.out.1.stay hb2
  have HE3 : Hid (En w2 b off N cap B T gs c L s 0 false mv ∧ Chg B gs w w2) := ⟨hE3, HE2b.out.2.stay hb2⟩
  have ctD := defines_at HCd.out (hbd1b.stay hb2) hm9 hmp hpb
  rw [hdf] at ctD
  clear ctO hb2 hE3 hbd1b
  go_wp2_with fail
  refine ctD.mono ?_
  rintro e w3 ⟨rfl, hb3⟩
  have hE4 := HE3.out.1.stay hb3
  obtain ⟨v0, -, -, -, -, -⟩ := hE4.fl.cells
  have HE4 : Hid (En w3 b off N cap B T gs c L s 0 false mv ∧ Chg B gs w w3) := ⟨hE4, HE3.out.2.stay hb3⟩
  have ctS := set_any hE4.sh (by omega) 2 (i : Int) (n : Int)
  clear ctD hb3 hE4
  go_wp2_with fail
  refine ctS.mono ?_
  rintro e w4 ⟨rfl, hS3, hg3, -⟩
  have HE5 : Hid (En w4 b off N cap B T gs c (setL L 2 (i : Int) (n : Int)) s 0 false mv ∧ Chg B gs w w4) := ⟨HE4.out.1.next HS.out hS3 hg3, HE4.out.2.grown hg3⟩
  clear ctS hS3 hg3
  go_wp2
  go_end0
  rw [← HQ.out]
  exact ⟨rfl, mv, HE5.out⟩
set_option maxRecDepth 100000 in
theorem line_f2 {w : World} {b off N cap B T gs : Nat} {c L : Nat → Int} {s : Int} {k : Nat} {fr : Bool} {mv : Value} (hs : Sta b N cap B T gs c) (hE : En w b off N cap B T gs c L s k fr mv) (hk9 : k ≤ 40000) (i n : Nat) (hi : i < n) (hn : n ≤ N) (h0 : k = 0) (htm : tmN (ln c i n) (n - i) ≠ 0) (hfr4 : fr = true) (hin : indP (ln c i n) (n - i) ≠ 4) (hop : opOk (ln c i n) (n - i) = false) (hdf : dfP (ln c i n) (n - i) = false) (hA : AnOk (tr c n) n) :
    Calls Tryd.prog 33 #[.pointer (some ⟨B, 0, none⟩), .int .i64 i, .int .i64 n] w (LnP w b off N cap B T gs c (tx (tr c n) n i L) s 0 false) := by
  have hN := hs.n
  have hnc : n ≤ cap := Nat.le_trans hn hs.nc
  have hbig := hs.big
  obtain ⟨x0, x1, -, x3, x4, -⟩ := hE.fl.cells
  have f4 := hE.fl.free 4
  have z1 : (0 : Int) ≤ (i : Int) := by omega
  have z2 : (i : Int) ≤ (n : Int) := by omega
  have z3 : (n : Int) ≤ (cap : Int) := by omega
  have z5 : ¬ cap = i := by omega
  have hE1 := hE.setFr hs false
  have hC1 : Chg B gs w (w.setCell ⟨B, 4, none⟩ (.bool false)) := (Chg.refl B gs w).setB 4 _
  obtain ⟨W, hW⟩ : ∃ W, w.setCell ⟨B, 4, none⟩ (.bool false) = W := ⟨_, rfl⟩
  rw [hW] at hE1 hC1
  obtain ⟨d, hd⟩ : ∃ d, ln c i n = d := ⟨_, rfl⟩
  obtain ⟨m, hm⟩ : ∃ m, n - i = m := ⟨_, rfl⟩
  have hCd := ln_ch hs.ch (show i ≤ n by omega) hn
  have hfr := BC.from (hE1.bc.upto hn) i (show i ≤ n by omega) hnc
  rw [if_neg z5] at hfr
  have hbd : BC W (some ⟨b, off + i, none⟩) (n - i) (ln c i n) := hfr.congr fun j hj => (ln_in hj).symm
  
  rw [hd, hm] at hCd hbd
  obtain ⟨p, hp⟩ : ∃ p, cap - i = p := ⟨_, rfl⟩
  have hmp : m ≤ p := by omega
  have hpb : p ≤ 9223372036854775807 := by omega
  have hm9 : m ≤ 1000000 := by omega
  have HS : Hid (Sta b N cap B T gs c) := hs
  have HE1 : Hid (En W b off N cap B T gs c L s k false mv ∧ Chg B gs w W) := ⟨hE1, hC1⟩
  have HCd : Hid (Ch d m) := hCd
  obtain ⟨y0, y1, y2, y3, y4, y5⟩ := hE1.fl.cells
  obtain ⟨Q, hQ⟩ : ∃ Q, LnP w b off N cap B T gs c (tx (tr c n) n i L) s 0 false = Q := ⟨_, rfl⟩
  have HQ : Hid (LnP w b off N cap B T gs c (tx (tr c n) n i L) s 0 false = Q) := hQ
  rw [hQ]
  rw [hd, hm] at hop hdf
  subst hfr4
  rw [hd, hm] at hin
  obtain ⟨u, hu⟩ : ∃ u, indP d m = u := ⟨_, rfl⟩
  rw [hu] at hin
  have zu : ((u : Int) == 4) = false := by simp only [beq_eq_false_iff_ne]; omega
  rw [hd, hm] at htm
  have ctT := trimmed_at HCd.out.1 hbd hm9 hmp hpb
  subst h0
  obtain ⟨t, ht⟩ : ∃ t, tmN d m = t := ⟨_, rfl⟩
  rw [ht] at ctT htm
  have zt : ((t : Int) == 0) = false := by simp only [beq_eq_false_iff_ne]; omega
  have HA : Hid (AnOk (tr c n) n) := hA
  clear hd hs hE hE1 hC1 hCd hQ
  clear ht hfr hA
  go_enter Tryd.func33, Tryd.ntmps33
  go_wp2_with fail
  refine ctT.mono ?_
  rintro e w1 ⟨rfl, hb1⟩
  have hE2 := HE1.out.1.stay hb1
  have HE2 : Hid (En w1 b off N cap B T gs c L s 0 false mv ∧ Chg B gs w w1) := ⟨hE2, HE1.out.2.stay hb1⟩
  have hbd1 := hbd.stay hb1
  have ctI := indent_at HCd.out hbd1 hm9 hmp
  rw [hu] at ctI
  clear ctT hb1 hE2
  go_wp2_with fail
  refine ctI.mono ?_
  rintro e w1b ⟨rfl, hb1b⟩
  have hE2 := HE2.out.1.stay hb1b
  have HE2b : Hid (En w1b b off N cap B T gs c L s 0 false mv ∧ Chg B gs w w1b) := ⟨hE2, HE2.out.2.stay hb1b⟩
  have hbd1b := hbd1.stay hb1b
  clear hbd1 HE2 ctI hb1b
  have ctO := opens_no (B := B) (T := T) (av := mv) (s0 := 0) (k0 := 0) (fr := true) (mv := mv) HCd.out hbd1b hm9 hmp hpb hop
  clear hE2
  go_wp2_with fail
  refine ctO.mono ?_
  rintro e w2 ⟨rfl, hb2⟩
  have hE3 := HE2b.out.1.stay hb2
  have HE3 : Hid (En w2 b off N cap B T gs c L s 0 false mv ∧ Chg B gs w w2) := ⟨hE3, HE2b.out.2.stay hb2⟩
  have ctD := defines_at HCd.out (hbd1b.stay hb2) hm9 hmp hpb
  rw [hdf] at ctD
  clear ctO hb2 hE3 hbd1b
  go_wp2_with fail
  refine ctD.mono ?_
  rintro e w3 ⟨rfl, hb3⟩
  have hE4 := HE3.out.1.stay hb3
  obtain ⟨v0, -, -, -, -, -⟩ := hE4.fl.cells
  have HE4 : Hid (En w3 b off N cap B T gs c L s 0 false mv ∧ Chg B gs w w3) := ⟨hE4, HE3.out.2.stay hb3⟩
  have ctS := text_any HS.out hE4 n i hi hn HA.out
  clear ctD hb3 hE4
  go_wp2_with fail
  refine ctS.mono ?_
  rintro e w4 ⟨rfl, mv2, hE5, hC5⟩
  have HE5 : Hid (En w4 b off N cap B T gs c (tx (tr c n) n i L) s 0 false mv2 ∧ Chg B gs w w4) := ⟨hE5, HE4.out.2.trans hC5⟩
  clear ctS hE5 hC5
  go_wp2
  go_end0
  rw [← HQ.out]
  exact ⟨rfl, mv2, HE5.out⟩
theorem line_any {w : World} {b off N cap B T gs : Nat} {c L : Nat → Int} {mv : Value} (mm : Ms) (hs : Sta b N cap B T gs c) (hE : En w b off N cap B T gs c L mm.s mm.k mm.fr mv) (hk9 : mm.k ≤ 40000) (i n : Nat) (hi : i < n) (hn : n ≤ N) (hA : AnOk (tr c n) n) :
    Calls Tryd.prog 33 #[.pointer (some ⟨B, 0, none⟩), .int .i64 i, .int .i64 n] w (LnP w b off N cap B T gs c (lnL L mm c i n) (stM mm (ln c i n) (n - i)).s (stM mm (ln c i n) (n - i)).k (stM mm (ln c i n) (n - i)).fr) := by
  obtain ⟨s, k, fr⟩ := mm
  unfold lnL stM
  by_cases h0 : 0 < k
  · rw [if_pos h0, if_pos h0]
    cases hcl : clP s k (ln c i n) (n - i) with
    | true => exact line_a1 hs hE hk9 i n hi hn h0 hcl
    | false => exact line_a2 hs hE hk9 i n hi hn h0 hcl
  rw [if_neg h0, if_neg h0]
  obtain rfl : k = 0 := by omega
  by_cases htm : tmN (ln c i n) (n - i) = 0
  · rw [if_pos htm, if_pos htm]
    exact line_b hs hE hk9 i n hi hn rfl htm
  rw [if_neg htm, if_neg htm]
  cases fr with
  | true =>
    by_cases hin : indP (ln c i n) (n - i) = 4
    · have e1 : (true && decide (indP (ln c i n) (n - i) = 4)) = true := by simp [hin]
      dsimp only
      simp only [e1, if_true]
      exact line_c hs hE hk9 i n hi hn rfl htm rfl hin
    have e1 : (true && decide (indP (ln c i n) (n - i) = 4)) = false := by simp [hin]
    dsimp only
    simp only [e1, Bool.false_eq_true, if_false]
    cases hop : opOk (ln c i n) (n - i) with
    | true =>
      simp only [if_true]
      exact line_d2 hs hE hk9 i n hi hn rfl htm rfl hin hop
    | false =>
      simp only [Bool.false_eq_true, if_false]
      cases hdf : dfP (ln c i n) (n - i) with
      | true =>
        simp only [if_true]
        exact line_e2 hs hE hk9 i n hi hn rfl htm rfl hin hop hdf
      | false =>
        simp only [Bool.false_eq_true, if_false]
        exact line_f2 hs hE hk9 i n hi hn rfl htm rfl hin hop hdf hA
  | false =>
    dsimp only
    simp only [Bool.false_and, Bool.false_eq_true, if_false]
    cases hop : opOk (ln c i n) (n - i) with
    | true =>
      simp only [if_true]
      exact line_d1 hs hE hk9 i n hi hn rfl htm rfl hop
    | false =>
      simp only [Bool.false_eq_true, if_false]
      cases hdf : dfP (ln c i n) (n - i) with
      | true =>
        simp only [if_true]
        exact line_e1 hs hE hk9 i n hi hn rfl htm rfl hop hdf
      | false =>
        simp only [Bool.false_eq_true, if_false]
        exact line_f1 hs hE hk9 i n hi hn rfl htm rfl hop hdf hA
end Go.Proofs.YtodjfeheagnnpaaDoor
