/- chain: along errors that wrap one another, each handed to a closure, till one is answered by false. -/
import Derived.Test.YtgijihfijoiafaaGreatDoorQPChkWth
import Derived.Deep.LoopGhost
import Derived.RangeFuncRecord
namespace Go.Proofs.YtgijihfijoiafaaGreatDoor
set_option linter.unusedVariables false
open Go.RowKit Go.ChangeShapes

/-- The first from the outside on that is not to be gone by. -/
def fst (go : List Nd → Bool) : List Nd → Option (List Nd)
  | [] => if go [] then none else some []
  | x :: l => if go (x :: l) then fst go l else some (x :: l)
theorem fst_go {go : List Nd → Bool} : ∀ {x : Nd} {l : List Nd}, go (x :: l) = true → fst go (x :: l) = fst go l := by
  intro x l h
  simp [fst, h]
theorem fst_stop {go : List Nd → Bool} : ∀ {l : List Nd}, go l = false → fst go l = some l
  | [], h => by simp [fst, h]
  | x :: l, h => by simp [fst, h]
/-- A mark that was left on the way: none, or one that the rest lies within. -/
def Mrk (w : World) (n0 : Nat) (p : Nat → Prop) (l : List Nd) (m : Value) : Prop :=
  m = .nilIface ∨ ∃ b o T, m = .iface 81 (.pointer (some ⟨b, 0, none⟩)) ∧ (∀ x ∈ l, x.b < b) ∧ w.heap[b]? = some (.cells o T (0, 0)) ∧ b < n0 ∧ ¬ p b
theorem Mrk.kept {w w' : World} {n n0 : Nat} {p q : Nat → Prop} {l : List Nd} {m : Value} (h : Mrk w n0 p l m) (k : Kpt n q w w') (hn : n0 ≤ n) (hq : ∀ b, b < n0 → ¬ p b → ¬ q b) : Mrk w' n0 p l m := by
  rcases h with rfl | ⟨b, o, T, rfl, h1, h2, h3, h4⟩
  · exact Or.inl rfl
  · exact Or.inr ⟨b, o, T, rfl, h1, (k.block b (by omega) (hq b h3 h4)).trans h2, h3, h4⟩
theorem Mrk.step {w : World} {n0 : Nat} {p : Nat → Prop} {x : Nd} {l : List Nd} {m : Value} (h : Mrk w n0 p (x :: l) m) : Mrk w n0 p l m := by
  rcases h with rfl | ⟨b, o, T, rfl, h1, h2⟩
  · exact Or.inl rfl
  · exact Or.inr ⟨b, o, T, rfl, fun y hy => h1 y (by simp [hy]), h2⟩
theorem Mrk.same {w : World} {n0 : Nat} {p : Nat → Prop} {x : Nd} {l : List Nd} {c : Int} {m : Value} (h : Mrk w n0 p (x :: l) m) (hL : Lie w (x :: l) c) :
    Calls Tryz.prog 150 #[m, .iface 81 (.pointer (some ⟨x.b, 0, none⟩))] w fun e w' => e = .returned (.bool false) ∧ Below w.heap.size w w' := by
  rcases h with rfl | ⟨b, o, T, rfl, h1, h2, _⟩
  · exact same_nil _ _ w
  · exact same_any _ _ _ _ false w fun w' hb => eq_ptrs 9998 b x.b w' (h1 x (by simp)) ((hb.block b (lt_of_heap h2)).trans h2) ((hb.block x.b (lt_of_heap hL.1)).trans hL.1)
/-- Where the loop of chain stands. -/
structure Chn (l0 : List Nd) (c : Int) (bw bo : Nat) (mp : Value) (n0 : Nat) (p : Nat → Prop) (go : List Nd → Bool) (I : World → Prop) (w wr : World) (l : List Nd) : Prop where
  inv : I wr
  suf : l <:+ l0
  lie : Lie wr l c
  kpt : Kpt n0 p w wr
  fst : fst go l0 = fst go l
  wk : ∃ st : Int, 0 ≤ st ∧ st + l.length ≤ 101 ∧ Bk wr bw #[.slice (some ⟨bo, 0, none⟩) 0 1, mp, .nilIface, .int .i64 0, .int .i64 256, .int .i64 st, .func (.func 75) #[] #[]] 122
  rg : ∃ (m : Value) (i j : Int), 0 ≤ i ∧ i + l.length ≤ 101 ∧ Bk wr w.heap.size #[m, .int .i64 i, .int .i64 j] 175 ∧ Mrk wr n0 p l m
  gl : ∃ k : Int, 0 ≤ k ∧ k + l.length ≤ 101 ∧ Bk wr (w.heap.size + 1) #[.nilIface, .int .i64 k, .int .i64 256] 120

theorem enterIs (cap : Array Value) (w : World) : (callFunc 75 cap).run Tryz.prog w = .ok (.enter 75 cap) w := by kernel_rfl

set_option maxHeartbeats 4000000 in
set_option maxRecDepth 100000 in
theorem chain_any (l0 : List Nd) (c : Int) (bw bo : Nat) (mp : Value) (A : Nat) (cap : Array Value) (n0 : Nat) (p : Nat → Prop) (go : List Nd → Bool) (I : World → Prop) (R : List Nd → World → Prop) (w : World)
    (hw : Bk w bw #[.slice (some ⟨bo, 0, none⟩) 1 1, mp, .nilIface, .int .i64 0, .int .i64 256, .int .i64 0, .func (.func 75) #[] #[]] 122)
    (ho : Bk w bo #[val l0 c] 30) (hl : l0.length ≤ 100) (hL : Lie w l0 c) (hn : n0 ≤ bw) (hx : ∀ x ∈ l0, x.b < n0 ∧ ¬ p x.b) (hp : ∀ k, p k → k < n0) (hI : ∀ W W', (∀ k, p k → W'.heap[k]? = W.heap[k]?) → I W → I W') (hi0 : I w)
    (hE : ∀ cp w', (callFunc A cp).run Tryz.prog w' = .ok (.enter A cp) w')
    (hA : ∀ l, l <:+ l0 → ∀ W, Kpt n0 p w W → I W → Calls Tryz.prog A (#[val l c] ++ cap) W fun e W' => (e = .returned (.bool true) ∧ go l = true ∧ Kpt W.heap.size p W W' ∧ I W') ∨ (e = .returned (.bool false) ∧ go l = false ∧ R l W')) :
    Calls Tryz.prog 78 #[.pointer (some ⟨bw, 0, none⟩), .func (.func A) #[] cap] w fun e w' =>
      (e = .returned (.bool true) ∧ fst go l0 = none ∧ Kpt n0 p w w' ∧ w'.cell? ⟨bw, 0, none⟩ = some (.slice (some ⟨bo, 0, none⟩) 0 1)) ∨ (e = .returned (.bool false) ∧ ∃ l, fst go l0 = some l ∧ R l w') := by
  have HA : Hid (∀ l, l <:+ l0 → ∀ W, Kpt n0 p w W → I W → Calls Tryz.prog A (#[val l c] ++ cap) W fun e W' => (e = .returned (.bool true) ∧ go l = true ∧ Kpt W.heap.size p W W' ∧ I W') ∨ (e = .returned (.bool false) ∧ go l = false ∧ R l W')) := hA
  clear hA
  have c0 := hw.cell 0 rfl
  have f0 := hw.frozen 0
  obtain ⟨T0, v0, hv0⟩ := val_shape l0 c
  rw [hv0] at ho
  have d0 := ho.cell 0 rfl
  have hbo := ho.lt
  have hbw := hw.lt
  have HW1 := hw.set 0 (.slice (some ⟨bo, 0, none⟩) 0 1)
  have HK1 := (Kpt.refl n0 p w).setCell (q := ⟨bw, 0, none⟩) (Or.inl hn) (.slice (some ⟨bo, 0, none⟩) 0 1)
  have HL1 := hL.kept HK1 hx
  have hsz : (w.setCell ⟨bw, 0, none⟩ (.slice (some ⟨bo, 0, none⟩) 0 1)).heap.size = w.heap.size := by simp
  have HC : Hid (Chn l0 c bw bo mp n0 p go I w ((((w.setCell ⟨bw, 0, none⟩ (.slice (some ⟨bo, 0, none⟩) 0 1)).alloc (.cells #[.nilIface, .int .i64 0, .int .i64 0] 175))).alloc (.cells #[.nilIface, .int .i64 0, .int .i64 256] 120)) l0) := by
    refine ⟨hI w _ (fun k hk => (((Below.refl n0 w).setCell (p := ⟨bw, 0, none⟩) hn _).alloc (by rw [hsz]; omega) _ |>.alloc (by simp; omega) _).block k (hp k hk)) hi0, List.suffix_refl _, (HL1.alloc _).alloc _, (HK1.alloc (by rw [hsz]; omega) _).alloc (by simp; omega) _, rfl, ⟨0, by omega, by omega, (HW1.alloc _).alloc _⟩, ⟨.nilIface, 0, 0, by omega, by omega, ?_, Or.inl rfl⟩, ⟨0, by omega, by omega, ?_⟩⟩
    · have := (Bk.new (w.setCell ⟨bw, 0, none⟩ (.slice (some ⟨bo, 0, none⟩) 0 1)) #[.nilIface, .int .i64 0, .int .i64 0] 175).alloc (.cells #[.nilIface, .int .i64 0, .int .i64 256] 120)
      rw [hsz] at this; exact this
    · have := Bk.new ((w.setCell ⟨bw, 0, none⟩ (.slice (some ⟨bo, 0, none⟩) 0 1)).alloc (.cells #[.nilIface, .int .i64 0, .int .i64 0] 175)) #[.nilIface, .int .i64 0, .int .i64 256] 120
      rw [World.size_alloc, hsz] at this; exact this
  have HV : Hid (val l0 c = .iface T0 v0) := hv0
  have HX : Hid ((∀ x ∈ l0, x.b < n0 ∧ ¬ p x.b) ∧ (∀ k, p k → k < n0)) := ⟨hx, hp⟩
  have HI : Hid (∀ W W', (∀ k, p k → W'.heap[k]? = W.heap[k]?) → I W → I W') := hI
  clear hw ho HW1 HK1 HL1 hL hv0 hsz hx hp hI hi0
  go_enter Tryz.func78, Tryz.ntmps78
  go_wp2
  go_loopg [6] (l0.length + 1) (fun g err wr => (g = 0 ∧ err = .nilIface ∧ Hid (fst go l0 = none ∧ Kpt n0 p w wr ∧ wr.cell? ⟨bw, 0, none⟩ = some (.slice (some ⟨bo, 0, none⟩) 0 1))) ∨ ∃ l T v, g = l.length + 1 ∧ err = .iface T v ∧ Hid (val l c = .iface T v) ∧ Hid (Chn l0 c bw bo mp n0 p go I w wr l))
  case atStart => exact Or.inr ⟨l0, T0, v0, rfl, rfl, HV, HC⟩
  case round =>
    clear HC HV d0 c0 f0
    rcases hrel with ⟨hg, rfl, HF⟩ | ⟨l, T, v, hg, rfl, HV, HC⟩
    · go_wp2
      go_ret
      exact Or.inl ⟨rfl, HF.out.1, HF.out.2.1, HF.out.2.2⟩
    · have hlen : l.length ≤ 100 := Nat.le_trans HC.out.suf.length_le hl
      obtain ⟨st, st0, st1, wk⟩ := HC.out.wk
      obtain ⟨m, i, j, i0, i1, rg, mk⟩ := HC.out.rg
      obtain ⟨k, k0, k1, gl⟩ := HC.out.gl
      have w5 := wk.cell 5 rfl
      have w6 := wk.cell 6 rfl
      have f5 := wk.frozen 5
      have HWK : Hid (Bk wr bw #[.slice (some ⟨bo, 0, none⟩) 0 1, mp, .nilIface, .int .i64 0, .int .i64 256, .int .i64 st, .func (.func 75) #[] #[]] 122) := wk
      have HRG : Hid (Bk wr w.heap.size #[m, .int .i64 i, .int .i64 j] 175 ∧ Mrk wr n0 p l m) := ⟨rg, mk⟩
      have HGL : Hid (Bk wr (w.heap.size + 1) #[.nilIface, .int .i64 k, .int .i64 256] 120) := gl
      have HWL : Hid (w.heap.size + 1 < wr.heap.size) := gl.lt
      clear wk rg mk gl
      cases l with
      | nil =>
        obtain ⟨rfl, rfl⟩ : T = 23 ∧ v = .int .i64 c := by have := HV.out; simp [val] at this; exact ⟨this.1.symm, this.2.symm⟩
        have eE := enterIs
        have cg := glance_closed (w.heap.size + 1) 23 (.int .i64 c) k wr HGL.out k0 (by simp at k1; omega)
        go_wp2_with fail
        refine (is_num c wr).mono ?_
        rintro e w1 ⟨rfl, hw1⟩
        subst w1
        go_wp2_with fail
        refine cg.mono ?_
        rintro e w1 ⟨rfl, gl1, kg⟩
        have HB1 : Hid (Below n0 wr w1) := kg.below (by have := HWL.out; omega) (by intro q hq; subst hq; omega)
        have HM1 : Hid (Kpt n0 p wr w1) := Kpt.of HB1.out
        have HK1 : Hid (Kpt n0 p w w1) := HC.out.kpt.trans HM1.out
        have HL1 : Hid (Lie w1 ([] : List Nd) c) := HC.out.lie.kept kg fun y hy => ⟨by have := (HX.out.1 y (HC.out.suf.subset hy)).1; have := HWL.out; omega, (by have := (HX.out.1 y (HC.out.suf.subset hy)).1; omega)⟩
        have wk1 := HWK.out.kept kg HWK.out.lt (by omega)
        have w5 := wk1.cell 5 rfl
        have f5 := wk1.frozen 5
        have HW2 : Hid (Bk (w1.setCell ⟨bw, 5, none⟩ (.int .i64 (st + 1))) bw #[.slice (some ⟨bo, 0, none⟩) 0 1, mp, .nilIface, .int .i64 0, .int .i64 256, .int .i64 (st + 1), .func (.func 75) #[] #[]] 122) := wk1.set 5 (.int .i64 (st + 1))
        have HG2 : Hid (Bk (w1.setCell ⟨bw, 5, none⟩ (.int .i64 (st + 1))) (w.heap.size + 1) #[.nilIface, .int .i64 (k + 1), .int .i64 256] 120) := gl1.other (by simp; omega) _
        have HK2 : Hid (Kpt n0 p w (w1.setCell ⟨bw, 5, none⟩ (.int .i64 (st + 1)))) := HK1.out.setCell (Or.inl hn) _
        have HL2 : Hid (Lie (w1.setCell ⟨bw, 5, none⟩ (.int .i64 (st + 1))) ([] : List Nd) c) := HL1.out.kept ((Kpt.refl n0 (fun _ => False) w1).setCell (Or.inl hn) _) fun y hy => ⟨(HX.out.1 y (HC.out.suf.subset hy)).1, fun e => e⟩
        have HM2 : Hid (Kpt n0 p wr (w1.setCell ⟨bw, 5, none⟩ (.int .i64 (st + 1)))) := HM1.out.setCell (Or.inl hn) _
        have HI2 : Hid (I (w1.setCell ⟨bw, 5, none⟩ (.int .i64 (st + 1)))) := HI.out wr _ (fun q hq => (HB1.out.setCell (p := ⟨bw, 5, none⟩) hn (.int .i64 (st + 1))).block q (HX.out.2 q hq)) HC.out.inv
        have cA := HA.out ([] : List Nd) HC.out.suf _ HK2.out HI2.out
        have hs2 : w.heap.size + 1 < (w1.setCell ⟨bw, 5, none⟩ (.int .i64 (st + 1))).heap.size := by simpa using gl1.lt
        have HS2 : Hid (w.heap.size + 1 < (w1.setCell ⟨bw, 5, none⟩ (.int .i64 (st + 1))).heap.size) := hs2
        clear hs2
        have d5 := HW2.out.cell 5 rfl
        generalize hW2 : w1.setCell ⟨bw, 5, none⟩ (.int .i64 (st + 1)) = w2 at *
        have hst : decide (2147483648 < st + 1) = false := by have := st1; simp at this ⊢; omega
        clear wk1 HK1 HL1 gl1 kg cg eE
        go_wp2_with fail
        refine cA.mono ?_
        rintro e w3 (⟨rfl, hgo, k3, i3⟩ | ⟨rfl, hgo, hR⟩)
        · have HM3 : Hid (Kpt n0 p wr w3) := HM2.out.trans (k3.mono (by have := HS2.out; omega))
          have HK3 : Hid (Kpt n0 p w w3) := HK2.out.trans (k3.mono (by have := HS2.out; omega))
          have HL3 : Hid (Lie w3 ([] : List Nd) c) := HL2.out.kept k3 fun y hy => ⟨by have := (HX.out.1 y (HC.out.suf.subset hy)).1; have := HS2.out; omega, (HX.out.1 y (HC.out.suf.subset hy)).2⟩
          have hnp : ∀ q, n0 ≤ q → ¬ p q := fun q h1 h2 => absurd (HX.out.2 q h2) (by omega)
          have HW3 : Hid (Bk w3 bw _ 122) := HW2.out.kept k3 HW2.out.lt (hnp _ hn)
          have HG3 : Hid (Bk w3 (w.heap.size + 1) _ 120) := HG2.out.kept k3 HG2.out.lt (hnp _ (by omega))
          have HI3 : Hid (I w3) := i3
          have HGO : Hid (go ([] : List Nd) = true) := hgo
          have cw := within_any ([] : List Nd) c w3 HL3.out
          clear hgo k3 i3 cA hnp d5 hW2 HW2 HG2 HK2 HL2 hst
          simp only [val] at cw
          go_wp2_with fail
          refine cw.mono ?_
          rintro e w4 ⟨rfl, hb4⟩
          have HF : Hid (fst go l0 = none ∧ Kpt n0 p w w4 ∧ w4.cell? ⟨bw, 0, none⟩ = some (.slice (some ⟨bo, 0, none⟩) 0 1)) := by
            refine ⟨?_, HK3.out.trans (Kpt.of (hb4.mono (by have := HW3.out.lt; omega))), (HW3.out.stay hb4).cell 0 rfl⟩
            rw [HC.out.fst]; simp [fst, HGO.out]
          clear hb4 cw HW3 HG3 HK3 HL3
          simp only [nxt]
          go_wp2
          go_roundg 0
          case measure => simp at hg; omega
          case rel => exact Or.inl ⟨rfl, rfl, HF⟩
        · have HR : Hid (go ([] : List Nd) = false ∧ R ([] : List Nd) w3) := ⟨hgo, hR⟩
          clear hgo hR cA hst
          go_wp2
          go_ret
          refine Or.inr ⟨rfl, ([] : List Nd), ?_, HR.out.2⟩
          rw [HC.out.fst]; exact fst_stop HR.out.1
      | cons x l =>
        obtain ⟨rfl, rfl⟩ : T = 81 ∧ v = .pointer (some ⟨x.b, 0, none⟩) := by have := HV.out; simp [val] at this; exact ⟨this.1.symm, this.2.symm⟩
        have eE := enterIs
        have hlx : (↑(x :: l).length : Int) = l.length + 1 := by simp
        rw [hlx] at st1 i1 k1
        clear hlx
        have cr := ring_closed w.heap.size x.b m i j wr HRG.out.1 i0 (by omega) (by rcases HRG.out.2 with rfl | ⟨b, o, T, rfl, _⟩; exact ⟨0, .bool false, Or.inr rfl⟩; exact ⟨_, _, Or.inl rfl⟩)
          (fun w' hk => (HRG.out.2.kept hk (by have := HWL.out; omega) (fun b hb _ => by omega)).same (HC.out.lie.kept hk fun y hy => ⟨by have := (HX.out.1 y (HC.out.suf.subset hy)).1; have := HWL.out; omega, by have := (HX.out.1 y (HC.out.suf.subset hy)).1; omega⟩))
        go_wp2_with fail
        refine (is_at x.b wr).mono ?_
        rintro e w1 ⟨rfl, hw1⟩
        subst w1
        go_wp2_with fail
        refine cr.mono ?_
        rintro e w0 ⟨rfl, m', j', rg0, hm', kr⟩
        have gl0 := HGL.out.kept kr HWL.out (by omega)
        have cg := glance_closed (w.heap.size + 1) 81 (.pointer (some ⟨x.b, 0, none⟩)) k w0 gl0 k0 (by omega)
        have HRG0 : Hid (Bk w0 w.heap.size #[m', .int .i64 (i + 1), .int .i64 j'] 175) := rg0
        have HM0 : Hid (m' = m ∨ m' = .iface 81 (.pointer (some ⟨x.b, 0, none⟩))) := hm'
        have HKR : Hid (Kpt wr.heap.size (· = w.heap.size) wr w0) := kr
        clear cr rg0 kr gl0 hm'
        go_wp2_with fail
        refine cg.mono ?_
        rintro e w1 ⟨rfl, gl1, kg⟩
        have KQ : Kpt wr.heap.size (fun q => q = w.heap.size ∨ q = w.heap.size + 1) wr w1 := (HKR.out.wide (fun q => Or.inl)).trans ((kg.mono HKR.out.size).wide (fun q => Or.inr))
        have HRG1 : Hid (Bk w1 w.heap.size #[m', .int .i64 (i + 1), .int .i64 j'] 175) := HRG0.out.kept kg HRG0.out.lt (by omega)
        have HB1 : Hid (Below n0 wr w1) := KQ.below (by have := HWL.out; omega) (by intro q hq; omega)
        have HM1 : Hid (Kpt n0 p wr w1) := Kpt.of HB1.out
        have HK1 : Hid (Kpt n0 p w w1) := HC.out.kpt.trans HM1.out
        have HL1 : Hid (Lie w1 (x :: l) c) := HC.out.lie.kept KQ fun y hy => ⟨by have := (HX.out.1 y (HC.out.suf.subset hy)).1; have := HWL.out; omega, (by have := (HX.out.1 y (HC.out.suf.subset hy)).1; omega)⟩
        have wk1 := HWK.out.kept KQ HWK.out.lt (by omega)
        have w5 := wk1.cell 5 rfl
        have f5 := wk1.frozen 5
        have HW2 : Hid (Bk (w1.setCell ⟨bw, 5, none⟩ (.int .i64 (st + 1))) bw #[.slice (some ⟨bo, 0, none⟩) 0 1, mp, .nilIface, .int .i64 0, .int .i64 256, .int .i64 (st + 1), .func (.func 75) #[] #[]] 122) := wk1.set 5 (.int .i64 (st + 1))
        have HR2 : Hid (Bk (w1.setCell ⟨bw, 5, none⟩ (.int .i64 (st + 1))) w.heap.size #[m', .int .i64 (i + 1), .int .i64 j'] 175) := HRG1.out.other (by simp; omega) _
        have HG2 : Hid (Bk (w1.setCell ⟨bw, 5, none⟩ (.int .i64 (st + 1))) (w.heap.size + 1) #[.nilIface, .int .i64 (k + 1), .int .i64 256] 120) := gl1.other (by simp; omega) _
        have HK2 : Hid (Kpt n0 p w (w1.setCell ⟨bw, 5, none⟩ (.int .i64 (st + 1)))) := HK1.out.setCell (Or.inl hn) _
        have HL2 : Hid (Lie (w1.setCell ⟨bw, 5, none⟩ (.int .i64 (st + 1))) (x :: l) c) := HL1.out.kept ((Kpt.refl n0 (fun _ => False) w1).setCell (Or.inl hn) _) fun y hy => ⟨(HX.out.1 y (HC.out.suf.subset hy)).1, fun e => e⟩
        have HM2 : Hid (Kpt n0 p wr (w1.setCell ⟨bw, 5, none⟩ (.int .i64 (st + 1)))) := HM1.out.setCell (Or.inl hn) _
        have HI2 : Hid (I (w1.setCell ⟨bw, 5, none⟩ (.int .i64 (st + 1)))) := HI.out wr _ (fun q hq => (HB1.out.setCell (p := ⟨bw, 5, none⟩) hn (.int .i64 (st + 1))).block q (HX.out.2 q hq)) HC.out.inv
        have cA := HA.out (x :: l) HC.out.suf _ HK2.out HI2.out
        have hs2 : w.heap.size + 1 < (w1.setCell ⟨bw, 5, none⟩ (.int .i64 (st + 1))).heap.size := by simpa using gl1.lt
        have HS2 : Hid (w.heap.size + 1 < (w1.setCell ⟨bw, 5, none⟩ (.int .i64 (st + 1))).heap.size) := hs2
        clear hs2
        have d5 := HW2.out.cell 5 rfl
        generalize hW2 : w1.setCell ⟨bw, 5, none⟩ (.int .i64 (st + 1)) = w2 at *
        have hst : decide (2147483648 < st + 1) = false := by have := st1; simp at this ⊢; omega
        clear wk1 HK1 HL1 gl1 kg cg eE KQ
        go_wp2_with fail
        refine cA.mono ?_
        rintro e w3 (⟨rfl, hgo, k3, i3⟩ | ⟨rfl, hgo, hR⟩)
        · have HM3 : Hid (Kpt n0 p wr w3) := HM2.out.trans (k3.mono (by have := HS2.out; omega))
          have HK3 : Hid (Kpt n0 p w w3) := HK2.out.trans (k3.mono (by have := HS2.out; omega))
          have HL3 : Hid (Lie w3 (x :: l) c) := HL2.out.kept k3 fun y hy => ⟨by have := (HX.out.1 y (HC.out.suf.subset hy)).1; have := HS2.out; omega, (HX.out.1 y (HC.out.suf.subset hy)).2⟩
          have hnp : ∀ q, n0 ≤ q → ¬ p q := fun q h1 h2 => absurd (HX.out.2 q h2) (by omega)
          have HW3 : Hid (Bk w3 bw _ 122) := HW2.out.kept k3 HW2.out.lt (hnp _ hn)
          have HG3 : Hid (Bk w3 (w.heap.size + 1) _ 120) := HG2.out.kept k3 HG2.out.lt (hnp _ (by omega))
          have HR3 : Hid (Bk w3 w.heap.size #[m', .int .i64 (i + 1), .int .i64 j'] 175) := HR2.out.kept k3 HR2.out.lt (hnp _ (by omega))
          have HI3 : Hid (I w3) := i3
          have HGO : Hid (go (x :: l) = true) := hgo
          have cw := within_any (x :: l) c w3 HL3.out
          clear hgo k3 i3 cA hnp d5 hW2 HW2 HG2 HR2 HK2 HL2 hst
          simp only [val] at cw
          obtain ⟨T1, v1, hv1⟩ := val_shape l c
          simp only [nxt, hv1] at cw
          have HV1 : Hid (val l c = .iface T1 v1) := hv1
          clear hv1
          go_wp2_with fail
          refine cw.mono ?_
          rintro e w4 ⟨rfl, hb4⟩
          have HC4 : Hid (Chn l0 c bw bo mp n0 p go I w w4 l) := by
            have hkm : Kpt n0 p wr w4 := HM3.out.trans (Kpt.of (hb4.mono (by have := HW3.out.lt; omega)))
            refine ⟨HI.out w3 w4 (fun q hq => hb4.block q (by have := HX.out.2 q hq; have := HW3.out.lt; omega)) HI3.out, (List.suffix_cons x l).trans HC.out.suf, (HL3.out.stay hb4).2.2, HK3.out.trans (Kpt.of (hb4.mono (by have := HW3.out.lt; omega))), HC.out.fst.trans (fst_go HGO.out), ⟨st + 1, by omega, by omega, HW3.out.stay hb4⟩,
              ⟨m', i + 1, j', by omega, by omega, HR3.out.stay hb4, ?_⟩, ⟨k + 1, by omega, by omega, HG3.out.stay hb4⟩⟩
            rcases HM0.out with rfl | rfl
            · exact (HRG.out.2.kept hkm (Nat.le_refl _) (fun b _ h => h)).step
            · exact Or.inr ⟨x.b, _, _, rfl, HC.out.lie.2.1, (HL3.out.stay hb4).1, (HX.out.1 x (HC.out.suf.subset (by simp))).1, (HX.out.1 x (HC.out.suf.subset (by simp))).2⟩
          clear hb4 cw HW3 HG3 HK3 HL3
          go_wp2
          go_roundg (l.length + 1)
          case measure => simp at hg; omega
          case rel => exact Or.inr ⟨l, T1, v1, rfl, rfl, HV1, HC4⟩
        · have HR : Hid (go (x :: l) = false ∧ R (x :: l) w3) := ⟨hgo, hR⟩
          clear hgo hR cA hst
          go_wp2
          go_ret
          refine Or.inr ⟨rfl, (x :: l), ?_, HR.out.2⟩
          rw [HC.out.fst]; exact fst_stop HR.out.1
end Go.Proofs.YtgijihfijoiafaaGreatDoor
/- Each: its closures; each error that tells is handed to yield. -/
namespace Go.Proofs.YtgijihfijoiafaaGreatDoor
set_option linter.unusedVariables false
open Go.RowKit Go.ChangeShapes Go.Shelf
attribute [local go_sem] Oper.semAt_some

theorem aloneA_no (c : Int) (py : Addr) (w : World) :
    Calls Tryz.prog 76 #[.iface 23 (.int .i64 c), .pointer (some py)] w fun e w' => e = .returned (.bool true) ∧ w' = w := by
  go_enter Tryz.func76, Tryz.ntmps76
  go_wp2_with fail
  refine (tellsA_num c w).mono ?_
  rintro e w1 ⟨rfl, hw⟩
  subst w1
  go_wp2
  go_ret
  exact ⟨rfl, rfl⟩
theorem aloneN_no (b : Nat) (py : Addr) (w : World) :
    Calls Tryz.prog 84 #[.iface 81 (.pointer (some ⟨b, 0, none⟩)), .pointer (some py)] w fun e w' => e = .returned (.bool true) ∧ w' = w := by
  go_enter Tryz.func84, Tryz.ntmps84
  go_wp2_with fail
  refine (tellsN_at b w).mono ?_
  rintro e w1 ⟨rfl, hw⟩
  subst w1
  go_wp2
  go_ret
  exact ⟨rfl, rfl⟩
theorem aloneA_yes (b l n : Nat) (py : Addr) (w : World) (X Y : World → Prop) (hc : w.cell? py = some (.func (.yield l) #[] #[]))
    (hY : YieldAt Fence.wide n Tryz.prog l #[.iface 124 (.agg #[.iface 81 (.pointer (some ⟨b, 0, none⟩))])] w fun e w' => (e = .returned (.bool true) ∧ X w') ∨ (e = .returned (.bool false) ∧ Y w')) :
    Calls Tryz.prog 76 #[.iface 81 (.pointer (some ⟨b, 0, none⟩)), .pointer (some py)] w fun e w' => (e = .returned (.bool true) ∧ X w') ∨ (e = .returned (.bool false) ∧ Y w') := by
  obtain ⟨fn, tmps, assign, body, hy, hR⟩ := hY
  refine (callsIn_wide (n := n + 1)).1 ?_
  refine callsIn_of_wp Tryz.func76 rfl trivial ?_ rfl
  simp only [Tryz.ntmps76, List.size_toArray, List.length_cons, List.length_nil, Nat.reduceAdd, Nat.reduceSub, Array.replicate_succ, Array.replicate_zero, List.push_toArray, List.append_toArray, List.nil_append, List.cons_append]
  gi_wp2_with (first | (refine ⟨trivial, ?_⟩; gi_at_call 77; refine (callsIn_wide.2 (tellsA_at b w)).mono ?_; rintro e w1 ⟨rfl, hw⟩; subst w1) | fail)
  refine hR.mono ?_
  rintro e w1 (⟨rfl, hx⟩ | ⟨rfl, hx⟩)
  · have HX : Hid (X w1) := hx
    clear hx
    gi_wp2
    go_ret
    exact Or.inl ⟨rfl, HX.out⟩
  · have HX : Hid (Y w1) := hx
    clear hx
    gi_wp2
    go_ret
    exact Or.inr ⟨rfl, HX.out⟩
theorem aloneN_yes (c : Int) (l n : Nat) (py : Addr) (w : World) (X Y : World → Prop) (hc : w.cell? py = some (.func (.yield l) #[] #[]))
    (hY : YieldAt Fence.wide n Tryz.prog l #[.iface 138 (.agg #[.iface 23 (.int .i64 c)])] w fun e w' => (e = .returned (.bool true) ∧ X w') ∨ (e = .returned (.bool false) ∧ Y w')) :
    Calls Tryz.prog 84 #[.iface 23 (.int .i64 c), .pointer (some py)] w fun e w' => (e = .returned (.bool true) ∧ X w') ∨ (e = .returned (.bool false) ∧ Y w') := by
  obtain ⟨fn, tmps, assign, body, hy, hR⟩ := hY
  refine (callsIn_wide (n := n + 1)).1 ?_
  refine callsIn_of_wp Tryz.func84 rfl trivial ?_ rfl
  simp only [Tryz.ntmps84, List.size_toArray, List.length_cons, List.length_nil, Nat.reduceAdd, Nat.reduceSub, Array.replicate_succ, Array.replicate_zero, List.push_toArray, List.append_toArray, List.nil_append, List.cons_append]
  gi_wp2_with (first | (refine ⟨trivial, ?_⟩; gi_at_call 85; refine (callsIn_wide.2 (tellsN_num c w)).mono ?_; rintro e w1 ⟨rfl, hw⟩; subst w1) | fail)
  refine hR.mono ?_
  rintro e w1 (⟨rfl, hx⟩ | ⟨rfl, hx⟩)
  · have HX : Hid (X w1) := hx
    clear hx
    gi_wp2
    go_ret
    exact Or.inl ⟨rfl, HX.out⟩
  · have HX : Hid (Y w1) := hx
    clear hx
    gi_wp2
    go_ret
    exact Or.inr ⟨rfl, HX.out⟩
theorem enterAloneA (cap : Array Value) (w : World) : (callFunc 76 cap).run Tryz.prog w = .ok (.enter 76 cap) w := by kernel_rfl
theorem enterAloneN (cap : Array Value) (w : World) : (callFunc 84 cap).run Tryz.prog w = .ok (.enter 84 cap) w := by kernel_rfl
theorem eachA_any (l0 : List Nd) (c : Int) (l n : Nat) (pe : Addr) (n0 : Nat) (p : Nat → Prop) (go : List Nd → Bool) (I : World → Prop) (R : List Nd → World → Prop) (w : World)
    (he : w.cell? pe = some (val l0 c)) (hl : l0.length ≤ 100) (hL : Lie w l0 c) (hn : n0 ≤ w.heap.size) (hx : ∀ x ∈ l0, x.b < n0 ∧ ¬ p x.b) (hp : ∀ k, p k → k < n0) (hI : ∀ W W', (∀ k, p k → W'.heap[k]? = W.heap[k]?) → I W → I W') (hi0 : I w) (hg0 : go [] = true)
    (hY : ∀ x k, (x :: k) <:+ l0 → ∀ W, Kpt n0 p w W → I W → YieldAt Fence.wide n Tryz.prog l #[.iface 124 (.agg #[val (x :: k) c])] W fun e W' => (e = .returned (.bool true) ∧ go (x :: k) = true ∧ Kpt W.heap.size p W W' ∧ I W') ∨ (e = .returned (.bool false) ∧ go (x :: k) = false ∧ R (x :: k) W')) :
    Calls Tryz.prog 74 #[.func (.yield l) #[] #[], .pointer (some pe)] w fun e w' => (∃ v, e = .returned v) ∧
      ((fst go l0 = none ∧ Kpt n0 p w w') ∨ ∃ k, fst go l0 = some k ∧ R k w') := by
  have hmf : ∀ (fn : Fn) (first cap : Array Value) (w : World), (Instr.makeFunc fn first cap).run Tryz.prog w = .ok (.func fn first cap) w := fun _ _ _ _ => rfl
  have hmm := @run_makeMap Tryz.prog
  obtain ⟨T0, v0, hv0⟩ := val_shape l0 c
  rw [hv0] at he
  have HV : Hid (val l0 c = .iface T0 v0) := hv0
  clear hv0
  have hsf := fun a (w : World) => run_store Tryz.prog w a (.func (.func 75) #[] #[]) .plain rfl
  have he1 := cell_alloc he (.cells #[.func (.yield l) #[] #[]] 116)
  have hbe := World.block_lt_of_cell? w _ he
  have hu : Up w.heap.size w ((((w.alloc (.cells #[.func (.yield l) #[] #[]] 116)).alloc (.cells #[.iface T0 v0] 30)).alloc (.map #[] 0)).alloc (.cells #[.slice (some ⟨w.heap.size + 1, 0, none⟩) 1 1, .map (some (w.heap.size + 1 + 1)), .nilIface, .int .i64 0, .int .i64 256, .int .i64 0, .func (.func 75) #[] #[]] 122)) := ((((Up.refl w).alloc _).alloc _).alloc _).alloc _
  have hB3 : Bk ((((w.alloc (.cells #[.func (.yield l) #[] #[]] 116)).alloc (.cells #[.iface T0 v0] 30)).alloc (.map #[] 0)).alloc (.cells #[.slice (some ⟨w.heap.size + 1, 0, none⟩) 1 1, .map (some (w.heap.size + 1 + 1)), .nilIface, .int .i64 0, .int .i64 256, .int .i64 0, .func (.func 75) #[] #[]] 122)) (w.heap.size + 1 + 1 + 1) #[.slice (some ⟨w.heap.size + 1, 0, none⟩) 1 1, .map (some (w.heap.size + 1 + 1)), .nilIface, .int .i64 0, .int .i64 256, .int .i64 0, .func (.func 75) #[] #[]] 122 := by
    have := Bk.new (((w.alloc (.cells #[.func (.yield l) #[] #[]] 116)).alloc (.cells #[.iface T0 v0] 30)).alloc (.map #[] 0)) #[.slice (some ⟨w.heap.size + 1, 0, none⟩) 1 1, .map (some (w.heap.size + 1 + 1)), .nilIface, .int .i64 0, .int .i64 256, .int .i64 0, .func (.func 75) #[] #[]] 122
    simpa using this
  have hB1 : Bk ((((w.alloc (.cells #[.func (.yield l) #[] #[]] 116)).alloc (.cells #[.iface T0 v0] 30)).alloc (.map #[] 0)).alloc (.cells #[.slice (some ⟨w.heap.size + 1, 0, none⟩) 1 1, .map (some (w.heap.size + 1 + 1)), .nilIface, .int .i64 0, .int .i64 256, .int .i64 0, .func (.func 75) #[] #[]] 122)) (w.heap.size + 1) #[.iface T0 v0] 30 := by
    have := ((Bk.new (w.alloc (.cells #[.func (.yield l) #[] #[]] 116)) #[.iface T0 v0] 30).alloc (.map #[] 0)).alloc (.cells #[.slice (some ⟨w.heap.size + 1, 0, none⟩) 1 1, .map (some (w.heap.size + 1 + 1)), .nilIface, .int .i64 0, .int .i64 256, .int .i64 0, .func (.func 75) #[] #[]] 122)
    simpa using this
  have hB0 : Bk ((((w.alloc (.cells #[.func (.yield l) #[] #[]] 116)).alloc (.cells #[.iface T0 v0] 30)).alloc (.map #[] 0)).alloc (.cells #[.slice (some ⟨w.heap.size + 1, 0, none⟩) 1 1, .map (some (w.heap.size + 1 + 1)), .nilIface, .int .i64 0, .int .i64 256, .int .i64 0, .func (.func 75) #[] #[]] 122)) w.heap.size #[.func (.yield l) #[] #[]] 116 := (((Bk.new w #[.func (.yield l) #[] #[]] 116).alloc _).alloc _).alloc _
  have hsz : (((((w.alloc (.cells #[.func (.yield l) #[] #[]] 116)).alloc (.cells #[.iface T0 v0] 30)).alloc (.map #[] 0)).alloc (.cells #[.slice (some ⟨w.heap.size + 1, 0, none⟩) 1 1, .map (some (w.heap.size + 1 + 1)), .nilIface, .int .i64 0, .int .i64 256, .int .i64 0, .func (.func 75) #[] #[]] 122))).heap.size = w.heap.size + 4 := by simp
  go_enter Tryz.func74, Tryz.ntmps74
  go_wp2
  generalize ((((w.alloc (.cells #[.func (.yield l) #[] #[]] 116)).alloc (.cells #[.iface T0 v0] 30)).alloc (.map #[] 0)).alloc (.cells #[.slice (some ⟨w.heap.size + 1, 0, none⟩) 1 1, .map (some (w.heap.size + 1 + 1)), .nilIface, .int .i64 0, .int .i64 256, .int .i64 0, .func (.func 75) #[] #[]] 122)) = W0 at *
  rw [← HV.out] at hB1
  have cc := chain_any l0 c (w.heap.size + 1 + 1 + 1) (w.heap.size + 1) (.map (some (w.heap.size + 1 + 1))) 76 #[.pointer (some ⟨w.heap.size, 0, none⟩)] (w.heap.size + 1 + 1 + 1) p go I R W0 hB3 hB1 hl (hL.stay hu.1) (Nat.le_refl _) (fun x h => ⟨by have := (hx x h).1; omega, (hx x h).2⟩) (fun k h => by have := hp k h; omega) hI (hI w W0 (fun k hk => hu.1.block k (by have := hp k hk; omega)) hi0) (fun cp w' => enterAloneA cp w')
    (fun k hk W hW hIW => by
      have hy : W.cell? ⟨w.heap.size, 0, none⟩ = some (.func (.yield l) #[] #[]) := (hW.cell (q := ⟨w.heap.size, 0, none⟩) (by show w.heap.size < _; omega) (fun h => absurd (hp _ h) (Nat.not_lt_of_le hn))).trans (hB0.cell 0 rfl)
      cases k with
      | nil => exact (aloneA_no c _ W).mono fun e w' ⟨h1, h2⟩ => Or.inl ⟨h1, hg0, by subst h2; exact ⟨Kpt.refl _ _ _, hIW⟩⟩
      | cons x k => exact aloneA_yes x.b l n _ W _ _ hy (hY x k hk W ((Kpt.of (hu.1.mono hn)).trans (hW.mono (by omega))) hIW))
  have d0 := hB3.cell 0 rfl
  have HU : Hid (Up w.heap.size w W0) := hu
  clear hY hB3 hB1 hB0 hL hsf hmm hmf he he1 hu
  go_loopg [18] 1 (fun g t18 wr => ((g = 1 ∧ Hid (wr = W0)) ∨ (g = 0 ∧ Hid (fst go l0 = none ∧ Kpt n0 p w wr) ∧ wr.cell? ⟨w.heap.size + 1 + 1 + 1, 0, none⟩ = some (.slice (some ⟨w.heap.size + 1, 0, none⟩) 0 1))))
  case atStart => exact Or.inl ⟨rfl, rfl⟩
  case round =>
    rcases hrel with ⟨hg, HW⟩ | ⟨hg, HF, hc⟩
    · obtain rfl := HW.out
      go_wp2_with fail
      refine cc.mono ?_
      rintro e w1 (⟨rfl, hf, hk, hc⟩ | ⟨rfl, k, hf, hR⟩)
      · have HF : Hid (fst go l0 = none ∧ Kpt n0 p w w1) := ⟨hf, (Kpt.of (HU.out.1.mono hn)).trans (hk.mono (by omega))⟩
        clear cc hf hk d0
        go_wp2
        go_roundg 0
        case measure => omega
        case rel => exact Or.inr ⟨rfl, HF, hc⟩
      · have HF : Hid (fst go l0 = some k ∧ R k w1) := ⟨hf, hR⟩
        clear cc hf hR d0
        go_wp2
        go_end0
        exact ⟨⟨_, rfl⟩, Or.inr ⟨k, HF.out⟩⟩
    · clear cc d0
      go_wp2
      go_end0
      exact ⟨⟨_, rfl⟩, Or.inl HF.out⟩
theorem eachN_any (l0 : List Nd) (c : Int) (l n : Nat) (pe : Addr) (n0 : Nat) (p : Nat → Prop) (go : List Nd → Bool) (I : World → Prop) (R : List Nd → World → Prop) (w : World)
    (he : w.cell? pe = some (val l0 c)) (hl : l0.length ≤ 100) (hL : Lie w l0 c) (hn : n0 ≤ w.heap.size) (hx : ∀ x ∈ l0, x.b < n0 ∧ ¬ p x.b) (hp : ∀ k, p k → k < n0) (hI : ∀ W W', (∀ k, p k → W'.heap[k]? = W.heap[k]?) → I W → I W') (hi0 : I w) (hg0 : ∀ x k, go (x :: k) = true)
    (hY : ∀ W, Kpt n0 p w W → I W → YieldAt Fence.wide n Tryz.prog l #[.iface 138 (.agg #[.iface 23 (.int .i64 c)])] W fun e W' => (e = .returned (.bool true) ∧ go [] = true ∧ Kpt W.heap.size p W W' ∧ I W') ∨ (e = .returned (.bool false) ∧ go [] = false ∧ R [] W')) :
    Calls Tryz.prog 83 #[.func (.yield l) #[] #[], .pointer (some pe)] w fun e w' => (∃ v, e = .returned v) ∧
      ((fst go l0 = none ∧ Kpt n0 p w w') ∨ ∃ k, fst go l0 = some k ∧ R k w') := by
  have hmf : ∀ (fn : Fn) (first cap : Array Value) (w : World), (Instr.makeFunc fn first cap).run Tryz.prog w = .ok (.func fn first cap) w := fun _ _ _ _ => rfl
  have hmm := @run_makeMap Tryz.prog
  obtain ⟨T0, v0, hv0⟩ := val_shape l0 c
  rw [hv0] at he
  have HV : Hid (val l0 c = .iface T0 v0) := hv0
  clear hv0
  have hsf := fun a (w : World) => run_store Tryz.prog w a (.func (.func 75) #[] #[]) .plain rfl
  have he1 := cell_alloc he (.cells #[.func (.yield l) #[] #[]] 116)
  have hbe := World.block_lt_of_cell? w _ he
  have hu : Up w.heap.size w ((((w.alloc (.cells #[.func (.yield l) #[] #[]] 116)).alloc (.cells #[.iface T0 v0] 30)).alloc (.map #[] 0)).alloc (.cells #[.slice (some ⟨w.heap.size + 1, 0, none⟩) 1 1, .map (some (w.heap.size + 1 + 1)), .nilIface, .int .i64 0, .int .i64 256, .int .i64 0, .func (.func 75) #[] #[]] 122)) := ((((Up.refl w).alloc _).alloc _).alloc _).alloc _
  have hB3 : Bk ((((w.alloc (.cells #[.func (.yield l) #[] #[]] 116)).alloc (.cells #[.iface T0 v0] 30)).alloc (.map #[] 0)).alloc (.cells #[.slice (some ⟨w.heap.size + 1, 0, none⟩) 1 1, .map (some (w.heap.size + 1 + 1)), .nilIface, .int .i64 0, .int .i64 256, .int .i64 0, .func (.func 75) #[] #[]] 122)) (w.heap.size + 1 + 1 + 1) #[.slice (some ⟨w.heap.size + 1, 0, none⟩) 1 1, .map (some (w.heap.size + 1 + 1)), .nilIface, .int .i64 0, .int .i64 256, .int .i64 0, .func (.func 75) #[] #[]] 122 := by
    have := Bk.new (((w.alloc (.cells #[.func (.yield l) #[] #[]] 116)).alloc (.cells #[.iface T0 v0] 30)).alloc (.map #[] 0)) #[.slice (some ⟨w.heap.size + 1, 0, none⟩) 1 1, .map (some (w.heap.size + 1 + 1)), .nilIface, .int .i64 0, .int .i64 256, .int .i64 0, .func (.func 75) #[] #[]] 122
    simpa using this
  have hB1 : Bk ((((w.alloc (.cells #[.func (.yield l) #[] #[]] 116)).alloc (.cells #[.iface T0 v0] 30)).alloc (.map #[] 0)).alloc (.cells #[.slice (some ⟨w.heap.size + 1, 0, none⟩) 1 1, .map (some (w.heap.size + 1 + 1)), .nilIface, .int .i64 0, .int .i64 256, .int .i64 0, .func (.func 75) #[] #[]] 122)) (w.heap.size + 1) #[.iface T0 v0] 30 := by
    have := ((Bk.new (w.alloc (.cells #[.func (.yield l) #[] #[]] 116)) #[.iface T0 v0] 30).alloc (.map #[] 0)).alloc (.cells #[.slice (some ⟨w.heap.size + 1, 0, none⟩) 1 1, .map (some (w.heap.size + 1 + 1)), .nilIface, .int .i64 0, .int .i64 256, .int .i64 0, .func (.func 75) #[] #[]] 122)
    simpa using this
  have hB0 : Bk ((((w.alloc (.cells #[.func (.yield l) #[] #[]] 116)).alloc (.cells #[.iface T0 v0] 30)).alloc (.map #[] 0)).alloc (.cells #[.slice (some ⟨w.heap.size + 1, 0, none⟩) 1 1, .map (some (w.heap.size + 1 + 1)), .nilIface, .int .i64 0, .int .i64 256, .int .i64 0, .func (.func 75) #[] #[]] 122)) w.heap.size #[.func (.yield l) #[] #[]] 116 := (((Bk.new w #[.func (.yield l) #[] #[]] 116).alloc _).alloc _).alloc _
  have hsz : (((((w.alloc (.cells #[.func (.yield l) #[] #[]] 116)).alloc (.cells #[.iface T0 v0] 30)).alloc (.map #[] 0)).alloc (.cells #[.slice (some ⟨w.heap.size + 1, 0, none⟩) 1 1, .map (some (w.heap.size + 1 + 1)), .nilIface, .int .i64 0, .int .i64 256, .int .i64 0, .func (.func 75) #[] #[]] 122))).heap.size = w.heap.size + 4 := by simp
  go_enter Tryz.func83, Tryz.ntmps83
  go_wp2
  generalize ((((w.alloc (.cells #[.func (.yield l) #[] #[]] 116)).alloc (.cells #[.iface T0 v0] 30)).alloc (.map #[] 0)).alloc (.cells #[.slice (some ⟨w.heap.size + 1, 0, none⟩) 1 1, .map (some (w.heap.size + 1 + 1)), .nilIface, .int .i64 0, .int .i64 256, .int .i64 0, .func (.func 75) #[] #[]] 122)) = W0 at *
  rw [← HV.out] at hB1
  have cc := chain_any l0 c (w.heap.size + 1 + 1 + 1) (w.heap.size + 1) (.map (some (w.heap.size + 1 + 1))) 84 #[.pointer (some ⟨w.heap.size, 0, none⟩)] (w.heap.size + 1 + 1 + 1) p go I R W0 hB3 hB1 hl (hL.stay hu.1) (Nat.le_refl _) (fun x h => ⟨by have := (hx x h).1; omega, (hx x h).2⟩) (fun k h => by have := hp k h; omega) hI (hI w W0 (fun k hk => hu.1.block k (by have := hp k hk; omega)) hi0) (fun cp w' => enterAloneN cp w')
    (fun k hk W hW hIW => by
      have hy : W.cell? ⟨w.heap.size, 0, none⟩ = some (.func (.yield l) #[] #[]) := (hW.cell (q := ⟨w.heap.size, 0, none⟩) (by show w.heap.size < _; omega) (fun h => absurd (hp _ h) (Nat.not_lt_of_le hn))).trans (hB0.cell 0 rfl)
      cases k with
      | nil => exact aloneN_yes c l n _ W _ _ hy (hY W ((Kpt.of (hu.1.mono hn)).trans (hW.mono (by omega))) hIW)
      | cons x k => exact (aloneN_no x.b _ W).mono fun e w' ⟨h1, h2⟩ => Or.inl ⟨h1, hg0 x k, by subst h2; exact ⟨Kpt.refl _ _ _, hIW⟩⟩)
  have d0 := hB3.cell 0 rfl
  have HU : Hid (Up w.heap.size w W0) := hu
  clear hY hB3 hB1 hB0 hL hsf hmm hmf he he1 hu
  go_loopg [18] 1 (fun g t18 wr => ((g = 1 ∧ Hid (wr = W0)) ∨ (g = 0 ∧ Hid (fst go l0 = none ∧ Kpt n0 p w wr) ∧ wr.cell? ⟨w.heap.size + 1 + 1 + 1, 0, none⟩ = some (.slice (some ⟨w.heap.size + 1, 0, none⟩) 0 1))))
  case atStart => exact Or.inl ⟨rfl, rfl⟩
  case round =>
    rcases hrel with ⟨hg, HW⟩ | ⟨hg, HF, hc⟩
    · obtain rfl := HW.out
      go_wp2_with fail
      refine cc.mono ?_
      rintro e w1 (⟨rfl, hf, hk, hc⟩ | ⟨rfl, k, hf, hR⟩)
      · have HF : Hid (fst go l0 = none ∧ Kpt n0 p w w1) := ⟨hf, (Kpt.of (HU.out.1.mono hn)).trans (hk.mono (by omega))⟩
        clear cc hf hk d0
        go_wp2
        go_roundg 0
        case measure => omega
        case rel => exact Or.inr ⟨rfl, HF, hc⟩
      · have HF : Hid (fst go l0 = some k ∧ R k w1) := ⟨hf, hR⟩
        clear cc hf hR d0
        go_wp2
        go_end0
        exact ⟨⟨_, rfl⟩, Or.inr ⟨k, HF.out⟩⟩
    · clear cc d0
      go_wp2
      go_end0
      exact ⟨⟨_, rfl⟩, Or.inl HF.out⟩
theorem each_mk (T : TypeId) (v : Value) (w : World) :
    Calls Tryz.prog 46 #[.iface T v] w fun e w' => e = .returned (.func (.func 74) #[] #[.pointer (some ⟨w.heap.size, 0, none⟩)]) ∧ w' = w.alloc (.cells #[.iface T v] 30) := by
  have hmf : ∀ (fn : Fn) (first cap : Array Value) (w : World), (Instr.makeFunc fn first cap).run Tryz.prog w = .ok (.func fn first cap) w := fun _ _ _ _ => rfl
  go_enter Tryz.func46, Tryz.ntmps46
  go_wp2
  go_ret
  exact ⟨rfl, rfl⟩
theorem each_mkN (T : TypeId) (v : Value) (w : World) :
    Calls Tryz.prog 48 #[.iface T v] w fun e w' => e = .returned (.func (.func 83) #[] #[.pointer (some ⟨w.heap.size, 0, none⟩)]) ∧ w' = w.alloc (.cells #[.iface T v] 30) := by
  have hmf : ∀ (fn : Fn) (first cap : Array Value) (w : World), (Instr.makeFunc fn first cap).run Tryz.prog w = .ok (.func fn first cap) w := fun _ _ _ _ => rfl
  go_enter Tryz.func48, Tryz.ntmps48
  go_wp2
  go_ret
  exact ⟨rfl, rfl⟩
end Go.Proofs.YtgijihfijoiafaaGreatDoor
