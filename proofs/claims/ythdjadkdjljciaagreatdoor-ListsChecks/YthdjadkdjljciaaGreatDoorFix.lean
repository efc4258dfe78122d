/- lists.Fixes. -/
import Derived.Test.YthdjadkdjljciaaGreatDoorCmp
namespace Go.Proofs.YthdjadkdjljciaaGreatDoor
set_option linter.unusedVariables false
open Go.RowKit Go.ChangeShapes

abbrev nmF : ByteArray := ⟨#[102, 105, 120, 101, 115]⟩
theorem enterF (args : Array Value) (w : World) : (callFunc 39 args).run Tryz.prog w = .ok (.enter 39 args) w := Proofs.enters_of Tryz.func39 (by kernel_rfl) rfl args w
theorem finv_start (w : World) (X : Nat) (hX : w.heap.size + 3 ≤ X) : FInv w X ([], false) (((w.alloc (.cells #[.slice none 0 0] 38)).alloc (.map #[] 0)).alloc (.cells #[.map (some (w.heap.size + 1))] 63)) := by
  refine ⟨(((Up.refl w).alloc _).alloc _).alloc _ |>.1, hX, fun _ => ⟨?_, ⟨0, Nat.le_refl _, ?_⟩, ⟨.slice none 0 0, [], ?_, World.ownsRow_nil _ _ _ _, rfl, fun x h => by cases h⟩, Nat.zero_le _⟩⟩
  · have h := Bk.new ((w.alloc (.cells #[.slice none 0 0] 38)).alloc (.map #[] 0)) #[.map (some (w.heap.size + 1))] 63
    simp only [World.size_alloc] at h
    exact h
  · have h := Bag.made (w.alloc (.cells #[.slice none 0 0] 38))
    simp only [World.size_alloc] at h
    exact h.stay ((Below.refl _ _).alloc (Nat.le_refl _) _)
  · exact ((Bk.new w #[.slice none 0 0] 38).alloc _).alloc _
set_option maxRecDepth 100000 in
set_option maxHeartbeats 2000000 in
theorem fixes_run (s : ByteArray) (v : Value) (m : Int) (w : World) (hs : s.size ≤ 40000) (hT : Tabs w) (hb : Lns.BSl w v s) (hm : w.cell? ⟨3, 0, none⟩ = some (.int .i64 m)) (hL : longL (linesL s) 0 = 0) :
    Calls Tryz.prog 18 #[v] w fun e w' => ∃ st c ln, runR fstep (linesL s) 0 ([], false) = (st, c, ln) ∧ Below w.heap.size w w' ∧
      ((c = 0 ∧ ∃ u ys, e = .returned (.tuple #[u, .nilIface]) ∧ w'.ownsRow w.heap.size 49 2 u ys.length (fcells ys) ∧ (ys.map Fx.p).Perm st.1 ∧ Rise ys ∧ ∀ x ∈ ys, w'.ownsRow w.heap.size 9 1 x.v x.l.length (x.l.map Value.string)) ∨
       (c ≠ 0 ∧ ∃ b, e = .returned (.tuple #[.slice none 0 0, val [⟨b, nmF, ln⟩] c]) ∧ Lie w' [⟨b, nmF, ln⟩] c)) := by
  have hmm := @run_makeMap Tryz.prog
  have hmf : ∀ (fn : Fn) (first cap : Array Value) (w : World), (Instr.makeFunc fn first cap).run Tryz.prog w = .ok (.func fn first cap) w := fun _ _ _ _ => rfl
  have HB : Hid (Lns.BSl w v s) := hb
  have HT : Hid (Tabs w) := hT
  obtain ⟨vd, vc, rfl⟩ := hb.form
  have HM : Hid (w.cell? ⟨3, 0, none⟩ = some (.int .i64 m)) := hm
  clear hb hT hm
  go_enter Tryz.func18, Tryz.ntmps18
  go_wp2_with fail
  have hsz : (((w.alloc (.cells #[.slice none 0 0] 38)).alloc (.map #[] 0)).alloc (.cells #[.map (some (w.heap.size + 1))] 63)).heap.size = w.heap.size + 3 := by simp
  have HW : Hid (∀ X, w.heap.size + 3 ≤ X → FInv w X ([], false) (((w.alloc (.cells #[.slice none 0 0] 38)).alloc (.map #[] 0)).alloc (.cells #[.map (some (w.heap.size + 1))] 63))) := finv_start w
  have HU : Hid (Up w.heap.size w (((w.alloc (.cells #[.slice none 0 0] 38)).alloc (.map #[] 0)).alloc (.cells #[.map (some (w.heap.size + 1))] 63))) := ((((Up.refl w).alloc _).alloc _).alloc _)
  generalize ((w.alloc (.cells #[.slice none 0 0] 38)).alloc (.map #[] 0)).alloc (.cells #[.map (some (w.heap.size + 1))] 63) = W at hsz HW HU ⊢
  have hbel := HU.out.1
  have hbs : Below w.heap.size w W := hbel
  refine (each_run nmF s (.slice vd s.size vc) 39 #[.pointer (some ⟨w.heap.size + 2, 0, none⟩), .pointer (some ⟨w.heap.size, 0, none⟩)] (FInv w) (fun st => st.2 = false) fstep ([], false) m W hs (tabs_up HT.out hbs) (HB.out.stay hbs)
    (fun X st w' h => (h.up.cell (World.block_lt_of_cell? w _ HM.out)).trans HM.out) (fun r w' => enterF _ w') rfl (fun st r h h0 => fstep_good st r h h0)
    (fun X st r w' hg h1 h2 h3 h4 => fixes1_any w m HT.out HM.out X st hg r w' h1 h3 h4) (fun X st w' w'' h1 h2 => h1.stay h2) (fun X w' h1 h2 => (HW.out X (by omega)).stay h1) hL).mono ?_
  clear hbel hbs hsz HW HU
  rintro e w1 ⟨X, st, c, ln, hrun, hI, ⟨rfl, hgood, rfl⟩ | ⟨hc, b, rfl, hlie⟩⟩
  · have hok := hI.ok hgood
    obtain ⟨u, xs, hu, hol, hxs, hxo⟩ := hok.l
    have hln : xs.length = st.1.length := by rw [← hxs, List.length_map]
    rw [← hln] at hol
    obtain ⟨ad, cp, rfl⟩ := own_form hol
    have hcv := hu.cell 0 rfl
    have hul := hu.lt
    have hx := hI.x
    have hnl := hok.n
    have HP : Hid (Below w.heap.size w w1) := hI.up
    have HR : Hid (runR fstep (linesL s) 0 ([], false) = (st, 0, ln)) := hrun
    have c4 := sortF_any xs (X + 1) _ w1 (by omega) hol
    have HXO : Hid (∀ x ∈ xs, w1.ownsRow (X + 1) 9 1 x.v x.l.length (x.l.map Value.string)) := hxo
    have HXS : Hid (xs.map Fx.p = st.1) := hxs
    have HOL : Hid (w1.ownsRow (X + 1) 49 2 (.slice ad xs.length cp) xs.length (fcells xs)) := hol
    clear hI hu hrun hol hok hxs hxo hln
    go_wp2_with fail
    refine c4.mono ?_
    rintro e w2 ⟨rfl, ys, hpm, hrs, ho2, hbb, hkk⟩
    have hk := hbb (w.heap.size + 1) w1 (Below.refl _ _) (by omega) (by omega)
    have hcv2 : w2.cell? ⟨w.heap.size, 0, none⟩ = _ := (hk.cell (by simp)).trans hcv
    have hyl : ys.length = xs.length := hpm.length_eq
    have HO : Hid (w2.ownsRow (X + 1) 49 2 (.slice ad xs.length cp) ys.length (fcells ys)) := by rw [hyl]; exact ho2
    have HP2 : Hid (Below w.heap.size w w2) := HP.out.trans (hk.mono (by omega))
    have HY : Hid ((ys.map Fx.p).Perm st.1 ∧ Rise ys ∧ ∀ x ∈ ys, w2.ownsRow w.heap.size 9 1 x.v x.l.length (x.l.map Value.string)) := by
      refine ⟨by rw [← HXS.out]; exact hpm.map _, hrs, fun x hx => ?_⟩
      have h1 := HXO.out x (hpm.mem_iff.1 hx)
      refine own_mono2 ?_ (show w.heap.size ≤ X + 1 by omega)
      rcases own_other h1 HOL.out (by decide) with h2 | h2
      · obtain ⟨h3, h4 | ⟨g, cap, cur, h4, hg, hh, h5⟩⟩ := h1
        · exact ⟨h3, Or.inl h4⟩
        · rw [h4] at h2; cases h2
      · obtain ⟨h3, h4 | ⟨g, cap, cur, h4, hg, hh, h5⟩⟩ := h1
        · exact ⟨h3, Or.inl h4⟩
        · refine ⟨h3, Or.inr ⟨g, cap, cur, h4, hg, (hkk g (lt_of_heap hh) (fun e => h2 ?_)).trans hh, h5⟩⟩
          rw [h4, e]
          rfl
    clear hbb hk ho2 c4 hcv hkk hpm hrs hyl
    go_wp2
    refine bodyPost_ret (v := .tuple #[.slice ad xs.length cp, .nilIface]) (by simp [results, Tryz.results18, go_sem]) rfl ?_
    exact ⟨st, 0, ln, HR.out, HP2.out, Or.inl ⟨rfl, _, ys, rfl, own_mono2 HO.out (by omega), HY.out⟩⟩
  · have HP : Hid (Below w.heap.size w w1) := hI.up
    have HR : Hid (runR fstep (linesL s) 0 ([], false) = (st, c, ln)) := hrun
    have HL : Hid (Lie w1 [⟨b, nmF, ln⟩] c) := hlie
    clear hI hrun hlie
    unfold val
    go_wp2
    refine bodyPost_ret (v := .tuple #[.slice none 0 0, val [⟨b, nmF, ln⟩] c]) (by simp [results, Tryz.results18, go_sem, val]) rfl ?_
    exact ⟨st, c, ln, HR.out, HP.out, Or.inr ⟨hc, b, rfl, HL.out⟩⟩
end Go.Proofs.YthdjadkdjljciaaGreatDoor
