/- ListsFixes. -/
import Derived.Test.YtgijihfijoiafaaGreatDoorQLawWords
import Derived.Test.YtgijihfijoiafaaGreatDoorQPRSamWLng
import Derived.Test.YtgijihfijoiafaaGreatDoorQRFix
namespace Go.Proofs.YtgijihfijoiafaaGreatDoor
set_option linter.unusedVariables false
open Go.RowKit Go.ChangeShapes
theorem rise_nodupK {α : Type} {f : α → ByteArray} : ∀ {L : List α}, RiseK f L → (L.map f).Nodup
  | [], _ => List.nodup_nil
  | a :: L, h => by
    obtain ⟨h1, h2⟩ := List.pairwise_cons.1 h
    refine List.nodup_cons.2 ⟨fun hm => ?_, rise_nodupK h2⟩
    obtain ⟨x, hx, e⟩ := List.mem_map.1 hm
    have := h1 x hx
    rw [e, lw_irrefl] at this
    cases this
theorem fx_pairs {ys zs : List Fx} {st : List (ByteArray × List ByteArray)} (hy : (ys.map Fx.p).Perm st) (hz : (zs.map Fx.p).Perm st) (ry : Rise ys) (rz : RiseK Fx.f zs) : ys.map Fx.p = zs.map Fx.p := by
  have hp := hy.trans hz.symm
  have hpf : (ys.map Fx.f).Perm (zs.map Fx.f) := by
    have := hp.map Prod.fst
    rw [List.map_map, List.map_map] at this
    exact this
  have ry2 : RiseK Fx.f ys := rise_weak (f := Fx.f) ry (hpf.nodup_iff.2 (rise_nodupK rz))
  refine rise_one (f := Prod.fst) hp ?_ ?_
  · exact List.pairwise_map.2 ry2
  · exact List.pairwise_map.2 rz
/-- The program's Fixes and the document's, of the same bytes. -/
structure FBoth (w : World) (u ev m cv lv : Value) : Prop where
  r : ∀ w', Below w.heap.size w w' → Calls Tryz.prog 16 #[ev, .string nmF, cv, lv] w' fun e w'' => e = .returned (.bool true) ∧ Below w'.heap.size w' w''
  s : ∀ w', Below w.heap.size w w' → Calls Tryz.prog 20 #[u, m] w' fun e w'' => e = .returned (.bool true) ∧ Below w'.heap.size w' w''
theorem fixes_both (s : ByteArray) (v : Value) (m : Int) (w : World) (hs : s.size ≤ 40000) (hT : Tabs w) (hm : w.cell? ⟨3, 0, none⟩ = some (.int .i64 m)) (hE : Ety w) (hb : Lns.BSl w v s) :
    Calls Tryz.prog 18 #[v] w fun e w1 => Below w.heap.size w w1 ∧ ∃ u T ev, e = .returned (.tuple #[u, ev]) ∧ (ev = .nilIface ∨ ∃ x, ev = .iface T x) ∧ (∃ ad n c, u = .slice ad n c) ∧
      Calls Tryz.prog 19 #[v] w1 fun e w2 => Below w1.heap.size w1 w2 ∧ ∃ q cd ln ad n c, e = .returned (.tuple #[q, .int .i64 cd, .int .i64 ln]) ∧ q = .slice ad n c ∧ FBoth w2 u ev q (.int .i64 cd) (.int .i64 ln) := by
  rcases Nat.eq_zero_or_pos (longL (linesL s) 0) with hL | hL
  · refine (fixes_run s v m w hs hT hb hm hL).mono ?_
    rintro e w1 ⟨st, c, ln, hrun, hb1, hcase⟩
    have hr := rfixes_run s v w1 hs (hb.stay hb1) hL
    rcases hcase with ⟨rfl, u, ys, rfl, ho, hpm, hri, hto⟩ | ⟨hc, b, rfl, hlie⟩
    · refine ⟨hb1, u, 0, .nilIface, rfl, Or.inl rfl, ⟨_, _, _, (own_form ho).choose_spec.choose_spec⟩, hr.mono ?_⟩
      rintro e w2 ⟨st', c', ln', hrun', hb2, hl, ⟨rfl, u', zs, rfl, ho', hpm', hri', hto'⟩ | ⟨hc', rfl⟩⟩
      · rw [hrun] at hrun'
        cases hrun'
        refine ⟨hb2, u', 0, 0, _, _, _, rfl, (own_form ho').choose_spec.choose_spec, fun w' h => (right_nil nmF 0 w').mono (fun e w'' ⟨h1, h2⟩ => ⟨h1, by rw [h2]; exact Below.refl _ _⟩), fun w' h => ?_⟩
        exact rsamef_any ys zs _ _ u u' w' (fx_pairs hpm hpm' hri hri') (own_stay (own_stay ho hb2) h) (own_stay ho' h) (fun x hx => own_stay (own_stay (hto x hx) hb2) h) (fun x hx => own_stay (hto' x hx) h)
      · rw [hrun] at hrun'
        cases hrun'
        exact absurd rfl hc'
    · refine ⟨hb1, _, _, _, rfl, Or.inr ⟨_, rfl⟩, ⟨_, _, _, rfl⟩, hr.mono ?_⟩
      rintro e w2 ⟨st', c', ln', hrun', hb2, hl, ⟨rfl, u', zs, rfl, ho', hpm', hri', hto'⟩ | ⟨hc', rfl⟩⟩
      · rw [hrun] at hrun'
        cases hrun'
        exact absurd rfl hc
      · rw [hrun] at hrun'
        cases hrun'
        have hln : 0 < ln := by
          rcases runR_line fstep (linesL s) 0 ([], false) with h | h
          · rw [hrun] at h; exact absurd h hc
          · rw [hrun] at h; exact h
        refine ⟨hb2, _, _, _, _, _, _, rfl, rfl, fun w' h => ?_, fun w' h => (rsamef_zero none none 0 0 w').mono (fun e w'' ⟨h1, h2⟩ => ⟨h1, by rw [h2]; exact Below.refl _ _⟩)⟩
        have hr := right_at ⟨b, nmF, ln⟩ [] c w' (Nat.zero_le _) ((hlie.stay hb2).stay h) (((hE.stay hb1).stay hb2).stay h) hc
        rw [lin_one b nmF ln hln] at hr
        exact hr
  · obtain ⟨j, hj⟩ : ∃ j, longL (linesL s) 0 = j + 1 := ⟨_, (Nat.succ_pred_eq_of_pos hL).symm⟩
    refine (fixes_long s v w hs hT hb j hj).mono ?_
    rintro e w1 ⟨b, c, rfl, hlie, hb1⟩
    refine ⟨hb1, _, _, _, rfl, Or.inr ⟨_, rfl⟩, ⟨_, _, _, rfl⟩, (rfixes_long s v w1 hs (hb.stay hb1) j hj).mono ?_⟩
    rintro e w2 ⟨rfl, hb2⟩
    refine ⟨hb2, _, _, _, _, _, _, rfl, rfl, fun w' h => ?_, fun w' h => (rsamef_zero none none 0 0 w').mono (fun e w'' ⟨h1, h2⟩ => ⟨h1, by rw [h2]; exact Below.refl _ _⟩)⟩
    have hr := right_at ⟨c, nmF, 0⟩ [⟨b, ⟨#[]⟩, j + 1⟩] 3 w' (by simp) ((hlie.stay hb2).stay h) (((hE.stay hb1).stay hb2).stay h) (by decide)
    rw [lin_two c b nmF ⟨#[]⟩ j] at hr
    exact hr
set_option maxRecDepth 100000 in
theorem fixes_law (s : ByteArray) (v : Value) (m : Int) (w : World) (hs : s.size ≤ maxLen) (hT : Tabs w) (hm : w.cell? ⟨3, 0, none⟩ = some (.int .i64 m)) (hE : Ety w) (hb : Lns.BSl w v s) :
    Calls Tryz.prog 5 #[v] w fun e w' => e = .returned (.bool true) ∧ Below w.heap.size w w' := by
  have ca := awake_any m w hT hm
  have HT : Hid (Tabs w) := hT
  have HM : Hid (w.cell? ⟨3, 0, none⟩ = some (.int .i64 m)) := hm
  have HE : Hid (Ety w) := hE
  have HB : Hid (Lns.BSl w v s) := hb
  obtain ⟨vd, vc, rfl⟩ := hb.form
  clear hT hm hE hb
  go_enter Tryz.func5, Tryz.ntmps5
  go_wp2_with fail
  refine ca.mono ?_
  rintro e w1 ⟨rfl, hb1⟩
  have HU1 : Hid (Up w.heap.size w w1) := (Up.refl w).stay hb1
  clear ca hb1
  by_cases h6 : 6000 < s.size
  · have h6' : (6000 : Int) < (s.size : Int) := by omega
    go_wp2
    go_ret
    exact ⟨rfl, HU1.out.1⟩
  · have h6' : ¬ (6000 : Int) < (s.size : Int) := by omega
    have cw := fixes_both s _ m w1 (by omega) (tabs_up HT.out HU1.out.1) ((HU1.out.1.cell (World.block_lt_of_cell? w _ HM.out)).trans HM.out) (HE.out.stay HU1.out.1) (HB.out.stay HU1.out.1)
    clear HT HM HE HB
    go_wp2_with fail
    refine cw.mono ?_
    rintro e w2 ⟨hb2, u, T, ev, rfl, hev, ⟨ua, un, uc, rfl⟩, cr⟩
    have HU2 : Hid (Up w.heap.size w w2) := HU1.out.stay hb2
    clear cw hb2 HU1
    rcases hev with rfl | ⟨x, rfl⟩
    all_goals
      go_wp2_with fail
      refine cr.mono ?_
      rintro e w3 ⟨hb3, q, cd, ln, qa, qn, qc, rfl, rfl, HW⟩
      have HU3 : Hid (Up w.heap.size w w3) := HU2.out.stay hb3
      have HR := HW.r w3 (Below.refl _ _)
      have HS : Hid (∀ w', Below w3.heap.size w3 w' → Calls Tryz.prog 20 _ w' fun e w'' => e = .returned (.bool true) ∧ Below w'.heap.size w' w'') := HW.s
      clear cr hb3 HU2 HW
      go_wp2_with fail
      refine HR.mono ?_
      rintro e w4 ⟨rfl, hb4⟩
      have cs := HS.out w4 hb4
      have HU4 : Hid (Up w.heap.size w w4) := HU3.out.stay hb4
      clear HR HS hb4 HU3
      go_wp2_with fail
      refine cs.mono ?_
      rintro e w5 ⟨rfl, hb5⟩
      have HU5 : Hid (Up w.heap.size w w5) := HU4.out.stay hb5
      clear cs hb5 HU4
      go_wp2
      go_ret
      exact ⟨rfl, HU5.out.1⟩
end Go.Proofs.YtgijihfijoiafaaGreatDoor
