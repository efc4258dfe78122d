/- learn: the words behind spell:words. -/
import Derived.Test.YteeeekpeokgaeaaDooryTf
import Derived.Test.YteeeekpeokgaeaaDooryBg
import Derived.Test.YteeeekpeokgaeaaDoorPkYCtS2
import Derived.Test.YteeeekpeokgaeaaDooryAl
namespace Go.Proofs.YteeeekpeokgaeaaDoor
set_option linter.unusedVariables false
open Go.RowKit Go.ChangeShapes Tns
theorem ext_none (t : ByteArray) : t.extract 0 0 = ByteArray.empty := by
  apply ByteArray.ext
  rw [ByteArray.data_extract]
  show t.data.extract 0 0 = #[]
  exact Array.extract_empty_of_stop_le_start (Nat.le_refl _)
theorem chE0 : chk ByteArray.empty = 5 := by kernel_rfl
theorem chk_pos {t : ByteArray} (h : chk (t.extract 0 (we t)) = 0) : 1 ≤ we t := by
  rcases Nat.eq_zero_or_pos (we t) with e | e
  · rw [e, ext_none, chE0] at h
    exact absurd h (by decide)
  · exact e
theorem chLe {t : ByteArray} (h : chk t = 0) : t.size ≤ 64 := by
  rcases Nat.lt_or_ge 64 t.size with e | e
  · unfold chk chkL at h
    rw [if_pos e] at h
    exact absurd h (by decide)
  · exact e
theorem we_le (t : ByteArray) : we t ≤ t.size := by
  unfold we
  rw [weF_tr]
  exact (trF_le t.size 0 (Nat.zero_le _)).2
theorem knF_one (f : Nat) (s : ByteArray) : knF (f + 1) s = bif decide (chk ((frm s (sk s 0)).extract 0 (we (frm s (sk s 0)))) = 0) then fld ((frm s (sk s 0)).extract 0 (we (frm s (sk s 0)))) :: knF f (frm (frm s (sk s 0)) (we (frm s (sk s 0)))) else [] := rfl
theorem knF_fu : ∀ f g s, s.size < f → s.size < g → knF f s = knF g s
  | 0, g, s, h1, h2 => by omega
  | f + 1, 0, s, h1, h2 => by omega
  | f + 1, g + 1, s, h1, h2 => by
    rw [knF_one, knF_one]
    by_cases hc : chk ((frm s (sk s 0)).extract 0 (we (frm s (sk s 0)))) = 0
    · have e1 := chk_pos hc
      have e2 := we_le (frm s (sk s 0))
      have e3 := frm_size s (sk s 0)
      have e4 := frm_size (frm s (sk s 0)) (we (frm s (sk s 0)))
      rw [knF_fu f g (frm (frm s (sk s 0)) (we (frm s (sk s 0)))) (by omega) (by omega)]
    · rw [decide_eq_false hc]
      rfl
theorem knw_no {s : ByteArray} (h : ¬ chk ((frm s (sk s 0)).extract 0 (we (frm s (sk s 0)))) = 0) : knw s = [] := by
  unfold knw
  rw [knF_one, decide_eq_false h]
  rfl
theorem knw_yes {s : ByteArray} (h : chk ((frm s (sk s 0)).extract 0 (we (frm s (sk s 0)))) = 0) : knw s = fld ((frm s (sk s 0)).extract 0 (we (frm s (sk s 0)))) :: knw (frm (frm s (sk s 0)) (we (frm s (sk s 0)))) := by
  unfold knw
  rw [knF_one, decide_eq_true h]
  show fld _ :: knF s.size _ = _
  have e1 := chk_pos h
  have e2 := we_le (frm s (sk s 0))
  have e3 := frm_size s (sk s 0)
  have e4 := frm_size (frm s (sk s 0)) (we (frm s (sk s 0)))
  rw [knF_fu s.size ((frm (frm s (sk s 0)) (we (frm s (sk s 0)))).size + 1) _ (by omega) (by omega)]
theorem tls_at (s : ByteArray) (w : World) : Calls Tryd.prog 44 #[.string s, .string ⟨#[32, 9, 44]⟩] w fun e w' => e = .returned (.string (frm s (sk s 0))) ∧ Below w.heap.size w w' := by
  have h := Tryd.strings_TrimLeft_laid s ⟨#[32, 9, 44]⟩ w (by decide) (Go.Proofs.ascii_of_all (by decide))
  have e : (⟨(Lib.trimLeftS s.data.toList (⟨#[32, 9, 44]⟩ : ByteArray).data.toList).toArray⟩ : ByteArray) = frm s (sk s 0) := trimL_sk s
  rw [e] at h
  exact h
set_option maxHeartbeats 4000000 in
set_option maxRecDepth 100000 in
theorem learn_any {w0 w : World} (t : ByteArray) (ht : t.size ≤ 8000) {R b n : Nat} {va : Value} {ws : List ByteArray} (hT : PT w0) (hu : Up w0.heap.size w0 w) (hb0 : w0.heap.size ≤ b)
    (hR : w.heap[R]? = some (.cells #[va, .map (some b)] 49)) (hB : BgP w b n ws) (hn : n ≤ 900000000) :
    Calls Tryd.prog 33 #[.pointer (some ⟨R, 0, none⟩), .string t] w fun e w' => e = .returned (.tuple #[]) ∧ ∃ n', BgP w' b n' (ws ++ knw t) ∧ n' ≤ n + t.size ∧ KpP w.heap.size (· = b) w w' := by
  have hRl : R < w.heap.size := (Array.getElem?_eq_some_iff.1 hR).1
  have hRb : R ≠ b := by
    intro e
    obtain ⟨D, ⟨es, clock, hb, _⟩, _⟩ := hB
    rw [← e, hR] at hb
    cases hb
  have HH : Hid (PT w0 ∧ Up w0.heap.size w0 w ∧ w0.heap.size ≤ b ∧ w.heap[R]? = some (.cells #[va, .map (some b)] 49) ∧ R ≠ b ∧ b < w.heap.size) := ⟨hT, hu, hb0, hR, hRb, hB.lt⟩
  have HB0 : Hid (BgP w b n ws) := hB
  have HL : Hid (R < w.heap.size ∧ t.size ≤ 8000 ∧ n ≤ 900000000) := ⟨hRl, ht, hn⟩
  clear hT hu hb0 hR hRb hB hRl ht hn
  go_enter Tryd.func33, Tryd.ntmps33
  (try go_wp2_with fail)
  go_loopg [1] t.size (fun gf tv wr => ∃ (t' : ByteArray) (ws' : List ByteArray) (n' : Nat), tv = .string t' ∧ t'.size ≤ gf ∧ Hid (ws' ++ knw t' = ws ++ knw t) ∧ Hid (BgP wr b n' ws') ∧ Hid (n' + t'.size ≤ n + t.size) ∧ Hid (KpP w.heap.size (· = b) w wr))
  case atStart => exact ⟨t, ws, n, rfl, Nat.le_refl _, rfl, HB0, Nat.le_refl (n + t.size), KpP.refl _ _ _⟩
  case round =>
    obtain ⟨t', ws', n', rfl, hg, HK, HB, HN, HKp⟩ := hrel
    have HUr : Hid (Up w0.heap.size w0 wr) := HKp.out.up HH.out.2.1 (fun k hk => by subst hk; exact HH.out.2.2.1)
    have ct := tls_at t' wr
    have hkn := @knw_no t'
    have hky := @knw_yes t'
    have hs1 := frm_size t' (sk t' 0)
    obtain ⟨T1, hT1⟩ : ∃ x, frm t' (sk t' 0) = x := ⟨_, rfl⟩
    rw [hT1] at ct hkn hky hs1
    have hwe := we_le T1
    have hs2 := frm_size T1 (we T1)
    have hps := @chk_pos T1
    have cw := fun w' => tl_word T1 w'
    obtain ⟨e, he⟩ : ∃ x, we T1 = x := ⟨_, rfl⟩
    rw [he] at hkn hky hwe hs2 hps cw
    obtain ⟨T2, hT2⟩ : ∃ x, frm T1 e = x := ⟨_, rfl⟩
    rw [hT2] at hky hs2 cw
    obtain ⟨Wd, hWd⟩ : ∃ x, T1.extract 0 e = x := ⟨_, rfl⟩
    rw [hWd] at hkn hky hps
    have z1 : IntKind.i64.wrap ((T1.size : Int) - (T2.size : Int)) = (e : Int) := by
      rw [IntWalk.i64_in _ (by have h1 := HL.out.2; have h2 := HN.out; omega)]
      omega
    have z2 : (0 : Int) ≤ (e : Int) := by omega
    have z3 : (e : Int) ≤ (T1.size : Int) := by omega
    have HS : Hid (T2.size = T1.size - e ∧ T1.size = t'.size - sk t' 0 ∧ e ≤ T1.size) := ⟨hs2, hs1, hwe⟩
    have HP : Hid (chk Wd = 0 → 1 ≤ e) := hps
    have HKn : Hid (¬ chk Wd = 0 → knw t' = []) := hkn
    have HKy : Hid (chk Wd = 0 → knw t' = fld Wd :: knw T2) := hky
    clear hT1 he hT2 hs1 hs2 hwe hps hkn hky
    go_wp2_with fail
    refine ct.mono ?_
    rintro e1 w1 ⟨rfl, hb1⟩
    have HU1 : Hid (Up wr.heap.size wr w1) := ⟨hb1, hb1.size⟩
    have cw1 := cw w1
    clear ct cw hb1
    go_wp2_with fail
    refine cw1.mono ?_
    rintro e2 w2 ⟨rfl, hb2⟩
    have HU2 : Hid (Up wr.heap.size wr w2) := HU1.out.stay hb2
    have hPT2 : PT w2 := HH.out.1.stay (HUr.out.stay HU2.out.1).1
    have cc := chk_any Wd w2 hPT2.1
    clear cw1 hb2 hPT2 HU1
    obtain ⟨C, hC⟩ : ∃ x, chk Wd = x := ⟨_, rfl⟩
    have HC : Hid (chk Wd = C) := hC
    rw [hC] at cc
    clear hC
    go_wp2_with fail
    refine cc.mono ?_
    rintro e3 w3 ⟨rfl, hb3⟩
    have HU3 : Hid (Up wr.heap.size wr w3) := HU2.out.stay hb3
    clear cc hb3 HU2
    by_cases hC0 : C = 0
    · subst hC0
      have HKy2 : Hid (knw t' = fld Wd :: knw T2) := HKy.out HC.out
      have h64 := chLe HC.out
      have he1 := HP.out HC.out
      have hF0 := fld_size Wd
      have HR3 : Hid (w3.heap[R]? = some (.cells #[va, .map (some b)] 49)) := by
        show _ = _
        rw [HU3.out.1.block R (by have := HKp.out.size; have := HL.out.1; omega), HKp.out.block R HL.out.1 HH.out.2.2.2.2.1]
        exact HH.out.2.2.2.1
      have HB3 : Hid (BgP w3 b n' ws') := HB.out.stay HU3.out.1
      have HUa : Hid (Up w0.heap.size w0 w3) := HUr.out.stay HU3.out.1
      have CF : Hid (∀ w', Up w0.heap.size w0 w' → Calls Tryd.prog 25 #[.string Wd] w' fun e w'' => e = .returned (.string (fld Wd)) ∧ Below w'.heap.size w' w'') := fun w' hu => fold_at Wd w' (by omega) (HH.out.1.stay hu.1).1
      obtain ⟨F, hF⟩ : ∃ x, fld Wd = x := ⟨_, rfl⟩
      rw [hF] at CF hF0 HKy2
      have HF : Hid (F.size ≤ 9223372036854775807) := by
        show _ ≤ _
        omega
      clear hF hF0
      go_upto_region 4 with fail
      refine wp_region_held_drew (S := fun w' => Up w0.heap.size w0 w' ∧ w'.heap[R]? = some (.cells #[va, .map (some b)] 49)) (by kernel_rfl) ⟨Up.drew HUa.out, HR3.out⟩ (fun hHeld => ?_)
      (try dsimp only at hHeld)
      obtain ⟨x0, hx0⟩ : ∃ x0, w3.drew = x0 := ⟨_, rfl⟩
      have HV0 : Hid (Up w3.heap.size w3 x0) := by rw [← hx0]; exact Up.drew (Up.refl w3)
      rw [hx0] at hHeld ⊢
      clear hx0
      refine takeH (i := 0) (v := ?_) (d := (some 20)) rfl (by kernel_rfl) (by kernel_rfl) (by kernel_rfl) rfl (fun _ _ _ h => h) (Or.inl ⟨by kernel_rfl, ?_⟩) (by assumption) ?_; rotate_left
      · (intro w hSw; (try dsimp only at hSw); first | (go_simp; done) | (go_simp; with_reducible rfl))
      (try simp only [Act.put, List.setIfInBounds_toArray, List.set_cons_zero, List.set_cons_succ])
      refine takeH (i := 1) (v := ?_) (d := (some 21)) rfl (by kernel_rfl) (by kernel_rfl) (by kernel_rfl) rfl (fun _ _ _ h => h) (Or.inl ⟨by kernel_rfl, ?_⟩) (by assumption) ?_; rotate_left
      · (intro w hSw; (try dsimp only at hSw); first | (go_simp; done) | (go_simp; with_reducible rfl))
      (try simp only [Act.put, List.setIfInBounds_toArray, List.set_cons_zero, List.set_cons_succ])
      refine takeH (i := 2) (v := ?_) (d := (some 22)) rfl (by kernel_rfl) (by kernel_rfl) (by kernel_rfl) rfl (fun _ _ _ h => h) (Or.inl ⟨by kernel_rfl, ?_⟩) (by assumption) ?_; rotate_left
      · (intro w hSw; (try dsimp only at hSw); first | (go_simp; done) | (go_simp; with_reducible rfl))
      (try simp only [Act.put, List.setIfInBounds_toArray, List.set_cons_zero, List.set_cons_succ])
      refine takeH (i := 3) (v := ?_) (d := (some 23)) rfl (by kernel_rfl) (by kernel_rfl) (by kernel_rfl) rfl (fun _ _ _ h => h) (Or.inl ⟨by kernel_rfl, ?_⟩) (by assumption) ?_; rotate_left
      · (intro w hSw; (try dsimp only at hSw); have hq := (show World.cell? w ⟨R, 1, none⟩ = some (.map (some b)) by simp [World.cell?, hSw.2]); first | (go_simp; done) | (go_simp; with_reducible rfl))
      (try simp only [Act.put, List.setIfInBounds_toArray, List.set_cons_zero, List.set_cons_succ])
      refine takeH (i := 4) (v := ?_) (d := (some 24)) rfl (by kernel_rfl) (by kernel_rfl) (by kernel_rfl) rfl (fun _ _ _ h => h) (Or.inl ⟨by kernel_rfl, ?_⟩) (by assumption) ?_; rotate_left
      · (intro w hSw; (try dsimp only at hSw); first | (go_simp; done) | (go_simp; with_reducible rfl))
      (try simp only [Act.put, List.setIfInBounds_toArray, List.set_cons_zero, List.set_cons_succ])
      refine takeH (i := 6) (v := ?_) (d := (some 26)) rfl (by kernel_rfl) (by kernel_rfl) (by kernel_rfl) rfl (fun _ _ _ h => h) (Or.inl ⟨by kernel_rfl, ?_⟩) (by assumption) ?_; rotate_left
      · (intro w hSw; (try dsimp only at hSw); first | (go_simp; done) | (go_simp; with_reducible rfl))
      (try simp only [Act.put, List.setIfInBounds_toArray, List.set_cons_zero, List.set_cons_succ])
      refine wpAnyH_ready (rs := [5]) (by kernel_rfl) (by simp) (AllReadyH.cons rfl (fun K hK => ?_) AllReadyH.nil)
      (try rw [if_pos (by kernel_rfl)])
      go_simp
      refine (CF.out x0 hHeld.1).mono ?_
      rintro ev x1 ⟨rfl, hb9⟩
      have HV1 : Hid (Up w3.heap.size w3 x1) := HV0.out.stay hb9
      have HS1 : Hid (Up w0.heap.size w0 x1 ∧ x1.heap[R]? = some (.cells #[va, .map (some b)] 49)) := ⟨hHeld.1.stay hb9, by
        rw [hb9.block R (Array.getElem?_eq_some_iff.1 hHeld.2).1]
        exact hHeld.2⟩
      have HB4 : Hid (BgP x1 b n' ws') := HB3.out.stay HV1.out.1
      clear hb9 hHeld HV0 HB3
      go_wp2_with fail
      refine hK.out _ _ HS1.out (fun hHeld => ?_)
      clear hK K
      (try dsimp only at hHeld)
      (try simp only [Act.put, List.setIfInBounds_toArray, List.set_cons_zero, List.set_cons_succ])
      refine wpAnyH_ready (rs := [7]) (by kernel_rfl) (by simp) (AllReadyH.cons rfl (fun K hK => ?_) AllReadyH.nil)
      rw [if_pos (by kernel_rfl)]
      refine wpo_bgput (.tmp 23) (.tmp 25) (.tmp 26) 47 rfl Tryd.underlying47 rfl HB4.out (by have := HN.out; have := HL.out.2; omega) F HF.out rfl rfl ?_
      intro x2 hB5 hgr
      have HB5 : Hid (BgP x2 b (n' + 1) (ws' ++ [F])) := hB5
      have HV2 : Hid (KpP w.heap.size (· = b) w x2) := (HKp.out.trans (KpP.of ((HU3.out.stay HV1.out.1).1.mono HKp.out.size))).grown hgr (by have := HKp.out.size; have := HU3.out.2; have := HV1.out.2; omega) (Or.inr rfl)
      have HS2 : Hid (Up w0.heap.size w0 x2 ∧ x2.heap[R]? = some (.cells #[va, .map (some b)] 49)) := ⟨HV2.out.up HH.out.2.1 (fun k hk => by subst hk; exact HH.out.2.2.1), by
        rw [hgr.block R (Array.getElem?_eq_some_iff.1 hHeld.2).1 (fun e => HH.out.2.2.2.2.1 (by injection e))]
        exact hHeld.2⟩
      change K (Act.put _ none _) _
      clear hB5 hgr hHeld HB4
      refine hK.out _ _ HS2.out (fun hHeld => ?_)
      clear hK K
      (try dsimp only at hHeld)
      (try simp only [Act.put])
      refine wpAnyH_done (by kernel_rfl) ?_ _
      clear hHeld
      have HK2 : Hid ((ws' ++ [F]) ++ knw T2 = ws ++ knw t) := by
        show _ = _
        rw [← HK.out, HKy2.out, List.append_assoc, List.singleton_append]
      have hlt : T2.size < t'.size := by have := HS.out; omega
      have HN2 : Hid (n' + 1 + T2.size ≤ n + t.size) := by
        show _ ≤ _
        have := HN.out
        omega
      clear HK HKy2 HB HN HKp HU3 HV1 HR3 HUa
      go_wp2
      go_roundg (T2.size)
      case measure => omega
      case rel => exact ⟨T2, ws' ++ [F], n' + 1, rfl, Nat.le_refl _, HK2, HB5, HN2, HV2⟩
    · have y1 : (C == 0) = false := beq_eq_false_iff_ne.2 hC0
      have HE : Hid (ws' = ws ++ knw t) := by
        show _ = _
        have h := HK.out
        rw [HKn.out (by rw [HC.out]; exact hC0), List.append_nil] at h
        exact h
      clear hC0
      go_wp2
      refine bodyPost_ret (v := .tuple #[]) (by simp [results, Tryd.results33, go_sem]) rfl ⟨rfl, n', ?_, ?_, ?_⟩
      · have h := HB.out.stay HU3.out.1
        rw [HE.out] at h
        exact h
      · have := HN.out
        omega
      · exact HKp.out.trans (KpP.of (HU3.out.1.mono HKp.out.size))
end Go.Proofs.YteeeekpeokgaeaaDoor
