/- near.walk. -/
import Derived.Test.YtfikkkodepfdkaaDoorpkE
namespace Go.Proofs.YtfikkkodepfdkaaDoor
set_option linter.unusedVariables false
open Go.RowKit Go.ChangeShapes
open Qns (dd far at_)
set_option maxHeartbeats 8000000 in
set_option maxRecDepth 100000 in
theorem walk_any {w0 : World} {tv : Value} {P : List PN} (hV : TrV w0 tv P) {L : List ByteArray} {B : List (List Int)} (hNP : NP L P B) (hD : (L.map rs).Pairwise (· < ·)) (hok : OkP P) (hPl : P.length ≤ 300000)
    {vW : Value} {W : List Int} (hW : Qns.RSl w0 vW W.length (at_ W)) (hWl : W.length ≤ 64) (f : Nat) (hf : f ≤ 3) :
    ∀ (d i : Nat) (p : List Int), B[i]? = some p → 65 ≤ p.length + d → ∀ (w : World) (S : Nat) (vf vb vl vq : Value) (F : List Nr), SR w0 w S tv vW f vf F → w.ownsRow w0.heap.size 21 1 vb p.length (p.map i32c) → RowAt w W.length (rowN W p) (FS S vf vb) vl → Ahead w W p (FS S vf vb) vq → F.length + (subW (L.map rs) p).length ≤ 100000 →
      Calls Tryd.prog 63 #[.pointer (some ⟨S, 0, none⟩), .int .i64 (i : Int), vb, vl, vq] w fun e w' => (∃ u, e = .returned u) ∧ WPost w0 w w' S tv vW f vf vb (F ++ witP W f (subW (L.map rs) p)) p := by
  intro d
  induction d with
  | zero =>
    intro i p hp hd
    have := (hNP.ok hp).2
    omega
  | succ d IH =>
    intro i p hp hd w S vf vb vl vq F hS hB hL hA hFl
    have hp64 := (hNP.ok hp).2
    have HIH : Hid (∀ (i : Nat) (p : List Int), B[i]? = some p → 65 ≤ p.length + d → ∀ (w : World) (S : Nat) (vf vb vl vq : Value) (F : List Nr), SR w0 w S tv vW f vf F → w.ownsRow w0.heap.size 21 1 vb p.length (p.map i32c) → RowAt w W.length (rowN W p) (FS S vf vb) vl → Ahead w W p (FS S vf vb) vq → F.length + (subW (L.map rs) p).length ≤ 100000 →
      Calls Tryd.prog 63 #[.pointer (some ⟨S, 0, none⟩), .int .i64 (i : Int), vb, vl, vq] w fun e w' => (∃ u, e = .returned u) ∧ WPost w0 w w' S tv vW f vf vb (F ++ witP W f (subW (L.map rs) p)) p) := IH
    clear IH
    obtain ⟨n, hn⟩ := hNP.inv.node hp
    have hokn := hok n (List.mem_of_getElem? hn)
    have hrise := hNP.inv.rise i n hn
    have hwit := hNP.wit hD hp hn W f
    have hwrd := hNP.words hD hp hn
    obtain ⟨D, eD⟩ : ∃ D, L.map rs = D := ⟨_, rfl⟩
    rw [eD] at hwit hwrd HIH hFl ⊢
    have HKID : Hid (∀ (j : Nat) (r : Int), n.R[j]? = some r → ∃ c, n.K[j]? = some c ∧ B[c]? = some (p ++ [r])) := fun j r hr => by
      obtain ⟨c, h1, h2, _⟩ := hNP.kid hp hn hr
      exact ⟨c, h1, h2⟩
    have HV : Hid (TrV w0 tv P) := hV
    have HPN : Hid (P[i]? = some n) := hn
    have HWW : Hid (Qns.RSl w0 vW W.length (at_ W)) := hW
    have HWIT : Hid (witP W f (subW D p) = (if far W p ≤ f ∧ n.e = true then [nrOf W p] else []) ++ n.R.flatMap fun r => witP W f (subW D (p ++ [r]))) := hwit
    have HWRD : Hid (subW D p = (if n.e = true then [p] else []) ++ n.R.flatMap fun r => subW D (p ++ [r])) := hwrd
    have HS0 : Hid (SR w0 w S tv vW f vf F) := hS
    obtain ⟨ab, cb, rfl⟩ := own_slice hB
    have HB0 : Hid (w.ownsRow w0.heap.size 21 1 (.slice ab p.length cb) p.length (p.map i32c)) := hB
    have HL0 : Hid (RowAt w W.length (rowN W p) (FS S vf (.slice ab p.length cb)) vl) := hL
    obtain ⟨lb, lo, lc, rfl⟩ := hL.form
    have HA0 : Hid (Ahead w W p (FS S vf (.slice ab p.length cb)) vq) := hA
    have HFL : Hid (F.length + (subW D p).length ≤ 100000) := hFl
    have HNL : Hid (∀ z, Qns.lst (rowN W p) W.length = z → (f : Int) < z → witP W f (subW D p) = []) := fun z hz hlt => wit_none W p f D (by rw [hz]; exact hlt)
    have hcap : p.length ≤ cb := by
      obtain ⟨_, ⟨e1, e2⟩ | ⟨g', cap, _, e1, _, _, h3, _⟩⟩ := hB
      · injection e1 with _ _ e3; omega
      · injection e1 with _ _ e3; omega
    obtain ⟨i0, hi, hz0, hz1, hz2⟩ := info_parts info21
    obtain ⟨in0, hin, hnz0, hnz1, hnz2⟩ := info_parts infoNr
    have hFl2 : F.length ≤ 100000 := by omega
    have HRIS : Hid (n.R.length = n.K.length ∧ n.R.length ≤ P.length) := ⟨hokn.1, hokn.2.2⟩
    have hnR3 : n.R.length ≤ 300000 := by have := hokn.2.2; omega
    have cf := hS.cells.2.2.1
    obtain ⟨z, hz⟩ : ∃ z, Qns.lst (rowN W p) W.length = z := ⟨_, rfl⟩
    have HZ : Hid (Qns.lst (rowN W p) W.length = z) := hz
    have HLE : Hid (∀ w', Up w.heap.size w w' → Calls Tryd.prog 70 #[.slice (some ⟨lb, lo, none⟩) (W.length + 1) lc] w' fun e w'' => e = .returned (.int .i64 z) ∧ (fun w' => w'.cell? ⟨S, 2, none⟩ = some (.int .i64 (f : Int)) ∧ Up w.heap.size w w') w'') := fun w' hu => by
      obtain ⟨b', o', c', e, h1, _⟩ := (HL0.out.stay hu.1)
      injection e with e1 _ e3
      injection e1 with e1
      injection e1 with e1 e2 _
      subst e1 e2 e3
      refine (Qns.least_any (c := lc) h1 (by omega)).mono ?_
      rintro e w'' ⟨rfl, rfl⟩
      exact ⟨by rw [HZ.out], (HS0.out.stay hu.1).cells.2.2.1, hu⟩
    have HLA : Hid (∀ w', Up w.heap.size w w' → Calls Tryd.prog 71 #[.slice (some ⟨lb, lo, none⟩) (W.length + 1) lc] w' fun e w'' => e = .returned (.int .i64 ((far W p : Nat) : Int)) ∧ w'' = w') := fun w' hu => by
      obtain ⟨b', o', c', e, h1, _⟩ := (HL0.out.stay hu.1)
      injection e with e1 _ e3
      injection e1 with e1
      injection e1 with e1 e2 _
      subst e1 e2 e3
      have hla := Qns.last_any (c := lc) h1 (by omega)
      rw [row_last] at hla
      exact hla
    have hSlt := hS.S_lt
    clear hS hB hL hA hFl hn hokn hwit hwrd hp hz hV hNP hD hok hW hrise eD
    go_enter Tryd.func63, Tryd.ntmps63
    go_upto_region 0 with fail
    obtain ⟨bz, ebz⟩ : ∃ bz, decide ((f : Int) < z) = bz := ⟨_, rfl⟩
    have HBZ : Hid (decide ((f : Int) < z) = bz) := ebz
    go_cut [22] (fun tvl wx => tvl = .bool bz ∧ Hid (Up w.heap.size w wx))
    case first =>
      go_region_held3 (fun w' => w'.cell? ⟨S, 2, none⟩ = some (.int .i64 (f : Int)) ∧ Up w.heap.size w w') (first | exact ⟨cf, (Up.refl w).drew⟩ | assumption) (first | (go_at_call 70; refine (HLE.out _ (by first | exact (Up.refl w).drew | assumption)).mono ?_; rintro e w' ⟨rfl, hw'⟩))
      all_goals
        go_wp2
        go_meet
        case rel => exact ⟨by first | rfl | exact congrArg Value.bool HBZ.out, hw'.2⟩
    case rest =>
      clear ebz
      obtain ⟨rfl, HU0⟩ := hcut
      have HS1 : Hid (SR w0 wc S tv vW f vf F) := HS0.out.stay HU0.out.1
      have HB1 : Hid (wc.ownsRow w0.heap.size 21 1 (.slice ab p.length cb) p.length (p.map i32c)) := own_stay HB0.out HU0.out.1
      have HL1 : Hid (RowAt wc W.length (rowN W p) (FS S vf (.slice ab p.length cb)) (.slice (some ⟨lb, lo, none⟩) (W.length + 1) lc)) := HL0.out.stay HU0.out.1
      have HA1 : Hid (Ahead wc W p (FS S vf (.slice ab p.length cb)) vq) := HA0.out.went (Went.of_below HU0.out.1)
      have HW1 : Hid (Went w wc (FS S vf (.slice ab p.length cb)) (FS S vf (.slice ab p.length cb))) := Went.of_below HU0.out.1
      cases bz with
      | true =>
        clear cf HLE HLA
        go_wp2
        refine bodyPost_ret (results_none rfl _ _ _) rfl ?_
        have hnil := HNL.out z HZ.out (of_decide_eq_true HBZ.out)
        exact ⟨⟨_, rfl⟩, ⟨vf, by rw [hnil, List.append_nil]; exact HS1.out, HB1.out, HW1.out⟩⟩
      | false =>
        have cla := HLA.out wc HU0.out
        clear cf HLE HLA HNL
        go_wp2_with fail
        refine cla.mono ?_
        rintro e w1 ⟨rfl, hw1⟩
        subst w1
        have c2 := HS1.out.cells.2.2.1
        have c0 := HS1.out.cells.1
        have hEK := HV.out wc HS1.out.up i n HPN.out
        have HKD : Hid (∀ w', Up w0.heap.size w0 w' → Calls Tryd.prog 21 #[tv, .int .i64 (i : Int)] w' fun e w'' => ∃ vr vk, e = .returned (.tuple #[vr, vk]) ∧ w''.ownsRow w'.heap.size 21 1 vr n.R.length (n.R.map i32c) ∧ w''.ownsRow w'.heap.size 3 1 vk n.K.length (n.K.map i64c) ∧ Below w'.heap.size w' w'') := fun w' hu => (HV.out w' hu i n HPN.out).2
        have cE := hEK.1
        clear hEK cla HV
        obtain ⟨b, eb⟩ : ∃ b, (decide (far W p ≤ f) && n.e) = b := ⟨_, rfl⟩
        have HEB : Hid ((decide (far W p ≤ f) && n.e) = b) := eb
        clear eb
        have hfar := HU0.out.2
        obtain ⟨df, edf⟩ : ∃ df, far W p = df := ⟨_, rfl⟩
        have HDF : Hid (far W p = df) := edf
        rw [edf]
        go_upto_region 2 with fail
        go_cut [38] (fun tvl wx => tvl = .bool b ∧ Hid (Up wc.heap.size wc wx))
        case first =>
          by_cases hle : df ≤ f
          · have g1 : (df : Int) ≤ (f : Int) := by omega
            have heb : n.e = b := by
              have := HEB.out
              rw [HDF.out, decide_eq_true hle, Bool.true_and] at this
              exact this
            rw [heb] at cE
            clear edf heb
            go_wp2_with fail
            refine cE.mono ?_
            rintro e w2 ⟨rfl, hb2⟩
            have HU2 : Hid (Up wc.heap.size wc w2) := (Up.refl wc).stay hb2
            clear hb2 cE
            go_wp2
            go_meet
            case rel => exact ⟨rfl, HU2⟩
          · have g1 : ¬ (df : Int) ≤ (f : Int) := by omega
            have heb : b = false := by
              have := HEB.out
              rw [HDF.out, decide_eq_false hle, Bool.false_and] at this
              exact this.symm
            subst heb
            clear edf cE
            go_wp2
            go_meet
            case rel => exact ⟨rfl, Up.refl wc⟩
        case rest =>
          obtain ⟨rfl, HU1⟩ := hcut
          obtain ⟨wy, ewy⟩ : ∃ wy, wy = wc := ⟨_, rfl⟩
          subst edf
          have HS2 : Hid (SR w0 wc S tv vW f vf F) := HS1.out.stay HU1.out.1
          have HB2 : Hid (wc.ownsRow w0.heap.size 21 1 (.slice ab p.length cb) p.length (p.map i32c)) := own_stay HB1.out HU1.out.1
          have HW2 : Hid (Went w wc (FS S vf (.slice ab p.length cb)) (FS S vf (.slice ab p.length cb))) := HW1.out.trans (Went.of_below HU1.out.1)
          clear HS1 HB1 HL1 HA1 HW1 c2 c0 cE HU0 HU1 HDF hfar ewy wy
          go_upto_if 38 with fail
          go_cut [38] (fun tvl wx => tvl = .bool b ∧ Hid (WPost w0 w wx S tv vW f vf (.slice ab p.length cb) (F ++ if b = true then [nrOf W p] else []) p))
          case first =>
            cases b with
            | false =>
              go_wp2
              go_meet
              case rel => exact ⟨rfl, ⟨vf, by rw [if_neg (by simp), List.append_nil]; exact HS2.out, HB2.out, HW2.out⟩⟩
            | true =>
              go_upto_region 3 with fail
              refine wp_region_held_drew (S := fun _ => True) (by kernel_rfl) trivial (fun hHeld => ?_)
              clear hHeld
              have HS3 : Hid (SR w0 wc.drew S tv vW f vf F) := HS2.out.drew
              have HWd : Hid (Went w wc.drew (FS S vf (.slice ab p.length cb)) (FS S vf (.slice ab p.length cb))) := (HW2.out.trans (Went.of_below ((Below.refl _ _).drew)))
              have HBd : Hid (wc.drew.ownsRow w0.heap.size 21 1 (.slice ab p.length cb) p.length (p.map i32c)) := HB2.out
              clear HS2 HW2 HB2
              obtain ⟨x0, hx0⟩ : ∃ x0, wc.drew = x0 := ⟨_, rfl⟩
              rw [hx0] at HS3 HWd HBd ⊢
              clear hx0
              refine takeH (i := 0) (v := ?_) (d := (some 39)) rfl (by kernel_rfl) (by kernel_rfl) (by kernel_rfl) rfl (fun _ _ _ h => h) (Or.inl ⟨by kernel_rfl, ?_⟩) (by first | assumption | trivial) ?_; rotate_left
              · (intro w hSw; (try dsimp only at hSw); first | (go_simp; done) | (go_simp; with_reducible rfl))
              (try simp only [Act.put, List.setIfInBounds_toArray, List.set_cons_zero, List.set_cons_succ])
              refine takeH (i := 1) (v := ?_) (d := (some 40)) rfl (by kernel_rfl) (by kernel_rfl) (by kernel_rfl) rfl (fun _ _ _ h => h) (Or.inl ⟨by kernel_rfl, ?_⟩) (by first | assumption | trivial) ?_; rotate_left
              · (intro w hSw; (try dsimp only at hSw); first | (go_simp; done) | (go_simp; with_reducible rfl))
              (try simp only [Act.put, List.setIfInBounds_toArray, List.set_cons_zero, List.set_cons_succ])
              refine takeH (i := 2) (v := ?_) (d := (some 41)) rfl (by kernel_rfl) (by kernel_rfl) (by kernel_rfl) rfl (fun _ _ _ h => h) (Or.inl ⟨by kernel_rfl, ?_⟩) (by first | assumption | trivial) ?_; rotate_left
              · (intro w hSw; (try dsimp only at hSw); first | (go_simp; done) | (go_simp; with_reducible rfl))
              (try simp only [Act.put, List.setIfInBounds_toArray, List.set_cons_zero, List.set_cons_succ])
              refine takeH (i := 3) (v := ?_) (d := (some 42)) rfl (by kernel_rfl) (by kernel_rfl) (by kernel_rfl) rfl (fun _ _ _ h => h) (Or.inl ⟨by kernel_rfl, ?_⟩) (by first | assumption | trivial) ?_; rotate_left
              · (intro w hSw; (try dsimp only at hSw); first | (go_simp; done) | (go_simp; with_reducible rfl))
              (try simp only [Act.put, List.setIfInBounds_toArray, List.set_cons_zero, List.set_cons_succ])
              refine takeH (i := 5) (v := ?_) (d := (some 44)) rfl (by kernel_rfl) (by kernel_rfl) (by kernel_rfl) rfl (fun _ _ _ h => h) (Or.inl ⟨by kernel_rfl, ?_⟩) (by first | assumption | trivial) ?_; rotate_left
              · (intro w hSw; (try dsimp only at hSw); first | (go_simp; done) | (go_simp; with_reducible rfl))
              (try simp only [Act.put, List.setIfInBounds_toArray, List.set_cons_zero, List.set_cons_succ])
              refine takeH (i := 7) (v := ?_) (d := (some 46)) rfl (by kernel_rfl) (by kernel_rfl) (by kernel_rfl) rfl (fun _ _ _ h => h) (Or.inl ⟨by kernel_rfl, ?_⟩) (by first | assumption | trivial) ?_; rotate_left
              · (intro w hSw; (try dsimp only at hSw); first | (go_simp; done) | (go_simp; with_reducible rfl))
              (try simp only [Act.put, List.setIfInBounds_toArray, List.set_cons_zero, List.set_cons_succ])
              refine wpAnyH_ready (rs := [4, 6]) (by kernel_rfl) (by simp) (AllReadyH.cons rfl (fun K hK => ?_) (AllReadyH.cons rfl (fun K hK => ?_) AllReadyH.nil))
              · rw [if_pos (by kernel_rfl)]
                have c3 := HS3.out.cells.2.2.2.1
                go_simp
                clear c3
                refine hK.out _ _ (trivial) (fun hHeld' => ?_)
                clear hK K hHeld'
                (try simp only [Act.put, List.setIfInBounds_toArray, List.set_cons_zero, List.set_cons_succ])
                refine wpAnyH_ready (rs := [6]) (by kernel_rfl) (by simp) (AllReadyH.cons rfl (fun K hK => ?_) AllReadyH.nil)
                rw [if_pos (by kernel_rfl)]
                go_simp
                refine (tx_own p HBd.out (by omega)).mono ?_
                rintro e x1 ⟨rfl, hbt⟩
                have HS4 : Hid (SR w0 x1 S tv vW f vf F) := HS3.out.stay hbt
                have HB4 : Hid (x1.ownsRow w0.heap.size 21 1 (.slice ab p.length cb) p.length (p.map i32c)) := own_stay HBd.out hbt
                have HW4 : Hid (Went w x1 (FS S vf (.slice ab p.length cb)) (FS S vf (.slice ab p.length cb))) := HWd.out.trans (Went.of_below hbt)
                clear HS3 HBd HWd hbt
                go_wp2_with fail
                refine hK.out _ _ (trivial) (fun hHeld' => ?_)
                clear hK K hHeld'
                (try simp only [Act.put, List.setIfInBounds_toArray, List.set_cons_zero, List.set_cons_succ])
                refine takeH (i := 8) (v := ?_) (d := (some 47)) rfl (by kernel_rfl) (by kernel_rfl) (by kernel_rfl) rfl (fun _ _ _ h => h) (Or.inl ⟨by kernel_rfl, ?_⟩) (by first | assumption | trivial) ?_; rotate_left
                · (intro w hSw; (try dsimp only at hSw); first | (go_simp; done) | (go_simp; with_reducible rfl))
                (try simp only [Act.put, List.setIfInBounds_toArray, List.set_cons_zero, List.set_cons_succ])
                refine wpAnyH_ready (rs := [9]) (by kernel_rfl) (by simp) (AllReadyH.cons rfl (fun K hK => ?_) AllReadyH.nil)
                rw [if_pos (by kernel_rfl)]
                go_simp
                have HC5 : Hid (∀ j u, [Value.string (tx p), Value.int .i64 ((far W p : Nat) : Int)][j]? = some u → (x1.alloc (.cells #[.string (tx p), .int .i64 ((far W p : Nat) : Int)] 47)).cell? ((⟨x1.heap.size, 0, none⟩ : Addr).add j) = some u) := World.news_of_block (Array.getElem?_push_size (xs := x1.heap) (x := (.cells #[.string (tx p), .int .i64 ((far W p : Nat) : Int)] 47)))
                have HS5 : Hid (SR w0 (x1.alloc (.cells #[.string (tx p), .int .i64 ((far W p : Nat) : Int)] 47)) S tv vW f vf F) := HS4.out.stay ((Below.refl _ _).alloc (Nat.le_refl _) _)
                have HB5 : Hid ((x1.alloc (.cells #[.string (tx p), .int .i64 ((far W p : Nat) : Int)] 47)).ownsRow w0.heap.size 21 1 (.slice ab p.length cb) p.length (p.map i32c)) := own_stay HB4.out ((Below.refl _ _).alloc (Nat.le_refl _) _)
                have HW5 : Hid (Went w (x1.alloc (.cells #[.string (tx p), .int .i64 ((far W p : Nat) : Int)] 47)) (FS S vf (.slice ab p.length cb)) (FS S vf (.slice ab p.length cb))) := HW4.out.trans (Went.of_below ((Below.refl _ _).alloc (Nat.le_refl _) _))
                clear HS4 HB4 HW4
                refine hK.out _ _ (trivial) (fun hHeld' => ?_)
                clear hK K hHeld'
                (try simp only [Act.put, List.setIfInBounds_toArray, List.set_cons_zero, List.set_cons_succ])
                obtain ⟨x2, hx2⟩ : ∃ x2, x1.alloc (.cells #[.string (tx p), .int .i64 ((far W p : Nat) : Int)] 47) = x2 := ⟨_, rfl⟩
                rw [hx2] at HC5 HS5 HB5 HW5 ⊢
                clear hx2
                refine wpAnyH_ready (rs := [10]) (by kernel_rfl) (by simp) (AllReadyH.cons rfl (fun K hK => ?_) AllReadyH.nil)
                rw [if_pos (by kernel_rfl)]
                refine wp_append_lies x2 (.tmp 43) (.tmp 48) 34 rfl w0.heap.size 47 in0 _ 2 24 Tryd.underlying34 hin hnz0 hnz1 hnz2 rfl (by decide) vf F.length (nrC F) rfl HS5.out.fnd ⟨x1.heap.size, 0, none⟩ 1 1 [.string (tx p), .int .i64 ((far W p : Nat) : Int)] rfl rfl HC5.out (by intro u hu; simp at hu; rcases hu with rfl | rfl <;> rfl) (by omega) (by unfold maxLen; omega) (by omega) HS5.out.up.2 x2.heap.size rfl ?_
                intro g cap y1 ho1 hg1 hgg hlt
                change K (Act.put _ (some 49) _) _
                have hSP := HS5.out.put (.slice ab p.length cb) (nrOf W p) (q := F.length + 1) rfl ho1 hg1 (hgg.imp id (fun e => by omega))
                have HB6 : Hid (y1.ownsRow w0.heap.size 21 1 (.slice ab p.length cb) p.length (p.map i32c)) := own_of_blocks HB5.out (fun k hk => hg1.block k (HB5.out.lt k hk).2 (fun e => own_type HS5.out.fnd HB5.out (by decide) k e.symm hk))
                have hfz : y1.frozen? ⟨S, 3, none⟩ = false := (World.frozen?_of_block (hg1.block S (lt_of_heap HS5.out.blk) (fun e => own_blk HS5.out.fnd HS5.out.blk (by decide) e.symm))).trans HS5.out.cells.2.2.2.2
                have hcl : (y1.cell? ⟨S, 3, none⟩).isSome = true := by rw [World.cell?_of_block (hg1.block S (lt_of_heap HS5.out.blk) (fun e => own_blk HS5.out.fnd HS5.out.blk (by decide) e.symm)), HS5.out.cells.2.2.2.1]; rfl
                obtain ⟨ucl, hucl⟩ := Option.isSome_iff_exists.1 hcl
                have HB7 : Hid ((y1.setCell ⟨S, 3, none⟩ (.slice (some ⟨g, 0, none⟩) (F.length + 1) cap)).ownsRow w0.heap.size 21 1 (.slice ab p.length cb) p.length (p.map i32c)) := own_of_blocks HB6.out (fun k hk => heap_setCell_other y1 ⟨S, 3, none⟩ k _ (fun e => own_blk HB5.out HS5.out.blk (by decide) (by rw [hk]; exact congrArg some e)))
                have HSP : Hid (SR w0 (y1.setCell ⟨S, 3, none⟩ (.slice (some ⟨g, 0, none⟩) (F.length + 1) cap)) S tv vW f (.slice (some ⟨g, 0, none⟩) (F.length + 1) cap) (F ++ [nrOf W p])) := hSP.1
                have HWP : Hid (Went w (y1.setCell ⟨S, 3, none⟩ (.slice (some ⟨g, 0, none⟩) (F.length + 1) cap)) (FS S vf (.slice ab p.length cb)) (FS S (.slice (some ⟨g, 0, none⟩) (F.length + 1) cap) (.slice ab p.length cb))) := HW5.out.trans hSP.2
                clear hSP HB6 HB5 HS5 HW5 HC5 ho1 hg1 hgg hlt hcl
                refine hK.out _ _ (trivial) (fun hHeld' => ?_)
                clear hK K hHeld'
                (try simp only [Act.put, List.setIfInBounds_toArray, List.set_cons_zero, List.set_cons_succ])
                refine takeH (i := 11) (v := ?_) (d := (some 50)) rfl (by kernel_rfl) (by kernel_rfl) (by kernel_rfl) rfl (fun _ _ _ h => h) (Or.inl ⟨by kernel_rfl, ?_⟩) (by first | assumption | trivial) ?_; rotate_left
                · (intro w hSw; (try dsimp only at hSw); first | (go_simp; done) | (go_simp; with_reducible rfl))
                (try simp only [Act.put, List.setIfInBounds_toArray, List.set_cons_zero, List.set_cons_succ])
                refine takeH (i := 12) (v := ?_) (d := (some 51)) rfl (by kernel_rfl) (by kernel_rfl) (by kernel_rfl) rfl (fun _ _ _ h => h) (Or.inl ⟨by kernel_rfl, ?_⟩) (by first | assumption | trivial) ?_; rotate_left
                · (intro w hSw; (try dsimp only at hSw); first | (go_simp; done) | (go_simp; with_reducible rfl))
                (try simp only [Act.put, List.setIfInBounds_toArray, List.set_cons_zero, List.set_cons_succ])
                refine wpAnyH_ready (rs := [13]) (by kernel_rfl) (by simp) (AllReadyH.cons rfl (fun K hK => ?_) AllReadyH.nil)
                rw [if_pos (by kernel_rfl)]
                go_simp
                refine hK.out _ _ (trivial) (fun hHeld' => ?_)
                clear hK K hHeld'
                (try simp only [Act.put, List.setIfInBounds_toArray, List.set_cons_zero, List.set_cons_succ])
                refine wpAnyH_done (by kernel_rfl) ?_ _
                go_wp2
                go_meet
                case rel => exact ⟨rfl, ⟨_, by first | (rw [if_pos rfl]; exact HSP.out) | (rw [if_pos trivial]; exact HSP.out), HB7.out, HWP.out⟩⟩
              · rw [if_pos (by kernel_rfl)]
                go_simp
                refine (tx_own p HBd.out (by omega)).mono ?_
                rintro e x1 ⟨rfl, hbt⟩
                have HS4 : Hid (SR w0 x1 S tv vW f vf F) := HS3.out.stay hbt
                have HB4 : Hid (x1.ownsRow w0.heap.size 21 1 (.slice ab p.length cb) p.length (p.map i32c)) := own_stay HBd.out hbt
                have HW4 : Hid (Went w x1 (FS S vf (.slice ab p.length cb)) (FS S vf (.slice ab p.length cb))) := HWd.out.trans (Went.of_below hbt)
                clear HS3 HBd HWd hbt
                go_wp2_with fail
                refine hK.out _ _ (trivial) (fun hHeld' => ?_)
                clear hK K hHeld'
                (try simp only [Act.put, List.setIfInBounds_toArray, List.set_cons_zero, List.set_cons_succ])
                refine takeH (i := 8) (v := ?_) (d := (some 47)) rfl (by kernel_rfl) (by kernel_rfl) (by kernel_rfl) rfl (fun _ _ _ h => h) (Or.inl ⟨by kernel_rfl, ?_⟩) (by first | assumption | trivial) ?_; rotate_left
                · (intro w hSw; (try dsimp only at hSw); first | (go_simp; done) | (go_simp; with_reducible rfl))
                (try simp only [Act.put, List.setIfInBounds_toArray, List.set_cons_zero, List.set_cons_succ])
                refine wpAnyH_ready (rs := [4, 9]) (by kernel_rfl) (by simp) (AllReadyH.cons rfl (fun K hK => ?_) (AllReadyH.cons rfl (fun K hK => ?_) AllReadyH.nil))
                · rw [if_pos (by kernel_rfl)]
                  have c3 := HS4.out.cells.2.2.2.1
                  go_simp
                  clear c3
                  refine hK.out _ _ (trivial) (fun hHeld' => ?_)
                  clear hK K hHeld'
                  (try simp only [Act.put, List.setIfInBounds_toArray, List.set_cons_zero, List.set_cons_succ])
                  refine wpAnyH_ready (rs := [9]) (by kernel_rfl) (by simp) (AllReadyH.cons rfl (fun K hK => ?_) AllReadyH.nil)
                  rw [if_pos (by kernel_rfl)]
                  go_simp
                  have HC5 : Hid (∀ j u, [Value.string (tx p), Value.int .i64 ((far W p : Nat) : Int)][j]? = some u → (x1.alloc (.cells #[.string (tx p), .int .i64 ((far W p : Nat) : Int)] 47)).cell? ((⟨x1.heap.size, 0, none⟩ : Addr).add j) = some u) := World.news_of_block (Array.getElem?_push_size (xs := x1.heap) (x := (.cells #[.string (tx p), .int .i64 ((far W p : Nat) : Int)] 47)))
                  have HS5 : Hid (SR w0 (x1.alloc (.cells #[.string (tx p), .int .i64 ((far W p : Nat) : Int)] 47)) S tv vW f vf F) := HS4.out.stay ((Below.refl _ _).alloc (Nat.le_refl _) _)
                  have HB5 : Hid ((x1.alloc (.cells #[.string (tx p), .int .i64 ((far W p : Nat) : Int)] 47)).ownsRow w0.heap.size 21 1 (.slice ab p.length cb) p.length (p.map i32c)) := own_stay HB4.out ((Below.refl _ _).alloc (Nat.le_refl _) _)
                  have HW5 : Hid (Went w (x1.alloc (.cells #[.string (tx p), .int .i64 ((far W p : Nat) : Int)] 47)) (FS S vf (.slice ab p.length cb)) (FS S vf (.slice ab p.length cb))) := HW4.out.trans (Went.of_below ((Below.refl _ _).alloc (Nat.le_refl _) _))
                  clear HS4 HB4 HW4
                  refine hK.out _ _ (trivial) (fun hHeld' => ?_)
                  clear hK K hHeld'
                  (try simp only [Act.put, List.setIfInBounds_toArray, List.set_cons_zero, List.set_cons_succ])
                  obtain ⟨x2, hx2⟩ : ∃ x2, x1.alloc (.cells #[.string (tx p), .int .i64 ((far W p : Nat) : Int)] 47) = x2 := ⟨_, rfl⟩
                  rw [hx2] at HC5 HS5 HB5 HW5 ⊢
                  clear hx2
                  refine wpAnyH_ready (rs := [10]) (by kernel_rfl) (by simp) (AllReadyH.cons rfl (fun K hK => ?_) AllReadyH.nil)
                  rw [if_pos (by kernel_rfl)]
                  refine wp_append_lies x2 (.tmp 43) (.tmp 48) 34 rfl w0.heap.size 47 in0 _ 2 24 Tryd.underlying34 hin hnz0 hnz1 hnz2 rfl (by decide) vf F.length (nrC F) rfl HS5.out.fnd ⟨x1.heap.size, 0, none⟩ 1 1 [.string (tx p), .int .i64 ((far W p : Nat) : Int)] rfl rfl HC5.out (by intro u hu; simp at hu; rcases hu with rfl | rfl <;> rfl) (by omega) (by unfold maxLen; omega) (by omega) HS5.out.up.2 x2.heap.size rfl ?_
                  intro g cap y1 ho1 hg1 hgg hlt
                  change K (Act.put _ (some 49) _) _
                  have hSP := HS5.out.put (.slice ab p.length cb) (nrOf W p) (q := F.length + 1) rfl ho1 hg1 (hgg.imp id (fun e => by omega))
                  have HB6 : Hid (y1.ownsRow w0.heap.size 21 1 (.slice ab p.length cb) p.length (p.map i32c)) := own_of_blocks HB5.out (fun k hk => hg1.block k (HB5.out.lt k hk).2 (fun e => own_type HS5.out.fnd HB5.out (by decide) k e.symm hk))
                  have hfz : y1.frozen? ⟨S, 3, none⟩ = false := (World.frozen?_of_block (hg1.block S (lt_of_heap HS5.out.blk) (fun e => own_blk HS5.out.fnd HS5.out.blk (by decide) e.symm))).trans HS5.out.cells.2.2.2.2
                  have hcl : (y1.cell? ⟨S, 3, none⟩).isSome = true := by rw [World.cell?_of_block (hg1.block S (lt_of_heap HS5.out.blk) (fun e => own_blk HS5.out.fnd HS5.out.blk (by decide) e.symm)), HS5.out.cells.2.2.2.1]; rfl
                  obtain ⟨ucl, hucl⟩ := Option.isSome_iff_exists.1 hcl
                  have HB7 : Hid ((y1.setCell ⟨S, 3, none⟩ (.slice (some ⟨g, 0, none⟩) (F.length + 1) cap)).ownsRow w0.heap.size 21 1 (.slice ab p.length cb) p.length (p.map i32c)) := own_of_blocks HB6.out (fun k hk => heap_setCell_other y1 ⟨S, 3, none⟩ k _ (fun e => own_blk HB5.out HS5.out.blk (by decide) (by rw [hk]; exact congrArg some e)))
                  have HSP : Hid (SR w0 (y1.setCell ⟨S, 3, none⟩ (.slice (some ⟨g, 0, none⟩) (F.length + 1) cap)) S tv vW f (.slice (some ⟨g, 0, none⟩) (F.length + 1) cap) (F ++ [nrOf W p])) := hSP.1
                  have HWP : Hid (Went w (y1.setCell ⟨S, 3, none⟩ (.slice (some ⟨g, 0, none⟩) (F.length + 1) cap)) (FS S vf (.slice ab p.length cb)) (FS S (.slice (some ⟨g, 0, none⟩) (F.length + 1) cap) (.slice ab p.length cb))) := HW5.out.trans hSP.2
                  clear hSP HB6 HB5 HS5 HW5 HC5 ho1 hg1 hgg hlt hcl
                  refine hK.out _ _ (trivial) (fun hHeld' => ?_)
                  clear hK K hHeld'
                  (try simp only [Act.put, List.setIfInBounds_toArray, List.set_cons_zero, List.set_cons_succ])
                  refine takeH (i := 11) (v := ?_) (d := (some 50)) rfl (by kernel_rfl) (by kernel_rfl) (by kernel_rfl) rfl (fun _ _ _ h => h) (Or.inl ⟨by kernel_rfl, ?_⟩) (by first | assumption | trivial) ?_; rotate_left
                  · (intro w hSw; (try dsimp only at hSw); first | (go_simp; done) | (go_simp; with_reducible rfl))
                  (try simp only [Act.put, List.setIfInBounds_toArray, List.set_cons_zero, List.set_cons_succ])
                  refine takeH (i := 12) (v := ?_) (d := (some 51)) rfl (by kernel_rfl) (by kernel_rfl) (by kernel_rfl) rfl (fun _ _ _ h => h) (Or.inl ⟨by kernel_rfl, ?_⟩) (by first | assumption | trivial) ?_; rotate_left
                  · (intro w hSw; (try dsimp only at hSw); first | (go_simp; done) | (go_simp; with_reducible rfl))
                  (try simp only [Act.put, List.setIfInBounds_toArray, List.set_cons_zero, List.set_cons_succ])
                  refine wpAnyH_ready (rs := [13]) (by kernel_rfl) (by simp) (AllReadyH.cons rfl (fun K hK => ?_) AllReadyH.nil)
                  rw [if_pos (by kernel_rfl)]
                  go_simp
                  refine hK.out _ _ (trivial) (fun hHeld' => ?_)
                  clear hK K hHeld'
                  (try simp only [Act.put, List.setIfInBounds_toArray, List.set_cons_zero, List.set_cons_succ])
                  refine wpAnyH_done (by kernel_rfl) ?_ _
                  go_wp2
                  go_meet
                  case rel => exact ⟨rfl, ⟨_, by first | (rw [if_pos rfl]; exact HSP.out) | (rw [if_pos trivial]; exact HSP.out), HB7.out, HWP.out⟩⟩
                · rw [if_pos (by kernel_rfl)]
                  go_simp
                  have HC5 : Hid (∀ j u, [Value.string (tx p), Value.int .i64 ((far W p : Nat) : Int)][j]? = some u → (x1.alloc (.cells #[.string (tx p), .int .i64 ((far W p : Nat) : Int)] 47)).cell? ((⟨x1.heap.size, 0, none⟩ : Addr).add j) = some u) := World.news_of_block (Array.getElem?_push_size (xs := x1.heap) (x := (.cells #[.string (tx p), .int .i64 ((far W p : Nat) : Int)] 47)))
                  have HS5 : Hid (SR w0 (x1.alloc (.cells #[.string (tx p), .int .i64 ((far W p : Nat) : Int)] 47)) S tv vW f vf F) := HS4.out.stay ((Below.refl _ _).alloc (Nat.le_refl _) _)
                  have HB5 : Hid ((x1.alloc (.cells #[.string (tx p), .int .i64 ((far W p : Nat) : Int)] 47)).ownsRow w0.heap.size 21 1 (.slice ab p.length cb) p.length (p.map i32c)) := own_stay HB4.out ((Below.refl _ _).alloc (Nat.le_refl _) _)
                  have HW5 : Hid (Went w (x1.alloc (.cells #[.string (tx p), .int .i64 ((far W p : Nat) : Int)] 47)) (FS S vf (.slice ab p.length cb)) (FS S vf (.slice ab p.length cb))) := HW4.out.trans (Went.of_below ((Below.refl _ _).alloc (Nat.le_refl _) _))
                  clear HS4 HB4 HW4
                  refine hK.out _ _ (trivial) (fun hHeld' => ?_)
                  clear hK K hHeld'
                  (try simp only [Act.put, List.setIfInBounds_toArray, List.set_cons_zero, List.set_cons_succ])
                  obtain ⟨x2, hx2⟩ : ∃ x2, x1.alloc (.cells #[.string (tx p), .int .i64 ((far W p : Nat) : Int)] 47) = x2 := ⟨_, rfl⟩
                  rw [hx2] at HC5 HS5 HB5 HW5 ⊢
                  clear hx2
                  refine wpAnyH_ready (rs := [4]) (by kernel_rfl) (by simp) (AllReadyH.cons rfl (fun K hK => ?_) AllReadyH.nil)
                  rw [if_pos (by kernel_rfl)]
                  have c3 := HS5.out.cells.2.2.2.1
                  go_simp
                  clear c3
                  refine hK.out _ _ (trivial) (fun hHeld' => ?_)
                  clear hK K hHeld'
                  (try simp only [Act.put, List.setIfInBounds_toArray, List.set_cons_zero, List.set_cons_succ])
                  refine wpAnyH_ready (rs := [10]) (by kernel_rfl) (by simp) (AllReadyH.cons rfl (fun K hK => ?_) AllReadyH.nil)
                  rw [if_pos (by kernel_rfl)]
                  refine wp_append_lies x2 (.tmp 43) (.tmp 48) 34 rfl w0.heap.size 47 in0 _ 2 24 Tryd.underlying34 hin hnz0 hnz1 hnz2 rfl (by decide) vf F.length (nrC F) rfl HS5.out.fnd ⟨x1.heap.size, 0, none⟩ 1 1 [.string (tx p), .int .i64 ((far W p : Nat) : Int)] rfl rfl HC5.out (by intro u hu; simp at hu; rcases hu with rfl | rfl <;> rfl) (by omega) (by unfold maxLen; omega) (by omega) HS5.out.up.2 x2.heap.size rfl ?_
                  intro g cap y1 ho1 hg1 hgg hlt
                  change K (Act.put _ (some 49) _) _
                  have hSP := HS5.out.put (.slice ab p.length cb) (nrOf W p) (q := F.length + 1) rfl ho1 hg1 (hgg.imp id (fun e => by omega))
                  have HB6 : Hid (y1.ownsRow w0.heap.size 21 1 (.slice ab p.length cb) p.length (p.map i32c)) := own_of_blocks HB5.out (fun k hk => hg1.block k (HB5.out.lt k hk).2 (fun e => own_type HS5.out.fnd HB5.out (by decide) k e.symm hk))
                  have hfz : y1.frozen? ⟨S, 3, none⟩ = false := (World.frozen?_of_block (hg1.block S (lt_of_heap HS5.out.blk) (fun e => own_blk HS5.out.fnd HS5.out.blk (by decide) e.symm))).trans HS5.out.cells.2.2.2.2
                  have hcl : (y1.cell? ⟨S, 3, none⟩).isSome = true := by rw [World.cell?_of_block (hg1.block S (lt_of_heap HS5.out.blk) (fun e => own_blk HS5.out.fnd HS5.out.blk (by decide) e.symm)), HS5.out.cells.2.2.2.1]; rfl
                  obtain ⟨ucl, hucl⟩ := Option.isSome_iff_exists.1 hcl
                  have HB7 : Hid ((y1.setCell ⟨S, 3, none⟩ (.slice (some ⟨g, 0, none⟩) (F.length + 1) cap)).ownsRow w0.heap.size 21 1 (.slice ab p.length cb) p.length (p.map i32c)) := own_of_blocks HB6.out (fun k hk => heap_setCell_other y1 ⟨S, 3, none⟩ k _ (fun e => own_blk HB5.out HS5.out.blk (by decide) (by rw [hk]; exact congrArg some e)))
                  have HSP : Hid (SR w0 (y1.setCell ⟨S, 3, none⟩ (.slice (some ⟨g, 0, none⟩) (F.length + 1) cap)) S tv vW f (.slice (some ⟨g, 0, none⟩) (F.length + 1) cap) (F ++ [nrOf W p])) := hSP.1
                  have HWP : Hid (Went w (y1.setCell ⟨S, 3, none⟩ (.slice (some ⟨g, 0, none⟩) (F.length + 1) cap)) (FS S vf (.slice ab p.length cb)) (FS S (.slice (some ⟨g, 0, none⟩) (F.length + 1) cap) (.slice ab p.length cb))) := HW5.out.trans hSP.2
                  clear hSP HB6 HB5 HS5 HW5 HC5 ho1 hg1 hgg hlt hcl
                  refine hK.out _ _ (trivial) (fun hHeld' => ?_)
                  clear hK K hHeld'
                  (try simp only [Act.put, List.setIfInBounds_toArray, List.set_cons_zero, List.set_cons_succ])
                  refine takeH (i := 11) (v := ?_) (d := (some 50)) rfl (by kernel_rfl) (by kernel_rfl) (by kernel_rfl) rfl (fun _ _ _ h => h) (Or.inl ⟨by kernel_rfl, ?_⟩) (by first | assumption | trivial) ?_; rotate_left
                  · (intro w hSw; (try dsimp only at hSw); first | (go_simp; done) | (go_simp; with_reducible rfl))
                  (try simp only [Act.put, List.setIfInBounds_toArray, List.set_cons_zero, List.set_cons_succ])
                  refine takeH (i := 12) (v := ?_) (d := (some 51)) rfl (by kernel_rfl) (by kernel_rfl) (by kernel_rfl) rfl (fun _ _ _ h => h) (Or.inl ⟨by kernel_rfl, ?_⟩) (by first | assumption | trivial) ?_; rotate_left
                  · (intro w hSw; (try dsimp only at hSw); first | (go_simp; done) | (go_simp; with_reducible rfl))
                  (try simp only [Act.put, List.setIfInBounds_toArray, List.set_cons_zero, List.set_cons_succ])
                  refine wpAnyH_ready (rs := [13]) (by kernel_rfl) (by simp) (AllReadyH.cons rfl (fun K hK => ?_) AllReadyH.nil)
                  rw [if_pos (by kernel_rfl)]
                  go_simp
                  refine hK.out _ _ (trivial) (fun hHeld' => ?_)
                  clear hK K hHeld'
                  (try simp only [Act.put, List.setIfInBounds_toArray, List.set_cons_zero, List.set_cons_succ])
                  refine wpAnyH_done (by kernel_rfl) ?_ _
                  go_wp2
                  go_meet
                  case rel => exact ⟨rfl, ⟨_, by first | (rw [if_pos rfl]; exact HSP.out) | (rw [if_pos trivial]; exact HSP.out), HB7.out, HWP.out⟩⟩
          case rest =>
            obtain ⟨rfl, HP3⟩ := hcut
            obtain ⟨vk0, hs3, hb3, hw3⟩ := HP3.out
            obtain ⟨F1, eF1⟩ : ∃ F1, (F ++ if b = true then [nrOf W p] else []) = F1 := ⟨_, rfl⟩
            rw [eF1] at hs3
            have HF1 : Hid (F1 = F ++ if b = true then [nrOf W p] else []) := eF1.symm
            have HS3 : Hid (SR w0 wc S tv vW f vk0 F1) := hs3
            have HB3 : Hid (wc.ownsRow w0.heap.size 21 1 (.slice ab p.length cb) p.length (p.map i32c)) := hb3
            have HW3 : Hid (Went w wc (FS S vf (.slice ab p.length cb)) (FS S vk0 (.slice ab p.length cb))) := hw3
            have HL3 : Hid (RowAt wc W.length (rowN W p) (FS S vk0 (.slice ab p.length cb)) (.slice (some ⟨lb, lo, none⟩) (W.length + 1) lc)) := HL0.out.went hw3
            have HA3 : Hid (Ahead wc W p (FS S vk0 (.slice ab p.length cb)) vq) := HA0.out.went hw3
            clear eF1 hs3 hb3 hw3 HP3 HS2 HB2 HW2 HS0 HB0 HL0 HA0
            have c0 := HS3.out.cells.1
            have cK := HKD.out wc HS3.out.up
            obtain ⟨nR, hnR⟩ : ∃ x, n.R.length = x := ⟨_, rfl⟩
            have hnK : n.K.length = nR := by rw [← HRIS.out.1, hnR]
            rw [hnR, hnK] at cK
            have HNR : Hid (n.R.length = nR ∧ n.K.length = nR) := ⟨hnR, hnK⟩
            rw [hnR] at hnR3
            clear HKD hnR hnK HRIS
            go_wp2_with fail
            refine cK.mono ?_
            rintro e wk ⟨vr, vkk, rfl, hR, hK, hbk⟩
            obtain ⟨ar, cr, rfl⟩ := own_slice hR
            obtain ⟨ak, ck, rfl⟩ := own_slice hK
            obtain ⟨wz, ewz⟩ : ∃ wz, wc = wz := ⟨_, rfl⟩
            subst ewz
            have HRr : Hid (wk.ownsRow wc.heap.size 21 1 (.slice ar nR cr) nR (n.R.map i32c)) := hR
            have HKk : Hid (wk.ownsRow wc.heap.size 3 1 (.slice ak nR ck) nR (n.K.map i64c)) := hK
            have HSK : Hid (SR w0 wk S tv vW f vk0 F1) := HS3.out.stay hbk
            have HBK : Hid (wk.ownsRow w0.heap.size 21 1 (.slice ab p.length cb) p.length (p.map i32c)) := own_stay HB3.out hbk
            have HLK : Hid (RowAt wk W.length (rowN W p) (FS S vk0 (.slice ab p.length cb)) (.slice (some ⟨lb, lo, none⟩) (W.length + 1) lc)) := HL3.out.stay hbk
            have HAK : Hid (Ahead wk W p (FS S vk0 (.slice ab p.length cb)) vq) := HA3.out.went (Went.of_below hbk)
            have HWK : Hid (Went w wk (FS S vf (.slice ab p.length cb)) (FS S vk0 (.slice ab p.length cb))) := HW3.out.trans (Went.of_below hbk)
            have HNF : Hid (∀ k, wc.heap.size ≤ k → ¬ FS S vk0 (.slice ab p.length cb) k) := fun k hk => HS3.out.new HB3.out hk
            clear hR hK hbk cK c0 HS3 HB3 HW3 HL3 HA3
            obtain ⟨wz, ewz⟩ : ∃ wz, wz = wc := ⟨_, rfl⟩
            rw [← ewz] at HRr HKk HNF
            clear ewz
            go_wp2
            go_loopg [63] nR (fun g jv wx => ∃ j : Nat, j ≤ nR ∧ g = nR - j ∧ jv = .int .i64 j ∧ Hid (WPost w0 wk wx S tv vW f vk0 (.slice ab p.length cb) (F1 ++ (n.R.take j).flatMap fun r => witP W f (subW D (p ++ [r]))) p))
            case atStart => exact ⟨0, Nat.zero_le _, rfl, rfl, ⟨vk0, by simpa using HSK.out, HBK.out, Went.refl _ _⟩⟩
            case round =>
              obtain ⟨j, hjn, hg, rfl, HPX⟩ := hrel
              have y0 : (0 : Int) ≤ (j : Int) := by omega
              by_cases hltj : j < nR
              · have y1 : (j : Int) < (nR : Int) := by omega
                obtain ⟨r, hr⟩ : ∃ r, n.R[j]? = some r := ⟨_, List.getElem?_eq_getElem (by rw [HNR.out.1]; exact hltj)⟩
                obtain ⟨c, hc, hbc⟩ := HKID.out j r hr
                have HJ : Hid (n.R[j]? = some r ∧ n.K[j]? = some c ∧ B[c]? = some (p ++ [r])) := ⟨hr, hc, hbc⟩
                obtain ⟨vg, hsg, hbg, hwg⟩ := HPX.out
                obtain ⟨G, eG⟩ : ∃ G, (F1 ++ (n.R.take j).flatMap fun r => witP W f (subW D (p ++ [r]))) = G := ⟨_, rfl⟩
                rw [eG] at hsg
                have HGT : Hid ((F1 ++ (n.R.take (j + 1)).flatMap fun r => witP W f (subW D (p ++ [r]))) = G ++ witP W f (subW D (p ++ [r]))) := by
                  show _ = _
                  rw [← eG, List.take_add_one, hr, List.flatMap_append]
                  simp
                have HGL : Hid (G.length + (subW D (p ++ [r])).length ≤ 100000) := by
                  show _ ≤ _
                  have h1 : G.length + (subW D (p ++ [r])).length ≤ F.length + (subW D p).length := by
                    have e1 : (F1 : List Nr).length ≤ F.length + (if n.e = true then [p] else []).length := by
                      rw [HF1.out, List.length_append]
                      have hbe : b = true → n.e = true := fun hb => by
                        have := HEB.out
                        rw [hb, Bool.and_eq_true] at this
                        exact this.2
                      by_cases hb : b = true
                      · rw [if_pos hb, if_pos (hbe hb)]
                        simp
                      · rw [if_neg hb]
                        simp
                    have e2 : ∀ R : List Int, (R.flatMap fun r => witP W f (subW D (p ++ [r]))).length ≤ (R.flatMap fun r => subW D (p ++ [r])).length := fun R => by
                      induction R with
                      | nil => simp
                      | cons a R ih =>
                        rw [List.flatMap_cons, List.flatMap_cons, List.length_append, List.length_append]
                        have := witP_len W f (subW D (p ++ [a]))
                        omega
                    have e3 : (n.R.flatMap fun r => subW D (p ++ [r])) = ((n.R.take j).flatMap fun r => subW D (p ++ [r])) ++ (subW D (p ++ [r]) ++ (n.R.drop (j + 1)).flatMap fun r => subW D (p ++ [r])) := by
                      have e4 : n.R = n.R.take j ++ r :: n.R.drop (j + 1) := by
                        obtain ⟨h1, h2⟩ := List.getElem?_eq_some_iff.1 hr
                        rw [← h2, ← List.drop_eq_getElem_cons h1, List.take_append_drop]
                      have e5 := congrArg (fun R => R.flatMap fun r => subW D (p ++ [r])) e4
                      simp only [List.flatMap_append, List.flatMap_cons] at e5
                      exact e5
                    rw [← eG, HWRD.out, e3]
                    simp only [List.length_append]
                    have := e2 (n.R.take j)
                    omega
                  have := HFL.out
                  omega
                obtain ⟨gr, rfl⟩ : ∃ gr, ar = some ⟨gr, 0, none⟩ := by
                  obtain ⟨_, ⟨e1, e2⟩ | ⟨g', cap, _, e1, _⟩⟩ := HRr.out
                  · omega
                  · injection e1 with e1 _ _; exact ⟨g', e1⟩
                obtain ⟨gk, rfl⟩ : ∃ gr, ak = some ⟨gr, 0, none⟩ := by
                  obtain ⟨_, ⟨e1, e2⟩ | ⟨g', cap, _, e1, _⟩⟩ := HKk.out
                  · omega
                  · injection e1 with e1 _ _; exact ⟨g', e1⟩
                have hRx := own_wentF HRr.out hwg (fun k hk => HNF.out k (HRr.out.lt k hk).1)
                have hKx := own_wentF HKk.out hwg (fun k hk => HNF.out k (HKk.out.lt k hk).1)
                have hcr : wr.cell? ⟨gr, j, none⟩ = some (.int .i32 r) := by
                  rw [hRx.cellAt j (by omega), List.getElem?_map, hr]; rfl
                have HKX : Hid (wr.ownsRow wz.heap.size 3 1 (.slice (some ⟨gk, 0, none⟩) nR ck) nR (n.K.map i64c)) := hKx
                have HSG : Hid (SR w0 wr S tv vW f vg G) := hsg
                have HBG : Hid (wr.ownsRow w0.heap.size 21 1 (.slice ab p.length cb) p.length (p.map i32c)) := hbg
                have HWG : Hid (Went wk wr (FS S vk0 (.slice ab p.length cb)) (FS S vg (.slice ab p.length cb))) := hwg
                have HLG : Hid (RowAt wr W.length (rowN W p) (FS S vg (.slice ab p.length cb)) (.slice (some ⟨lb, lo, none⟩) (W.length + 1) lc)) := HLK.out.went hwg
                have HAG : Hid (Ahead wr W p (FS S vg (.slice ab p.length cb)) vq) := HAK.out.went hwg
                have HKN : Hid (gk ≠ S ∧ vg.ownBlock ≠ some gk ∧ Value.ownBlock (.slice ab p.length cb) ≠ some gk) := by
                  have h1 : ¬ FS S vg (.slice ab p.length cb) gk := fun hF => by
                    rcases hwg.new gk hF with h2 | h2
                    · exact HNF.out gk (HKk.out.lt gk rfl).1 h2
                    · have := (HKk.out.lt gk rfl).2
                      omega
                  exact ⟨fun e => h1 (Or.inl e), fun e => h1 (Or.inr (Or.inl e)), fun e => h1 (Or.inr (Or.inr e))⟩
                have c1 := HSG.out.cells.2.1
                clear hr hc hbc hsg hbg hwg eG hRx hKx HPX
                obtain ⟨q, eq⟩ : ∃ q, at_ p (p.length - 1) = q := ⟨_, rfl⟩
                have HQ : Hid (at_ p (p.length - 1) = q) := eq
                have HFI : Hid (∀ w', Up wr.heap.size wr w' → Calls Tryd.prog 74 #[.slice ab p.length cb] w' fun e w'' => e = .returned (.int .i32 q) ∧ (fun w' => w'.cell? ⟨S, 1, none⟩ = some vW ∧ Up wr.heap.size wr w') w'') := fun w' hu => by
                  refine (final_any p (own_stay HBG.out hu.1) (by omega)).mono ?_
                  rintro e w'' ⟨rfl, rfl⟩
                  exact ⟨by rw [HQ.out], (HSG.out.stay hu.1).cells.2.1, hu⟩
                have HNX : Hid (∀ w', Up wr.heap.size wr w' → Calls Tryd.prog 73 #[vW, .slice (some ⟨lb, lo, none⟩) (W.length + 1) lc, vq, .int .i32 q, .int .i32 r] w' fun e w'' => e = .returned (.slice (some ⟨w'.heap.size, 0, none⟩) (W.length + 1) (W.length + 1)) ∧ (Qns.Is w'' w'.heap.size 0 (W.length + 1) (rowN W (p ++ [r])) ∧ wr.heap.size ≤ w'.heap.size ∧ w'.heap.size < w''.heap.size) ∧ (fun w' => w'.cell? ⟨S, 1, none⟩ = some vW ∧ Up wr.heap.size wr w') w'') := fun w' hu => by
                  obtain ⟨b', o', c', e, h1, _⟩ := (HLG.out.stay hu.1)
                  injection e with e1 _ e3
                  injection e1 with e1
                  injection e1 with e1 e2 _
                  subst e1 e2 e3
                  obtain ⟨m, N, hI, hm1, hm2, hm3⟩ := (HAG.out.went (Went.of_below hu.1)).isl
                  have hUw : Up w0.heap.size w0 w' := HSG.out.up.stay hu.1
                  refine (Qns.next_any (cl := lc) (HWW.out.stay hUw.1 : Qns.RSl w' vW W.length (at_ W)) h1 hI (by omega) (by omega) q r).mono ?_
                  rintro e w'' ⟨rfl, hIs, hUp⟩
                  refine ⟨rfl, ⟨hIs.congr (fun jj hjj => ?_), hu.2, ?_⟩, ?_⟩
                  · exact row_grow W p r q N _ (by omega) (by omega) (by rw [decide_eq_true_iff]; exact hm2) (fun _ => HQ.out.symm) (fun h1 jj _ => by rw [hm3 h1]) jj (by omega)
                  · have := hIs 0 (by omega)
                    exact World.block_lt_of_cell? w'' _ this
                  · have hu2 : Up wr.heap.size wr w'' := hu.stay hUp.1
                    exact ⟨(HSG.out.stay hu2.1).cells.2.1, hu2⟩
                clear eq
                go_upto_region 8 with fail
                go_cut [15] (fun rv wx => ∃ nb, rv = .slice (some ⟨nb, 0, none⟩) (W.length + 1) (W.length + 1) ∧ Hid (Qns.Is wx nb 0 (W.length + 1) (rowN W (p ++ [r])) ∧ wr.heap.size ≤ nb ∧ nb < wx.heap.size) ∧ Hid (Up wr.heap.size wr wx))
                case first =>
                  go_region_held3 (fun w' => w'.cell? ⟨S, 1, none⟩ = some vW ∧ Up wr.heap.size wr w') (first | exact ⟨c1, (Up.refl wr).drew⟩ | assumption) (first | (go_at_call 74; refine (HFI.out _ (by first | exact (Up.refl wr).drew | exact And.right ‹_›)).mono ?_; rintro e w' ⟨rfl, hw'⟩) | (go_at_call 73; refine (HNX.out _ (by first | exact And.right ‹_› | exact (Up.refl wr).drew)).mono ?_; rintro e w'' ⟨rfl, hI'', hw''⟩))
                  all_goals
                    go_wp2
                    go_meet
                    case rel => exact ⟨_, rfl, hI'', hw''.2⟩
                case rest =>
                  obtain ⟨nb, rfl, HNB, HUN⟩ := hcut
                  have HS6 : Hid (SR w0 wc S tv vW f vg G) := HSG.out.stay HUN.out.1
                  have HB6 : Hid (wc.ownsRow w0.heap.size 21 1 (.slice ab p.length cb) p.length (p.map i32c)) := own_stay HBG.out HUN.out.1
                  have HL6 : Hid (RowAt wc W.length (rowN W p) (FS S vg (.slice ab p.length cb)) (.slice (some ⟨lb, lo, none⟩) (W.length + 1) lc)) := HLG.out.stay HUN.out.1
                  have HN6 : Hid (RowAt wc W.length (rowN W (p ++ [r])) (FS S vg (.slice ab p.length cb)) (.slice (some ⟨nb, 0, none⟩) (W.length + 1) (W.length + 1))) := ⟨nb, 0, _, rfl, HNB.out.1, HSG.out.new HBG.out HNB.out.2.1, HNB.out.2.2⟩
                  have HK6 : Hid (wc.ownsRow wz.heap.size 3 1 (.slice (some ⟨gk, 0, none⟩) nR ck) nR (n.K.map i64c)) := own_stay HKX.out HUN.out.1
                  have HW6 : Hid (Went wk wc (FS S vk0 (.slice ab p.length cb)) (FS S vg (.slice ab p.length cb))) := HWG.out.trans (Went.of_below HUN.out.1)
                  have hkc : wc.drew.cell? ⟨gk, j, none⟩ = some (.int .i64 (c : Int)) := by
                    show wc.cell? ⟨gk, j, none⟩ = _
                    rw [HK6.out.cellAt j (by omega), List.getElem?_map, HJ.out.2.1]; rfl
                  clear HSG HBG HLG HAG HKX HWG HFI HNX HQ c1 hcr HNB HUN
                  go_upto_region 9 with fail
                  refine wp_region_held_drew (S := (fun w' => w'.cell? ⟨gk, j, none⟩ = some (.int .i64 (c : Int)))) (by kernel_rfl) hkc (fun hHeld => ?_)
                  (try dsimp only at hHeld)
                  obtain ⟨x0, hx0⟩ : ∃ x0, wc.drew = x0 := ⟨_, rfl⟩
                  have HS7 : Hid (SR w0 wc.drew S tv vW f vg G) := HS6.out.drew
                  have HB7 : Hid (wc.drew.ownsRow w0.heap.size 21 1 (.slice ab p.length cb) p.length (p.map i32c)) := HB6.out
                  have HL7 : Hid (RowAt wc.drew W.length (rowN W p) (FS S vg (.slice ab p.length cb)) (.slice (some ⟨lb, lo, none⟩) (W.length + 1) lc)) := HL6.out
                  have HN7 : Hid (RowAt wc.drew W.length (rowN W (p ++ [r])) (FS S vg (.slice ab p.length cb)) (.slice (some ⟨nb, 0, none⟩) (W.length + 1) (W.length + 1))) := HN6.out
                  have HK7 : Hid (wc.drew.ownsRow wz.heap.size 3 1 (.slice (some ⟨gk, 0, none⟩) nR ck) nR (n.K.map i64c)) := HK6.out
                  have HW7 : Hid (Went wk wc.drew (FS S vk0 (.slice ab p.length cb)) (FS S vg (.slice ab p.length cb))) := HW6.out.trans (Went.of_below ((Below.refl _ _).drew))
                  clear HS6 HB6 HL6 HN6 HK6 HW6 hkc
                  rw [hx0] at hHeld HS7 HB7 HL7 HN7 HK7 HW7 ⊢
                  clear hx0
                  refine takeH (i := 0) (v := ?_) (d := (some 78)) rfl (by kernel_rfl) (by kernel_rfl) (by kernel_rfl) rfl (fun _ _ _ h => h) (Or.inl ⟨by kernel_rfl, ?_⟩) (by first | assumption | trivial) ?_; rotate_left
                  · (intro w hSw; (try dsimp only at hSw); first | (go_simp; done) | (go_simp; with_reducible rfl))
                  (try simp only [Act.put, List.setIfInBounds_toArray, List.set_cons_zero, List.set_cons_succ])
                  refine takeH (i := 1) (v := ?_) (d := (some 79)) rfl (by kernel_rfl) (by kernel_rfl) (by kernel_rfl) rfl (fun _ _ _ h => h) (Or.inl ⟨by kernel_rfl, ?_⟩) (by first | assumption | trivial) ?_; rotate_left
                  · (intro w hSw; (try dsimp only at hSw); first | (go_simp; done) | (go_simp; with_reducible rfl))
                  (try simp only [Act.put, List.setIfInBounds_toArray, List.set_cons_zero, List.set_cons_succ])
                  refine takeH (i := 2) (v := ?_) (d := (some 80)) rfl (by kernel_rfl) (by kernel_rfl) (by kernel_rfl) rfl (fun _ _ _ h => h) (Or.inl ⟨by kernel_rfl, ?_⟩) (by first | assumption | trivial) ?_; rotate_left
                  · (intro w hSw; (try dsimp only at hSw); first | (go_simp; done) | (go_simp; with_reducible rfl))
                  (try simp only [Act.put, List.setIfInBounds_toArray, List.set_cons_zero, List.set_cons_succ])
                  refine takeH (i := 3) (v := ?_) (d := (some 81)) rfl (by kernel_rfl) (by kernel_rfl) (by kernel_rfl) rfl (fun _ _ _ h => h) (Or.inl ⟨by kernel_rfl, ?_⟩) (by first | assumption | trivial) ?_; rotate_left
                  · (intro w hSw; (try dsimp only at hSw); first | (go_simp; done) | (go_simp; with_reducible rfl))
                  (try simp only [Act.put, List.setIfInBounds_toArray, List.set_cons_zero, List.set_cons_succ])
                  refine takeH (i := 4) (v := ?_) (d := (some 82)) rfl (by kernel_rfl) (by kernel_rfl) (by kernel_rfl) rfl (fun _ _ _ h => h) (Or.inl ⟨by kernel_rfl, ?_⟩) (by first | assumption | trivial) ?_; rotate_left
                  · (intro w hSw; (try dsimp only at hSw); first | (go_simp; done) | (go_simp; with_reducible rfl))
                  (try simp only [Act.put, List.setIfInBounds_toArray, List.set_cons_zero, List.set_cons_succ])
                  refine takeH (i := 5) (v := ?_) (d := (some 83)) rfl (by kernel_rfl) (by kernel_rfl) (by kernel_rfl) rfl (fun _ _ _ h => h) (Or.inl ⟨by kernel_rfl, ?_⟩) (by first | assumption | trivial) ?_; rotate_left
                  · (intro w hSw; (try dsimp only at hSw); first | (go_simp; done) | (go_simp; with_reducible rfl))
                  (try simp only [Act.put, List.setIfInBounds_toArray, List.set_cons_zero, List.set_cons_succ])
                  refine takeH (i := 6) (v := ?_) (d := (some 84)) rfl (by kernel_rfl) (by kernel_rfl) (by kernel_rfl) rfl (fun _ _ _ h => h) (Or.inl ⟨by kernel_rfl, ?_⟩) (by first | assumption | trivial) ?_; rotate_left
                  · (intro w hSw; (try dsimp only at hSw); first | (go_simp; done) | (go_simp; with_reducible rfl))
                  (try simp only [Act.put, List.setIfInBounds_toArray, List.set_cons_zero, List.set_cons_succ])
                  refine takeH (i := 9) (v := ?_) (d := (some 87)) rfl (by kernel_rfl) (by kernel_rfl) (by kernel_rfl) rfl (fun _ _ _ h => h) (Or.inl ⟨by kernel_rfl, ?_⟩) (by first | assumption | trivial) ?_; rotate_left
                  · (intro w hSw; (try dsimp only at hSw); first | (go_simp; done) | (go_simp; with_reducible rfl))
                  (try simp only [Act.put, List.setIfInBounds_toArray, List.set_cons_zero, List.set_cons_succ])
                  refine takeH (i := 10) (v := ?_) (d := (some 88)) rfl (by kernel_rfl) (by kernel_rfl) (by kernel_rfl) rfl (fun _ _ _ h => h) (Or.inl ⟨by kernel_rfl, ?_⟩) (by first | assumption | trivial) ?_; rotate_left
                  · (intro w hSw; (try dsimp only at hSw); first | (go_simp; done) | (go_simp; with_reducible rfl))
                  (try simp only [Act.put, List.setIfInBounds_toArray, List.set_cons_zero, List.set_cons_succ])
                  refine wpAnyH_ready (rs := [7]) (by kernel_rfl) (by simp) (AllReadyH.cons rfl (fun K hK => ?_) AllReadyH.nil)
                  rw [if_pos (by kernel_rfl)]
                  go_simp
                  have hba : Below x0.heap.size x0 (x0.alloc (.cells #[.int .i32 r] 21)) := (Below.refl _ _).alloc (Nat.le_refl _) _
                  have HC8 : Hid (∀ q u, [Value.int .i32 r][q]? = some u → (x0.alloc (.cells #[.int .i32 r] 21)).cell? ((⟨x0.heap.size, 0, none⟩ : Addr).add q) = some u) := World.news_of_block (Array.getElem?_push_size (xs := x0.heap) (x := (.cells #[.int .i32 r] 21)))
                  have HS8 : Hid (SR w0 (x0.alloc (.cells #[.int .i32 r] 21)) S tv vW f vg G) := HS7.out.stay hba
                  have HB8 : Hid ((x0.alloc (.cells #[.int .i32 r] 21)).ownsRow w0.heap.size 21 1 (.slice ab p.length cb) p.length (p.map i32c)) := own_stay HB7.out hba
                  have HL8 : Hid (RowAt (x0.alloc (.cells #[.int .i32 r] 21)) W.length (rowN W p) (FS S vg (.slice ab p.length cb)) (.slice (some ⟨lb, lo, none⟩) (W.length + 1) lc)) := HL7.out.stay hba
                  have HN8 : Hid (RowAt (x0.alloc (.cells #[.int .i32 r] 21)) W.length (rowN W (p ++ [r])) (FS S vg (.slice ab p.length cb)) (.slice (some ⟨nb, 0, none⟩) (W.length + 1) (W.length + 1))) := HN7.out.stay hba
                  have HK8 : Hid ((x0.alloc (.cells #[.int .i32 r] 21)).ownsRow wz.heap.size 3 1 (.slice (some ⟨gk, 0, none⟩) nR ck) nR (n.K.map i64c)) := own_stay HK7.out hba
                  have HW8 : Hid (Went wk (x0.alloc (.cells #[.int .i32 r] 21)) (FS S vk0 (.slice ab p.length cb)) (FS S vg (.slice ab p.length cb))) := HW7.out.trans (Went.of_below hba)
                  clear HS7 HB7 HL7 HN7 HK7 HW7
                  refine hK.out _ _ (cell_stay hHeld hba) (fun hHeld' => ?_)
                  clear hK K hHeld hba
                  have hHeld := hHeld'
                  clear hHeld'
                  (try dsimp only at hHeld)
                  (try simp only [Act.put, List.setIfInBounds_toArray, List.set_cons_zero, List.set_cons_succ])
                  obtain ⟨x1, hx1⟩ : ∃ x1, x0.alloc (.cells #[.int .i32 r] 21) = x1 := ⟨_, rfl⟩
                  rw [hx1] at hHeld HC8 HS8 HB8 HL8 HN8 HK8 HW8 ⊢
                  clear hx1
                  refine wpAnyH_ready (rs := [8]) (by kernel_rfl) (by simp) (AllReadyH.cons rfl (fun K hK => ?_) AllReadyH.nil)
                  rw [if_pos (by kernel_rfl)]
                  refine wp_append_on (.tmp 83) (.tmp 85) 37 rfl w0.heap.size 21 i0 _ 1 4 Tryd.underlying37 hi hz0 hz1 hz2 rfl (by decide) (.slice ab p.length cb) p.length (p.map i32c) rfl HB8.out ⟨x0.heap.size, 0, none⟩ 1 1 [.int .i32 r] rfl rfl HC8.out (one_one _ rfl) (by omega) (by unfold maxLen; omega) (by omega) HS8.out.up.2 ?_
                  intro g cap y1 ho1 hon hlt
                  change K (Act.put _ (some 86) _) _
                  have hon : OnTo x1 y1 (.slice ab p.length cb) g p.length cap := hon
                  have hso := HS8.out.on (ys := []) HB8.out hon
                  have HS9 : Hid (SR w0 y1 S tv vW f vg G) := hso.1
                  have HW9 : Hid (Went x1 y1 (FS S vg (.slice ab p.length cb)) (FS S vg (.slice (some ⟨g, 0, none⟩) (p.length + 1) cap))) := hso.2
                  have HL9 : Hid (RowAt y1 W.length (rowN W p) (FS S vg (.slice (some ⟨g, 0, none⟩) (p.length + 1) cap)) (.slice (some ⟨lb, lo, none⟩) (W.length + 1) lc)) := HL8.out.on hon
                  have HN9 : Hid (RowAt y1 W.length (rowN W (p ++ [r])) (FS S vg (.slice (some ⟨g, 0, none⟩) (p.length + 1) cap)) (.slice (some ⟨nb, 0, none⟩) (W.length + 1) (W.length + 1))) := HN8.out.on hon
                  have hkg : gk ≠ S ∧ vg.ownBlock ≠ some gk ∧ Value.ownBlock (.slice ab p.length cb) ≠ some gk := HKN.out
                  have hkc : y1.cell? ⟨gk, j, none⟩ = some (.int .i64 (c : Int)) := (World.cell?_of_block (hso.2.far gk (HK8.out.lt gk rfl).2 (fun hF => by rcases hF with e | e | e <;> simp_all))).trans hHeld
                  have HO9 : Hid (y1.ownsRow w0.heap.size 21 1 (.slice (some ⟨g, 0, none⟩) (p.length + 1) cap) (p.length + 1) (p.map i32c ++ [.int .i32 r])) := ho1
                  have HON : Hid (OnTo x1 y1 (.slice ab p.length cb) g p.length cap) := hon
                  clear hso ho1 hon hHeld HC8 HL8 HN8
                  refine hK.out _ _ hkc (fun hHeld' => ?_)
                  clear hK K hkc hHeld'
                  (try simp only [Act.put, List.setIfInBounds_toArray, List.set_cons_zero, List.set_cons_succ])
                  refine wpAnyH_ready (rs := [11]) (by kernel_rfl) (by simp) (AllReadyH.cons rfl (fun K hK => ?_) AllReadyH.nil)
                  go_simp
                  have hcall := HIH.out c (p ++ [r]) HJ.out.2.2 (by simp; omega) y1 S vg (.slice (some ⟨g, 0, none⟩) (p.length + 1) cap) (.slice (some ⟨nb, 0, none⟩) (W.length + 1) (W.length + 1)) (.slice (some ⟨lb, lo, none⟩) (W.length + 1) lc) G HS9.out (by have := HO9.out; rw [List.length_append, List.map_append]; exact this) HN9.out (Or.inr ⟨by simp, by rw [take_snoc]; exact HL9.out⟩) HGL.out
                  refine Calls.mono hcall ?_
                  rintro e y2 ⟨⟨u, rfl⟩, hpost⟩
                  obtain ⟨vg', hs2, hb2, hw2⟩ := hpost
                  rw [List.length_append, List.map_append] at hb2
                  have HB10 : Hid (y2.ownsRow w0.heap.size 21 1 (.slice ab p.length cb) p.length (p.map i32c)) := own_back HS8.out HB8.out HON.out hw2 hb2
                  have HW10 : Hid (Went wk y2 (FS S vk0 (.slice ab p.length cb)) (FS S vg' (.slice ab p.length cb))) := went_back (HW8.out.trans (HW9.out.trans hw2))
                  have HS10 : Hid (SR w0 y2 S tv vW f vg' (G ++ witP W f (subW D (p ++ [r])))) := hs2
                  have hkc : y2.cell? ⟨gk, j, none⟩ = some (.int .i64 (c : Int)) := by
                    have h1 := own_wentF HK8.out (HW9.out.trans hw2) (fun k hk hF => by
                      obtain rfl : gk = k := Option.some.inj hk
                      have hkg := HKN.out
                      rcases hF with e | e | e
                      · exact hkg.1 e
                      · exact hkg.2.1 e
                      · exact hkg.2.2 e)
                    rw [h1.cellAt j (by omega), List.getElem?_map, HJ.out.2.1]; rfl
                  clear hs2 hb2 hw2 hcall HS8 HB8 HW8 HS9 HW9 HL9 HN9 HO9 HON HK8
                  go_wp2_with fail
                  refine hK.out _ _ hkc (fun hHeld' => ?_)
                  clear hK K hkc hHeld'
                  (try simp only [Act.put, List.setIfInBounds_toArray, List.set_cons_zero, List.set_cons_succ])
                  refine wpAnyH_done (by kernel_rfl) ?_ _
                  go_wp2
                  go_roundg (nR - (j + 1))
                  case measure => omega
                  case rel =>
                    refine ⟨j + 1, by omega, rfl, by go_num, ⟨vg', ?_, HB10.out, HW10.out⟩⟩
                    have := HS10.out
                    rw [HGT.out]
                    exact this
              · obtain rfl : j = nR := by omega
                have y1 : ¬ (j : Int) < (j : Int) := by omega
                have HFIN : Hid (WPost w0 w wr S tv vW f vf (.slice ab p.length cb) (F ++ witP W f (subW D p)) p) := by
                  obtain ⟨vg, h1, h2, h3⟩ := HPX.out
                  refine ⟨vg, ?_, h2, HWK.out.trans h3⟩
                  rw [List.take_of_length_le (by rw [HNR.out.1]; exact Nat.le_refl _), HF1.out, List.append_assoc] at h1
                  rw [HWIT.out]
                  have e : (if far W p ≤ f ∧ n.e = true then [nrOf W p] else []) = if b = true then [nrOf W p] else [] := by
                    have h5 := HEB.out
                    by_cases h6 : far W p ≤ f ∧ n.e = true
                    · rw [if_pos h6, if_pos (by rw [← h5, h6.2, decide_eq_true h6.1]; rfl)]
                    · rw [if_neg h6, if_neg (fun hb => h6 (by
                        rw [hb, Bool.and_eq_true, decide_eq_true_iff] at h5
                        exact h5))]
                  rw [e]
                  exact h1
                clear HPX
                go_wp2
                go_end0
                exact ⟨⟨_, rfl⟩, HFIN.out⟩
end Go.Proofs.YtfikkkodepfdkaaDoor
