/- tex: verb. -/
import Derived.Test.YtlgfmhhhecaddaaDoorxRmk
import Derived.Test.YtlgfmhhhecaddaaDoorxGrp
import Derived.Lib.SlBytesConst
namespace Go.Proofs.YtlgfmhhhecaddaaDoor
set_option linter.unusedVariables false
open Go.RowKit Go.ChangeShapes
/-- Bytes up to a place; from a place on; a line by itself. -/
def tr (c : Nat → Int) (n : Nat) : Nat → Int := fun i => if i < n then c i else -1
theorem tr_in {c : Nat → Int} {n i : Nat} (h : i < n) : tr c n i = c i := by unfold tr; rw [if_pos h]
theorem tr_out {c : Nat → Int} {n i : Nat} (h : n ≤ i) : tr c n i = -1 := by unfold tr; rw [if_neg (by omega)]
theorem tr_ch {c : Nat → Int} {n m : Nat} (h : Ch c n) (hm : m ≤ n) : Ch (tr c m) m := ⟨fun i hi => by rw [tr_in hi]; exact h.1 i (by omega), fun i hi => tr_out hi⟩
theorem BC.tr {w : World} {ad : Option Addr} {n m : Nat} {c : Nat → Int} (h : BC w ad n c) (hm : m ≤ n) : BC w ad m (tr c m) := (h.upto hm).congr fun i hi => (tr_in hi).symm
section
variable {w0 w : World} {S b off n cap B T gs i : Nat} {c L : Nat → Int}
/-- What a file begins with from its place on. -/
theorem En.pre {w V : World} (hs : Sta S b n cap B T gs c) (h : En w0 S V b off n cap B T gs c L i) (k : Nat) (hk : k ≤ n) {ad : Option Addr} (ha : (if cap = k then some (⟨b, off, none⟩ : Addr) else some ⟨b, off + k, none⟩) = ad) (t : List Int) (ht : Byt t) {p2 : Option Addr} {m d : Nat} (hm : t.length = m) (h2 : BC V p2 m (fun j => t.getD j 0)) :
    Calls Tryd.prog 37 #[.slice ad (n - k) (cap - k), .slice p2 m d] V fun e w' => e = .returned (.bool (oc t c k)) ∧ w' = V := by
  have hfr := BC.from h.bc k hk hs.nc
  rw [ha] at hfr
  have := hasP_any (cap := cap - k) (d := d) (hs.ch.from k hk) hfr (by have := hs.nc; omega) h2 hm ht
  rw [oc_shift, Nat.add_zero] at this
  exact this
set_option maxRecDepth 100000 in
set_option maxHeartbeats 16000000 in
theorem verb_any (hs : Sta S b n cap B T gs c) (h : En w0 S w b off n cap B T gs c L i) (hi : i ≤ n) :
    Calls Tryd.prog 50 #[.pointer (some ⟨B, 0, none⟩)] w (SP w0 S b off n cap B T gs c (stp 19 B) (vbL L c n i) (vbE c n i)) := by
  have hcA := fun (w' : World) => Go.Lib.run_convert_bytes_const (P := Tryd.prog) w' 22 5 #[.int .u8 42] 1 1 Tryd.underlying22 Tryd.underlying5
  have hn := hs.n6
  have hnc := hs.nc
  have hbig := hs.big
  obtain ⟨ad, ha⟩ : ∃ ad, (if cap = i then some (⟨b, off, none⟩ : Addr) else some ⟨b, off + i, none⟩) = ad := ⟨_, rfl⟩
  have cr := rest_any hs h hi ha
  have HH : Hid (Sta S b n cap B T gs c ∧ En w0 S w b off n cap B T gs c L i) := ⟨hs, h⟩
  have HA : Hid ((if cap = i then some (⟨b, off, none⟩ : Addr) else some ⟨b, off + i, none⟩) = ad) := ha
  obtain ⟨Q, hQ⟩ : ∃ Q, SP w0 S b off n cap B T gs c (stp 19 B) (vbL L c n i) (vbE c n i) = Q := ⟨_, rfl⟩
  rw [hQ]
  have HQ : Hid (SP w0 S b off n cap B T gs c (stp 19 B) (vbL L c n i) (vbE c n i) = Q) := hQ
  clear hs h hQ ha
  go_enter Tryd.func50, Tryd.ntmps50
  go_wp2_with fail
  refine cr.mono ?_
  rintro ev w1 ⟨rfl, hb1⟩
  have hE1 := HH.out.2.stay hb1
  obtain ⟨W, hW⟩ : ∃ W, w1.alloc (.cells #[.int .u8 42] 5 (1, 2)) = W := ⟨_, rfl⟩
  have hL1 : BC W (some ⟨w1.heap.size, 0, none⟩) 1 (fun j => [42].getD j 0) := by rw [← hW]; exact lit_bc w1 [42] (1, 2)
  have hBW : Below w1.heap.size w1 W := by rw [← hW]; exact below_alloc w1 _
  have hE2 := hE1.stay hBW
  have cH := En.pre (w := w) (m := 1) (d := 1) HH.out.1 hE2 i hi HA.out [42] (byt1 42 (by omega)) rfl hL1
  rw [oc1] at cH
  obtain ⟨x0, x1, x2⟩ := hE2.cells
  have HE1 : Hid (En w0 S W b off n cap B T gs c L i) := hE2
  clear hE1 hE2 hBW hL1 cr hb1
  by_cases h42 : c i = 42
  · have hin := in_of HH.out.1.ch (i := i) (by omega)
    rw [show (c i == 42) = true by simpa using h42] at cH
    have hvs : vbS c i = i + 1 := by unfold vbS; rw [if_pos h42]
    clear h42
    go_wp2_with fail
    refine cH.mono ?_
    rintro ev w2 ⟨rfl, hw⟩
    subst w2
    clear cH
    go_wp2_with fail
    rw [show ((i : Int) + 1) = ((i + 1 : Nat) : Int) by omega]
    refine (flay_any HH.out.1 HE1.out hi 2 (i + 1) (i + 1) (by omega) (by omega)).mono ?_
    rintro ev w3 ⟨rfl, hE3⟩
    obtain ⟨k, hkk⟩ : ∃ k, i + 1 = k := ⟨_, rfl⟩
    obtain ⟨L1, hL1⟩ : ∃ L1, setL L 2 (i : Int) ((i + 1 : Nat) : Int) = L1 := ⟨_, rfl⟩
    rw [hL1, hkk] at hE3
    have HE : Hid (En w0 S w3 b off n cap B T gs c L1 k) := hE3
    have HV : Hid (vbE c n i = (if n ≤ k ∨ c k = 10 then k else vbF c n k) ∧ vbL L c n i = setL L1 4 (k : Int) ((vbE c n i : Nat) : Int)) := by
      unfold vbL
      rw [← hL1, ← hkk]
      unfold vbE
      rw [hvs]
      exact ⟨rfl, rfl⟩
    have hk : k ≤ n := by omega
    clear hE3 hL1 hkk hvs HE1 hcA hW
    clear x0 x1 x2
    obtain ⟨x0, x1, x2⟩ := HE.out.cells
    have zk0 : (0 : Int) ≤ (k : Int) := by omega
    obtain ⟨R, hRR⟩ : ∃ R, bh [10] c n k = R := ⟨_, rfl⟩
    have hR : k ≤ R ∧ R ≤ n := by rw [← hRR]; exact bh_le HH.out.1.ch.2 [10] b10 (by simp) k hk
    have hR2 : k < n → k < R := fun h => by rw [← hRR]; exact (bh_gt HH.out.1.ch h).1
    have HR : Hid (bh [10] c n k = R) := hRR
    have CB : Hid (∀ w', En w0 S w' b off n cap B T gs c L1 k → Calls Tryd.prog 36 #[.slice (some ⟨b, off, none⟩) n cap, .int .i64 k, .string ⟨#[10]⟩] w' fun ev w2 => ev = .returned (.int .i64 R) ∧ Below w'.heap.size w' w2) := fun w' h' => h'.bhd HH.out.1 k hk [10] b10 (by simp) (by decide) ⟨#[10]⟩ (by kernel_rfl) R HR.out
    clear hRR
    obtain ⟨M, hM⟩ : ∃ M, R - k = M := ⟨_, rfl⟩
    have HM2 : Hid (R = k + M) := by show _ = _; omega
    have zk1 : (k : Int) ≤ (R : Int) := by omega
    have zk2 : (R : Int) ≤ (cap : Int) := by omega
    obtain ⟨adk, hadk⟩ : ∃ adk, (if cap = k then some (⟨b, off, none⟩ : Addr) else some ⟨b, off + k, none⟩) = adk := ⟨_, rfl⟩
    have HAD : Hid (k < n → adk = some ⟨b, off + k, none⟩) := fun h => by rw [← hadk, if_neg (by omega)]
    go_upto_region 3 with fail
    refine wp_region_held_drew (S := fun w' => w'.cell? ⟨B, 1, none⟩ = some (.slice (some ⟨b, off, none⟩) n cap) ∧ w'.cell? ⟨B, 2, none⟩ = some (.int .i64 k)) (by kernel_rfl) ⟨x1, x2⟩ (fun hHeld => ?_)
    clear hHeld
    refine takeH (i := 0) (v := ?_) (d := (some 17)) rfl (by kernel_rfl) (by kernel_rfl) (by kernel_rfl) rfl (fun _ _ _ h => h) (Or.inl ⟨by kernel_rfl, ?_⟩) (by first | assumption | trivial) ?_; rotate_left
    · (intro w hSw; (try dsimp only at hSw); first | (go_simp; done) | (go_simp; with_reducible rfl))
    (try simp only [Act.put, List.setIfInBounds_toArray, List.set_cons_zero, List.set_cons_succ])
    refine takeH (i := 1) (v := ?_) (d := (some 18)) rfl (by kernel_rfl) (by kernel_rfl) (by kernel_rfl) rfl (fun _ _ _ h => h) (Or.inl ⟨by kernel_rfl, ?_⟩) (by first | assumption | trivial) ?_; rotate_left
    · (intro w hSw; (try dsimp only at hSw); first | (go_simp; done) | (go_simp; with_reducible rfl))
    (try simp only [Act.put, List.setIfInBounds_toArray, List.set_cons_zero, List.set_cons_succ])
    refine takeH (i := 2) (v := ?_) (d := (some 19)) rfl (by kernel_rfl) (by kernel_rfl) (by kernel_rfl) rfl (fun _ _ _ h => h) (Or.inl ⟨by kernel_rfl, ?_⟩) (by first | assumption | trivial) ?_; rotate_left
    · (intro w hSw; (try dsimp only at hSw); first | (go_simp; done) | (go_simp; with_reducible rfl))
    (try simp only [Act.put, List.setIfInBounds_toArray, List.set_cons_zero, List.set_cons_succ])
    refine takeH (i := 3) (v := ?_) (d := (some 20)) rfl (by kernel_rfl) (by kernel_rfl) (by kernel_rfl) rfl (fun _ _ _ h => h) (Or.inl ⟨by kernel_rfl, ?_⟩) (by first | assumption | trivial) ?_; rotate_left
    · (intro w hSw; (try dsimp only at hSw); first | (go_simp; done) | (go_simp; with_reducible rfl))
    (try simp only [Act.put, List.setIfInBounds_toArray, List.set_cons_zero, List.set_cons_succ])
    refine takeH (i := 4) (v := ?_) (d := (some 21)) rfl (by kernel_rfl) (by kernel_rfl) (by kernel_rfl) rfl (fun _ _ _ h => h) (Or.inl ⟨by kernel_rfl, ?_⟩) (by first | assumption | trivial) ?_; rotate_left
    · (intro w hSw; (try dsimp only at hSw); first | (go_simp; done) | (go_simp; with_reducible rfl))
    (try simp only [Act.put, List.setIfInBounds_toArray, List.set_cons_zero, List.set_cons_succ])
    refine takeH (i := 5) (v := ?_) (d := (some 22)) rfl (by kernel_rfl) (by kernel_rfl) (by kernel_rfl) rfl (fun _ _ _ h => h) (Or.inl ⟨by kernel_rfl, ?_⟩) (by first | assumption | trivial) ?_; rotate_left
    · (intro w hSw; (try dsimp only at hSw); first | (go_simp; done) | (go_simp; with_reducible rfl))
    (try simp only [Act.put, List.setIfInBounds_toArray, List.set_cons_zero, List.set_cons_succ])
    refine takeH (i := 6) (v := ?_) (d := (some 23)) rfl (by kernel_rfl) (by kernel_rfl) (by kernel_rfl) rfl (fun _ _ _ h => h) (Or.inl ⟨by kernel_rfl, ?_⟩) (by first | assumption | trivial) ?_; rotate_left
    · (intro w hSw; (try dsimp only at hSw); first | (go_simp; done) | (go_simp; with_reducible rfl))
    (try simp only [Act.put, List.setIfInBounds_toArray, List.set_cons_zero, List.set_cons_succ])
    refine takeH (i := 7) (v := ?_) (d := (some 24)) rfl (by kernel_rfl) (by kernel_rfl) (by kernel_rfl) rfl (fun _ _ _ h => h) (Or.inl ⟨by kernel_rfl, ?_⟩) (by first | assumption | trivial) ?_; rotate_left
    · (intro w hSw; (try dsimp only at hSw); first | (go_simp; done) | (go_simp; with_reducible rfl))
    (try simp only [Act.put, List.setIfInBounds_toArray, List.set_cons_zero, List.set_cons_succ])
    refine takeH (i := 8) (v := ?_) (d := (some 25)) rfl (by kernel_rfl) (by kernel_rfl) (by kernel_rfl) rfl (fun _ _ _ h => h) (Or.inl ⟨by kernel_rfl, ?_⟩) (by first | assumption | trivial) ?_; rotate_left
    · (intro w hSw; (try dsimp only at hSw); first | (go_simp; done) | (go_simp; with_reducible rfl))
    (try simp only [Act.put, List.setIfInBounds_toArray, List.set_cons_zero, List.set_cons_succ])
    refine takeH (i := 9) (v := ?_) (d := (some 26)) rfl (by kernel_rfl) (by kernel_rfl) (by kernel_rfl) rfl (fun _ _ _ h => h) (Or.inl ⟨by kernel_rfl, ?_⟩) (by first | assumption | trivial) ?_; rotate_left
    · (intro w hSw; (try dsimp only at hSw); first | (go_simp; done) | (go_simp; with_reducible rfl))
    (try simp only [Act.put, List.setIfInBounds_toArray, List.set_cons_zero, List.set_cons_succ])
    refine takeH (i := 10) (v := ?_) (d := (some 27)) rfl (by kernel_rfl) (by kernel_rfl) (by kernel_rfl) rfl (fun _ _ _ h => h) (Or.inl ⟨by kernel_rfl, ?_⟩) (by first | assumption | trivial) ?_; rotate_left
    · (intro w hSw; (try dsimp only at hSw); first | (go_simp; done) | (go_simp; with_reducible rfl))
    (try simp only [Act.put, List.setIfInBounds_toArray, List.set_cons_zero, List.set_cons_succ])
    refine takeH (i := 11) (v := ?_) (d := (some 28)) rfl (by kernel_rfl) (by kernel_rfl) (by kernel_rfl) rfl (fun _ _ _ h => h) (Or.inl ⟨by kernel_rfl, ?_⟩) (by first | assumption | trivial) ?_; rotate_left
    · (intro w hSw; (try dsimp only at hSw); first | (go_simp; done) | (go_simp; with_reducible rfl))
    (try simp only [Act.put, List.setIfInBounds_toArray, List.set_cons_zero, List.set_cons_succ])
    refine takeH (i := 12) (v := ?_) (d := (some 29)) rfl (by kernel_rfl) (by kernel_rfl) (by kernel_rfl) rfl (fun _ _ _ h => h) (Or.inl ⟨by kernel_rfl, ?_⟩) (by first | assumption | trivial) ?_; rotate_left
    · (intro w hSw; (try dsimp only at hSw); first | (go_simp; done) | (go_simp; with_reducible rfl))
    (try simp only [Act.put, List.setIfInBounds_toArray, List.set_cons_zero, List.set_cons_succ])
    refine takeH (i := 13) (v := ?_) (d := (some 30)) rfl (by kernel_rfl) (by kernel_rfl) (by kernel_rfl) rfl (fun _ _ _ h => h) (Or.inl ⟨by kernel_rfl, ?_⟩) (by first | assumption | trivial) ?_; rotate_left
    · (intro w hSw; (try dsimp only at hSw); first | (go_simp; done) | (go_simp; with_reducible rfl))
    (try simp only [Act.put, List.setIfInBounds_toArray, List.set_cons_zero, List.set_cons_succ])
    refine takeH (i := 14) (v := ?_) (d := (some 31)) rfl (by kernel_rfl) (by kernel_rfl) (by kernel_rfl) rfl (fun _ _ _ h => h) (Or.inl ⟨by kernel_rfl, ?_⟩) (by first | assumption | trivial) ?_; rotate_left
    · (intro w hSw; (try dsimp only at hSw); first | (go_simp; done) | (go_simp; with_reducible rfl))
    (try simp only [Act.put, List.setIfInBounds_toArray, List.set_cons_zero, List.set_cons_succ])
    refine takeH (i := 15) (v := ?_) (d := (some 32)) rfl (by kernel_rfl) (by kernel_rfl) (by kernel_rfl) rfl (fun _ _ _ h => h) (Or.inl ⟨by kernel_rfl, ?_⟩) (by first | assumption | trivial) ?_; rotate_left
    · (intro w hSw; (try dsimp only at hSw); first | (go_simp; done) | (go_simp; with_reducible rfl))
    (try simp only [Act.put, List.setIfInBounds_toArray, List.set_cons_zero, List.set_cons_succ])
    refine wpAnyH_ready (rs := [16]) (by kernel_rfl) (by simp) (AllReadyH.cons rfl (fun K hK => ?_) AllReadyH.nil)
    go_simp
    refine (CB.out _ HE.out.drew).mono ?_
    rintro ev V ⟨rfl, hbV⟩
    have HV2 : Hid (En w0 S V b off n cap B T gs c L1 k) := HE.out.drew.stay hbV
    clear hbV CB x0 x1 x2
    obtain ⟨x0, x1, x2⟩ := HV2.out.cells
    refine hK.out _ _ ⟨x1, x2⟩ (fun hHeld => ?_)
    clear hK K hHeld
    (try simp only [Act.put, List.setIfInBounds_toArray, List.set_cons_zero, List.set_cons_succ])
    refine takeH (i := 17) (v := ?_) (d := (some 34)) rfl (by kernel_rfl) (by kernel_rfl) (by kernel_rfl) rfl (fun _ _ _ h => h) (Or.inl ⟨by kernel_rfl, ?_⟩) (by first | assumption | trivial) ?_; rotate_left
    · (intro w hSw; (try dsimp only at hSw); first | (go_simp; done) | (go_simp; with_reducible rfl))
    (try simp only [Act.put, List.setIfInBounds_toArray, List.set_cons_zero, List.set_cons_succ])
    refine takeH (i := 18) (v := ?_) (d := (some 3)) rfl (by kernel_rfl) (by kernel_rfl) (by kernel_rfl) rfl (fun _ _ _ h => h) (Or.inl ⟨by kernel_rfl, ?_⟩) (by first | assumption | trivial) ?_; rotate_left
    · (intro w hSw; (try dsimp only at hSw); first | (go_simp; done) | (go_simp; with_reducible rfl))
    (try simp only [Act.put, List.setIfInBounds_toArray, List.set_cons_zero, List.set_cons_succ])
    refine wpAnyH_done (by kernel_rfl) ?_ _
    clear hadk
    by_cases hkn : k < n
    · have hRk := hR2 hkn
      have hMp : 0 < M := by omega
      clear hM
      have hadk := HAD.out hkn
      subst hadk
      have q1 : ((M : Int) == 0) = false := by simp; omega
      have q2 : (0 : Int) < (M : Int) := by omega
      obtain ⟨b', off', e, hc⟩ := HV2.out.bc k hkn
      injection e with e
      injection e with e1 e2 _
      subst e1 e2
      by_cases h10 : c k = 10
      · have HF : Hid (vbE c n i = k ∧ vbL L c n i = L1) := by
          have hv := HV.out
          rw [if_pos (Or.inr h10)] at hv
          refine ⟨hv.1, hv.2.trans ?_⟩
          rw [hv.1]
          exact setL_zero L1 4 k
        rw [h10] at hc
        clear h10 hR hR2
        go_wp2
        rw [← HQ.out, HF.out.1, HF.out.2]
        exact ⟨rfl, HV2.out⟩
      · have k10 : (c k == 10) = false := by simpa using h10
        have hv : vbE c n i = vbF c n k ∧ vbL L c n i = setL L1 4 (k : Int) ((vbF c n k : Nat) : Int) := by
          have hv := HV.out
          rw [if_neg (by omega)] at hv
          exact ⟨hv.1, hv.2.trans (by rw [hv.1])⟩
        have hF : vbF c n k = if fs (fun j => c j == c k) R (k + 1) < R then fs (fun j => c j == c k) R (k + 1) + 1 else R := by unfold vbF vbQ vbN; rw [HR.out]
        have hcb := HH.out.1.ch.1 k hkn
        have hge := fs_ge (fun j => c j == c k) R (k + 1)
        have hle := fs_le (fun j => c j == c k) (n := R) (i := k + 1) (by omega)
        obtain ⟨ad1, had1⟩ : ∃ ad1, (if cap - k = 1 then some (⟨b, off + k, none⟩ : Addr) else some ⟨b, off + k + 1, none⟩) = ad1 := ⟨_, rfl⟩
        have CI : Hid (∀ q, Calls Tryd.prog 53 #[.slice ad1 (M - 1) (cap - k - 1), .int .u8 (c k)] (V.drewN q) fun e w' => e = .returned (.int .i64 (if fs (fun j => c j == c k) R (k + 1) < R then (fs (fun j => c j == c k) R (k + 1) : Int) - ((k + 1 : Nat) : Int) else -1)) ∧ w' = V.drewN q) := fun q => by
          have hM2 := HM2.out
          have hbc : BC (V.drewN q) ad1 (M - 1) (fun j => tr c R (k + 1 + j)) := by
            by_cases h1 : cap - k = 1
            · rw [show M - 1 = 0 by omega]; exact BC.zero _ _ _
            · rw [if_neg h1] at had1
              subst had1
              have := BC.from ((HV2.out.drewN q).bc.tr hR.2) (cap := cap) (k + 1) (by omega) (by omega)
              rw [if_neg (by omega), show R - (k + 1) = M - 1 by omega] at this
              exact this
          have hci := idxB_any (cap := cap - k - 1) ((tr_ch HH.out.1.ch hR.2).from (k + 1) (by omega)) (by rw [show R - (k + 1) = M - 1 by omega]; exact hbc) (by rw [← had1]; split <;> simp) (c k) hcb
          rw [ix_bh (by omega), show R - (k + 1) = M - 1 by omega, fs_congr (Q := fun j => c j == c k) (by omega) (fun j _ hj => by rw [oc1, tr_in hj])] at hci
          exact hci
        have hM2 := HM2.out
        generalize fs (fun j => c j == c k) R (k + 1) = A at hF hge hle CI
        clear h10
        obtain ⟨ck, hck⟩ : ∃ ck, c k = ck := ⟨_, rfl⟩
        rw [hck] at hc k10 CI
        by_cases hA : A < R
        · rw [if_pos hA] at CI hF
          obtain ⟨D, hD⟩ : ∃ D : Nat, (A : Int) - ((k + 1 : Nat) : Int) = (D : Int) := ⟨A - (k + 1), by omega⟩
          rw [hD] at CI
          have HF : Hid (vbE c n i = A + 1 ∧ vbL L c n i = setL L1 4 (k : Int) ((A + 1 : Nat) : Int)) := by
            rw [hF] at hv
            exact hv
          have q5 : ¬ (D : Int) < 0 := by omega
          have q6 : (D : Int) ≤ 1000000 := by omega
          have HAD2 : Hid (k + 1 + D + 1 = A + 1) := by show _ = _; omega
          have hA6 : A + 1 ≤ n := by omega
          clear hv hF hck hcb hge hle hA hD hM2 hR hR2
          go_wp2_with fail
          go_quiet (first | (go_at_call 53; exact Calls.quiet_of_same (CI.out _)))
          have hE9 := HV2.out.drewN nq
          generalize V.drewN nq = V9 at *
          clear x0 x1 x2
          obtain ⟨x0, x1, x2⟩ := hE9.cells
          have HE9 := Hid.mk' hE9
          clear hE9
          go_wp2_with fail
          rw [show ((k : Int) + 1 + (D : Int) + 1) = ((A + 1 : Nat) : Int) by have := HAD2.out; omega]
          refine (flay_any HH.out.1 HE9.out (by omega) 4 (A + 1) (A + 1) (by omega) (by omega)).mono ?_
          rintro ev w5 ⟨rfl, hE5⟩
          go_wp2
          rw [← HQ.out, HF.out.1, HF.out.2]
          exact ⟨rfl, hE5⟩
        · rw [if_neg hA] at CI hF
          have HF : Hid (vbE c n i = R ∧ vbL L c n i = setL L1 4 (k : Int) (R : Int)) := by
            rw [hF] at hv
            exact hv
          have hRn := hR.2
          have qM : (M : Int) ≤ 1000000 := by omega
          clear hv hF hck hcb hge hle hA hM2 hR hR2
          go_wp2_with fail
          go_quiet (first | (go_at_call 53; exact Calls.quiet_of_same (CI.out _)))
          have hE9 := HV2.out.drewN nq
          generalize V.drewN nq = V9 at *
          clear x0 x1 x2
          obtain ⟨x0, x1, x2⟩ := hE9.cells
          have HE9 := Hid.mk' hE9
          clear hE9
          go_wp2_with fail
          rw [show ((k : Int) + (M : Int)) = (R : Int) by have := HM2.out; omega]
          refine (flay_any HH.out.1 HE9.out (by omega) 4 R R (by omega) (by omega)).mono ?_
          rintro ev w5 ⟨rfl, hE5⟩
          go_wp2
          rw [← HQ.out, HF.out.1, HF.out.2]
          exact ⟨rfl, hE5⟩
    · have q1 : ((M : Int) == 0) = true := by simp; omega
      have HF : Hid (vbE c n i = k ∧ vbL L c n i = L1) := by
        have hv := HV.out
        rw [if_pos (Or.inl (by omega))] at hv
        refine ⟨hv.1, hv.2.trans ?_⟩
        rw [hv.1]
        exact setL_zero L1 4 k
      clear hM hR hR2
      go_wp2
      rw [← HQ.out, HF.out.1, HF.out.2]
      exact ⟨rfl, HV2.out⟩
  · rw [show (c i == 42) = false by simpa using h42] at cH
    have hvs : vbS c i = i := by unfold vbS; rw [if_neg h42]
    clear h42
    clear x0 x1 x2
    go_wp2_with fail
    refine cH.mono ?_
    rintro ev w2 ⟨rfl, hw⟩
    subst w2
    clear cH hcA hW
    obtain ⟨k, hkk⟩ : ∃ k, i = k := ⟨_, rfl⟩
    obtain ⟨L1, hL1⟩ : ∃ L1, L = L1 := ⟨_, rfl⟩
    have HV : Hid (vbE c n i = (if n ≤ k ∨ c k = 10 then k else vbF c n k) ∧ vbL L c n i = setL L1 4 (k : Int) ((vbE c n i : Nat) : Int)) := by
      unfold vbL
      rw [← hL1, ← hkk, hvs, setL_zero]
      unfold vbE
      rw [hvs]
      exact ⟨rfl, rfl⟩
    have HE : Hid (En w0 S W b off n cap B T gs c L1 k) := by rw [← hL1, ← hkk]; exact HE1.out
    have hk : k ≤ n := by omega
    clear hvs HE1 hkk hL1
    obtain ⟨x0, x1, x2⟩ := HE.out.cells
    clear x0 x1 x2
    obtain ⟨x0, x1, x2⟩ := HE.out.cells
    have zk0 : (0 : Int) ≤ (k : Int) := by omega
    obtain ⟨R, hRR⟩ : ∃ R, bh [10] c n k = R := ⟨_, rfl⟩
    have hR : k ≤ R ∧ R ≤ n := by rw [← hRR]; exact bh_le HH.out.1.ch.2 [10] b10 (by simp) k hk
    have hR2 : k < n → k < R := fun h => by rw [← hRR]; exact (bh_gt HH.out.1.ch h).1
    have HR : Hid (bh [10] c n k = R) := hRR
    have CB : Hid (∀ w', En w0 S w' b off n cap B T gs c L1 k → Calls Tryd.prog 36 #[.slice (some ⟨b, off, none⟩) n cap, .int .i64 k, .string ⟨#[10]⟩] w' fun ev w2 => ev = .returned (.int .i64 R) ∧ Below w'.heap.size w' w2) := fun w' h' => h'.bhd HH.out.1 k hk [10] b10 (by simp) (by decide) ⟨#[10]⟩ (by kernel_rfl) R HR.out
    clear hRR
    obtain ⟨M, hM⟩ : ∃ M, R - k = M := ⟨_, rfl⟩
    have HM2 : Hid (R = k + M) := by show _ = _; omega
    have zk1 : (k : Int) ≤ (R : Int) := by omega
    have zk2 : (R : Int) ≤ (cap : Int) := by omega
    obtain ⟨adk, hadk⟩ : ∃ adk, (if cap = k then some (⟨b, off, none⟩ : Addr) else some ⟨b, off + k, none⟩) = adk := ⟨_, rfl⟩
    have HAD : Hid (k < n → adk = some ⟨b, off + k, none⟩) := fun h => by rw [← hadk, if_neg (by omega)]
    go_upto_region 3 with fail
    refine wp_region_held_drew (S := fun w' => w'.cell? ⟨B, 1, none⟩ = some (.slice (some ⟨b, off, none⟩) n cap) ∧ w'.cell? ⟨B, 2, none⟩ = some (.int .i64 k)) (by kernel_rfl) ⟨x1, x2⟩ (fun hHeld => ?_)
    clear hHeld
    refine takeH (i := 0) (v := ?_) (d := (some 17)) rfl (by kernel_rfl) (by kernel_rfl) (by kernel_rfl) rfl (fun _ _ _ h => h) (Or.inl ⟨by kernel_rfl, ?_⟩) (by first | assumption | trivial) ?_; rotate_left
    · (intro w hSw; (try dsimp only at hSw); first | (go_simp; done) | (go_simp; with_reducible rfl))
    (try simp only [Act.put, List.setIfInBounds_toArray, List.set_cons_zero, List.set_cons_succ])
    refine takeH (i := 1) (v := ?_) (d := (some 18)) rfl (by kernel_rfl) (by kernel_rfl) (by kernel_rfl) rfl (fun _ _ _ h => h) (Or.inl ⟨by kernel_rfl, ?_⟩) (by first | assumption | trivial) ?_; rotate_left
    · (intro w hSw; (try dsimp only at hSw); first | (go_simp; done) | (go_simp; with_reducible rfl))
    (try simp only [Act.put, List.setIfInBounds_toArray, List.set_cons_zero, List.set_cons_succ])
    refine takeH (i := 2) (v := ?_) (d := (some 19)) rfl (by kernel_rfl) (by kernel_rfl) (by kernel_rfl) rfl (fun _ _ _ h => h) (Or.inl ⟨by kernel_rfl, ?_⟩) (by first | assumption | trivial) ?_; rotate_left
    · (intro w hSw; (try dsimp only at hSw); first | (go_simp; done) | (go_simp; with_reducible rfl))
    (try simp only [Act.put, List.setIfInBounds_toArray, List.set_cons_zero, List.set_cons_succ])
    refine takeH (i := 3) (v := ?_) (d := (some 20)) rfl (by kernel_rfl) (by kernel_rfl) (by kernel_rfl) rfl (fun _ _ _ h => h) (Or.inl ⟨by kernel_rfl, ?_⟩) (by first | assumption | trivial) ?_; rotate_left
    · (intro w hSw; (try dsimp only at hSw); first | (go_simp; done) | (go_simp; with_reducible rfl))
    (try simp only [Act.put, List.setIfInBounds_toArray, List.set_cons_zero, List.set_cons_succ])
    refine takeH (i := 4) (v := ?_) (d := (some 21)) rfl (by kernel_rfl) (by kernel_rfl) (by kernel_rfl) rfl (fun _ _ _ h => h) (Or.inl ⟨by kernel_rfl, ?_⟩) (by first | assumption | trivial) ?_; rotate_left
    · (intro w hSw; (try dsimp only at hSw); first | (go_simp; done) | (go_simp; with_reducible rfl))
    (try simp only [Act.put, List.setIfInBounds_toArray, List.set_cons_zero, List.set_cons_succ])
    refine takeH (i := 5) (v := ?_) (d := (some 22)) rfl (by kernel_rfl) (by kernel_rfl) (by kernel_rfl) rfl (fun _ _ _ h => h) (Or.inl ⟨by kernel_rfl, ?_⟩) (by first | assumption | trivial) ?_; rotate_left
    · (intro w hSw; (try dsimp only at hSw); first | (go_simp; done) | (go_simp; with_reducible rfl))
    (try simp only [Act.put, List.setIfInBounds_toArray, List.set_cons_zero, List.set_cons_succ])
    refine takeH (i := 6) (v := ?_) (d := (some 23)) rfl (by kernel_rfl) (by kernel_rfl) (by kernel_rfl) rfl (fun _ _ _ h => h) (Or.inl ⟨by kernel_rfl, ?_⟩) (by first | assumption | trivial) ?_; rotate_left
    · (intro w hSw; (try dsimp only at hSw); first | (go_simp; done) | (go_simp; with_reducible rfl))
    (try simp only [Act.put, List.setIfInBounds_toArray, List.set_cons_zero, List.set_cons_succ])
    refine takeH (i := 7) (v := ?_) (d := (some 24)) rfl (by kernel_rfl) (by kernel_rfl) (by kernel_rfl) rfl (fun _ _ _ h => h) (Or.inl ⟨by kernel_rfl, ?_⟩) (by first | assumption | trivial) ?_; rotate_left
    · (intro w hSw; (try dsimp only at hSw); first | (go_simp; done) | (go_simp; with_reducible rfl))
    (try simp only [Act.put, List.setIfInBounds_toArray, List.set_cons_zero, List.set_cons_succ])
    refine takeH (i := 8) (v := ?_) (d := (some 25)) rfl (by kernel_rfl) (by kernel_rfl) (by kernel_rfl) rfl (fun _ _ _ h => h) (Or.inl ⟨by kernel_rfl, ?_⟩) (by first | assumption | trivial) ?_; rotate_left
    · (intro w hSw; (try dsimp only at hSw); first | (go_simp; done) | (go_simp; with_reducible rfl))
    (try simp only [Act.put, List.setIfInBounds_toArray, List.set_cons_zero, List.set_cons_succ])
    refine takeH (i := 9) (v := ?_) (d := (some 26)) rfl (by kernel_rfl) (by kernel_rfl) (by kernel_rfl) rfl (fun _ _ _ h => h) (Or.inl ⟨by kernel_rfl, ?_⟩) (by first | assumption | trivial) ?_; rotate_left
    · (intro w hSw; (try dsimp only at hSw); first | (go_simp; done) | (go_simp; with_reducible rfl))
    (try simp only [Act.put, List.setIfInBounds_toArray, List.set_cons_zero, List.set_cons_succ])
    refine takeH (i := 10) (v := ?_) (d := (some 27)) rfl (by kernel_rfl) (by kernel_rfl) (by kernel_rfl) rfl (fun _ _ _ h => h) (Or.inl ⟨by kernel_rfl, ?_⟩) (by first | assumption | trivial) ?_; rotate_left
    · (intro w hSw; (try dsimp only at hSw); first | (go_simp; done) | (go_simp; with_reducible rfl))
    (try simp only [Act.put, List.setIfInBounds_toArray, List.set_cons_zero, List.set_cons_succ])
    refine takeH (i := 11) (v := ?_) (d := (some 28)) rfl (by kernel_rfl) (by kernel_rfl) (by kernel_rfl) rfl (fun _ _ _ h => h) (Or.inl ⟨by kernel_rfl, ?_⟩) (by first | assumption | trivial) ?_; rotate_left
    · (intro w hSw; (try dsimp only at hSw); first | (go_simp; done) | (go_simp; with_reducible rfl))
    (try simp only [Act.put, List.setIfInBounds_toArray, List.set_cons_zero, List.set_cons_succ])
    refine takeH (i := 12) (v := ?_) (d := (some 29)) rfl (by kernel_rfl) (by kernel_rfl) (by kernel_rfl) rfl (fun _ _ _ h => h) (Or.inl ⟨by kernel_rfl, ?_⟩) (by first | assumption | trivial) ?_; rotate_left
    · (intro w hSw; (try dsimp only at hSw); first | (go_simp; done) | (go_simp; with_reducible rfl))
    (try simp only [Act.put, List.setIfInBounds_toArray, List.set_cons_zero, List.set_cons_succ])
    refine takeH (i := 13) (v := ?_) (d := (some 30)) rfl (by kernel_rfl) (by kernel_rfl) (by kernel_rfl) rfl (fun _ _ _ h => h) (Or.inl ⟨by kernel_rfl, ?_⟩) (by first | assumption | trivial) ?_; rotate_left
    · (intro w hSw; (try dsimp only at hSw); first | (go_simp; done) | (go_simp; with_reducible rfl))
    (try simp only [Act.put, List.setIfInBounds_toArray, List.set_cons_zero, List.set_cons_succ])
    refine takeH (i := 14) (v := ?_) (d := (some 31)) rfl (by kernel_rfl) (by kernel_rfl) (by kernel_rfl) rfl (fun _ _ _ h => h) (Or.inl ⟨by kernel_rfl, ?_⟩) (by first | assumption | trivial) ?_; rotate_left
    · (intro w hSw; (try dsimp only at hSw); first | (go_simp; done) | (go_simp; with_reducible rfl))
    (try simp only [Act.put, List.setIfInBounds_toArray, List.set_cons_zero, List.set_cons_succ])
    refine takeH (i := 15) (v := ?_) (d := (some 32)) rfl (by kernel_rfl) (by kernel_rfl) (by kernel_rfl) rfl (fun _ _ _ h => h) (Or.inl ⟨by kernel_rfl, ?_⟩) (by first | assumption | trivial) ?_; rotate_left
    · (intro w hSw; (try dsimp only at hSw); first | (go_simp; done) | (go_simp; with_reducible rfl))
    (try simp only [Act.put, List.setIfInBounds_toArray, List.set_cons_zero, List.set_cons_succ])
    refine wpAnyH_ready (rs := [16]) (by kernel_rfl) (by simp) (AllReadyH.cons rfl (fun K hK => ?_) AllReadyH.nil)
    go_simp
    refine (CB.out _ HE.out.drew).mono ?_
    rintro ev V ⟨rfl, hbV⟩
    have HV2 : Hid (En w0 S V b off n cap B T gs c L1 k) := HE.out.drew.stay hbV
    clear hbV CB x0 x1 x2
    obtain ⟨x0, x1, x2⟩ := HV2.out.cells
    refine hK.out _ _ ⟨x1, x2⟩ (fun hHeld => ?_)
    clear hK K hHeld
    (try simp only [Act.put, List.setIfInBounds_toArray, List.set_cons_zero, List.set_cons_succ])
    refine takeH (i := 17) (v := ?_) (d := (some 34)) rfl (by kernel_rfl) (by kernel_rfl) (by kernel_rfl) rfl (fun _ _ _ h => h) (Or.inl ⟨by kernel_rfl, ?_⟩) (by first | assumption | trivial) ?_; rotate_left
    · (intro w hSw; (try dsimp only at hSw); first | (go_simp; done) | (go_simp; with_reducible rfl))
    (try simp only [Act.put, List.setIfInBounds_toArray, List.set_cons_zero, List.set_cons_succ])
    refine takeH (i := 18) (v := ?_) (d := (some 3)) rfl (by kernel_rfl) (by kernel_rfl) (by kernel_rfl) rfl (fun _ _ _ h => h) (Or.inl ⟨by kernel_rfl, ?_⟩) (by first | assumption | trivial) ?_; rotate_left
    · (intro w hSw; (try dsimp only at hSw); first | (go_simp; done) | (go_simp; with_reducible rfl))
    (try simp only [Act.put, List.setIfInBounds_toArray, List.set_cons_zero, List.set_cons_succ])
    refine wpAnyH_done (by kernel_rfl) ?_ _
    clear hadk
    by_cases hkn : k < n
    · have hRk := hR2 hkn
      have hMp : 0 < M := by omega
      clear hM
      have hadk := HAD.out hkn
      subst hadk
      have q1 : ((M : Int) == 0) = false := by simp; omega
      have q2 : (0 : Int) < (M : Int) := by omega
      obtain ⟨b', off', e, hc⟩ := HV2.out.bc k hkn
      injection e with e
      injection e with e1 e2 _
      subst e1 e2
      by_cases h10 : c k = 10
      · have HF : Hid (vbE c n i = k ∧ vbL L c n i = L1) := by
          have hv := HV.out
          rw [if_pos (Or.inr h10)] at hv
          refine ⟨hv.1, hv.2.trans ?_⟩
          rw [hv.1]
          exact setL_zero L1 4 k
        rw [h10] at hc
        clear h10 hR hR2
        go_wp2
        rw [← HQ.out, HF.out.1, HF.out.2]
        exact ⟨rfl, HV2.out⟩
      · have k10 : (c k == 10) = false := by simpa using h10
        have hv : vbE c n i = vbF c n k ∧ vbL L c n i = setL L1 4 (k : Int) ((vbF c n k : Nat) : Int) := by
          have hv := HV.out
          rw [if_neg (by omega)] at hv
          exact ⟨hv.1, hv.2.trans (by rw [hv.1])⟩
        have hF : vbF c n k = if fs (fun j => c j == c k) R (k + 1) < R then fs (fun j => c j == c k) R (k + 1) + 1 else R := by unfold vbF vbQ vbN; rw [HR.out]
        have hcb := HH.out.1.ch.1 k hkn
        have hge := fs_ge (fun j => c j == c k) R (k + 1)
        have hle := fs_le (fun j => c j == c k) (n := R) (i := k + 1) (by omega)
        obtain ⟨ad1, had1⟩ : ∃ ad1, (if cap - k = 1 then some (⟨b, off + k, none⟩ : Addr) else some ⟨b, off + k + 1, none⟩) = ad1 := ⟨_, rfl⟩
        have CI : Hid (∀ q, Calls Tryd.prog 53 #[.slice ad1 (M - 1) (cap - k - 1), .int .u8 (c k)] (V.drewN q) fun e w' => e = .returned (.int .i64 (if fs (fun j => c j == c k) R (k + 1) < R then (fs (fun j => c j == c k) R (k + 1) : Int) - ((k + 1 : Nat) : Int) else -1)) ∧ w' = V.drewN q) := fun q => by
          have hM2 := HM2.out
          have hbc : BC (V.drewN q) ad1 (M - 1) (fun j => tr c R (k + 1 + j)) := by
            by_cases h1 : cap - k = 1
            · rw [show M - 1 = 0 by omega]; exact BC.zero _ _ _
            · rw [if_neg h1] at had1
              subst had1
              have := BC.from ((HV2.out.drewN q).bc.tr hR.2) (cap := cap) (k + 1) (by omega) (by omega)
              rw [if_neg (by omega), show R - (k + 1) = M - 1 by omega] at this
              exact this
          have hci := idxB_any (cap := cap - k - 1) ((tr_ch HH.out.1.ch hR.2).from (k + 1) (by omega)) (by rw [show R - (k + 1) = M - 1 by omega]; exact hbc) (by rw [← had1]; split <;> simp) (c k) hcb
          rw [ix_bh (by omega), show R - (k + 1) = M - 1 by omega, fs_congr (Q := fun j => c j == c k) (by omega) (fun j _ hj => by rw [oc1, tr_in hj])] at hci
          exact hci
        have hM2 := HM2.out
        generalize fs (fun j => c j == c k) R (k + 1) = A at hF hge hle CI
        clear h10
        obtain ⟨ck, hck⟩ : ∃ ck, c k = ck := ⟨_, rfl⟩
        rw [hck] at hc k10 CI
        by_cases hA : A < R
        · rw [if_pos hA] at CI hF
          obtain ⟨D, hD⟩ : ∃ D : Nat, (A : Int) - ((k + 1 : Nat) : Int) = (D : Int) := ⟨A - (k + 1), by omega⟩
          rw [hD] at CI
          have HF : Hid (vbE c n i = A + 1 ∧ vbL L c n i = setL L1 4 (k : Int) ((A + 1 : Nat) : Int)) := by
            rw [hF] at hv
            exact hv
          have q5 : ¬ (D : Int) < 0 := by omega
          have q6 : (D : Int) ≤ 1000000 := by omega
          have HAD2 : Hid (k + 1 + D + 1 = A + 1) := by show _ = _; omega
          have hA6 : A + 1 ≤ n := by omega
          clear hv hF hck hcb hge hle hA hD hM2 hR hR2
          go_wp2_with fail
          go_quiet (first | (go_at_call 53; exact Calls.quiet_of_same (CI.out _)))
          have hE9 := HV2.out.drewN nq
          generalize V.drewN nq = V9 at *
          clear x0 x1 x2
          obtain ⟨x0, x1, x2⟩ := hE9.cells
          have HE9 := Hid.mk' hE9
          clear hE9
          go_wp2_with fail
          rw [show ((k : Int) + 1 + (D : Int) + 1) = ((A + 1 : Nat) : Int) by have := HAD2.out; omega]
          refine (flay_any HH.out.1 HE9.out (by omega) 4 (A + 1) (A + 1) (by omega) (by omega)).mono ?_
          rintro ev w5 ⟨rfl, hE5⟩
          go_wp2
          rw [← HQ.out, HF.out.1, HF.out.2]
          exact ⟨rfl, hE5⟩
        · rw [if_neg hA] at CI hF
          have HF : Hid (vbE c n i = R ∧ vbL L c n i = setL L1 4 (k : Int) (R : Int)) := by
            rw [hF] at hv
            exact hv
          have hRn := hR.2
          have qM : (M : Int) ≤ 1000000 := by omega
          clear hv hF hck hcb hge hle hA hM2 hR hR2
          go_wp2_with fail
          go_quiet (first | (go_at_call 53; exact Calls.quiet_of_same (CI.out _)))
          have hE9 := HV2.out.drewN nq
          generalize V.drewN nq = V9 at *
          clear x0 x1 x2
          obtain ⟨x0, x1, x2⟩ := hE9.cells
          have HE9 := Hid.mk' hE9
          clear hE9
          go_wp2_with fail
          rw [show ((k : Int) + (M : Int)) = (R : Int) by have := HM2.out; omega]
          refine (flay_any HH.out.1 HE9.out (by omega) 4 R R (by omega) (by omega)).mono ?_
          rintro ev w5 ⟨rfl, hE5⟩
          go_wp2
          rw [← HQ.out, HF.out.1, HF.out.2]
          exact ⟨rfl, hE5⟩
    · have q1 : ((M : Int) == 0) = true := by simp; omega
      have HF : Hid (vbE c n i = k ∧ vbL L c n i = L1) := by
        have hv := HV.out
        rw [if_pos (Or.inl (by omega))] at hv
        refine ⟨hv.1, hv.2.trans ?_⟩
        rw [hv.1]
        exact setL_zero L1 4 k
      clear hM hR hR2
      go_wp2
      rw [← HQ.out, HF.out.1, HF.out.2]
      exact ⟨rfl, HV2.out⟩
end
end Go.Proofs.YtlgfmhhhecaddaaDoor
