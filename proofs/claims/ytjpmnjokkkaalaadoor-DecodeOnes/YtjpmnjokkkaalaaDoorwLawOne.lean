/- DecodeOnes. -/
import Derived.Test.YtjpmnjokkkaalaaDoorwOneP
import Derived.Test.YtjpmnjokkkaalaaDoorwApB
import Derived.Test.YtjpmnjokkkaalaaDoorvRe
import Derived.Test.YtjpmnjokkkaalaaDoorvRs
namespace Go.Proofs.YtjpmnjokkkaalaaDoor
set_option linter.unusedVariables false
open Go.RowKit Go.ChangeShapes
/-- Bytes that lie where a slice points, one at least. -/
def BY (w : World) (v : Value) : Prop := ∃ (b off nn cc : Nat) (c : Nat → Int), v = .slice (some ⟨b, off, none⟩) nn cc ∧ (∀ j, j < nn → 0 ≤ c j ∧ c j < 256) ∧ BC w (some ⟨b, off, none⟩) nn c ∧ 0 < nn ∧ nn ≤ 100000 ∧ nn ≤ cc ∧ cc ≤ 9223372036854775807
theorem BY.stay {w w' : World} {v : Value} (h : BY w v) (hb : Below w.heap.size w w') : BY w' v := by
  obtain ⟨b, off, nn, cc, c, e, h1, h2, h3⟩ := h
  exact ⟨b, off, nn, cc, c, e, h1, h2.stay hb, h3⟩
set_option maxRecDepth 100000 in
set_option maxHeartbeats 16000000 in
theorem ones_law {w : World} (hG : Glb w) {f : Int} {ba : Option Addr} {bn bcap : Nat} {bc : Nat → Int} (hbC : Ch bc bn) (hb : BC w ba bn bc) (hbcap : bn ≤ bcap) (hbn : bn ≤ maxLen)
    {la : Option Addr} {ln lcap : Nat} {lc : Nat → Int} (hlC : Ch lc ln) (hl : BC w la ln lc) (hln : ln ≤ maxLen) :
    Calls Tryd.prog 3 #[.int .u8 f, .slice ba bn bcap, .slice la ln lcap] w fun ev w' => ev = .returned (.bool true) ∧ Below w.heap.size w w' := by
  have HH : Hid (Glb w ∧ (Ch bc bn ∧ BC w ba bn bc ∧ bn ≤ maxLen) ∧ (Ch lc ln ∧ BC w la ln lc ∧ ln ≤ maxLen)) := ⟨hG, ⟨hbC, hb, hbn⟩, ⟨hlC, hl, hln⟩⟩
  have ca := awake_any w hG
  clear hG hbC hb hlC hl
  go_enter Tryd.func3, Tryd.ntmps3
  go_wp2_with fail
  refine ca.mono ?_
  rintro ev w1 ⟨rfl, hb1⟩
  have HB1 : Hid (Below w.heap.size w w1) := hb1
  clear ca hb1
  by_cases hlong : 200 < bn
  · have g0 : (200 : Int) < (bn : Int) := by omega
    go_wp2
    go_ret
    exact ⟨rfl, HB1.out⟩
  · have g0 : ¬ (200 : Int) < (bn : Int) := by omega
    have cp := pieces_any w1
    go_wp2_with fail
    refine cp.mono ?_
    rintro ev w2 ⟨G, rfl, hP, hb2⟩
    have HB2 : Hid (Below w.heap.size w w2) := HB1.out.trans (hb2.mono HB1.out.size)
    have hps : psP.length = 37 := rfl
    have cb0 := bits_any (pc := 37) (rcap := bcap) (lcap := lcap) hP (pslen (by decide)) (psbyt (by decide)) (by decide) HH.out.2.2.1 (HH.out.2.2.2.1.stay HB2.out) HH.out.2.2.2.2 HH.out.2.1.1 (HH.out.2.1.2.1.stay HB2.out) HH.out.2.1.2.2
    rw [hps] at cb0
    obtain ⟨X, hX⟩ : ∃ X, bts psP bc bn (nl lc ln) = X := ⟨_, rfl⟩
    have hXn : X.length ≤ 1200 := by rw [← hX]; exact bts_len2 psP_20 _ _ _
    have hXb : Byt X := by rw [← hX]; exact bts_byt (psbyt (by decide)) HH.out.2.1.1 _
    rw [hX] at cb0
    clear cp hP hb2 hX hps
    go_wp2_with fail
    refine cb0.mono ?_
    rintro ev w3 ⟨v3, rfl, ho3, hb3⟩
    have HB3 : Hid (Below w.heap.size w w3) := HB2.out.trans (hb3.mono HB2.out.size)
    obtain ⟨ad, cap, rfl, hcap, hcbig⟩ := ob_form ho3
    have hbc3 := ho3.bc
    obtain ⟨n, hn⟩ : ∃ n, X.length = n := ⟨_, rfl⟩
    have hCh := cL_ch hXb
    rw [hn] at hbc3 hcap hXn hCh ⊢
    have HX : Hid (BC w3 ad n (cL X) ∧ Ch (cL X) n) := ⟨hbc3, hCh⟩
    obtain ⟨K0, hK0⟩ : ∃ K0, min n 60 = K0 := ⟨_, rfl⟩
    have hmin : min (n : Int) 60 = (K0 : Int) := by omega
    have hKn : K0 ≤ n := by omega
    clear cb0 ho3 hb3 hbc3 hCh hXb hn hK0
    go_wp2
    go_loopg [31] K0 (fun q iv wr => ∃ i : Nat, i ≤ K0 ∧ q = K0 - i ∧ iv = .int .i64 i ∧ Hid (Up w3.heap.size w3 wr))
    case atStart => exact ⟨0, Nat.zero_le _, rfl, rfl, Up.refl w3⟩
    case round =>
      obtain ⟨i, hi, hq, rfl, HU⟩ := hrel
      by_cases hlt : i < K0
      · have z0 : (0 : Int) ≤ (i : Int) := by omega
        have z1 : (i : Int) < (K0 : Int) := by omega
        have z2 : (i : Int) ≤ (n : Int) := by omega
        have z3 : (n : Int) ≤ (cap : Int) := by omega
        have z4 : ¬ cap = i := by omega
        obtain ⟨b, off, rfl, -⟩ := HX.out.1 i (by omega)
        have hfr := BC.from (HX.out.1.stay HU.out.1) i (by omega) hcap
        rw [if_neg z4] at hfr
        have HF : Hid (BC wr (some ⟨b, off + i, none⟩) (n - i) (fun j => cL X (i + j))) := hfr
        have HC : Hid (∀ j, j < n - i → 0 ≤ cL X (i + j) ∧ cL X (i + j) < 256) := fun j hj => HX.out.2.1 (i + j) (by omega)
        clear hfr
        go_upto_region 9 with fail
        go_cut [49, 50, 51] (fun rv lv kv wx => ∃ R : Nat, rv = .slice (some ⟨R, 0, none⟩) 3 3 ∧ lv = .int .i64 3 ∧ kv = .int .i64 0 ∧ Hid (Up wr.heap.size wr wx ∧ ∀ q, q < 3 → ∃ v, wx.cell? ⟨R, q, none⟩ = some v ∧ BY wx v))
        case first =>
          refine wp_region_held_drew (S := fun w' => Up wr.heap.size wr w') (by kernel_rfl) (Up.drew (Up.refl wr)) (fun hHeld => ?_)
          (try dsimp only at hHeld)
          obtain ⟨x0, hx0⟩ : ∃ x0, wr.drew = x0 := ⟨_, rfl⟩
          rw [hx0] at hHeld ⊢
          clear hx0
          refine takeH (i := 0) (v := ?_) (d := (some 34)) rfl (by kernel_rfl) (by kernel_rfl) (by kernel_rfl) rfl (fun _ _ _ h => h) (Or.inl ⟨by kernel_rfl, ?_⟩) (by assumption) ?_; rotate_left
          · (intro w hSw; (try dsimp only at hSw); first | (go_simp; done) | (go_simp; with_reducible rfl))
          (try simp only [Act.put, List.setIfInBounds_toArray, List.set_cons_zero, List.set_cons_succ])
          refine takeH (i := 1) (v := ?_) (d := (some 35)) rfl (by kernel_rfl) (by kernel_rfl) (by kernel_rfl) rfl (fun _ _ _ h => h) (Or.inl ⟨by kernel_rfl, ?_⟩) (by assumption) ?_; rotate_left
          · (intro w hSw; (try dsimp only at hSw); first | (go_simp; done) | (go_simp; with_reducible rfl))
          (try simp only [Act.put, List.setIfInBounds_toArray, List.set_cons_zero, List.set_cons_succ])
          refine takeH (i := 2) (v := ?_) (d := (some 36)) rfl (by kernel_rfl) (by kernel_rfl) (by kernel_rfl) rfl (fun _ _ _ h => h) (Or.inl ⟨by kernel_rfl, ?_⟩) (by assumption) ?_; rotate_left
          · (intro w hSw; (try dsimp only at hSw); first | (go_simp; done) | (go_simp; with_reducible rfl))
          (try simp only [Act.put, List.setIfInBounds_toArray, List.set_cons_zero, List.set_cons_succ])
          refine takeH (i := 5) (v := ?_) (d := (some 39)) rfl (by kernel_rfl) (by kernel_rfl) (by kernel_rfl) rfl (fun _ _ _ h => h) (Or.inl ⟨by kernel_rfl, ?_⟩) (by assumption) ?_; rotate_left
          · (intro w hSw; (try dsimp only at hSw); first | (go_simp; done) | (go_simp; with_reducible rfl))
          (try simp only [Act.put, List.setIfInBounds_toArray, List.set_cons_zero, List.set_cons_succ])
          refine takeH (i := 6) (v := ?_) (d := (some 40)) rfl (by kernel_rfl) (by kernel_rfl) (by kernel_rfl) rfl (fun _ _ _ h => h) (Or.inl ⟨by kernel_rfl, ?_⟩) (by assumption) ?_; rotate_left
          · (intro w hSw; (try dsimp only at hSw); first | (go_simp; done) | (go_simp; with_reducible rfl))
          (try simp only [Act.put, List.setIfInBounds_toArray, List.set_cons_zero, List.set_cons_succ])
          refine takeH (i := 7) (v := ?_) (d := (some 41)) rfl (by kernel_rfl) (by kernel_rfl) (by kernel_rfl) rfl (fun _ _ _ h => h) (Or.inl ⟨by kernel_rfl, ?_⟩) (by assumption) ?_; rotate_left
          · (intro w hSw; (try dsimp only at hSw); first | (go_simp; done) | (go_simp; with_reducible rfl))
          (try simp only [Act.put, List.setIfInBounds_toArray, List.set_cons_zero, List.set_cons_succ])
          refine takeH (i := 11) (v := ?_) (d := (some 45)) rfl (by kernel_rfl) (by kernel_rfl) (by kernel_rfl) rfl (fun _ _ _ h => h) (Or.inl ⟨by kernel_rfl, ?_⟩) (by assumption) ?_; rotate_left
          · (intro w hSw; (try dsimp only at hSw); first | (go_simp; done) | (go_simp; with_reducible rfl))
          (try simp only [Act.put, List.setIfInBounds_toArray, List.set_cons_zero, List.set_cons_succ])
          refine takeH (i := 12) (v := ?_) (d := (some 46)) rfl (by kernel_rfl) (by kernel_rfl) (by kernel_rfl) rfl (fun _ _ _ h => h) (Or.inl ⟨by kernel_rfl, ?_⟩) (by assumption) ?_; rotate_left
          · (intro w hSw; (try dsimp only at hSw); first | (go_simp; done) | (go_simp; with_reducible rfl))
          (try simp only [Act.put, List.setIfInBounds_toArray, List.set_cons_zero, List.set_cons_succ])
          refine takeH (i := 13) (v := ?_) (d := (some 47)) rfl (by kernel_rfl) (by kernel_rfl) (by kernel_rfl) rfl (fun _ _ _ h => h) (Or.inl ⟨by kernel_rfl, ?_⟩) (by assumption) ?_; rotate_left
          · (intro w hSw; (try dsimp only at hSw); first | (go_simp; done) | (go_simp; with_reducible rfl))
          (try simp only [Act.put, List.setIfInBounds_toArray, List.set_cons_zero, List.set_cons_succ])
          refine takeH (i := 17) (v := ?_) (d := (some 51)) rfl (by kernel_rfl) (by kernel_rfl) (by kernel_rfl) rfl (fun _ _ _ h => h) (Or.inl ⟨by kernel_rfl, ?_⟩) (by assumption) ?_; rotate_left
          · (intro w hSw; (try dsimp only at hSw); first | (go_simp; done) | (go_simp; with_reducible rfl))
          (try simp only [Act.put, List.setIfInBounds_toArray, List.set_cons_zero, List.set_cons_succ])
          refine wpAnyH_ready (rs := [3, 9]) (by kernel_rfl) (by simp) (AllReadyH.cons rfl (fun K hK => ?_) (AllReadyH.cons rfl (fun K hK => ?_) AllReadyH.nil))
          · rw [if_pos (by kernel_rfl)]
            go_simp
            obtain ⟨x1, hx1⟩ : ∃ x, x0.alloc (.cells #[.int .u8 38] 5) = x := ⟨_, rfl⟩
            obtain ⟨A, hA⟩ : ∃ A, x0.heap.size = A := ⟨_, rfl⟩
            have hb' : Below x0.heap.size x0 x1 := by rw [← hx1]; exact below_alloc x0 _
            have Hx1 : Hid (Up wr.heap.size wr x1) := hHeld.stay hb'
            have hkA : Hid (x1.heap[A]? = some (.cells #[.int .u8 38] 5)) := by show _ = _; rw [← hx1, ← hA]; exact heap_alloc_new _ _
            have hlA : Hid (BC x1 (some ⟨A, 0, none⟩) 1 (cL [38])) := by show BC _ _ _ _; rw [← hx1, ← hA]; exact lit_row x0 38
            have hoA : Hid (wr.heap.size ≤ A) := by show _ ≤ _; rw [← hA]; exact hHeld.2
            rw [hx1, hA]
            refine hK.out _ _ Hx1.out (fun hHeld' => ?_)
            clear hK K hHeld hHeld'  hb' hx1 hA
            have hHeld := Hx1.out
            clear Hx1
            (try simp only [Act.put, List.setIfInBounds_toArray, List.set_cons_zero, List.set_cons_succ])
            refine wpAnyH_ready (rs := [4, 9]) (by kernel_rfl) (by simp) (AllReadyH.cons rfl (fun K hK => ?_) (AllReadyH.cons rfl (fun K hK => ?_) AllReadyH.nil))
            · rw [if_pos (by kernel_rfl)]
              have hcv : (convert 22 22 (.slice (some ⟨A, 0, none⟩) 1 1)).run Tryd.prog x1 = .ok (.slice (some ⟨A, 0, none⟩) 1 1) (x1.freeze ⟨A, 1, none⟩ 1) := conv_mark hkA.out
              obtain ⟨x2, hx2⟩ : ∃ x, x1.freeze ⟨A, 1, none⟩ 1 = x := ⟨_, rfl⟩
              have Hx2 : Hid (Up wr.heap.size wr x2) := by show Up _ _ _; rw [← hx2]; exact hHeld.freeze hoA.out _
              rw [hx2] at hcv
              go_simp
              have LLA_3 : Hid (BC x2 (some ⟨A, 0, none⟩) 1 (cL [38])) := by show BC _ _ _ _; rw [← hx2]; exact hlA.out.freeze _ _
              refine hK.out _ _ Hx2.out (fun hHeld' => ?_)
              clear hK K hHeld hHeld' hkA hlA hcv hx2
              have hHeld := Hx2.out
              clear Hx2
              (try simp only [Act.put, List.setIfInBounds_toArray, List.set_cons_zero, List.set_cons_succ])
              refine wpAnyH_ready (rs := [8, 9]) (by kernel_rfl) (by simp) (AllReadyH.cons rfl (fun K hK => ?_) (AllReadyH.cons rfl (fun K hK => ?_) AllReadyH.nil))
              · rw [if_pos (by kernel_rfl)]
                refine app1_wp (.tmp 38) (.tmp 41) rfl A 38 rfl LLA_3.out b (off + i) (n - i) (cap - i) (fun j => cL X (i + j)) rfl (HF.out.stay hHeld.1) (by omega) (by omega) ?_
                intro g8 c8 x4 lg8 pg8 qg8 hb'
                change K (Act.put _ (some 42) _) _
                have Hx4 : Hid (Up wr.heap.size wr x4) := hHeld.stay hb'
                have hlg8 : Hid (BC x4 (some ⟨g8, 0, none⟩) (1 + (n - i)) (cL (38 :: cl (fun j => cL X (i + j)) (n - i)))) := lg8
                refine hK.out _ _ Hx4.out (fun hHeld' => ?_)
                clear hK K hHeld hHeld' LLA_3 hb' lg8
                have hHeld := Hx4.out
                clear Hx4
                (try simp only [Act.put, List.setIfInBounds_toArray, List.set_cons_zero, List.set_cons_succ])
                refine wpAnyH_ready (rs := [9]) (by kernel_rfl) (by simp) (AllReadyH.cons rfl (fun K hK => ?_) AllReadyH.nil)
                rw [if_pos (by kernel_rfl)]
                go_simp
                obtain ⟨x5, hx5⟩ : ∃ x, x4.alloc (.cells #[.int .u8 92] 5) = x := ⟨_, rfl⟩
                obtain ⟨B, hB⟩ : ∃ A, x4.heap.size = A := ⟨_, rfl⟩
                have hb' : Below x4.heap.size x4 x5 := by rw [← hx5]; exact below_alloc x4 _
                have Hx5 : Hid (Up wr.heap.size wr x5) := hHeld.stay hb'
                have hkB : Hid (x5.heap[B]? = some (.cells #[.int .u8 92] 5)) := by show _ = _; rw [← hx5, ← hB]; exact heap_alloc_new _ _
                have hlB : Hid (BC x5 (some ⟨B, 0, none⟩) 1 (cL [92])) := by show BC _ _ _ _; rw [← hx5, ← hB]; exact lit_row x4 92
                have hoB : Hid (wr.heap.size ≤ B) := by show _ ≤ _; rw [← hB]; exact hHeld.2
                have LLg8_6 : Hid (BC x5 (some ⟨g8, 0, none⟩) (1 + (n - i)) (cL (38 :: cl (fun j => cL X (i + j)) (n - i)))) := hlg8.out.stay hb'
                rw [hx5, hB]
                refine hK.out _ _ Hx5.out (fun hHeld' => ?_)
                clear hK K hHeld hHeld' hlg8 hb' hx5 hB
                have hHeld := Hx5.out
                clear Hx5
                (try simp only [Act.put, List.setIfInBounds_toArray, List.set_cons_zero, List.set_cons_succ])
                refine wpAnyH_ready (rs := [10]) (by kernel_rfl) (by simp) (AllReadyH.cons rfl (fun K hK => ?_) AllReadyH.nil)
                rw [if_pos (by kernel_rfl)]
                have hcv : (convert 22 22 (.slice (some ⟨B, 0, none⟩) 1 1)).run Tryd.prog x5 = .ok (.slice (some ⟨B, 0, none⟩) 1 1) (x5.freeze ⟨B, 1, none⟩ 1) := conv_mark hkB.out
                obtain ⟨x7, hx7⟩ : ∃ x, x5.freeze ⟨B, 1, none⟩ 1 = x := ⟨_, rfl⟩
                have Hx7 : Hid (Up wr.heap.size wr x7) := by show Up _ _ _; rw [← hx7]; exact hHeld.freeze hoB.out _
                rw [hx7] at hcv
                go_simp
                have LLg8_8 : Hid (BC x7 (some ⟨g8, 0, none⟩) (1 + (n - i)) (cL (38 :: cl (fun j => cL X (i + j)) (n - i)))) := by show BC _ _ _ _; rw [← hx7]; exact LLg8_6.out.freeze _ _
                have LLB_9 : Hid (BC x7 (some ⟨B, 0, none⟩) 1 (cL [92])) := by show BC _ _ _ _; rw [← hx7]; exact hlB.out.freeze _ _
                refine hK.out _ _ Hx7.out (fun hHeld' => ?_)
                clear hK K hHeld hHeld' LLg8_6 hkB hlB hcv hx7
                have hHeld := Hx7.out
                clear Hx7
                (try simp only [Act.put, List.setIfInBounds_toArray, List.set_cons_zero, List.set_cons_succ])
                refine wpAnyH_ready (rs := [14]) (by kernel_rfl) (by simp) (AllReadyH.cons rfl (fun K hK => ?_) AllReadyH.nil)
                rw [if_pos (by kernel_rfl)]
                refine app1_wp (.tmp 44) (.tmp 47) rfl B 92 rfl LLB_9.out b (off + i) (n - i) (cap - i) (fun j => cL X (i + j)) rfl (HF.out.stay hHeld.1) (by omega) (by omega) ?_
                intro g14 c14 x10 lg14 pg14 qg14 hb'
                change K (Act.put _ (some 48) _) _
                have Hx10 : Hid (Up wr.heap.size wr x10) := hHeld.stay hb'
                have hlg14 : Hid (BC x10 (some ⟨g14, 0, none⟩) (1 + (n - i)) (cL (92 :: cl (fun j => cL X (i + j)) (n - i)))) := lg14
                have LLg8_11 : Hid (BC x10 (some ⟨g8, 0, none⟩) (1 + (n - i)) (cL (38 :: cl (fun j => cL X (i + j)) (n - i)))) := LLg8_8.out.stay hb'
                refine hK.out _ _ Hx10.out (fun hHeld' => ?_)
                clear hK K hHeld hHeld' LLg8_8 LLB_9 hb' lg14
                have hHeld := Hx10.out
                clear Hx10
                (try simp only [Act.put, List.setIfInBounds_toArray, List.set_cons_zero, List.set_cons_succ])
                refine wpAnyH_ready (rs := [15]) (by kernel_rfl) (by simp) (AllReadyH.cons rfl (fun K hK => ?_) AllReadyH.nil)
                rw [if_pos (by kernel_rfl)]
                go_simp
                obtain ⟨x12, hx12⟩ : ∃ x, x10.alloc (.cells #[.slice (some ⟨b, off + i, none⟩) (n - i) (cap - i), .slice (some ⟨g8, 0, none⟩) (1 + (n - i)) c8, .slice (some ⟨g14, 0, none⟩) (1 + (n - i)) c14] 22) = x := ⟨_, rfl⟩
                obtain ⟨RR, hRR⟩ : ∃ A, x10.heap.size = A := ⟨_, rfl⟩
                have hb' : Below x10.heap.size x10 x12 := by rw [← hx12]; exact below_alloc x10 _
                have Hx12 : Hid (Up wr.heap.size wr x12) := hHeld.stay hb'
                have hR0 : x12.heap[RR]? = some (.cells #[.slice (some ⟨b, off + i, none⟩) (n - i) (cap - i), .slice (some ⟨g8, 0, none⟩) (1 + (n - i)) c8, .slice (some ⟨g14, 0, none⟩) (1 + (n - i)) c14] 22) := by rw [← hx12, ← hRR]; exact heap_alloc_new _ _
                have HQ : Hid (∀ q, q < 3 → ∃ v, x12.cell? ⟨RR, q, none⟩ = some v ∧ BY x12 v) := fun q hq => by
                  have hbb : Byt (cl (fun j => cL X (i + j)) (n - i)) := cl_byt2 HC.out
                  match q, hq with
                  | 0, _ => exact ⟨_, by simp [World.cell?, hR0], b, off + i, n - i, cap - i, _, rfl, HC.out, HF.out.stay Hx12.out.1, by omega, by omega, by omega, by omega⟩
                  | 1, _ => exact ⟨_, by simp [World.cell?, hR0], g8, 0, 1 + (n - i), c8, _, rfl, fun j hj => (cL_ch (cons_byt (z := 38) (by decide) hbb)).1 j (by rw [List.length_cons, cl_len]; omega), LLg8_11.out.stay hb', by omega, by omega, pg8, by unfold maxLen at qg8; omega⟩
                  | 2, _ => exact ⟨_, by simp [World.cell?, hR0], g14, 0, 1 + (n - i), c14, _, rfl, fun j hj => (cL_ch (cons_byt (z := 92) (by decide) hbb)).1 j (by rw [List.length_cons, cl_len]; omega), hlg14.out.stay hb', by omega, by omega, pg14, by unfold maxLen at qg14; omega⟩
                rw [hx12, hRR]
                refine hK.out _ _ Hx12.out (fun hHeld' => ?_)
                clear hK K hHeld hHeld' LLg8_11 hlg14 hb' hx12 hRR hR0
                have hHeld := Hx12.out
                clear Hx12
                (try simp only [Act.put, List.setIfInBounds_toArray, List.set_cons_zero, List.set_cons_succ])
                refine takeH (i := 16) (v := ?_) (d := (some 50)) rfl (by kernel_rfl) (by kernel_rfl) (by kernel_rfl) rfl (fun _ _ _ h => h) (Or.inl ⟨by kernel_rfl, ?_⟩) (by assumption) ?_; rotate_left
                · (intro w hSw; (try dsimp only at hSw); first | (go_simp; done) | (go_simp; with_reducible rfl))
                (try simp only [Act.put, List.setIfInBounds_toArray, List.set_cons_zero, List.set_cons_succ])
                refine wpAnyH_done (by kernel_rfl) ?_ _
                go_wp2
                go_meet
                case rel => exact ⟨RR, rfl, rfl, rfl, hHeld, HQ.out⟩
              · rw [if_pos (by kernel_rfl)]
                go_simp
                obtain ⟨x13, hx13⟩ : ∃ x, x2.alloc (.cells #[.int .u8 92] 5) = x := ⟨_, rfl⟩
                obtain ⟨B, hB⟩ : ∃ A, x2.heap.size = A := ⟨_, rfl⟩
                have hb' : Below x2.heap.size x2 x13 := by rw [← hx13]; exact below_alloc x2 _
                have Hx13 : Hid (Up wr.heap.size wr x13) := hHeld.stay hb'
                have hkB : Hid (x13.heap[B]? = some (.cells #[.int .u8 92] 5)) := by show _ = _; rw [← hx13, ← hB]; exact heap_alloc_new _ _
                have hlB : Hid (BC x13 (some ⟨B, 0, none⟩) 1 (cL [92])) := by show BC _ _ _ _; rw [← hx13, ← hB]; exact lit_row x2 92
                have hoB : Hid (wr.heap.size ≤ B) := by show _ ≤ _; rw [← hB]; exact hHeld.2
                have LLA_14 : Hid (BC x13 (some ⟨A, 0, none⟩) 1 (cL [38])) := LLA_3.out.stay hb'
                rw [hx13, hB]
                refine hK.out _ _ Hx13.out (fun hHeld' => ?_)
                clear hK K hHeld hHeld' LLA_3 hb' hx13 hB
                have hHeld := Hx13.out
                clear Hx13
                (try simp only [Act.put, List.setIfInBounds_toArray, List.set_cons_zero, List.set_cons_succ])
                refine wpAnyH_ready (rs := [8, 10]) (by kernel_rfl) (by simp) (AllReadyH.cons rfl (fun K hK => ?_) (AllReadyH.cons rfl (fun K hK => ?_) AllReadyH.nil))
                · rw [if_pos (by kernel_rfl)]
                  refine app1_wp (.tmp 38) (.tmp 41) rfl A 38 rfl LLA_14.out b (off + i) (n - i) (cap - i) (fun j => cL X (i + j)) rfl (HF.out.stay hHeld.1) (by omega) (by omega) ?_
                  intro g8 c8 x15 lg8 pg8 qg8 hb'
                  change K (Act.put _ (some 42) _) _
                  have Hx15 : Hid (Up wr.heap.size wr x15) := hHeld.stay hb'
                  have hlg8 : Hid (BC x15 (some ⟨g8, 0, none⟩) (1 + (n - i)) (cL (38 :: cl (fun j => cL X (i + j)) (n - i)))) := lg8
                  have HKB_16 : Hid (x15.heap[B]? = some (.cells #[.int .u8 92] 5)) := blk_stay hkB.out hb'
                  have LLB_17 : Hid (BC x15 (some ⟨B, 0, none⟩) 1 (cL [92])) := hlB.out.stay hb'
                  refine hK.out _ _ Hx15.out (fun hHeld' => ?_)
                  clear hK K hHeld hHeld' LLA_14 hkB hlB hb' lg8
                  have hHeld := Hx15.out
                  clear Hx15
                  (try simp only [Act.put, List.setIfInBounds_toArray, List.set_cons_zero, List.set_cons_succ])
                  refine wpAnyH_ready (rs := [10]) (by kernel_rfl) (by simp) (AllReadyH.cons rfl (fun K hK => ?_) AllReadyH.nil)
                  rw [if_pos (by kernel_rfl)]
                  have hcv : (convert 22 22 (.slice (some ⟨B, 0, none⟩) 1 1)).run Tryd.prog x15 = .ok (.slice (some ⟨B, 0, none⟩) 1 1) (x15.freeze ⟨B, 1, none⟩ 1) := conv_mark HKB_16.out
                  obtain ⟨x18, hx18⟩ : ∃ x, x15.freeze ⟨B, 1, none⟩ 1 = x := ⟨_, rfl⟩
                  have Hx18 : Hid (Up wr.heap.size wr x18) := by show Up _ _ _; rw [← hx18]; exact hHeld.freeze hoB.out _
                  rw [hx18] at hcv
                  go_simp
                  have LLB_19 : Hid (BC x18 (some ⟨B, 0, none⟩) 1 (cL [92])) := by show BC _ _ _ _; rw [← hx18]; exact LLB_17.out.freeze _ _
                  have LLg8_20 : Hid (BC x18 (some ⟨g8, 0, none⟩) (1 + (n - i)) (cL (38 :: cl (fun j => cL X (i + j)) (n - i)))) := by show BC _ _ _ _; rw [← hx18]; exact hlg8.out.freeze _ _
                  refine hK.out _ _ Hx18.out (fun hHeld' => ?_)
                  clear hK K hHeld hHeld' HKB_16 LLB_17 hlg8 hcv hx18
                  have hHeld := Hx18.out
                  clear Hx18
                  (try simp only [Act.put, List.setIfInBounds_toArray, List.set_cons_zero, List.set_cons_succ])
                  refine wpAnyH_ready (rs := [14]) (by kernel_rfl) (by simp) (AllReadyH.cons rfl (fun K hK => ?_) AllReadyH.nil)
                  rw [if_pos (by kernel_rfl)]
                  refine app1_wp (.tmp 44) (.tmp 47) rfl B 92 rfl LLB_19.out b (off + i) (n - i) (cap - i) (fun j => cL X (i + j)) rfl (HF.out.stay hHeld.1) (by omega) (by omega) ?_
                  intro g14 c14 x21 lg14 pg14 qg14 hb'
                  change K (Act.put _ (some 48) _) _
                  have Hx21 : Hid (Up wr.heap.size wr x21) := hHeld.stay hb'
                  have hlg14 : Hid (BC x21 (some ⟨g14, 0, none⟩) (1 + (n - i)) (cL (92 :: cl (fun j => cL X (i + j)) (n - i)))) := lg14
                  have LLg8_22 : Hid (BC x21 (some ⟨g8, 0, none⟩) (1 + (n - i)) (cL (38 :: cl (fun j => cL X (i + j)) (n - i)))) := LLg8_20.out.stay hb'
                  refine hK.out _ _ Hx21.out (fun hHeld' => ?_)
                  clear hK K hHeld hHeld' LLB_19 LLg8_20 hb' lg14
                  have hHeld := Hx21.out
                  clear Hx21
                  (try simp only [Act.put, List.setIfInBounds_toArray, List.set_cons_zero, List.set_cons_succ])
                  refine wpAnyH_ready (rs := [15]) (by kernel_rfl) (by simp) (AllReadyH.cons rfl (fun K hK => ?_) AllReadyH.nil)
                  rw [if_pos (by kernel_rfl)]
                  go_simp
                  obtain ⟨x23, hx23⟩ : ∃ x, x21.alloc (.cells #[.slice (some ⟨b, off + i, none⟩) (n - i) (cap - i), .slice (some ⟨g8, 0, none⟩) (1 + (n - i)) c8, .slice (some ⟨g14, 0, none⟩) (1 + (n - i)) c14] 22) = x := ⟨_, rfl⟩
                  obtain ⟨RR, hRR⟩ : ∃ A, x21.heap.size = A := ⟨_, rfl⟩
                  have hb' : Below x21.heap.size x21 x23 := by rw [← hx23]; exact below_alloc x21 _
                  have Hx23 : Hid (Up wr.heap.size wr x23) := hHeld.stay hb'
                  have hR0 : x23.heap[RR]? = some (.cells #[.slice (some ⟨b, off + i, none⟩) (n - i) (cap - i), .slice (some ⟨g8, 0, none⟩) (1 + (n - i)) c8, .slice (some ⟨g14, 0, none⟩) (1 + (n - i)) c14] 22) := by rw [← hx23, ← hRR]; exact heap_alloc_new _ _
                  have HQ : Hid (∀ q, q < 3 → ∃ v, x23.cell? ⟨RR, q, none⟩ = some v ∧ BY x23 v) := fun q hq => by
                    have hbb : Byt (cl (fun j => cL X (i + j)) (n - i)) := cl_byt2 HC.out
                    match q, hq with
                    | 0, _ => exact ⟨_, by simp [World.cell?, hR0], b, off + i, n - i, cap - i, _, rfl, HC.out, HF.out.stay Hx23.out.1, by omega, by omega, by omega, by omega⟩
                    | 1, _ => exact ⟨_, by simp [World.cell?, hR0], g8, 0, 1 + (n - i), c8, _, rfl, fun j hj => (cL_ch (cons_byt (z := 38) (by decide) hbb)).1 j (by rw [List.length_cons, cl_len]; omega), LLg8_22.out.stay hb', by omega, by omega, pg8, by unfold maxLen at qg8; omega⟩
                    | 2, _ => exact ⟨_, by simp [World.cell?, hR0], g14, 0, 1 + (n - i), c14, _, rfl, fun j hj => (cL_ch (cons_byt (z := 92) (by decide) hbb)).1 j (by rw [List.length_cons, cl_len]; omega), hlg14.out.stay hb', by omega, by omega, pg14, by unfold maxLen at qg14; omega⟩
                  rw [hx23, hRR]
                  refine hK.out _ _ Hx23.out (fun hHeld' => ?_)
                  clear hK K hHeld hHeld' LLg8_22 hlg14 hb' hx23 hRR hR0
                  have hHeld := Hx23.out
                  clear Hx23
                  (try simp only [Act.put, List.setIfInBounds_toArray, List.set_cons_zero, List.set_cons_succ])
                  refine takeH (i := 16) (v := ?_) (d := (some 50)) rfl (by kernel_rfl) (by kernel_rfl) (by kernel_rfl) rfl (fun _ _ _ h => h) (Or.inl ⟨by kernel_rfl, ?_⟩) (by assumption) ?_; rotate_left
                  · (intro w hSw; (try dsimp only at hSw); first | (go_simp; done) | (go_simp; with_reducible rfl))
                  (try simp only [Act.put, List.setIfInBounds_toArray, List.set_cons_zero, List.set_cons_succ])
                  refine wpAnyH_done (by kernel_rfl) ?_ _
                  go_wp2
                  go_meet
                  case rel => exact ⟨RR, rfl, rfl, rfl, hHeld, HQ.out⟩
                · rw [if_pos (by kernel_rfl)]
                  have hcv : (convert 22 22 (.slice (some ⟨B, 0, none⟩) 1 1)).run Tryd.prog x13 = .ok (.slice (some ⟨B, 0, none⟩) 1 1) (x13.freeze ⟨B, 1, none⟩ 1) := conv_mark hkB.out
                  obtain ⟨x24, hx24⟩ : ∃ x, x13.freeze ⟨B, 1, none⟩ 1 = x := ⟨_, rfl⟩
                  have Hx24 : Hid (Up wr.heap.size wr x24) := by show Up _ _ _; rw [← hx24]; exact hHeld.freeze hoB.out _
                  rw [hx24] at hcv
                  go_simp
                  have LLA_25 : Hid (BC x24 (some ⟨A, 0, none⟩) 1 (cL [38])) := by show BC _ _ _ _; rw [← hx24]; exact LLA_14.out.freeze _ _
                  have LLB_26 : Hid (BC x24 (some ⟨B, 0, none⟩) 1 (cL [92])) := by show BC _ _ _ _; rw [← hx24]; exact hlB.out.freeze _ _
                  refine hK.out _ _ Hx24.out (fun hHeld' => ?_)
                  clear hK K hHeld hHeld' LLA_14 hkB hlB hcv hx24
                  have hHeld := Hx24.out
                  clear Hx24
                  (try simp only [Act.put, List.setIfInBounds_toArray, List.set_cons_zero, List.set_cons_succ])
                  refine wpAnyH_ready (rs := [8]) (by kernel_rfl) (by simp) (AllReadyH.cons rfl (fun K hK => ?_) AllReadyH.nil)
                  rw [if_pos (by kernel_rfl)]
                  refine app1_wp (.tmp 38) (.tmp 41) rfl A 38 rfl LLA_25.out b (off + i) (n - i) (cap - i) (fun j => cL X (i + j)) rfl (HF.out.stay hHeld.1) (by omega) (by omega) ?_
                  intro g8 c8 x27 lg8 pg8 qg8 hb'
                  change K (Act.put _ (some 42) _) _
                  have Hx27 : Hid (Up wr.heap.size wr x27) := hHeld.stay hb'
                  have hlg8 : Hid (BC x27 (some ⟨g8, 0, none⟩) (1 + (n - i)) (cL (38 :: cl (fun j => cL X (i + j)) (n - i)))) := lg8
                  have LLB_28 : Hid (BC x27 (some ⟨B, 0, none⟩) 1 (cL [92])) := LLB_26.out.stay hb'
                  refine hK.out _ _ Hx27.out (fun hHeld' => ?_)
                  clear hK K hHeld hHeld' LLA_25 LLB_26 hb' lg8
                  have hHeld := Hx27.out
                  clear Hx27
                  (try simp only [Act.put, List.setIfInBounds_toArray, List.set_cons_zero, List.set_cons_succ])
                  refine wpAnyH_ready (rs := [14]) (by kernel_rfl) (by simp) (AllReadyH.cons rfl (fun K hK => ?_) AllReadyH.nil)
                  rw [if_pos (by kernel_rfl)]
                  refine app1_wp (.tmp 44) (.tmp 47) rfl B 92 rfl LLB_28.out b (off + i) (n - i) (cap - i) (fun j => cL X (i + j)) rfl (HF.out.stay hHeld.1) (by omega) (by omega) ?_
                  intro g14 c14 x29 lg14 pg14 qg14 hb'
                  change K (Act.put _ (some 48) _) _
                  have Hx29 : Hid (Up wr.heap.size wr x29) := hHeld.stay hb'
                  have hlg14 : Hid (BC x29 (some ⟨g14, 0, none⟩) (1 + (n - i)) (cL (92 :: cl (fun j => cL X (i + j)) (n - i)))) := lg14
                  have LLg8_30 : Hid (BC x29 (some ⟨g8, 0, none⟩) (1 + (n - i)) (cL (38 :: cl (fun j => cL X (i + j)) (n - i)))) := hlg8.out.stay hb'
                  refine hK.out _ _ Hx29.out (fun hHeld' => ?_)
                  clear hK K hHeld hHeld' LLB_28 hlg8 hb' lg14
                  have hHeld := Hx29.out
                  clear Hx29
                  (try simp only [Act.put, List.setIfInBounds_toArray, List.set_cons_zero, List.set_cons_succ])
                  refine wpAnyH_ready (rs := [15]) (by kernel_rfl) (by simp) (AllReadyH.cons rfl (fun K hK => ?_) AllReadyH.nil)
                  rw [if_pos (by kernel_rfl)]
                  go_simp
                  obtain ⟨x31, hx31⟩ : ∃ x, x29.alloc (.cells #[.slice (some ⟨b, off + i, none⟩) (n - i) (cap - i), .slice (some ⟨g8, 0, none⟩) (1 + (n - i)) c8, .slice (some ⟨g14, 0, none⟩) (1 + (n - i)) c14] 22) = x := ⟨_, rfl⟩
                  obtain ⟨RR, hRR⟩ : ∃ A, x29.heap.size = A := ⟨_, rfl⟩
                  have hb' : Below x29.heap.size x29 x31 := by rw [← hx31]; exact below_alloc x29 _
                  have Hx31 : Hid (Up wr.heap.size wr x31) := hHeld.stay hb'
                  have hR0 : x31.heap[RR]? = some (.cells #[.slice (some ⟨b, off + i, none⟩) (n - i) (cap - i), .slice (some ⟨g8, 0, none⟩) (1 + (n - i)) c8, .slice (some ⟨g14, 0, none⟩) (1 + (n - i)) c14] 22) := by rw [← hx31, ← hRR]; exact heap_alloc_new _ _
                  have HQ : Hid (∀ q, q < 3 → ∃ v, x31.cell? ⟨RR, q, none⟩ = some v ∧ BY x31 v) := fun q hq => by
                    have hbb : Byt (cl (fun j => cL X (i + j)) (n - i)) := cl_byt2 HC.out
                    match q, hq with
                    | 0, _ => exact ⟨_, by simp [World.cell?, hR0], b, off + i, n - i, cap - i, _, rfl, HC.out, HF.out.stay Hx31.out.1, by omega, by omega, by omega, by omega⟩
                    | 1, _ => exact ⟨_, by simp [World.cell?, hR0], g8, 0, 1 + (n - i), c8, _, rfl, fun j hj => (cL_ch (cons_byt (z := 38) (by decide) hbb)).1 j (by rw [List.length_cons, cl_len]; omega), LLg8_30.out.stay hb', by omega, by omega, pg8, by unfold maxLen at qg8; omega⟩
                    | 2, _ => exact ⟨_, by simp [World.cell?, hR0], g14, 0, 1 + (n - i), c14, _, rfl, fun j hj => (cL_ch (cons_byt (z := 92) (by decide) hbb)).1 j (by rw [List.length_cons, cl_len]; omega), hlg14.out.stay hb', by omega, by omega, pg14, by unfold maxLen at qg14; omega⟩
                  rw [hx31, hRR]
                  refine hK.out _ _ Hx31.out (fun hHeld' => ?_)
                  clear hK K hHeld hHeld' LLg8_30 hlg14 hb' hx31 hRR hR0
                  have hHeld := Hx31.out
                  clear Hx31
                  (try simp only [Act.put, List.setIfInBounds_toArray, List.set_cons_zero, List.set_cons_succ])
                  refine takeH (i := 16) (v := ?_) (d := (some 50)) rfl (by kernel_rfl) (by kernel_rfl) (by kernel_rfl) rfl (fun _ _ _ h => h) (Or.inl ⟨by kernel_rfl, ?_⟩) (by assumption) ?_; rotate_left
                  · (intro w hSw; (try dsimp only at hSw); first | (go_simp; done) | (go_simp; with_reducible rfl))
                  (try simp only [Act.put, List.setIfInBounds_toArray, List.set_cons_zero, List.set_cons_succ])
                  refine wpAnyH_done (by kernel_rfl) ?_ _
                  go_wp2
                  go_meet
                  case rel => exact ⟨RR, rfl, rfl, rfl, hHeld, HQ.out⟩
            · rw [if_pos (by kernel_rfl)]
              go_simp
              obtain ⟨x32, hx32⟩ : ∃ x, x1.alloc (.cells #[.int .u8 92] 5) = x := ⟨_, rfl⟩
              obtain ⟨B, hB⟩ : ∃ A, x1.heap.size = A := ⟨_, rfl⟩
              have hb' : Below x1.heap.size x1 x32 := by rw [← hx32]; exact below_alloc x1 _
              have Hx32 : Hid (Up wr.heap.size wr x32) := hHeld.stay hb'
              have hkB : Hid (x32.heap[B]? = some (.cells #[.int .u8 92] 5)) := by show _ = _; rw [← hx32, ← hB]; exact heap_alloc_new _ _
              have hlB : Hid (BC x32 (some ⟨B, 0, none⟩) 1 (cL [92])) := by show BC _ _ _ _; rw [← hx32, ← hB]; exact lit_row x1 92
              have hoB : Hid (wr.heap.size ≤ B) := by show _ ≤ _; rw [← hB]; exact hHeld.2
              have hAB : Hid (A ≠ B) := by show _ ≠ _; rw [← hB]; exact Nat.ne_of_lt (lt_of_heap hkA.out)
              have HKA_33 : Hid (x32.heap[A]? = some (.cells #[.int .u8 38] 5)) := blk_stay hkA.out hb'
              have LLA_34 : Hid (BC x32 (some ⟨A, 0, none⟩) 1 (cL [38])) := hlA.out.stay hb'
              rw [hx32, hB]
              refine hK.out _ _ Hx32.out (fun hHeld' => ?_)
              clear hK K hHeld hHeld' hkA hlA hb' hx32 hB
              have hHeld := Hx32.out
              clear Hx32
              (try simp only [Act.put, List.setIfInBounds_toArray, List.set_cons_zero, List.set_cons_succ])
              refine wpAnyH_ready (rs := [4, 10]) (by kernel_rfl) (by simp) (AllReadyH.cons rfl (fun K hK => ?_) (AllReadyH.cons rfl (fun K hK => ?_) AllReadyH.nil))
              · rw [if_pos (by kernel_rfl)]
                have hcv : (convert 22 22 (.slice (some ⟨A, 0, none⟩) 1 1)).run Tryd.prog x32 = .ok (.slice (some ⟨A, 0, none⟩) 1 1) (x32.freeze ⟨A, 1, none⟩ 1) := conv_mark HKA_33.out
                obtain ⟨x35, hx35⟩ : ∃ x, x32.freeze ⟨A, 1, none⟩ 1 = x := ⟨_, rfl⟩
                have Hx35 : Hid (Up wr.heap.size wr x35) := by show Up _ _ _; rw [← hx35]; exact hHeld.freeze hoA.out _
                rw [hx35] at hcv
                go_simp
                have LLA_36 : Hid (BC x35 (some ⟨A, 0, none⟩) 1 (cL [38])) := by show BC _ _ _ _; rw [← hx35]; exact LLA_34.out.freeze _ _
                have HKB_37 : Hid (x35.heap[B]? = some (.cells #[.int .u8 92] 5)) := by show _ = _; rw [← hx35, freeze_blk _ _ _ (show (⟨A, 1, none⟩ : Addr).block ≠ B from hAB.out)]; exact hkB.out
                have LLB_38 : Hid (BC x35 (some ⟨B, 0, none⟩) 1 (cL [92])) := by show BC _ _ _ _; rw [← hx35]; exact hlB.out.freeze _ _
                refine hK.out _ _ Hx35.out (fun hHeld' => ?_)
                clear hK K hHeld hHeld' HKA_33 LLA_34 hkB hlB hcv hx35
                have hHeld := Hx35.out
                clear Hx35
                (try simp only [Act.put, List.setIfInBounds_toArray, List.set_cons_zero, List.set_cons_succ])
                refine wpAnyH_ready (rs := [8, 10]) (by kernel_rfl) (by simp) (AllReadyH.cons rfl (fun K hK => ?_) (AllReadyH.cons rfl (fun K hK => ?_) AllReadyH.nil))
                · rw [if_pos (by kernel_rfl)]
                  refine app1_wp (.tmp 38) (.tmp 41) rfl A 38 rfl LLA_36.out b (off + i) (n - i) (cap - i) (fun j => cL X (i + j)) rfl (HF.out.stay hHeld.1) (by omega) (by omega) ?_
                  intro g8 c8 x39 lg8 pg8 qg8 hb'
                  change K (Act.put _ (some 42) _) _
                  have Hx39 : Hid (Up wr.heap.size wr x39) := hHeld.stay hb'
                  have hlg8 : Hid (BC x39 (some ⟨g8, 0, none⟩) (1 + (n - i)) (cL (38 :: cl (fun j => cL X (i + j)) (n - i)))) := lg8
                  have HKB_40 : Hid (x39.heap[B]? = some (.cells #[.int .u8 92] 5)) := blk_stay HKB_37.out hb'
                  have LLB_41 : Hid (BC x39 (some ⟨B, 0, none⟩) 1 (cL [92])) := LLB_38.out.stay hb'
                  refine hK.out _ _ Hx39.out (fun hHeld' => ?_)
                  clear hK K hHeld hHeld' LLA_36 HKB_37 LLB_38 hb' lg8
                  have hHeld := Hx39.out
                  clear Hx39
                  (try simp only [Act.put, List.setIfInBounds_toArray, List.set_cons_zero, List.set_cons_succ])
                  refine wpAnyH_ready (rs := [10]) (by kernel_rfl) (by simp) (AllReadyH.cons rfl (fun K hK => ?_) AllReadyH.nil)
                  rw [if_pos (by kernel_rfl)]
                  have hcv : (convert 22 22 (.slice (some ⟨B, 0, none⟩) 1 1)).run Tryd.prog x39 = .ok (.slice (some ⟨B, 0, none⟩) 1 1) (x39.freeze ⟨B, 1, none⟩ 1) := conv_mark HKB_40.out
                  obtain ⟨x42, hx42⟩ : ∃ x, x39.freeze ⟨B, 1, none⟩ 1 = x := ⟨_, rfl⟩
                  have Hx42 : Hid (Up wr.heap.size wr x42) := by show Up _ _ _; rw [← hx42]; exact hHeld.freeze hoB.out _
                  rw [hx42] at hcv
                  go_simp
                  have LLB_43 : Hid (BC x42 (some ⟨B, 0, none⟩) 1 (cL [92])) := by show BC _ _ _ _; rw [← hx42]; exact LLB_41.out.freeze _ _
                  have LLg8_44 : Hid (BC x42 (some ⟨g8, 0, none⟩) (1 + (n - i)) (cL (38 :: cl (fun j => cL X (i + j)) (n - i)))) := by show BC _ _ _ _; rw [← hx42]; exact hlg8.out.freeze _ _
                  refine hK.out _ _ Hx42.out (fun hHeld' => ?_)
                  clear hK K hHeld hHeld' HKB_40 LLB_41 hlg8 hcv hx42
                  have hHeld := Hx42.out
                  clear Hx42
                  (try simp only [Act.put, List.setIfInBounds_toArray, List.set_cons_zero, List.set_cons_succ])
                  refine wpAnyH_ready (rs := [14]) (by kernel_rfl) (by simp) (AllReadyH.cons rfl (fun K hK => ?_) AllReadyH.nil)
                  rw [if_pos (by kernel_rfl)]
                  refine app1_wp (.tmp 44) (.tmp 47) rfl B 92 rfl LLB_43.out b (off + i) (n - i) (cap - i) (fun j => cL X (i + j)) rfl (HF.out.stay hHeld.1) (by omega) (by omega) ?_
                  intro g14 c14 x45 lg14 pg14 qg14 hb'
                  change K (Act.put _ (some 48) _) _
                  have Hx45 : Hid (Up wr.heap.size wr x45) := hHeld.stay hb'
                  have hlg14 : Hid (BC x45 (some ⟨g14, 0, none⟩) (1 + (n - i)) (cL (92 :: cl (fun j => cL X (i + j)) (n - i)))) := lg14
                  have LLg8_46 : Hid (BC x45 (some ⟨g8, 0, none⟩) (1 + (n - i)) (cL (38 :: cl (fun j => cL X (i + j)) (n - i)))) := LLg8_44.out.stay hb'
                  refine hK.out _ _ Hx45.out (fun hHeld' => ?_)
                  clear hK K hHeld hHeld' LLB_43 LLg8_44 hb' lg14
                  have hHeld := Hx45.out
                  clear Hx45
                  (try simp only [Act.put, List.setIfInBounds_toArray, List.set_cons_zero, List.set_cons_succ])
                  refine wpAnyH_ready (rs := [15]) (by kernel_rfl) (by simp) (AllReadyH.cons rfl (fun K hK => ?_) AllReadyH.nil)
                  rw [if_pos (by kernel_rfl)]
                  go_simp
                  obtain ⟨x47, hx47⟩ : ∃ x, x45.alloc (.cells #[.slice (some ⟨b, off + i, none⟩) (n - i) (cap - i), .slice (some ⟨g8, 0, none⟩) (1 + (n - i)) c8, .slice (some ⟨g14, 0, none⟩) (1 + (n - i)) c14] 22) = x := ⟨_, rfl⟩
                  obtain ⟨RR, hRR⟩ : ∃ A, x45.heap.size = A := ⟨_, rfl⟩
                  have hb' : Below x45.heap.size x45 x47 := by rw [← hx47]; exact below_alloc x45 _
                  have Hx47 : Hid (Up wr.heap.size wr x47) := hHeld.stay hb'
                  have hR0 : x47.heap[RR]? = some (.cells #[.slice (some ⟨b, off + i, none⟩) (n - i) (cap - i), .slice (some ⟨g8, 0, none⟩) (1 + (n - i)) c8, .slice (some ⟨g14, 0, none⟩) (1 + (n - i)) c14] 22) := by rw [← hx47, ← hRR]; exact heap_alloc_new _ _
                  have HQ : Hid (∀ q, q < 3 → ∃ v, x47.cell? ⟨RR, q, none⟩ = some v ∧ BY x47 v) := fun q hq => by
                    have hbb : Byt (cl (fun j => cL X (i + j)) (n - i)) := cl_byt2 HC.out
                    match q, hq with
                    | 0, _ => exact ⟨_, by simp [World.cell?, hR0], b, off + i, n - i, cap - i, _, rfl, HC.out, HF.out.stay Hx47.out.1, by omega, by omega, by omega, by omega⟩
                    | 1, _ => exact ⟨_, by simp [World.cell?, hR0], g8, 0, 1 + (n - i), c8, _, rfl, fun j hj => (cL_ch (cons_byt (z := 38) (by decide) hbb)).1 j (by rw [List.length_cons, cl_len]; omega), LLg8_46.out.stay hb', by omega, by omega, pg8, by unfold maxLen at qg8; omega⟩
                    | 2, _ => exact ⟨_, by simp [World.cell?, hR0], g14, 0, 1 + (n - i), c14, _, rfl, fun j hj => (cL_ch (cons_byt (z := 92) (by decide) hbb)).1 j (by rw [List.length_cons, cl_len]; omega), hlg14.out.stay hb', by omega, by omega, pg14, by unfold maxLen at qg14; omega⟩
                  rw [hx47, hRR]
                  refine hK.out _ _ Hx47.out (fun hHeld' => ?_)
                  clear hK K hHeld hHeld' LLg8_46 hlg14 hb' hx47 hRR hR0
                  have hHeld := Hx47.out
                  clear Hx47
                  (try simp only [Act.put, List.setIfInBounds_toArray, List.set_cons_zero, List.set_cons_succ])
                  refine takeH (i := 16) (v := ?_) (d := (some 50)) rfl (by kernel_rfl) (by kernel_rfl) (by kernel_rfl) rfl (fun _ _ _ h => h) (Or.inl ⟨by kernel_rfl, ?_⟩) (by assumption) ?_; rotate_left
                  · (intro w hSw; (try dsimp only at hSw); first | (go_simp; done) | (go_simp; with_reducible rfl))
                  (try simp only [Act.put, List.setIfInBounds_toArray, List.set_cons_zero, List.set_cons_succ])
                  refine wpAnyH_done (by kernel_rfl) ?_ _
                  go_wp2
                  go_meet
                  case rel => exact ⟨RR, rfl, rfl, rfl, hHeld, HQ.out⟩
                · rw [if_pos (by kernel_rfl)]
                  have hcv : (convert 22 22 (.slice (some ⟨B, 0, none⟩) 1 1)).run Tryd.prog x35 = .ok (.slice (some ⟨B, 0, none⟩) 1 1) (x35.freeze ⟨B, 1, none⟩ 1) := conv_mark HKB_37.out
                  obtain ⟨x48, hx48⟩ : ∃ x, x35.freeze ⟨B, 1, none⟩ 1 = x := ⟨_, rfl⟩
                  have Hx48 : Hid (Up wr.heap.size wr x48) := by show Up _ _ _; rw [← hx48]; exact hHeld.freeze hoB.out _
                  rw [hx48] at hcv
                  go_simp
                  have LLA_49 : Hid (BC x48 (some ⟨A, 0, none⟩) 1 (cL [38])) := by show BC _ _ _ _; rw [← hx48]; exact LLA_36.out.freeze _ _
                  have LLB_50 : Hid (BC x48 (some ⟨B, 0, none⟩) 1 (cL [92])) := by show BC _ _ _ _; rw [← hx48]; exact LLB_38.out.freeze _ _
                  refine hK.out _ _ Hx48.out (fun hHeld' => ?_)
                  clear hK K hHeld hHeld' LLA_36 HKB_37 LLB_38 hcv hx48
                  have hHeld := Hx48.out
                  clear Hx48
                  (try simp only [Act.put, List.setIfInBounds_toArray, List.set_cons_zero, List.set_cons_succ])
                  refine wpAnyH_ready (rs := [8]) (by kernel_rfl) (by simp) (AllReadyH.cons rfl (fun K hK => ?_) AllReadyH.nil)
                  rw [if_pos (by kernel_rfl)]
                  refine app1_wp (.tmp 38) (.tmp 41) rfl A 38 rfl LLA_49.out b (off + i) (n - i) (cap - i) (fun j => cL X (i + j)) rfl (HF.out.stay hHeld.1) (by omega) (by omega) ?_
                  intro g8 c8 x51 lg8 pg8 qg8 hb'
                  change K (Act.put _ (some 42) _) _
                  have Hx51 : Hid (Up wr.heap.size wr x51) := hHeld.stay hb'
                  have hlg8 : Hid (BC x51 (some ⟨g8, 0, none⟩) (1 + (n - i)) (cL (38 :: cl (fun j => cL X (i + j)) (n - i)))) := lg8
                  have LLB_52 : Hid (BC x51 (some ⟨B, 0, none⟩) 1 (cL [92])) := LLB_50.out.stay hb'
                  refine hK.out _ _ Hx51.out (fun hHeld' => ?_)
                  clear hK K hHeld hHeld' LLA_49 LLB_50 hb' lg8
                  have hHeld := Hx51.out
                  clear Hx51
                  (try simp only [Act.put, List.setIfInBounds_toArray, List.set_cons_zero, List.set_cons_succ])
                  refine wpAnyH_ready (rs := [14]) (by kernel_rfl) (by simp) (AllReadyH.cons rfl (fun K hK => ?_) AllReadyH.nil)
                  rw [if_pos (by kernel_rfl)]
                  refine app1_wp (.tmp 44) (.tmp 47) rfl B 92 rfl LLB_52.out b (off + i) (n - i) (cap - i) (fun j => cL X (i + j)) rfl (HF.out.stay hHeld.1) (by omega) (by omega) ?_
                  intro g14 c14 x53 lg14 pg14 qg14 hb'
                  change K (Act.put _ (some 48) _) _
                  have Hx53 : Hid (Up wr.heap.size wr x53) := hHeld.stay hb'
                  have hlg14 : Hid (BC x53 (some ⟨g14, 0, none⟩) (1 + (n - i)) (cL (92 :: cl (fun j => cL X (i + j)) (n - i)))) := lg14
                  have LLg8_54 : Hid (BC x53 (some ⟨g8, 0, none⟩) (1 + (n - i)) (cL (38 :: cl (fun j => cL X (i + j)) (n - i)))) := hlg8.out.stay hb'
                  refine hK.out _ _ Hx53.out (fun hHeld' => ?_)
                  clear hK K hHeld hHeld' LLB_52 hlg8 hb' lg14
                  have hHeld := Hx53.out
                  clear Hx53
                  (try simp only [Act.put, List.setIfInBounds_toArray, List.set_cons_zero, List.set_cons_succ])
                  refine wpAnyH_ready (rs := [15]) (by kernel_rfl) (by simp) (AllReadyH.cons rfl (fun K hK => ?_) AllReadyH.nil)
                  rw [if_pos (by kernel_rfl)]
                  go_simp
                  obtain ⟨x55, hx55⟩ : ∃ x, x53.alloc (.cells #[.slice (some ⟨b, off + i, none⟩) (n - i) (cap - i), .slice (some ⟨g8, 0, none⟩) (1 + (n - i)) c8, .slice (some ⟨g14, 0, none⟩) (1 + (n - i)) c14] 22) = x := ⟨_, rfl⟩
                  obtain ⟨RR, hRR⟩ : ∃ A, x53.heap.size = A := ⟨_, rfl⟩
                  have hb' : Below x53.heap.size x53 x55 := by rw [← hx55]; exact below_alloc x53 _
                  have Hx55 : Hid (Up wr.heap.size wr x55) := hHeld.stay hb'
                  have hR0 : x55.heap[RR]? = some (.cells #[.slice (some ⟨b, off + i, none⟩) (n - i) (cap - i), .slice (some ⟨g8, 0, none⟩) (1 + (n - i)) c8, .slice (some ⟨g14, 0, none⟩) (1 + (n - i)) c14] 22) := by rw [← hx55, ← hRR]; exact heap_alloc_new _ _
                  have HQ : Hid (∀ q, q < 3 → ∃ v, x55.cell? ⟨RR, q, none⟩ = some v ∧ BY x55 v) := fun q hq => by
                    have hbb : Byt (cl (fun j => cL X (i + j)) (n - i)) := cl_byt2 HC.out
                    match q, hq with
                    | 0, _ => exact ⟨_, by simp [World.cell?, hR0], b, off + i, n - i, cap - i, _, rfl, HC.out, HF.out.stay Hx55.out.1, by omega, by omega, by omega, by omega⟩
                    | 1, _ => exact ⟨_, by simp [World.cell?, hR0], g8, 0, 1 + (n - i), c8, _, rfl, fun j hj => (cL_ch (cons_byt (z := 38) (by decide) hbb)).1 j (by rw [List.length_cons, cl_len]; omega), LLg8_54.out.stay hb', by omega, by omega, pg8, by unfold maxLen at qg8; omega⟩
                    | 2, _ => exact ⟨_, by simp [World.cell?, hR0], g14, 0, 1 + (n - i), c14, _, rfl, fun j hj => (cL_ch (cons_byt (z := 92) (by decide) hbb)).1 j (by rw [List.length_cons, cl_len]; omega), hlg14.out.stay hb', by omega, by omega, pg14, by unfold maxLen at qg14; omega⟩
                  rw [hx55, hRR]
                  refine hK.out _ _ Hx55.out (fun hHeld' => ?_)
                  clear hK K hHeld hHeld' LLg8_54 hlg14 hb' hx55 hRR hR0
                  have hHeld := Hx55.out
                  clear Hx55
                  (try simp only [Act.put, List.setIfInBounds_toArray, List.set_cons_zero, List.set_cons_succ])
                  refine takeH (i := 16) (v := ?_) (d := (some 50)) rfl (by kernel_rfl) (by kernel_rfl) (by kernel_rfl) rfl (fun _ _ _ h => h) (Or.inl ⟨by kernel_rfl, ?_⟩) (by assumption) ?_; rotate_left
                  · (intro w hSw; (try dsimp only at hSw); first | (go_simp; done) | (go_simp; with_reducible rfl))
                  (try simp only [Act.put, List.setIfInBounds_toArray, List.set_cons_zero, List.set_cons_succ])
                  refine wpAnyH_done (by kernel_rfl) ?_ _
                  go_wp2
                  go_meet
                  case rel => exact ⟨RR, rfl, rfl, rfl, hHeld, HQ.out⟩
              · rw [if_pos (by kernel_rfl)]
                have hcv : (convert 22 22 (.slice (some ⟨B, 0, none⟩) 1 1)).run Tryd.prog x32 = .ok (.slice (some ⟨B, 0, none⟩) 1 1) (x32.freeze ⟨B, 1, none⟩ 1) := conv_mark hkB.out
                obtain ⟨x56, hx56⟩ : ∃ x, x32.freeze ⟨B, 1, none⟩ 1 = x := ⟨_, rfl⟩
                have Hx56 : Hid (Up wr.heap.size wr x56) := by show Up _ _ _; rw [← hx56]; exact hHeld.freeze hoB.out _
                rw [hx56] at hcv
                go_simp
                have HKA_57 : Hid (x56.heap[A]? = some (.cells #[.int .u8 38] 5)) := by show _ = _; rw [← hx56, freeze_blk _ _ _ (show (⟨B, 1, none⟩ : Addr).block ≠ A from hAB.out.symm)]; exact HKA_33.out
                have LLA_58 : Hid (BC x56 (some ⟨A, 0, none⟩) 1 (cL [38])) := by show BC _ _ _ _; rw [← hx56]; exact LLA_34.out.freeze _ _
                have LLB_59 : Hid (BC x56 (some ⟨B, 0, none⟩) 1 (cL [92])) := by show BC _ _ _ _; rw [← hx56]; exact hlB.out.freeze _ _
                refine hK.out _ _ Hx56.out (fun hHeld' => ?_)
                clear hK K hHeld hHeld' HKA_33 LLA_34 hkB hlB hcv hx56
                have hHeld := Hx56.out
                clear Hx56
                (try simp only [Act.put, List.setIfInBounds_toArray, List.set_cons_zero, List.set_cons_succ])
                refine wpAnyH_ready (rs := [4]) (by kernel_rfl) (by simp) (AllReadyH.cons rfl (fun K hK => ?_) AllReadyH.nil)
                rw [if_pos (by kernel_rfl)]
                have hcv : (convert 22 22 (.slice (some ⟨A, 0, none⟩) 1 1)).run Tryd.prog x56 = .ok (.slice (some ⟨A, 0, none⟩) 1 1) (x56.freeze ⟨A, 1, none⟩ 1) := conv_mark HKA_57.out
                obtain ⟨x60, hx60⟩ : ∃ x, x56.freeze ⟨A, 1, none⟩ 1 = x := ⟨_, rfl⟩
                have Hx60 : Hid (Up wr.heap.size wr x60) := by show Up _ _ _; rw [← hx60]; exact hHeld.freeze hoA.out _
                rw [hx60] at hcv
                go_simp
                have LLA_61 : Hid (BC x60 (some ⟨A, 0, none⟩) 1 (cL [38])) := by show BC _ _ _ _; rw [← hx60]; exact LLA_58.out.freeze _ _
                have LLB_62 : Hid (BC x60 (some ⟨B, 0, none⟩) 1 (cL [92])) := by show BC _ _ _ _; rw [← hx60]; exact LLB_59.out.freeze _ _
                refine hK.out _ _ Hx60.out (fun hHeld' => ?_)
                clear hK K hHeld hHeld' HKA_57 LLA_58 LLB_59 hcv hx60
                have hHeld := Hx60.out
                clear Hx60
                (try simp only [Act.put, List.setIfInBounds_toArray, List.set_cons_zero, List.set_cons_succ])
                refine wpAnyH_ready (rs := [8]) (by kernel_rfl) (by simp) (AllReadyH.cons rfl (fun K hK => ?_) AllReadyH.nil)
                rw [if_pos (by kernel_rfl)]
                refine app1_wp (.tmp 38) (.tmp 41) rfl A 38 rfl LLA_61.out b (off + i) (n - i) (cap - i) (fun j => cL X (i + j)) rfl (HF.out.stay hHeld.1) (by omega) (by omega) ?_
                intro g8 c8 x63 lg8 pg8 qg8 hb'
                change K (Act.put _ (some 42) _) _
                have Hx63 : Hid (Up wr.heap.size wr x63) := hHeld.stay hb'
                have hlg8 : Hid (BC x63 (some ⟨g8, 0, none⟩) (1 + (n - i)) (cL (38 :: cl (fun j => cL X (i + j)) (n - i)))) := lg8
                have LLB_64 : Hid (BC x63 (some ⟨B, 0, none⟩) 1 (cL [92])) := LLB_62.out.stay hb'
                refine hK.out _ _ Hx63.out (fun hHeld' => ?_)
                clear hK K hHeld hHeld' LLA_61 LLB_62 hb' lg8
                have hHeld := Hx63.out
                clear Hx63
                (try simp only [Act.put, List.setIfInBounds_toArray, List.set_cons_zero, List.set_cons_succ])
                refine wpAnyH_ready (rs := [14]) (by kernel_rfl) (by simp) (AllReadyH.cons rfl (fun K hK => ?_) AllReadyH.nil)
                rw [if_pos (by kernel_rfl)]
                refine app1_wp (.tmp 44) (.tmp 47) rfl B 92 rfl LLB_64.out b (off + i) (n - i) (cap - i) (fun j => cL X (i + j)) rfl (HF.out.stay hHeld.1) (by omega) (by omega) ?_
                intro g14 c14 x65 lg14 pg14 qg14 hb'
                change K (Act.put _ (some 48) _) _
                have Hx65 : Hid (Up wr.heap.size wr x65) := hHeld.stay hb'
                have hlg14 : Hid (BC x65 (some ⟨g14, 0, none⟩) (1 + (n - i)) (cL (92 :: cl (fun j => cL X (i + j)) (n - i)))) := lg14
                have LLg8_66 : Hid (BC x65 (some ⟨g8, 0, none⟩) (1 + (n - i)) (cL (38 :: cl (fun j => cL X (i + j)) (n - i)))) := hlg8.out.stay hb'
                refine hK.out _ _ Hx65.out (fun hHeld' => ?_)
                clear hK K hHeld hHeld' LLB_64 hlg8 hb' lg14
                have hHeld := Hx65.out
                clear Hx65
                (try simp only [Act.put, List.setIfInBounds_toArray, List.set_cons_zero, List.set_cons_succ])
                refine wpAnyH_ready (rs := [15]) (by kernel_rfl) (by simp) (AllReadyH.cons rfl (fun K hK => ?_) AllReadyH.nil)
                rw [if_pos (by kernel_rfl)]
                go_simp
                obtain ⟨x67, hx67⟩ : ∃ x, x65.alloc (.cells #[.slice (some ⟨b, off + i, none⟩) (n - i) (cap - i), .slice (some ⟨g8, 0, none⟩) (1 + (n - i)) c8, .slice (some ⟨g14, 0, none⟩) (1 + (n - i)) c14] 22) = x := ⟨_, rfl⟩
                obtain ⟨RR, hRR⟩ : ∃ A, x65.heap.size = A := ⟨_, rfl⟩
                have hb' : Below x65.heap.size x65 x67 := by rw [← hx67]; exact below_alloc x65 _
                have Hx67 : Hid (Up wr.heap.size wr x67) := hHeld.stay hb'
                have hR0 : x67.heap[RR]? = some (.cells #[.slice (some ⟨b, off + i, none⟩) (n - i) (cap - i), .slice (some ⟨g8, 0, none⟩) (1 + (n - i)) c8, .slice (some ⟨g14, 0, none⟩) (1 + (n - i)) c14] 22) := by rw [← hx67, ← hRR]; exact heap_alloc_new _ _
                have HQ : Hid (∀ q, q < 3 → ∃ v, x67.cell? ⟨RR, q, none⟩ = some v ∧ BY x67 v) := fun q hq => by
                  have hbb : Byt (cl (fun j => cL X (i + j)) (n - i)) := cl_byt2 HC.out
                  match q, hq with
                  | 0, _ => exact ⟨_, by simp [World.cell?, hR0], b, off + i, n - i, cap - i, _, rfl, HC.out, HF.out.stay Hx67.out.1, by omega, by omega, by omega, by omega⟩
                  | 1, _ => exact ⟨_, by simp [World.cell?, hR0], g8, 0, 1 + (n - i), c8, _, rfl, fun j hj => (cL_ch (cons_byt (z := 38) (by decide) hbb)).1 j (by rw [List.length_cons, cl_len]; omega), LLg8_66.out.stay hb', by omega, by omega, pg8, by unfold maxLen at qg8; omega⟩
                  | 2, _ => exact ⟨_, by simp [World.cell?, hR0], g14, 0, 1 + (n - i), c14, _, rfl, fun j hj => (cL_ch (cons_byt (z := 92) (by decide) hbb)).1 j (by rw [List.length_cons, cl_len]; omega), hlg14.out.stay hb', by omega, by omega, pg14, by unfold maxLen at qg14; omega⟩
                rw [hx67, hRR]
                refine hK.out _ _ Hx67.out (fun hHeld' => ?_)
                clear hK K hHeld hHeld' LLg8_66 hlg14 hb' hx67 hRR hR0
                have hHeld := Hx67.out
                clear Hx67
                (try simp only [Act.put, List.setIfInBounds_toArray, List.set_cons_zero, List.set_cons_succ])
                refine takeH (i := 16) (v := ?_) (d := (some 50)) rfl (by kernel_rfl) (by kernel_rfl) (by kernel_rfl) rfl (fun _ _ _ h => h) (Or.inl ⟨by kernel_rfl, ?_⟩) (by assumption) ?_; rotate_left
                · (intro w hSw; (try dsimp only at hSw); first | (go_simp; done) | (go_simp; with_reducible rfl))
                (try simp only [Act.put, List.setIfInBounds_toArray, List.set_cons_zero, List.set_cons_succ])
                refine wpAnyH_done (by kernel_rfl) ?_ _
                go_wp2
                go_meet
                case rel => exact ⟨RR, rfl, rfl, rfl, hHeld, HQ.out⟩
          · rw [if_pos (by kernel_rfl)]
            go_simp
            obtain ⟨x68, hx68⟩ : ∃ x, x0.alloc (.cells #[.int .u8 92] 5) = x := ⟨_, rfl⟩
            obtain ⟨B, hB⟩ : ∃ A, x0.heap.size = A := ⟨_, rfl⟩
            have hb' : Below x0.heap.size x0 x68 := by rw [← hx68]; exact below_alloc x0 _
            have Hx68 : Hid (Up wr.heap.size wr x68) := hHeld.stay hb'
            have hkB : Hid (x68.heap[B]? = some (.cells #[.int .u8 92] 5)) := by show _ = _; rw [← hx68, ← hB]; exact heap_alloc_new _ _
            have hlB : Hid (BC x68 (some ⟨B, 0, none⟩) 1 (cL [92])) := by show BC _ _ _ _; rw [← hx68, ← hB]; exact lit_row x0 92
            have hoB : Hid (wr.heap.size ≤ B) := by show _ ≤ _; rw [← hB]; exact hHeld.2
            rw [hx68, hB]
            refine hK.out _ _ Hx68.out (fun hHeld' => ?_)
            clear hK K hHeld hHeld'  hb' hx68 hB
            have hHeld := Hx68.out
            clear Hx68
            (try simp only [Act.put, List.setIfInBounds_toArray, List.set_cons_zero, List.set_cons_succ])
            refine wpAnyH_ready (rs := [3, 10]) (by kernel_rfl) (by simp) (AllReadyH.cons rfl (fun K hK => ?_) (AllReadyH.cons rfl (fun K hK => ?_) AllReadyH.nil))
            · rw [if_pos (by kernel_rfl)]
              go_simp
              obtain ⟨x69, hx69⟩ : ∃ x, x68.alloc (.cells #[.int .u8 38] 5) = x := ⟨_, rfl⟩
              obtain ⟨A, hA⟩ : ∃ A, x68.heap.size = A := ⟨_, rfl⟩
              have hb' : Below x68.heap.size x68 x69 := by rw [← hx69]; exact below_alloc x68 _
              have Hx69 : Hid (Up wr.heap.size wr x69) := hHeld.stay hb'
              have hkA : Hid (x69.heap[A]? = some (.cells #[.int .u8 38] 5)) := by show _ = _; rw [← hx69, ← hA]; exact heap_alloc_new _ _
              have hlA : Hid (BC x69 (some ⟨A, 0, none⟩) 1 (cL [38])) := by show BC _ _ _ _; rw [← hx69, ← hA]; exact lit_row x68 38
              have hoA : Hid (wr.heap.size ≤ A) := by show _ ≤ _; rw [← hA]; exact hHeld.2
              have hAB : Hid (B ≠ A) := by show _ ≠ _; rw [← hA]; exact Nat.ne_of_lt (lt_of_heap hkB.out)
              have HKB_70 : Hid (x69.heap[B]? = some (.cells #[.int .u8 92] 5)) := blk_stay hkB.out hb'
              have LLB_71 : Hid (BC x69 (some ⟨B, 0, none⟩) 1 (cL [92])) := hlB.out.stay hb'
              rw [hx69, hA]
              refine hK.out _ _ Hx69.out (fun hHeld' => ?_)
              clear hK K hHeld hHeld' hkB hlB hb' hx69 hA
              have hHeld := Hx69.out
              clear Hx69
              (try simp only [Act.put, List.setIfInBounds_toArray, List.set_cons_zero, List.set_cons_succ])
              refine wpAnyH_ready (rs := [4, 10]) (by kernel_rfl) (by simp) (AllReadyH.cons rfl (fun K hK => ?_) (AllReadyH.cons rfl (fun K hK => ?_) AllReadyH.nil))
              · rw [if_pos (by kernel_rfl)]
                have hcv : (convert 22 22 (.slice (some ⟨A, 0, none⟩) 1 1)).run Tryd.prog x69 = .ok (.slice (some ⟨A, 0, none⟩) 1 1) (x69.freeze ⟨A, 1, none⟩ 1) := conv_mark hkA.out
                obtain ⟨x72, hx72⟩ : ∃ x, x69.freeze ⟨A, 1, none⟩ 1 = x := ⟨_, rfl⟩
                have Hx72 : Hid (Up wr.heap.size wr x72) := by show Up _ _ _; rw [← hx72]; exact hHeld.freeze hoA.out _
                rw [hx72] at hcv
                go_simp
                have HKB_73 : Hid (x72.heap[B]? = some (.cells #[.int .u8 92] 5)) := by show _ = _; rw [← hx72, freeze_blk _ _ _ (show (⟨A, 1, none⟩ : Addr).block ≠ B from hAB.out.symm)]; exact HKB_70.out
                have LLB_74 : Hid (BC x72 (some ⟨B, 0, none⟩) 1 (cL [92])) := by show BC _ _ _ _; rw [← hx72]; exact LLB_71.out.freeze _ _
                have LLA_75 : Hid (BC x72 (some ⟨A, 0, none⟩) 1 (cL [38])) := by show BC _ _ _ _; rw [← hx72]; exact hlA.out.freeze _ _
                refine hK.out _ _ Hx72.out (fun hHeld' => ?_)
                clear hK K hHeld hHeld' HKB_70 LLB_71 hkA hlA hcv hx72
                have hHeld := Hx72.out
                clear Hx72
                (try simp only [Act.put, List.setIfInBounds_toArray, List.set_cons_zero, List.set_cons_succ])
                refine wpAnyH_ready (rs := [8, 10]) (by kernel_rfl) (by simp) (AllReadyH.cons rfl (fun K hK => ?_) (AllReadyH.cons rfl (fun K hK => ?_) AllReadyH.nil))
                · rw [if_pos (by kernel_rfl)]
                  refine app1_wp (.tmp 38) (.tmp 41) rfl A 38 rfl LLA_75.out b (off + i) (n - i) (cap - i) (fun j => cL X (i + j)) rfl (HF.out.stay hHeld.1) (by omega) (by omega) ?_
                  intro g8 c8 x76 lg8 pg8 qg8 hb'
                  change K (Act.put _ (some 42) _) _
                  have Hx76 : Hid (Up wr.heap.size wr x76) := hHeld.stay hb'
                  have hlg8 : Hid (BC x76 (some ⟨g8, 0, none⟩) (1 + (n - i)) (cL (38 :: cl (fun j => cL X (i + j)) (n - i)))) := lg8
                  have HKB_77 : Hid (x76.heap[B]? = some (.cells #[.int .u8 92] 5)) := blk_stay HKB_73.out hb'
                  have LLB_78 : Hid (BC x76 (some ⟨B, 0, none⟩) 1 (cL [92])) := LLB_74.out.stay hb'
                  refine hK.out _ _ Hx76.out (fun hHeld' => ?_)
                  clear hK K hHeld hHeld' HKB_73 LLB_74 LLA_75 hb' lg8
                  have hHeld := Hx76.out
                  clear Hx76
                  (try simp only [Act.put, List.setIfInBounds_toArray, List.set_cons_zero, List.set_cons_succ])
                  refine wpAnyH_ready (rs := [10]) (by kernel_rfl) (by simp) (AllReadyH.cons rfl (fun K hK => ?_) AllReadyH.nil)
                  rw [if_pos (by kernel_rfl)]
                  have hcv : (convert 22 22 (.slice (some ⟨B, 0, none⟩) 1 1)).run Tryd.prog x76 = .ok (.slice (some ⟨B, 0, none⟩) 1 1) (x76.freeze ⟨B, 1, none⟩ 1) := conv_mark HKB_77.out
                  obtain ⟨x79, hx79⟩ : ∃ x, x76.freeze ⟨B, 1, none⟩ 1 = x := ⟨_, rfl⟩
                  have Hx79 : Hid (Up wr.heap.size wr x79) := by show Up _ _ _; rw [← hx79]; exact hHeld.freeze hoB.out _
                  rw [hx79] at hcv
                  go_simp
                  have LLB_80 : Hid (BC x79 (some ⟨B, 0, none⟩) 1 (cL [92])) := by show BC _ _ _ _; rw [← hx79]; exact LLB_78.out.freeze _ _
                  have LLg8_81 : Hid (BC x79 (some ⟨g8, 0, none⟩) (1 + (n - i)) (cL (38 :: cl (fun j => cL X (i + j)) (n - i)))) := by show BC _ _ _ _; rw [← hx79]; exact hlg8.out.freeze _ _
                  refine hK.out _ _ Hx79.out (fun hHeld' => ?_)
                  clear hK K hHeld hHeld' HKB_77 LLB_78 hlg8 hcv hx79
                  have hHeld := Hx79.out
                  clear Hx79
                  (try simp only [Act.put, List.setIfInBounds_toArray, List.set_cons_zero, List.set_cons_succ])
                  refine wpAnyH_ready (rs := [14]) (by kernel_rfl) (by simp) (AllReadyH.cons rfl (fun K hK => ?_) AllReadyH.nil)
                  rw [if_pos (by kernel_rfl)]
                  refine app1_wp (.tmp 44) (.tmp 47) rfl B 92 rfl LLB_80.out b (off + i) (n - i) (cap - i) (fun j => cL X (i + j)) rfl (HF.out.stay hHeld.1) (by omega) (by omega) ?_
                  intro g14 c14 x82 lg14 pg14 qg14 hb'
                  change K (Act.put _ (some 48) _) _
                  have Hx82 : Hid (Up wr.heap.size wr x82) := hHeld.stay hb'
                  have hlg14 : Hid (BC x82 (some ⟨g14, 0, none⟩) (1 + (n - i)) (cL (92 :: cl (fun j => cL X (i + j)) (n - i)))) := lg14
                  have LLg8_83 : Hid (BC x82 (some ⟨g8, 0, none⟩) (1 + (n - i)) (cL (38 :: cl (fun j => cL X (i + j)) (n - i)))) := LLg8_81.out.stay hb'
                  refine hK.out _ _ Hx82.out (fun hHeld' => ?_)
                  clear hK K hHeld hHeld' LLB_80 LLg8_81 hb' lg14
                  have hHeld := Hx82.out
                  clear Hx82
                  (try simp only [Act.put, List.setIfInBounds_toArray, List.set_cons_zero, List.set_cons_succ])
                  refine wpAnyH_ready (rs := [15]) (by kernel_rfl) (by simp) (AllReadyH.cons rfl (fun K hK => ?_) AllReadyH.nil)
                  rw [if_pos (by kernel_rfl)]
                  go_simp
                  obtain ⟨x84, hx84⟩ : ∃ x, x82.alloc (.cells #[.slice (some ⟨b, off + i, none⟩) (n - i) (cap - i), .slice (some ⟨g8, 0, none⟩) (1 + (n - i)) c8, .slice (some ⟨g14, 0, none⟩) (1 + (n - i)) c14] 22) = x := ⟨_, rfl⟩
                  obtain ⟨RR, hRR⟩ : ∃ A, x82.heap.size = A := ⟨_, rfl⟩
                  have hb' : Below x82.heap.size x82 x84 := by rw [← hx84]; exact below_alloc x82 _
                  have Hx84 : Hid (Up wr.heap.size wr x84) := hHeld.stay hb'
                  have hR0 : x84.heap[RR]? = some (.cells #[.slice (some ⟨b, off + i, none⟩) (n - i) (cap - i), .slice (some ⟨g8, 0, none⟩) (1 + (n - i)) c8, .slice (some ⟨g14, 0, none⟩) (1 + (n - i)) c14] 22) := by rw [← hx84, ← hRR]; exact heap_alloc_new _ _
                  have HQ : Hid (∀ q, q < 3 → ∃ v, x84.cell? ⟨RR, q, none⟩ = some v ∧ BY x84 v) := fun q hq => by
                    have hbb : Byt (cl (fun j => cL X (i + j)) (n - i)) := cl_byt2 HC.out
                    match q, hq with
                    | 0, _ => exact ⟨_, by simp [World.cell?, hR0], b, off + i, n - i, cap - i, _, rfl, HC.out, HF.out.stay Hx84.out.1, by omega, by omega, by omega, by omega⟩
                    | 1, _ => exact ⟨_, by simp [World.cell?, hR0], g8, 0, 1 + (n - i), c8, _, rfl, fun j hj => (cL_ch (cons_byt (z := 38) (by decide) hbb)).1 j (by rw [List.length_cons, cl_len]; omega), LLg8_83.out.stay hb', by omega, by omega, pg8, by unfold maxLen at qg8; omega⟩
                    | 2, _ => exact ⟨_, by simp [World.cell?, hR0], g14, 0, 1 + (n - i), c14, _, rfl, fun j hj => (cL_ch (cons_byt (z := 92) (by decide) hbb)).1 j (by rw [List.length_cons, cl_len]; omega), hlg14.out.stay hb', by omega, by omega, pg14, by unfold maxLen at qg14; omega⟩
                  rw [hx84, hRR]
                  refine hK.out _ _ Hx84.out (fun hHeld' => ?_)
                  clear hK K hHeld hHeld' LLg8_83 hlg14 hb' hx84 hRR hR0
                  have hHeld := Hx84.out
                  clear Hx84
                  (try simp only [Act.put, List.setIfInBounds_toArray, List.set_cons_zero, List.set_cons_succ])
                  refine takeH (i := 16) (v := ?_) (d := (some 50)) rfl (by kernel_rfl) (by kernel_rfl) (by kernel_rfl) rfl (fun _ _ _ h => h) (Or.inl ⟨by kernel_rfl, ?_⟩) (by assumption) ?_; rotate_left
                  · (intro w hSw; (try dsimp only at hSw); first | (go_simp; done) | (go_simp; with_reducible rfl))
                  (try simp only [Act.put, List.setIfInBounds_toArray, List.set_cons_zero, List.set_cons_succ])
                  refine wpAnyH_done (by kernel_rfl) ?_ _
                  go_wp2
                  go_meet
                  case rel => exact ⟨RR, rfl, rfl, rfl, hHeld, HQ.out⟩
                · rw [if_pos (by kernel_rfl)]
                  have hcv : (convert 22 22 (.slice (some ⟨B, 0, none⟩) 1 1)).run Tryd.prog x72 = .ok (.slice (some ⟨B, 0, none⟩) 1 1) (x72.freeze ⟨B, 1, none⟩ 1) := conv_mark HKB_73.out
                  obtain ⟨x85, hx85⟩ : ∃ x, x72.freeze ⟨B, 1, none⟩ 1 = x := ⟨_, rfl⟩
                  have Hx85 : Hid (Up wr.heap.size wr x85) := by show Up _ _ _; rw [← hx85]; exact hHeld.freeze hoB.out _
                  rw [hx85] at hcv
                  go_simp
                  have LLB_86 : Hid (BC x85 (some ⟨B, 0, none⟩) 1 (cL [92])) := by show BC _ _ _ _; rw [← hx85]; exact LLB_74.out.freeze _ _
                  have LLA_87 : Hid (BC x85 (some ⟨A, 0, none⟩) 1 (cL [38])) := by show BC _ _ _ _; rw [← hx85]; exact LLA_75.out.freeze _ _
                  refine hK.out _ _ Hx85.out (fun hHeld' => ?_)
                  clear hK K hHeld hHeld' HKB_73 LLB_74 LLA_75 hcv hx85
                  have hHeld := Hx85.out
                  clear Hx85
                  (try simp only [Act.put, List.setIfInBounds_toArray, List.set_cons_zero, List.set_cons_succ])
                  refine wpAnyH_ready (rs := [8]) (by kernel_rfl) (by simp) (AllReadyH.cons rfl (fun K hK => ?_) AllReadyH.nil)
                  rw [if_pos (by kernel_rfl)]
                  refine app1_wp (.tmp 38) (.tmp 41) rfl A 38 rfl LLA_87.out b (off + i) (n - i) (cap - i) (fun j => cL X (i + j)) rfl (HF.out.stay hHeld.1) (by omega) (by omega) ?_
                  intro g8 c8 x88 lg8 pg8 qg8 hb'
                  change K (Act.put _ (some 42) _) _
                  have Hx88 : Hid (Up wr.heap.size wr x88) := hHeld.stay hb'
                  have hlg8 : Hid (BC x88 (some ⟨g8, 0, none⟩) (1 + (n - i)) (cL (38 :: cl (fun j => cL X (i + j)) (n - i)))) := lg8
                  have LLB_89 : Hid (BC x88 (some ⟨B, 0, none⟩) 1 (cL [92])) := LLB_86.out.stay hb'
                  refine hK.out _ _ Hx88.out (fun hHeld' => ?_)
                  clear hK K hHeld hHeld' LLB_86 LLA_87 hb' lg8
                  have hHeld := Hx88.out
                  clear Hx88
                  (try simp only [Act.put, List.setIfInBounds_toArray, List.set_cons_zero, List.set_cons_succ])
                  refine wpAnyH_ready (rs := [14]) (by kernel_rfl) (by simp) (AllReadyH.cons rfl (fun K hK => ?_) AllReadyH.nil)
                  rw [if_pos (by kernel_rfl)]
                  refine app1_wp (.tmp 44) (.tmp 47) rfl B 92 rfl LLB_89.out b (off + i) (n - i) (cap - i) (fun j => cL X (i + j)) rfl (HF.out.stay hHeld.1) (by omega) (by omega) ?_
                  intro g14 c14 x90 lg14 pg14 qg14 hb'
                  change K (Act.put _ (some 48) _) _
                  have Hx90 : Hid (Up wr.heap.size wr x90) := hHeld.stay hb'
                  have hlg14 : Hid (BC x90 (some ⟨g14, 0, none⟩) (1 + (n - i)) (cL (92 :: cl (fun j => cL X (i + j)) (n - i)))) := lg14
                  have LLg8_91 : Hid (BC x90 (some ⟨g8, 0, none⟩) (1 + (n - i)) (cL (38 :: cl (fun j => cL X (i + j)) (n - i)))) := hlg8.out.stay hb'
                  refine hK.out _ _ Hx90.out (fun hHeld' => ?_)
                  clear hK K hHeld hHeld' LLB_89 hlg8 hb' lg14
                  have hHeld := Hx90.out
                  clear Hx90
                  (try simp only [Act.put, List.setIfInBounds_toArray, List.set_cons_zero, List.set_cons_succ])
                  refine wpAnyH_ready (rs := [15]) (by kernel_rfl) (by simp) (AllReadyH.cons rfl (fun K hK => ?_) AllReadyH.nil)
                  rw [if_pos (by kernel_rfl)]
                  go_simp
                  obtain ⟨x92, hx92⟩ : ∃ x, x90.alloc (.cells #[.slice (some ⟨b, off + i, none⟩) (n - i) (cap - i), .slice (some ⟨g8, 0, none⟩) (1 + (n - i)) c8, .slice (some ⟨g14, 0, none⟩) (1 + (n - i)) c14] 22) = x := ⟨_, rfl⟩
                  obtain ⟨RR, hRR⟩ : ∃ A, x90.heap.size = A := ⟨_, rfl⟩
                  have hb' : Below x90.heap.size x90 x92 := by rw [← hx92]; exact below_alloc x90 _
                  have Hx92 : Hid (Up wr.heap.size wr x92) := hHeld.stay hb'
                  have hR0 : x92.heap[RR]? = some (.cells #[.slice (some ⟨b, off + i, none⟩) (n - i) (cap - i), .slice (some ⟨g8, 0, none⟩) (1 + (n - i)) c8, .slice (some ⟨g14, 0, none⟩) (1 + (n - i)) c14] 22) := by rw [← hx92, ← hRR]; exact heap_alloc_new _ _
                  have HQ : Hid (∀ q, q < 3 → ∃ v, x92.cell? ⟨RR, q, none⟩ = some v ∧ BY x92 v) := fun q hq => by
                    have hbb : Byt (cl (fun j => cL X (i + j)) (n - i)) := cl_byt2 HC.out
                    match q, hq with
                    | 0, _ => exact ⟨_, by simp [World.cell?, hR0], b, off + i, n - i, cap - i, _, rfl, HC.out, HF.out.stay Hx92.out.1, by omega, by omega, by omega, by omega⟩
                    | 1, _ => exact ⟨_, by simp [World.cell?, hR0], g8, 0, 1 + (n - i), c8, _, rfl, fun j hj => (cL_ch (cons_byt (z := 38) (by decide) hbb)).1 j (by rw [List.length_cons, cl_len]; omega), LLg8_91.out.stay hb', by omega, by omega, pg8, by unfold maxLen at qg8; omega⟩
                    | 2, _ => exact ⟨_, by simp [World.cell?, hR0], g14, 0, 1 + (n - i), c14, _, rfl, fun j hj => (cL_ch (cons_byt (z := 92) (by decide) hbb)).1 j (by rw [List.length_cons, cl_len]; omega), hlg14.out.stay hb', by omega, by omega, pg14, by unfold maxLen at qg14; omega⟩
                  rw [hx92, hRR]
                  refine hK.out _ _ Hx92.out (fun hHeld' => ?_)
                  clear hK K hHeld hHeld' LLg8_91 hlg14 hb' hx92 hRR hR0
                  have hHeld := Hx92.out
                  clear Hx92
                  (try simp only [Act.put, List.setIfInBounds_toArray, List.set_cons_zero, List.set_cons_succ])
                  refine takeH (i := 16) (v := ?_) (d := (some 50)) rfl (by kernel_rfl) (by kernel_rfl) (by kernel_rfl) rfl (fun _ _ _ h => h) (Or.inl ⟨by kernel_rfl, ?_⟩) (by assumption) ?_; rotate_left
                  · (intro w hSw; (try dsimp only at hSw); first | (go_simp; done) | (go_simp; with_reducible rfl))
                  (try simp only [Act.put, List.setIfInBounds_toArray, List.set_cons_zero, List.set_cons_succ])
                  refine wpAnyH_done (by kernel_rfl) ?_ _
                  go_wp2
                  go_meet
                  case rel => exact ⟨RR, rfl, rfl, rfl, hHeld, HQ.out⟩
              · rw [if_pos (by kernel_rfl)]
                have hcv : (convert 22 22 (.slice (some ⟨B, 0, none⟩) 1 1)).run Tryd.prog x69 = .ok (.slice (some ⟨B, 0, none⟩) 1 1) (x69.freeze ⟨B, 1, none⟩ 1) := conv_mark HKB_70.out
                obtain ⟨x93, hx93⟩ : ∃ x, x69.freeze ⟨B, 1, none⟩ 1 = x := ⟨_, rfl⟩
                have Hx93 : Hid (Up wr.heap.size wr x93) := by show Up _ _ _; rw [← hx93]; exact hHeld.freeze hoB.out _
                rw [hx93] at hcv
                go_simp
                have LLB_94 : Hid (BC x93 (some ⟨B, 0, none⟩) 1 (cL [92])) := by show BC _ _ _ _; rw [← hx93]; exact LLB_71.out.freeze _ _
                have HKA_95 : Hid (x93.heap[A]? = some (.cells #[.int .u8 38] 5)) := by show _ = _; rw [← hx93, freeze_blk _ _ _ (show (⟨B, 1, none⟩ : Addr).block ≠ A from hAB.out)]; exact hkA.out
                have LLA_96 : Hid (BC x93 (some ⟨A, 0, none⟩) 1 (cL [38])) := by show BC _ _ _ _; rw [← hx93]; exact hlA.out.freeze _ _
                refine hK.out _ _ Hx93.out (fun hHeld' => ?_)
                clear hK K hHeld hHeld' HKB_70 LLB_71 hkA hlA hcv hx93
                have hHeld := Hx93.out
                clear Hx93
                (try simp only [Act.put, List.setIfInBounds_toArray, List.set_cons_zero, List.set_cons_succ])
                refine wpAnyH_ready (rs := [4]) (by kernel_rfl) (by simp) (AllReadyH.cons rfl (fun K hK => ?_) AllReadyH.nil)
                rw [if_pos (by kernel_rfl)]
                have hcv : (convert 22 22 (.slice (some ⟨A, 0, none⟩) 1 1)).run Tryd.prog x93 = .ok (.slice (some ⟨A, 0, none⟩) 1 1) (x93.freeze ⟨A, 1, none⟩ 1) := conv_mark HKA_95.out
                obtain ⟨x97, hx97⟩ : ∃ x, x93.freeze ⟨A, 1, none⟩ 1 = x := ⟨_, rfl⟩
                have Hx97 : Hid (Up wr.heap.size wr x97) := by show Up _ _ _; rw [← hx97]; exact hHeld.freeze hoA.out _
                rw [hx97] at hcv
                go_simp
                have LLB_98 : Hid (BC x97 (some ⟨B, 0, none⟩) 1 (cL [92])) := by show BC _ _ _ _; rw [← hx97]; exact LLB_94.out.freeze _ _
                have LLA_99 : Hid (BC x97 (some ⟨A, 0, none⟩) 1 (cL [38])) := by show BC _ _ _ _; rw [← hx97]; exact LLA_96.out.freeze _ _
                refine hK.out _ _ Hx97.out (fun hHeld' => ?_)
                clear hK K hHeld hHeld' LLB_94 HKA_95 LLA_96 hcv hx97
                have hHeld := Hx97.out
                clear Hx97
                (try simp only [Act.put, List.setIfInBounds_toArray, List.set_cons_zero, List.set_cons_succ])
                refine wpAnyH_ready (rs := [8]) (by kernel_rfl) (by simp) (AllReadyH.cons rfl (fun K hK => ?_) AllReadyH.nil)
                rw [if_pos (by kernel_rfl)]
                refine app1_wp (.tmp 38) (.tmp 41) rfl A 38 rfl LLA_99.out b (off + i) (n - i) (cap - i) (fun j => cL X (i + j)) rfl (HF.out.stay hHeld.1) (by omega) (by omega) ?_
                intro g8 c8 x100 lg8 pg8 qg8 hb'
                change K (Act.put _ (some 42) _) _
                have Hx100 : Hid (Up wr.heap.size wr x100) := hHeld.stay hb'
                have hlg8 : Hid (BC x100 (some ⟨g8, 0, none⟩) (1 + (n - i)) (cL (38 :: cl (fun j => cL X (i + j)) (n - i)))) := lg8
                have LLB_101 : Hid (BC x100 (some ⟨B, 0, none⟩) 1 (cL [92])) := LLB_98.out.stay hb'
                refine hK.out _ _ Hx100.out (fun hHeld' => ?_)
                clear hK K hHeld hHeld' LLB_98 LLA_99 hb' lg8
                have hHeld := Hx100.out
                clear Hx100
                (try simp only [Act.put, List.setIfInBounds_toArray, List.set_cons_zero, List.set_cons_succ])
                refine wpAnyH_ready (rs := [14]) (by kernel_rfl) (by simp) (AllReadyH.cons rfl (fun K hK => ?_) AllReadyH.nil)
                rw [if_pos (by kernel_rfl)]
                refine app1_wp (.tmp 44) (.tmp 47) rfl B 92 rfl LLB_101.out b (off + i) (n - i) (cap - i) (fun j => cL X (i + j)) rfl (HF.out.stay hHeld.1) (by omega) (by omega) ?_
                intro g14 c14 x102 lg14 pg14 qg14 hb'
                change K (Act.put _ (some 48) _) _
                have Hx102 : Hid (Up wr.heap.size wr x102) := hHeld.stay hb'
                have hlg14 : Hid (BC x102 (some ⟨g14, 0, none⟩) (1 + (n - i)) (cL (92 :: cl (fun j => cL X (i + j)) (n - i)))) := lg14
                have LLg8_103 : Hid (BC x102 (some ⟨g8, 0, none⟩) (1 + (n - i)) (cL (38 :: cl (fun j => cL X (i + j)) (n - i)))) := hlg8.out.stay hb'
                refine hK.out _ _ Hx102.out (fun hHeld' => ?_)
                clear hK K hHeld hHeld' LLB_101 hlg8 hb' lg14
                have hHeld := Hx102.out
                clear Hx102
                (try simp only [Act.put, List.setIfInBounds_toArray, List.set_cons_zero, List.set_cons_succ])
                refine wpAnyH_ready (rs := [15]) (by kernel_rfl) (by simp) (AllReadyH.cons rfl (fun K hK => ?_) AllReadyH.nil)
                rw [if_pos (by kernel_rfl)]
                go_simp
                obtain ⟨x104, hx104⟩ : ∃ x, x102.alloc (.cells #[.slice (some ⟨b, off + i, none⟩) (n - i) (cap - i), .slice (some ⟨g8, 0, none⟩) (1 + (n - i)) c8, .slice (some ⟨g14, 0, none⟩) (1 + (n - i)) c14] 22) = x := ⟨_, rfl⟩
                obtain ⟨RR, hRR⟩ : ∃ A, x102.heap.size = A := ⟨_, rfl⟩
                have hb' : Below x102.heap.size x102 x104 := by rw [← hx104]; exact below_alloc x102 _
                have Hx104 : Hid (Up wr.heap.size wr x104) := hHeld.stay hb'
                have hR0 : x104.heap[RR]? = some (.cells #[.slice (some ⟨b, off + i, none⟩) (n - i) (cap - i), .slice (some ⟨g8, 0, none⟩) (1 + (n - i)) c8, .slice (some ⟨g14, 0, none⟩) (1 + (n - i)) c14] 22) := by rw [← hx104, ← hRR]; exact heap_alloc_new _ _
                have HQ : Hid (∀ q, q < 3 → ∃ v, x104.cell? ⟨RR, q, none⟩ = some v ∧ BY x104 v) := fun q hq => by
                  have hbb : Byt (cl (fun j => cL X (i + j)) (n - i)) := cl_byt2 HC.out
                  match q, hq with
                  | 0, _ => exact ⟨_, by simp [World.cell?, hR0], b, off + i, n - i, cap - i, _, rfl, HC.out, HF.out.stay Hx104.out.1, by omega, by omega, by omega, by omega⟩
                  | 1, _ => exact ⟨_, by simp [World.cell?, hR0], g8, 0, 1 + (n - i), c8, _, rfl, fun j hj => (cL_ch (cons_byt (z := 38) (by decide) hbb)).1 j (by rw [List.length_cons, cl_len]; omega), LLg8_103.out.stay hb', by omega, by omega, pg8, by unfold maxLen at qg8; omega⟩
                  | 2, _ => exact ⟨_, by simp [World.cell?, hR0], g14, 0, 1 + (n - i), c14, _, rfl, fun j hj => (cL_ch (cons_byt (z := 92) (by decide) hbb)).1 j (by rw [List.length_cons, cl_len]; omega), hlg14.out.stay hb', by omega, by omega, pg14, by unfold maxLen at qg14; omega⟩
                rw [hx104, hRR]
                refine hK.out _ _ Hx104.out (fun hHeld' => ?_)
                clear hK K hHeld hHeld' LLg8_103 hlg14 hb' hx104 hRR hR0
                have hHeld := Hx104.out
                clear Hx104
                (try simp only [Act.put, List.setIfInBounds_toArray, List.set_cons_zero, List.set_cons_succ])
                refine takeH (i := 16) (v := ?_) (d := (some 50)) rfl (by kernel_rfl) (by kernel_rfl) (by kernel_rfl) rfl (fun _ _ _ h => h) (Or.inl ⟨by kernel_rfl, ?_⟩) (by assumption) ?_; rotate_left
                · (intro w hSw; (try dsimp only at hSw); first | (go_simp; done) | (go_simp; with_reducible rfl))
                (try simp only [Act.put, List.setIfInBounds_toArray, List.set_cons_zero, List.set_cons_succ])
                refine wpAnyH_done (by kernel_rfl) ?_ _
                go_wp2
                go_meet
                case rel => exact ⟨RR, rfl, rfl, rfl, hHeld, HQ.out⟩
            · rw [if_pos (by kernel_rfl)]
              have hcv : (convert 22 22 (.slice (some ⟨B, 0, none⟩) 1 1)).run Tryd.prog x68 = .ok (.slice (some ⟨B, 0, none⟩) 1 1) (x68.freeze ⟨B, 1, none⟩ 1) := conv_mark hkB.out
              obtain ⟨x105, hx105⟩ : ∃ x, x68.freeze ⟨B, 1, none⟩ 1 = x := ⟨_, rfl⟩
              have Hx105 : Hid (Up wr.heap.size wr x105) := by show Up _ _ _; rw [← hx105]; exact hHeld.freeze hoB.out _
              rw [hx105] at hcv
              go_simp
              have LLB_106 : Hid (BC x105 (some ⟨B, 0, none⟩) 1 (cL [92])) := by show BC _ _ _ _; rw [← hx105]; exact hlB.out.freeze _ _
              refine hK.out _ _ Hx105.out (fun hHeld' => ?_)
              clear hK K hHeld hHeld' hkB hlB hcv hx105
              have hHeld := Hx105.out
              clear Hx105
              (try simp only [Act.put, List.setIfInBounds_toArray, List.set_cons_zero, List.set_cons_succ])
              refine wpAnyH_ready (rs := [3]) (by kernel_rfl) (by simp) (AllReadyH.cons rfl (fun K hK => ?_) AllReadyH.nil)
              rw [if_pos (by kernel_rfl)]
              go_simp
              obtain ⟨x107, hx107⟩ : ∃ x, x105.alloc (.cells #[.int .u8 38] 5) = x := ⟨_, rfl⟩
              obtain ⟨A, hA⟩ : ∃ A, x105.heap.size = A := ⟨_, rfl⟩
              have hb' : Below x105.heap.size x105 x107 := by rw [← hx107]; exact below_alloc x105 _
              have Hx107 : Hid (Up wr.heap.size wr x107) := hHeld.stay hb'
              have hkA : Hid (x107.heap[A]? = some (.cells #[.int .u8 38] 5)) := by show _ = _; rw [← hx107, ← hA]; exact heap_alloc_new _ _
              have hlA : Hid (BC x107 (some ⟨A, 0, none⟩) 1 (cL [38])) := by show BC _ _ _ _; rw [← hx107, ← hA]; exact lit_row x105 38
              have hoA : Hid (wr.heap.size ≤ A) := by show _ ≤ _; rw [← hA]; exact hHeld.2
              have LLB_108 : Hid (BC x107 (some ⟨B, 0, none⟩) 1 (cL [92])) := LLB_106.out.stay hb'
              rw [hx107, hA]
              refine hK.out _ _ Hx107.out (fun hHeld' => ?_)
              clear hK K hHeld hHeld' LLB_106 hb' hx107 hA
              have hHeld := Hx107.out
              clear Hx107
              (try simp only [Act.put, List.setIfInBounds_toArray, List.set_cons_zero, List.set_cons_succ])
              refine wpAnyH_ready (rs := [4]) (by kernel_rfl) (by simp) (AllReadyH.cons rfl (fun K hK => ?_) AllReadyH.nil)
              rw [if_pos (by kernel_rfl)]
              have hcv : (convert 22 22 (.slice (some ⟨A, 0, none⟩) 1 1)).run Tryd.prog x107 = .ok (.slice (some ⟨A, 0, none⟩) 1 1) (x107.freeze ⟨A, 1, none⟩ 1) := conv_mark hkA.out
              obtain ⟨x109, hx109⟩ : ∃ x, x107.freeze ⟨A, 1, none⟩ 1 = x := ⟨_, rfl⟩
              have Hx109 : Hid (Up wr.heap.size wr x109) := by show Up _ _ _; rw [← hx109]; exact hHeld.freeze hoA.out _
              rw [hx109] at hcv
              go_simp
              have LLB_110 : Hid (BC x109 (some ⟨B, 0, none⟩) 1 (cL [92])) := by show BC _ _ _ _; rw [← hx109]; exact LLB_108.out.freeze _ _
              have LLA_111 : Hid (BC x109 (some ⟨A, 0, none⟩) 1 (cL [38])) := by show BC _ _ _ _; rw [← hx109]; exact hlA.out.freeze _ _
              refine hK.out _ _ Hx109.out (fun hHeld' => ?_)
              clear hK K hHeld hHeld' LLB_108 hkA hlA hcv hx109
              have hHeld := Hx109.out
              clear Hx109
              (try simp only [Act.put, List.setIfInBounds_toArray, List.set_cons_zero, List.set_cons_succ])
              refine wpAnyH_ready (rs := [8]) (by kernel_rfl) (by simp) (AllReadyH.cons rfl (fun K hK => ?_) AllReadyH.nil)
              rw [if_pos (by kernel_rfl)]
              refine app1_wp (.tmp 38) (.tmp 41) rfl A 38 rfl LLA_111.out b (off + i) (n - i) (cap - i) (fun j => cL X (i + j)) rfl (HF.out.stay hHeld.1) (by omega) (by omega) ?_
              intro g8 c8 x112 lg8 pg8 qg8 hb'
              change K (Act.put _ (some 42) _) _
              have Hx112 : Hid (Up wr.heap.size wr x112) := hHeld.stay hb'
              have hlg8 : Hid (BC x112 (some ⟨g8, 0, none⟩) (1 + (n - i)) (cL (38 :: cl (fun j => cL X (i + j)) (n - i)))) := lg8
              have LLB_113 : Hid (BC x112 (some ⟨B, 0, none⟩) 1 (cL [92])) := LLB_110.out.stay hb'
              refine hK.out _ _ Hx112.out (fun hHeld' => ?_)
              clear hK K hHeld hHeld' LLB_110 LLA_111 hb' lg8
              have hHeld := Hx112.out
              clear Hx112
              (try simp only [Act.put, List.setIfInBounds_toArray, List.set_cons_zero, List.set_cons_succ])
              refine wpAnyH_ready (rs := [14]) (by kernel_rfl) (by simp) (AllReadyH.cons rfl (fun K hK => ?_) AllReadyH.nil)
              rw [if_pos (by kernel_rfl)]
              refine app1_wp (.tmp 44) (.tmp 47) rfl B 92 rfl LLB_113.out b (off + i) (n - i) (cap - i) (fun j => cL X (i + j)) rfl (HF.out.stay hHeld.1) (by omega) (by omega) ?_
              intro g14 c14 x114 lg14 pg14 qg14 hb'
              change K (Act.put _ (some 48) _) _
              have Hx114 : Hid (Up wr.heap.size wr x114) := hHeld.stay hb'
              have hlg14 : Hid (BC x114 (some ⟨g14, 0, none⟩) (1 + (n - i)) (cL (92 :: cl (fun j => cL X (i + j)) (n - i)))) := lg14
              have LLg8_115 : Hid (BC x114 (some ⟨g8, 0, none⟩) (1 + (n - i)) (cL (38 :: cl (fun j => cL X (i + j)) (n - i)))) := hlg8.out.stay hb'
              refine hK.out _ _ Hx114.out (fun hHeld' => ?_)
              clear hK K hHeld hHeld' LLB_113 hlg8 hb' lg14
              have hHeld := Hx114.out
              clear Hx114
              (try simp only [Act.put, List.setIfInBounds_toArray, List.set_cons_zero, List.set_cons_succ])
              refine wpAnyH_ready (rs := [15]) (by kernel_rfl) (by simp) (AllReadyH.cons rfl (fun K hK => ?_) AllReadyH.nil)
              rw [if_pos (by kernel_rfl)]
              go_simp
              obtain ⟨x116, hx116⟩ : ∃ x, x114.alloc (.cells #[.slice (some ⟨b, off + i, none⟩) (n - i) (cap - i), .slice (some ⟨g8, 0, none⟩) (1 + (n - i)) c8, .slice (some ⟨g14, 0, none⟩) (1 + (n - i)) c14] 22) = x := ⟨_, rfl⟩
              obtain ⟨RR, hRR⟩ : ∃ A, x114.heap.size = A := ⟨_, rfl⟩
              have hb' : Below x114.heap.size x114 x116 := by rw [← hx116]; exact below_alloc x114 _
              have Hx116 : Hid (Up wr.heap.size wr x116) := hHeld.stay hb'
              have hR0 : x116.heap[RR]? = some (.cells #[.slice (some ⟨b, off + i, none⟩) (n - i) (cap - i), .slice (some ⟨g8, 0, none⟩) (1 + (n - i)) c8, .slice (some ⟨g14, 0, none⟩) (1 + (n - i)) c14] 22) := by rw [← hx116, ← hRR]; exact heap_alloc_new _ _
              have HQ : Hid (∀ q, q < 3 → ∃ v, x116.cell? ⟨RR, q, none⟩ = some v ∧ BY x116 v) := fun q hq => by
                have hbb : Byt (cl (fun j => cL X (i + j)) (n - i)) := cl_byt2 HC.out
                match q, hq with
                | 0, _ => exact ⟨_, by simp [World.cell?, hR0], b, off + i, n - i, cap - i, _, rfl, HC.out, HF.out.stay Hx116.out.1, by omega, by omega, by omega, by omega⟩
                | 1, _ => exact ⟨_, by simp [World.cell?, hR0], g8, 0, 1 + (n - i), c8, _, rfl, fun j hj => (cL_ch (cons_byt (z := 38) (by decide) hbb)).1 j (by rw [List.length_cons, cl_len]; omega), LLg8_115.out.stay hb', by omega, by omega, pg8, by unfold maxLen at qg8; omega⟩
                | 2, _ => exact ⟨_, by simp [World.cell?, hR0], g14, 0, 1 + (n - i), c14, _, rfl, fun j hj => (cL_ch (cons_byt (z := 92) (by decide) hbb)).1 j (by rw [List.length_cons, cl_len]; omega), hlg14.out.stay hb', by omega, by omega, pg14, by unfold maxLen at qg14; omega⟩
              rw [hx116, hRR]
              refine hK.out _ _ Hx116.out (fun hHeld' => ?_)
              clear hK K hHeld hHeld' LLg8_115 hlg14 hb' hx116 hRR hR0
              have hHeld := Hx116.out
              clear Hx116
              (try simp only [Act.put, List.setIfInBounds_toArray, List.set_cons_zero, List.set_cons_succ])
              refine takeH (i := 16) (v := ?_) (d := (some 50)) rfl (by kernel_rfl) (by kernel_rfl) (by kernel_rfl) rfl (fun _ _ _ h => h) (Or.inl ⟨by kernel_rfl, ?_⟩) (by assumption) ?_; rotate_left
              · (intro w hSw; (try dsimp only at hSw); first | (go_simp; done) | (go_simp; with_reducible rfl))
              (try simp only [Act.put, List.setIfInBounds_toArray, List.set_cons_zero, List.set_cons_succ])
              refine wpAnyH_done (by kernel_rfl) ?_ _
              go_wp2
              go_meet
              case rel => exact ⟨RR, rfl, rfl, rfl, hHeld, HQ.out⟩
        case rest =>
          obtain ⟨R, rfl, rfl, rfl, HR⟩ := hcut
          clear HF HC
          go_wp2
          go_loopg [51] 3 (fun q kv wy => ∃ k : Nat, k ≤ 3 ∧ q = 3 - k ∧ kv = .int .i64 k ∧ Hid (Up wc.heap.size wc wy))
          case atStart => exact ⟨0, Nat.zero_le _, rfl, rfl, Up.refl wc⟩
          case round =>
            obtain ⟨k, hk, hq2, rfl, HU2⟩ := hrel
            obtain ⟨wy, rfl⟩ : ∃ wy, wy = wr := ⟨_, rfl⟩
            by_cases hlt2 : k < 3
            · have y0 : (0 : Int) ≤ (k : Int) := by omega
              have y1 : (k : Int) < 3 := by omega
              obtain ⟨v, hv, hBY⟩ := HR.out.2 k hlt2
              have hc0 := cell_stay hv HU2.out.1
              obtain ⟨b2, o2, nn, cc, c, rfl, hCc, hbc, hn0, hnn, hncc, hccb⟩ := hBY.stay HU2.out.1
              have HUw : Hid (Up w.heap.size w wy) := ⟨HB3.out.trans ((HU.out.stay (HR.out.1.stay HU2.out.1).1).1.mono HB3.out.size), Nat.le_trans HB3.out.size (HU.out.stay (HR.out.1.stay HU2.out.1).1).2⟩
              have hGy := HH.out.1.stay HUw.out.1
              have HY : Hid ((∀ j, j < nn → 0 ≤ c j ∧ c j < 256) ∧ BC wy (some ⟨b2, o2, none⟩) nn c ∧ Glb wy) := ⟨hCc, hbc, hGy⟩
              have ce := ent_any hCc hbc hncc hn0 hnn hccb hGy.2.1 hGy.2.2
              obtain ⟨r1, k1, q1, hx⟩ := ans_tup (nv c nn)
              have n1 : (r1 != r1) = false := by simp
              have n2 : (k1 != k1) = false := by simp
              have n3 : (q1 != q1) = false := by simp
              rw [hx] at ce
              clear hv hBY hCc hbc hGy
              go_wp2_with fail
              refine ce.mono ?_
              rintro ev w4 ⟨rfl, hb4⟩
              have cr := rent_any HY.out.1 (HY.out.2.1.stay hb4) hncc hnn hccb
              rw [hx] at cr
              have HB4 : Hid (Below wy.heap.size wy w4) := hb4
              clear ce hx hc0 hb4
              go_wp2_with fail
              refine cr.mono ?_
              rintro ev w5 ⟨rfl, hw5⟩
              subst w5
              clear cr
              obtain ⟨V, hV⟩ : ∃ V, w4.alloc (.cells #[.int .u8 f, .int .u8 7, .int .u8 5] 30) = V := ⟨_, rfl⟩
              have hV0 : V.heap[w4.heap.size]? = some (.cells #[.int .u8 f, .int .u8 7, .int .u8 5] 30) := by rw [← hV]; exact heap_alloc_new _ _
              have hVb : Below w4.heap.size w4 V := by rw [← hV]; exact below_alloc w4 _
              obtain ⟨Fb, hFb⟩ : ∃ Fb, w4.heap.size = Fb := ⟨_, rfl⟩
              have HV : Hid ((∀ t, t < 3 → ∃ fv : Int, V.cell? ⟨Fb, t, none⟩ = some (.int .u8 fv)) ∧ Below wy.heap.size wy V) := by
                refine ⟨fun t ht => ?_, HB4.out.trans (hVb.mono HB4.out.size)⟩
                rw [hFb] at hV0
                match t, ht with
                | 0, _ => exact ⟨f, by simp [World.cell?, hV0]⟩
                | 1, _ => exact ⟨7, by simp [World.cell?, hV0]⟩
                | 2, _ => exact ⟨5, by simp [World.cell?, hV0]⟩
              clear hV0 hVb HB4
              go_wp2
              (try rw [hFb])
              clear hV hFb
              go_loopg [83] 3 (fun q tv wz => ∃ t : Nat, t ≤ 3 ∧ q = 3 - t ∧ tv = .int .i64 t ∧ Hid (Up V.heap.size V wz))
              case atStart => exact ⟨0, Nat.zero_le _, rfl, rfl, Up.refl V⟩
              case round =>
                obtain ⟨t, ht, hq3, rfl, HU3⟩ := hrel
                obtain ⟨wz, rfl⟩ : ∃ wz, wz = wr := ⟨_, rfl⟩
                by_cases hlt3 : t < 3
                · have x0 : (0 : Int) ≤ (t : Int) := by omega
                  have x1 : (t : Int) < 3 := by omega
                  obtain ⟨fv, hfv⟩ := HV.out.1 t hlt3
                  have hc1 := cell_stay hfv HU3.out.1
                  have hVz : Below wy.heap.size wy wz := HV.out.2.trans (HU3.out.1.mono HV.out.2.size)
                  have cs := esc_any HY.out.1 (HY.out.2.1.stay hVz) hncc hnn hccb (HY.out.2.2.stay hVz).2.1 fv
                  obtain ⟨r2, k2, q2, hx2⟩ := ans_tup (ev fv c nn)
                  have m1 : (r2 != r2) = false := by simp
                  have m2 : (k2 != k2) = false := by simp
                  have m3 : (q2 != q2) = false := by simp
                  have HVz : Hid (Below wy.heap.size wy wz) := hVz
                  rw [hx2] at cs
                  clear hfv hVz
                  go_wp2_with fail
                  refine cs.mono ?_
                  rintro ev w6 ⟨rfl, hb6⟩
                  have cr := resc_any HY.out.1 (HY.out.2.1.stay (HVz.out.trans (hb6.mono HVz.out.size))) hncc hnn hccb fv
                  rw [hx2] at cr
                  have HU6 : Hid (Up V.heap.size V w6) := HU3.out.stay hb6
                  clear cs hx2 hc1 hb6
                  go_wp2_with fail
                  refine cr.mono ?_
                  rintro ev w7 ⟨rfl, hw7⟩
                  subst w7
                  clear cr
                  go_wp2
                  go_roundg (3 - (t + 1))
                  case measure => omega
                  case rel => exact ⟨t + 1, by omega, rfl, by go_num, HU6⟩
                · have x1 : ¬ (t : Int) < 3 := by omega
                  have HUY : Hid (Up wc.heap.size wc wz) := HU2.out.stay (HV.out.2.trans (HU3.out.1.mono HV.out.2.size))
                  go_wp2
                  go_roundg (3 - (k + 1))
                  case measure => omega
                  case rel => exact ⟨k + 1, by omega, rfl, by go_num, HUY⟩
            · have y1 : ¬ (k : Int) < 3 := by omega
              have HUr : Hid (Up w3.heap.size w3 wy) := HU.out.stay (HR.out.1.stay HU2.out.1).1
              go_wp2
              go_roundg (K0 - (i + 1))
              case measure => omega
              case rel => exact ⟨i + 1, by omega, rfl, by go_num, HUr⟩
      · have z1 : ¬ (i : Int) < (K0 : Int) := by omega
        go_wp2
        go_ret
        exact ⟨rfl, HB3.out.trans (HU.out.1.mono HB3.out.size)⟩
end Go.Proofs.YtjpmnjokkkaalaaDoor
