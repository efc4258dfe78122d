/- tex: remark; what begins with a backslash and isn't a command. -/
import Derived.Test.YtlgfmhhhecaddaaDoorxThg
namespace Go.Proofs.YtlgfmhhhecaddaaDoor
set_option linter.unusedVariables false
open Go.RowKit Go.ChangeShapes
section
variable {w0 w : World} {S b off n cap B T gs i : Nat} {c L : Nat → Int}
theorem Hid.mk' {p : Prop} (h : p) : Hid p := h
theorem En.bhd {w : World} (hs : Sta S b n cap B T gs c) (h : En w0 S w b off n cap B T gs c L i) (k : Nat) (hk : k ≤ n) (t : List Int) (ht : Byt t) (h0 : t ≠ []) (h9 : t.length ≤ 100) (X : ByteArray) (hX : strOfNums t = X) (R : Nat) (hR : bh t c n k = R) :
    Calls Tryd.prog 36 #[.slice (some ⟨b, off, none⟩) n cap, .int .i64 k, .string X] w fun ev w' => ev = .returned (.int .i64 R) ∧ Below w.heap.size w w' := by
  obtain ⟨⟨m, hm⟩, -⟩ := h.gl
  have := behind_any hs.ch h.bc (by have := hs.n6; omega) hs.nc k hk t ht h0 h9 hm
  rw [hX, hR] at this
  exact this
set_option maxRecDepth 100000 in
theorem remark_any (hs : Sta S b n cap B T gs c) (h : En w0 S w b off n cap B T gs c L i) (hi : i < n) :
    Calls Tryd.prog 24 #[.pointer (some ⟨B, 0, none⟩)] w (SP w0 S b off n cap B T gs c (stp 19 B) (setL L 3 (i : Int) ((bh [10] c n i : Nat) : Int)) (bh [10] c n i)) := by
  obtain ⟨x0, x1, x2⟩ := h.cells
  have hn := hs.n6
  have hR := bh_gt hs.ch hi
  obtain ⟨R, hRR⟩ : ∃ R, bh [10] c n i = R := ⟨_, rfl⟩
  rw [hRR] at hR ⊢
  have HR : Hid (bh [10] c n i = R) := hRR
  have HH : Hid (Sta S b n cap B T gs c ∧ En w0 S w b off n cap B T gs c L i) := ⟨hs, h⟩
  obtain ⟨Q, hQ⟩ : ∃ Q, SP w0 S b off n cap B T gs c (stp 19 B) (setL L 3 (i : Int) (R : Int)) R = Q := ⟨_, rfl⟩
  rw [hQ]
  have HQ : Hid (SP w0 S b off n cap B T gs c (stp 19 B) (setL L 3 (i : Int) (R : Int)) R = Q) := hQ
  clear hs h hQ hRR
  go_enter Tryd.func24, Tryd.ntmps24
  go_upto_region 1 with fail
  refine wp_region_held_drew (S := fun _ => True) (by kernel_rfl) trivial (fun hHeld => ?_)
  clear hHeld
  obtain ⟨W, hW⟩ : ∃ W, w.drew = W := ⟨_, rfl⟩
  have HE : Hid (En w0 S W b off n cap B T gs c L i) := by rw [← hW]; exact HH.out.2.drew
  rw [hW]
  clear hW x0 x1 x2
  obtain ⟨x0, x1, x2⟩ := HE.out.cells
  refine takeH (i := 0) (v := ?_) (d := (some 3)) rfl (by kernel_rfl) (by kernel_rfl) (by kernel_rfl) rfl (fun _ _ _ h => h) (Or.inl ⟨by kernel_rfl, ?_⟩) (by first | assumption | trivial) ?_; rotate_left
  · (intro w hSw; (try dsimp only at hSw); first | (go_simp; done) | (go_simp; with_reducible rfl))
  (try simp only [Act.put, List.setIfInBounds_toArray, List.set_cons_zero, List.set_cons_succ])
  refine takeH (i := 1) (v := ?_) (d := (some 4)) rfl (by kernel_rfl) (by kernel_rfl) (by kernel_rfl) rfl (fun _ _ _ h => h) (Or.inl ⟨by kernel_rfl, ?_⟩) (by first | assumption | trivial) ?_; rotate_left
  · (intro w hSw; (try dsimp only at hSw); first | (go_simp; done) | (go_simp; with_reducible rfl))
  (try simp only [Act.put, List.setIfInBounds_toArray, List.set_cons_zero, List.set_cons_succ])
  refine takeH (i := 2) (v := ?_) (d := (some 5)) rfl (by kernel_rfl) (by kernel_rfl) (by kernel_rfl) rfl (fun _ _ _ h => h) (Or.inl ⟨by kernel_rfl, ?_⟩) (by first | assumption | trivial) ?_; rotate_left
  · (intro w hSw; (try dsimp only at hSw); first | (go_simp; done) | (go_simp; with_reducible rfl))
  (try simp only [Act.put, List.setIfInBounds_toArray, List.set_cons_zero, List.set_cons_succ])
  refine takeH (i := 3) (v := ?_) (d := (some 6)) rfl (by kernel_rfl) (by kernel_rfl) (by kernel_rfl) rfl (fun _ _ _ h => h) (Or.inl ⟨by kernel_rfl, ?_⟩) (by first | assumption | trivial) ?_; rotate_left
  · (intro w hSw; (try dsimp only at hSw); first | (go_simp; done) | (go_simp; with_reducible rfl))
  (try simp only [Act.put, List.setIfInBounds_toArray, List.set_cons_zero, List.set_cons_succ])
  refine takeH (i := 5) (v := ?_) (d := (some 8)) rfl (by kernel_rfl) (by kernel_rfl) (by kernel_rfl) rfl (fun _ _ _ h => h) (Or.inl ⟨by kernel_rfl, ?_⟩) (by first | assumption | trivial) ?_; rotate_left
  · (intro w hSw; (try dsimp only at hSw); first | (go_simp; done) | (go_simp; with_reducible rfl))
  (try simp only [Act.put, List.setIfInBounds_toArray, List.set_cons_zero, List.set_cons_succ])
  refine takeH (i := 6) (v := ?_) (d := (some 9)) rfl (by kernel_rfl) (by kernel_rfl) (by kernel_rfl) rfl (fun _ _ _ h => h) (Or.inl ⟨by kernel_rfl, ?_⟩) (by first | assumption | trivial) ?_; rotate_left
  · (intro w hSw; (try dsimp only at hSw); first | (go_simp; done) | (go_simp; with_reducible rfl))
  (try simp only [Act.put, List.setIfInBounds_toArray, List.set_cons_zero, List.set_cons_succ])
  refine takeH (i := 7) (v := ?_) (d := (some 10)) rfl (by kernel_rfl) (by kernel_rfl) (by kernel_rfl) rfl (fun _ _ _ h => h) (Or.inl ⟨by kernel_rfl, ?_⟩) (by first | assumption | trivial) ?_; rotate_left
  · (intro w hSw; (try dsimp only at hSw); first | (go_simp; done) | (go_simp; with_reducible rfl))
  (try simp only [Act.put, List.setIfInBounds_toArray, List.set_cons_zero, List.set_cons_succ])
  refine wpAnyH_ready (rs := [4, 8]) (by kernel_rfl) (by simp) (AllReadyH.cons rfl (fun K hK => ?_) (AllReadyH.cons rfl (fun K hK => ?_) AllReadyH.nil))
  · rw [if_pos (by kernel_rfl)]
    go_simp
    refine hK.out _ _ trivial (fun hHeld => ?_)
    clear hK K hHeld
    (try simp only [Act.put, List.setIfInBounds_toArray, List.set_cons_zero, List.set_cons_succ])
    refine wpAnyH_ready (rs := [8]) (by kernel_rfl) (by simp) (AllReadyH.cons rfl (fun K hK => ?_) AllReadyH.nil)
    rw [if_pos (by kernel_rfl)]
    go_simp
    refine hK.out _ _ trivial (fun hHeld => ?_)
    clear hK K hHeld
    (try simp only [Act.put, List.setIfInBounds_toArray, List.set_cons_zero, List.set_cons_succ])
    refine wpAnyH_ready (rs := [9]) (by kernel_rfl) (by simp) (AllReadyH.cons rfl (fun K hK => ?_) AllReadyH.nil)
    go_simp
    refine (HE.out.bhd HH.out.1 i (by omega) [10] b10 (by simp) (by decide) ⟨#[10]⟩ (by kernel_rfl) R HR.out).mono ?_
    rintro ev w1 ⟨rfl, hb1⟩
    have HE1 : Hid (En w0 S w1 b off n cap B T gs c L i) := HE.out.stay hb1
    clear hb1
    refine hK.out _ _ trivial (fun hHeld => ?_)
    clear hK K hHeld
    (try simp only [Act.put, List.setIfInBounds_toArray, List.set_cons_zero, List.set_cons_succ])
    refine wpAnyH_ready (rs := [10]) (by kernel_rfl) (by simp) (AllReadyH.cons rfl (fun K hK => ?_) AllReadyH.nil)
    go_simp
    refine (flay_any HH.out.1 HE1.out (by omega) 3 R R (by omega) (by omega)).mono ?_
    rintro ev w2 ⟨rfl, hE2⟩
    have HE2 := Hid.mk' hE2
    clear hE2
    refine hK.out _ _ trivial (fun hHeld => ?_)
    clear hK K hHeld
    (try simp only [Act.put, List.setIfInBounds_toArray, List.set_cons_zero, List.set_cons_succ])
    refine takeH (i := 11) (v := ?_) (d := (some 2)) rfl (by kernel_rfl) (by kernel_rfl) (by kernel_rfl) rfl (fun _ _ _ h => h) (Or.inl ⟨by kernel_rfl, ?_⟩) (by first | assumption | trivial) ?_; rotate_left
    · (intro w hSw; (try dsimp only at hSw); first | (go_simp; done) | (go_simp; with_reducible rfl))
    (try simp only [Act.put, List.setIfInBounds_toArray, List.set_cons_zero, List.set_cons_succ])
    refine wpAnyH_done (by kernel_rfl) ?_ _
    go_wp2
    rw [← HQ.out]
    exact ⟨rfl, HE2.out⟩
  · rw [if_pos (by kernel_rfl)]
    go_simp
    refine hK.out _ _ trivial (fun hHeld => ?_)
    clear hK K hHeld
    (try simp only [Act.put, List.setIfInBounds_toArray, List.set_cons_zero, List.set_cons_succ])
    refine wpAnyH_ready (rs := [4]) (by kernel_rfl) (by simp) (AllReadyH.cons rfl (fun K hK => ?_) AllReadyH.nil)
    rw [if_pos (by kernel_rfl)]
    go_simp
    refine hK.out _ _ trivial (fun hHeld => ?_)
    clear hK K hHeld
    (try simp only [Act.put, List.setIfInBounds_toArray, List.set_cons_zero, List.set_cons_succ])
    refine wpAnyH_ready (rs := [9]) (by kernel_rfl) (by simp) (AllReadyH.cons rfl (fun K hK => ?_) AllReadyH.nil)
    go_simp
    refine (HE.out.bhd HH.out.1 i (by omega) [10] b10 (by simp) (by decide) ⟨#[10]⟩ (by kernel_rfl) R HR.out).mono ?_
    rintro ev w1 ⟨rfl, hb1⟩
    have HE1 : Hid (En w0 S w1 b off n cap B T gs c L i) := HE.out.stay hb1
    clear hb1
    refine hK.out _ _ trivial (fun hHeld => ?_)
    clear hK K hHeld
    (try simp only [Act.put, List.setIfInBounds_toArray, List.set_cons_zero, List.set_cons_succ])
    refine wpAnyH_ready (rs := [10]) (by kernel_rfl) (by simp) (AllReadyH.cons rfl (fun K hK => ?_) AllReadyH.nil)
    go_simp
    refine (flay_any HH.out.1 HE1.out (by omega) 3 R R (by omega) (by omega)).mono ?_
    rintro ev w2 ⟨rfl, hE2⟩
    have HE2 := Hid.mk' hE2
    clear hE2
    refine hK.out _ _ trivial (fun hHeld => ?_)
    clear hK K hHeld
    (try simp only [Act.put, List.setIfInBounds_toArray, List.set_cons_zero, List.set_cons_succ])
    refine takeH (i := 11) (v := ?_) (d := (some 2)) rfl (by kernel_rfl) (by kernel_rfl) (by kernel_rfl) rfl (fun _ _ _ h => h) (Or.inl ⟨by kernel_rfl, ?_⟩) (by first | assumption | trivial) ?_; rotate_left
    · (intro w hSw; (try dsimp only at hSw); first | (go_simp; done) | (go_simp; with_reducible rfl))
    (try simp only [Act.put, List.setIfInBounds_toArray, List.set_cons_zero, List.set_cons_succ])
    refine wpAnyH_done (by kernel_rfl) ?_ _
    go_wp2
    rw [← HQ.out]
    exact ⟨rfl, HE2.out⟩
end
end Go.Proofs.YtlgfmhhhecaddaaDoor
