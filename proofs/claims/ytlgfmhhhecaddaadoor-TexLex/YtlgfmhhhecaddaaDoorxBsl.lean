/- tex: what begins with a backslash. -/
import Derived.Test.YtlgfmhhhecaddaaDoorxRmk
namespace Go.Proofs.YtlgfmhhhecaddaaDoor
set_option linter.unusedVariables false
open Go.RowKit Go.ChangeShapes Go.Lib
namespace Lns
theorem nums_bt {l : List Int} {i : Nat} {x : Int} (hx : l[i]? = some x) (h : 0 ≤ x ∧ x < 256) : (bt (strOfNums l) i : Int) = x := by
  obtain ⟨hi, rfl⟩ := List.getElem?_eq_some_iff.1 hx
  unfold bt
  show (((strOfNums l).data[i]!).toNat : Int) = _
  have his : i < (strOfNums l).data.size := by show i < (strOfNums l).size; rw [strOfNums_size]; exact hi
  rw [getElem!_pos _ i his]
  simp only [strOfNums, List.getElem_toArray, List.getElem_map, UInt8.toNat_ofNat']
  rw [Nat.mod_eq_of_lt (by omega)]
  omega
theorem sign_low {s : ByteArray} {i : Nat} {r : Int} (h : Sign s i r) (hr : r < 128) : (bt s i : Int) = r ∧ lenR r = 1 := by
  have hv := (okR_iff r).1 h.1
  have he : enc r = [r] := by unfold enc; simp [h.1, hr]
  have h1 := h.2.2 0 r (by rw [he]; rfl)
  exact ⟨h1, by unfold lenR; rw [if_pos hr]⟩
theorem low_sign (s : ByteArray) (i : Nat) (h : bt s i < 128) : Utf8.decode s i = (bt s i, 1) := by
  rw [decode_at]
  exact dec_one _ _ _ _ _ h
end Lns
theorem bs_get {c : Nat → Int} {n j : Nat} (hC : ∀ i, i < n → 0 ≤ c i ∧ c i < 256) (h : j < n) : (((bs c n).get! j).toNat : Int) = c j := by
  have h1 : (cl c n)[j]? = some (c j) := cl_at c n j h
  exact Lns.nums_bt h1 (hC j h)
theorem bs_by {w : World} {b off n : Nat} {c : Nat → Int} (hC : ∀ i, i < n → 0 ≤ c i ∧ c i < 256) (h : BC w (some ⟨b, off, none⟩) n c) : Lns.By w b off (bs c n) := fun j hj => by
  rw [bs_size] at hj
  obtain ⟨b', off', e, hc⟩ := h j hj
  injection e with e
  injection e with e1 e2 _
  subst e1 e2
  rw [hc, ← bs_get hC hj]
theorem rnE_bd (s : ByteArray) (p : Nat) : -1 ≤ rnE s p ∧ rnE s p ≤ 1114111 := by
  unfold rnE
  by_cases h : p < s.size
  · rw [if_pos h]
    rcases rn_range s p h with h1 | h1
    · rw [h1]; decide
    · have := (okR_iff _).1 h1; omega
  · rw [if_neg h]; decide
theorem next_e {s : ByteArray} {w : World} {b off cap p : Nat} {ad : Option Addr} (hp : p ≤ s.size) (hcap : s.size ≤ cap) (ha : (if cap = p then some (⟨b, off, none⟩ : Addr) else some ⟨b, off + p, none⟩) = ad) (hT : Lns.Tabs w) (hb : Lns.By w b off s) :
    Calls Tryd.prog 40 #[.slice ad (s.size - p) (cap - p)] w fun e w' => e = .returned (.tuple #[.int .i32 (rnE s p), .int .i64 (wdE s p : Nat)]) ∧ Below w.heap.size w w' := by
  by_cases h : p < s.size
  · rw [if_neg (by omega)] at ha
    subst ha
    unfold rnE wdE
    rw [if_pos h, if_pos h]
    exact Lns.next_at s p b off (cap - p) w h hT hb
  · obtain rfl : p = s.size := by omega
    unfold rnE wdE
    rw [if_neg h, if_neg h, Nat.sub_self]
    have key : ∀ b' off', Calls Tryd.prog 40 #[.slice (some ⟨b', off', none⟩) 0 (cap - s.size)] w fun e w' => e = .returned (.tuple #[.int .i32 (-1), .int .i64 ((0 : Nat) : Int)]) ∧ Below w.heap.size w w' := fun b' off' => Lns.next_go ⟨#[]⟩ b' off' (cap - s.size) w hT (fun j hj => absurd hj (Nat.not_lt_zero _))
    by_cases h2 : cap = s.size
    · rw [if_pos h2] at ha; subst ha; exact key _ _
    · rw [if_neg h2] at ha; subst ha; exact key _ _
theorem rn_low {c : Nat → Int} {n : Nat} (hC : Ch c n) {p : Nat} (hp : p ≤ n) : rnE (bs c n) p = c p ∨ (128 ≤ c p ∧ (rnE (bs c n) p = -1 ∨ 128 ≤ rnE (bs c n) p)) := by
  unfold rnE
  by_cases h : p < n
  · rw [if_pos (by rw [bs_size]; exact h)]
    have hg := bs_get hC.1 h
    have hb : (bt (bs c n) p : Int) = c p := hg
    by_cases h1 : c p < 128
    · left
      have hd := Lns.low_sign (bs c n) p (by omega)
      unfold rn kn
      rw [hd, if_neg (by dsimp only; omega)]
      exact hb
    · right
      refine ⟨by omega, ?_⟩
      rcases sign_or (bs c n) p (by rw [bs_size]; exact h) with h2 | ⟨_, h2, _⟩
      · right
        rcases Int.lt_or_le (rn (bs c n) p) 128 with h3 | h3
        · have := (Lns.sign_low h2 h3).1
          omega
        · exact h3
      · exact Or.inl h2
  · rw [if_neg (by rw [bs_size]; exact h)]
    exact Or.inl (hC.2 p (by omega)).symm
theorem rn_is {c : Nat → Int} {n : Nat} (hC : Ch c n) {p : Nat} (hp : p ≤ n) (x : Int) (h0 : 0 ≤ x) (h1 : x < 128) : (rnE (bs c n) p == x) = (c p == x) := by
  rcases rn_low hC hp with h | ⟨h2, h3⟩
  · rw [h]
  · have e1 : (rnE (bs c n) p == x) = false := by simp; omega
    have e2 : (c p == x) = false := by simp; omega
    rw [e1, e2]
theorem rn_lt {c : Nat → Int} {n : Nat} (hC : Ch c n) {p : Nat} (hp : p ≤ n) : ltB (rnE (bs c n) p) = ltB (c p) := by
  rcases rn_low hC hp with h | ⟨h2, h3⟩
  · rw [h]
  · have e : ∀ x : Int, x = -1 ∨ 128 ≤ x → ltB x = false := fun x hx => by
      unfold ltB grB
      rcases hx with rfl | hx
      · decide
      · rw [decide_eq_false (show ¬ x ≤ 122 by omega), decide_eq_false (show ¬ x ≤ 90 by omega)]; simp
    rw [e _ h3, e _ (Or.inr h2)]
section
variable {w0 w : World} {S b off n cap B T gs i : Nat} {c L : Nat → Int}
theorem En.nxt {w : World} (hs : Sta S b n cap B T gs c) (h : En w0 S w b off n cap B T gs c L i) (p : Nat) (hp : p ≤ n) {ad : Option Addr} (ha : (if cap = p then some (⟨b, off, none⟩ : Addr) else some ⟨b, off + p, none⟩) = ad) :
    Calls Tryd.prog 40 #[.slice ad (n - p) (cap - p)] w fun e w' => e = .returned (.tuple #[.int .i32 (rnE (bs c n) p), .int .i64 (wdE (bs c n) p : Nat)]) ∧ Below w.heap.size w w' := by
  have := next_e (s := bs c n) (b := b) (off := off) (cap := cap) (p := p) (by rw [bs_size]; exact hp) (by rw [bs_size]; exact hs.nc) ha h.gl.2 (bs_by hs.ch.1 h.bc)
  rw [bs_size] at this
  exact this
set_option maxRecDepth 100000 in
set_option maxHeartbeats 2000000 in
theorem bsl_par (hs : Sta S b n cap B T gs c) (h : En w0 S w b off n cap B T gs c L i) (hi : i < n) (h1 : c (i + 1) = 40) :
    Calls Tryd.prog 26 #[.pointer (some ⟨B, 0, none⟩)] w (SP w0 S b off n cap B T gs c (stp 19 B) (setL L 4 (i : Int) ((bh [92, 41] c n (i + 2) : Nat) : Int)) (bh [92, 41] c n (i + 2))) := by
  obtain ⟨x0, x1, x2⟩ := h.cells
  have hn := hs.n6
  have hnc := hs.nc
  have hbig := hs.big
  obtain ⟨rr, hrr⟩ : ∃ rr, rnE (bs c n) (i + 1) = rr := ⟨_, rfl⟩
  obtain ⟨ww, hww⟩ : ∃ ww, wdE (bs c n) (i + 1) = ww := ⟨_, rfl⟩
  have HRW : Hid (rnE (bs c n) (i + 1) = rr ∧ wdE (bs c n) (i + 1) = ww) := ⟨hrr, hww⟩
  have f40 := rn_is hs.ch (p := i + 1) (by omega) 40 (by decide) (by decide)
  have f91 := rn_is hs.ch (p := i + 1) (by omega) 91 (by decide) (by decide)
  have flt := rn_lt hs.ch (p := i + 1) (by omega)
  rw [hrr] at f40 f91 flt
  have k1 : (rr == 40) = true := by rw [f40, h1]; rfl
  have hi2 := in_of hs.ch (i := i + 1) (by omega)
  obtain ⟨R, hRR⟩ : ∃ R, bh [92, 41] c n (i + 2) = R := ⟨_, rfl⟩
  have hR := bh_le hs.ch.2 [92, 41] (byt_lit _ rfl) (by simp) (i + 2) (by omega)
  rw [hRR] at hR ⊢
  have HR : Hid (bh [92, 41] c n (i + 2) = R) := hRR
  obtain ⟨k, hk⟩ : ∃ k, i + 2 = k := ⟨_, rfl⟩
  rw [hk] at hR HR
  have hw2 : IntKind.i64.wrap ((i : Int) + 2) = (k : Int) := (IntWalk.i64_in _ (by omega)).trans (by omega)
  have hkn : k ≤ n := by omega
  clear f40 f91 flt h1 hrr hww hRR hk
  have HH : Hid (Sta S b n cap B T gs c ∧ En w0 S w b off n cap B T gs c L i) := ⟨hs, h⟩
  obtain ⟨j, hj⟩ : ∃ j, i + 1 = j := ⟨_, rfl⟩
  have hwj : IntKind.i64.wrap ((i : Int) + 1) = (j : Int) := (IntWalk.i64_in _ (by omega)).trans (by omega)
  have HJ : Hid (i + 1 = j) := hj
  obtain ⟨ad, ha⟩ : ∃ ad, (if cap = j then some (⟨b, off, none⟩ : Addr) else some ⟨b, off + j, none⟩) = ad := ⟨_, rfl⟩
  have cn : Hid (∀ w', En w0 S w' b off n cap B T gs c L i → Calls Tryd.prog 40 #[.slice ad (n - j) (cap - j)] w' fun e w2 => e = .returned (.tuple #[.int .i32 rr, .int .i64 (ww : Nat)]) ∧ Below w'.heap.size w' w2) := fun w' h' => by
    have := h'.nxt HH.out.1 j (by omega) ha
    rw [← HJ.out, HRW.out.1, HRW.out.2, HJ.out] at this
    exact this
  obtain ⟨Q, hQ⟩ : ∃ Q, SP w0 S b off n cap B T gs c (stp 19 B) (setL L 4 (i : Int) (R : Int)) R = Q := ⟨_, rfl⟩
  rw [hQ]
  have HQ : Hid (SP w0 S b off n cap B T gs c (stp 19 B) (setL L 4 (i : Int) (R : Int)) R = Q) := hQ
  have z1 : (0 : Int) ≤ (j : Int) := by omega
  have z2 : (j : Int) ≤ (n : Int) := by omega
  have z3 : (n : Int) ≤ (cap : Int) := by omega
  clear hs h hQ hj
  go_enter Tryd.func26, Tryd.ntmps26
  go_upto_region 1 with fail
  refine wp_region_held_drew (S := fun w' => w'.cell? ⟨B, 1, none⟩ = some (.slice (some ⟨b, off, none⟩) n cap) ∧ w'.cell? ⟨B, 2, none⟩ = some (.int .i64 i)) (by kernel_rfl) ⟨x1, x2⟩ (fun hHeld => ?_)
  clear hHeld
  refine takeH (i := 0) (v := ?_) (d := (some 6)) rfl (by kernel_rfl) (by kernel_rfl) (by kernel_rfl) rfl (fun _ _ _ h => h) (Or.inl ⟨by kernel_rfl, ?_⟩) (by first | assumption | trivial) ?_; rotate_left
  · (intro w hSw; (try dsimp only at hSw); first | (go_simp; done) | (go_simp; with_reducible rfl))
  (try simp only [Act.put, List.setIfInBounds_toArray, List.set_cons_zero, List.set_cons_succ])
  refine takeH (i := 1) (v := ?_) (d := (some 7)) rfl (by kernel_rfl) (by kernel_rfl) (by kernel_rfl) rfl (fun _ _ _ h => h) (Or.inl ⟨by kernel_rfl, ?_⟩) (by first | assumption | trivial) ?_; rotate_left
  · (intro w hSw; (try dsimp only at hSw); first | (go_simp; done) | (go_simp; with_reducible rfl))
  (try simp only [Act.put, List.setIfInBounds_toArray, List.set_cons_zero, List.set_cons_succ])
  refine takeH (i := 2) (v := ?_) (d := (some 8)) rfl (by kernel_rfl) (by kernel_rfl) (by kernel_rfl) rfl (fun _ _ _ h => h) (Or.inl ⟨by kernel_rfl, ?_⟩) (by first | assumption | trivial) ?_; rotate_left
  · (intro w hSw; (try dsimp only at hSw); first | (go_simp; done) | (go_simp; with_reducible rfl))
  (try simp only [Act.put, List.setIfInBounds_toArray, List.set_cons_zero, List.set_cons_succ])
  refine takeH (i := 3) (v := ?_) (d := (some 9)) rfl (by kernel_rfl) (by kernel_rfl) (by kernel_rfl) rfl (fun _ _ _ h => h) (Or.inl ⟨by kernel_rfl, ?_⟩) (by first | assumption | trivial) ?_; rotate_left
  · (intro w hSw; (try dsimp only at hSw); first | (go_simp; done) | (go_simp; with_reducible rfl))
  (try simp only [Act.put, List.setIfInBounds_toArray, List.set_cons_zero, List.set_cons_succ])
  refine takeH (i := 4) (v := ?_) (d := (some 10)) rfl (by kernel_rfl) (by kernel_rfl) (by kernel_rfl) rfl (fun _ _ _ h => h) (Or.inl ⟨by kernel_rfl, ?_⟩) (by first | assumption | trivial) ?_; rotate_left
  · (intro w hSw; (try dsimp only at hSw); first | (go_simp; done) | (go_simp; with_reducible rfl))
  (try simp only [Act.put, List.setIfInBounds_toArray, List.set_cons_zero, List.set_cons_succ])
  refine takeH (i := 5) (v := ?_) (d := (some 11)) rfl (by kernel_rfl) (by kernel_rfl) (by kernel_rfl) rfl (fun _ _ _ h => h) (Or.inl ⟨by kernel_rfl, ?_⟩) (by first | assumption | trivial) ?_; rotate_left
  · (intro w hSw; (try dsimp only at hSw); first | (go_simp; done) | (go_simp; with_reducible rfl))
  (try simp only [Act.put, List.setIfInBounds_toArray, List.set_cons_zero, List.set_cons_succ])
  refine takeH (i := 6) (v := ?_) (d := (some 12)) rfl (by kernel_rfl) (by kernel_rfl) (by kernel_rfl) rfl (fun _ _ _ h => h) (Or.inl ⟨by kernel_rfl, ?_⟩) (by first | assumption | trivial) ?_; rotate_left
  · (intro w hSw; (try dsimp only at hSw); first | (go_simp; done) | (go_simp; with_reducible rfl))
  (try simp only [Act.put, List.setIfInBounds_toArray, List.set_cons_zero, List.set_cons_succ])
  refine takeH (i := 7) (v := ?_) (d := (some 13)) rfl (by kernel_rfl) (by kernel_rfl) (by kernel_rfl) rfl (fun _ _ _ h => h) (Or.inl ⟨by kernel_rfl, ?_⟩) (by first | assumption | trivial) ?_; rotate_left
  · (intro w hSw; (try dsimp only at hSw); first | (go_simp; done) | (go_simp; with_reducible rfl))
  (try simp only [Act.put, List.setIfInBounds_toArray, List.set_cons_zero, List.set_cons_succ])
  refine takeH (i := 8) (v := ?_) (d := (some 14)) rfl (by kernel_rfl) (by kernel_rfl) (by kernel_rfl) rfl (fun _ _ _ h => h) (Or.inl ⟨by kernel_rfl, ?_⟩) (by first | assumption | trivial) ?_; rotate_left
  · (intro w hSw; (try dsimp only at hSw); first | (go_simp; done) | (go_simp; with_reducible rfl))
  (try simp only [Act.put, List.setIfInBounds_toArray, List.set_cons_zero, List.set_cons_succ])
  refine takeH (i := 9) (v := ?_) (d := (some 15)) rfl (by kernel_rfl) (by kernel_rfl) (by kernel_rfl) rfl (fun _ _ _ h => h) (Or.inl ⟨by kernel_rfl, ?_⟩) (by first | assumption | trivial) ?_; rotate_left
  · (intro w hSw; (try dsimp only at hSw); first | (go_simp; done) | (go_simp; with_reducible rfl))
  (try simp only [Act.put, List.setIfInBounds_toArray, List.set_cons_zero, List.set_cons_succ])
  refine wpAnyH_ready (rs := [10]) (by kernel_rfl) (by simp) (AllReadyH.cons rfl (fun K hK => ?_) AllReadyH.nil)
  go_simp
  refine (cn.out _ HH.out.2.drew).mono ?_
  rintro ev w1 ⟨rfl, hb1⟩
  have HE : Hid (En w0 S w1 b off n cap B T gs c L i) := HH.out.2.drew.stay hb1
  clear hb1 cn x0 x1 x2
  obtain ⟨x0, x1, x2⟩ := HE.out.cells
  refine hK.out _ _ ⟨x1, x2⟩ (fun hHeld => ?_)
  clear hK K hHeld
  (try simp only [Act.put, List.setIfInBounds_toArray, List.set_cons_zero, List.set_cons_succ])
  refine takeH (i := 11) (v := ?_) (d := (some 5)) rfl (by kernel_rfl) (by kernel_rfl) (by kernel_rfl) rfl (fun _ _ _ h => h) (Or.inl ⟨by kernel_rfl, ?_⟩) (by first | assumption | trivial) ?_; rotate_left
  · (intro w hSw; (try dsimp only at hSw); first | (go_simp; done) | (go_simp; with_reducible rfl))
  (try simp only [Act.put, List.setIfInBounds_toArray, List.set_cons_zero, List.set_cons_succ])
  refine takeH (i := 12) (v := ?_) (d := (some 17)) rfl (by kernel_rfl) (by kernel_rfl) (by kernel_rfl) rfl (fun _ _ _ h => h) (Or.inl ⟨by kernel_rfl, ?_⟩) (by first | assumption | trivial) ?_; rotate_left
  · (intro w hSw; (try dsimp only at hSw); first | (go_simp; done) | (go_simp; with_reducible rfl))
  (try simp only [Act.put, List.setIfInBounds_toArray, List.set_cons_zero, List.set_cons_succ])
  refine takeH (i := 13) (v := ?_) (d := (some 18)) rfl (by kernel_rfl) (by kernel_rfl) (by kernel_rfl) rfl (fun _ _ _ h => h) (Or.inl ⟨by kernel_rfl, ?_⟩) (by first | assumption | trivial) ?_; rotate_left
  · (intro w hSw; (try dsimp only at hSw); first | (go_simp; done) | (go_simp; with_reducible rfl))
  (try simp only [Act.put, List.setIfInBounds_toArray, List.set_cons_zero, List.set_cons_succ])
  refine takeH (i := 14) (v := ?_) (d := (some 3)) rfl (by kernel_rfl) (by kernel_rfl) (by kernel_rfl) rfl (fun _ _ _ h => h) (Or.inl ⟨by kernel_rfl, ?_⟩) (by first | assumption | trivial) ?_; rotate_left
  · (intro w hSw; (try dsimp only at hSw); first | (go_simp; done) | (go_simp; with_reducible rfl))
  (try simp only [Act.put, List.setIfInBounds_toArray, List.set_cons_zero, List.set_cons_succ])
  refine takeH (i := 15) (v := ?_) (d := (some 4)) rfl (by kernel_rfl) (by kernel_rfl) (by kernel_rfl) rfl (fun _ _ _ h => h) (Or.inl ⟨by kernel_rfl, ?_⟩) (by first | assumption | trivial) ?_; rotate_left
  · (intro w hSw; (try dsimp only at hSw); first | (go_simp; done) | (go_simp; with_reducible rfl))
  (try simp only [Act.put, List.setIfInBounds_toArray, List.set_cons_zero, List.set_cons_succ])
  refine wpAnyH_done (by kernel_rfl) ?_ _
  obtain ⟨_, HH⟩ : True ∧ Hid (Sta S b n cap B T gs c ∧ En w0 S w1 b off n cap B T gs c L i) := ⟨trivial, HH.out.1, HE.out⟩
  clear HE ha z1 z2 z3 hwj HJ
  generalize w1 = w at *
  go_upto_region 3 with fail
  refine wp_region_held_drew (S := fun _ => True) (by kernel_rfl) trivial (fun hHeld => ?_)
  clear hHeld
  obtain ⟨W, hW⟩ : ∃ W, w.drew = W := ⟨_, rfl⟩
  have HE : Hid (En w0 S W b off n cap B T gs c L i) := by rw [← hW]; exact HH.out.2.drew
  rw [hW]
  clear hW x0 x1 x2
  obtain ⟨x0, x1, x2⟩ := HE.out.cells
  refine takeH (i := 0) (v := ?_) (d := (some 22)) rfl (by kernel_rfl) (by kernel_rfl) (by kernel_rfl) rfl (fun _ _ _ h => h) (Or.inl ⟨by kernel_rfl, ?_⟩) (by first | assumption | trivial) ?_; rotate_left
  · (intro w hSw; (try dsimp only at hSw); first | (go_simp; done) | (go_simp; with_reducible rfl))
  (try simp only [Act.put, List.setIfInBounds_toArray, List.set_cons_zero, List.set_cons_succ])
  refine takeH (i := 1) (v := ?_) (d := (some 23)) rfl (by kernel_rfl) (by kernel_rfl) (by kernel_rfl) rfl (fun _ _ _ h => h) (Or.inl ⟨by kernel_rfl, ?_⟩) (by first | assumption | trivial) ?_; rotate_left
  · (intro w hSw; (try dsimp only at hSw); first | (go_simp; done) | (go_simp; with_reducible rfl))
  (try simp only [Act.put, List.setIfInBounds_toArray, List.set_cons_zero, List.set_cons_succ])
  refine takeH (i := 2) (v := ?_) (d := (some 24)) rfl (by kernel_rfl) (by kernel_rfl) (by kernel_rfl) rfl (fun _ _ _ h => h) (Or.inl ⟨by kernel_rfl, ?_⟩) (by first | assumption | trivial) ?_; rotate_left
  · (intro w hSw; (try dsimp only at hSw); first | (go_simp; done) | (go_simp; with_reducible rfl))
  (try simp only [Act.put, List.setIfInBounds_toArray, List.set_cons_zero, List.set_cons_succ])
  refine takeH (i := 3) (v := ?_) (d := (some 25)) rfl (by kernel_rfl) (by kernel_rfl) (by kernel_rfl) rfl (fun _ _ _ h => h) (Or.inl ⟨by kernel_rfl, ?_⟩) (by first | assumption | trivial) ?_; rotate_left
  · (intro w hSw; (try dsimp only at hSw); first | (go_simp; done) | (go_simp; with_reducible rfl))
  (try simp only [Act.put, List.setIfInBounds_toArray, List.set_cons_zero, List.set_cons_succ])
  refine takeH (i := 5) (v := ?_) (d := (some 27)) rfl (by kernel_rfl) (by kernel_rfl) (by kernel_rfl) rfl (fun _ _ _ h => h) (Or.inl ⟨by kernel_rfl, ?_⟩) (by first | assumption | trivial) ?_; rotate_left
  · (intro w hSw; (try dsimp only at hSw); first | (go_simp; done) | (go_simp; with_reducible rfl))
  (try simp only [Act.put, List.setIfInBounds_toArray, List.set_cons_zero, List.set_cons_succ])
  refine takeH (i := 6) (v := ?_) (d := (some 28)) rfl (by kernel_rfl) (by kernel_rfl) (by kernel_rfl) rfl (fun _ _ _ h => h) (Or.inl ⟨by kernel_rfl, ?_⟩) (by first | assumption | trivial) ?_; rotate_left
  · (intro w hSw; (try dsimp only at hSw); first | (go_simp; done) | (go_simp; with_reducible rfl))
  (try simp only [Act.put, List.setIfInBounds_toArray, List.set_cons_zero, List.set_cons_succ])
  refine takeH (i := 7) (v := ?_) (d := (some 29)) rfl (by kernel_rfl) (by kernel_rfl) (by kernel_rfl) rfl (fun _ _ _ h => h) (Or.inl ⟨by kernel_rfl, ?_⟩) (by first | assumption | trivial) ?_; rotate_left
  · (intro w hSw; (try dsimp only at hSw); first | (go_simp; done) | (go_simp; with_reducible rfl))
  (try simp only [Act.put, List.setIfInBounds_toArray, List.set_cons_zero, List.set_cons_succ])
  refine wpAnyH_ready (rs := [4, 8]) (by kernel_rfl) (by simp) (AllReadyH.cons rfl (fun K hK => ?_) (AllReadyH.cons rfl (fun K hK => ?_) AllReadyH.nil))
  · rw [if_pos (by kernel_rfl)]
    go_simp
    refine hK.out _ _ trivial (fun hHeld => ?_)
    clear hK K hHeld
    (try simp only [Act.put, List.setIfInBounds_toArray, List.set_cons_zero, List.set_cons_succ])
    refine wpAnyH_ready (rs := [8]) (by kernel_rfl) (by simp) (AllReadyH.cons rfl (fun K hK => ?_) AllReadyH.nil)
    rw [if_pos (by kernel_rfl)]
    go_simp
    refine hK.out _ _ trivial (fun hHeld => ?_)
    clear hK K hHeld
    (try simp only [Act.put, List.setIfInBounds_toArray, List.set_cons_zero, List.set_cons_succ])
    refine takeH (i := 9) (v := ?_) (d := (some 31)) rfl (by kernel_rfl) (by kernel_rfl) (by kernel_rfl) rfl (fun _ _ _ h => h) (Or.inl ⟨by kernel_rfl, ?_⟩) (by first | assumption | trivial) ?_; rotate_left
    · (intro w hSw; (try dsimp only at hSw); first | (go_simp; done) | (go_simp; with_reducible rfl))
    (try simp only [Act.put, List.setIfInBounds_toArray, List.set_cons_zero, List.set_cons_succ])
    refine wpAnyH_ready (rs := [10]) (by kernel_rfl) (by simp) (AllReadyH.cons rfl (fun K hK => ?_) AllReadyH.nil)
    go_simp
    refine (HE.out.bhd HH.out.1 k hkn [92, 41] (byt_lit _ rfl) (by simp) (by decide) ⟨#[92, 41]⟩ (by kernel_rfl) R HR.out).mono ?_
    rintro ev w1 ⟨rfl, hb1⟩
    have HE1 : Hid (En w0 S w1 b off n cap B T gs c L i) := HE.out.stay hb1
    clear hb1
    refine hK.out _ _ trivial (fun hHeld => ?_)
    clear hK K hHeld
    (try simp only [Act.put, List.setIfInBounds_toArray, List.set_cons_zero, List.set_cons_succ])
    refine wpAnyH_ready (rs := [11]) (by kernel_rfl) (by simp) (AllReadyH.cons rfl (fun K hK => ?_) AllReadyH.nil)
    go_simp
    refine (flay_any HH.out.1 HE1.out (by omega) 4 R R (by omega) (by omega)).mono ?_
    rintro ev w2 ⟨rfl, hE2⟩
    have HE2 := Hid.mk' hE2
    clear hE2
    refine hK.out _ _ trivial (fun hHeld => ?_)
    clear hK K hHeld
    (try simp only [Act.put, List.setIfInBounds_toArray, List.set_cons_zero, List.set_cons_succ])
    refine takeH (i := 12) (v := ?_) (d := (some 2)) rfl (by kernel_rfl) (by kernel_rfl) (by kernel_rfl) rfl (fun _ _ _ h => h) (Or.inl ⟨by kernel_rfl, ?_⟩) (by first | assumption | trivial) ?_; rotate_left
    · (intro w hSw; (try dsimp only at hSw); first | (go_simp; done) | (go_simp; with_reducible rfl))
    (try simp only [Act.put, List.setIfInBounds_toArray, List.set_cons_zero, List.set_cons_succ])
    refine wpAnyH_done (by kernel_rfl) ?_ _
    go_wp2
    rw [← HQ.out]
    exact ⟨rfl, HE2.out⟩
  · rw [if_pos (by kernel_rfl)]
    go_simp
    refine hK.out _ _ trivial (fun hHeld => ?_)
    clear hK K hHeld
    (try simp only [Act.put, List.setIfInBounds_toArray, List.set_cons_zero, List.set_cons_succ])
    refine takeH (i := 9) (v := ?_) (d := (some 31)) rfl (by kernel_rfl) (by kernel_rfl) (by kernel_rfl) rfl (fun _ _ _ h => h) (Or.inl ⟨by kernel_rfl, ?_⟩) (by first | assumption | trivial) ?_; rotate_left
    · (intro w hSw; (try dsimp only at hSw); first | (go_simp; done) | (go_simp; with_reducible rfl))
    (try simp only [Act.put, List.setIfInBounds_toArray, List.set_cons_zero, List.set_cons_succ])
    refine wpAnyH_ready (rs := [4]) (by kernel_rfl) (by simp) (AllReadyH.cons rfl (fun K hK => ?_) AllReadyH.nil)
    rw [if_pos (by kernel_rfl)]
    go_simp
    refine hK.out _ _ trivial (fun hHeld => ?_)
    clear hK K hHeld
    (try simp only [Act.put, List.setIfInBounds_toArray, List.set_cons_zero, List.set_cons_succ])
    refine wpAnyH_ready (rs := [10]) (by kernel_rfl) (by simp) (AllReadyH.cons rfl (fun K hK => ?_) AllReadyH.nil)
    go_simp
    refine (HE.out.bhd HH.out.1 k hkn [92, 41] (byt_lit _ rfl) (by simp) (by decide) ⟨#[92, 41]⟩ (by kernel_rfl) R HR.out).mono ?_
    rintro ev w1 ⟨rfl, hb1⟩
    have HE1 : Hid (En w0 S w1 b off n cap B T gs c L i) := HE.out.stay hb1
    clear hb1
    refine hK.out _ _ trivial (fun hHeld => ?_)
    clear hK K hHeld
    (try simp only [Act.put, List.setIfInBounds_toArray, List.set_cons_zero, List.set_cons_succ])
    refine wpAnyH_ready (rs := [11]) (by kernel_rfl) (by simp) (AllReadyH.cons rfl (fun K hK => ?_) AllReadyH.nil)
    go_simp
    refine (flay_any HH.out.1 HE1.out (by omega) 4 R R (by omega) (by omega)).mono ?_
    rintro ev w2 ⟨rfl, hE2⟩
    have HE2 := Hid.mk' hE2
    clear hE2
    refine hK.out _ _ trivial (fun hHeld => ?_)
    clear hK K hHeld
    (try simp only [Act.put, List.setIfInBounds_toArray, List.set_cons_zero, List.set_cons_succ])
    refine takeH (i := 12) (v := ?_) (d := (some 2)) rfl (by kernel_rfl) (by kernel_rfl) (by kernel_rfl) rfl (fun _ _ _ h => h) (Or.inl ⟨by kernel_rfl, ?_⟩) (by first | assumption | trivial) ?_; rotate_left
    · (intro w hSw; (try dsimp only at hSw); first | (go_simp; done) | (go_simp; with_reducible rfl))
    (try simp only [Act.put, List.setIfInBounds_toArray, List.set_cons_zero, List.set_cons_succ])
    refine wpAnyH_done (by kernel_rfl) ?_ _
    go_wp2
    rw [← HQ.out]
    exact ⟨rfl, HE2.out⟩
set_option maxRecDepth 100000 in
set_option maxHeartbeats 2000000 in
theorem bsl_brk (hs : Sta S b n cap B T gs c) (h : En w0 S w b off n cap B T gs c L i) (hi : i < n) (h1 : c (i + 1) = 91) :
    Calls Tryd.prog 26 #[.pointer (some ⟨B, 0, none⟩)] w (SP w0 S b off n cap B T gs c (stp 19 B) (setL L 4 (i : Int) ((bh [92, 93] c n (i + 2) : Nat) : Int)) (bh [92, 93] c n (i + 2))) := by
  obtain ⟨x0, x1, x2⟩ := h.cells
  have hn := hs.n6
  have hnc := hs.nc
  have hbig := hs.big
  obtain ⟨rr, hrr⟩ : ∃ rr, rnE (bs c n) (i + 1) = rr := ⟨_, rfl⟩
  obtain ⟨ww, hww⟩ : ∃ ww, wdE (bs c n) (i + 1) = ww := ⟨_, rfl⟩
  have HRW : Hid (rnE (bs c n) (i + 1) = rr ∧ wdE (bs c n) (i + 1) = ww) := ⟨hrr, hww⟩
  have f40 := rn_is hs.ch (p := i + 1) (by omega) 40 (by decide) (by decide)
  have f91 := rn_is hs.ch (p := i + 1) (by omega) 91 (by decide) (by decide)
  have flt := rn_lt hs.ch (p := i + 1) (by omega)
  rw [hrr] at f40 f91 flt
  have k1 : (rr == 40) = false := by rw [f40, h1]; rfl
  have k2 : (rr == 91) = true := by rw [f91, h1]; rfl
  have hi2 := in_of hs.ch (i := i + 1) (by omega)
  obtain ⟨R, hRR⟩ : ∃ R, bh [92, 93] c n (i + 2) = R := ⟨_, rfl⟩
  have hR := bh_le hs.ch.2 [92, 93] (byt_lit _ rfl) (by simp) (i + 2) (by omega)
  rw [hRR] at hR ⊢
  have HR : Hid (bh [92, 93] c n (i + 2) = R) := hRR
  obtain ⟨k, hk⟩ : ∃ k, i + 2 = k := ⟨_, rfl⟩
  rw [hk] at hR HR
  have hw2 : IntKind.i64.wrap ((i : Int) + 2) = (k : Int) := (IntWalk.i64_in _ (by omega)).trans (by omega)
  have hkn : k ≤ n := by omega
  clear f40 f91 flt h1 hrr hww hRR hk
  have HH : Hid (Sta S b n cap B T gs c ∧ En w0 S w b off n cap B T gs c L i) := ⟨hs, h⟩
  obtain ⟨j, hj⟩ : ∃ j, i + 1 = j := ⟨_, rfl⟩
  have hwj : IntKind.i64.wrap ((i : Int) + 1) = (j : Int) := (IntWalk.i64_in _ (by omega)).trans (by omega)
  have HJ : Hid (i + 1 = j) := hj
  obtain ⟨ad, ha⟩ : ∃ ad, (if cap = j then some (⟨b, off, none⟩ : Addr) else some ⟨b, off + j, none⟩) = ad := ⟨_, rfl⟩
  have cn : Hid (∀ w', En w0 S w' b off n cap B T gs c L i → Calls Tryd.prog 40 #[.slice ad (n - j) (cap - j)] w' fun e w2 => e = .returned (.tuple #[.int .i32 rr, .int .i64 (ww : Nat)]) ∧ Below w'.heap.size w' w2) := fun w' h' => by
    have := h'.nxt HH.out.1 j (by omega) ha
    rw [← HJ.out, HRW.out.1, HRW.out.2, HJ.out] at this
    exact this
  obtain ⟨Q, hQ⟩ : ∃ Q, SP w0 S b off n cap B T gs c (stp 19 B) (setL L 4 (i : Int) (R : Int)) R = Q := ⟨_, rfl⟩
  rw [hQ]
  have HQ : Hid (SP w0 S b off n cap B T gs c (stp 19 B) (setL L 4 (i : Int) (R : Int)) R = Q) := hQ
  have z1 : (0 : Int) ≤ (j : Int) := by omega
  have z2 : (j : Int) ≤ (n : Int) := by omega
  have z3 : (n : Int) ≤ (cap : Int) := by omega
  clear hs h hQ hj
  go_enter Tryd.func26, Tryd.ntmps26
  go_upto_region 1 with fail
  refine wp_region_held_drew (S := fun w' => w'.cell? ⟨B, 1, none⟩ = some (.slice (some ⟨b, off, none⟩) n cap) ∧ w'.cell? ⟨B, 2, none⟩ = some (.int .i64 i)) (by kernel_rfl) ⟨x1, x2⟩ (fun hHeld => ?_)
  clear hHeld
  refine takeH (i := 0) (v := ?_) (d := (some 6)) rfl (by kernel_rfl) (by kernel_rfl) (by kernel_rfl) rfl (fun _ _ _ h => h) (Or.inl ⟨by kernel_rfl, ?_⟩) (by first | assumption | trivial) ?_; rotate_left
  · (intro w hSw; (try dsimp only at hSw); first | (go_simp; done) | (go_simp; with_reducible rfl))
  (try simp only [Act.put, List.setIfInBounds_toArray, List.set_cons_zero, List.set_cons_succ])
  refine takeH (i := 1) (v := ?_) (d := (some 7)) rfl (by kernel_rfl) (by kernel_rfl) (by kernel_rfl) rfl (fun _ _ _ h => h) (Or.inl ⟨by kernel_rfl, ?_⟩) (by first | assumption | trivial) ?_; rotate_left
  · (intro w hSw; (try dsimp only at hSw); first | (go_simp; done) | (go_simp; with_reducible rfl))
  (try simp only [Act.put, List.setIfInBounds_toArray, List.set_cons_zero, List.set_cons_succ])
  refine takeH (i := 2) (v := ?_) (d := (some 8)) rfl (by kernel_rfl) (by kernel_rfl) (by kernel_rfl) rfl (fun _ _ _ h => h) (Or.inl ⟨by kernel_rfl, ?_⟩) (by first | assumption | trivial) ?_; rotate_left
  · (intro w hSw; (try dsimp only at hSw); first | (go_simp; done) | (go_simp; with_reducible rfl))
  (try simp only [Act.put, List.setIfInBounds_toArray, List.set_cons_zero, List.set_cons_succ])
  refine takeH (i := 3) (v := ?_) (d := (some 9)) rfl (by kernel_rfl) (by kernel_rfl) (by kernel_rfl) rfl (fun _ _ _ h => h) (Or.inl ⟨by kernel_rfl, ?_⟩) (by first | assumption | trivial) ?_; rotate_left
  · (intro w hSw; (try dsimp only at hSw); first | (go_simp; done) | (go_simp; with_reducible rfl))
  (try simp only [Act.put, List.setIfInBounds_toArray, List.set_cons_zero, List.set_cons_succ])
  refine takeH (i := 4) (v := ?_) (d := (some 10)) rfl (by kernel_rfl) (by kernel_rfl) (by kernel_rfl) rfl (fun _ _ _ h => h) (Or.inl ⟨by kernel_rfl, ?_⟩) (by first | assumption | trivial) ?_; rotate_left
  · (intro w hSw; (try dsimp only at hSw); first | (go_simp; done) | (go_simp; with_reducible rfl))
  (try simp only [Act.put, List.setIfInBounds_toArray, List.set_cons_zero, List.set_cons_succ])
  refine takeH (i := 5) (v := ?_) (d := (some 11)) rfl (by kernel_rfl) (by kernel_rfl) (by kernel_rfl) rfl (fun _ _ _ h => h) (Or.inl ⟨by kernel_rfl, ?_⟩) (by first | assumption | trivial) ?_; rotate_left
  · (intro w hSw; (try dsimp only at hSw); first | (go_simp; done) | (go_simp; with_reducible rfl))
  (try simp only [Act.put, List.setIfInBounds_toArray, List.set_cons_zero, List.set_cons_succ])
  refine takeH (i := 6) (v := ?_) (d := (some 12)) rfl (by kernel_rfl) (by kernel_rfl) (by kernel_rfl) rfl (fun _ _ _ h => h) (Or.inl ⟨by kernel_rfl, ?_⟩) (by first | assumption | trivial) ?_; rotate_left
  · (intro w hSw; (try dsimp only at hSw); first | (go_simp; done) | (go_simp; with_reducible rfl))
  (try simp only [Act.put, List.setIfInBounds_toArray, List.set_cons_zero, List.set_cons_succ])
  refine takeH (i := 7) (v := ?_) (d := (some 13)) rfl (by kernel_rfl) (by kernel_rfl) (by kernel_rfl) rfl (fun _ _ _ h => h) (Or.inl ⟨by kernel_rfl, ?_⟩) (by first | assumption | trivial) ?_; rotate_left
  · (intro w hSw; (try dsimp only at hSw); first | (go_simp; done) | (go_simp; with_reducible rfl))
  (try simp only [Act.put, List.setIfInBounds_toArray, List.set_cons_zero, List.set_cons_succ])
  refine takeH (i := 8) (v := ?_) (d := (some 14)) rfl (by kernel_rfl) (by kernel_rfl) (by kernel_rfl) rfl (fun _ _ _ h => h) (Or.inl ⟨by kernel_rfl, ?_⟩) (by first | assumption | trivial) ?_; rotate_left
  · (intro w hSw; (try dsimp only at hSw); first | (go_simp; done) | (go_simp; with_reducible rfl))
  (try simp only [Act.put, List.setIfInBounds_toArray, List.set_cons_zero, List.set_cons_succ])
  refine takeH (i := 9) (v := ?_) (d := (some 15)) rfl (by kernel_rfl) (by kernel_rfl) (by kernel_rfl) rfl (fun _ _ _ h => h) (Or.inl ⟨by kernel_rfl, ?_⟩) (by first | assumption | trivial) ?_; rotate_left
  · (intro w hSw; (try dsimp only at hSw); first | (go_simp; done) | (go_simp; with_reducible rfl))
  (try simp only [Act.put, List.setIfInBounds_toArray, List.set_cons_zero, List.set_cons_succ])
  refine wpAnyH_ready (rs := [10]) (by kernel_rfl) (by simp) (AllReadyH.cons rfl (fun K hK => ?_) AllReadyH.nil)
  go_simp
  refine (cn.out _ HH.out.2.drew).mono ?_
  rintro ev w1 ⟨rfl, hb1⟩
  have HE : Hid (En w0 S w1 b off n cap B T gs c L i) := HH.out.2.drew.stay hb1
  clear hb1 cn x0 x1 x2
  obtain ⟨x0, x1, x2⟩ := HE.out.cells
  refine hK.out _ _ ⟨x1, x2⟩ (fun hHeld => ?_)
  clear hK K hHeld
  (try simp only [Act.put, List.setIfInBounds_toArray, List.set_cons_zero, List.set_cons_succ])
  refine takeH (i := 11) (v := ?_) (d := (some 5)) rfl (by kernel_rfl) (by kernel_rfl) (by kernel_rfl) rfl (fun _ _ _ h => h) (Or.inl ⟨by kernel_rfl, ?_⟩) (by first | assumption | trivial) ?_; rotate_left
  · (intro w hSw; (try dsimp only at hSw); first | (go_simp; done) | (go_simp; with_reducible rfl))
  (try simp only [Act.put, List.setIfInBounds_toArray, List.set_cons_zero, List.set_cons_succ])
  refine takeH (i := 12) (v := ?_) (d := (some 17)) rfl (by kernel_rfl) (by kernel_rfl) (by kernel_rfl) rfl (fun _ _ _ h => h) (Or.inl ⟨by kernel_rfl, ?_⟩) (by first | assumption | trivial) ?_; rotate_left
  · (intro w hSw; (try dsimp only at hSw); first | (go_simp; done) | (go_simp; with_reducible rfl))
  (try simp only [Act.put, List.setIfInBounds_toArray, List.set_cons_zero, List.set_cons_succ])
  refine takeH (i := 13) (v := ?_) (d := (some 18)) rfl (by kernel_rfl) (by kernel_rfl) (by kernel_rfl) rfl (fun _ _ _ h => h) (Or.inl ⟨by kernel_rfl, ?_⟩) (by first | assumption | trivial) ?_; rotate_left
  · (intro w hSw; (try dsimp only at hSw); first | (go_simp; done) | (go_simp; with_reducible rfl))
  (try simp only [Act.put, List.setIfInBounds_toArray, List.set_cons_zero, List.set_cons_succ])
  refine takeH (i := 14) (v := ?_) (d := (some 3)) rfl (by kernel_rfl) (by kernel_rfl) (by kernel_rfl) rfl (fun _ _ _ h => h) (Or.inl ⟨by kernel_rfl, ?_⟩) (by first | assumption | trivial) ?_; rotate_left
  · (intro w hSw; (try dsimp only at hSw); first | (go_simp; done) | (go_simp; with_reducible rfl))
  (try simp only [Act.put, List.setIfInBounds_toArray, List.set_cons_zero, List.set_cons_succ])
  refine takeH (i := 15) (v := ?_) (d := (some 4)) rfl (by kernel_rfl) (by kernel_rfl) (by kernel_rfl) rfl (fun _ _ _ h => h) (Or.inl ⟨by kernel_rfl, ?_⟩) (by first | assumption | trivial) ?_; rotate_left
  · (intro w hSw; (try dsimp only at hSw); first | (go_simp; done) | (go_simp; with_reducible rfl))
  (try simp only [Act.put, List.setIfInBounds_toArray, List.set_cons_zero, List.set_cons_succ])
  refine wpAnyH_done (by kernel_rfl) ?_ _
  obtain ⟨_, HH⟩ : True ∧ Hid (Sta S b n cap B T gs c ∧ En w0 S w1 b off n cap B T gs c L i) := ⟨trivial, HH.out.1, HE.out⟩
  clear HE ha z1 z2 z3 hwj HJ
  generalize w1 = w at *
  go_upto_region 5 with fail
  refine wp_region_held_drew (S := fun _ => True) (by kernel_rfl) trivial (fun hHeld => ?_)
  clear hHeld
  obtain ⟨W, hW⟩ : ∃ W, w.drew = W := ⟨_, rfl⟩
  have HE : Hid (En w0 S W b off n cap B T gs c L i) := by rw [← hW]; exact HH.out.2.drew
  rw [hW]
  clear hW x0 x1 x2
  obtain ⟨x0, x1, x2⟩ := HE.out.cells
  refine takeH (i := 0) (v := ?_) (d := (some 37)) rfl (by kernel_rfl) (by kernel_rfl) (by kernel_rfl) rfl (fun _ _ _ h => h) (Or.inl ⟨by kernel_rfl, ?_⟩) (by first | assumption | trivial) ?_; rotate_left
  · (intro w hSw; (try dsimp only at hSw); first | (go_simp; done) | (go_simp; with_reducible rfl))
  (try simp only [Act.put, List.setIfInBounds_toArray, List.set_cons_zero, List.set_cons_succ])
  refine takeH (i := 1) (v := ?_) (d := (some 38)) rfl (by kernel_rfl) (by kernel_rfl) (by kernel_rfl) rfl (fun _ _ _ h => h) (Or.inl ⟨by kernel_rfl, ?_⟩) (by first | assumption | trivial) ?_; rotate_left
  · (intro w hSw; (try dsimp only at hSw); first | (go_simp; done) | (go_simp; with_reducible rfl))
  (try simp only [Act.put, List.setIfInBounds_toArray, List.set_cons_zero, List.set_cons_succ])
  refine takeH (i := 2) (v := ?_) (d := (some 39)) rfl (by kernel_rfl) (by kernel_rfl) (by kernel_rfl) rfl (fun _ _ _ h => h) (Or.inl ⟨by kernel_rfl, ?_⟩) (by first | assumption | trivial) ?_; rotate_left
  · (intro w hSw; (try dsimp only at hSw); first | (go_simp; done) | (go_simp; with_reducible rfl))
  (try simp only [Act.put, List.setIfInBounds_toArray, List.set_cons_zero, List.set_cons_succ])
  refine takeH (i := 3) (v := ?_) (d := (some 40)) rfl (by kernel_rfl) (by kernel_rfl) (by kernel_rfl) rfl (fun _ _ _ h => h) (Or.inl ⟨by kernel_rfl, ?_⟩) (by first | assumption | trivial) ?_; rotate_left
  · (intro w hSw; (try dsimp only at hSw); first | (go_simp; done) | (go_simp; with_reducible rfl))
  (try simp only [Act.put, List.setIfInBounds_toArray, List.set_cons_zero, List.set_cons_succ])
  refine takeH (i := 5) (v := ?_) (d := (some 42)) rfl (by kernel_rfl) (by kernel_rfl) (by kernel_rfl) rfl (fun _ _ _ h => h) (Or.inl ⟨by kernel_rfl, ?_⟩) (by first | assumption | trivial) ?_; rotate_left
  · (intro w hSw; (try dsimp only at hSw); first | (go_simp; done) | (go_simp; with_reducible rfl))
  (try simp only [Act.put, List.setIfInBounds_toArray, List.set_cons_zero, List.set_cons_succ])
  refine takeH (i := 6) (v := ?_) (d := (some 43)) rfl (by kernel_rfl) (by kernel_rfl) (by kernel_rfl) rfl (fun _ _ _ h => h) (Or.inl ⟨by kernel_rfl, ?_⟩) (by first | assumption | trivial) ?_; rotate_left
  · (intro w hSw; (try dsimp only at hSw); first | (go_simp; done) | (go_simp; with_reducible rfl))
  (try simp only [Act.put, List.setIfInBounds_toArray, List.set_cons_zero, List.set_cons_succ])
  refine takeH (i := 7) (v := ?_) (d := (some 44)) rfl (by kernel_rfl) (by kernel_rfl) (by kernel_rfl) rfl (fun _ _ _ h => h) (Or.inl ⟨by kernel_rfl, ?_⟩) (by first | assumption | trivial) ?_; rotate_left
  · (intro w hSw; (try dsimp only at hSw); first | (go_simp; done) | (go_simp; with_reducible rfl))
  (try simp only [Act.put, List.setIfInBounds_toArray, List.set_cons_zero, List.set_cons_succ])
  refine wpAnyH_ready (rs := [4, 8]) (by kernel_rfl) (by simp) (AllReadyH.cons rfl (fun K hK => ?_) (AllReadyH.cons rfl (fun K hK => ?_) AllReadyH.nil))
  · rw [if_pos (by kernel_rfl)]
    go_simp
    refine hK.out _ _ trivial (fun hHeld => ?_)
    clear hK K hHeld
    (try simp only [Act.put, List.setIfInBounds_toArray, List.set_cons_zero, List.set_cons_succ])
    refine wpAnyH_ready (rs := [8]) (by kernel_rfl) (by simp) (AllReadyH.cons rfl (fun K hK => ?_) AllReadyH.nil)
    rw [if_pos (by kernel_rfl)]
    go_simp
    refine hK.out _ _ trivial (fun hHeld => ?_)
    clear hK K hHeld
    (try simp only [Act.put, List.setIfInBounds_toArray, List.set_cons_zero, List.set_cons_succ])
    refine takeH (i := 9) (v := ?_) (d := (some 46)) rfl (by kernel_rfl) (by kernel_rfl) (by kernel_rfl) rfl (fun _ _ _ h => h) (Or.inl ⟨by kernel_rfl, ?_⟩) (by first | assumption | trivial) ?_; rotate_left
    · (intro w hSw; (try dsimp only at hSw); first | (go_simp; done) | (go_simp; with_reducible rfl))
    (try simp only [Act.put, List.setIfInBounds_toArray, List.set_cons_zero, List.set_cons_succ])
    refine wpAnyH_ready (rs := [10]) (by kernel_rfl) (by simp) (AllReadyH.cons rfl (fun K hK => ?_) AllReadyH.nil)
    go_simp
    refine (HE.out.bhd HH.out.1 k hkn [92, 93] (byt_lit _ rfl) (by simp) (by decide) ⟨#[92, 93]⟩ (by kernel_rfl) R HR.out).mono ?_
    rintro ev w1 ⟨rfl, hb1⟩
    have HE1 : Hid (En w0 S w1 b off n cap B T gs c L i) := HE.out.stay hb1
    clear hb1
    refine hK.out _ _ trivial (fun hHeld => ?_)
    clear hK K hHeld
    (try simp only [Act.put, List.setIfInBounds_toArray, List.set_cons_zero, List.set_cons_succ])
    refine wpAnyH_ready (rs := [11]) (by kernel_rfl) (by simp) (AllReadyH.cons rfl (fun K hK => ?_) AllReadyH.nil)
    go_simp
    refine (flay_any HH.out.1 HE1.out (by omega) 4 R R (by omega) (by omega)).mono ?_
    rintro ev w2 ⟨rfl, hE2⟩
    have HE2 := Hid.mk' hE2
    clear hE2
    refine hK.out _ _ trivial (fun hHeld => ?_)
    clear hK K hHeld
    (try simp only [Act.put, List.setIfInBounds_toArray, List.set_cons_zero, List.set_cons_succ])
    refine takeH (i := 12) (v := ?_) (d := (some 2)) rfl (by kernel_rfl) (by kernel_rfl) (by kernel_rfl) rfl (fun _ _ _ h => h) (Or.inl ⟨by kernel_rfl, ?_⟩) (by first | assumption | trivial) ?_; rotate_left
    · (intro w hSw; (try dsimp only at hSw); first | (go_simp; done) | (go_simp; with_reducible rfl))
    (try simp only [Act.put, List.setIfInBounds_toArray, List.set_cons_zero, List.set_cons_succ])
    refine wpAnyH_done (by kernel_rfl) ?_ _
    go_wp2
    rw [← HQ.out]
    exact ⟨rfl, HE2.out⟩
  · rw [if_pos (by kernel_rfl)]
    go_simp
    refine hK.out _ _ trivial (fun hHeld => ?_)
    clear hK K hHeld
    (try simp only [Act.put, List.setIfInBounds_toArray, List.set_cons_zero, List.set_cons_succ])
    refine takeH (i := 9) (v := ?_) (d := (some 46)) rfl (by kernel_rfl) (by kernel_rfl) (by kernel_rfl) rfl (fun _ _ _ h => h) (Or.inl ⟨by kernel_rfl, ?_⟩) (by first | assumption | trivial) ?_; rotate_left
    · (intro w hSw; (try dsimp only at hSw); first | (go_simp; done) | (go_simp; with_reducible rfl))
    (try simp only [Act.put, List.setIfInBounds_toArray, List.set_cons_zero, List.set_cons_succ])
    refine wpAnyH_ready (rs := [4]) (by kernel_rfl) (by simp) (AllReadyH.cons rfl (fun K hK => ?_) AllReadyH.nil)
    rw [if_pos (by kernel_rfl)]
    go_simp
    refine hK.out _ _ trivial (fun hHeld => ?_)
    clear hK K hHeld
    (try simp only [Act.put, List.setIfInBounds_toArray, List.set_cons_zero, List.set_cons_succ])
    refine wpAnyH_ready (rs := [10]) (by kernel_rfl) (by simp) (AllReadyH.cons rfl (fun K hK => ?_) AllReadyH.nil)
    go_simp
    refine (HE.out.bhd HH.out.1 k hkn [92, 93] (byt_lit _ rfl) (by simp) (by decide) ⟨#[92, 93]⟩ (by kernel_rfl) R HR.out).mono ?_
    rintro ev w1 ⟨rfl, hb1⟩
    have HE1 : Hid (En w0 S w1 b off n cap B T gs c L i) := HE.out.stay hb1
    clear hb1
    refine hK.out _ _ trivial (fun hHeld => ?_)
    clear hK K hHeld
    (try simp only [Act.put, List.setIfInBounds_toArray, List.set_cons_zero, List.set_cons_succ])
    refine wpAnyH_ready (rs := [11]) (by kernel_rfl) (by simp) (AllReadyH.cons rfl (fun K hK => ?_) AllReadyH.nil)
    go_simp
    refine (flay_any HH.out.1 HE1.out (by omega) 4 R R (by omega) (by omega)).mono ?_
    rintro ev w2 ⟨rfl, hE2⟩
    have HE2 := Hid.mk' hE2
    clear hE2
    refine hK.out _ _ trivial (fun hHeld => ?_)
    clear hK K hHeld
    (try simp only [Act.put, List.setIfInBounds_toArray, List.set_cons_zero, List.set_cons_succ])
    refine takeH (i := 12) (v := ?_) (d := (some 2)) rfl (by kernel_rfl) (by kernel_rfl) (by kernel_rfl) rfl (fun _ _ _ h => h) (Or.inl ⟨by kernel_rfl, ?_⟩) (by first | assumption | trivial) ?_; rotate_left
    · (intro w hSw; (try dsimp only at hSw); first | (go_simp; done) | (go_simp; with_reducible rfl))
    (try simp only [Act.put, List.setIfInBounds_toArray, List.set_cons_zero, List.set_cons_succ])
    refine wpAnyH_done (by kernel_rfl) ?_ _
    go_wp2
    rw [← HQ.out]
    exact ⟨rfl, HE2.out⟩
set_option maxRecDepth 100000 in
set_option maxHeartbeats 2000000 in
theorem bsl_cmd (hs : Sta S b n cap B T gs c) (h : En w0 S w b off n cap B T gs c L i) (hi : i < n) (h1 : c (i + 1) ≠ 40) (h2 : c (i + 1) ≠ 91) (h3 : ltB (c (i + 1)) = true) :
    Calls Tryd.prog 26 #[.pointer (some ⟨B, 0, none⟩)] w (SP w0 S b off n cap B T gs c (stp 42 B) L i) := by
  obtain ⟨x0, x1, x2⟩ := h.cells
  have hn := hs.n6
  have hnc := hs.nc
  have hbig := hs.big
  obtain ⟨rr, hrr⟩ : ∃ rr, rnE (bs c n) (i + 1) = rr := ⟨_, rfl⟩
  obtain ⟨ww, hww⟩ : ∃ ww, wdE (bs c n) (i + 1) = ww := ⟨_, rfl⟩
  have HRW : Hid (rnE (bs c n) (i + 1) = rr ∧ wdE (bs c n) (i + 1) = ww) := ⟨hrr, hww⟩
  have f40 := rn_is hs.ch (p := i + 1) (by omega) 40 (by decide) (by decide)
  have f91 := rn_is hs.ch (p := i + 1) (by omega) 91 (by decide) (by decide)
  have flt := rn_lt hs.ch (p := i + 1) (by omega)
  rw [hrr] at f40 f91 flt
  have k1 : (rr == 40) = false := by rw [f40]; simpa using h1
  have k2 : (rr == 91) = false := by rw [f91]; simpa using h2
  have cl := fun w => letterT_any rr w
  rw [flt, h3] at cl
  clear f40 f91 flt h1 h2 h3 hrr hww
  have HH : Hid (Sta S b n cap B T gs c ∧ En w0 S w b off n cap B T gs c L i) := ⟨hs, h⟩
  obtain ⟨j, hj⟩ : ∃ j, i + 1 = j := ⟨_, rfl⟩
  have hwj : IntKind.i64.wrap ((i : Int) + 1) = (j : Int) := (IntWalk.i64_in _ (by omega)).trans (by omega)
  have HJ : Hid (i + 1 = j) := hj
  obtain ⟨ad, ha⟩ : ∃ ad, (if cap = j then some (⟨b, off, none⟩ : Addr) else some ⟨b, off + j, none⟩) = ad := ⟨_, rfl⟩
  have cn : Hid (∀ w', En w0 S w' b off n cap B T gs c L i → Calls Tryd.prog 40 #[.slice ad (n - j) (cap - j)] w' fun e w2 => e = .returned (.tuple #[.int .i32 rr, .int .i64 (ww : Nat)]) ∧ Below w'.heap.size w' w2) := fun w' h' => by
    have := h'.nxt HH.out.1 j (by omega) ha
    rw [← HJ.out, HRW.out.1, HRW.out.2, HJ.out] at this
    exact this
  obtain ⟨Q, hQ⟩ : ∃ Q, SP w0 S b off n cap B T gs c (stp 42 B) L i = Q := ⟨_, rfl⟩
  rw [hQ]
  have HQ : Hid (SP w0 S b off n cap B T gs c (stp 42 B) L i = Q) := hQ
  have z1 : (0 : Int) ≤ (j : Int) := by omega
  have z2 : (j : Int) ≤ (n : Int) := by omega
  have z3 : (n : Int) ≤ (cap : Int) := by omega
  clear hs h hQ hj
  go_enter Tryd.func26, Tryd.ntmps26
  go_upto_region 1 with fail
  refine wp_region_held_drew (S := fun w' => w'.cell? ⟨B, 1, none⟩ = some (.slice (some ⟨b, off, none⟩) n cap) ∧ w'.cell? ⟨B, 2, none⟩ = some (.int .i64 i)) (by kernel_rfl) ⟨x1, x2⟩ (fun hHeld => ?_)
  clear hHeld
  refine takeH (i := 0) (v := ?_) (d := (some 6)) rfl (by kernel_rfl) (by kernel_rfl) (by kernel_rfl) rfl (fun _ _ _ h => h) (Or.inl ⟨by kernel_rfl, ?_⟩) (by first | assumption | trivial) ?_; rotate_left
  · (intro w hSw; (try dsimp only at hSw); first | (go_simp; done) | (go_simp; with_reducible rfl))
  (try simp only [Act.put, List.setIfInBounds_toArray, List.set_cons_zero, List.set_cons_succ])
  refine takeH (i := 1) (v := ?_) (d := (some 7)) rfl (by kernel_rfl) (by kernel_rfl) (by kernel_rfl) rfl (fun _ _ _ h => h) (Or.inl ⟨by kernel_rfl, ?_⟩) (by first | assumption | trivial) ?_; rotate_left
  · (intro w hSw; (try dsimp only at hSw); first | (go_simp; done) | (go_simp; with_reducible rfl))
  (try simp only [Act.put, List.setIfInBounds_toArray, List.set_cons_zero, List.set_cons_succ])
  refine takeH (i := 2) (v := ?_) (d := (some 8)) rfl (by kernel_rfl) (by kernel_rfl) (by kernel_rfl) rfl (fun _ _ _ h => h) (Or.inl ⟨by kernel_rfl, ?_⟩) (by first | assumption | trivial) ?_; rotate_left
  · (intro w hSw; (try dsimp only at hSw); first | (go_simp; done) | (go_simp; with_reducible rfl))
  (try simp only [Act.put, List.setIfInBounds_toArray, List.set_cons_zero, List.set_cons_succ])
  refine takeH (i := 3) (v := ?_) (d := (some 9)) rfl (by kernel_rfl) (by kernel_rfl) (by kernel_rfl) rfl (fun _ _ _ h => h) (Or.inl ⟨by kernel_rfl, ?_⟩) (by first | assumption | trivial) ?_; rotate_left
  · (intro w hSw; (try dsimp only at hSw); first | (go_simp; done) | (go_simp; with_reducible rfl))
  (try simp only [Act.put, List.setIfInBounds_toArray, List.set_cons_zero, List.set_cons_succ])
  refine takeH (i := 4) (v := ?_) (d := (some 10)) rfl (by kernel_rfl) (by kernel_rfl) (by kernel_rfl) rfl (fun _ _ _ h => h) (Or.inl ⟨by kernel_rfl, ?_⟩) (by first | assumption | trivial) ?_; rotate_left
  · (intro w hSw; (try dsimp only at hSw); first | (go_simp; done) | (go_simp; with_reducible rfl))
  (try simp only [Act.put, List.setIfInBounds_toArray, List.set_cons_zero, List.set_cons_succ])
  refine takeH (i := 5) (v := ?_) (d := (some 11)) rfl (by kernel_rfl) (by kernel_rfl) (by kernel_rfl) rfl (fun _ _ _ h => h) (Or.inl ⟨by kernel_rfl, ?_⟩) (by first | assumption | trivial) ?_; rotate_left
  · (intro w hSw; (try dsimp only at hSw); first | (go_simp; done) | (go_simp; with_reducible rfl))
  (try simp only [Act.put, List.setIfInBounds_toArray, List.set_cons_zero, List.set_cons_succ])
  refine takeH (i := 6) (v := ?_) (d := (some 12)) rfl (by kernel_rfl) (by kernel_rfl) (by kernel_rfl) rfl (fun _ _ _ h => h) (Or.inl ⟨by kernel_rfl, ?_⟩) (by first | assumption | trivial) ?_; rotate_left
  · (intro w hSw; (try dsimp only at hSw); first | (go_simp; done) | (go_simp; with_reducible rfl))
  (try simp only [Act.put, List.setIfInBounds_toArray, List.set_cons_zero, List.set_cons_succ])
  refine takeH (i := 7) (v := ?_) (d := (some 13)) rfl (by kernel_rfl) (by kernel_rfl) (by kernel_rfl) rfl (fun _ _ _ h => h) (Or.inl ⟨by kernel_rfl, ?_⟩) (by first | assumption | trivial) ?_; rotate_left
  · (intro w hSw; (try dsimp only at hSw); first | (go_simp; done) | (go_simp; with_reducible rfl))
  (try simp only [Act.put, List.setIfInBounds_toArray, List.set_cons_zero, List.set_cons_succ])
  refine takeH (i := 8) (v := ?_) (d := (some 14)) rfl (by kernel_rfl) (by kernel_rfl) (by kernel_rfl) rfl (fun _ _ _ h => h) (Or.inl ⟨by kernel_rfl, ?_⟩) (by first | assumption | trivial) ?_; rotate_left
  · (intro w hSw; (try dsimp only at hSw); first | (go_simp; done) | (go_simp; with_reducible rfl))
  (try simp only [Act.put, List.setIfInBounds_toArray, List.set_cons_zero, List.set_cons_succ])
  refine takeH (i := 9) (v := ?_) (d := (some 15)) rfl (by kernel_rfl) (by kernel_rfl) (by kernel_rfl) rfl (fun _ _ _ h => h) (Or.inl ⟨by kernel_rfl, ?_⟩) (by first | assumption | trivial) ?_; rotate_left
  · (intro w hSw; (try dsimp only at hSw); first | (go_simp; done) | (go_simp; with_reducible rfl))
  (try simp only [Act.put, List.setIfInBounds_toArray, List.set_cons_zero, List.set_cons_succ])
  refine wpAnyH_ready (rs := [10]) (by kernel_rfl) (by simp) (AllReadyH.cons rfl (fun K hK => ?_) AllReadyH.nil)
  go_simp
  refine (cn.out _ HH.out.2.drew).mono ?_
  rintro ev w1 ⟨rfl, hb1⟩
  have HE : Hid (En w0 S w1 b off n cap B T gs c L i) := HH.out.2.drew.stay hb1
  clear hb1 cn x0 x1 x2
  obtain ⟨x0, x1, x2⟩ := HE.out.cells
  refine hK.out _ _ ⟨x1, x2⟩ (fun hHeld => ?_)
  clear hK K hHeld
  (try simp only [Act.put, List.setIfInBounds_toArray, List.set_cons_zero, List.set_cons_succ])
  refine takeH (i := 11) (v := ?_) (d := (some 5)) rfl (by kernel_rfl) (by kernel_rfl) (by kernel_rfl) rfl (fun _ _ _ h => h) (Or.inl ⟨by kernel_rfl, ?_⟩) (by first | assumption | trivial) ?_; rotate_left
  · (intro w hSw; (try dsimp only at hSw); first | (go_simp; done) | (go_simp; with_reducible rfl))
  (try simp only [Act.put, List.setIfInBounds_toArray, List.set_cons_zero, List.set_cons_succ])
  refine takeH (i := 12) (v := ?_) (d := (some 17)) rfl (by kernel_rfl) (by kernel_rfl) (by kernel_rfl) rfl (fun _ _ _ h => h) (Or.inl ⟨by kernel_rfl, ?_⟩) (by first | assumption | trivial) ?_; rotate_left
  · (intro w hSw; (try dsimp only at hSw); first | (go_simp; done) | (go_simp; with_reducible rfl))
  (try simp only [Act.put, List.setIfInBounds_toArray, List.set_cons_zero, List.set_cons_succ])
  refine takeH (i := 13) (v := ?_) (d := (some 18)) rfl (by kernel_rfl) (by kernel_rfl) (by kernel_rfl) rfl (fun _ _ _ h => h) (Or.inl ⟨by kernel_rfl, ?_⟩) (by first | assumption | trivial) ?_; rotate_left
  · (intro w hSw; (try dsimp only at hSw); first | (go_simp; done) | (go_simp; with_reducible rfl))
  (try simp only [Act.put, List.setIfInBounds_toArray, List.set_cons_zero, List.set_cons_succ])
  refine takeH (i := 14) (v := ?_) (d := (some 3)) rfl (by kernel_rfl) (by kernel_rfl) (by kernel_rfl) rfl (fun _ _ _ h => h) (Or.inl ⟨by kernel_rfl, ?_⟩) (by first | assumption | trivial) ?_; rotate_left
  · (intro w hSw; (try dsimp only at hSw); first | (go_simp; done) | (go_simp; with_reducible rfl))
  (try simp only [Act.put, List.setIfInBounds_toArray, List.set_cons_zero, List.set_cons_succ])
  refine takeH (i := 15) (v := ?_) (d := (some 4)) rfl (by kernel_rfl) (by kernel_rfl) (by kernel_rfl) rfl (fun _ _ _ h => h) (Or.inl ⟨by kernel_rfl, ?_⟩) (by first | assumption | trivial) ?_; rotate_left
  · (intro w hSw; (try dsimp only at hSw); first | (go_simp; done) | (go_simp; with_reducible rfl))
  (try simp only [Act.put, List.setIfInBounds_toArray, List.set_cons_zero, List.set_cons_succ])
  refine wpAnyH_done (by kernel_rfl) ?_ _
  obtain ⟨_, HH⟩ : True ∧ Hid (Sta S b n cap B T gs c ∧ En w0 S w1 b off n cap B T gs c L i) := ⟨trivial, HH.out.1, HE.out⟩
  clear HE ha z1 z2 z3 hwj HJ
  generalize w1 = w at *
  go_wp2_with fail
  refine (cl w).mono ?_
  rintro ev w1 ⟨rfl, hw⟩
  subst w1
  go_wp2
  rw [← HQ.out]
  exact ⟨rfl, HH.out.2⟩
set_option maxRecDepth 100000 in
set_option maxHeartbeats 2000000 in
theorem bsl_oth (hs : Sta S b n cap B T gs c) (h : En w0 S w b off n cap B T gs c L i) (hi : i < n) (h1 : c (i + 1) ≠ 40) (h2 : c (i + 1) ≠ 91) (h3 : ltB (c (i + 1)) = false) :
    Calls Tryd.prog 26 #[.pointer (some ⟨B, 0, none⟩)] w (SP w0 S b off n cap B T gs c (stp 19 B) (setL L 2 (i : Int) ((i + 1 + wdE (bs c n) (i + 1) : Nat) : Int)) (i + 1 + wdE (bs c n) (i + 1))) := by
  obtain ⟨x0, x1, x2⟩ := h.cells
  have hn := hs.n6
  have hnc := hs.nc
  have hbig := hs.big
  obtain ⟨rr, hrr⟩ : ∃ rr, rnE (bs c n) (i + 1) = rr := ⟨_, rfl⟩
  obtain ⟨ww, hww⟩ : ∃ ww, wdE (bs c n) (i + 1) = ww := ⟨_, rfl⟩
  have HRW : Hid (rnE (bs c n) (i + 1) = rr ∧ wdE (bs c n) (i + 1) = ww) := ⟨hrr, hww⟩
  have f40 := rn_is hs.ch (p := i + 1) (by omega) 40 (by decide) (by decide)
  have f91 := rn_is hs.ch (p := i + 1) (by omega) 91 (by decide) (by decide)
  have flt := rn_lt hs.ch (p := i + 1) (by omega)
  rw [hrr] at f40 f91 flt
  have k1 : (rr == 40) = false := by rw [f40]; simpa using h1
  have k2 : (rr == 91) = false := by rw [f91]; simpa using h2
  have cl := fun w => letterT_any rr w
  rw [flt, h3] at cl
  have hwl := wdE_le (bs c n) (p := i + 1) (by rw [bs_size]; omega)
  rw [bs_size] at hwl
  rw [hww] at hwl ⊢
  clear f40 f91 flt h1 h2 h3 hrr hww
  have HH : Hid (Sta S b n cap B T gs c ∧ En w0 S w b off n cap B T gs c L i) := ⟨hs, h⟩
  obtain ⟨j, hj⟩ : ∃ j, i + 1 = j := ⟨_, rfl⟩
  have hwj : IntKind.i64.wrap ((i : Int) + 1) = (j : Int) := (IntWalk.i64_in _ (by omega)).trans (by omega)
  have HJ : Hid (i + 1 = j) := hj
  obtain ⟨ad, ha⟩ : ∃ ad, (if cap = j then some (⟨b, off, none⟩ : Addr) else some ⟨b, off + j, none⟩) = ad := ⟨_, rfl⟩
  have cn : Hid (∀ w', En w0 S w' b off n cap B T gs c L i → Calls Tryd.prog 40 #[.slice ad (n - j) (cap - j)] w' fun e w2 => e = .returned (.tuple #[.int .i32 rr, .int .i64 (ww : Nat)]) ∧ Below w'.heap.size w' w2) := fun w' h' => by
    have := h'.nxt HH.out.1 j (by omega) ha
    rw [← HJ.out, HRW.out.1, HRW.out.2, HJ.out] at this
    exact this
  obtain ⟨Q, hQ⟩ : ∃ Q, SP w0 S b off n cap B T gs c (stp 19 B) (setL L 2 (i : Int) ((i + 1 + ww : Nat) : Int)) (i + 1 + ww) = Q := ⟨_, rfl⟩
  rw [hQ]
  have HQ : Hid (SP w0 S b off n cap B T gs c (stp 19 B) (setL L 2 (i : Int) ((i + 1 + ww : Nat) : Int)) (i + 1 + ww) = Q) := hQ
  have z1 : (0 : Int) ≤ (j : Int) := by omega
  have z2 : (j : Int) ≤ (n : Int) := by omega
  have z3 : (n : Int) ≤ (cap : Int) := by omega
  clear hs h hQ hj
  go_enter Tryd.func26, Tryd.ntmps26
  go_upto_region 1 with fail
  refine wp_region_held_drew (S := fun w' => w'.cell? ⟨B, 1, none⟩ = some (.slice (some ⟨b, off, none⟩) n cap) ∧ w'.cell? ⟨B, 2, none⟩ = some (.int .i64 i)) (by kernel_rfl) ⟨x1, x2⟩ (fun hHeld => ?_)
  clear hHeld
  refine takeH (i := 0) (v := ?_) (d := (some 6)) rfl (by kernel_rfl) (by kernel_rfl) (by kernel_rfl) rfl (fun _ _ _ h => h) (Or.inl ⟨by kernel_rfl, ?_⟩) (by first | assumption | trivial) ?_; rotate_left
  · (intro w hSw; (try dsimp only at hSw); first | (go_simp; done) | (go_simp; with_reducible rfl))
  (try simp only [Act.put, List.setIfInBounds_toArray, List.set_cons_zero, List.set_cons_succ])
  refine takeH (i := 1) (v := ?_) (d := (some 7)) rfl (by kernel_rfl) (by kernel_rfl) (by kernel_rfl) rfl (fun _ _ _ h => h) (Or.inl ⟨by kernel_rfl, ?_⟩) (by first | assumption | trivial) ?_; rotate_left
  · (intro w hSw; (try dsimp only at hSw); first | (go_simp; done) | (go_simp; with_reducible rfl))
  (try simp only [Act.put, List.setIfInBounds_toArray, List.set_cons_zero, List.set_cons_succ])
  refine takeH (i := 2) (v := ?_) (d := (some 8)) rfl (by kernel_rfl) (by kernel_rfl) (by kernel_rfl) rfl (fun _ _ _ h => h) (Or.inl ⟨by kernel_rfl, ?_⟩) (by first | assumption | trivial) ?_; rotate_left
  · (intro w hSw; (try dsimp only at hSw); first | (go_simp; done) | (go_simp; with_reducible rfl))
  (try simp only [Act.put, List.setIfInBounds_toArray, List.set_cons_zero, List.set_cons_succ])
  refine takeH (i := 3) (v := ?_) (d := (some 9)) rfl (by kernel_rfl) (by kernel_rfl) (by kernel_rfl) rfl (fun _ _ _ h => h) (Or.inl ⟨by kernel_rfl, ?_⟩) (by first | assumption | trivial) ?_; rotate_left
  · (intro w hSw; (try dsimp only at hSw); first | (go_simp; done) | (go_simp; with_reducible rfl))
  (try simp only [Act.put, List.setIfInBounds_toArray, List.set_cons_zero, List.set_cons_succ])
  refine takeH (i := 4) (v := ?_) (d := (some 10)) rfl (by kernel_rfl) (by kernel_rfl) (by kernel_rfl) rfl (fun _ _ _ h => h) (Or.inl ⟨by kernel_rfl, ?_⟩) (by first | assumption | trivial) ?_; rotate_left
  · (intro w hSw; (try dsimp only at hSw); first | (go_simp; done) | (go_simp; with_reducible rfl))
  (try simp only [Act.put, List.setIfInBounds_toArray, List.set_cons_zero, List.set_cons_succ])
  refine takeH (i := 5) (v := ?_) (d := (some 11)) rfl (by kernel_rfl) (by kernel_rfl) (by kernel_rfl) rfl (fun _ _ _ h => h) (Or.inl ⟨by kernel_rfl, ?_⟩) (by first | assumption | trivial) ?_; rotate_left
  · (intro w hSw; (try dsimp only at hSw); first | (go_simp; done) | (go_simp; with_reducible rfl))
  (try simp only [Act.put, List.setIfInBounds_toArray, List.set_cons_zero, List.set_cons_succ])
  refine takeH (i := 6) (v := ?_) (d := (some 12)) rfl (by kernel_rfl) (by kernel_rfl) (by kernel_rfl) rfl (fun _ _ _ h => h) (Or.inl ⟨by kernel_rfl, ?_⟩) (by first | assumption | trivial) ?_; rotate_left
  · (intro w hSw; (try dsimp only at hSw); first | (go_simp; done) | (go_simp; with_reducible rfl))
  (try simp only [Act.put, List.setIfInBounds_toArray, List.set_cons_zero, List.set_cons_succ])
  refine takeH (i := 7) (v := ?_) (d := (some 13)) rfl (by kernel_rfl) (by kernel_rfl) (by kernel_rfl) rfl (fun _ _ _ h => h) (Or.inl ⟨by kernel_rfl, ?_⟩) (by first | assumption | trivial) ?_; rotate_left
  · (intro w hSw; (try dsimp only at hSw); first | (go_simp; done) | (go_simp; with_reducible rfl))
  (try simp only [Act.put, List.setIfInBounds_toArray, List.set_cons_zero, List.set_cons_succ])
  refine takeH (i := 8) (v := ?_) (d := (some 14)) rfl (by kernel_rfl) (by kernel_rfl) (by kernel_rfl) rfl (fun _ _ _ h => h) (Or.inl ⟨by kernel_rfl, ?_⟩) (by first | assumption | trivial) ?_; rotate_left
  · (intro w hSw; (try dsimp only at hSw); first | (go_simp; done) | (go_simp; with_reducible rfl))
  (try simp only [Act.put, List.setIfInBounds_toArray, List.set_cons_zero, List.set_cons_succ])
  refine takeH (i := 9) (v := ?_) (d := (some 15)) rfl (by kernel_rfl) (by kernel_rfl) (by kernel_rfl) rfl (fun _ _ _ h => h) (Or.inl ⟨by kernel_rfl, ?_⟩) (by first | assumption | trivial) ?_; rotate_left
  · (intro w hSw; (try dsimp only at hSw); first | (go_simp; done) | (go_simp; with_reducible rfl))
  (try simp only [Act.put, List.setIfInBounds_toArray, List.set_cons_zero, List.set_cons_succ])
  refine wpAnyH_ready (rs := [10]) (by kernel_rfl) (by simp) (AllReadyH.cons rfl (fun K hK => ?_) AllReadyH.nil)
  go_simp
  refine (cn.out _ HH.out.2.drew).mono ?_
  rintro ev w1 ⟨rfl, hb1⟩
  have HE : Hid (En w0 S w1 b off n cap B T gs c L i) := HH.out.2.drew.stay hb1
  clear hb1 cn x0 x1 x2
  obtain ⟨x0, x1, x2⟩ := HE.out.cells
  refine hK.out _ _ ⟨x1, x2⟩ (fun hHeld => ?_)
  clear hK K hHeld
  (try simp only [Act.put, List.setIfInBounds_toArray, List.set_cons_zero, List.set_cons_succ])
  refine takeH (i := 11) (v := ?_) (d := (some 5)) rfl (by kernel_rfl) (by kernel_rfl) (by kernel_rfl) rfl (fun _ _ _ h => h) (Or.inl ⟨by kernel_rfl, ?_⟩) (by first | assumption | trivial) ?_; rotate_left
  · (intro w hSw; (try dsimp only at hSw); first | (go_simp; done) | (go_simp; with_reducible rfl))
  (try simp only [Act.put, List.setIfInBounds_toArray, List.set_cons_zero, List.set_cons_succ])
  refine takeH (i := 12) (v := ?_) (d := (some 17)) rfl (by kernel_rfl) (by kernel_rfl) (by kernel_rfl) rfl (fun _ _ _ h => h) (Or.inl ⟨by kernel_rfl, ?_⟩) (by first | assumption | trivial) ?_; rotate_left
  · (intro w hSw; (try dsimp only at hSw); first | (go_simp; done) | (go_simp; with_reducible rfl))
  (try simp only [Act.put, List.setIfInBounds_toArray, List.set_cons_zero, List.set_cons_succ])
  refine takeH (i := 13) (v := ?_) (d := (some 18)) rfl (by kernel_rfl) (by kernel_rfl) (by kernel_rfl) rfl (fun _ _ _ h => h) (Or.inl ⟨by kernel_rfl, ?_⟩) (by first | assumption | trivial) ?_; rotate_left
  · (intro w hSw; (try dsimp only at hSw); first | (go_simp; done) | (go_simp; with_reducible rfl))
  (try simp only [Act.put, List.setIfInBounds_toArray, List.set_cons_zero, List.set_cons_succ])
  refine takeH (i := 14) (v := ?_) (d := (some 3)) rfl (by kernel_rfl) (by kernel_rfl) (by kernel_rfl) rfl (fun _ _ _ h => h) (Or.inl ⟨by kernel_rfl, ?_⟩) (by first | assumption | trivial) ?_; rotate_left
  · (intro w hSw; (try dsimp only at hSw); first | (go_simp; done) | (go_simp; with_reducible rfl))
  (try simp only [Act.put, List.setIfInBounds_toArray, List.set_cons_zero, List.set_cons_succ])
  refine takeH (i := 15) (v := ?_) (d := (some 4)) rfl (by kernel_rfl) (by kernel_rfl) (by kernel_rfl) rfl (fun _ _ _ h => h) (Or.inl ⟨by kernel_rfl, ?_⟩) (by first | assumption | trivial) ?_; rotate_left
  · (intro w hSw; (try dsimp only at hSw); first | (go_simp; done) | (go_simp; with_reducible rfl))
  (try simp only [Act.put, List.setIfInBounds_toArray, List.set_cons_zero, List.set_cons_succ])
  refine wpAnyH_done (by kernel_rfl) ?_ _
  obtain ⟨_, HH⟩ : True ∧ Hid (Sta S b n cap B T gs c ∧ En w0 S w1 b off n cap B T gs c L i) := ⟨trivial, HH.out.1, HE.out⟩
  clear HE ha z1 z2 z3 hwj HJ
  generalize w1 = w at *
  go_wp2_with fail
  refine (cl w).mono ?_
  rintro ev w1 ⟨rfl, hw⟩
  subst w1
  go_wp2_with fail
  rw [show ((i : Int) + 1 + (ww : Int)) = ((i + 1 + ww : Nat) : Int) by omega]
  refine (flay_any HH.out.1 HH.out.2 (by omega) 2 (i + 1 + ww) (i + 1 + ww) (by omega) (by omega)).mono ?_
  rintro ev w1 ⟨rfl, hE⟩
  go_wp2
  rw [← HQ.out]
  exact ⟨rfl, hE⟩
end
end Go.Proofs.YtlgfmhhhecaddaaDoor
