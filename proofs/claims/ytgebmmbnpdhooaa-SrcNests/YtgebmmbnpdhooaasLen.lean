/- src: how many bytes lie in a string. -/
import Derived.Test.YtgebmmbnpdhooaasStrB
namespace Go.Proofs.Ytgebmmbnpdhooaa
set_option linter.unusedVariables false
open Go.RowKit Go.ChangeShapes
theorem prB_shift (q : Qt) (c : Nat → Int) (a k : Nat) : prB q (fun j => c (a + j)) k = prB q c (a + k) := by
  unfold prB
  rw [oc_shift]
theorem enB_shift (q : Qt) (c : Nat → Int) (a k : Nat) : enB q (fun j => c (a + j)) k = enB q c (a + k) := by
  unfold enB
  rw [oc_shift, prB_shift]
theorem tkN_shift (q : Qt) (c : Nat → Int) (a k : Nat) : tkN q (fun j => c (a + j)) k = tkN q c (a + k) := by
  unfold tkN esB
  rw [prB_shift]
  rfl
theorem lnG_shift (q : Qt) (c : Nat → Int) (n a : Nat) (ha : a ≤ n) : ∀ f k, a + lnG q (fun j => c (a + j)) (n - a) f k = lnG q c n f (a + k)
  | 0, k => rfl
  | f + 1, k => by
    show a + (if n - a ≤ k ∨ enB q (fun j => c (a + j)) k = true then k else lnG q (fun j => c (a + j)) (n - a) f (min (k + tkN q (fun j => c (a + j)) k) (n - a))) = (if n ≤ a + k ∨ enB q c (a + k) = true then a + k else lnG q c n f (min (a + k + tkN q c (a + k)) n))
    rw [enB_shift, tkN_shift]
    by_cases h : n ≤ a + k ∨ enB q c (a + k) = true
    · rw [if_pos h, if_pos (by rcases h with h | h; exact Or.inl (by omega); exact Or.inr h)]
    · rw [if_neg h, if_neg (by intro e; exact h (by rcases e with e | e; exact Or.inl (by omega); exact Or.inr e))]
      rw [lnG_shift q c n a ha f, show a + min (k + tkN q c (a + k)) (n - a) = min (a + k + tkN q c (a + k)) n by omega]
theorem lnE_shift (q : Qt) (c : Nat → Int) {n a : Nat} (ha : a ≤ n) : a + lnE q (fun j => c (a + j)) (n - a) 0 = lnE q c n a := by
  unfold lnE
  rw [lnG_shift q c n a ha]
  rfl
theorem ends_from {w : World} {b off n cap : Nat} {c : Nat → Int} (hC : Ch c n) (h : BC w (some ⟨b, off, none⟩) n c) (hcap : n ≤ cap) (hbig : cap ≤ 9223372036854775807) {q : Qt} (hq : GdQ q) {k : Nat} (hk : k < n) :
    Calls Try.prog 42 #[qv q, .slice (some ⟨b, off + k, none⟩) (n - k) (cap - k)] w fun ev w' => ev = .returned (.bool (enB q c k)) ∧ Below w.heap.size w w' := by
  have hfr := BC.from h k (by omega) hcap
  rw [if_neg (by omega)] at hfr
  have := ends_any (cap := cap - k) (hC.from k (by omega)) hfr (by omega) (by omega) hq (by omega)
  rw [enB_shift] at this
  exact this
theorem taken_from {w : World} {b off n cap : Nat} {c : Nat → Int} (hC : Ch c n) (h : BC w (some ⟨b, off, none⟩) n c) (hcap : n ≤ cap) (hbig : cap ≤ 9223372036854775807) {q : Qt} (hq : GdQ q) {k : Nat} (hk : k < n) :
    Calls Try.prog 43 #[qv q, .slice (some ⟨b, off + k, none⟩) (n - k) (cap - k)] w fun ev w' => ev = .returned (.int .i64 (tkN q c k : Nat)) ∧ Below w.heap.size w w' := by
  have hfr := BC.from h k (by omega) hcap
  rw [if_neg (by omega)] at hfr
  have := taken_any (cap := cap - k) (hC.from k (by omega)) hfr (by omega) (by omega) hq (by omega)
  rw [tkN_shift] at this
  exact this
/-- The kind of strings in its box. -/
def QB (B : Nat) (M : ByteArray) (inn : Int) (esc dbl lng : Bool) (w : World) : Prop := w.cell? ⟨B, 0, none⟩ = some (.string M) ∧ w.cell? ⟨B, 1, none⟩ = some (.int .u8 inn) ∧ w.cell? ⟨B, 2, none⟩ = some (.bool esc) ∧ w.cell? ⟨B, 3, none⟩ = some (.bool dbl) ∧ w.cell? ⟨B, 4, none⟩ = some (.bool lng)
theorem QB.stay {B : Nat} {M : ByteArray} {inn : Int} {esc dbl lng : Bool} {w w' : World} (h : QB B M inn esc dbl lng w) (hb : Below w.heap.size w w') : QB B M inn esc dbl lng w' := ⟨cell_stay h.1 hb, cell_stay h.2.1 hb, cell_stay h.2.2.1 hb, cell_stay h.2.2.2.1 hb, cell_stay h.2.2.2.2 hb⟩
theorem QB.keep {B : Nat} {M : ByteArray} {inn : Int} {esc dbl lng : Bool} {w w' : World} (h : QB B M inn esc dbl lng w) (e : w'.heap[B]? = w.heap[B]?) : QB B M inn esc dbl lng w' := by
  have h1 : ∀ i, w'.cell? ⟨B, i, none⟩ = w.cell? ⟨B, i, none⟩ := fun i => by simp only [World.cell?, e]
  unfold QB
  rw [h1, h1, h1, h1, h1]
  exact h
theorem QB.drew {B : Nat} {M : ByteArray} {inn : Int} {esc dbl lng : Bool} {w : World} (h : QB B M inn esc dbl lng w) : QB B M inn esc dbl lng w.drew := h.stay (Below.refl _ _).drew
set_option maxHeartbeats 4000000 in
theorem length_any {w : World} {b off n cap : Nat} {c : Nat → Int} (hC : Ch c n) (h : BC w (some ⟨b, off, none⟩) n c) (hn : n ≤ 65536) (hcap : n ≤ cap) (hbig : cap ≤ 9223372036854775807) {q : Qt} (hq : GdQ q) :
    Calls Try.prog 39 #[qv q, .slice (some ⟨b, off, none⟩) n cap] w fun ev w' => ev = .returned (.int .i64 (lnE q c n 0 : Nat)) ∧ Below w.heap.size w w' := by
  obtain ⟨W, hW⟩ : ∃ W, w.alloc (.cells #[.string (strOfNums q.mark), .int .u8 q.inn, .bool q.esc, .bool q.dbl, .bool q.lng] 72) = W := ⟨_, rfl⟩
  have hb : Below w.heap.size w W := by rw [← hW]; exact below_alloc w _
  have HB : Hid (Below w.heap.size w W) := hb
  obtain ⟨BX, hBX⟩ : ∃ BX, w.heap.size = BX := ⟨_, rfl⟩
  have HQB : Hid (QB BX (strOfNums q.mark) q.inn q.esc q.dbl q.lng W) := by rw [← hBX]; exact qcells hW
  have CE : Hid (∀ (wr : World) (k : Nat), k < n → Below W.heap.size W wr → Calls Try.prog 42 #[qv q, .slice (some ⟨b, off + k, none⟩) (n - k) (cap - k)] wr fun ev w' => ev = .returned (.bool (enB q c k)) ∧ Below wr.heap.size wr w') := fun wr k hk hb1 => ends_from hC ((h.stay hb).stay hb1) hcap hbig hq hk
  have CT : Hid (∀ (wr : World) (k : Nat), k < n → Below W.heap.size W wr → Calls Try.prog 43 #[qv q, .slice (some ⟨b, off + k, none⟩) (n - k) (cap - k)] wr fun ev w' => ev = .returned (.int .i64 (tkN q c k : Nat)) ∧ Below wr.heap.size wr w') := fun wr k hk hb1 => taken_from hC ((h.stay hb).stay hb1) hcap hbig hq hk
  have HN : Hid (∀ k, k < n → enB q c k = false → lnE q c n k = lnE q c n (min (k + tkN q c k) n)) := fun k h1 h2 => lnE_no hq h1 h2
  have HY : Hid (∀ k, enB q c k = true → lnE q c n k = k) := fun k h2 => lnE_yes h2
  have HZ : Hid (lnE q c n n = n) := lnE_end q c (Nat.le_refl _)
  have HT : Hid (∀ k, 1 ≤ tkN q c k ∧ tkN q c k ≤ 6) := fun k => tkN_pos hq c k
  obtain ⟨E, hE⟩ : ∃ E, lnE q c n 0 = E := ⟨_, rfl⟩
  have HE : Hid (lnE q c n (min 0 n) = E ∧ E ≤ n) := ⟨by rw [Nat.min_eq_left (Nat.zero_le _)]; exact hE, by rw [← hE]; exact (lnE_le hq c (Nat.zero_le _)).2⟩
  rw [hE]
  obtain ⟨le, hle⟩ : ∃ le : Nat → Nat, ∀ k, lnE q c n k = le k := ⟨_, fun _ => rfl⟩
  obtain ⟨en, hen⟩ : ∃ en : Nat → Bool, ∀ k, enB q c k = en k := ⟨_, fun _ => rfl⟩
  obtain ⟨tk, htk⟩ : ∃ tk : Nat → Nat, ∀ k, tkN q c k = tk k := ⟨_, fun _ => rfl⟩
  simp only [hle, hen, htk] at CE CT HN HY HZ HT HE
  unfold qv at CE CT ⊢
  clear hE hle hen htk hC h hq hb
  cases q with
  | mk mk inn esc dbl lng =>
  dsimp only at *
  obtain ⟨M, hM⟩ : ∃ M, strOfNums mk = M := ⟨_, rfl⟩
  rw [hM] at CE CT HQB hW ⊢
  clear hM mk
  go_enter Try.func39, Try.ntmps39
  go_wp2_with fail
  clear hW
  go_loopg [5] (n + 8) (fun qq tv wr => ∃ k : Nat, qq = n + 8 - k ∧ k ≤ n + 6 ∧ tv = .int .i64 k ∧ Hid (Below W.heap.size W wr) ∧ Hid (le (min k n) = E))
  case atStart => exact ⟨0, by omega, by omega, by go_num, Below.refl _ _, HE.out.1⟩
  case round =>
    obtain ⟨k, hqq, hk2, rfl, HW, HK⟩ := hrel
    have HX : Hid (QB BX M inn esc dbl lng wr) := HQB.out.stay HW.out
    by_cases hkn : k < n
    · have z1 : (k : Int) < (n : Int) := by omega
      have z2 : (0 : Int) ≤ (k : Int) := by omega
      have z3 : (k : Int) ≤ (n : Int) := by omega
      have z4 : ¬ (k : Int) < 0 := by omega
      have z5 : ¬ cap = k := by omega
      have z6 : (n : Int) ≤ (cap : Int) := by omega
      have hkk := HK.out
      rw [Nat.min_eq_left (by omega)] at hkk
      have HKK : Hid (le k = E) := hkk
      clear hkk
      go_upto_region 2 with fail
      refine wp_region_held_drew (S := fun w' => w'.cell? ⟨BX, 0, none⟩ = some (.string M) ∧ w'.cell? ⟨BX, 1, none⟩ = some (.int .u8 inn) ∧ w'.cell? ⟨BX, 2, none⟩ = some (.bool esc) ∧ w'.cell? ⟨BX, 3, none⟩ = some (.bool dbl) ∧ w'.cell? ⟨BX, 4, none⟩ = some (.bool lng)) (by kernel_rfl) HX.out.drew (fun hHeld => ?_)
      clear hHeld
      refine takeH (i := 0) (v := ?_) (d := (some 6)) rfl (by kernel_rfl) (by kernel_rfl) (by kernel_rfl) rfl (fun _ _ _ h => h) (Or.inl ⟨by kernel_rfl, ?_⟩) (by first | assumption | trivial) ?_; rotate_left
      · (intro w hSw; (try dsimp only at hSw); first | (go_simp; done) | (go_simp; with_reducible rfl))
      (try simp only [Act.put, List.setIfInBounds_toArray, List.set_cons_zero, List.set_cons_succ])
      refine takeH (i := 1) (v := ?_) (d := (some 7)) rfl (by kernel_rfl) (by kernel_rfl) (by kernel_rfl) rfl (fun _ _ _ h => h) (Or.inl ⟨by kernel_rfl, ?_⟩) (by first | assumption | trivial) ?_; rotate_left
      · (intro w hSw; (try dsimp only at hSw); first | (go_simp; done) | (go_simp; with_reducible rfl))
      (try simp only [Act.put, List.setIfInBounds_toArray, List.set_cons_zero, List.set_cons_succ])
      refine takeH (i := 2) (v := ?_) (d := (some 8)) rfl (by kernel_rfl) (by kernel_rfl) (by kernel_rfl) rfl (fun _ _ _ h => h) (Or.inl ⟨by kernel_rfl, ?_⟩) (by first | assumption | trivial) ?_; rotate_left
      · (intro w hSw; (try dsimp only at hSw); first | (go_simp; done) | (go_simp; with_reducible rfl))
      (try simp only [Act.put, List.setIfInBounds_toArray, List.set_cons_zero, List.set_cons_succ])
      refine takeH (i := 3) (v := ?_) (d := (some 9)) rfl (by kernel_rfl) (by kernel_rfl) (by kernel_rfl) rfl (fun _ _ _ h => h) (Or.inl ⟨by kernel_rfl, ?_⟩) (by first | assumption | trivial) ?_; rotate_left
      · (intro w hSw; (try dsimp only at hSw); first | (go_simp; done) | (go_simp; with_reducible rfl))
      (try simp only [Act.put, List.setIfInBounds_toArray, List.set_cons_zero, List.set_cons_succ])
      refine takeH (i := 4) (v := ?_) (d := (some 10)) rfl (by kernel_rfl) (by kernel_rfl) (by kernel_rfl) rfl (fun _ _ _ h => h) (Or.inl ⟨by kernel_rfl, ?_⟩) (by first | assumption | trivial) ?_; rotate_left
      · (intro w hSw; (try dsimp only at hSw); first | (go_simp; done) | (go_simp; with_reducible rfl))
      (try simp only [Act.put, List.setIfInBounds_toArray, List.set_cons_zero, List.set_cons_succ])
      refine takeH (i := 5) (v := ?_) (d := (some 11)) rfl (by kernel_rfl) (by kernel_rfl) (by kernel_rfl) rfl (fun _ _ _ h => h) (Or.inl ⟨by kernel_rfl, ?_⟩) (by first | assumption | trivial) ?_; rotate_left
      · (intro w hSw; (try dsimp only at hSw); first | (go_simp; done) | (go_simp; with_reducible rfl))
      (try simp only [Act.put, List.setIfInBounds_toArray, List.set_cons_zero, List.set_cons_succ])
      refine takeH (i := 6) (v := ?_) (d := (some 12)) rfl (by kernel_rfl) (by kernel_rfl) (by kernel_rfl) rfl (fun _ _ _ h => h) (Or.inl ⟨by kernel_rfl, ?_⟩) (by first | assumption | trivial) ?_; rotate_left
      · (intro w hSw; (try dsimp only at hSw); first | (go_simp; done) | (go_simp; with_reducible rfl))
      (try simp only [Act.put, List.setIfInBounds_toArray, List.set_cons_zero, List.set_cons_succ])
      refine takeH (i := 7) (v := ?_) (d := (some 13)) rfl (by kernel_rfl) (by kernel_rfl) (by kernel_rfl) rfl (fun _ _ _ h => h) (Or.inl ⟨by kernel_rfl, ?_⟩) (by first | assumption | trivial) ?_; rotate_left
      · (intro w hSw; (try dsimp only at hSw); first | (go_simp; done) | (go_simp; with_reducible rfl))
      (try simp only [Act.put, List.setIfInBounds_toArray, List.set_cons_zero, List.set_cons_succ])
      refine takeH (i := 8) (v := ?_) (d := (some 14)) rfl (by kernel_rfl) (by kernel_rfl) (by kernel_rfl) rfl (fun _ _ _ h => h) (Or.inl ⟨by kernel_rfl, ?_⟩) (by first | assumption | trivial) ?_; rotate_left
      · (intro w hSw; (try dsimp only at hSw); first | (go_simp; done) | (go_simp; with_reducible rfl))
      (try simp only [Act.put, List.setIfInBounds_toArray, List.set_cons_zero, List.set_cons_succ])
      have cE := CE.out wr.drew k hkn (HW.out.trans ((Below.refl _ _).drew.mono HW.out.size))
      refine wpAnyH_ready (rs := [9]) (by kernel_rfl) (by simp) (AllReadyH.cons rfl (fun K hK => ?_) AllReadyH.nil)
      go_simp
      refine cE.mono ?_
      rintro ev w1 ⟨rfl, hb1⟩
      have HW1 : Hid (Below W.heap.size W w1) := (HW.out.trans ((Below.refl _ _).drew.mono HW.out.size)).trans (hb1.mono (Nat.le_trans HW.out.size (Below.refl wr.heap.size wr).drew.size))
      have HX1 : Hid (QB BX M inn esc dbl lng w1) := HX.out.drew.stay hb1
      clear cE hb1
      refine hK.out _ _ HX1.out (fun hHeld => ?_)
      clear hK K hHeld
      (try simp only [Act.put, List.setIfInBounds_toArray, List.set_cons_zero, List.set_cons_succ])
      refine takeH (i := 10) (v := ?_) (d := (some 16)) rfl (by kernel_rfl) (by kernel_rfl) (by kernel_rfl) rfl (fun _ _ _ h => h) (Or.inl ⟨by kernel_rfl, ?_⟩) (by first | assumption | trivial) ?_; rotate_left
      · (intro w hSw; (try dsimp only at hSw); first | (go_simp; done) | (go_simp; with_reducible rfl))
      (try simp only [Act.put, List.setIfInBounds_toArray, List.set_cons_zero, List.set_cons_succ])
      refine takeH (i := 11) (v := ?_) (d := (some 17)) rfl (by kernel_rfl) (by kernel_rfl) (by kernel_rfl) rfl (fun _ _ _ h => h) (Or.inl ⟨by kernel_rfl, ?_⟩) (by first | assumption | trivial) ?_; rotate_left
      · (intro w hSw; (try dsimp only at hSw); first | (go_simp; done) | (go_simp; with_reducible rfl))
      (try simp only [Act.put, List.setIfInBounds_toArray, List.set_cons_zero, List.set_cons_succ])
      refine wpAnyH_done (by kernel_rfl) ?_ _
      obtain ⟨e1, he1⟩ : ∃ e1, en k = e1 := ⟨_, rfl⟩
      cases e1 with
      | true =>
        have hy := HY.out k he1
        rw [HKK.out] at hy
        have HF : Hid (min k n = E) := by show _ = _; omega
        have HF2 : Hid (Below w.heap.size w w1) := HB.out.trans (HW1.out.mono HB.out.size)
        have z7 : (min (k : Int) (n : Int)) = (E : Int) := by have := HF.out; omega
        rw [he1]
        clear hy he1 HKK HK
        go_wp2
        go_ret
        rw [hBX] at HF2
        exact ⟨rfl, HF2.out⟩
      | false =>
        have hno := HN.out k hkn he1
        have htk := HT.out k
        obtain ⟨t, ht⟩ : ∃ t, tk k = t := ⟨_, rfl⟩
        have cT := CT.out w1.drew k hkn (HW1.out.trans ((Below.refl _ _).drew.mono HW1.out.size))
        rw [ht] at hno htk cT
        have HNX : Hid (le (min (k + t) n) = E) := by show _ = _; rw [← hno]; exact HKK.out
        rw [he1]
        clear hno ht he1 HKK HK
        obtain ⟨kt, hkt⟩ : ∃ kt : Nat, k + t = kt := ⟨_, rfl⟩
        have y2 : IntKind.i64.wrap ((k : Int) + (t : Int)) = (kt : Int) := by rw [Go.IntWalk.i64_in _ (by omega)]; omega
        have y3 : k + 1 ≤ kt ∧ kt ≤ k + 6 := by omega
        rw [hkt] at HNX
        clear hkt
        go_upto_region 3 with fail
        refine wp_region_held_drew (S := fun w' => w'.cell? ⟨BX, 0, none⟩ = some (.string M) ∧ w'.cell? ⟨BX, 1, none⟩ = some (.int .u8 inn) ∧ w'.cell? ⟨BX, 2, none⟩ = some (.bool esc) ∧ w'.cell? ⟨BX, 3, none⟩ = some (.bool dbl) ∧ w'.cell? ⟨BX, 4, none⟩ = some (.bool lng)) (by kernel_rfl) HX1.out.drew (fun hHeld => ?_)
        clear hHeld
        refine takeH (i := 0) (v := ?_) (d := (some 18)) rfl (by kernel_rfl) (by kernel_rfl) (by kernel_rfl) rfl (fun _ _ _ h => h) (Or.inl ⟨by kernel_rfl, ?_⟩) (by first | assumption | trivial) ?_; rotate_left
        · (intro w hSw; (try dsimp only at hSw); first | (go_simp; done) | (go_simp; with_reducible rfl))
        (try simp only [Act.put, List.setIfInBounds_toArray, List.set_cons_zero, List.set_cons_succ])
        refine takeH (i := 1) (v := ?_) (d := (some 19)) rfl (by kernel_rfl) (by kernel_rfl) (by kernel_rfl) rfl (fun _ _ _ h => h) (Or.inl ⟨by kernel_rfl, ?_⟩) (by first | assumption | trivial) ?_; rotate_left
        · (intro w hSw; (try dsimp only at hSw); first | (go_simp; done) | (go_simp; with_reducible rfl))
        (try simp only [Act.put, List.setIfInBounds_toArray, List.set_cons_zero, List.set_cons_succ])
        refine takeH (i := 2) (v := ?_) (d := (some 20)) rfl (by kernel_rfl) (by kernel_rfl) (by kernel_rfl) rfl (fun _ _ _ h => h) (Or.inl ⟨by kernel_rfl, ?_⟩) (by first | assumption | trivial) ?_; rotate_left
        · (intro w hSw; (try dsimp only at hSw); first | (go_simp; done) | (go_simp; with_reducible rfl))
        (try simp only [Act.put, List.setIfInBounds_toArray, List.set_cons_zero, List.set_cons_succ])
        refine takeH (i := 3) (v := ?_) (d := (some 21)) rfl (by kernel_rfl) (by kernel_rfl) (by kernel_rfl) rfl (fun _ _ _ h => h) (Or.inl ⟨by kernel_rfl, ?_⟩) (by first | assumption | trivial) ?_; rotate_left
        · (intro w hSw; (try dsimp only at hSw); first | (go_simp; done) | (go_simp; with_reducible rfl))
        (try simp only [Act.put, List.setIfInBounds_toArray, List.set_cons_zero, List.set_cons_succ])
        refine takeH (i := 4) (v := ?_) (d := (some 22)) rfl (by kernel_rfl) (by kernel_rfl) (by kernel_rfl) rfl (fun _ _ _ h => h) (Or.inl ⟨by kernel_rfl, ?_⟩) (by first | assumption | trivial) ?_; rotate_left
        · (intro w hSw; (try dsimp only at hSw); first | (go_simp; done) | (go_simp; with_reducible rfl))
        (try simp only [Act.put, List.setIfInBounds_toArray, List.set_cons_zero, List.set_cons_succ])
        refine wpAnyH_ready (rs := [5]) (by kernel_rfl) (by simp) (AllReadyH.cons rfl (fun K hK => ?_) AllReadyH.nil)
        go_simp
        refine cT.mono ?_
        rintro ev w2 ⟨rfl, hb2⟩
        have HW2 : Hid (Below W.heap.size W w2) := (HW1.out.trans ((Below.refl _ _).drew.mono HW1.out.size)).trans (hb2.mono (Nat.le_trans HW1.out.size (Below.refl w1.heap.size w1).drew.size))
        have HX2 : Hid (QB BX M inn esc dbl lng w2) := HX1.out.drew.stay hb2
        clear cT hb2
        refine hK.out _ _ HX2.out (fun hHeld => ?_)
        clear hK K hHeld
        (try simp only [Act.put, List.setIfInBounds_toArray, List.set_cons_zero, List.set_cons_succ])
        refine takeH (i := 6) (v := ?_) (d := (some 24)) rfl (by kernel_rfl) (by kernel_rfl) (by kernel_rfl) rfl (fun _ _ _ h => h) (Or.inl ⟨by kernel_rfl, ?_⟩) (by first | assumption | trivial) ?_; rotate_left
        · (intro w hSw; (try dsimp only at hSw); first | (go_simp; done) | (go_simp; with_reducible rfl))
        (try simp only [Act.put, List.setIfInBounds_toArray, List.set_cons_zero, List.set_cons_succ])
        refine takeH (i := 7) (v := ?_) (d := (some 5)) rfl (by kernel_rfl) (by kernel_rfl) (by kernel_rfl) rfl (fun _ _ _ h => h) (Or.inl ⟨by kernel_rfl, ?_⟩) (by first | assumption | trivial) ?_; rotate_left
        · (intro w hSw; (try dsimp only at hSw); first | (go_simp; done) | (go_simp; with_reducible rfl))
        (try simp only [Act.put, List.setIfInBounds_toArray, List.set_cons_zero, List.set_cons_succ])
        refine wpAnyH_done (by kernel_rfl) ?_ _
        go_wp2
        go_roundg (n + 8 - kt)
        case measure => omega
        case rel => exact ⟨kt, rfl, by omega, rfl, HW2.out, HNX.out⟩
    · have z1 : ¬ (k : Int) < (n : Int) := by omega
      have hkk := HK.out
      rw [Nat.min_eq_right (by omega), HZ.out] at hkk
      have z7 : (min (k : Int) (n : Int)) = (E : Int) := by omega
      have HF2 : Hid (Below w.heap.size w wr) := HB.out.trans (HW.out.mono HB.out.size)
      rw [hBX] at HF2
      clear hkk HK
      go_upto_region 2 with fail
      refine wp_region_held_drew (S := fun _ => True) (by kernel_rfl) trivial (fun hHeld => ?_)
      clear hHeld
      refine takeH (i := 0) (v := ?_) (d := (some 6)) rfl (by kernel_rfl) (by kernel_rfl) (by kernel_rfl) rfl (fun _ _ _ h => h) (Or.inl ⟨by kernel_rfl, ?_⟩) (by first | assumption | trivial) ?_; rotate_left
      · (intro w hSw; (try dsimp only at hSw); first | (go_simp; done) | (go_simp; with_reducible rfl))
      (try simp only [Act.put, List.setIfInBounds_toArray, List.set_cons_zero, List.set_cons_succ])
      refine takeH (i := 1) (v := ?_) (d := (some 7)) rfl (by kernel_rfl) (by kernel_rfl) (by kernel_rfl) rfl (fun _ _ _ h => h) (Or.inl ⟨by kernel_rfl, ?_⟩) (by first | assumption | trivial) ?_; rotate_left
      · (intro w hSw; (try dsimp only at hSw); first | (go_simp; done) | (go_simp; with_reducible rfl))
      (try simp only [Act.put, List.setIfInBounds_toArray, List.set_cons_zero, List.set_cons_succ])
      refine takeH (i := 2) (v := ?_) (d := (some 8)) rfl (by kernel_rfl) (by kernel_rfl) (by kernel_rfl) rfl (fun _ _ _ h => h) (Or.inl ⟨by kernel_rfl, ?_⟩) (by first | assumption | trivial) ?_; rotate_left
      · (intro w hSw; (try dsimp only at hSw); first | (go_simp; done) | (go_simp; with_reducible rfl))
      (try simp only [Act.put, List.setIfInBounds_toArray, List.set_cons_zero, List.set_cons_succ])
      refine takeH (i := 3) (v := ?_) (d := (some 9)) rfl (by kernel_rfl) (by kernel_rfl) (by kernel_rfl) rfl (fun _ _ _ h => h) (Or.inl ⟨by kernel_rfl, ?_⟩) (by first | assumption | trivial) ?_; rotate_left
      · (intro w hSw; (try dsimp only at hSw); first | (go_simp; done) | (go_simp; with_reducible rfl))
      (try simp only [Act.put, List.setIfInBounds_toArray, List.set_cons_zero, List.set_cons_succ])
      refine takeH (i := 4) (v := ?_) (d := (some 10)) rfl (by kernel_rfl) (by kernel_rfl) (by kernel_rfl) rfl (fun _ _ _ h => h) (Or.inl ⟨by kernel_rfl, ?_⟩) (by first | assumption | trivial) ?_; rotate_left
      · (intro w hSw; (try dsimp only at hSw); first | (go_simp; done) | (go_simp; with_reducible rfl))
      (try simp only [Act.put, List.setIfInBounds_toArray, List.set_cons_zero, List.set_cons_succ])
      refine takeH (i := 5) (v := undef) (d := (some 11)) rfl (by kernel_rfl) (by kernel_rfl) (by kernel_rfl) rfl (fun _ _ _ h => h) (Or.inr ⟨by kernel_rfl, rfl⟩) (by first | assumption | trivial) ?_
      (try simp only [Act.put, List.setIfInBounds_toArray, List.set_cons_zero, List.set_cons_succ])
      refine takeH (i := 6) (v := undef) (d := (some 12)) rfl (by kernel_rfl) (by kernel_rfl) (by kernel_rfl) rfl (fun _ _ _ h => h) (Or.inr ⟨by kernel_rfl, rfl⟩) (by first | assumption | trivial) ?_
      (try simp only [Act.put, List.setIfInBounds_toArray, List.set_cons_zero, List.set_cons_succ])
      refine takeH (i := 7) (v := undef) (d := (some 13)) rfl (by kernel_rfl) (by kernel_rfl) (by kernel_rfl) rfl (fun _ _ _ h => h) (Or.inr ⟨by kernel_rfl, rfl⟩) (by first | assumption | trivial) ?_
      (try simp only [Act.put, List.setIfInBounds_toArray, List.set_cons_zero, List.set_cons_succ])
      refine takeH (i := 8) (v := undef) (d := (some 14)) rfl (by kernel_rfl) (by kernel_rfl) (by kernel_rfl) rfl (fun _ _ _ h => h) (Or.inr ⟨by kernel_rfl, rfl⟩) (by first | assumption | trivial) ?_
      (try simp only [Act.put, List.setIfInBounds_toArray, List.set_cons_zero, List.set_cons_succ])
      refine takeH (i := 9) (v := undef) (d := (some 15)) rfl (by kernel_rfl) (by kernel_rfl) (by kernel_rfl) rfl (fun _ _ _ h => h) (Or.inr ⟨by kernel_rfl, rfl⟩) (by first | assumption | trivial) ?_
      (try simp only [Act.put, List.setIfInBounds_toArray, List.set_cons_zero, List.set_cons_succ])
      refine takeH (i := 10) (v := undef) (d := (some 16)) rfl (by kernel_rfl) (by kernel_rfl) (by kernel_rfl) rfl (fun _ _ _ h => h) (Or.inr ⟨by kernel_rfl, rfl⟩) (by first | assumption | trivial) ?_
      (try simp only [Act.put, List.setIfInBounds_toArray, List.set_cons_zero, List.set_cons_succ])
      refine takeH (i := 11) (v := ?_) (d := (some 17)) rfl (by kernel_rfl) (by kernel_rfl) (by kernel_rfl) rfl (fun _ _ _ h => h) (Or.inl ⟨by kernel_rfl, ?_⟩) (by first | assumption | trivial) ?_; rotate_left
      · (intro w hSw; (try dsimp only at hSw); first | (go_simp; done) | (go_simp; with_reducible rfl))
      (try simp only [Act.put, List.setIfInBounds_toArray, List.set_cons_zero, List.set_cons_succ])
      refine wpAnyH_done (by kernel_rfl) ?_ _
      go_wp2
      go_ret
      exact ⟨rfl, HF2.out.drew⟩
end Go.Proofs.Ytgebmmbnpdhooaa
