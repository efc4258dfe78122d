/- src: strings and their marks; whatever there is. -/
import Derived.Test.YtgebmmbnpdhooaasRmk
namespace Go.Proofs.Ytgebmmbnpdhooaa
set_option linter.unusedVariables false
open Go.RowKit Go.ChangeShapes
section
variable {w0 w : World} {S b off n cap B T gs gq i : Nat} {F : Fm} {c L : Nat → Int}
theorem flen_any (hs : Sta S b n cap B T gs gq F c) (h : En w0 S w b off n cap B T gs gq F c L i) (hi : i ≤ n) {ad : Option Addr} (ha : (if cap = i then some (⟨b, off, none⟩ : Addr) else some ⟨b, off + i, none⟩) = ad) {q : Qt} (hq : GdQ q) {m : Nat} (hm : i + m = lnE q c n i) :
    Calls Try.prog 39 #[qv q, .slice ad (n - i) (cap - i)] w fun ev w' => ev = .returned (.int .i64 (m : Nat)) ∧ Below w.heap.size w w' := by
  have hfr := BC.from h.bc i hi hs.nc
  rw [ha] at hfr
  have e1 : ∃ off2, ad = some ⟨b, off2, none⟩ := by
    rw [← ha]
    split
    · exact ⟨_, rfl⟩
    · exact ⟨_, rfl⟩
  obtain ⟨off2, e1⟩ := e1
  rw [e1] at hfr ⊢
  have := length_any (cap := cap - i) (hs.ch.from i hi) hfr (by have := hs.n6; omega) (by have := hs.nc; omega) (by have := hs.big; omega) hq
  have e2 := lnE_shift q c hi
  rw [show lnE q (fun j => c (i + j)) (n - i) 0 = m by omega] at this
  exact this
set_option maxHeartbeats 8000000 in
theorem text_any (hs : Sta S b n cap B T gs gq F c) (h : En w0 S w b off n cap B T gs gq F c L i) {q : Qt} (hq : GdQ q) {a : Nat} (ha : i + q.mark.length = a) (han : a ≤ n) :
    Calls Try.prog 34 #[.pointer (some ⟨B, 0, none⟩), qv q] w (SP w0 S b off n cap B T gs gq F c (pt (setL L 4 (i : Int) (a : Int)) (txR q c n a).2 a (txR q c n a).1) (txR q c n a).1) := by
  obtain ⟨W, hW⟩ : ∃ W, w.alloc (.cells #[.string (strOfNums q.mark), .int .u8 q.inn, .bool q.esc, .bool q.dbl, .bool q.lng] 72) = W := ⟨_, rfl⟩
  have hb : Below w.heap.size w W := by rw [← hW]; exact below_alloc w _
  have hEW := h.stay hb
  have hn := hs.n6
  have hsz : (strOfNums q.mark).size = q.mark.length := strOfNums_size _
  have c1 := flay_fr hs hEW 4 q.mark.length a ha (by omega)
  obtain ⟨BX, hBX⟩ : ∃ BX, w.heap.size = BX := ⟨_, rfl⟩
  have hqb : QB BX (strOfNums q.mark) q.inn q.esc q.dbl q.lng W := by rw [← hBX]; exact qcells hW
  have hBXg : BX < W.heap.size ∧ w.heap.size = BX := ⟨World.block_lt_of_cell? W _ hqb.1, hBX⟩
  have hlt1 : gs < BX := by rw [← hBX]; exact h.sh.row.lt
  have hlt2 : B < BX := by rw [← hBX]; exact lt_of_heap h.box
  have HS : Hid (Sta S b n cap B T gs gq F c) := hs
  obtain ⟨e, he⟩ : ∃ e, lnE q c n a = e := ⟨_, rfl⟩
  have hel := lnE_le hq c han
  rw [he] at hel
  obtain ⟨m1, hm1⟩ : ∃ m1, a + m1 = e := ⟨e - a, by omega⟩
  have htx := txR_le hq hs.ch han
  obtain ⟨L1, hL1⟩ : ∃ L1, setL L 4 (i : Int) (a : Int) = L1 := ⟨_, rfl⟩
  rw [hL1] at c1 ⊢
  have hpt : pt L1 (txR q c n a).2 a (txR q c n a).1 = pt (setL L1 q.inn (a : Int) (e : Int)) (fun _ => 4) e (if oc q.mark c e = true then e + q.mark.length else e) := by
    unfold txR at htx ⊢
    rw [he] at htx ⊢
    exact pt_ahd L1 q.inn (i := a) (a := e) (if oc q.mark c e = true then e + q.mark.length else e, fun _ => 4) (by omega) htx.1
  have hfe : (txR q c n a).1 = if oc q.mark c e = true then e + q.mark.length else e := by
    unfold txR ahd
    rw [he]
  rw [hpt, hfe]
  have hEn : oc q.mark c e = true → e + q.mark.length ≤ n := fun h1 => oc_len hs.ch.2 q.mark hq.byt e hq.ne h1
  obtain ⟨ad, had⟩ : ∃ ad, (if cap = a then some (⟨b, off, none⟩ : Addr) else some ⟨b, off + a, none⟩) = ad := ⟨_, rfl⟩
  have CL : Hid (∀ w1, En w0 S w1 b off n cap B T gs gq F c L1 a → Calls Try.prog 39 #[qv q, .slice ad (n - a) (cap - a)] w1 fun ev w' => ev = .returned (.int .i64 (m1 : Nat)) ∧ Below w1.heap.size w1 w') := fun w1 h1 => flen_any hs h1 han had hq (by omega)
  have CB : Hid (∀ w1 L2, En w0 S w1 b off n cap B T gs gq F c L2 e → Calls Try.prog 30 #[.pointer (some ⟨B, 0, none⟩), .string (strOfNums q.mark)] w1 fun ev w' => ev = .returned (.bool (oc q.mark c e)) ∧ Below w1.heap.size w1 w') := fun w1 L2 h1 => begins_any hs h1 hel.2 q.mark hq.byt hq.ne
  have hfw := hq.few
  have hHH : Hid (a ≤ n ∧ e ≤ n ∧ a + m1 = e) := ⟨han, hel.2, hm1⟩
  clear hpt hfe htx he hel h hs hEW hb hm1
  unfold qv at CL ⊢
  cases q with
  | mk mk inn esc dbl lng =>
  dsimp only at *
  obtain ⟨M, hM⟩ : ∃ M, strOfNums mk = M := ⟨_, rfl⟩
  obtain ⟨m, hm⟩ : ∃ m, mk.length = m := ⟨_, rfl⟩
  rw [hM] at CL CB hqb hW hsz
  rw [hM]
  rw [hm] at c1 hEn ⊢
  rw [hm] at hsz hfw
  obtain ⟨r, hr⟩ : ∃ r, oc mk c e = r := ⟨_, rfl⟩
  rw [hr] at CB hEn ⊢
  obtain ⟨Q, hQ⟩ : ∃ Q, SP w0 S b off n cap B T gs gq F c (pt (setL L1 inn (a : Int) (e : Int)) (fun _ => 4) e (if r = true then e + m else e)) (if r = true then e + m else e) = Q := ⟨_, rfl⟩
  rw [hQ]
  have HQ : Hid (SP w0 S b off n cap B T gs gq F c (pt (setL L1 inn (a : Int) (e : Int)) (fun _ => 4) e (if r = true then e + m else e)) (if r = true then e + m else e) = Q) := hQ
  have HEN : Hid (r = true → e + m ≤ n) := hEn
  have HBX : Hid (BX < W.heap.size ∧ gs < BX ∧ B < BX) := ⟨hBXg.1, hlt1, hlt2⟩
  have HQB : Hid (QB BX M inn esc dbl lng W) := hqb
  obtain ⟨y0, y1, y2, y3, y4⟩ := hqb
  clear hQ hEn hBXg hlt1 hlt2 hM hm hr ha han hL1 hq
  go_enter Try.func34, Try.ntmps34
  go_wp2_with fail
  refine c1.mono ?_
  rintro ev w1 ⟨rfl, h1, hk1⟩
  have HE1 : Hid (En w0 S w1 b off n cap B T gs gq F c L1 a) := h1
  have HQ1 : Hid (QB BX M inn esc dbl lng w1) := HQB.out.keep (hk1 BX (by have := HBX.out; omega) (by have := HBX.out; omega) HBX.out.1)
  have HB1 : Hid (BX < w1.heap.size) := World.block_lt_of_cell? w1 _ HQ1.out.1
  clear c1 h1 hk1 y0 y1 y2 y3 y4 hW
  go_upto_region 2 with fail
  refine wp_region_held_drew (S := fun w' => w'.cell? ⟨BX, 0, none⟩ = some (.string M) ∧ w'.cell? ⟨BX, 1, none⟩ = some (.int .u8 inn) ∧ w'.cell? ⟨BX, 2, none⟩ = some (.bool esc) ∧ w'.cell? ⟨BX, 3, none⟩ = some (.bool dbl) ∧ w'.cell? ⟨BX, 4, none⟩ = some (.bool lng)) (by kernel_rfl) HQ1.out.drew (fun hHeld => ?_)
  clear hHeld
  refine takeH (i := 0) (v := ?_) (d := (some 9)) rfl (by kernel_rfl) (by kernel_rfl) (by kernel_rfl) rfl (fun _ _ _ h => h) (Or.inl ⟨by kernel_rfl, ?_⟩) (by first | assumption | trivial) ?_; rotate_left
  · (intro w hSw; (try dsimp only at hSw); first | (go_simp; done) | (go_simp; with_reducible rfl))
  (try simp only [Act.put, List.setIfInBounds_toArray, List.set_cons_zero, List.set_cons_succ])
  refine takeH (i := 1) (v := ?_) (d := (some 10)) rfl (by kernel_rfl) (by kernel_rfl) (by kernel_rfl) rfl (fun _ _ _ h => h) (Or.inl ⟨by kernel_rfl, ?_⟩) (by first | assumption | trivial) ?_; rotate_left
  · (intro w hSw; (try dsimp only at hSw); first | (go_simp; done) | (go_simp; with_reducible rfl))
  (try simp only [Act.put, List.setIfInBounds_toArray, List.set_cons_zero, List.set_cons_succ])
  refine takeH (i := 2) (v := ?_) (d := (some 11)) rfl (by kernel_rfl) (by kernel_rfl) (by kernel_rfl) rfl (fun _ _ _ h => h) (Or.inl ⟨by kernel_rfl, ?_⟩) (by first | assumption | trivial) ?_; rotate_left
  · (intro w hSw; (try dsimp only at hSw); first | (go_simp; done) | (go_simp; with_reducible rfl))
  (try simp only [Act.put, List.setIfInBounds_toArray, List.set_cons_zero, List.set_cons_succ])
  refine takeH (i := 3) (v := ?_) (d := (some 12)) rfl (by kernel_rfl) (by kernel_rfl) (by kernel_rfl) rfl (fun _ _ _ h => h) (Or.inl ⟨by kernel_rfl, ?_⟩) (by first | assumption | trivial) ?_; rotate_left
  · (intro w hSw; (try dsimp only at hSw); first | (go_simp; done) | (go_simp; with_reducible rfl))
  (try simp only [Act.put, List.setIfInBounds_toArray, List.set_cons_zero, List.set_cons_succ])
  refine takeH (i := 4) (v := ?_) (d := (some 13)) rfl (by kernel_rfl) (by kernel_rfl) (by kernel_rfl) rfl (fun _ _ _ h => h) (Or.inl ⟨by kernel_rfl, ?_⟩) (by first | assumption | trivial) ?_; rotate_left
  · (intro w hSw; (try dsimp only at hSw); first | (go_simp; done) | (go_simp; with_reducible rfl))
  (try simp only [Act.put, List.setIfInBounds_toArray, List.set_cons_zero, List.set_cons_succ])
  have c2 := rest_any HS.out HE1.out.drew hHH.out.1 had
  refine wpAnyH_ready (rs := [5]) (by kernel_rfl) (by simp) (AllReadyH.cons rfl (fun K hK => ?_) AllReadyH.nil)
  go_simp
  refine c2.mono ?_
  rintro ev w2 ⟨rfl, hb2⟩
  have HE2 : Hid (En w0 S w2 b off n cap B T gs gq F c L1 a) := HE1.out.drew.stay hb2
  have HQ2 : Hid (QB BX M inn esc dbl lng w2) := HQ1.out.drew.stay hb2
  have c3 := CL.out w2 HE2.out
  clear c2 hb2
  refine hK.out _ _ HQ2.out (fun hHeld => ?_)
  clear hK K hHeld
  (try simp only [Act.put, List.setIfInBounds_toArray, List.set_cons_zero, List.set_cons_succ])
  refine wpAnyH_ready (rs := [6]) (by kernel_rfl) (by simp) (AllReadyH.cons rfl (fun K hK => ?_) AllReadyH.nil)
  go_simp
  refine c3.mono ?_
  rintro ev w3 ⟨rfl, hb3⟩
  have HE3 : Hid (En w0 S w3 b off n cap B T gs gq F c L1 a) := HE2.out.stay hb3
  have HQ3 : Hid (QB BX M inn esc dbl lng w3) := HQ2.out.stay hb3
  have c4 := flay_fr HS.out HE3.out inn m1 e hHH.out.2.2 (by have := hHH.out; have := HS.out.n6; omega)
  clear c3 hb3
  refine hK.out _ _ HQ3.out (fun hHeld => ?_)
  clear hK K hHeld
  (try simp only [Act.put, List.setIfInBounds_toArray, List.set_cons_zero, List.set_cons_succ])
  refine wpAnyH_ready (rs := [7]) (by kernel_rfl) (by simp) (AllReadyH.cons rfl (fun K hK => ?_) AllReadyH.nil)
  go_simp
  refine c4.mono ?_
  rintro ev w4 ⟨rfl, h4, hk4⟩
  have HE4 : Hid (En w0 S w4 b off n cap B T gs gq F c (setL L1 inn (a : Int) (e : Int)) e) := h4
  have HQ4 : Hid (QB BX M inn esc dbl lng w4) := HQ3.out.keep (hk4 BX (by have := HBX.out; omega) (by have := HBX.out; omega) (World.block_lt_of_cell? w3 _ HQ3.out.1))
  have c5 := CB.out w4 _ HE4.out
  clear c4 h4 hk4
  refine hK.out _ _ HQ4.out (fun hHeld => ?_)
  clear hK K hHeld
  (try simp only [Act.put, List.setIfInBounds_toArray, List.set_cons_zero, List.set_cons_succ])
  refine wpAnyH_done (by kernel_rfl) ?_ _
  obtain ⟨y0, y1, y2, y3, y4⟩ := HQ4.out
  go_wp2_with fail
  refine c5.mono ?_
  rintro ev w5 ⟨rfl, hb5⟩
  have HE5 : Hid (En w0 S w5 b off n cap B T gs gq F c (setL L1 inn (a : Int) (e : Int)) e) := HE4.out.stay hb5
  obtain ⟨u0, u1, u2, u3, u4⟩ := HQ4.out.stay hb5
  clear c5 hb5 y0 y1 y2 y3 y4
  cases r with
  | false =>
    go_wp2
    go_end0
    rw [← HQ.out]
    refine ⟨rfl, ?_⟩
    rw [if_neg Bool.false_ne_true, pt_none _ _ (Nat.le_refl _)]
    exact HE5.out
  | true =>
    have hle := HEN.out rfl
    obtain ⟨E, hE⟩ : ∃ E, e + m = E := ⟨_, rfl⟩
    have c6 := flay_any HS.out HE5.out 4 m E hE (by have := HS.out.n6; omega)
    have HEE : Hid (e + m = E) := hE
    clear hle hE
    go_wp2_with fail
    refine c6.mono ?_
    rintro ev w6 ⟨rfl, h6⟩
    go_wp2
    go_end0
    rw [← HQ.out]
    refine ⟨rfl, ?_⟩
    simp only [if_true]
    rw [HEE.out, pt_one]
    exact h6
end
end Go.Proofs.Ytgebmmbnpdhooaa
