/- src: a file that is gone through, in memory: rest, begins, lay, free. -/
import Derived.Test.YtgebmmbnpdhooaasLen
namespace Go.Proofs.Ytgebmmbnpdhooaa
set_option linter.unusedVariables false
open Go.RowKit Go.ChangeShapes
/-- A family's strings as a row. -/
def QR (w : World) (g : Nat) (qs : List Qt) : Prop := ∀ (k : Nat) (q : Qt), qs[k]? = some q → w.cell? ⟨g, k * 5, none⟩ = some (.string (strOfNums q.mark)) ∧ w.cell? ⟨g, k * 5 + 1, none⟩ = some (.int .u8 q.inn) ∧ w.cell? ⟨g, k * 5 + 2, none⟩ = some (.bool q.esc) ∧ w.cell? ⟨g, k * 5 + 3, none⟩ = some (.bool q.dbl) ∧ w.cell? ⟨g, k * 5 + 4, none⟩ = some (.bool q.lng)
theorem QR.stay {w w' : World} {g : Nat} {qs : List Qt} (h : QR w g qs) (hb : Below w.heap.size w w') : QR w' g qs := fun k q hk => by
  obtain ⟨a0, a1, a2, a3, a4⟩ := h k q hk
  exact ⟨cell_stay a0 hb, cell_stay a1 hb, cell_stay a2 hb, cell_stay a3 hb, cell_stay a4 hb⟩
theorem QR.keep {w w' : World} {g : Nat} {qs : List Qt} (h : QR w g qs) (e : w'.heap[g]? = w.heap[g]?) : QR w' g qs := fun k q hk => by
  have h1 : ∀ i, w'.cell? ⟨g, i, none⟩ = w.cell? ⟨g, i, none⟩ := fun i => by simp only [World.cell?, e]
  rw [h1, h1, h1, h1, h1]
  exact h k q hk
/-- What doesn't change. -/
structure Sta (S b n cap B T gs gq : Nat) (F : Fm) (c : Nat → Int) : Prop where
  ch : Ch c n
  n6 : n ≤ 65536
  nc : n ≤ cap
  big : cap ≤ 9223372036854775807
  gd : GdF F
  bg : b ≠ gs
  Bg : B ≠ gs
  bB : b ≠ B
  BT : B ≠ T
  qg : gq ≠ gs
  qB : gq ≠ B
  SB : S ≤ B
  Sg : S ≤ gs
def boxC (F : Fm) (gq T b off n cap i : Nat) : Array Value := #[.string (strOfNums F.line), .bool F.apart, .string (strOfNums F.opn), .string (strOfNums F.sht), .bool F.nst, .slice (some ⟨gq, 0, none⟩) F.qs.length F.qs.length, .pointer (some ⟨T, 0, none⟩), .slice (some ⟨b, off, none⟩) n cap, .int .i64 i]
/-- A file in memory: its bytes, its box, its sheet, its family's strings; what was there ahead of it is as it was. -/
structure En (w0 : World) (S : Nat) (w : World) (b off n cap B T gs gq : Nat) (F : Fm) (c L : Nat → Int) (i : Nat) : Prop where
  bc : BC w (some ⟨b, off, none⟩) n c
  box : w.heap[B]? = some (.cells (boxC F gq T b off n cap i) 59 (0, 0))
  sh : Sh w T gs n L
  qr : QR w gq F.qs
  up : Up S w0 w
  lt : gq < w.heap.size
section
variable {w0 w w' : World} {S b off n cap B T gs gq i j : Nat} {F : Fm} {c L M : Nat → Int}
theorem En.stay (h : En w0 S w b off n cap B T gs gq F c L i) (hb : Below w.heap.size w w') : En w0 S w' b off n cap B T gs gq F c L i := ⟨h.bc.stay hb, blk_stay h.box hb, h.sh.stay hb, h.qr.stay hb, h.up.stay hb, Nat.lt_of_lt_of_le h.lt hb.size⟩
theorem En.drew (h : En w0 S w b off n cap B T gs gq F c L i) : En w0 S w.drew b off n cap B T gs gq F c L i := h.stay (Below.refl _ _).drew
theorem En.cells (h : En w0 S w b off n cap B T gs gq F c L i) : w.cell? ⟨B, 0, none⟩ = some (.string (strOfNums F.line)) ∧ w.cell? ⟨B, 1, none⟩ = some (.bool F.apart) ∧ w.cell? ⟨B, 2, none⟩ = some (.string (strOfNums F.opn)) ∧ w.cell? ⟨B, 3, none⟩ = some (.string (strOfNums F.sht)) ∧ w.cell? ⟨B, 4, none⟩ = some (.bool F.nst) ∧ w.cell? ⟨B, 5, none⟩ = some (.slice (some ⟨gq, 0, none⟩) F.qs.length F.qs.length) ∧ w.cell? ⟨B, 6, none⟩ = some (.pointer (some ⟨T, 0, none⟩)) ∧ w.cell? ⟨B, 7, none⟩ = some (.slice (some ⟨b, off, none⟩) n cap) ∧ w.cell? ⟨B, 8, none⟩ = some (.int .i64 i) := by
  simp [World.cell?, h.box, boxC]
theorem En.free (h : En w0 S w b off n cap B T gs gq F c L i) (k : Nat) : w.frozen? ⟨B, k, none⟩ = false := by
  simp [World.frozen?, h.box]
theorem En.set (h : En w0 S w b off n cap B T gs gq F c L i) (hs : Sta S b n cap B T gs gq F c) (hS : Sh w' T gs n M) (hg : w.grownBy w' (some gs)) (hz : w.heap.size ≤ w'.heap.size) : En w0 S w' b off n cap B T gs gq F c M i :=
  ⟨h.bc.grown hg hs.bg, (hg.block B (lt_of_heap h.box) (fun e => hs.Bg (Option.some.inj e))).trans h.box, hS, h.qr.keep (hg.block gq h.lt (fun e => hs.qg (Option.some.inj e))), h.up.grown hg fun k e => by have := hs.Sg; have := Option.some.inj e; omega, Nat.lt_of_lt_of_le h.lt hz⟩
theorem En.go (h : En w0 S w b off n cap B T gs gq F c L i) (hs : Sta S b n cap B T gs gq F c) (j : Nat) : En w0 S (w.setCell ⟨B, 8, none⟩ (.int .i64 j)) b off n cap B T gs gq F c L j := by
  have hk : ∀ g, g ≠ B → (w.setCell ⟨B, 8, none⟩ (.int .i64 j)).heap[g]? = w.heap[g]? := fun g hg => heap_setCell_other w ⟨B, 8, none⟩ g _ hg
  refine ⟨fun k hk' => ?_, heap_setCell_same _ _ _ _ _ _ h.box, h.sh.keep (hk T (fun e => hs.BT e.symm)) (hk gs (fun e => hs.Bg e.symm)), h.qr.keep (hk gq hs.qB), h.up.setCell hs.SB _, ?_⟩
  · obtain ⟨b', off', e, hc⟩ := h.bc k hk'
    injection e with e
    injection e with e1 e2 _
    subst e1 e2
    refine ⟨b, off, rfl, ?_⟩
    rw [← hc]
    have e3 := hk b hs.bB
    simp only [World.cell?]
    rw [e3]
  · have := h.lt
    have e := (h.up.setCell (p := ⟨B, 8, none⟩) hs.SB (.int .i64 j)).2
    have h2 := h.qr
    have h3 := hk gq hs.qB
    rcases Nat.lt_or_ge gq (w.setCell ⟨B, 8, none⟩ (.int .i64 j)).heap.size with h4 | h4
    · exact h4
    · rw [Array.getElem?_eq_none h4, Array.getElem?_eq_getElem this] at h3
      cases h3
theorem En.congr (h : En w0 S w b off n cap B T gs gq F c L i) (e : L = M) : En w0 S w b off n cap B T gs gq F c M i := e ▸ h
end
def SP (w0 : World) (S b off n cap B T gs gq : Nat) (F : Fm) (c : Nat → Int) (L : Nat → Int) (i : Nat) (ev : Ending) (w' : World) : Prop := ev = .returned (.tuple #[]) ∧ En w0 S w' b off n cap B T gs gq F c L i
/-- The same, and: no other block is touched. -/
def SPK (w w0 : World) (S b off n cap B T gs gq : Nat) (F : Fm) (c : Nat → Int) (L : Nat → Int) (i : Nat) (ev : Ending) (w' : World) : Prop := ev = .returned (.tuple #[]) ∧ En w0 S w' b off n cap B T gs gq F c L i ∧ ∀ g, g ≠ gs → g ≠ B → g < w.heap.size → w'.heap[g]? = w.heap[g]?
section
variable {w0 w : World} {S b off n cap B T gs gq i : Nat} {F : Fm} {c L : Nat → Int}
theorem rest_any (hs : Sta S b n cap B T gs gq F c) (h : En w0 S w b off n cap B T gs gq F c L i) (hi : i ≤ n) {ad : Option Addr} (ha : (if cap = i then some (⟨b, off, none⟩ : Addr) else some ⟨b, off + i, none⟩) = ad) :
    Calls Try.prog 37 #[.pointer (some ⟨B, 0, none⟩)] w fun ev w' => ev = .returned (.slice ad (n - i) (cap - i)) ∧ Below w.heap.size w w' := by
  obtain ⟨x0, x1, x2, x3, x4, x5, x6, x7, x8⟩ := h.cells
  have hnc := hs.nc
  have hbig := hs.big
  have hn := hs.n6
  have z1 : (0 : Int) ≤ (i : Int) := by omega
  have z2 : (i : Int) ≤ (n : Int) := by omega
  have z3 : (n : Int) ≤ (cap : Int) := by omega
  have HB : Hid (∀ q, Below w.heap.size w (w.drewN q)) := fun q => below_drewN (Below.refl _ _) q
  clear hs h x0 x1 x2 x3 x4 x5 x6
  go_enter Try.func37, Try.ntmps37
  go_wp2_with fail
  go_quiet (fail)
  go_wp2
  go_ret
  exact ⟨rfl, HB.out _⟩
theorem begins_any (hs : Sta S b n cap B T gs gq F c) (h : En w0 S w b off n cap B T gs gq F c L i) (hi : i ≤ n) (t : List Int) (ht : Byt t) (h0 : t ≠ []) :
    Calls Try.prog 30 #[.pointer (some ⟨B, 0, none⟩), .string (strOfNums t)] w fun ev w' => ev = .returned (.bool (oc t c i)) ∧ Below w.heap.size w w' := by
  obtain ⟨ad, ha⟩ : ∃ ad, (if cap = i then some (⟨b, off, none⟩ : Addr) else some ⟨b, off + i, none⟩) = ad := ⟨_, rfl⟩
  have cr := rest_any hs h hi ha
  have HS : Hid (∀ w1, Below w.heap.size w w1 → Calls Try.prog 36 #[.slice ad (n - i) (cap - i), .string (strOfNums t)] w1 fun ev w' => ev = .returned (.bool (oc t c i)) ∧ w' = w1) := fun w1 hb1 => by
    have hfr := (BC.from h.bc i hi hs.nc).stay hb1
    rw [ha] at hfr
    have e1 : ∃ off2, ad = some ⟨b, off2, none⟩ := by
      rw [← ha]
      split
      · exact ⟨_, rfl⟩
      · exact ⟨_, rfl⟩
    obtain ⟨off2, e1⟩ := e1
    rw [e1] at hfr ⊢
    have := starts_any (cap := cap - i) (hs.ch.from i hi) hfr (by have := hs.nc; omega) (by have := hs.big; omega) t ht h0
    rw [oc_shift, Nat.add_zero] at this
    exact this
  obtain ⟨r, hr⟩ : ∃ r, oc t c i = r := ⟨_, rfl⟩
  obtain ⟨M, hM⟩ : ∃ M, strOfNums t = M := ⟨_, rfl⟩
  rw [hr, hM] at HS
  rw [hr, hM]
  clear hr hM ha hs h ht h0
  go_enter Try.func30, Try.ntmps30
  go_wp2_with fail
  refine cr.mono ?_
  rintro ev w1 ⟨rfl, hb1⟩
  have cs := HS.out w1 hb1
  have HB : Hid (Below w.heap.size w w1) := hb1
  clear hb1 cr
  go_wp2_with fail
  refine cs.mono ?_
  rintro ev w2 ⟨rfl, hw⟩
  subst w2
  go_wp2
  go_ret
  exact ⟨rfl, HB.out⟩
set_option maxHeartbeats 4000000 in
theorem flay_fr (hs : Sta S b n cap B T gs gq F c) (h : En w0 S w b off n cap B T gs gq F c L i) (l : Int) (t e : Nat) (he : i + t = e) (hle : e ≤ 1000000) :
    Calls Try.prog 35 #[.pointer (some ⟨B, 0, none⟩), .int .u8 l, .int .i64 t] w (SPK w w0 S b off n cap B T gs gq F c (setL L l (i : Int) (e : Int)) e) := by
  obtain ⟨x0, x1, x2, x3, x4, x5, x6, x7, x8⟩ := h.cells
  have hw : IntKind.i64.wrap ((i : Int) + (t : Int)) = (e : Int) := by rw [Go.IntWalk.i64_in _ (by omega)]; omega
  have HH : Hid (Sta S b n cap B T gs gq F c ∧ En w0 S w b off n cap B T gs gq F c L i) := ⟨hs, h⟩
  obtain ⟨Q, hQ⟩ : ∃ Q, SPK w w0 S b off n cap B T gs gq F c (setL L l (i : Int) (e : Int)) e = Q := ⟨_, rfl⟩
  rw [hQ]
  have HQ : Hid (SPK w w0 S b off n cap B T gs gq F c (setL L l (i : Int) (e : Int)) e = Q) := hQ
  clear hs h hQ he hle x0 x1 x2 x3 x4 x5 x7
  go_enter Try.func35, Try.ntmps35
  go_upto_region 0 with fail
  refine wp_region_held_drew (S := fun w' => w'.cell? ⟨B, 6, none⟩ = some (.pointer (some ⟨T, 0, none⟩)) ∧ w'.cell? ⟨B, 8, none⟩ = some (.int .i64 i)) (by kernel_rfl) ⟨x6, x8⟩ (fun hHeld => ?_)
  clear hHeld
  refine takeH (i := 0) (v := ?_) (d := (some 6)) rfl (by kernel_rfl) (by kernel_rfl) (by kernel_rfl) rfl (fun _ _ _ h => h) (Or.inl ⟨by kernel_rfl, ?_⟩) (by first | assumption | trivial) ?_; rotate_left
  · (intro w hSw; (try dsimp only at hSw); first | (go_simp; done) | (go_simp; with_reducible rfl))
  (try simp only [Act.put, List.setIfInBounds_toArray, List.set_cons_zero, List.set_cons_succ])
  refine takeH (i := 1) (v := ?_) (d := (some 7)) rfl (by kernel_rfl) (by kernel_rfl) (by kernel_rfl) rfl (fun _ _ _ h => h) (Or.inl ⟨by kernel_rfl, ?_⟩) (by first | assumption | trivial) ?_; rotate_left
  · (intro w hSw; (try dsimp only at hSw); first | (go_simp; done) | (go_simp; with_reducible rfl))
  (try simp only [Act.put, List.setIfInBounds_toArray, List.set_cons_zero, List.set_cons_succ])
  refine takeH (i := 2) (v := ?_) (d := (some 8)) rfl (by kernel_rfl) (by kernel_rfl) (by kernel_rfl) rfl (fun _ _ _ h => h) (Or.inl ⟨by kernel_rfl, ?_⟩) (by first | assumption | trivial) ?_; rotate_left
  · (intro w hSw; (try dsimp only at hSw); first | (go_simp; done) | (go_simp; with_reducible rfl))
  (try simp only [Act.put, List.setIfInBounds_toArray, List.set_cons_zero, List.set_cons_succ])
  refine takeH (i := 3) (v := ?_) (d := (some 9)) rfl (by kernel_rfl) (by kernel_rfl) (by kernel_rfl) rfl (fun _ _ _ h => h) (Or.inl ⟨by kernel_rfl, ?_⟩) (by first | assumption | trivial) ?_; rotate_left
  · (intro w hSw; (try dsimp only at hSw); first | (go_simp; done) | (go_simp; with_reducible rfl))
  (try simp only [Act.put, List.setIfInBounds_toArray, List.set_cons_zero, List.set_cons_succ])
  refine takeH (i := 4) (v := ?_) (d := (some 10)) rfl (by kernel_rfl) (by kernel_rfl) (by kernel_rfl) rfl (fun _ _ _ h => h) (Or.inl ⟨by kernel_rfl, ?_⟩) (by first | assumption | trivial) ?_; rotate_left
  · (intro w hSw; (try dsimp only at hSw); first | (go_simp; done) | (go_simp; with_reducible rfl))
  (try simp only [Act.put, List.setIfInBounds_toArray, List.set_cons_zero, List.set_cons_succ])
  refine takeH (i := 5) (v := ?_) (d := (some 11)) rfl (by kernel_rfl) (by kernel_rfl) (by kernel_rfl) rfl (fun _ _ _ h => h) (Or.inl ⟨by kernel_rfl, ?_⟩) (by first | assumption | trivial) ?_; rotate_left
  · (intro w hSw; (try dsimp only at hSw); first | (go_simp; done) | (go_simp; with_reducible rfl))
  (try simp only [Act.put, List.setIfInBounds_toArray, List.set_cons_zero, List.set_cons_succ])
  refine takeH (i := 6) (v := ?_) (d := (some 12)) rfl (by kernel_rfl) (by kernel_rfl) (by kernel_rfl) rfl (fun _ _ _ h => h) (Or.inl ⟨by kernel_rfl, ?_⟩) (by first | assumption | trivial) ?_; rotate_left
  · (intro w hSw; (try dsimp only at hSw); first | (go_simp; done) | (go_simp; with_reducible rfl))
  (try simp only [Act.put, List.setIfInBounds_toArray, List.set_cons_zero, List.set_cons_succ])
  refine takeH (i := 7) (v := ?_) (d := (some 13)) rfl (by kernel_rfl) (by kernel_rfl) (by kernel_rfl) rfl (fun _ _ _ h => h) (Or.inl ⟨by kernel_rfl, ?_⟩) (by first | assumption | trivial) ?_; rotate_left
  · (intro w hSw; (try dsimp only at hSw); first | (go_simp; done) | (go_simp; with_reducible rfl))
  (try simp only [Act.put, List.setIfInBounds_toArray, List.set_cons_zero, List.set_cons_succ])
  refine takeH (i := 8) (v := ?_) (d := (some 14)) rfl (by kernel_rfl) (by kernel_rfl) (by kernel_rfl) rfl (fun _ _ _ h => h) (Or.inl ⟨by kernel_rfl, ?_⟩) (by first | assumption | trivial) ?_; rotate_left
  · (intro w hSw; (try dsimp only at hSw); first | (go_simp; done) | (go_simp; with_reducible rfl))
  (try simp only [Act.put, List.setIfInBounds_toArray, List.set_cons_zero, List.set_cons_succ])
  refine takeH (i := 9) (v := ?_) (d := (some 15)) rfl (by kernel_rfl) (by kernel_rfl) (by kernel_rfl) rfl (fun _ _ _ h => h) (Or.inl ⟨by kernel_rfl, ?_⟩) (by first | assumption | trivial) ?_; rotate_left
  · (intro w hSw; (try dsimp only at hSw); first | (go_simp; done) | (go_simp; with_reducible rfl))
  (try simp only [Act.put, List.setIfInBounds_toArray, List.set_cons_zero, List.set_cons_succ])
  refine takeH (i := 10) (v := ?_) (d := (some 16)) rfl (by kernel_rfl) (by kernel_rfl) (by kernel_rfl) rfl (fun _ _ _ h => h) (Or.inl ⟨by kernel_rfl, ?_⟩) (by first | assumption | trivial) ?_; rotate_left
  · (intro w hSw; (try dsimp only at hSw); first | (go_simp; done) | (go_simp; with_reducible rfl))
  (try simp only [Act.put, List.setIfInBounds_toArray, List.set_cons_zero, List.set_cons_succ])
  refine takeH (i := 11) (v := ?_) (d := (some 17)) rfl (by kernel_rfl) (by kernel_rfl) (by kernel_rfl) rfl (fun _ _ _ h => h) (Or.inl ⟨by kernel_rfl, ?_⟩) (by first | assumption | trivial) ?_; rotate_left
  · (intro w hSw; (try dsimp only at hSw); first | (go_simp; done) | (go_simp; with_reducible rfl))
  (try simp only [Act.put, List.setIfInBounds_toArray, List.set_cons_zero, List.set_cons_succ])
  refine takeH (i := 12) (v := ?_) (d := (some 18)) rfl (by kernel_rfl) (by kernel_rfl) (by kernel_rfl) rfl (fun _ _ _ h => h) (Or.inl ⟨by kernel_rfl, ?_⟩) (by first | assumption | trivial) ?_; rotate_left
  · (intro w hSw; (try dsimp only at hSw); first | (go_simp; done) | (go_simp; with_reducible rfl))
  (try simp only [Act.put, List.setIfInBounds_toArray, List.set_cons_zero, List.set_cons_succ])
  refine takeH (i := 13) (v := ?_) (d := (some 19)) rfl (by kernel_rfl) (by kernel_rfl) (by kernel_rfl) rfl (fun _ _ _ h => h) (Or.inl ⟨by kernel_rfl, ?_⟩) (by first | assumption | trivial) ?_; rotate_left
  · (intro w hSw; (try dsimp only at hSw); first | (go_simp; done) | (go_simp; with_reducible rfl))
  (try simp only [Act.put, List.setIfInBounds_toArray, List.set_cons_zero, List.set_cons_succ])
  refine takeH (i := 14) (v := ?_) (d := (some 20)) rfl (by kernel_rfl) (by kernel_rfl) (by kernel_rfl) rfl (fun _ _ _ h => h) (Or.inl ⟨by kernel_rfl, ?_⟩) (by first | assumption | trivial) ?_; rotate_left
  · (intro w hSw; (try dsimp only at hSw); first | (go_simp; done) | (go_simp; with_reducible rfl))
  (try simp only [Act.put, List.setIfInBounds_toArray, List.set_cons_zero, List.set_cons_succ])
  have cs := set_any HH.out.2.drew.sh HH.out.1.n6 l (i : Int) (e : Int)
  refine wpAnyH_ready (rs := [15]) (by kernel_rfl) (by simp) (AllReadyH.cons rfl (fun K hK => ?_) AllReadyH.nil)
  go_simp
  refine cs.mono ?_
  rintro ev w1 ⟨rfl, h1, h2, h3⟩
  have hE1 := HH.out.2.drew.set HH.out.1 h1 h2 (Nat.le_of_eq h3.symm)
  obtain ⟨y0, y1, y2, y3, y4, y5, y6, y7, y8⟩ := hE1.cells
  have hf := hE1.free 8
  have HE2 : Hid (En w0 S (w1.setCell ⟨B, 8, none⟩ (.int .i64 e)) b off n cap B T gs gq F c (setL L l (i : Int) (e : Int)) e) := hE1.go HH.out.1 e
  have HFR : Hid (∀ g, g ≠ gs → g ≠ B → g < w.heap.size → (w1.setCell ⟨B, 8, none⟩ (.int .i64 e)).heap[g]? = w.heap[g]?) := fun g hg1 hg2 hlt => by
    rw [heap_setCell_other w1 ⟨B, 8, none⟩ g _ hg2]
    exact h2.block g hlt (fun e => hg1 (Option.some.inj e))
  clear cs h1 h2 h3 hE1 x6 x8
  refine hK.out _ _ ⟨y6, y8⟩ (fun hHeld => ?_)
  clear hK K hHeld
  (try simp only [Act.put, List.setIfInBounds_toArray, List.set_cons_zero, List.set_cons_succ])
  refine wpAnyH_done (by kernel_rfl) ?_ _
  clear y0 y1 y2 y3 y4 y5 y6 y7
  go_wp2
  go_end0
  rw [← HQ.out]
  exact ⟨rfl, HE2.out, HFR.out⟩
theorem flay_any (hs : Sta S b n cap B T gs gq F c) (h : En w0 S w b off n cap B T gs gq F c L i) (l : Int) (t e : Nat) (he : i + t = e) (hle : e ≤ 1000000) :
    Calls Try.prog 35 #[.pointer (some ⟨B, 0, none⟩), .int .u8 l, .int .i64 t] w (SP w0 S b off n cap B T gs gq F c (setL L l (i : Int) (e : Int)) e) :=
  (flay_fr hs h l t e he hle).mono fun ev w' hh => ⟨hh.1, hh.2.1⟩
set_option maxHeartbeats 4000000 in
theorem free_any (hs : Sta S b n cap B T gs gq F c) (h : En w0 S w b off n cap B T gs gq F c L i) (hi : i ≤ n) :
    Calls Try.prog 31 #[.pointer (some ⟨B, 0, none⟩)] w fun ev w' => ev = .returned (.bool (frB F c i)) ∧ Below w.heap.size w w' := by
  obtain ⟨x0, x1, x2, x3, x4, x5, x6, x7, x8⟩ := h.cells
  have HB : Hid (∀ q, Below w.heap.size w (w.drewN q)) := fun q => below_drewN (Below.refl _ _) q
  unfold frB
  obtain ⟨ap, hap⟩ : ∃ ap, F.apart = ap := ⟨_, rfl⟩
  rw [hap] at x1 ⊢
  clear x0 x2 x3 x4 x5 x6
  cases ap with
  | false =>
    clear hs h x7
    go_enter Try.func31, Try.ntmps31
    go_wp2
    go_ret
    exact ⟨rfl, HB.out 0⟩
  | true =>
    by_cases h0 : i = 0
    · subst h0
      clear hs h x7
      go_enter Try.func31, Try.ntmps31
      go_wp2
      go_ret
      exact ⟨rfl, HB.out 0⟩
    · obtain ⟨k, rfl⟩ : ∃ k, i = k + 1 := ⟨i - 1, by omega⟩
      obtain ⟨b', off', e, hc⟩ := h.bc k (by omega)
      injection e with e
      injection e with e1 e2 _
      subst e1 e2
      have hn := hs.n6
      have z0 : (((k + 1 : Nat) : Int) == 0) = false := by simp; omega
      have k0 : (k + 1 == 0) = false := by simp
      rw [k0, Nat.add_sub_cancel]
      obtain ⟨K, hK⟩ : ∃ K : Nat, k + 1 = K := ⟨_, rfl⟩
      rw [hK] at x8 z0
      have z1 : IntKind.i64.wrap ((K : Int) - 1) = (k : Int) := by rw [Go.IntWalk.i64_in _ (by omega)]; omega
      have z6 : (K : Int) - 1 = (k : Int) := by omega
      have z2 : (0 : Int) ≤ (k : Int) := by omega
      have z3 : (k : Int) < (n : Int) := by omega
      have z4 : ¬ (k : Int) < 0 := by omega
      obtain ⟨x, hx⟩ : ∃ x, c k = x := ⟨_, rfl⟩
      rw [hx] at hc ⊢
      clear hs h hx hK h0 k0
      unfold spB
      by_cases q1 : x = 32
      · subst q1
        go_enter Try.func31, Try.ntmps31
        go_wp2_with fail
        go_quiet (fail)
        go_wp2
        go_ret
        exact ⟨rfl, HB.out _⟩
      have p1 : (x == 32) = false := by simpa using q1
      by_cases q2 : x = 9
      · subst q2
        go_enter Try.func31, Try.ntmps31
        go_wp2_with fail
        go_quiet (fail)
        go_wp2
        go_ret
        exact ⟨rfl, HB.out _⟩
      have p2 : (x == 9) = false := by simpa using q2
      by_cases q3 : x = 13
      · subst q3
        go_enter Try.func31, Try.ntmps31
        go_wp2_with fail
        go_quiet (fail)
        go_wp2
        go_ret
        exact ⟨rfl, HB.out _⟩
      have p3 : (x == 13) = false := by simpa using q3
      by_cases q4 : x = 10
      · subst q4
        go_enter Try.func31, Try.ntmps31
        go_wp2_with fail
        go_quiet (fail)
        go_wp2
        go_ret
        exact ⟨rfl, HB.out _⟩
      have p4 : (x == 10) = false := by simpa using q4
      by_cases q5 : x = 59
      · subst q5
        go_enter Try.func31, Try.ntmps31
        go_wp2_with fail
        go_quiet (fail)
        go_wp2
        go_ret
        exact ⟨rfl, HB.out _⟩
      have p5 : (x == 59) = false := by simpa using q5
      rw [p1, p2, p3, p4, p5]
      clear q1 q2 q3 q4 q5
      go_enter Try.func31, Try.ntmps31
      go_wp2_with fail
      go_quiet (fail)
      go_wp2
      go_ret
      exact ⟨rfl, HB.out _⟩
end
end Go.Proofs.Ytgebmmbnpdhooaa
