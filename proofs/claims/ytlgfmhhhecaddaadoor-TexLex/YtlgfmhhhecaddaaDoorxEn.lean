/- tex: group, braced; a file that is gone through, in memory: rest, lay. -/
import Derived.Test.YtlgfmhhhecaddaaDoorxFl
import Derived.Test.YtlgfmhhhecaddaaDoorxU

namespace Go.Proofs.YtlgfmhhhecaddaaDoor
set_option linter.unusedVariables false
open Go.RowKit Go.ChangeShapes
theorem group_any {w : World} {b off n cap : Nat} {c : Nat → Int} (hC : Ch c n) (h : BC w (some ⟨b, off, none⟩) n c) (hn : n ≤ 1000000) (hcap : n ≤ cap) (i : Nat) (hi : i ≤ n) :
    Calls Tryd.prog 60 #[.slice (some ⟨b, off, none⟩) n cap, .int .i64 i] w fun ev w' => ev = .returned (.int .i64 (grp c n i : Nat)) ∧ w' = w := by
  by_cases hlt : i < n
  · obtain ⟨b', off', e, hc0⟩ := h i hlt
    injection e with e
    injection e with e1 e2 _
    subst e1 e2
    have z0 : ((i : Int) == (n : Int)) = false := by simp; omega
    have z1 : (0 : Int) ≤ (i : Int) := by omega
    have z2 : (i : Int) < (n : Int) := by omega
    have z3 : ¬ (i : Int) < 0 := by omega
    by_cases h1 : c i = 123
    · have ct := shut_any hC h hn hcap i hlt 123 125 h1 (by decide) (by decide) (by decide)
      have e : grp c n i = br 123 125 c n (i + 1) 1 := by unfold grp; rw [if_pos h1]
      rw [← e] at ct
      rw [h1] at hc0
      clear h hC h1 e
      go_enter Tryd.func60, Tryd.ntmps60
      go_wp2_with fail
      refine ct.mono ?_
      rintro ev w1 ⟨rfl, hw⟩
      subst w1
      go_wp2
      go_ret
      exact ⟨rfl, rfl⟩
    · have k1 : (c i == 123) = false := by simpa using h1
      by_cases h2 : c i = 91
      · have ct := shut_any hC h hn hcap i hlt 91 93 h2 (by decide) (by decide) (by decide)
        have e : grp c n i = br 91 93 c n (i + 1) 1 := by unfold grp; rw [if_neg h1, if_pos h2]
        rw [← e] at ct
        rw [h2] at hc0
        clear h hC h1 h2 e k1
        go_enter Tryd.func60, Tryd.ntmps60
        go_wp2_with fail
        refine ct.mono ?_
        rintro ev w1 ⟨rfl, hw⟩
        subst w1
        go_wp2
        go_ret
        exact ⟨rfl, rfl⟩
      · have k2 : (c i == 91) = false := by simpa using h2
        have e : grp c n i = 0 := by unfold grp; rw [if_neg h1, if_neg h2]
        rw [e]
        clear h hC h1 h2 e
        go_enter Tryd.func60, Tryd.ntmps60
        go_wp2
        go_ret
        exact ⟨rfl, rfl⟩
  · have z0 : ((i : Int) == (n : Int)) = true := by simp; omega
    have e : grp c n i = 0 := by unfold grp; rw [hC.2 i (by omega)]; rfl
    rw [e]
    clear h hC e
    go_enter Tryd.func60, Tryd.ntmps60
    go_wp2
    go_ret
    exact ⟨rfl, rfl⟩
theorem braced_any {w : World} {b off n cap : Nat} {c : Nat → Int} (hC : Ch c n) (h : BC w (some ⟨b, off, none⟩) n c) (hn : n ≤ 1000000) (hcap : n ≤ cap) (hbig : cap ≤ 9223372036854775807) (i : Nat) (hi : i ≤ n) :
    Calls Tryd.prog 58 #[.slice (some ⟨b, off, none⟩) n cap, .int .i64 i] w fun ev w' => ev = .returned (.string (strOfNums (bcd c n i))) ∧ w' = w := by
  have ct := group_any hC h hn hcap i hi
  have hg := grp_le c n i
  by_cases h0 : grp c n i = 0
  · have e : bcd c n i = [] := by unfold bcd; rw [if_pos (Or.inl h0)]
    rw [e]
    rw [h0] at ct
    clear hg h0 e h hC
    go_enter Tryd.func58, Tryd.ntmps58
    go_wp2_with fail
    refine ct.mono ?_
    rintro ev w1 ⟨rfl, hw⟩
    subst w1
    go_wp2
    go_ret
    exact ⟨rfl, rfl⟩
  · have hlt : i < n := by omega
    obtain ⟨b', off', e, hc0⟩ := h i hlt
    injection e with e
    injection e with e1 e2 _
    subst e1 e2
    have z1 : (0 : Int) ≤ (i : Int) := by omega
    have z2 : (i : Int) < (n : Int) := by omega
    have z3 : ¬ (i : Int) < 0 := by omega
    by_cases h1 : c i = 123
    · have e : bcd c n i = cl (fun j => c (i + 1 + j)) (grp c n i - 1 - (i + 1)) := by unfold bcd; rw [if_neg (by omega)]
      rw [e]
      clear e
      obtain ⟨G, hG⟩ : ∃ G, grp c n i = G + 2 + i := ⟨grp c n i - 2 - i, by omega⟩
      rw [hG] at ct hg ⊢
      rw [show G + 2 + i - 1 - (i + 1) = G by omega]
      rw [h1] at hc0
      have hfr := (BC.from h (i + 1) (by omega) hcap).upto (m := G) (by omega)
      rw [if_neg (by omega)] at hfr
      have hcv := str_bc (cap := cap - (i + 1)) hfr
      obtain ⟨X, hX⟩ : ∃ X, strOfNums (cl (fun j => c (i + 1 + j)) G) = X := ⟨_, rfl⟩
      rw [hX] at hcv ⊢
      have hcv2 : (convert 22 9 (.slice (some ⟨b, off + (i + 1), none⟩) (G + 1 + i - (i + 1)) (cap - (i + 1)))).run Tryd.prog w = .ok (.string X) w := by rw [show G + 1 + i - (i + 1) = G by omega]; exact hcv
      have q0 : (((G + 2 + i : Nat) : Int) == 0) = false := by simp; omega
      have q1 : (0 : Int) ≤ (i : Int) + 1 := by omega
      have q2 : (i : Int) + 1 ≤ ((G + 2 + i : Nat) : Int) - 1 := by omega
      have q3 : ((G + 2 + i : Nat) : Int) - 1 ≤ (cap : Int) := by omega
      have q4 : (((G + 2 + i : Nat) : Int) - 1 - ((i : Int) + 1)).toNat = G := by omega
      clear hX hfr h hC hG h0 h1
      go_enter Tryd.func58, Tryd.ntmps58
      go_wp2_with fail
      refine ct.mono ?_
      rintro ev w1 ⟨rfl, hw⟩
      subst w1
      go_wp2
      go_ret
      exact ⟨rfl, rfl⟩
    · have k1 : (c i != 123) = true := by simpa using h1
      have e : bcd c n i = [] := by unfold bcd; rw [if_pos (Or.inr h1)]
      have q0 : (((grp c n i : Nat) : Int) == 0) = false := by simpa using h0
      rw [e]
      clear hg h0 e h hC h1
      go_enter Tryd.func58, Tryd.ntmps58
      go_wp2_with fail
      refine ct.mono ?_
      rintro ev w1 ⟨rfl, hw⟩
      subst w1
      go_wp2
      go_ret
      exact ⟨rfl, rfl⟩
/-- The library's variables that are read. -/
def GlX (w : World) : Prop := (∃ m, w.cell? ⟨0, 0, none⟩ = some (.int .i64 m)) ∧ Lns.Tabs w
theorem GlX.stay {w w' : World} (h : GlX w) (hb : Below w.heap.size w w') : GlX w' := by
  obtain ⟨⟨m, hm⟩, hT⟩ := h
  exact ⟨⟨m, cell_stay hm hb⟩, Lns.tabs_stay hT hb⟩
theorem tabs_keep {w w' : World} (h : Lns.Tabs w) (h1 : w'.heap[1]? = w.heap[1]?) (h2 : w'.heap[2]? = w.heap[2]?) : Lns.Tabs w' := by
  have e1 : ∀ i, w'.cell? ⟨1, i, none⟩ = w.cell? ⟨1, i, none⟩ := fun i => by simp only [World.cell?, h1]
  have e2 : ∀ i, w'.cell? ⟨2, i, none⟩ = w.cell? ⟨2, i, none⟩ := fun i => by simp only [World.cell?, h2]
  unfold Lns.Tabs Lib.Utf8Tabs at h ⊢
  simp only [e1, e2]
  exact h
theorem GlX.keep {w w' : World} (h : GlX w) (hk : ∀ g, g ≤ 2 → g < w.heap.size → w'.heap[g]? = w.heap[g]?) : GlX w' := by
  obtain ⟨⟨m, hm⟩, hT⟩ := h
  have l1 := World.block_lt_of_cell? w _ hm
  have l2 := World.block_lt_of_cell? w _ (hT.1 0 (by decide))
  have l3 := World.block_lt_of_cell? w _ (hT.2 0 (by decide)).1
  refine ⟨⟨m, ?_⟩, tabs_keep hT (hk _ (by omega) l2) (hk _ (by omega) l3)⟩
  rw [← hm]
  simp only [World.cell?, hk 0 (by omega) l1]
theorem GlX.big {w : World} (h : GlX w) : 2 < w.heap.size := World.block_lt_of_cell? w _ (h.2.2 0 (by decide)).1
/-- What doesn't change. -/
structure Sta (S b n cap B T gs : Nat) (c : Nat → Int) : Prop where
  ch : Ch c n
  n6 : n ≤ 65536
  nc : n ≤ cap
  big : cap ≤ 9223372036854775807
  bg : b ≠ gs
  Bg : B ≠ gs
  bB : b ≠ B
  BT : B ≠ T
  S3 : 2 < S
  SB : S ≤ B
  Sg : S ≤ gs
/-- A file in memory: its bytes, its box, its sheet; what was there ahead of it is as it was. -/
structure En (w0 : World) (S : Nat) (w : World) (b off n cap B T gs : Nat) (c L : Nat → Int) (i : Nat) : Prop where
  bc : BC w (some ⟨b, off, none⟩) n c
  box : w.heap[B]? = some (.cells #[.pointer (some ⟨T, 0, none⟩), .slice (some ⟨b, off, none⟩) n cap, .int .i64 i] 48 (0, 0))
  sh : Sh w T gs n L
  gl : GlX w
  up : Up S w0 w
section
variable {w0 w w' : World} {S b off n cap B T gs i j : Nat} {c L M : Nat → Int}
theorem En.stay (h : En w0 S w b off n cap B T gs c L i) (hb : Below w.heap.size w w') : En w0 S w' b off n cap B T gs c L i := ⟨h.bc.stay hb, blk_stay h.box hb, h.sh.stay hb, h.gl.stay hb, h.up.stay hb⟩
theorem En.drew (h : En w0 S w b off n cap B T gs c L i) : En w0 S w.drew b off n cap B T gs c L i := h.stay (Below.refl _ _).drew
theorem En.cells (h : En w0 S w b off n cap B T gs c L i) : w.cell? ⟨B, 0, none⟩ = some (.pointer (some ⟨T, 0, none⟩)) ∧ w.cell? ⟨B, 1, none⟩ = some (.slice (some ⟨b, off, none⟩) n cap) ∧ w.cell? ⟨B, 2, none⟩ = some (.int .i64 i) := by
  simp [World.cell?, h.box]
theorem En.free (h : En w0 S w b off n cap B T gs c L i) (k : Nat) : w.frozen? ⟨B, k, none⟩ = false := by
  simp [World.frozen?, h.box]
theorem En.set (h : En w0 S w b off n cap B T gs c L i) (hs : Sta S b n cap B T gs c) (hS : Sh w' T gs n M) (hg : w.grownBy w' (some gs)) : En w0 S w' b off n cap B T gs c M i :=
  ⟨h.bc.grown hg hs.bg, (hg.block B (lt_of_heap h.box) (fun e => hs.Bg (Option.some.inj e))).trans h.box, hS, h.gl.keep fun g hg3 hlt => hg.block g hlt (fun e => by have := hs.S3; have := hs.Sg; have := Option.some.inj e; omega), h.up.grown hg fun k e => by have := hs.Sg; have := Option.some.inj e; omega⟩
theorem En.go (h : En w0 S w b off n cap B T gs c L i) (hs : Sta S b n cap B T gs c) (j : Nat) : En w0 S (w.setCell ⟨B, 2, none⟩ (.int .i64 j)) b off n cap B T gs c L j := by
  have hk : ∀ g, g ≠ B → (w.setCell ⟨B, 2, none⟩ (.int .i64 j)).heap[g]? = w.heap[g]? := fun g hg => heap_setCell_other w ⟨B, 2, none⟩ g _ hg
  have h3 := hs.S3
  have h4 := hs.SB
  refine ⟨fun k hk' => ?_, heap_setCell_same _ _ _ _ _ _ h.box, h.sh.keep (hk T (fun e => hs.BT e.symm)) (hk gs (fun e => hs.Bg e.symm)), h.gl.keep fun g hg _ => hk g (by omega), h.up.setCell hs.SB _⟩
  obtain ⟨b', off', e, hc⟩ := h.bc k hk'
  injection e with e
  injection e with e1 e2 _
  subst e1 e2
  refine ⟨b, off, rfl, ?_⟩
  rw [← hc]
  have e3 := hk b hs.bB
  simp only [World.cell?]
  rw [e3]
theorem En.congr (h : En w0 S w b off n cap B T gs c L i) (e : L = M) : En w0 S w b off n cap B T gs c M i := e ▸ h
end
/-- What a step tells: the next one; and what it leaves. -/
def stp (f B : Nat) : Value := .func (.func f) #[.pointer (some ⟨B, 0, none⟩)] #[]
def SP (w0 : World) (S b off n cap B T gs : Nat) (c : Nat → Int) (v : Value) (L : Nat → Int) (i : Nat) (ev : Ending) (w' : World) : Prop := ev = .returned v ∧ En w0 S w' b off n cap B T gs c L i
section
variable {w0 w : World} {S b off n cap B T gs i : Nat} {c L : Nat → Int}
theorem rest_any (hs : Sta S b n cap B T gs c) (h : En w0 S w b off n cap B T gs c L i) (hi : i ≤ n) {ad : Option Addr} (ha : (if cap = i then some (⟨b, off, none⟩ : Addr) else some ⟨b, off + i, none⟩) = ad) :
    Calls Tryd.prog 38 #[.pointer (some ⟨B, 0, none⟩)] w fun ev w' => ev = .returned (.slice ad (n - i) (cap - i)) ∧ Below w.heap.size w w' := by
  obtain ⟨x0, x1, x2⟩ := h.cells
  have hnc := hs.nc
  have hbig := hs.big
  have hn := hs.n6
  have z1 : (0 : Int) ≤ (i : Int) := by omega
  have z2 : (i : Int) ≤ (n : Int) := by omega
  have z3 : (n : Int) ≤ (cap : Int) := by omega
  have HB : Hid (∀ q, Below w.heap.size w (w.drewN q)) := fun q => below_drewN (Below.refl _ _) q
  clear hs h
  go_enter Tryd.func38, Tryd.ntmps38
  go_wp2_with fail
  go_quiet (fail)
  go_wp2
  go_ret
  exact ⟨rfl, HB.out _⟩
theorem flay_any (hs : Sta S b n cap B T gs c) (h : En w0 S w b off n cap B T gs c L i) (hi : i ≤ n) (l : Int) (t E : Nat) (ht : t ≤ 1000000) (hE : min t n = E) :
    Calls Tryd.prog 27 #[.pointer (some ⟨B, 0, none⟩), .int .u8 l, .int .i64 t] w (SP w0 S b off n cap B T gs c (stp 19 B) (setL L l (i : Int) (E : Int)) E) := by
  obtain ⟨x0, x1, x2⟩ := h.cells
  have hn := hs.n6
  have hm : min (t : Int) (n : Int) = (E : Int) := by omega
  have HH : Hid (Sta S b n cap B T gs c ∧ En w0 S w b off n cap B T gs c L i) := ⟨hs, h⟩
  obtain ⟨Q, hQ⟩ : ∃ Q, SP w0 S b off n cap B T gs c (stp 19 B) (setL L l (i : Int) (E : Int)) E = Q := ⟨_, rfl⟩
  rw [hQ]
  have HQ : Hid (SP w0 S b off n cap B T gs c (stp 19 B) (setL L l (i : Int) (E : Int)) E = Q) := hQ
  clear hs h hQ hE
  go_enter Tryd.func27, Tryd.ntmps27
  go_upto_region 2 with fail
  refine wp_region_held_drew (S := fun w' => w'.cell? ⟨B, 0, none⟩ = some (.pointer (some ⟨T, 0, none⟩)) ∧ w'.cell? ⟨B, 2, none⟩ = some (.int .i64 i)) (by kernel_rfl) ⟨x0, x2⟩ (fun hHeld => ?_)
  clear hHeld
  refine takeH (i := 0) (v := ?_) (d := (some 14)) rfl (by kernel_rfl) (by kernel_rfl) (by kernel_rfl) rfl (fun _ _ _ h => h) (Or.inl ⟨by kernel_rfl, ?_⟩) (by first | assumption | trivial) ?_; rotate_left
  · (intro w hSw; (try dsimp only at hSw); first | (go_simp; done) | (go_simp; with_reducible rfl))
  (try simp only [Act.put, List.setIfInBounds_toArray, List.set_cons_zero, List.set_cons_succ])
  refine takeH (i := 1) (v := ?_) (d := (some 15)) rfl (by kernel_rfl) (by kernel_rfl) (by kernel_rfl) rfl (fun _ _ _ h => h) (Or.inl ⟨by kernel_rfl, ?_⟩) (by first | assumption | trivial) ?_; rotate_left
  · (intro w hSw; (try dsimp only at hSw); first | (go_simp; done) | (go_simp; with_reducible rfl))
  (try simp only [Act.put, List.setIfInBounds_toArray, List.set_cons_zero, List.set_cons_succ])
  refine takeH (i := 2) (v := ?_) (d := (some 16)) rfl (by kernel_rfl) (by kernel_rfl) (by kernel_rfl) rfl (fun _ _ _ h => h) (Or.inl ⟨by kernel_rfl, ?_⟩) (by first | assumption | trivial) ?_; rotate_left
  · (intro w hSw; (try dsimp only at hSw); first | (go_simp; done) | (go_simp; with_reducible rfl))
  (try simp only [Act.put, List.setIfInBounds_toArray, List.set_cons_zero, List.set_cons_succ])
  refine takeH (i := 3) (v := ?_) (d := (some 17)) rfl (by kernel_rfl) (by kernel_rfl) (by kernel_rfl) rfl (fun _ _ _ h => h) (Or.inl ⟨by kernel_rfl, ?_⟩) (by first | assumption | trivial) ?_; rotate_left
  · (intro w hSw; (try dsimp only at hSw); first | (go_simp; done) | (go_simp; with_reducible rfl))
  (try simp only [Act.put, List.setIfInBounds_toArray, List.set_cons_zero, List.set_cons_succ])
  refine takeH (i := 4) (v := ?_) (d := (some 18)) rfl (by kernel_rfl) (by kernel_rfl) (by kernel_rfl) rfl (fun _ _ _ h => h) (Or.inl ⟨by kernel_rfl, ?_⟩) (by first | assumption | trivial) ?_; rotate_left
  · (intro w hSw; (try dsimp only at hSw); first | (go_simp; done) | (go_simp; with_reducible rfl))
  (try simp only [Act.put, List.setIfInBounds_toArray, List.set_cons_zero, List.set_cons_succ])
  refine takeH (i := 5) (v := ?_) (d := (some 19)) rfl (by kernel_rfl) (by kernel_rfl) (by kernel_rfl) rfl (fun _ _ _ h => h) (Or.inl ⟨by kernel_rfl, ?_⟩) (by first | assumption | trivial) ?_; rotate_left
  · (intro w hSw; (try dsimp only at hSw); first | (go_simp; done) | (go_simp; with_reducible rfl))
  (try simp only [Act.put, List.setIfInBounds_toArray, List.set_cons_zero, List.set_cons_succ])
  refine takeH (i := 6) (v := ?_) (d := (some 20)) rfl (by kernel_rfl) (by kernel_rfl) (by kernel_rfl) rfl (fun _ _ _ h => h) (Or.inl ⟨by kernel_rfl, ?_⟩) (by first | assumption | trivial) ?_; rotate_left
  · (intro w hSw; (try dsimp only at hSw); first | (go_simp; done) | (go_simp; with_reducible rfl))
  (try simp only [Act.put, List.setIfInBounds_toArray, List.set_cons_zero, List.set_cons_succ])
  refine takeH (i := 7) (v := ?_) (d := (some 21)) rfl (by kernel_rfl) (by kernel_rfl) (by kernel_rfl) rfl (fun _ _ _ h => h) (Or.inl ⟨by kernel_rfl, ?_⟩) (by first | assumption | trivial) ?_; rotate_left
  · (intro w hSw; (try dsimp only at hSw); first | (go_simp; done) | (go_simp; with_reducible rfl))
  (try simp only [Act.put, List.setIfInBounds_toArray, List.set_cons_zero, List.set_cons_succ])
  refine takeH (i := 8) (v := ?_) (d := (some 22)) rfl (by kernel_rfl) (by kernel_rfl) (by kernel_rfl) rfl (fun _ _ _ h => h) (Or.inl ⟨by kernel_rfl, ?_⟩) (by first | assumption | trivial) ?_; rotate_left
  · (intro w hSw; (try dsimp only at hSw); first | (go_simp; done) | (go_simp; with_reducible rfl))
  (try simp only [Act.put, List.setIfInBounds_toArray, List.set_cons_zero, List.set_cons_succ])
  refine takeH (i := 9) (v := ?_) (d := (some 23)) rfl (by kernel_rfl) (by kernel_rfl) (by kernel_rfl) rfl (fun _ _ _ h => h) (Or.inl ⟨by kernel_rfl, ?_⟩) (by first | assumption | trivial) ?_; rotate_left
  · (intro w hSw; (try dsimp only at hSw); first | (go_simp; done) | (go_simp; with_reducible rfl))
  (try simp only [Act.put, List.setIfInBounds_toArray, List.set_cons_zero, List.set_cons_succ])
  have cs := set_any HH.out.2.drew.sh HH.out.1.n6 l (i : Int) (E : Int)
  refine wpAnyH_ready (rs := [10]) (by kernel_rfl) (by simp) (AllReadyH.cons rfl (fun K hK => ?_) AllReadyH.nil)
  go_simp
  refine cs.mono ?_
  rintro ev w1 ⟨rfl, h1, h2, h3⟩
  have hE1 := HH.out.2.drew.set HH.out.1 h1 h2
  obtain ⟨y0, y1, y2⟩ := hE1.cells
  have hf := hE1.free 2
  have HE2 : Hid (En w0 S (w1.setCell ⟨B, 2, none⟩ (.int .i64 E)) b off n cap B T gs c (setL L l (i : Int) (E : Int)) E) := hE1.go HH.out.1 E
  clear cs h1 h2 h3 hE1 x0 x1 x2
  refine hK.out _ _ ⟨y0, y2⟩ (fun hHeld => ?_)
  clear hK K hHeld
  (try simp only [Act.put, List.setIfInBounds_toArray, List.set_cons_zero, List.set_cons_succ])
  refine wpAnyH_done (by kernel_rfl) ?_ _
  go_wp2
  rw [← HQ.out]
  exact ⟨rfl, HE2.out⟩
end
end Go.Proofs.YtlgfmhhhecaddaaDoor
