/- slices.Clone over runes and numbers; trie.Kids. -/
import Derived.Test.YtfikkkodepfdkaaDoortAsk
import Derived.Lib.LazyBuf
import Derived.Deep.RegionHeld3
namespace Go.Proofs.YtfikkkodepfdkaaDoor
set_option linter.unusedVariables false
open Go.RowKit Go.ChangeShapes
theorem takeH {P : Program} {ops : Array Oper} {Q : Exit → Act → World → Prop} {md : Region.Mode} {S : World → Prop} {i : Nat} {oi : Oper} {v : Value} {d : Option Tmp} {fuel : Nat} {listed : Array Bool} {a : Act} {w : World} (hi : ops[i]? = some oi)
    (hs : Region.noSelect ops = true) (hf : Region.free md ops listed i = true) (hr : (Region.ready md ops listed).contains i = true) (hd : oi.dst = d)
    (hQ : ∀ c a w, Q (.panic c) (a.put d v) w → Q (.panic c) a w) (hy : YieldsIf P ops S oi v a) (hS : S w)
    (h : wpAnyH P md ops Q S fuel (listed.setIfInBounds i true) (a.put d v) w) : wpAnyH P md ops Q S (fuel + 1) listed a w := by
  subst hd
  exact wpAnyH_take hi hs hf hr hQ hy hS h
theorem one_i32c (L : List Int) : ∀ u ∈ L.map i32c, u.oneCell' = true := by
  intro u hu
  obtain ⟨x, _, rfl⟩ := List.mem_map.1 hu
  rfl
theorem one_i64c (L : List Nat) : ∀ u ∈ L.map i64c, u.oneCell' = true := by
  intro u hu
  obtain ⟨x, _, rfl⟩ := List.mem_map.1 hu
  rfl
set_option maxRecDepth 100000 in
theorem cloneR {w : World} {b : Nat} {v : Value} (L : List Int) (h : w.ownsRow b 21 1 v L.length (L.map i32c)) (hL : L.length ≤ 1000000) :
    Calls Tryd.prog 41 #[v] w fun e w' => ∃ v', e = .returned v' ∧ w'.ownsRow w.heap.size 21 1 v' L.length (L.map i32c) ∧ Below w.heap.size w w' := by
  obtain ⟨i0, hi, hz0, hz1, hz2⟩ := info_parts info21
  have H : Hid (w.ownsRow b 21 1 v L.length (L.map i32c)) := h
  have hnil := fun a l c => run_eql_slice_nil (P := Tryd.prog) w 37 21 a l c Tryd.underlying37
  rcases h.2 with ⟨rfl, h0⟩ | ⟨g, cap, cur, rfl, -⟩
  · have hLn : L = [] := List.eq_nil_of_length_eq_zero h0
    subst hLn
    clear h h0 H
    go_enter Tryd.func41, Tryd.ntmps41
    go_wp2
    go_ret
    exact ⟨_, rfl, World.ownsRow_nil _ _ _ _, Below.refl _ _⟩
  · clear h
    go_enter Tryd.func41, Tryd.ntmps41
    go_wp2_with (at_builtin; refine app_own rfl _ _ 37 rfl w.heap.size 21 i0 _ 1 4 Tryd.underlying37 hi hz0 hz1 hz2 rfl (by decide) _ _ [] rfl (World.ownsRow_made w #[] 0 (Nat.le_refl _) (by unfold maxLen; omega) rfl) b _ _ (L.map i32c) rfl (H.out.alloc _) (one_i32c L) (by unfold maxLen; omega) (by omega) (by simp) ?_)
    intro v' w' ho hg
    have HB : Hid (Below w.heap.size w w') := by
      refine ⟨hg.os, hg.tape, hg.output, ?_, fun q hq => ?_⟩
      · have := hg.size
        simp at this
        omega
      · rw [hg.block q (by simp; omega) (by simp [Value.ownBlock]; omega)]
        exact (World.grownBy_alloc w _ none).block q hq (by simp)
    have HO : Hid (w'.ownsRow w.heap.size 21 1 v' L.length (L.map i32c)) := by
      have h3 : w'.ownsRow w.heap.size 21 1 v' L.length (L.map i32c) := by simpa using ho
      exact h3
    clear ho hg H
    go_wp2
    go_ret
    exact ⟨_, rfl, HO, HB⟩
set_option maxRecDepth 100000 in
theorem cloneK {w : World} {b : Nat} {v : Value} (L : List Nat) (h : w.ownsRow b 3 1 v L.length (L.map i64c)) (hL : L.length ≤ 1000000) :
    Calls Tryd.prog 42 #[v] w fun e w' => ∃ v', e = .returned v' ∧ w'.ownsRow w.heap.size 3 1 v' L.length (L.map i64c) ∧ Below w.heap.size w w' := by
  obtain ⟨i0, hi, hz0, hz1, hz2⟩ := info_parts infoI
  have H : Hid (w.ownsRow b 3 1 v L.length (L.map i64c)) := h
  have hnil := fun a l c => run_eql_slice_nil (P := Tryd.prog) w 50 3 a l c Tryd.underlying50
  rcases h.2 with ⟨rfl, h0⟩ | ⟨g, cap, cur, rfl, -⟩
  · have hLn : L = [] := List.eq_nil_of_length_eq_zero h0
    subst hLn
    clear h h0 H
    go_enter Tryd.func42, Tryd.ntmps42
    go_wp2
    go_ret
    exact ⟨_, rfl, World.ownsRow_nil _ _ _ _, Below.refl _ _⟩
  · clear h
    go_enter Tryd.func42, Tryd.ntmps42
    go_wp2_with (at_builtin; refine app_own rfl _ _ 50 rfl w.heap.size 3 i0 _ 1 8 Tryd.underlying50 hi hz0 hz1 hz2 rfl (by decide) _ _ [] rfl (World.ownsRow_made w #[] 0 (Nat.le_refl _) (by unfold maxLen; omega) rfl) b _ _ (L.map i64c) rfl (H.out.alloc _) (one_i64c L) (by unfold maxLen; omega) (by omega) (by simp) ?_)
    intro v' w' ho hg
    have HB : Hid (Below w.heap.size w w') := by
      refine ⟨hg.os, hg.tape, hg.output, ?_, fun q hq => ?_⟩
      · have := hg.size
        simp at this
        omega
      · rw [hg.block q (by simp; omega) (by simp [Value.ownBlock]; omega)]
        exact (World.grownBy_alloc w _ none).block q hq (by simp)
    have HO : Hid (w'.ownsRow w.heap.size 3 1 v' L.length (L.map i64c)) := by
      have h3 : w'.ownsRow w.heap.size 3 1 v' L.length (L.map i64c) := by simpa using ho
      exact h3
    clear ho hg H
    go_wp2
    go_ret
    exact ⟨_, rfl, HO, HB⟩
set_option maxHeartbeats 1000000 in
set_option maxRecDepth 100000 in
theorem kids_any {w : World} {base T m : Nat} {vN : Value} {l : List Nd} (h : TrieM w base T m vN l) {i : Nat} {n : Nd} (hn : l[i]? = some n) (h2 : l.length ≤ 1000000) (hR : n.p.R.length ≤ 1000000) (hKl : n.p.K.length ≤ 1000000) :
    Calls Tryd.prog 21 #[.pointer (some ⟨T, 0, none⟩), .int .i64 (i : Int)] w fun e w' => ∃ vr vk, e = .returned (.tuple #[vr, vk]) ∧ w'.ownsRow w.heap.size 21 1 vr n.p.R.length (n.p.R.map i32c) ∧ w'.ownsRow w.heap.size 3 1 vk n.p.K.length (n.p.K.map i64c) ∧ Below w.heap.size w w' := by
  obtain ⟨nr, nk, p⟩ := n
  dsimp only at hR hKl ⊢
  have H : Hid (TrieM w base T m vN l) := h
  have HN : Hid (l[i]? = some ⟨nr, nk, p⟩) := hn
  have c1 := node_any h hn h2
  obtain ⟨ar, cr, er⟩ := own_slice (h.rr i _ hn)
  obtain ⟨ak, ck, ek⟩ := own_slice (h.kk i _ hn)
  dsimp only at er ek
  clear h hn
  subst er ek
  go_enter Tryd.func21, Tryd.ntmps21
  go_wp2_with fail
  refine c1.mono ?_
  rintro e w1 ⟨rfl, hb1⟩
  have HB1 : Hid (Below w.heap.size w w1) := hb1
  clear hb1 c1
  go_upto_region 2 with fail
  have hU1 : Up w.heap.size w (w1.alloc (.cells #[.slice ar p.R.length cr, .slice ak p.K.length ck, .bool p.e] 70)) := ((Up.refl w).stay HB1.out).alloc _
  have hblk := heap_alloc_new w1 (.cells #[.slice ar p.R.length cr, .slice ak p.K.length ck, .bool p.e] 70)
  generalize w1.heap.size = B at *
  generalize w1.alloc (.cells #[.slice ar p.R.length cr, .slice ak p.K.length ck, .bool p.e] 70) = w2 at *
  have hM := H.out.stay hU1.1
  have b0 : w2.cell? ⟨B, 0, none⟩ = some (.slice ar p.R.length cr) := by rw [cell_of_row w2 B 0 _ _ _ hblk]; rfl
  have b1 : w2.cell? ⟨B, 1, none⟩ = some (.slice ak p.K.length ck) := by rw [cell_of_row w2 B 1 _ _ _ hblk]; rfl
  have HU1 : Hid (Up w.heap.size w w2) := hU1
  have HRR : Hid (w2.ownsRow base 21 1 (.slice ar p.R.length cr) p.R.length (p.R.map i32c)) := hM.rr i _ HN.out
  have HKK : Hid (w2.ownsRow base 3 1 (.slice ak p.K.length ck) p.K.length (p.K.map i64c)) := hM.kk i _ HN.out
  clear hU1 hblk hM HB1
  refine wp_region_held_drew (S := fun w' => Up w2.heap.size w2 w') (by kernel_rfl) (Up.refl w2).drew (fun hHeld => ?_)
  (try dsimp only at hHeld)
  obtain ⟨x0, hx0⟩ : ∃ x0, w2.drew = x0 := ⟨_, rfl⟩
  rw [hx0] at hHeld ⊢
  clear hx0
  refine takeH (i := 0) (v := ?_) (d := (some 10)) rfl (by kernel_rfl) (by kernel_rfl) (by kernel_rfl) rfl (fun _ _ _ h => h) (Or.inl ⟨by kernel_rfl, ?_⟩) (by assumption) ?_; rotate_left
  · (intro w hSw; (try dsimp only at hSw); first | (go_simp; done) | (go_simp; with_reducible rfl))
  (try simp only [Act.put, List.setIfInBounds_toArray, List.set_cons_zero, List.set_cons_succ])
  refine takeH (i := 1) (v := ?_) (d := (some 11)) rfl (by kernel_rfl) (by kernel_rfl) (by kernel_rfl) rfl (fun _ _ _ h => h) (Or.inl ⟨by kernel_rfl, ?_⟩) (by assumption) ?_; rotate_left
  · (intro w hSw; (try dsimp only at hSw); have b0 := cell_stay b0 hSw.1; first | (go_simp; done) | (go_simp; with_reducible rfl))
  (try simp only [Act.put, List.setIfInBounds_toArray, List.set_cons_zero, List.set_cons_succ])
  refine takeH (i := 3) (v := ?_) (d := (some 13)) rfl (by kernel_rfl) (by kernel_rfl) (by kernel_rfl) rfl (fun _ _ _ h => h) (Or.inl ⟨by kernel_rfl, ?_⟩) (by assumption) ?_; rotate_left
  · (intro w hSw; (try dsimp only at hSw); first | (go_simp; done) | (go_simp; with_reducible rfl))
  (try simp only [Act.put, List.setIfInBounds_toArray, List.set_cons_zero, List.set_cons_succ])
  refine takeH (i := 4) (v := ?_) (d := (some 14)) rfl (by kernel_rfl) (by kernel_rfl) (by kernel_rfl) rfl (fun _ _ _ h => h) (Or.inl ⟨by kernel_rfl, ?_⟩) (by assumption) ?_; rotate_left
  · (intro w hSw; (try dsimp only at hSw); have b1 := cell_stay b1 hSw.1; first | (go_simp; done) | (go_simp; with_reducible rfl))
  (try simp only [Act.put, List.setIfInBounds_toArray, List.set_cons_zero, List.set_cons_succ])
  refine wpAnyH_ready (rs := [2]) (by kernel_rfl) (by simp) (AllReadyH.cons rfl (fun K hK => ?_) AllReadyH.nil)
  go_simp
  refine (cloneR p.R (own_stay HRR.out hHeld.1) hR).mono ?_
  have XS0 : Hid (w2.heap.size ≤ x0.heap.size) := hHeld.2
  rintro e x1 ⟨vr, rfl, hor, hb⟩
  go_wp2_with fail
  refine hK.out _ _ (hHeld.stay hb : Up w2.heap.size w2 x1) (fun hHeld' => ?_)
  have Hhor : Hid (x1.ownsRow x0.heap.size 21 1 vr p.R.length (p.R.map i32c)) := hor
  have HBxx1 : Hid (Below x0.heap.size x0 x1) := hb
  clear hK K hHeld hb hor
  have hHeld := hHeld'
  clear hHeld'
  (try dsimp only at hHeld)
  (try simp only [Act.put, List.setIfInBounds_toArray, List.set_cons_zero, List.set_cons_succ])
  refine wpAnyH_ready (rs := [5]) (by kernel_rfl) (by simp) (AllReadyH.cons rfl (fun K hK => ?_) AllReadyH.nil)
  go_simp
  refine (cloneK p.K (own_stay HKK.out hHeld.1) hKl).mono ?_
  have XS1 : Hid (w2.heap.size ≤ x1.heap.size) := hHeld.2
  rintro e x2 ⟨vk, rfl, hok, hb⟩
  go_wp2_with fail
  refine hK.out _ _ (hHeld.stay hb : Up w2.heap.size w2 x2) (fun hHeld' => ?_)
  have Hhok : Hid (x2.ownsRow x1.heap.size 3 1 vk p.K.length (p.K.map i64c)) := hok
  have HBxx2 : Hid (Below x1.heap.size x1 x2) := hb
  clear hK K hHeld hb hok
  have hHeld := hHeld'
  clear hHeld'
  (try dsimp only at hHeld)
  (try simp only [Act.put, List.setIfInBounds_toArray, List.set_cons_zero, List.set_cons_succ])
  refine takeH (i := 6) (v := ?_) (d := (some 4)) rfl (by kernel_rfl) (by kernel_rfl) (by kernel_rfl) rfl (fun _ _ _ h => h) (Or.inl ⟨by kernel_rfl, ?_⟩) (by assumption) ?_; rotate_left
  · (intro w hSw; (try dsimp only at hSw); first | (go_simp; done) | (go_simp; with_reducible rfl))
  (try simp only [Act.put, List.setIfInBounds_toArray, List.set_cons_zero, List.set_cons_succ])
  refine takeH (i := 7) (v := ?_) (d := (some 5)) rfl (by kernel_rfl) (by kernel_rfl) (by kernel_rfl) rfl (fun _ _ _ h => h) (Or.inl ⟨by kernel_rfl, ?_⟩) (by assumption) ?_; rotate_left
  · (intro w hSw; (try dsimp only at hSw); first | (go_simp; done) | (go_simp; with_reducible rfl))
  (try simp only [Act.put, List.setIfInBounds_toArray, List.set_cons_zero, List.set_cons_succ])
  refine wpAnyH_done (by kernel_rfl) ?_ _
  have HU9 : Hid (Up w2.heap.size w2 x2) := hHeld
  clear hHeld
  go_wp2
  go_ret2
  have q1 := HU1.out.2
  refine ⟨vr, vk, rfl, ?_, ?_, HU1.out.1.trans (HU9.out.1.mono HU1.out.2)⟩
  · exact own_mono (own_stay Hhor.out HBxx2.out) (Nat.le_trans HU1.out.2 XS0.out)
  · exact own_mono Hhok.out (Nat.le_trans HU1.out.2 XS1.out)
end Go.Proofs.YtfikkkodepfdkaaDoor
