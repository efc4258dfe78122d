/- (*Index).Place. -/
import Derived.Test.YtihplafalbokdaaDoorWalksT
import Derived.Test.YtihplafalbokdaaDoorWalksF
import Derived.Deep.RegionHeld3
import Derived.BigRegion
namespace Go.Proofs.YtihplafalbokdaaDoor
set_option linter.unusedVariables false
open Go.RowKit Go.ChangeShapes
theorem takeH {P : Program} {ops : Array Oper} {Q : Exit → Act → World → Prop} {md : Region.Mode} {S : World → Prop} {i : Nat} {oi : Oper} {v : Value} {d : Option Tmp} {fuel : Nat} {listed : Array Bool} {a : Act} {w : World} (hi : ops[i]? = some oi)
    (hs : Region.noSelect ops = true) (hf : Region.free md ops listed i = true) (hr : (Region.ready md ops listed).contains i = true) (hd : oi.dst = d)
    (hQ : ∀ c a w, Q (.panic c) (a.put d v) w → Q (.panic c) a w) (hy : YieldsIf P ops S oi v a) (hS : S w)
    (h : wpAnyH P md ops Q S fuel (listed.setIfInBounds i true) (a.put d v) w) : wpAnyH P md ops Q S (fuel + 1) listed a w := by
  subst hd
  exact wpAnyH_take hi hs hf hr hQ hy hS h
theorem Up.drew {B : Nat} {a w : World} (h : Up B a w) : Up B a w.drew := h.stay (Below.refl _ _).drew
theorem Up.cell {a w : World} {x : Addr} {v : Value} (h : Up a.heap.size a w) (hc : a.cell? x = some v) : w.cell? x = some v := cell_stay hc h.1
theorem Up.free {a w : World} {x : Addr} {v : Value} (h : Up a.heap.size a w) (hc : a.cell? x = some v) (hf : a.frozen? x = false) : w.frozen? x = false := by
  rw [World.frozen?_of_block (h.1.block _ (World.block_lt_of_cell? a _ hc))]; exact hf
theorem pos_up (s : ByteArray) {K : Nat} (he : Ends s K) : ∀ j, j ≤ K → ∀ i, i < j → pos s i < pos s j
  | 0, _, i, h => absurd h (Nat.not_lt_zero i)
  | j + 1, hj, i, h => by
    have h1 := (wd_pos s (pos s j) (he.2 j hj)).1
    rcases Nat.lt_or_eq_of_le (Nat.le_of_lt_succ h) with h2 | rfl
    · have := pos_up s he j (by omega) i h2
      simp only [pos]; omega
    · simp only [pos]; omega
theorem pos_up_le (s : ByteArray) {K : Nat} (he : Ends s K) {i j : Nat} (hij : i ≤ j) (hj : j ≤ K) : pos s i ≤ pos s j := by
  rcases Nat.lt_or_eq_of_le hij with h | rfl
  · exact Nat.le_of_lt (pos_up s he j hj i h)
  · exact Nat.le_refl _
theorem lst_pos (s : ByteArray) {K : Nat} (he : Ends s K) : ∀ k, k ≤ K → ∀ x, x ∈ lst s (pos s k) → ∃ i, i < k ∧ pos s i = x
  | 0, _, x, h => by simp [pos, lst] at h
  | k + 1, hk, x, h => by
    simp only [pos] at h
    rw [lst_step s (pos s k) (he.2 k hk), List.mem_append] at h
    rcases h with h | h
    · obtain ⟨i, hi, hx⟩ := lst_pos s he k (by omega) x h
      exact ⟨i, by omega, hx⟩
    · split at h
      · simp at h; exact ⟨k, by omega, h.symm⟩
      · simp at h
theorem S_pos {s : ByteArray} {K j : Nat} (he : Ends s K) (hj : j < nL s) : ∃ k, k < K ∧ pos s k = S s j := by
  have h := S_mem hj
  unfold starts at h
  rw [← he.1] at h
  exact lst_pos s he K (Nat.le_refl _) _ h
theorem ahd_pos {s : ByteArray} {K k : Nat} (he : Ends s K) (hk : k ≤ K) : Ahd K (pos s) ((pos s k : Nat) : Int) k :=
  ⟨hk, fun j hj => by have := pos_up s he k hk j hj; omega, fun j h1 h2 => by have := pos_up_le s he h1 (by omega); omega⟩
/-- A place's line and column. -/
def Plc (s : ByteArray) (p m c : Nat) : Prop := ∃ K i k, Ends s K ∧ OnL s p m ∧ k ≤ i ∧ k ≤ K ∧ pos s k = S s (m - 1) ∧ Ahd K (pos s) (p : Int) i ∧ c = 1 + i - k
theorem Plc.one {s : ByteArray} {p m c m' c' : Nat} (h : Plc s p m c) (h' : Plc s p m' c') : m = m' ∧ c = c' := by
  obtain ⟨K, i, k, he, ho, h1, h2, h3, h4, h5⟩ := h
  obtain ⟨K', i', k', he', ho', h1', h2', h3', h4', h5'⟩ := h'
  obtain rfl := he.one he'
  obtain rfl := ho.one ho'
  obtain rfl := h4.one h4'
  have : k = k' := by
    rcases Nat.lt_trichotomy k k' with h | h | h
    · have := pos_up s he k' h2' k h; omega
    · exact h
    · have := pos_up s he k h2 k' h; omega
  subst this
  exact ⟨rfl, by omega⟩
theorem plc_of {s : ByteArray} {p m K i k : Nat} (he : Ends s K) (ho : OnL s p m) (hk : k ≤ K) (hp : pos s k = S s (m - 1)) (hm : m ≤ nL s) (ha : Ahd K (pos s) (p : Int) i) : k ≤ i ∧ Plc s p m (1 + i - k) := by
  have h1 : k ≤ i := by
    rcases Nat.lt_or_ge i k with h | h
    · have h2 := ha.2.2 i (Nat.le_refl _) (by omega)
      have h3 := pos_up s he k hk i h
      rcases ho with ⟨_, ⟨h4, _⟩ | ⟨_, h4, _⟩⟩
      · omega
      · omega
    · exact h
  exact ⟨h1, K, i, k, he, ho, h1, hk, hp, ha, rfl⟩
theorem plc_none {s : ByteArray} {p m K : Nat} (he : Ends s K) (ho : OnL s p m) (hm : ¬ m ≤ nL s) : Plc s p m 1 := by
  rcases ho with ⟨h0, ⟨h1, h2⟩ | ⟨h1, _⟩⟩
  · have hs : s.size = 0 := by
      rcases Nat.eq_zero_or_pos s.size with h | h
      · exact h
      · have := nL_pos h; omega
    have hK : K = 0 := by have := he.le; omega
    subst hK
    refine ⟨0, 0, 0, he, ⟨h0, Or.inl ⟨h1, h2⟩⟩, Nat.le_refl _, Nat.le_refl _, ?_, ⟨Nat.le_refl _, fun j hj => absurd hj (Nat.not_lt_zero j), fun j _ hj => absurd hj (Nat.not_lt_zero j)⟩, rfl⟩
    subst h2
    rw [Nat.sub_self, S_zero]
    rfl
  · exact absurd h1 hm
theorem place_nil (n : Int) (w : World) : Calls Tryd.prog 16 #[.pointer none, .int .i64 n] w fun e w' => e = .returned (.tuple #[.agg #[.int .i64 0, .int .i64 0], .int .i64 1]) ∧ Below w.heap.size w w' := by
  go_enter Tryd.func16, Tryd.ntmps16
  go_wp2_with fail
  refine (line_nil n _).mono ?_
  rintro e w1 ⟨rfl, rfl⟩
  go_wp2
  exact bodyPost_ret (v := .tuple #[.agg #[.int .i64 0, .int .i64 0], .int .i64 1]) (by simp [results, Tryd.results16, go_sem, *]) rfl ⟨rfl, ((Up.refl w).alloc _).1⟩
theorem place_no (s : ByteArray) (K : Nat) (v : Value) (n : Int) (w : World) (hn : n < 0 ∨ (s.size : Int) < n) (h : Idx w v s K) :
    Calls Tryd.prog 16 #[v, .int .i64 n] w fun e w' => e = .returned (.tuple #[.agg #[.int .i64 0, .int .i64 0], .int .i64 2]) ∧ Below w.heap.size w w' := by
  have ct := line_no s K v n (w.alloc (.cells #[.int .i64 0, .int .i64 0] 40)) hn (h.stay ((Up.refl w).alloc _).1)
  have HU : Hid (Up w.heap.size w (w.alloc (.cells #[.int .i64 0, .int .i64 0] 40))) := (Up.refl w).alloc _
  have k0 : (w.alloc (.cells #[.int .i64 0, .int .i64 0] 40)).cell? ⟨w.heap.size, 0, none⟩ = some (.int .i64 0) := by simp
  have k1 : (w.alloc (.cells #[.int .i64 0, .int .i64 0] 40)).cell? ⟨w.heap.size, 1, none⟩ = some (.int .i64 0) := by simp
  have f0 : (w.alloc (.cells #[.int .i64 0, .int .i64 0] 40)).frozen? ⟨w.heap.size, 0, none⟩ = false := by simp
  have f1 : (w.alloc (.cells #[.int .i64 0, .int .i64 0] 40)).frozen? ⟨w.heap.size, 1, none⟩ = false := by simp
  obtain ⟨W, hW⟩ : ∃ W, w.alloc (.cells #[.int .i64 0, .int .i64 0] 40) = W := ⟨_, rfl⟩
  rw [hW] at ct k0 k1 f0 f1 HU
  clear h
  go_enter Tryd.func16, Tryd.ntmps16
  go_wp2_with fail
  refine ct.mono ?_
  rintro e w1 ⟨rfl, hb⟩
  have uu : Up W.heap.size W w1 := (Up.refl W).stay hb
  have g0 := uu.cell k0
  have g1 := uu.cell k1
  have e0 := uu.free k0 f0
  have e1 := uu.free k1 f1
  have HB : Hid (Up w.heap.size w w1) := HU.out.stay hb
  clear uu k0 k1 f0 f1 ct hW hb HU
  go_wp2
  exact bodyPost_ret (v := .tuple #[.agg #[.int .i64 0, .int .i64 0], .int .i64 2]) (by simp [results, Tryd.results16, go_sem, *]) rfl ⟨rfl, (HB.out.1.setCell (Nat.le_refl _) _).setCell (Nat.le_refl _) _⟩
set_option maxRecDepth 100000 in
set_option maxHeartbeats 2000000 in
theorem place_ok (s : ByteArray) (K : Nat) (v : Value) (p : Nat) (w : World) (hs : s.size ≤ 5000) (hp : p ≤ s.size) (h : Idx w v s K) :
    Calls Tryd.prog 16 #[v, .int .i64 p] w fun e w' => ∃ m c : Nat, e = .returned (.tuple #[.agg #[.int .i64 m, .int .i64 c], .int .i64 0]) ∧ Plc s p m c ∧ Below w.heap.size w w' := by
  have ct := line_ok s K v p (w.alloc (.cells #[.int .i64 0, .int .i64 0] 40)) hs hp (h.stay ((Up.refl w).alloc _).1)
  obtain ⟨he, g, vl, vs, rfl, h0, h1, h2, h3, h4⟩ := h
  have hnl := nL_le s
  have hKl := he.le
  have HU : Hid (Up w.heap.size w (w.alloc (.cells #[.int .i64 0, .int .i64 0] 40))) := (Up.refl w).alloc _
  have k0 : (w.alloc (.cells #[.int .i64 0, .int .i64 0] 40)).cell? ⟨w.heap.size, 0, none⟩ = some (.int .i64 0) := by simp
  have k1 : (w.alloc (.cells #[.int .i64 0, .int .i64 0] 40)).cell? ⟨w.heap.size, 1, none⟩ = some (.int .i64 0) := by simp
  have f0 : (w.alloc (.cells #[.int .i64 0, .int .i64 0] 40)).frozen? ⟨w.heap.size, 0, none⟩ = false := by simp
  have f1 : (w.alloc (.cells #[.int .i64 0, .int .i64 0] 40)).frozen? ⟨w.heap.size, 1, none⟩ = false := by simp
  have H3 : Hid (ISl (w.alloc (.cells #[.int .i64 0, .int .i64 0] 40)) vl (nL s) (S s)) := h3.stay ((Up.refl w).alloc _).1
  have H4 : Hid (ISl (w.alloc (.cells #[.int .i64 0, .int .i64 0] 40)) vs K (pos s)) := h4.stay ((Up.refl w).alloc _).1
  have C1 : Hid ((w.alloc (.cells #[.int .i64 0, .int .i64 0] 40)).cell? ⟨g, 1, none⟩ = some vl) := cell_stay h1 ((Up.refl w).alloc _).1
  have C2 : Hid ((w.alloc (.cells #[.int .i64 0, .int .i64 0] 40)).cell? ⟨g, 2, none⟩ = some vs) := cell_stay h2 ((Up.refl w).alloc _).1
  have HE : Hid (Ends s K) := he
  obtain ⟨adl, cl, rfl⟩ := h3.form
  obtain ⟨W, hW⟩ : ∃ W, w.alloc (.cells #[.int .i64 0, .int .i64 0] 40) = W := ⟨_, rfl⟩
  rw [hW] at ct k0 k1 f0 f1 HU H3 H4 C1 C2
  clear h3 h4 h0 h1 h2 he
  go_enter Tryd.func16, Tryd.ntmps16
  go_wp2_with fail
  refine ct.mono ?_
  rintro e w1 ⟨m, rfl, ho, hb⟩
  have hm1 := ho.1
  have HO : Hid (OnL s p m) := ho
  have K0 : Hid (W.cell? ⟨w.heap.size, 0, none⟩ = some (.int .i64 0)) := k0
  have K1 : Hid (W.cell? ⟨w.heap.size, 1, none⟩ = some (.int .i64 0)) := k1
  have F0 : Hid (W.frozen? ⟨w.heap.size, 0, none⟩ = false) := f0
  have F1 : Hid (W.frozen? ⟨w.heap.size, 1, none⟩ = false) := f1
  have UU : Hid (Up W.heap.size W w1) := (Up.refl W).stay hb
  have c1 := UU.out.cell C1.out
  clear k0 k1 f0 f1 ct hW hb ho
  by_cases hm : m ≤ nL s
  · have z1 : (m : Int) ≤ (nL s : Int) := by omega
    obtain ⟨k, hk, hpk⟩ := S_pos HE.out (show m - 1 < nL s by omega)
    have HPK : Hid (pos s k = S s (m - 1)) := hpk
    clear hpk
    have cb : ∃ b, adl = some ⟨b, 0, none⟩ ∧ W.cell? ⟨b, m - 1, none⟩ = some (.int .i64 (S s (m - 1))) := by
      rcases H3.out with ⟨ad, c, _, hz⟩ | ⟨b, c, hv, hc⟩
      · omega
      · injection hv with hv1 _ _
        exact ⟨b, hv1, hc (m - 1) (by omega)⟩
    obtain ⟨b, rfl, cb⟩ := cb
    have CB : Hid (W.cell? ⟨b, m - 1, none⟩ = some (.int .i64 (S s (m - 1)))) := cb
    clear cb
    have z2 : (0 : Int) ≤ ((m - 1 : Nat) : Int) := by omega
    have z3 : ((m - 1 : Nat) : Int) < (nL s : Int) := by omega
    have zw : IntKind.i64.wrap ((m : Int) - 1) = ((m - 1 : Nat) : Int) := by rw [Go.IntWalk.i64_in _ (by omega)]; omega
    go_wp2_with fail
    refine wp_region_held_drew (S := fun w' => Up W.heap.size W w') (by kernel_rfl) (Up.drew UU.out) (fun hHeld => ?_)
    (try dsimp only at hHeld)
    clear UU c1
    obtain ⟨x0, hx0⟩ : ∃ x0, w1.drew = x0 := ⟨_, rfl⟩
    rw [hx0] at hHeld ⊢
    clear hx0
    refine takeH (i := 0) (v := ?_) (d := (some 26)) rfl (by kernel_rfl) (by kernel_rfl) (by kernel_rfl) rfl (fun _ _ _ h => h) (Or.inl ⟨by kernel_rfl, ?_⟩) (by assumption) ?_; rotate_left; · (intro w' hSw; (try dsimp only at hSw); first | (go_simp; done) | (go_simp; with_reducible rfl)); (try simp only [Act.put, List.setIfInBounds_toArray, List.set_cons_zero, List.set_cons_succ])
    refine takeH (i := 1) (v := ?_) (d := (some 27)) rfl (by kernel_rfl) (by kernel_rfl) (by kernel_rfl) rfl (fun _ _ _ h => h) (Or.inl ⟨by kernel_rfl, ?_⟩) (by assumption) ?_; rotate_left; · (intro w' hSw; (try dsimp only at hSw); first | (go_simp; done) | (go_simp; with_reducible rfl)); (try simp only [Act.put, List.setIfInBounds_toArray, List.set_cons_zero, List.set_cons_succ])
    refine takeH (i := 2) (v := ?_) (d := (some 28)) rfl (by kernel_rfl) (by kernel_rfl) (by kernel_rfl) rfl (fun _ _ _ h => h) (Or.inl ⟨by kernel_rfl, ?_⟩) (by assumption) ?_; rotate_left; · (intro w' hSw; (try dsimp only at hSw); first | (go_simp; done) | (go_simp; with_reducible rfl)); (try simp only [Act.put, List.setIfInBounds_toArray, List.set_cons_zero, List.set_cons_succ])
    refine takeH (i := 3) (v := ?_) (d := (some 29)) rfl (by kernel_rfl) (by kernel_rfl) (by kernel_rfl) rfl (fun _ _ _ h => h) (Or.inl ⟨by kernel_rfl, ?_⟩) (by assumption) ?_; rotate_left; · (intro w' hSw; (try dsimp only at hSw); first | (go_simp; done) | (go_simp; with_reducible rfl)); (try simp only [Act.put, List.setIfInBounds_toArray, List.set_cons_zero, List.set_cons_succ])
    refine takeH (i := 4) (v := ?_) (d := (some 30)) rfl (by kernel_rfl) (by kernel_rfl) (by kernel_rfl) rfl (fun _ _ _ h => h) (Or.inl ⟨by kernel_rfl, ?_⟩) (by assumption) ?_; rotate_left; · (intro w' hSw; (try dsimp only at hSw); have cc := hSw.cell C2.out; first | (go_simp; done) | (go_simp; with_reducible rfl)); (try simp only [Act.put, List.setIfInBounds_toArray, List.set_cons_zero, List.set_cons_succ])
    refine takeH (i := 5) (v := ?_) (d := (some 31)) rfl (by kernel_rfl) (by kernel_rfl) (by kernel_rfl) rfl (fun _ _ _ h => h) (Or.inl ⟨by kernel_rfl, ?_⟩) (by assumption) ?_; rotate_left; · (intro w' hSw; (try dsimp only at hSw); first | (go_simp; done) | (go_simp; with_reducible rfl)); (try simp only [Act.put, List.setIfInBounds_toArray, List.set_cons_zero, List.set_cons_succ])
    refine takeH (i := 7) (v := ?_) (d := (some 33)) rfl (by kernel_rfl) (by kernel_rfl) (by kernel_rfl) rfl (fun _ _ _ h => h) (Or.inl ⟨by kernel_rfl, ?_⟩) (by assumption) ?_; rotate_left; · (intro w' hSw; (try dsimp only at hSw); first | (go_simp; done) | (go_simp; with_reducible rfl)); (try simp only [Act.put, List.setIfInBounds_toArray, List.set_cons_zero, List.set_cons_succ])
    refine takeH (i := 8) (v := ?_) (d := (some 34)) rfl (by kernel_rfl) (by kernel_rfl) (by kernel_rfl) rfl (fun _ _ _ h => h) (Or.inl ⟨by kernel_rfl, ?_⟩) (by assumption) ?_; rotate_left; · (intro w' hSw; (try dsimp only at hSw); first | (go_simp; done) | (go_simp; with_reducible rfl)); (try simp only [Act.put, List.setIfInBounds_toArray, List.set_cons_zero, List.set_cons_succ])
    refine takeH (i := 9) (v := ?_) (d := (some 35)) rfl (by kernel_rfl) (by kernel_rfl) (by kernel_rfl) rfl (fun _ _ _ h => h) (Or.inl ⟨by kernel_rfl, ?_⟩) (by assumption) ?_; rotate_left; · (intro w' hSw; (try dsimp only at hSw); first | (go_simp; done) | (go_simp; with_reducible rfl)); (try simp only [Act.put, List.setIfInBounds_toArray, List.set_cons_zero, List.set_cons_succ])
    refine takeH (i := 10) (v := ?_) (d := (some 36)) rfl (by kernel_rfl) (by kernel_rfl) (by kernel_rfl) rfl (fun _ _ _ h => h) (Or.inl ⟨by kernel_rfl, ?_⟩) (by assumption) ?_; rotate_left; · (intro w' hSw; (try dsimp only at hSw); have cc := hSw.cell C2.out; first | (go_simp; done) | (go_simp; with_reducible rfl)); (try simp only [Act.put, List.setIfInBounds_toArray, List.set_cons_zero, List.set_cons_succ])
    refine takeH (i := 11) (v := ?_) (d := (some 37)) rfl (by kernel_rfl) (by kernel_rfl) (by kernel_rfl) rfl (fun _ _ _ h => h) (Or.inl ⟨by kernel_rfl, ?_⟩) (by assumption) ?_; rotate_left; · (intro w' hSw; (try dsimp only at hSw); first | (go_simp; done) | (go_simp; with_reducible rfl)); (try simp only [Act.put, List.setIfInBounds_toArray, List.set_cons_zero, List.set_cons_succ])
    refine takeH (i := 12) (v := ?_) (d := (some 38)) rfl (by kernel_rfl) (by kernel_rfl) (by kernel_rfl) rfl (fun _ _ _ h => h) (Or.inl ⟨by kernel_rfl, ?_⟩) (by assumption) ?_; rotate_left; · (intro w' hSw; (try dsimp only at hSw); first | (go_simp; done) | (go_simp; with_reducible rfl)); (try simp only [Act.put, List.setIfInBounds_toArray, List.set_cons_zero, List.set_cons_succ])
    refine takeH (i := 13) (v := ?_) (d := (some 39)) rfl (by kernel_rfl) (by kernel_rfl) (by kernel_rfl) rfl (fun _ _ _ h => h) (Or.inl ⟨by kernel_rfl, ?_⟩) (by assumption) ?_; rotate_left; · (intro w' hSw; (try dsimp only at hSw); first | (go_simp; done) | (go_simp; with_reducible rfl)); (try simp only [Act.put, List.setIfInBounds_toArray, List.set_cons_zero, List.set_cons_succ])
    refine takeH (i := 14) (v := ?_) (d := (some 40)) rfl (by kernel_rfl) (by kernel_rfl) (by kernel_rfl) rfl (fun _ _ _ h => h) (Or.inl ⟨by kernel_rfl, ?_⟩) (by assumption) ?_; rotate_left; · (intro w' hSw; (try dsimp only at hSw); have cc := hSw.cell C1.out; first | (go_simp; done) | (go_simp; with_reducible rfl)); (try simp only [Act.put, List.setIfInBounds_toArray, List.set_cons_zero, List.set_cons_succ])
    refine takeH (i := 15) (v := ?_) (d := (some 41)) rfl (by kernel_rfl) (by kernel_rfl) (by kernel_rfl) rfl (fun _ _ _ h => h) (Or.inl ⟨by kernel_rfl, ?_⟩) (by assumption) ?_; rotate_left; · (intro w' hSw; (try dsimp only at hSw); first | (go_simp; done) | (go_simp; with_reducible rfl)); (try simp only [Act.put, List.setIfInBounds_toArray, List.set_cons_zero, List.set_cons_succ])
    refine takeH (i := 16) (v := ?_) (d := (some 42)) rfl (by kernel_rfl) (by kernel_rfl) (by kernel_rfl) rfl (fun _ _ _ h => h) (Or.inl ⟨by kernel_rfl, ?_⟩) (by assumption) ?_; rotate_left; · (intro w' hSw; (try dsimp only at hSw); first | (go_simp; done) | (go_simp; with_reducible rfl)); (try simp only [Act.put, List.setIfInBounds_toArray, List.set_cons_zero, List.set_cons_succ])
    refine takeH (i := 17) (v := ?_) (d := (some 43)) rfl (by kernel_rfl) (by kernel_rfl) (by kernel_rfl) rfl (fun _ _ _ h => h) (Or.inl ⟨by kernel_rfl, ?_⟩) (by assumption) ?_; rotate_left; · (intro w' hSw; (try dsimp only at hSw); first | (go_simp; done) | (go_simp; with_reducible rfl)); (try simp only [Act.put, List.setIfInBounds_toArray, List.set_cons_zero, List.set_cons_succ])
    refine takeH (i := 18) (v := ?_) (d := (some 44)) rfl (by kernel_rfl) (by kernel_rfl) (by kernel_rfl) rfl (fun _ _ _ h => h) (Or.inl ⟨by kernel_rfl, ?_⟩) (by assumption) ?_; rotate_left; · (intro w' hSw; (try dsimp only at hSw); have cc := hSw.cell CB.out; first | (go_simp; done) | (go_simp; with_reducible rfl)); (try simp only [Act.put, List.setIfInBounds_toArray, List.set_cons_zero, List.set_cons_succ])
    refine wpAnyH_ready (rs := [6]) (by kernel_rfl) (by simp) ?_
    refine AllReadyH.cons rfl (fun K' hK => ?_) AllReadyH.nil
    go_simp
    refine (ahead_any (pos s) K vs (p : Int) _ (by omega) (fun i j hij hj => pos_up_le s HE.out hij (by omega)) (H4.out.stay hHeld.1)).mono ?_
    rintro e x1 ⟨i1, rfl, ha1, hb1⟩
    have A1 : Hid (Ahd K (pos s) (p : Int) i1) := ha1
    have hi1 := ha1.1
    have hw' : Up W.heap.size W x1 := hHeld.stay hb1
    clear ha1 hb1
    go_wp2_with fail
    refine hK.out _ _ hw' (fun hHeld => ?_)
    clear hK K' hw'
    (try dsimp only at hHeld)
    (try simp only [Act.put, List.setIfInBounds_toArray, List.set_cons_zero, List.set_cons_succ])
    refine wpAnyH_ready (rs := [19]) (by kernel_rfl) (by simp) ?_
    refine AllReadyH.cons rfl (fun K' hK => ?_) AllReadyH.nil
    go_simp
    refine (ahead_any (pos s) K vs ((S s (m - 1) : Nat) : Int) _ (by omega) (fun i j hij hj => pos_up_le s HE.out hij (by omega)) (H4.out.stay hHeld.1)).mono ?_
    rintro e x2 ⟨i2, rfl, ha2, hb2⟩
    rw [← HPK.out] at ha2
    obtain rfl : i2 = k := ha2.one (ahd_pos HE.out (by omega))
    have hw' : Up W.heap.size W x2 := hHeld.stay hb2
    clear ha2 hb2
    go_wp2_with fail
    refine hK.out _ _ hw' (fun hHeld => ?_)
    clear hK K' hw'
    (try dsimp only at hHeld)
    (try simp only [Act.put, List.setIfInBounds_toArray, List.set_cons_zero, List.set_cons_succ])
    have hq := plc_of HE.out HO.out (by omega) HPK.out hm A1.out
    have HQ : Hid (Plc s p m (1 + i1 - i2)) := hq.2
    have hq1 := hq.1
    clear hq
    have zw1 : IntKind.i64.wrap ((i1 : Int) - (i2 : Int)) = (i1 : Int) - (i2 : Int) := Go.IntWalk.i64_in _ (by omega)
    have zw2 : IntKind.i64.wrap (1 + ((i1 : Int) - (i2 : Int))) = 1 + ((i1 : Int) - (i2 : Int)) := Go.IntWalk.i64_in _ (by omega)
    refine takeH (i := 20) (v := ?_) (d := (some 46)) rfl (by kernel_rfl) (by kernel_rfl) (by kernel_rfl) rfl (fun _ _ _ h => h) (Or.inl ⟨by kernel_rfl, ?_⟩) (by assumption) ?_; rotate_left; · (intro w' hSw; (try dsimp only at hSw); first | (go_simp; done) | (go_simp; with_reducible rfl)); (try simp only [Act.put, List.setIfInBounds_toArray, List.set_cons_zero, List.set_cons_succ])
    refine takeH (i := 21) (v := ?_) (d := (some 47)) rfl (by kernel_rfl) (by kernel_rfl) (by kernel_rfl) rfl (fun _ _ _ h => h) (Or.inl ⟨by kernel_rfl, ?_⟩) (by assumption) ?_; rotate_left; · (intro w' hSw; (try dsimp only at hSw); first | (go_simp; done) | (go_simp; with_reducible rfl)); (try simp only [Act.put, List.setIfInBounds_toArray, List.set_cons_zero, List.set_cons_succ])
    refine takeH (i := 22) (v := ?_) (d := (some 8)) rfl (by kernel_rfl) (by kernel_rfl) (by kernel_rfl) rfl (fun _ _ _ h => h) (Or.inl ⟨by kernel_rfl, ?_⟩) (by assumption) ?_; rotate_left; · (intro w' hSw; (try dsimp only at hSw); first | (go_simp; done) | (go_simp; with_reducible rfl)); (try simp only [Act.put, List.setIfInBounds_toArray, List.set_cons_zero, List.set_cons_succ])
    refine wpAnyH_done (by kernel_rfl) ?_ _
    have g0 := hHeld.cell K0.out
    have g1 := hHeld.cell K1.out
    have e0 := hHeld.free K0.out F0.out
    have e1 := hHeld.free K1.out F1.out
    have HB : Hid (Up w.heap.size w x2) := HU.out.stay hHeld.1
    clear hHeld
    go_wp2
    refine bodyPost_ret (v := .tuple #[.agg #[.int .i64 m, .int .i64 (1 + ((i1 : Int) - i2))], .int .i64 0]) (by simp [results, Tryd.results16, go_sem, *]) rfl ⟨m, 1 + i1 - i2, ?_, HQ.out, (HB.out.1.setCell (Nat.le_refl _) _).setCell (Nat.le_refl _) _⟩
    rw [show ((1 + i1 - i2 : Nat) : Int) = 1 + ((i1 : Int) - i2) by omega]
  · have z1 : ¬ (m : Int) ≤ (nL s : Int) := by omega
    have g0 := UU.out.cell K0.out
    have g1 := UU.out.cell K1.out
    have e0 := UU.out.free K0.out F0.out
    have e1 := UU.out.free K1.out F1.out
    have HB : Hid (Up w.heap.size w w1) := HU.out.stay UU.out.1
    go_wp2
    exact bodyPost_ret (v := .tuple #[.agg #[.int .i64 m, .int .i64 1], .int .i64 0]) (by simp [results, Tryd.results16, go_sem, *]) rfl ⟨m, 1, rfl, plc_none HE.out HO.out hm, (HB.out.1.setCell (Nat.le_refl _) _).setCell (Nat.le_refl _) _⟩
end Go.Proofs.YtihplafalbokdaaDoor
