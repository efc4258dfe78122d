/- lists.Line: the first line above nothing. -/
import Derived.Test.YtgijihfijoiafaaGreatDoorQPAwkNil
namespace Go.Proofs.YtgijihfijoiafaaGreatDoor
set_option linter.unusedVariables false
open Go.RowKit Go.ChangeShapes Go.Shelf
attribute [local go_sem] Oper.semAt_some

/-- The first line above nothing, from the outside on. -/
def lin : List Nd → Int
  | [] => 0
  | x :: l => if 0 < x.n then x.n else lin l
def goL : List Nd → Bool
  | [] => true
  | x :: _ => decide (x.n ≤ 0)
theorem fst_goL : ∀ l : List Nd, (fst goL l = none ∧ lin l = 0) ∨ ∃ x k, fst goL l = some (x :: k) ∧ lin l = x.n
  | [] => Or.inl ⟨rfl, rfl⟩
  | x :: l => by
    by_cases h : 0 < x.n
    · exact Or.inr ⟨x, l, fst_stop (show decide (x.n ≤ 0) = false by simp; omega), by simp [lin, h]⟩
    · rw [fst_go (go := goL) (x := x) (l := l) (show decide (x.n ≤ 0) = true by simp; omega), show lin (x :: l) = lin l by simp [lin, h]]
      exact fst_goL l
theorem Lie.at {w : World} {c : Int} : ∀ {l : List Nd}, Lie w l c → ∀ x ∈ l, ∃ y : Value, w.heap[x.b]? = some (.cells #[.string x.s, .int .i64 x.n, y] 83 (0, 0))
  | y :: l, h, x, hx => by
    rcases List.mem_cons.1 hx with rfl | hx
    · exact ⟨_, h.1⟩
    · exact Lie.at h.2.2 x hx
set_option maxHeartbeats 1000000 in
set_option maxRecDepth 100000 in
theorem line_any (l0 : List Nd) (c : Int) (w : World) (hl : l0.length ≤ 100) (hL : Lie w l0 c) (hg : Ety w) :
    Calls Tryz.prog 24 #[val l0 c] w fun e w' => e = .returned (.int .i64 (lin l0)) ∧ Below w.heap.size w w' := by
  obtain ⟨T0, v0, hv0⟩ := val_shape l0 c
  have HV : Hid (val l0 c = .iface T0 v0) := hv0
  rw [hv0]
  clear hv0
  have hx : ∀ x ∈ l0, x.b < w.heap.size := fun x h => hL.lt x h
  refine (callsIn_wide (n := 9)).1 ?_
  refine callsIn_of_wp_marks Tryz.func24 rfl trivial ?_ rfl
  simp only [Tryz.ntmps24, List.size_toArray, List.length_cons, List.length_nil, Nat.reduceAdd, Nat.reduceSub, Array.replicate_succ, Array.replicate_zero, List.push_toArray, List.append_toArray, List.nil_append, List.cons_append]
  gi_wp2_with (first | (refine ⟨trivial, ?_⟩; gi_at_call 46; refine (callsIn_wide.2 (each_mk _ _ _)).mono ?_; rintro e w1 ⟨rfl, hw⟩; subst w1) | fail)
  have hu : Up w.heap.size w (((w.alloc (.cells #[.int .i64 0] 3)).alloc (.cells #[.pointer none] 81)).alloc (.cells #[.iface T0 v0] 30)) := ((((Up.refl w).alloc _).alloc _).alloc _)
  have hsz : ((((w.alloc (.cells #[.int .i64 0] 3)).alloc (.cells #[.pointer none] 81)).alloc (.cells #[.iface T0 v0] 30))).heap.size = w.heap.size + 3 := by simp
  have hb0 : Bk (((w.alloc (.cells #[.int .i64 0] 3)).alloc (.cells #[.pointer none] 81)).alloc (.cells #[.iface T0 v0] 30)) (w.heap.size) #[.int .i64 0] 3 := by
    have := (((Bk.new w #[.int .i64 0] 3).alloc (.cells #[.pointer none] 81)).alloc (.cells #[.iface T0 v0] 30))
    simpa using this
  have hb1 : Bk (((w.alloc (.cells #[.int .i64 0] 3)).alloc (.cells #[.pointer none] 81)).alloc (.cells #[.iface T0 v0] 30)) (w.heap.size + 1) #[.pointer none] 81 := by
    have := ((Bk.new (w.alloc (.cells #[.int .i64 0] 3)) #[.pointer none] 81).alloc (.cells #[.iface T0 v0] 30))
    simpa using this
  have hb2 : Bk (((w.alloc (.cells #[.int .i64 0] 3)).alloc (.cells #[.pointer none] 81)).alloc (.cells #[.iface T0 v0] 30)) (w.heap.size + 1 + 1) #[.iface T0 v0] 30 := by
    have := (Bk.new ((w.alloc (.cells #[.int .i64 0] 3)).alloc (.cells #[.pointer none] 81)) #[.iface T0 v0] 30)
    simpa using this
  generalize (((w.alloc (.cells #[.int .i64 0] 3)).alloc (.cells #[.pointer none] 81)).alloc (.cells #[.iface T0 v0] 30)) = W at *
  refine range_gen (α := Nd) (gf := 74) (lb := #[.pointer (some ⟨w.heap.size + 1 + 1, 0, none⟩)]) rfl enterEachA
    (fun x => #[.iface 124 (.agg #[.iface 81 (.pointer (some ⟨x.b, 0, none⟩))])]) (fun _ => rfl)
    (fun x V => x ∈ l0 ∧ Kpt W.heap.size (fun k => k = w.heap.size + 1) W V ∧ ∃ v, Bk V (w.heap.size + 1) #[v] 81)
    (fun x V V' => x.n ≤ 0 ∧ V'.heap[W.heap.size + 1]? = V.heap[W.heap.size + 1]? ∧ Kpt V.heap.size (fun k => k = w.heap.size + 1) V V' ∧ ∃ v, Bk V' (w.heap.size + 1) #[v] 81)
    (fun x V V' => 0 < x.n ∧ V'.heap[W.heap.size + 1]? = V.heap[W.heap.size + 1]? ∧ V'.cell? ⟨w.heap.size, 0, none⟩ = some (.int .i64 x.n) ∧ Kpt V.heap.size (fun k => k = w.heap.size ∨ k = w.heap.size + 1) V V')
    (fun x => { tmps := #[.iface T0 v0, undef, .pointer (some ⟨w.heap.size, 0, none⟩), .pointer (some ⟨w.heap.size + 1, 0, none⟩), .iface 124 (.agg #[.iface 81 (.pointer (some ⟨x.b, 0, none⟩))]), .iface T0 v0, .func (.func 74) #[] #[.pointer (some ⟨w.heap.size + 1 + 1, 0, none⟩)], .iface 124 (.agg #[.iface 81 (.pointer (some ⟨x.b, 0, none⟩))]), undef, undef, undef, undef, undef, undef, undef, undef, undef, undef, undef, undef, undef, undef, undef, undef, undef, undef], defers := [] })
    ?ok (fun x V V' h => h.2.1) (fun x V V' h => h.2.1) ?assign ?body
    (fun V => lin l0 = 0 ∧ Bk V (w.heap.size) #[.int .i64 0] 3 ∧ V.heap[W.heap.size]? = some (.deferred (some [])) ∧ Below w.heap.size w V)
    (fun V => V.cell? ⟨w.heap.size, 0, none⟩ = some (.int .i64 (lin l0)) ∧ V.heap[W.heap.size]? = some (.deferred (some [])) ∧ Below w.heap.size w V) ?iter ?done ?stop
  case assign =>
    intro x V K hK
    gi_wp2
    exact hK
  case ok =>
    exact fun _ V o h => ⟨h.1, h.2.1.putObj (Or.inl (Nat.le_succ _)) o, h.2.2.elim fun v hv => ⟨v, hv.put (by omega)⟩⟩
  case body =>
    rintro x V ⟨hxl, hok, v, b1⟩ hlt
    have b0 : Bk V (w.heap.size) #[.int .i64 0] 3 := hb0.kept hok (by omega) (by omega)
    have HE : Hid (Ety V) := (hg.stay hu.1).kept hok (by omega) (by omega)
    have HT : Hid (Tgt V ⟨w.heap.size + 1, 0, none⟩) := ⟨b1.lt, b1.frozen 0, _, b1.cell 0 rfl⟩
    have hxb := hx x hxl
    have hln : ∃ y : Value, V.heap[x.b]? = some (.cells #[.string x.s, .int .i64 x.n, y] 83 (0, 0)) := by
      obtain ⟨y, hy⟩ := Lie.at hL x hxl
      exact ⟨y, (hok.block x.b (by omega) (by omega)).trans ((hu.1.block x.b hxb).trans hy)⟩
    obtain ⟨y, hy⟩ := hln
    have HB : Hid (Bk V (w.heap.size) #[.int .i64 0] 3 ∧ Bk V (w.heap.size + 1) #[v] 81 ∧ W.heap.size + 1 < V.heap.size ∧ Bk V x.b #[.string x.s, .int .i64 x.n, y] 83 ∧ x.b < w.heap.size) := ⟨b0, b1, hlt, hy, hxb⟩
    have HSZ : Hid (W.heap.size = w.heap.size + 3) := hsz
    clear b0 b1 hok hlt hb0 hb1 hb2 hy hxb hsz hL hg hxl
    obtain ⟨xb, xs, xn⟩ := x
    simp only at *
    by_cases hxn : 0 < xn
    · have hxn' : ¬ xn ≤ 0 := by omega
      gi_wp2_with (first | (refine ⟨trivial, ?_⟩; gi_at_call 47; refine (CallsIn.inRound _ (callsIn_wide.2 (AsA xb ⟨w.heap.size + 1, 0, none⟩ V HE.out HT.out))).mono ?_; rintro e V1 ⟨rfl, V2, hb, rfl⟩; have q1 := ((HB.out.2.1.stay hb).set 0 (.pointer (some ⟨xb, 0, none⟩))).cell 0 rfl; have q2 := ((HB.out.1.stay hb).other (q := ⟨w.heap.size + 1, 0, none⟩) (by simp) (.pointer (some ⟨xb, 0, none⟩))).cell 0 rfl; have q3 := ((HB.out.1.stay hb).other (q := ⟨w.heap.size + 1, 0, none⟩) (by simp) (.pointer (some ⟨xb, 0, none⟩))).frozen 0; have q4 := ((HB.out.2.2.2.1.stay hb).other (q := ⟨w.heap.size + 1, 0, none⟩) (by have := HB.out.2.2.2.2; simp; omega) (.pointer (some ⟨xb, 0, none⟩))).cell 1 rfl; have HB2 : Hid (Below V.heap.size V V2) := hb; clear hb) | fail)
      have hsz := HSZ.out
      refine ⟨hxn, ?_, World.cell?_setCell_same' _ _ _ (by rw [q2]; rfl), Kpt.setCell (p := (fun k => k = w.heap.size ∨ k = w.heap.size + 1)) (q := ⟨w.heap.size, 0, none⟩) (Kpt.setCell (p := (fun k => k = w.heap.size ∨ k = w.heap.size + 1)) (q := ⟨w.heap.size + 1, 0, none⟩) (Kpt.of HB2.out) (Or.inr (Or.inr rfl)) _) (Or.inr (Or.inl rfl)) _⟩
      rw [Below.heap_setCell _ _ _ _ (by simp; omega), Below.heap_setCell _ _ _ _ (by simp; omega)]
      exact HB2.out.block _ HB.out.2.2.1
    · have hxn' : xn ≤ 0 := by omega
      gi_wp2_with (first | (refine ⟨trivial, ?_⟩; gi_at_call 47; refine (CallsIn.inRound _ (callsIn_wide.2 (AsA xb ⟨w.heap.size + 1, 0, none⟩ V HE.out HT.out))).mono ?_; rintro e V1 ⟨rfl, V2, hb, rfl⟩; have q1 := ((HB.out.2.1.stay hb).set 0 (.pointer (some ⟨xb, 0, none⟩))).cell 0 rfl; have q4 := ((HB.out.2.2.2.1.stay hb).other (q := ⟨w.heap.size + 1, 0, none⟩) (by have := HB.out.2.2.2.2; simp; omega) (.pointer (some ⟨xb, 0, none⟩))).cell 1 rfl; have HB2 : Hid (Below V.heap.size V V2) := hb; clear hb) | fail)
      have hsz := HSZ.out
      refine ⟨hxn', ?_, Kpt.setCell (p := (fun k => k = w.heap.size + 1)) (q := ⟨w.heap.size + 1, 0, none⟩) (Kpt.of HB2.out) (Or.inr rfl) _, _, (HB.out.2.1.stay HB2.out).set 0 _⟩
      rw [Below.heap_setCell _ _ _ _ (by simp; omega)]
      exact HB2.out.block _ HB.out.2.2.1
  case iter =>
    intro W1 rec busy don hB hs1 hD hR hY
    have he : W1.cell? ⟨w.heap.size + 1 + 1, 0, none⟩ = some (val l0 c) := by rw [HV.out]; exact (hb2.stay hB).cell 0 rfl
    refine callsIn_wide.2 ((eachA_any l0 c (W.heap.size + 1) 9 ⟨w.heap.size + 1 + 1, 0, none⟩ W1.heap.size (fun k => k = w.heap.size + 1) goL (fun V => ∃ v, Bk V (w.heap.size + 1) #[v] 81)
      (fun k V => ∃ x k', k = x :: k' ∧ V.heap[W.heap.size + 1]? = some don ∧ V.cell? ⟨w.heap.size, 0, none⟩ = some (.int .i64 x.n) ∧ V.heap[W.heap.size]? = some (.deferred (some [])) ∧ Below w.heap.size w V) W1 he hl ((hL.stay hu.1).stay hB) (Nat.le_refl _)
      (fun x h => ⟨by have := hx x h; omega, by have := hx x h; omega⟩) (fun k h => by omega) (fun V V' h ⟨v, hv⟩ => ⟨v, (h _ rfl).trans hv⟩) ⟨_, hb1.stay hB⟩ rfl ?_).mono ?_)
    · intro x k hk V hV hi
      have hrec : V.heap[W.heap.size + 1]? = some rec := (hV.block _ (by omega) (by omega)).trans hR
      refine (hY x V ⟨hk.subset (by simp), (Kpt.of hB).trans (hV.mono (by omega)), hi⟩ hrec).mono ?_
      rintro e V' (⟨rfl, V3, ⟨h1, _, h3, h4⟩, rfl⟩ | ⟨rfl, V3, ⟨h1, h3, h4, h5⟩, rfl⟩)
      · refine Or.inl ⟨rfl, by simp [goL, h1], h3.back hrec (by omega), ?_⟩
        obtain ⟨v, hv⟩ := h4
        exact ⟨v, hv.put (by omega)⟩
      · have hk2 := (hV.wide (q := (fun k => k = w.heap.size ∨ k = w.heap.size + 1)) (fun k h => Or.inr h)).round (y := don) h5 (Nat.le_refl _)
        refine Or.inr ⟨rfl, by simp [goL]; omega, x, k, rfl, World.putObj_heap_same (lt_put (lt_of_heap hrec) h5), ?_, ?_, ?_⟩
        · exact (cell_put (by show w.heap.size ≠ _; omega)).trans h4
        · exact (hk2.block _ (by omega) (by omega)).trans hD
        · exact (hu.1.trans (hB.mono (by omega))).trans (hk2.below (by omega) (by intro k h; omega))
    · rintro e V ⟨hv', (⟨h1, h2⟩ | ⟨k, hk, x, k', rfl, h2, h3, h4⟩)⟩
      · rcases fst_goL l0 with ⟨_, hh⟩ | ⟨y, k, h0, _⟩
        · exact ⟨hv', Or.inl ⟨(h2.block _ (by omega) (by omega)).trans hR, hh, (hb0.stay hB).kept h2 (by omega) (by omega), (h2.block _ (by omega) (by omega)).trans hD, (hu.1.trans (hB.mono (by omega))).trans (h2.below (by omega) (by intro k h; omega))⟩⟩
        · rw [h1] at h0; cases h0
      · rcases fst_goL l0 with ⟨h0, hh⟩ | ⟨y, k, h0, hh⟩
        · rw [hk] at h0; cases h0
        · rw [hk] at h0; cases h0
          exact ⟨hv', Or.inr ⟨h2, by rw [hh]; exact h3, h4⟩⟩
  case done =>
    rintro V o hlt ⟨hcn, hk, hd, hb⟩
    have k0 : Bk (V.putObj (W.heap.size + 1) o) (w.heap.size) #[.int .i64 0] 3 := hk.put (by omega)
    have k1 := k0.cell 0 rfl
    have k2 := k0.frozen 0
    have k3 := (k0.set 0 (.int .i64 0))
    have hD : ((V.putObj (W.heap.size + 1) o).setCell ⟨w.heap.size, 0, none⟩ (.int .i64 0)).heap[W.heap.size]? = some (.deferred (some [])) := (Below.heap_setCell _ _ _ _ (by show W.heap.size ≠ w.heap.size; omega)).trans ((World.putObj_heap_other (by omega)).trans hd)
    have hcc : (((V.putObj (W.heap.size + 1) o).setCell ⟨w.heap.size, 0, none⟩ (.int .i64 0)).putObj W.heap.size (.deferred none)).cell? ⟨w.heap.size, 0, none⟩ = some (.int .i64 0) := (cell_put (by show w.heap.size ≠ _; omega)).trans (k3.cell 0 rfl)
    have hfin : Below w.heap.size w (((V.putObj (W.heap.size + 1) o).setCell ⟨w.heap.size, 0, none⟩ (.int .i64 0)).putObj W.heap.size (.deferred none)) := ((((Kpt.of (p := fun _ => False) hb).putObj (Or.inl (by omega)) o).setCell (q := ⟨w.heap.size, 0, none⟩) (Or.inl (by show _ ≤ w.heap.size; omega)) _).putObj (Or.inl (by omega)) _).below (Nat.le_refl _) (fun k h => h.elim)
    have HCN : Hid (lin l0 = 0) := hcn
    clear k0 k3 hk hsz hcn
    gi_wp2
    refine ⟨by simp, .inl ⟨_, _, rfl, run_takeDeferred hD, ?_⟩⟩
    refine ⟨.int .i64 0, ?_, by rw [HCN.out], hfin⟩
    simp [results, Tryz.results24, go_sem, hcc]
  case stop =>
    rintro V o hlt ⟨hc, hd, hb⟩
    have hD : (V.putObj (W.heap.size + 1) o).heap[W.heap.size]? = some (.deferred (some [])) := (World.putObj_heap_other (by omega)).trans hd
    have hcc : ((V.putObj (W.heap.size + 1) o).putObj W.heap.size (.deferred none)).cell? ⟨w.heap.size, 0, none⟩ = some (.int .i64 (lin l0)) := (cell_put (by show w.heap.size ≠ _; omega)).trans ((cell_put (by show w.heap.size ≠ _; omega)).trans hc)
    have hfin : Below w.heap.size w ((V.putObj (W.heap.size + 1) o).putObj W.heap.size (.deferred none)) := (((Kpt.of (p := fun _ => False) hb).putObj (Or.inl (by omega)) o).putObj (Or.inl (by omega)) _).below (Nat.le_refl _) (fun k h => h.elim)
    gi_wp2
    refine ⟨by simp, .inl ⟨_, _, rfl, run_takeDeferred hD, ?_⟩⟩
    refine ⟨.int .i64 (lin l0), ?_, rfl, hfin⟩
    simp [results, Tryz.results24, go_sem, hcc]
set_option maxRecDepth 100000 in
theorem line_nil (w : World) :
    Calls Tryz.prog 24 #[.nilIface] w fun e w' => e = .returned (.int .i64 0) ∧ Below w.heap.size w w' := by
  refine (callsIn_wide (n := 9)).1 ?_
  refine callsIn_of_wp_marks Tryz.func24 rfl trivial ?_ rfl
  simp only [Tryz.ntmps24, List.size_toArray, List.length_cons, List.length_nil, Nat.reduceAdd, Nat.reduceSub, Array.replicate_succ, Array.replicate_zero, List.push_toArray, List.append_toArray, List.nil_append, List.cons_append]
  gi_wp2_with (first | (refine ⟨trivial, ?_⟩; gi_at_call 46; refine (callsIn_wide.2 (each_mk_nil _)).mono ?_; rintro e w1 ⟨rfl, hw⟩; subst w1) | fail)
  have hu : Up w.heap.size w (((w.alloc (.cells #[.int .i64 0] 3)).alloc (.cells #[.pointer none] 81)).alloc (.cells #[.nilIface] 30)) := ((((Up.refl w).alloc _).alloc _).alloc _)
  have hsz : ((((w.alloc (.cells #[.int .i64 0] 3)).alloc (.cells #[.pointer none] 81)).alloc (.cells #[.nilIface] 30))).heap.size = w.heap.size + 3 := by simp
  have hb0 : Bk (((w.alloc (.cells #[.int .i64 0] 3)).alloc (.cells #[.pointer none] 81)).alloc (.cells #[.nilIface] 30)) (w.heap.size) #[.int .i64 0] 3 := by
    have := (((Bk.new w #[.int .i64 0] 3).alloc (.cells #[.pointer none] 81)).alloc (.cells #[.nilIface] 30))
    simpa using this
  have hb1 : Bk (((w.alloc (.cells #[.int .i64 0] 3)).alloc (.cells #[.pointer none] 81)).alloc (.cells #[.nilIface] 30)) (w.heap.size + 1) #[.pointer none] 81 := by
    have := ((Bk.new (w.alloc (.cells #[.int .i64 0] 3)) #[.pointer none] 81).alloc (.cells #[.nilIface] 30))
    simpa using this
  have hb2 : Bk (((w.alloc (.cells #[.int .i64 0] 3)).alloc (.cells #[.pointer none] 81)).alloc (.cells #[.nilIface] 30)) (w.heap.size + 1 + 1) #[.nilIface] 30 := by
    have := (Bk.new ((w.alloc (.cells #[.int .i64 0] 3)).alloc (.cells #[.pointer none] 81)) #[.nilIface] 30)
    simpa using this
  generalize (((w.alloc (.cells #[.int .i64 0] 3)).alloc (.cells #[.pointer none] 81)).alloc (.cells #[.nilIface] 30)) = W at *
  refine range_gen (α := Unit) (gf := 74) (lb := #[.pointer (some ⟨w.heap.size + 1 + 1, 0, none⟩)]) rfl enterEachA
    (fun x => #[.nilIface]) (fun _ => rfl)
    (fun x V => False)
    (fun x V V' => False)
    (fun x V V' => False)
    (fun x => { tmps := #[.nilIface, undef, .pointer (some ⟨w.heap.size, 0, none⟩), .pointer (some ⟨w.heap.size + 1, 0, none⟩), .nilIface, .nilIface, .func (.func 74) #[] #[.pointer (some ⟨w.heap.size + 1 + 1, 0, none⟩)], .nilIface, undef, undef, undef, undef, undef, undef, undef, undef, undef, undef, undef, undef, undef, undef, undef, undef, undef, undef], defers := [] })
    ?ok (fun x V V' h => h.elim) (fun x V V' h => h.elim) ?assign ?body
    (fun V => Bk V (w.heap.size) #[.int .i64 0] 3 ∧ V.heap[W.heap.size]? = some (.deferred (some [])) ∧ Below w.heap.size w V)
    (fun V => False) ?iter ?done ?stop
  case assign =>
    intro x V K hK
    gi_wp2
    exact hK
  case ok =>
    exact fun _ _ _ h => h
  case body =>
    exact fun _ _ h => h.elim
  case iter =>
    intro W1 rec busy don hB hs1 hD hR hY
    have he : W1.cell? ⟨w.heap.size + 1 + 1, 0, none⟩ = some .nilIface := (hb2.stay hB).cell 0 rfl
    refine callsIn_wide.2 ((eachA_nil (W.heap.size + 1) ⟨w.heap.size + 1 + 1, 0, none⟩ W1 he).mono ?_)
    rintro e V ⟨hv', bel⟩
    exact ⟨hv', Or.inl ⟨(bel.block _ (by omega)).trans hR, (hb0.stay hB).stay bel, (bel.block _ (by omega)).trans hD, (hu.1.trans (hB.mono (by omega))).trans (bel.mono (by omega))⟩⟩
  case done =>
    rintro V o hlt ⟨hk, hd, hb⟩
    have k0 : Bk (V.putObj (W.heap.size + 1) o) (w.heap.size) #[.int .i64 0] 3 := hk.put (by omega)
    have k1 := k0.cell 0 rfl
    have k2 := k0.frozen 0
    have k3 := (k0.set 0 (.int .i64 0))
    have hD : ((V.putObj (W.heap.size + 1) o).setCell ⟨w.heap.size, 0, none⟩ (.int .i64 0)).heap[W.heap.size]? = some (.deferred (some [])) := (Below.heap_setCell _ _ _ _ (by show W.heap.size ≠ w.heap.size; omega)).trans ((World.putObj_heap_other (by omega)).trans hd)
    have hcc : (((V.putObj (W.heap.size + 1) o).setCell ⟨w.heap.size, 0, none⟩ (.int .i64 0)).putObj W.heap.size (.deferred none)).cell? ⟨w.heap.size, 0, none⟩ = some (.int .i64 0) := (cell_put (by show w.heap.size ≠ _; omega)).trans (k3.cell 0 rfl)
    have hfin : Below w.heap.size w (((V.putObj (W.heap.size + 1) o).setCell ⟨w.heap.size, 0, none⟩ (.int .i64 0)).putObj W.heap.size (.deferred none)) := ((((Kpt.of (p := fun _ => False) hb).putObj (Or.inl (by omega)) o).setCell (q := ⟨w.heap.size, 0, none⟩) (Or.inl (by show _ ≤ w.heap.size; omega)) _).putObj (Or.inl (by omega)) _).below (Nat.le_refl _) (fun k h => h.elim)
    clear k0 k3 hk hsz
    gi_wp2
    refine ⟨by simp, .inl ⟨_, _, rfl, run_takeDeferred hD, ?_⟩⟩
    refine ⟨.int .i64 0, ?_, rfl, hfin⟩
    simp [results, Tryz.results24, go_sem, hcc]
  case stop =>
    exact fun _ _ _ h => h.elim
end Go.Proofs.YtgijihfijoiafaaGreatDoor
