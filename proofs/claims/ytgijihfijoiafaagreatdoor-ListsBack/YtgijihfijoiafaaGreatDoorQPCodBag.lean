/- fault's functions that range over Each. -/
import Derived.Test.YtgijihfijoiafaaGreatDoorQPParFPar
import Derived.Test.YtgijihfijoiafaaGreatDoorQPChnEac
import Derived.Test.YtgijihfijoiafaaGreatDoorQPChkWth
import Derived.Maps.OwnSet
import Derived.Maps.AppendAt
import Derived.StringKeys
namespace Go.Proofs.YtgijihfijoiafaaGreatDoor
set_option linter.unusedVariables false
open Go.RowKit Go.ChangeShapes Go.Shelf
attribute [local go_sem] Oper.semAt_some

theorem Kpt.round {n l : Nat} {p : Nat → Prop} {a V V3 : World} {x y : Obj} (h : Kpt n p a V) (h3 : Kpt (V.putObj l x).heap.size p (V.putObj l x) V3) (hn : n ≤ a.heap.size) : Kpt n (fun k => p k ∨ k = l) a (V3.putObj l y) := by
  have hs : (V.putObj l x).heap.size = V.heap.size := by simp [World.putObj]
  have h1 : Kpt n (fun k => p k ∨ k = l) a (V.putObj l x) := Kpt.putObj (k := l) (p := fun k => p k ∨ k = l) (h.wide fun k => Or.inl) (Or.inr (Or.inr rfl)) x
  exact Kpt.putObj (k := l) (p := fun k => p k ∨ k = l) (h1.trans ((h3.mono (by rw [hs]; exact Nat.le_trans hn h.size)).wide fun k => Or.inl)) (Or.inr (Or.inr rfl)) y
/-- A round that goes on leaves the record as it was. -/
theorem Kpt.back {l : Nat} {p : Nat → Prop} {V V3 : World} {x r : Obj} (hr : V.heap[l]? = some r) (hl : ¬ p l) (h3 : Kpt (V.putObj l x).heap.size p (V.putObj l x) V3) : Kpt V.heap.size p V (V3.putObj l r) := by
  have hs : (V.putObj l x).heap.size = V.heap.size := by simp [World.putObj]
  have hlt := lt_of_heap hr
  refine ⟨h3.os, h3.tape, h3.output, by have := h3.size; rw [hs] at this; simpa [World.putObj] using this, fun k hk hp => ?_⟩
  by_cases e : k = l
  · subst e
    rw [World.putObj_heap_same (by have := h3.size; rw [hs] at this; omega), hr]
  · rw [World.putObj_heap_other e, h3.block k (by rw [hs]; exact hk) hp, World.putObj_heap_other e]
theorem lt_put {l : Nat} {p : Nat → Prop} {V V3 : World} {x : Obj} (hl : l < V.heap.size) (h3 : Kpt (V.putObj l x).heap.size p (V.putObj l x) V3) : l < V3.heap.size := by
  have hs : (V.putObj l x).heap.size = V.heap.size := by simp [World.putObj]
  exact Nat.lt_of_lt_of_le hl (hs ▸ h3.size)
theorem cell_put {V : World} {l : Nat} {o : Obj} {a : Addr} (h : a.block ≠ l) : (V.putObj l o).cell? a = V.cell? a := World.cell?_of_block (World.putObj_heap_other h)
theorem Bk.put {V : World} {b l : Nat} {o : Obj} {cs : Array Value} {T : TypeId} (h : Bk V b cs T) (hl : b ≠ l) : Bk (V.putObj l o) b cs T := (World.putObj_heap_other hl).trans h
theorem enterEachN (cap : Array Value) (w : World) : (callFunc 83 cap).run Tryz.prog w = .ok (.enter 83 cap) w := by kernel_rfl
theorem enterEachA (cap : Array Value) (w : World) : (callFunc 74 cap).run Tryz.prog w = .ok (.enter 74 cap) w := by kernel_rfl
theorem new_any (s : ByteArray) (n : Int) (T : TypeId) (v : Value) (w : World) :
    Calls Tryz.prog 23 #[.string s, .int .i64 n, .iface T v] w fun e w' => e = .returned (.iface 81 (.pointer (some ⟨w.heap.size, 0, none⟩))) ∧ w' = w.alloc (.cells #[.string s, .int .i64 n, .iface T v] 83) := by
  go_enter Tryz.func23, Tryz.ntmps23
  go_wp2
  go_ret
  exact ⟨rfl, rfl⟩
theorem new_nil (s : ByteArray) (n : Int) (w : World) :
    Calls Tryz.prog 23 #[.string s, .int .i64 n, .nilIface] w fun e w' => e = .returned .nilIface ∧ w' = w := by
  go_enter Tryz.func23, Tryz.ntmps23
  go_wp2
  go_ret
  exact ⟨rfl, rfl⟩
theorem of_nil (w : World) :
    Calls Tryz.prog 22 #[.int .i64 0] w fun e w' => e = .returned .nilIface ∧ w' = w := by
  go_enter Tryz.func22, Tryz.ntmps22
  go_wp2
  go_ret
  exact ⟨rfl, rfl⟩
theorem of_any (c : Int) (w : World) (hc : (c == 0) = false) :
    Calls Tryz.prog 22 #[.int .i64 c] w fun e w' => e = .returned (.iface 23 (.int .i64 c)) ∧ w' = w := by
  go_enter Tryz.func22, Tryz.ntmps22
  go_wp2
  go_ret
  exact ⟨rfl, rfl⟩
theorem code_nil (w : World) : Calls Tryz.prog 25 #[.nilIface] w fun e w' => e = .returned (.int .i64 0) ∧ Below w.heap.size w w' := by
  refine (callsIn_wide (n := 9)).1 ?_
  refine callsIn_of_wp_marks Tryz.func25 rfl trivial ?_ rfl
  simp only [Tryz.ntmps25, List.size_toArray, List.length_cons, List.length_nil, Nat.reduceAdd, Nat.reduceSub, Array.replicate_succ, Array.replicate_zero, List.push_toArray, List.append_toArray, List.nil_append, List.cons_append]
  gi_wp2
  refine ⟨.int .i64 0, ?_, rfl, ((Up.refl w).alloc _).1⟩
  simp [results, Tryz.results25, go_sem]
def goN : List Nd → Bool
  | [] => false
  | _ :: _ => true
theorem fst_goN : ∀ l : List Nd, fst goN l = some []
  | [] => rfl
  | x :: l => (fst_go rfl).trans (fst_goN l)
set_option maxHeartbeats 1000000 in
set_option maxRecDepth 100000 in
theorem code_any (l0 : List Nd) (c : Int) (w : World) (hl : l0.length ≤ 100) (hL : Lie w l0 c) (hg : Ety w) :
    Calls Tryz.prog 25 #[val l0 c] w fun e w' => e = .returned (.int .i64 c) ∧ Below w.heap.size w w' := by
  obtain ⟨T0, v0, hv0⟩ := val_shape l0 c
  have HV : Hid (val l0 c = .iface T0 v0) := hv0
  rw [hv0]
  clear hv0
  have hx : ∀ x ∈ l0, x.b < w.heap.size := fun x h => hL.lt x h
  refine (callsIn_wide (n := 9)).1 ?_
  refine callsIn_of_wp_marks Tryz.func25 rfl trivial ?_ rfl
  simp only [Tryz.ntmps25, List.size_toArray, List.length_cons, List.length_nil, Nat.reduceAdd, Nat.reduceSub, Array.replicate_succ, Array.replicate_zero, List.push_toArray, List.append_toArray, List.nil_append, List.cons_append]
  gi_wp2_with (first | (refine ⟨trivial, ?_⟩; gi_at_call 48; refine (callsIn_wide.2 (each_mkN _ _ _)).mono ?_; rintro e w1 ⟨rfl, hw⟩; subst w1) | fail)
  have hu : Up w.heap.size w (((w.alloc (.cells #[.int .i64 0] 23)).alloc (.cells #[.int .i64 0] 23)).alloc (.cells #[.iface T0 v0] 30)) := ((((Up.refl w).alloc _).alloc _).alloc _)
  have hsz : ((((w.alloc (.cells #[.int .i64 0] 23)).alloc (.cells #[.int .i64 0] 23)).alloc (.cells #[.iface T0 v0] 30))).heap.size = w.heap.size + 3 := by simp
  have hb0 : Bk (((w.alloc (.cells #[.int .i64 0] 23)).alloc (.cells #[.int .i64 0] 23)).alloc (.cells #[.iface T0 v0] 30)) (w.heap.size) #[.int .i64 0] 23 := by
    have := (((Bk.new w #[.int .i64 0] 23).alloc (.cells #[.int .i64 0] 23)).alloc (.cells #[.iface T0 v0] 30))
    simpa using this
  have hb1 : Bk (((w.alloc (.cells #[.int .i64 0] 23)).alloc (.cells #[.int .i64 0] 23)).alloc (.cells #[.iface T0 v0] 30)) (w.heap.size + 1) #[.int .i64 0] 23 := by
    have := ((Bk.new (w.alloc (.cells #[.int .i64 0] 23)) #[.int .i64 0] 23).alloc (.cells #[.iface T0 v0] 30))
    simpa using this
  have hb2 : Bk (((w.alloc (.cells #[.int .i64 0] 23)).alloc (.cells #[.int .i64 0] 23)).alloc (.cells #[.iface T0 v0] 30)) (w.heap.size + 1 + 1) #[.iface T0 v0] 30 := by
    have := (Bk.new ((w.alloc (.cells #[.int .i64 0] 23)).alloc (.cells #[.int .i64 0] 23)) #[.iface T0 v0] 30)
    simpa using this
  generalize (((w.alloc (.cells #[.int .i64 0] 23)).alloc (.cells #[.int .i64 0] 23)).alloc (.cells #[.iface T0 v0] 30)) = W at *
  refine range_gen (α := Unit) (gf := 83) (lb := #[.pointer (some ⟨w.heap.size + 1 + 1, 0, none⟩)]) rfl enterEachN
    (fun x => #[.iface 138 (.agg #[.iface 23 (.int .i64 c)])]) (fun _ => rfl)
    (fun x V => Kpt W.heap.size (fun _ => False) W V)
    (fun x V V' => False)
    (fun x V V' => V'.heap[W.heap.size + 1]? = V.heap[W.heap.size + 1]? ∧ V'.cell? ⟨w.heap.size, 0, none⟩ = some (.int .i64 c) ∧ Kpt V.heap.size (fun k => k = w.heap.size ∨ k = w.heap.size + 1) V V')
    (fun x => { tmps := #[.iface T0 v0, undef, .pointer (some ⟨w.heap.size, 0, none⟩), .pointer (some ⟨w.heap.size + 1, 0, none⟩), .iface 138 (.agg #[.iface 23 (.int .i64 c)]), .iface T0 v0, .bool false, .iface T0 v0, .func (.func 83) #[] #[.pointer (some ⟨w.heap.size + 1 + 1, 0, none⟩)], .iface 138 (.agg #[.iface 23 (.int .i64 c)]), undef, undef, undef, undef], defers := [] })
    ?ok (fun x V V' h => h.elim) (fun x V V' h => h.1) ?assign ?body
    (fun V => False)
    (fun V => V.cell? ⟨w.heap.size, 0, none⟩ = some (.int .i64 c) ∧ V.heap[W.heap.size]? = some (.deferred (some [])) ∧ Below w.heap.size w V) ?iter ?done ?stop
  case assign =>
    intro x V K hK
    gi_wp2
    exact hK
  case ok =>
    exact fun _ V o h => h.putObj (Or.inl (Nat.le_succ _)) o
  case body =>
    rintro x V hok hlt
    have bel : Below W.heap.size W V := hok.below (Nat.le_refl _) (fun k h => h.elim)
    have b0 := hb0.stay bel
    have b1 := hb1.stay bel
    have HE : Hid (Ety V) := (hg.stay hu.1).stay bel
    have HT : Hid (Tgt V ⟨w.heap.size + 1, 0, none⟩) := ⟨b1.lt, b1.frozen 0, _, b1.cell 0 rfl⟩
    have HB : Hid (Bk V (w.heap.size) #[.int .i64 0] 23 ∧ Bk V (w.heap.size + 1) #[.int .i64 0] 23 ∧ W.heap.size + 1 < V.heap.size) := ⟨b0, b1, hlt⟩
    clear b0 b1 bel hok hlt hb0 hb1 hb2
    gi_wp2_with (first | (refine ⟨trivial, ?_⟩; gi_at_call 47; refine (CallsIn.inRound _ (callsIn_wide.2 (AsN c ⟨w.heap.size + 1, 0, none⟩ V HE.out HT.out))).mono ?_; rintro e V1 ⟨rfl, V2, hb, rfl⟩; have q1 := ((HB.out.2.1.stay hb).set 0 (.int .i64 c)).cell 0 rfl; have q2 := ((HB.out.1.stay hb).other (q := ⟨w.heap.size + 1, 0, none⟩) (by simp) (.int .i64 c)).cell 0 rfl; have q3 := ((HB.out.1.stay hb).other (q := ⟨w.heap.size + 1, 0, none⟩) (by simp) (.int .i64 c)).frozen 0; have HB2 : Hid (Below V.heap.size V V2) := hb; clear hb) | fail)
    refine ⟨?_, World.cell?_setCell_same' _ _ _ (by rw [q2]; rfl), ((Kpt.of HB2.out).setCell (Or.inr (Or.inr rfl)) _).setCell (Or.inr (Or.inl rfl)) _⟩
    rw [Below.heap_setCell _ _ _ _ (by simp; omega), Below.heap_setCell _ _ _ _ (by simp; omega)]
    exact HB2.out.block _ HB.out.2.2
  case iter =>
    intro W1 rec busy don hB hs1 hD hR hY
    have he : W1.cell? ⟨w.heap.size + 1 + 1, 0, none⟩ = some (val l0 c) := by rw [HV.out]; exact (hb2.stay hB).cell 0 rfl
    refine callsIn_wide.2 ((eachN_any l0 c (W.heap.size + 1) 9 ⟨w.heap.size + 1 + 1, 0, none⟩ W1.heap.size (fun _ => False) goN (fun _ => True)
      (fun _ V => V.heap[W.heap.size + 1]? = some don ∧ V.cell? ⟨w.heap.size, 0, none⟩ = some (.int .i64 c) ∧ V.heap[W.heap.size]? = some (.deferred (some [])) ∧ Below w.heap.size w V) W1 he hl ((hL.stay hu.1).stay hB) (Nat.le_refl _)
      (fun x h => ⟨by have := hx x h; omega, fun h => h⟩) (fun k h => h.elim) (fun _ _ _ h => h) trivial (fun _ _ => rfl) ?_).mono ?_)
    · intro V hV _
      have hrec : V.heap[W.heap.size + 1]? = some rec := (hV.block _ (by omega) (fun h => h)).trans hR
      refine (hY () V ((Kpt.of hB).trans (hV.mono (by omega))) hrec).mono ?_
      rintro e V' (⟨_, V3, h3, _⟩ | ⟨rfl, V3, ⟨h3, h4, h5⟩, rfl⟩)
      · exact h3.elim
      · have hk := (hV.wide (q := (fun k => k = w.heap.size ∨ k = w.heap.size + 1)) (fun k h => h.elim)).round (y := don) h5 (Nat.le_refl _)
        refine Or.inr ⟨rfl, rfl, World.putObj_heap_same (lt_put (lt_of_heap hrec) h5), ?_, ?_, ?_⟩
        · exact (cell_put (by show w.heap.size ≠ _; omega)).trans h4
        · exact (hk.block _ (by omega) (by omega)).trans hD
        · exact (hu.1.trans (hB.mono (by omega))).trans (hk.below (by omega) (by intro k h; omega))
    · rintro e V ⟨hv', (⟨h1, h2⟩ | ⟨k, _, h2⟩)⟩
      · rw [fst_goN] at h1; cases h1
      · exact ⟨hv', Or.inr h2⟩
  case done =>
    exact fun _ _ _ h => h.elim
  case stop =>
    rintro V o hlt ⟨hc, hd, hb⟩
    have hD : (V.putObj (W.heap.size + 1) o).heap[W.heap.size]? = some (.deferred (some [])) := (World.putObj_heap_other (by omega)).trans hd
    have hcc : ((V.putObj (W.heap.size + 1) o).putObj W.heap.size (.deferred none)).cell? ⟨w.heap.size, 0, none⟩ = some (.int .i64 c) := (cell_put (by show w.heap.size ≠ _; omega)).trans ((cell_put (by show w.heap.size ≠ _; omega)).trans hc)
    have hfin : Below w.heap.size w ((V.putObj (W.heap.size + 1) o).putObj W.heap.size (.deferred none)) := (((Kpt.of (p := fun _ => False) hb).putObj (Or.inl (by omega)) o).putObj (Or.inl (by omega)) _).below (Nat.le_refl _) (fun k h => h.elim)
    gi_wp2
    refine ⟨by simp, .inl ⟨_, _, rfl, run_takeDeferred hD, ?_⟩⟩
    refine ⟨.int .i64 c, ?_, rfl, hfin⟩
    simp [results, Tryz.results25, go_sem, hcc]
def goA : List Nd → Bool
  | [] => true
  | _ :: _ => false
/-- The outermost of a list. -/
def hit : List Nd → Option Nat
  | [] => none
  | x :: _ => some x.b
theorem fst_goA : ∀ l : List Nd, (fst goA l = none ∧ hit l = none) ∨ ∃ x k, fst goA l = some (x :: k) ∧ hit l = some x.b
  | [] => Or.inl ⟨rfl, rfl⟩
  | x :: l => Or.inr ⟨x, l, rfl, rfl⟩
def ptr : Option Nat → Value
  | some b => .pointer (some ⟨b, 0, none⟩)
  | none => .pointer none
set_option maxHeartbeats 1000000 in
set_option maxRecDepth 100000 in
theorem outer_any (l0 : List Nd) (c : Int) (w : World) (hl : l0.length ≤ 100) (hL : Lie w l0 c) (hg : Ety w) :
    Calls Tryz.prog 64 #[val l0 c] w fun e w' => e = .returned (ptr (hit l0)) ∧ Below w.heap.size w w' := by
  obtain ⟨T0, v0, hv0⟩ := val_shape l0 c
  have HV : Hid (val l0 c = .iface T0 v0) := hv0
  rw [hv0]
  clear hv0
  have hx : ∀ x ∈ l0, x.b < w.heap.size := fun x h => hL.lt x h
  refine (callsIn_wide (n := 9)).1 ?_
  refine callsIn_of_wp_marks Tryz.func64 rfl trivial ?_ rfl
  simp only [Tryz.ntmps64, List.size_toArray, List.length_cons, List.length_nil, Nat.reduceAdd, Nat.reduceSub, Array.replicate_succ, Array.replicate_zero, List.push_toArray, List.append_toArray, List.nil_append, List.cons_append]
  gi_wp2_with (first | (refine ⟨trivial, ?_⟩; gi_at_call 46; refine (callsIn_wide.2 (each_mk _ _ _)).mono ?_; rintro e w1 ⟨rfl, hw⟩; subst w1) | fail)
  have hu : Up w.heap.size w (((w.alloc (.cells #[.pointer none] 81)).alloc (.cells #[.pointer none] 81)).alloc (.cells #[.iface T0 v0] 30)) := ((((Up.refl w).alloc _).alloc _).alloc _)
  have hsz : ((((w.alloc (.cells #[.pointer none] 81)).alloc (.cells #[.pointer none] 81)).alloc (.cells #[.iface T0 v0] 30))).heap.size = w.heap.size + 3 := by simp
  have hb0 : Bk (((w.alloc (.cells #[.pointer none] 81)).alloc (.cells #[.pointer none] 81)).alloc (.cells #[.iface T0 v0] 30)) (w.heap.size) #[.pointer none] 81 := by
    have := (((Bk.new w #[.pointer none] 81).alloc (.cells #[.pointer none] 81)).alloc (.cells #[.iface T0 v0] 30))
    simpa using this
  have hb1 : Bk (((w.alloc (.cells #[.pointer none] 81)).alloc (.cells #[.pointer none] 81)).alloc (.cells #[.iface T0 v0] 30)) (w.heap.size + 1) #[.pointer none] 81 := by
    have := ((Bk.new (w.alloc (.cells #[.pointer none] 81)) #[.pointer none] 81).alloc (.cells #[.iface T0 v0] 30))
    simpa using this
  have hb2 : Bk (((w.alloc (.cells #[.pointer none] 81)).alloc (.cells #[.pointer none] 81)).alloc (.cells #[.iface T0 v0] 30)) (w.heap.size + 1 + 1) #[.iface T0 v0] 30 := by
    have := (Bk.new ((w.alloc (.cells #[.pointer none] 81)).alloc (.cells #[.pointer none] 81)) #[.iface T0 v0] 30)
    simpa using this
  generalize (((w.alloc (.cells #[.pointer none] 81)).alloc (.cells #[.pointer none] 81)).alloc (.cells #[.iface T0 v0] 30)) = W at *
  refine range_gen (α := Nat) (gf := 74) (lb := #[.pointer (some ⟨w.heap.size + 1 + 1, 0, none⟩)]) rfl enterEachA
    (fun x => #[.iface 124 (.agg #[.iface 81 (.pointer (some ⟨x, 0, none⟩))])]) (fun _ => rfl)
    (fun x V => Kpt W.heap.size (fun _ => False) W V)
    (fun x V V' => False)
    (fun x V V' => V'.heap[W.heap.size + 1]? = V.heap[W.heap.size + 1]? ∧ V'.cell? ⟨w.heap.size, 0, none⟩ = some (.pointer (some ⟨x, 0, none⟩)) ∧ Kpt V.heap.size (fun k => k = w.heap.size ∨ k = w.heap.size + 1) V V')
    (fun x => { tmps := #[.iface T0 v0, undef, .pointer (some ⟨w.heap.size, 0, none⟩), .pointer (some ⟨w.heap.size + 1, 0, none⟩), .iface 124 (.agg #[.iface 81 (.pointer (some ⟨x, 0, none⟩))]), .iface T0 v0, .func (.func 74) #[] #[.pointer (some ⟨w.heap.size + 1 + 1, 0, none⟩)], .iface 124 (.agg #[.iface 81 (.pointer (some ⟨x, 0, none⟩))]), undef, undef, undef, undef], defers := [] })
    ?ok (fun x V V' h => h.elim) (fun x V V' h => h.1) ?assign ?body
    (fun V => hit l0 = none ∧ Bk V (w.heap.size) #[.pointer none] 81 ∧ V.heap[W.heap.size]? = some (.deferred (some [])) ∧ Below w.heap.size w V)
    (fun V => ∃ b, hit l0 = some b ∧ V.cell? ⟨w.heap.size, 0, none⟩ = some (.pointer (some ⟨b, 0, none⟩)) ∧ V.heap[W.heap.size]? = some (.deferred (some [])) ∧ Below w.heap.size w V) ?iter ?done ?stop
  case assign =>
    intro x V K hK
    gi_wp2
    exact hK
  case ok =>
    exact fun _ V o h => h.putObj (Or.inl (Nat.le_succ _)) o
  case body =>
    rintro x V hok hlt
    have bel : Below W.heap.size W V := hok.below (Nat.le_refl _) (fun k h => h.elim)
    have b0 := hb0.stay bel
    have b1 := hb1.stay bel
    have HE : Hid (Ety V) := (hg.stay hu.1).stay bel
    have HT : Hid (Tgt V ⟨w.heap.size + 1, 0, none⟩) := ⟨b1.lt, b1.frozen 0, _, b1.cell 0 rfl⟩
    have HB : Hid (Bk V (w.heap.size) #[.pointer none] 81 ∧ Bk V (w.heap.size + 1) #[.pointer none] 81 ∧ W.heap.size + 1 < V.heap.size) := ⟨b0, b1, hlt⟩
    clear b0 b1 bel hok hlt hb0 hb1 hb2
    gi_wp2_with (first | (refine ⟨trivial, ?_⟩; gi_at_call 47; refine (CallsIn.inRound _ (callsIn_wide.2 (AsA x ⟨w.heap.size + 1, 0, none⟩ V HE.out HT.out))).mono ?_; rintro e V1 ⟨rfl, V2, hb, rfl⟩; have q1 := ((HB.out.2.1.stay hb).set 0 (.pointer (some ⟨x, 0, none⟩))).cell 0 rfl; have q2 := ((HB.out.1.stay hb).other (q := ⟨w.heap.size + 1, 0, none⟩) (by simp) (.pointer (some ⟨x, 0, none⟩))).cell 0 rfl; have q3 := ((HB.out.1.stay hb).other (q := ⟨w.heap.size + 1, 0, none⟩) (by simp) (.pointer (some ⟨x, 0, none⟩))).frozen 0; have HB2 : Hid (Below V.heap.size V V2) := hb; clear hb) | fail)
    refine ⟨?_, World.cell?_setCell_same' _ _ _ (by rw [q2]; rfl), ((Kpt.of HB2.out).setCell (Or.inr (Or.inr rfl)) _).setCell (Or.inr (Or.inl rfl)) _⟩
    rw [Below.heap_setCell _ _ _ _ (by simp; omega), Below.heap_setCell _ _ _ _ (by simp; omega)]
    exact HB2.out.block _ HB.out.2.2
  case iter =>
    intro W1 rec busy don hB hs1 hD hR hY
    have he : W1.cell? ⟨w.heap.size + 1 + 1, 0, none⟩ = some (val l0 c) := by rw [HV.out]; exact (hb2.stay hB).cell 0 rfl
    refine callsIn_wide.2 ((eachA_any l0 c (W.heap.size + 1) 9 ⟨w.heap.size + 1 + 1, 0, none⟩ W1.heap.size (fun _ => False) goA (fun _ => True)
      (fun k V => ∃ x k', k = x :: k' ∧ V.heap[W.heap.size + 1]? = some don ∧ V.cell? ⟨w.heap.size, 0, none⟩ = some (.pointer (some ⟨x.b, 0, none⟩)) ∧ V.heap[W.heap.size]? = some (.deferred (some [])) ∧ Below w.heap.size w V) W1 he hl ((hL.stay hu.1).stay hB) (Nat.le_refl _)
      (fun x h => ⟨by have := hx x h; omega, fun h => h⟩) (fun k h => h.elim) (fun _ _ _ h => h) trivial rfl ?_).mono ?_)
    · intro x k _ V hV _
      have hrec : V.heap[W.heap.size + 1]? = some rec := (hV.block _ (by omega) (fun h => h)).trans hR
      show YieldAt _ _ _ _ #[.iface _ (.agg #[.iface _ (.pointer (some ⟨x.b, 0, none⟩))])] _ _
      refine (hY x.b V ((Kpt.of hB).trans (hV.mono (by omega))) hrec).mono ?_
      rintro e V' (⟨_, V3, h3, _⟩ | ⟨rfl, V3, ⟨h3, h4, h5⟩, rfl⟩)
      · exact h3.elim
      · have hk := (hV.wide (q := (fun k => k = w.heap.size ∨ k = w.heap.size + 1)) (fun k h => h.elim)).round (y := don) h5 (Nat.le_refl _)
        refine Or.inr ⟨rfl, rfl, x, k, rfl, World.putObj_heap_same (lt_put (lt_of_heap hrec) h5), ?_, ?_, ?_⟩
        · exact (cell_put (by show w.heap.size ≠ _; omega)).trans h4
        · exact (hk.block _ (by omega) (by omega)).trans hD
        · exact (hu.1.trans (hB.mono (by omega))).trans (hk.below (by omega) (by intro k h; omega))
    · rintro e V ⟨hv', (⟨h1, h2⟩ | ⟨k, hk, x, k', rfl, h2, h3⟩)⟩
      · rcases fst_goA l0 with ⟨_, hh⟩ | ⟨y, k, h0, _⟩
        · have bel := h2.below (Nat.le_refl _) (fun k h => h.elim)
          exact ⟨hv', Or.inl ⟨(bel.block _ (by omega)).trans hR, hh, (hb0.stay hB).stay bel, (bel.block _ (by omega)).trans hD, (hu.1.trans (hB.mono (by omega))).trans (bel.mono (by omega))⟩⟩
        · rw [h1] at h0; cases h0
      · rcases fst_goA l0 with ⟨h0, hh⟩ | ⟨y, k, h0, hh⟩
        · rw [hk] at h0; cases h0
        · rw [hk] at h0; cases h0
          exact ⟨hv', Or.inr ⟨h2, x.b, hh, h3⟩⟩
  case done =>
    rintro V o hlt ⟨hcn, hk, hd, hb⟩
    have k0 : Bk (V.putObj (W.heap.size + 1) o) (w.heap.size) #[.pointer none] 81 := hk.put (by omega)
    have k1 := k0.cell 0 rfl
    have k2 := k0.frozen 0
    have k3 := (k0.set 0 (.pointer none))
    have hD : ((V.putObj (W.heap.size + 1) o).setCell ⟨w.heap.size, 0, none⟩ (.pointer none)).heap[W.heap.size]? = some (.deferred (some [])) := (Below.heap_setCell _ _ _ _ (by show W.heap.size ≠ w.heap.size; omega)).trans ((World.putObj_heap_other (by omega)).trans hd)
    have hcc : (((V.putObj (W.heap.size + 1) o).setCell ⟨w.heap.size, 0, none⟩ (.pointer none)).putObj W.heap.size (.deferred none)).cell? ⟨w.heap.size, 0, none⟩ = some (.pointer none) := (cell_put (by show w.heap.size ≠ _; omega)).trans (k3.cell 0 rfl)
    have hfin : Below w.heap.size w (((V.putObj (W.heap.size + 1) o).setCell ⟨w.heap.size, 0, none⟩ (.pointer none)).putObj W.heap.size (.deferred none)) := ((((Kpt.of (p := fun _ => False) hb).putObj (Or.inl (by omega)) o).setCell (q := ⟨w.heap.size, 0, none⟩) (Or.inl (by show _ ≤ w.heap.size; omega)) _).putObj (Or.inl (by omega)) _).below (Nat.le_refl _) (fun k h => h.elim)
    clear k0 k3 hk hsz
    gi_wp2
    refine ⟨by simp, .inl ⟨_, _, rfl, run_takeDeferred hD, ?_⟩⟩
    refine ⟨.pointer none, ?_, by rw [hcn]; rfl, hfin⟩
    simp [results, Tryz.results64, go_sem, hcc]
  case stop =>
    rintro V o hlt ⟨b, hcs, hc, hd, hb⟩
    have hD : (V.putObj (W.heap.size + 1) o).heap[W.heap.size]? = some (.deferred (some [])) := (World.putObj_heap_other (by omega)).trans hd
    have hcc : ((V.putObj (W.heap.size + 1) o).putObj W.heap.size (.deferred none)).cell? ⟨w.heap.size, 0, none⟩ = some (.pointer (some ⟨b, 0, none⟩)) := (cell_put (by show w.heap.size ≠ _; omega)).trans ((cell_put (by show w.heap.size ≠ _; omega)).trans hc)
    have hfin : Below w.heap.size w ((V.putObj (W.heap.size + 1) o).putObj W.heap.size (.deferred none)) := (((Kpt.of (p := fun _ => False) hb).putObj (Or.inl (by omega)) o).putObj (Or.inl (by omega)) _).below (Nat.le_refl _) (fun k h => h.elim)
    gi_wp2
    refine ⟨by simp, .inl ⟨_, _, rfl, run_takeDeferred hD, ?_⟩⟩
    refine ⟨.pointer (some ⟨b, 0, none⟩), ?_, by rw [hcs]; rfl, hfin⟩
    simp [results, Tryz.results64, go_sem, hcc]
end Go.Proofs.YtgijihfijoiafaaGreatDoor
/- Which words were there: a set in a map; set.add. -/
namespace Go.Proofs.YtgijihfijoiafaaGreatDoor
set_option linter.unusedVariables false
open Go.RowKit Go.ChangeShapes Go.Maps

theorem lawS : Keyed Tryz.prog 9 := string_keyed Tryz.underlying9
theorem zeroE (w : World) : (zeroValue 100).run Tryz.prog w = .ok (.agg #[]) w := by kernel_rfl
/-- These words lie in a map. -/
def Bag (w : World) (b n : Nat) (L : List ByteArray) : Prop := ∃ D : DataW Unit, w.ownsMap Tryz.prog 9 unitElem b n D ∧ ∀ s : ByteArray, Maps.has D (.string s.data.toList) = true ↔ s ∈ L
theorem Bag.lt {w : World} {b n : Nat} {L : List ByteArray} (h : Bag w b n L) : b < w.heap.size := by obtain ⟨D, h, _⟩ := h; exact h.lt
theorem Bag.made (w : World) : Bag (w.alloc (.map #[] 0)) w.heap.size 0 [] := ⟨.map [], World.ownsMap_made w _ _ _, fun s => by simp [Maps.has]⟩
theorem Bag.block {w w' : World} {b n : Nat} {L : List ByteArray} (h : Bag w b n L) (e : w'.heap[b]? = w.heap[b]?) : Bag w' b n L := by
  obtain ⟨D, ⟨es, clock, hb, r⟩, hs⟩ := h
  exact ⟨D, ⟨es, clock, e.trans hb, r⟩, hs⟩
theorem Bag.stay {w w' : World} {b n : Nat} {L : List ByteArray} (h : Bag w b n L) (hb : Below w.heap.size w w') : Bag w' b n L := h.block (hb.block b h.lt)
theorem Bag.kept {w w' : World} {b n m : Nat} {p : Nat → Prop} {L : List ByteArray} (h : Bag w b n L) (k : Kpt m p w w') (hm : b < m) (hp : ¬ p b) : Bag w' b n L := h.block (k.block b hm hp)
theorem str_inj {s t : ByteArray} (h : (Lit.string s.data.toList) = .string t.data.toList) : s = t := by
  injection h with h
  have : s.data = t.data := Array.toList_inj.1 h
  cases s; cases t; simp_all
theorem keyS (s : ByteArray) (hs : s.size ≤ 9223372036854775807) : keyOf Tryz.prog 9 (.string s) = some (.string s.data.toList) := by
  exact WideMaps.keyOf_string_mk Tryz.underlying9 hs
theorem kpt_grown {m : Nat} {p : Nat → Prop} {w w1 w2 : World} {b : Nat} (h : Kpt m p w w1) (o : Obj) (g : (w1.alloc o).grownBy w2 (some b)) (hm : m ≤ w1.heap.size) (hp : p b) : Kpt m p w w2 := by
  refine (h.alloc hm o).trans ⟨g.os, g.tape, g.output, g.size, fun k hk hn => ?_⟩
  have h1 := h.size
  refine g.block k (by simp; omega) ?_
  intro e
  cases e
  exact hn hp
theorem add_old (b n : Nat) (L : List ByteArray) (s : ByteArray) (w : World) (hs : s.size ≤ 9223372036854775807) (h : Bag w b n L) (hm : s ∈ L) :
    Calls Tryz.prog 32 #[.map (some b), .string s] w fun e w' => e = .returned (.bool false) ∧ Below w.heap.size w w' := by
  obtain ⟨D, hown, hD⟩ := h
  have hk := keyS s hs
  have hh : Maps.has D (.string s.data.toList) = true := (hD s).2 hm
  clear hD hm
  go_enter Tryz.func32, Tryz.ntmps32
  go_wp2_with (first
    | (at_lookup; refine wpList_lookup_own_unit _ rfl _ _ 63 rfl 9 100 lawS Tryz.underlying63 (zeroE _) b n _ rfl hown _ _ rfl hk ?_)
    | go_in)
  all_goals go_ret
  exact ⟨rfl, (Below.refl _ _).alloc (Nat.le_refl _) _⟩
theorem add_new (b n : Nat) (L : List ByteArray) (s : ByteArray) (w : World) (hs : s.size ≤ 9223372036854775807) (hn : n ≤ 100000) (h : Bag w b n L) (hm : s ∉ L) :
    Calls Tryz.prog 32 #[.map (some b), .string s] w fun e w' => e = .returned (.bool true) ∧ Bag w' b (n + 1) (s :: L) ∧ Kpt w.heap.size (· = b) w w' := by
  obtain ⟨D, hown, hD⟩ := h
  have hk := keyS s hs
  have hh : Maps.has D (.string s.data.toList) = false := by cases e : Maps.has D (.string s.data.toList); rfl; exact absurd ((hD s).1 e) hm
  have HD : Hid (∀ s : ByteArray, Maps.has D (.string s.data.toList) = true ↔ s ∈ L) := hD
  have HM : Hid (IsMap D) := hown.isMap
  clear hD hm
  go_enter Tryz.func32, Tryz.ntmps32
  go_wp2_with (first
    | (at_lookup; refine wpList_lookup_own_unit _ rfl _ _ 63 rfl 9 100 lawS Tryz.underlying63 (zeroE _) b n _ rfl hown _ _ rfl hk ?_)
    | (at_mapUpdate; refine wpList_mapUpdate_own _ rfl _ _ _ 63 rfl 9 100 lawS Tryz.underlying63 (unitElem (H := Unit)) b n _ rfl (hown.alloc _) (by unfold maxLen; omega) _ _ _ rfl rfl hk _ [] unitElem_mk ?_; intro w1 hown1 hgrow1)
    | go_in)
  all_goals go_ret
  refine ⟨rfl, ⟨_, hown1, fun t => ?_⟩, ?_⟩
  · by_cases e : t = s
    · subst e
      rw [has_put_same HM.out (by show WideAt.IsKeyLit (.string _); trivial)]
      simp
    · rw [has_put_other (fun h => e (str_inj h))]
      rw [HD.out t]
      simp [e]
  · exact kpt_grown (Kpt.refl _ _ _) _ hgrow1 (Nat.le_refl _) rfl
end Go.Proofs.YtgijihfijoiafaaGreatDoor
