/- errors.Is of one error that stands alone; fault.Is; outermost of none. -/
import Derived.Test.YthdjadkdjljciaaDoordNil
namespace Go.Proofs.YthdjadkdjljciaaDoor
set_option linter.unusedVariables false
open Go.RowKit Go.ChangeShapes Go.Shelf Go.Stop
attribute [local go_sem] Oper.semAt_some

theorem Tryd.typeOfN0 (v : Value) (w : World) : (callFunc 21 #[.iface 27 v]).run Tryd.prog w = .ok (.value (.iface 81 (.agg #[.pointer (some ⟨4, 27, none⟩)]))) w := by kernel_rfl
theorem Tryd.methComparable (h : Value) (w : World) : (Go.method 262 81 (.agg #[h]) "Comparable").run Tryd.prog w = .ok (93, .agg #[h]) w := by kernel_rfl
theorem Tryd.comparableN (w : World) : (callFunc 93 #[.agg #[.pointer (some ⟨4, 27, none⟩)]]).run Tryd.prog w = .ok (.value (.bool true)) w := by kernel_rfl
theorem Tryd.hasIsP (v : Value) (xT : TypeId) (w : World) : (Instr.typeAssert (.iface 78 v) xT 83 true).run Tryd.prog w = .ok (.tuple #[.iface 78 v, .bool true]) w := run_typeAssert_hasB Tryd.underlying83 (by kernel_rfl) v xT w
theorem Tryd.noUnwrapP (v : Value) (xT : TypeId) (w : World) : (Instr.typeAssert (.iface 78 v) xT 85 true).run Tryd.prog w = .ok (.tuple #[.nilIface, .bool false]) w := run_typeAssert_lacksB Tryd.underlying85 (by kernel_rfl) (by kernel_rfl) v xT w
theorem Tryd.noManyP (v : Value) (xT : TypeId) (w : World) : (Instr.typeAssert (.iface 78 v) xT 86 true).run Tryd.prog w = .ok (.tuple #[.nilIface, .bool false]) w := run_typeAssert_lacksB Tryd.underlying86 (by kernel_rfl) (by kernel_rfl) v xT w
theorem Tryd.methIsP (v : Value) (w : World) : (Go.method 262 78 (.agg #[v]) "Is").run Tryd.prog w = .ok (88, .agg #[v]) w := by kernel_rfl
theorem enterPI1 (cap : Array Value) (w : World) : (callFunc 90 cap).run Tryd.prog w = .ok (.enter 90 cap) w := by kernel_rfl
theorem same_nums (c n : Int) (w : World) :
    Calls Tryd.prog 46 #[.iface 27 (.int .i64 c), .iface 27 (.int .i64 n)] w fun e w' => e = .returned (.bool (c == n)) ∧ Below w.heap.size w w' :=
  same_any _ _ _ _ _ w fun w' _ => eq_nos 9998 c n w'
theorem partIs1 (c : Int) (p q : Addr) (w : World) (hp : w.cell? p = some (.iface 27 (.int .i64 c))) (hpo : p.off = 0) (hps : p.spot = none) :
    Calls Tryd.prog 90 #[.pointer (some p), .pointer (some q)] w fun e w' => e = .returned (.bool false) ∧ w' = w := by
  obtain ⟨b, o, s⟩ := p
  simp only at hpo hps
  subst hpo hps
  have h := Tryd.noIsN
  go_enter Tryd.func90, Tryd.ntmps90
  go_wp2
  go_ret
  exact ⟨rfl, rfl⟩
theorem partIs (c n : Int) (w : World) :
    Calls Tryd.prog 88 #[.agg #[.iface 27 (.int .i64 c)], .iface 27 (.int .i64 n)] w fun e w' => e = .returned (.bool (c == n)) ∧ Below w.heap.size w w' := by
  have hmf : ∀ (fn : Fn) (first cap : Array Value) (w : World), (Instr.makeFunc fn first cap).run Tryd.prog w = .ok (.func fn first cap) w := fun _ _ _ _ => rfl
  have HU : Hid (Up w.heap.size w ((w.alloc (.cells #[.iface 27 (.int .i64 c)] 78)).alloc (.cells #[.iface 27 (.int .i64 n)] 25))) := ((Up.refl w).alloc _).alloc _
  have hb0 : Bk ((w.alloc (.cells #[.iface 27 (.int .i64 c)] 78)).alloc (.cells #[.iface 27 (.int .i64 n)] 25)) w.heap.size #[.iface 27 (.int .i64 c)] 78 := (Bk.new w _ _).alloc _
  have cs := same_nums c n ((w.alloc (.cells #[.iface 27 (.int .i64 c)] 78)).alloc (.cells #[.iface 27 (.int .i64 n)] 25))
  have HB : Hid (Bk ((w.alloc (.cells #[.iface 27 (.int .i64 c)] 78)).alloc (.cells #[.iface 27 (.int .i64 n)] 25)) w.heap.size #[.iface 27 (.int .i64 c)] 78) := hb0
  clear hb0
  go_enter Tryd.func88, Tryd.ntmps88
  cases hcn : (c == n)
  · rw [hcn] at cs
    clear hcn
    go_wp2_with fail
    refine cs.mono ?_
    rintro e w1 ⟨rfl, hb⟩
    have HU1 : Hid (Up w.heap.size w w1) := HU.out.stay hb
    have ch := holds_bel 90 #[.pointer (some ⟨w.heap.size, 0, none⟩), .pointer (some ⟨w.heap.size + 1, 0, none⟩)] false w1
      ((partIs1 c ⟨w.heap.size, 0, none⟩ ⟨w.heap.size + 1, 0, none⟩ _ (((HB.out.stay hb).alloc _).cell 0 rfl) rfl rfl).mono fun e w' ⟨he, hw⟩ => ⟨he, by subst hw; exact Below.refl _ _⟩) (enterPI1 _)
    clear hb cs HU HB
    go_wp2_with fail
    refine ch.mono ?_
    rintro e w2 ⟨rfl, hb2⟩
    have HU2 : Hid (Up w.heap.size w w2) := HU1.out.stay hb2
    clear ch hb2
    go_wp2
    go_ret
    exact ⟨rfl, HU2.out.1⟩
  · rw [hcn] at cs
    clear hcn
    go_wp2_with fail
    refine cs.mono ?_
    rintro e w1 ⟨rfl, hb⟩
    have HU1 : Hid (Up w.heap.size w w1) := HU.out.stay hb
    clear hb cs HU HB
    go_wp2
    go_ret
    exact ⟨rfl, HU1.out.1⟩
theorem is1P (c n : Int) (w : World) :
    Calls Tryd.prog 22 #[.iface 78 (.agg #[.iface 27 (.int .i64 c)]), .iface 27 (.int .i64 n), .bool true] w fun e w' => e = .returned (.bool (c == n)) ∧ Below w.heap.size w w' := by
  have hq := fun (w : World) => run_eql_iface_types (P := Tryd.prog) 78 27 (.agg #[.iface 27 (.int .i64 c)]) (.int .i64 n) Tryd.underlying25 (by decide) w
  have hgd : ∀ a b, (eqGuard .eql 25 a b (.iface 78 (.agg #[.iface 27 (.int .i64 c)])) (.iface 27 (.int .i64 n))) = pure () := fun a b => rfl
  have a1 := Tryd.hasIsP
  have a2 := Tryd.methIsP
  have a3 := Tryd.noUnwrapP
  have a4 := Tryd.noManyP
  have cp := partIs c n w
  generalize (c == n) = r at *
  go_enter Tryd.func22, Tryd.ntmps22
  go_wp2
  go_loopg [0] 1 (fun g err wr => err = .iface 78 (.agg #[.iface 27 (.int .i64 c)]) ∧ Hid (wr = w))
  case atStart => exact ⟨rfl, rfl⟩
  case round =>
    obtain ⟨rfl, HW⟩ := hrel
    obtain rfl := HW.out
    go_wp2_with fail
    refine cp.mono ?_
    rintro e w1 ⟨rfl, hb⟩
    have HB : Hid (Below wr.heap.size wr w1) := hb
    clear hb cp
    cases r
    · go_wp2
      go_ret
      exact ⟨rfl, HB.out⟩
    · go_wp2
      go_ret
      exact ⟨rfl, HB.out⟩
theorem IsP (c n : Int) (w : World) :
    Calls Tryd.prog 13 #[.iface 78 (.agg #[.iface 27 (.int .i64 c)]), .iface 27 (.int .i64 n)] w fun e w' => e = .returned (.bool (c == n)) ∧ Below w.heap.size w w' := by
  have a1 := Tryd.typeOfN0
  have a2 := Tryd.methComparable
  have a3 := Tryd.comparableN
  have ci := is1P c n w
  generalize (c == n) = r at *
  go_enter Tryd.func13, Tryd.ntmps13
  go_wp2_with fail
  refine ci.mono ?_
  rintro e w1 ⟨rfl, hb⟩
  go_wp2
  go_ret
  exact ⟨rfl, hb⟩
set_option maxRecDepth 100000 in
theorem outer_nil (w : World) :
    Calls Tryd.prog 20 #[.nilIface] w fun e w' => e = .returned (.pointer none) ∧ Below w.heap.size w w' := by
  refine (callsIn_wide (n := 9)).1 ?_
  refine callsIn_of_wp_marks Tryd.func20 rfl trivial ?_ rfl
  simp only [Tryd.ntmps20, List.size_toArray, List.length_cons, List.length_nil, Nat.reduceAdd, Nat.reduceSub, Array.replicate_succ, Array.replicate_zero, List.push_toArray, List.append_toArray, List.nil_append, List.cons_append]
  gi_wp2_with (first | (refine ⟨trivial, ?_⟩; gi_at_call 33; refine (callsIn_wide.2 (each_mk_nil _)).mono ?_; rintro e w1 ⟨rfl, hw⟩; subst w1) | fail)
  have hu : Up w.heap.size w (((w.alloc (.cells #[.pointer none] 42)).alloc (.cells #[.pointer none] 42)).alloc (.cells #[.nilIface] 25)) := ((((Up.refl w).alloc _).alloc _).alloc _)
  have hsz : ((((w.alloc (.cells #[.pointer none] 42)).alloc (.cells #[.pointer none] 42)).alloc (.cells #[.nilIface] 25))).heap.size = w.heap.size + 3 := by simp
  have hb0 : Bk (((w.alloc (.cells #[.pointer none] 42)).alloc (.cells #[.pointer none] 42)).alloc (.cells #[.nilIface] 25)) (w.heap.size) #[.pointer none] 42 := by
    have := (((Bk.new w #[.pointer none] 42).alloc (.cells #[.pointer none] 42)).alloc (.cells #[.nilIface] 25))
    simpa using this
  have hb1 : Bk (((w.alloc (.cells #[.pointer none] 42)).alloc (.cells #[.pointer none] 42)).alloc (.cells #[.nilIface] 25)) (w.heap.size + 1) #[.pointer none] 42 := by
    have := ((Bk.new (w.alloc (.cells #[.pointer none] 42)) #[.pointer none] 42).alloc (.cells #[.nilIface] 25))
    simpa using this
  have hb2 : Bk (((w.alloc (.cells #[.pointer none] 42)).alloc (.cells #[.pointer none] 42)).alloc (.cells #[.nilIface] 25)) (w.heap.size + 1 + 1) #[.nilIface] 25 := by
    have := (Bk.new ((w.alloc (.cells #[.pointer none] 42)).alloc (.cells #[.pointer none] 42)) #[.nilIface] 25)
    simpa using this
  generalize (((w.alloc (.cells #[.pointer none] 42)).alloc (.cells #[.pointer none] 42)).alloc (.cells #[.nilIface] 25)) = W at *
  refine range_gen (α := Unit) (gf := 42) (lb := #[.pointer (some ⟨w.heap.size + 1 + 1, 0, none⟩)]) rfl enterEachA
    (fun x => #[.nilIface]) (fun _ => rfl)
    (fun x V => False)
    (fun x V V' => False)
    (fun x V V' => False)
    (fun x => { tmps := #[.nilIface, undef, .pointer (some ⟨w.heap.size, 0, none⟩), .pointer (some ⟨w.heap.size + 1, 0, none⟩), .nilIface, .nilIface, .func (.func 42) #[] #[.pointer (some ⟨w.heap.size + 1 + 1, 0, none⟩)], .nilIface, undef, undef, undef, undef], defers := [] })
    ?ok (fun x V V' h => h.elim) (fun x V V' h => h.elim) ?assign ?body
    (fun V => Bk V (w.heap.size) #[.pointer none] 42 ∧ V.heap[W.heap.size]? = some (.deferred (some [])) ∧ Below w.heap.size w V)
    (fun V => False) ?iter ?done ?stop
  case assign =>
    intro x V K hK
    gi_wp2
    exact hK
  case ok =>
    exact fun _ _ _ h => h
  case body =>
    exact fun _ _ h => h.elim
  case iter =>
    intro W1 rec busy don hB hs1 hD hR hY
    have he : W1.cell? ⟨w.heap.size + 1 + 1, 0, none⟩ = some .nilIface := (hb2.stay hB).cell 0 rfl
    refine callsIn_wide.2 ((eachA_nil (W.heap.size + 1) ⟨w.heap.size + 1 + 1, 0, none⟩ W1 he).mono ?_)
    rintro e V ⟨hv', bel⟩
    exact ⟨hv', Or.inl ⟨(bel.block _ (by omega)).trans hR, (hb0.stay hB).stay bel, (bel.block _ (by omega)).trans hD, (hu.1.trans (hB.mono (by omega))).trans (bel.mono (by omega))⟩⟩
  case done =>
    rintro V o hlt ⟨hk, hd, hb⟩
    have k0 : Bk (V.putObj (W.heap.size + 1) o) (w.heap.size) #[.pointer none] 42 := hk.put (by omega)
    have k1 := k0.cell 0 rfl
    have k2 := k0.frozen 0
    have k3 := (k0.set 0 (.pointer none))
    have hD : ((V.putObj (W.heap.size + 1) o).setCell ⟨w.heap.size, 0, none⟩ (.pointer none)).heap[W.heap.size]? = some (.deferred (some [])) := (Below.heap_setCell _ _ _ _ (by show W.heap.size ≠ w.heap.size; omega)).trans ((World.putObj_heap_other (by omega)).trans hd)
    have hcc : (((V.putObj (W.heap.size + 1) o).setCell ⟨w.heap.size, 0, none⟩ (.pointer none)).putObj W.heap.size (.deferred none)).cell? ⟨w.heap.size, 0, none⟩ = some (.pointer none) := (cell_put (by show w.heap.size ≠ _; omega)).trans (k3.cell 0 rfl)
    have hfin : Below w.heap.size w (((V.putObj (W.heap.size + 1) o).setCell ⟨w.heap.size, 0, none⟩ (.pointer none)).putObj W.heap.size (.deferred none)) := ((((Kpt.of (p := fun _ => False) hb).putObj (Or.inl (by omega)) o).setCell (q := ⟨w.heap.size, 0, none⟩) (Or.inl (by show _ ≤ w.heap.size; omega)) _).putObj (Or.inl (by omega)) _).below (Nat.le_refl _) (fun k h => h.elim)
    clear k0 k3 hk hsz
    gi_wp2
    refine ⟨by simp, .inl ⟨_, _, rfl, run_takeDeferred hD, ?_⟩⟩
    refine ⟨.pointer none, ?_, rfl, hfin⟩
    simp [results, Tryd.results20, go_sem, hcc]
  case stop =>
    exact fun _ _ _ h => h.elim
set_option maxRecDepth 100000 in
theorem fis_nil (n : Int) (w : World) :
    Calls Tryd.prog 10 #[.nilIface, .int .i64 n] w fun e w' => e = .returned (.bool false) ∧ Below w.heap.size w w' := by
  refine (callsIn_wide (n := 9)).1 ?_
  refine callsIn_of_wp_marks Tryd.func10 rfl trivial ?_ rfl
  simp only [Tryd.ntmps10, List.size_toArray, List.length_cons, List.length_nil, Nat.reduceAdd, Nat.reduceSub, Array.replicate_succ, Array.replicate_zero, List.push_toArray, List.append_toArray, List.nil_append, List.cons_append]
  gi_wp2_with (first | (refine ⟨trivial, ?_⟩; gi_at_call 19; refine (callsIn_wide.2 (each_mkN_nil _)).mono ?_; rintro e w1 ⟨rfl, hw⟩; subst w1) | fail)
  have hu : Up w.heap.size w (((w.alloc (.cells #[.int .i64 n] 27)).alloc (.cells #[.bool false] 4)).alloc (.cells #[.nilIface] 25)) := ((((Up.refl w).alloc _).alloc _).alloc _)
  have hsz : ((((w.alloc (.cells #[.int .i64 n] 27)).alloc (.cells #[.bool false] 4)).alloc (.cells #[.nilIface] 25))).heap.size = w.heap.size + 3 := by simp
  have hb0 : Bk (((w.alloc (.cells #[.int .i64 n] 27)).alloc (.cells #[.bool false] 4)).alloc (.cells #[.nilIface] 25)) (w.heap.size) #[.int .i64 n] 27 := by
    have := (((Bk.new w #[.int .i64 n] 27).alloc (.cells #[.bool false] 4)).alloc (.cells #[.nilIface] 25))
    simpa using this
  have hb1 : Bk (((w.alloc (.cells #[.int .i64 n] 27)).alloc (.cells #[.bool false] 4)).alloc (.cells #[.nilIface] 25)) (w.heap.size + 1) #[.bool false] 4 := by
    have := ((Bk.new (w.alloc (.cells #[.int .i64 n] 27)) #[.bool false] 4).alloc (.cells #[.nilIface] 25))
    simpa using this
  have hb2 : Bk (((w.alloc (.cells #[.int .i64 n] 27)).alloc (.cells #[.bool false] 4)).alloc (.cells #[.nilIface] 25)) (w.heap.size + 1 + 1) #[.nilIface] 25 := by
    have := (Bk.new ((w.alloc (.cells #[.int .i64 n] 27)).alloc (.cells #[.bool false] 4)) #[.nilIface] 25)
    simpa using this
  generalize (((w.alloc (.cells #[.int .i64 n] 27)).alloc (.cells #[.bool false] 4)).alloc (.cells #[.nilIface] 25)) = W at *
  refine range_gen (α := Unit) (gf := 28) (lb := #[.pointer (some ⟨w.heap.size + 1 + 1, 0, none⟩)]) rfl enterEachN
    (fun x => #[.nilIface]) (fun _ => rfl)
    (fun x V => False)
    (fun x V V' => False)
    (fun x V V' => False)
    (fun x => { tmps := #[.nilIface, .int .i64 n, undef, .pointer (some ⟨w.heap.size, 0, none⟩), .pointer (some ⟨w.heap.size + 1, 0, none⟩), .nilIface, .nilIface, .func (.func 28) #[] #[.pointer (some ⟨w.heap.size + 1 + 1, 0, none⟩)], .nilIface, undef, undef, undef, undef], defers := [] })
    ?ok (fun x V V' h => h.elim) (fun x V V' h => h.elim) ?assign ?body
    (fun V => Bk V (w.heap.size + 1) #[.bool false] 4 ∧ V.heap[W.heap.size]? = some (.deferred (some [])) ∧ Below w.heap.size w V)
    (fun V => False) ?iter ?done ?stop
  case assign =>
    intro x V K hK
    gi_wp2
    exact hK
  case ok =>
    exact fun _ _ _ h => h
  case body =>
    exact fun _ _ h => h.elim
  case iter =>
    intro W1 rec busy don hB hs1 hD hR hY
    have he : W1.cell? ⟨w.heap.size + 1 + 1, 0, none⟩ = some .nilIface := (hb2.stay hB).cell 0 rfl
    refine callsIn_wide.2 ((eachN_nil (W.heap.size + 1) ⟨w.heap.size + 1 + 1, 0, none⟩ W1 he).mono ?_)
    rintro e V ⟨hv', bel⟩
    exact ⟨hv', Or.inl ⟨(bel.block _ (by omega)).trans hR, (hb1.stay hB).stay bel, (bel.block _ (by omega)).trans hD, (hu.1.trans (hB.mono (by omega))).trans (bel.mono (by omega))⟩⟩
  case done =>
    rintro V o hlt ⟨hk, hd, hb⟩
    have k0 : Bk (V.putObj (W.heap.size + 1) o) (w.heap.size + 1) #[.bool false] 4 := hk.put (by omega)
    have k1 := k0.cell 0 rfl
    have k2 := k0.frozen 0
    have k3 := (k0.set 0 (.bool false))
    have hD : ((V.putObj (W.heap.size + 1) o).setCell ⟨w.heap.size + 1, 0, none⟩ (.bool false)).heap[W.heap.size]? = some (.deferred (some [])) := (Below.heap_setCell _ _ _ _ (by show W.heap.size ≠ w.heap.size + 1; omega)).trans ((World.putObj_heap_other (by omega)).trans hd)
    have hcc : (((V.putObj (W.heap.size + 1) o).setCell ⟨w.heap.size + 1, 0, none⟩ (.bool false)).putObj W.heap.size (.deferred none)).cell? ⟨w.heap.size + 1, 0, none⟩ = some (.bool false) := (cell_put (by show w.heap.size + 1 ≠ _; omega)).trans (k3.cell 0 rfl)
    have hfin : Below w.heap.size w (((V.putObj (W.heap.size + 1) o).setCell ⟨w.heap.size + 1, 0, none⟩ (.bool false)).putObj W.heap.size (.deferred none)) := ((((Kpt.of (p := fun _ => False) hb).putObj (Or.inl (by omega)) o).setCell (q := ⟨w.heap.size + 1, 0, none⟩) (Or.inl (by show _ ≤ w.heap.size + 1; omega)) _).putObj (Or.inl (by omega)) _).below (Nat.le_refl _) (fun k h => h.elim)
    clear k0 k3 hk hsz
    gi_wp2
    refine ⟨by simp, .inl ⟨_, _, rfl, run_takeDeferred hD, ?_⟩⟩
    refine ⟨.bool false, ?_, rfl, hfin⟩
    simp [results, Tryd.results10, go_sem, hcc]
  case stop =>
    exact fun _ _ _ h => h.elim
def goI (b : Bool) : List Nd → Bool
  | [] => !b
  | _ :: _ => true
theorem fst_goI : ∀ l : List Nd, fst (goI true) l = some []
  | [] => rfl
  | x :: l => (fst_go rfl).trans (fst_goI l)
theorem fst_goIn : ∀ l : List Nd, fst (goI false) l = none
  | [] => rfl
  | x :: l => (fst_go rfl).trans (fst_goIn l)
set_option maxHeartbeats 1000000 in
set_option maxRecDepth 100000 in
theorem fis_any (l0 : List Nd) (c n : Int) (w : World) (hl : l0.length ≤ 100) (hL : Lie w l0 (some c)) :
    Calls Tryd.prog 10 #[val l0 (some c), .int .i64 n] w fun e w' => e = .returned (.bool (c == n)) ∧ Below w.heap.size w w' := by
  have hv : val l0 (some c) ≠ .nilIface := fun h => by rcases val_shape l0 (some c) with ⟨_, _, e⟩ | ⟨T, v, e⟩; cases e; rw [e] at h; cases h
  obtain ⟨T0, v0, hv0⟩ := (val_shape l0 (some c)).resolve_left (fun h => hv h.1)
  have HV : Hid (val l0 (some c) = .iface T0 v0) := hv0
  rw [hv0]
  clear hv0
  have hx : ∀ x ∈ l0, x.o = false → x.b < w.heap.size := fun x h xo => hL.lt x h xo
  refine (callsIn_wide (n := 9)).1 ?_
  refine callsIn_of_wp_marks Tryd.func10 rfl trivial ?_ rfl
  simp only [Tryd.ntmps10, List.size_toArray, List.length_cons, List.length_nil, Nat.reduceAdd, Nat.reduceSub, Array.replicate_succ, Array.replicate_zero, List.push_toArray, List.append_toArray, List.nil_append, List.cons_append]
  gi_wp2_with (first | (refine ⟨trivial, ?_⟩; gi_at_call 19; refine (callsIn_wide.2 (each_mkN _ _ _)).mono ?_; rintro e w1 ⟨rfl, hw⟩; subst w1) | fail)
  have hu : Up w.heap.size w (((w.alloc (.cells #[.int .i64 n] 27)).alloc (.cells #[.bool false] 4)).alloc (.cells #[.iface T0 v0] 25)) := ((((Up.refl w).alloc _).alloc _).alloc _)
  have hsz : ((((w.alloc (.cells #[.int .i64 n] 27)).alloc (.cells #[.bool false] 4)).alloc (.cells #[.iface T0 v0] 25))).heap.size = w.heap.size + 3 := by simp
  have hb0 : Bk (((w.alloc (.cells #[.int .i64 n] 27)).alloc (.cells #[.bool false] 4)).alloc (.cells #[.iface T0 v0] 25)) (w.heap.size) #[.int .i64 n] 27 := by
    have := (((Bk.new w #[.int .i64 n] 27).alloc (.cells #[.bool false] 4)).alloc (.cells #[.iface T0 v0] 25))
    simpa using this
  have hb1 : Bk (((w.alloc (.cells #[.int .i64 n] 27)).alloc (.cells #[.bool false] 4)).alloc (.cells #[.iface T0 v0] 25)) (w.heap.size + 1) #[.bool false] 4 := by
    have := ((Bk.new (w.alloc (.cells #[.int .i64 n] 27)) #[.bool false] 4).alloc (.cells #[.iface T0 v0] 25))
    simpa using this
  have hb2 : Bk (((w.alloc (.cells #[.int .i64 n] 27)).alloc (.cells #[.bool false] 4)).alloc (.cells #[.iface T0 v0] 25)) (w.heap.size + 1 + 1) #[.iface T0 v0] 25 := by
    have := (Bk.new ((w.alloc (.cells #[.int .i64 n] 27)).alloc (.cells #[.bool false] 4)) #[.iface T0 v0] 25)
    simpa using this
  generalize (((w.alloc (.cells #[.int .i64 n] 27)).alloc (.cells #[.bool false] 4)).alloc (.cells #[.iface T0 v0] 25)) = W at *
  refine range_gen (α := Unit) (gf := 28) (lb := #[.pointer (some ⟨w.heap.size + 1 + 1, 0, none⟩)]) rfl enterEachN
    (fun x => #[.iface 78 (.agg #[.iface 27 (.int .i64 c)])]) (fun _ => rfl)
    (fun x V => Kpt W.heap.size (fun _ => False) W V)
    (fun x V V' => (c == n) = false ∧ V'.heap[W.heap.size + 1]? = V.heap[W.heap.size + 1]? ∧ Kpt V.heap.size (fun _ => False) V V')
    (fun x V V' => (c == n) = true ∧ V'.heap[W.heap.size + 1]? = V.heap[W.heap.size + 1]? ∧ V'.cell? ⟨w.heap.size + 1, 0, none⟩ = some (.bool true) ∧ Kpt V.heap.size (fun k => k = w.heap.size + 1) V V')
    (fun x => { tmps := #[.iface T0 v0, .int .i64 n, undef, .pointer (some ⟨w.heap.size, 0, none⟩), .pointer (some ⟨w.heap.size + 1, 0, none⟩), .iface 78 (.agg #[.iface 27 (.int .i64 c)]), .iface T0 v0, .func (.func 28) #[] #[.pointer (some ⟨w.heap.size + 1 + 1, 0, none⟩)], .iface 78 (.agg #[.iface 27 (.int .i64 c)]), undef, undef, undef, undef], defers := [] })
    ?ok (fun x V V' h => h.2.1) (fun x V V' h => h.2.1) ?assign ?body
    (fun V => (c == n) = false ∧ Bk V (w.heap.size + 1) #[.bool false] 4 ∧ V.heap[W.heap.size]? = some (.deferred (some [])) ∧ Below w.heap.size w V)
    (fun V => (c == n) = true ∧ V.cell? ⟨w.heap.size + 1, 0, none⟩ = some (.bool true) ∧ V.heap[W.heap.size]? = some (.deferred (some [])) ∧ Below w.heap.size w V) ?iter ?done ?stop
  case assign =>
    intro x V K hK
    gi_wp2
    exact hK
  case ok =>
    exact fun _ V o h => h.putObj (Or.inl (Nat.le_succ _)) o
  case body =>
    rintro x V hok hlt
    have bel : Below W.heap.size W V := hok.below (Nat.le_refl _) (fun k h => h.elim)
    have b0 := hb0.stay bel
    have b1 := hb1.stay bel
    have q0 := b0.cell 0 rfl
    have ci := IsP c n V
    have HB : Hid (Bk V (w.heap.size + 1) #[.bool false] 4 ∧ W.heap.size + 1 < V.heap.size) := ⟨b1, hlt⟩
    clear b0 b1 bel hok hlt hb0 hb1 hb2
    have HSZ : Hid (W.heap.size = w.heap.size + 3) := hsz
    clear hsz
    cases hcn : (c == n)
    · rw [hcn] at ci
      have HCN : Hid ((c == n) = false) := hcn
      clear hcn
      gi_wp2_with (first | (refine ⟨trivial, ?_⟩; gi_at_call 13; refine (CallsIn.inRound _ (callsIn_wide.2 ci)).mono ?_; rintro e V1 ⟨rfl, hb⟩; have HB2 : Hid (Below V.heap.size V V1) := hb; clear hb) | fail)
      have hsz := HSZ.out
      exact ⟨HB2.out.block _ HB.out.2, Kpt.of HB2.out⟩
    · rw [hcn] at ci
      have HCN : Hid ((c == n) = true) := hcn
      clear hcn
      gi_wp2_with (first | (refine ⟨trivial, ?_⟩; gi_at_call 13; refine (CallsIn.inRound _ (callsIn_wide.2 ci)).mono ?_; rintro e V1 ⟨rfl, hb⟩; have q2 := (HB.out.1.stay hb).cell 0 rfl; have q3 := (HB.out.1.stay hb).frozen 0; have HB2 : Hid (Below V.heap.size V V1) := hb; clear hb) | fail)
      have hsz := HSZ.out
      refine ⟨?_, World.cell?_setCell_same' _ _ _ (by rw [q2]; rfl), Kpt.setCell (p := fun k => k = w.heap.size + 1) (q := ⟨w.heap.size + 1, 0, none⟩) (Kpt.of HB2.out) (Or.inr rfl) _⟩
      rw [Below.heap_setCell _ _ _ _ (by simp; omega)]
      exact HB2.out.block _ HB.out.2
  case iter =>
    intro W1 rec busy don hB hs1 hD hR hY
    have he : W1.cell? ⟨w.heap.size + 1 + 1, 0, none⟩ = some (val l0 (some c)) := by rw [HV.out]; exact (hb2.stay hB).cell 0 rfl
    refine callsIn_wide.2 ((eachN_any l0 (some c) (W.heap.size + 1) 9 ⟨w.heap.size + 1 + 1, 0, none⟩ W1.heap.size (fun _ => False) (goI (c == n)) (fun _ => True)
      (fun _ V => V.heap[W.heap.size + 1]? = some don ∧ (c == n) = true ∧ V.cell? ⟨w.heap.size + 1, 0, none⟩ = some (.bool true) ∧ V.heap[W.heap.size]? = some (.deferred (some [])) ∧ Below w.heap.size w V) W1 he hl ((hL.stay hu.1).stay hB) (Nat.le_refl _)
      (fun x h xo => ⟨by have := hx x h xo; omega, fun h => h⟩) (fun k h => h.elim) (fun _ _ _ h => h) trivial (fun _ _ => rfl) (fun h => by cases h) hv ?_).mono ?_)
    · intro c' hc' V hV _
      cases hc'
      have hrec : V.heap[W.heap.size + 1]? = some rec := (hV.block _ (by omega) (fun h => h)).trans hR
      refine (hY () V ((Kpt.of hB).trans (hV.mono (by omega))) hrec).mono ?_
      rintro e V' (⟨rfl, V3, ⟨h1, _, h3⟩, rfl⟩ | ⟨rfl, V3, ⟨h2, h3, h4, h5⟩, rfl⟩)
      · exact Or.inl ⟨rfl, by rw [h1]; rfl, h3.back hrec (fun h => h), trivial⟩
      · have hk := (hV.wide (q := fun k => k = w.heap.size + 1) (fun k h => h.elim)).round (y := don) h5 (Nat.le_refl _)
        refine Or.inr ⟨rfl, by rw [h2]; rfl, World.putObj_heap_same (lt_put (lt_of_heap hrec) h5), h2, ?_, ?_, ?_⟩
        · exact (cell_put (by show w.heap.size + 1 ≠ _; omega)).trans h4
        · exact (hk.block _ (by omega) (by omega)).trans hD
        · exact (hu.1.trans (hB.mono (by omega))).trans (hk.below (by omega) (by intro k h; omega))
    · rintro e V ⟨hv', (⟨h1, h2⟩ | ⟨k, _, h2⟩)⟩
      · cases hcn : (c == n)
        · have bel := h2.below (Nat.le_refl _) (fun k h => h.elim)
          exact ⟨hv', Or.inl ⟨(bel.block _ (by omega)).trans hR, by first | exact hcn | rfl, (hb1.stay hB).stay bel, (bel.block _ (by omega)).trans hD, (hu.1.trans (hB.mono (by omega))).trans (bel.mono (by omega))⟩⟩
        · rw [hcn, fst_goI] at h1; cases h1
      · exact ⟨hv', Or.inr h2⟩
  case done =>
    rintro V o hlt ⟨hcn, hk, hd, hb⟩
    have k0 : Bk (V.putObj (W.heap.size + 1) o) (w.heap.size + 1) #[.bool false] 4 := hk.put (by omega)
    have k1 := k0.cell 0 rfl
    have k2 := k0.frozen 0
    have k3 := (k0.set 0 (.bool false))
    have hD : ((V.putObj (W.heap.size + 1) o).setCell ⟨w.heap.size + 1, 0, none⟩ (.bool false)).heap[W.heap.size]? = some (.deferred (some [])) := (Below.heap_setCell _ _ _ _ (by show W.heap.size ≠ w.heap.size + 1; omega)).trans ((World.putObj_heap_other (by omega)).trans hd)
    have hcc : (((V.putObj (W.heap.size + 1) o).setCell ⟨w.heap.size + 1, 0, none⟩ (.bool false)).putObj W.heap.size (.deferred none)).cell? ⟨w.heap.size + 1, 0, none⟩ = some (.bool false) := (cell_put (by show w.heap.size + 1 ≠ _; omega)).trans (k3.cell 0 rfl)
    have hfin : Below w.heap.size w (((V.putObj (W.heap.size + 1) o).setCell ⟨w.heap.size + 1, 0, none⟩ (.bool false)).putObj W.heap.size (.deferred none)) := ((((Kpt.of (p := fun _ => False) hb).putObj (Or.inl (by omega)) o).setCell (q := ⟨w.heap.size + 1, 0, none⟩) (Or.inl (by show _ ≤ w.heap.size + 1; omega)) _).putObj (Or.inl (by omega)) _).below (Nat.le_refl _) (fun k h => h.elim)
    have HCN : Hid ((c == n) = false) := hcn
    clear k0 k3 hk hsz hcn
    gi_wp2
    refine ⟨by simp, .inl ⟨_, _, rfl, run_takeDeferred hD, ?_⟩⟩
    refine ⟨.bool false, ?_, by rw [HCN.out], hfin⟩
    simp [results, Tryd.results10, go_sem, hcc]
  case stop =>
    rintro V o hlt ⟨hcs, hc, hd, hb⟩
    have hD : (V.putObj (W.heap.size + 1) o).heap[W.heap.size]? = some (.deferred (some [])) := (World.putObj_heap_other (by omega)).trans hd
    have hcc : ((V.putObj (W.heap.size + 1) o).putObj W.heap.size (.deferred none)).cell? ⟨w.heap.size + 1, 0, none⟩ = some (.bool true) := (cell_put (by show w.heap.size + 1 ≠ _; omega)).trans ((cell_put (by show w.heap.size + 1 ≠ _; omega)).trans hc)
    have hfin : Below w.heap.size w ((V.putObj (W.heap.size + 1) o).putObj W.heap.size (.deferred none)) := (((Kpt.of (p := fun _ => False) hb).putObj (Or.inl (by omega)) o).putObj (Or.inl (by omega)) _).below (Nat.le_refl _) (fun k h => h.elim)
    have HCS : Hid ((c == n) = true) := hcs
    clear hcs
    gi_wp2
    refine ⟨by simp, .inl ⟨_, _, rfl, run_takeDeferred hD, ?_⟩⟩
    refine ⟨.bool true, ?_, by rw [HCS.out], hfin⟩
    simp [results, Tryd.results10, go_sem, hcc]
end Go.Proofs.YthdjadkdjljciaaDoor
