/- label: Lay. -/
import Derived.Test.YtfefdcolmalgjaalSet
import Derived.Laws.CopyOwn
import Derived.Deep.RegionHeld3
import Derived.Deep.DeepCutAuto
namespace Go.Proofs.Ytfefdcolmalgjaa
set_option linter.unusedVariables false
open Go.RowKit Go.ChangeShapes
theorem takeH {P : Program} {ops : Array Oper} {Q : Exit → Act → World → Prop} {md : Region.Mode} {S : World → Prop} {i : Nat} {oi : Oper} {v : Value} {d : Option Tmp} {fuel : Nat} {listed : Array Bool} {a : Act} {w : World} (hi : ops[i]? = some oi)
    (hs : Region.noSelect ops = true) (hf : Region.free md ops listed i = true) (hr : (Region.ready md ops listed).contains i = true) (hd : oi.dst = d)
    (hQ : ∀ c a w, Q (.panic c) (a.put d v) w → Q (.panic c) a w) (hy : YieldsIf P ops S oi v a) (hS : S w)
    (h : wpAnyH P md ops Q S fuel (listed.setIfInBounds i true) (a.put d v) w) : wpAnyH P md ops Q S (fuel + 1) listed a w := by
  subst hd
  exact wpAnyH_take hi hs hf hr hQ hy hS h
theorem addr_plus (b off j : Nat) : (⟨b, off, none⟩ : Addr).add j = ⟨b, off + j, none⟩ := by
  unfold Addr.add; split <;> simp_all
theorem infoL1 : (Try.prog.info? 32).map (·.size) = some 1 := by kernel_rfl
theorem copy_none_wp {w : World} {o : Oper} {a : Act} {K : Act → World → Prop} {Q : Exit → Act → World → Prop} (d s : Operand)
    (ho : o.op = .call { callee := .builtin .copy, args := #[d, s], argTypes := #[29, 29] }) (dp sp : Option Addr) (dLen dCap sLen sCap : Nat)
    (hd : a.eval d = .slice dp dLen dCap) (hs : a.eval s = .slice sp sLen sCap) (hn : Nat.min sLen dLen = 0) (h : K (a.put o.dst (goInt 0)) w) : o.wp Try.prog a w K Q := by
  have hrun := run_copy_none (P := Try.prog) w 29 29 o.type 32 dp sp dLen dCap sLen sCap Try.underlying29 infoL1 hn
  unfold Oper.wp
  simp [execOp, ho, resolve, invoke, builtin, hd, hs, hrun, Result.andThen]
  exact h
theorem copy_lab_wp {w : World} {o : Oper} {a : Act} {K : Act → World → Prop} {Q : Exit → Act → World → Prop} (d s : Operand)
    (ho : o.op = .call { callee := .builtin .copy, args := #[d, s], argTypes := #[29, 29] }) (dp sp : Option Addr) (dLen dCap sLen sCap : Nat)
    (hd : a.eval d = .slice dp dLen dCap) (hs : a.eval s = .slice sp sLen sCap) (g n off : Nat) (L S : Nat → Int) (hR : LR w g n L) (hfit : off + dLen ≤ n) (hdp : 0 < dLen → dp = some ⟨g, off, none⟩)
    (hsp : 0 < sLen → ∃ b q, sp = some ⟨b, q, none⟩ ∧ ∀ j, j < sLen → w.cell? ⟨b, q + j, none⟩ = some (.int .u8 (S j)))
    (h : ∀ z w', LR w' g n (fun i => if off ≤ i ∧ i < off + min sLen dLen then S (i - off) else L i) → w.grownBy w' (some g) → w'.heap.size = w.heap.size → K (a.put o.dst z) w') : o.wp Try.prog a w K Q := by
  obtain ⟨k, hk⟩ : ∃ k, Nat.min sLen dLen = k := ⟨_, rfl⟩
  have hk' : min sLen dLen = k := hk
  rw [hk'] at h
  rcases Nat.eq_zero_or_pos k with h0 | h0
  · refine copy_none_wp d s ho dp sp dLen dCap sLen sCap hd hs (by omega) (h _ w (hR.congr fun i hi => ?_) (World.grownBy.refl _ _) rfl)
    rw [if_neg (by omega)]
  · have e1 : k ≤ sLen := by omega
    have e2 : k ≤ dLen := by omega
    have e3 := hdp (by omega)
    subst e3
    obtain ⟨b, q, rfl, hb⟩ := hsp (by omega)
    obtain ⟨cur, hg, hsz, hcur⟩ := hR
    let cs : List Value := (List.range k).map fun j => .int .u8 (S j)
    have hl : cs.length = k := by simp [cs]
    have hcs : ∀ j, j < k → cs[j]? = some (.int .u8 (S j)) := fun j hj => by simp [cs, hj]
    have hrun := run_copy_row (P := Try.prog) w 29 29 o.type 32 g off dLen dCap ⟨b, q, none⟩ sLen sCap cur 32 cs Try.underlying29 infoL1 hg (by rw [hl, hk])
      (fun j v hv => by
        have hj : j < k := by have := (List.getElem?_eq_some_iff.1 hv).1; omega
        rw [hcs j hj] at hv
        rw [addr_plus, hb j (by omega), hv]) (by rw [hl, hsz]; omega)
      (fun v hv => by
        obtain ⟨j, _, rfl⟩ := List.mem_map.1 hv
        rfl)
    unfold Oper.wp
    simp [execOp, ho, resolve, invoke, builtin, hd, hs, hrun, Result.andThen]
    refine h _ _ ⟨_, setRow_heap w g _ _ _ _ hg, ?_, fun i hi => ?_⟩ ⟨rfl, rfl, rfl, by simp [World.setRow], fun j hj hne => setRow_other w g j _ (fun e => hne (by rw [e]))⟩ (by simp [World.setRow])
    · simp [hsz, hl]
      omega
    · have hc := hcur i hi
      have hct : cur.toList[i]? = some (.int .u8 (L i)) := by rw [← hc]; simp
      have hlen : cur.toList.length = n := by simpa using hsz
      simp only [List.getElem?_toArray]
      by_cases c1 : i < off
      · rw [if_neg (by omega), List.getElem?_append_left (by rw [List.length_take]; omega), List.getElem?_take, if_pos c1, hct]
      · by_cases c2 : i < off + k
        · rw [if_pos (by omega), List.getElem?_append_right (by rw [List.length_take]; omega), List.length_take, List.getElem?_append_left (by omega)]
          rw [show i - min off cur.toList.length = i - off by omega, hcs (i - off) (by omega)]
        · rw [if_neg (by omega), List.getElem?_append_right (by rw [List.length_take]; omega), List.length_take, List.getElem?_append_right (by omega), List.getElem?_drop, hl]
          rw [show off + k + (i - min off cur.toList.length - k) = i by omega, hct]
/-- Another's labels over these from a place on. -/
def layL (L M : Nat → Int) (m : Nat) (z : Int) : Nat → Int := fun i => if 0 ≤ (i : Int) - z ∧ (i : Int) - z < (m : Int) then M ((i : Int) - z).toNat else L i
theorem lay_far (z : Int) (h : z < -65536 ∨ 65536 < z) (p q : Value) (w : World) :
    Calls Try.prog 13 #[p, .int .i64 z, q] w fun e w' => e = .returned (.tuple #[]) ∧ w' = w := by
  by_cases h1 : z < -65536
  · clear h
    go_enter Try.func13, Try.ntmps13
    go_wp2
    exact bodyPost_ret (v := .tuple #[]) (by simp [results, Try.results13, go_sem]) rfl ⟨rfl, rfl⟩
  · have h2 : 65536 < z := by omega
    clear h
    go_enter Try.func13, Try.ntmps13
    go_wp2
    exact bodyPost_ret (v := .tuple #[]) (by simp [results, Try.results13, go_sem]) rfl ⟨rfl, rfl⟩

set_option maxHeartbeats 1000000 in
set_option maxRecDepth 100000 in
theorem slay_any {w : World} {T g n T2 g2 m : Nat} {L M : Nat → Int} (h : Sh w T g n L) (h2 : Sh w T2 g2 m M) (hn : n ≤ 65536) (hm : m ≤ 65536) (z : Int) (hz1 : -65536 ≤ z) (hz2 : z ≤ 65536) :
    Calls Try.prog 13 #[.pointer (some ⟨T, 0, none⟩), .int .i64 z, .pointer (some ⟨T2, 0, none⟩)] w fun e w' =>
      e = .returned (.tuple #[]) ∧ Sh w' T g n (layL L M m z) ∧ w.grownBy w' (some g) ∧ w'.heap.size = w.heap.size := by
  have c1 := all_any h
  have c2 := all_any h2
  have H : Hid (Sh w T g n L) := h
  have H2 : Hid (Sh w T2 g2 m M) := h2
  obtain ⟨A, hA⟩ : ∃ A : Nat, max z 0 = (A : Int) := ⟨(max z 0).toNat, by omega⟩
  obtain ⟨d, hd⟩ : ∃ d : Nat, min (A : Int) (n : Int) = (d : Int) := ⟨min A n, by omega⟩
  obtain ⟨B, hB⟩ : ∃ B : Nat, max (-z) 0 = (B : Int) := ⟨(max (-z) 0).toNat, by omega⟩
  obtain ⟨s, hs⟩ : ∃ s : Nat, min (B : Int) (m : Int) = (s : Int) := ⟨min B m, by omega⟩
  have HQ : Hid (max z 0 = (A : Int) ∧ min (A : Int) (n : Int) = (d : Int) ∧ max (-z) 0 = (B : Int) ∧ min (B : Int) (m : Int) = (s : Int)) := ⟨hA, hd, hB, hs⟩
  have hdn : d ≤ n := by omega
  have hsm : s ≤ m := by omega
  have hwz : IntKind.i64.wrap (-z) = -z := (wrap_is _).trans (IntWalk.wrap64_in _ (by omega))
  have y1 : ¬ z < -65536 := by omega
  have y2 : ¬ 65536 < z := by omega
  have y3 : (d : Int) ≤ (n : Int) := by omega
  have y4 : (s : Int) ≤ (m : Int) := by omega
  have y5 : (0 : Int) ≤ (d : Int) := by omega
  have y6 : (0 : Int) ≤ (s : Int) := by omega
  obtain ⟨da, hda⟩ : ∃ da : Option Addr, (if n = d then some ⟨g, 0, none⟩ else some ⟨g, d, none⟩) = da := ⟨_, rfl⟩
  obtain ⟨sa, hsa⟩ : ∃ sa : Option Addr, (if m = s then some ⟨g2, 0, none⟩ else some ⟨g2, s, none⟩) = sa := ⟨_, rfl⟩
  have HA : Hid (d < n → da = some ⟨g, d, none⟩) := fun h => by rw [← hda, if_neg (by omega)]
  have HB : Hid (s < m → sa = some ⟨g2, s, none⟩) := fun h => by rw [← hsa, if_neg (by omega)]
  clear h h2
  go_enter Try.func13, Try.ntmps13
  go_wp2_with fail
  refine c1.mono ?_
  rintro e w1 ⟨rfl, h1⟩
  subst w1
  clear c1
  go_wp2_with fail
  refine c2.mono ?_
  rintro e w1 ⟨rfl, h1⟩
  subst w1
  clear c2
  go_upto_region 2 with fail
  refine wp_region_held_drew (S := fun w' => True) (by kernel_rfl) trivial (fun hHeld => ?_)
  clear hHeld
  refine takeH (i := 0) (v := ?_) (d := (some 18)) rfl (by kernel_rfl) (by kernel_rfl) (by kernel_rfl) rfl (fun _ _ _ h => h) (Or.inl ⟨by kernel_rfl, ?_⟩) (by first | assumption | trivial) ?_; rotate_left
  · (intro w hSw; (try dsimp only at hSw); first | (go_simp; done) | (go_simp; with_reducible rfl))
  (try simp only [Act.put, List.setIfInBounds_toArray, List.set_cons_zero, List.set_cons_succ])
  refine takeH (i := 1) (v := ?_) (d := (some 19)) rfl (by kernel_rfl) (by kernel_rfl) (by kernel_rfl) rfl (fun _ _ _ h => h) (Or.inl ⟨by kernel_rfl, ?_⟩) (by first | assumption | trivial) ?_; rotate_left
  · (intro w hSw; (try dsimp only at hSw); first | (go_simp; done) | (go_simp; with_reducible rfl))
  (try simp only [Act.put, List.setIfInBounds_toArray, List.set_cons_zero, List.set_cons_succ])
  refine takeH (i := 2) (v := ?_) (d := (some 20)) rfl (by kernel_rfl) (by kernel_rfl) (by kernel_rfl) rfl (fun _ _ _ h => h) (Or.inl ⟨by kernel_rfl, ?_⟩) (by first | assumption | trivial) ?_; rotate_left
  · (intro w hSw; (try dsimp only at hSw); first | (go_simp; done) | (go_simp; with_reducible rfl))
  (try simp only [Act.put, List.setIfInBounds_toArray, List.set_cons_zero, List.set_cons_succ])
  refine takeH (i := 3) (v := ?_) (d := (some 21)) rfl (by kernel_rfl) (by kernel_rfl) (by kernel_rfl) rfl (fun _ _ _ h => h) (Or.inl ⟨by kernel_rfl, ?_⟩) (by first | assumption | trivial) ?_; rotate_left
  · (intro w hSw; (try dsimp only at hSw); first | (go_simp; done) | (go_simp; with_reducible rfl))
  (try simp only [Act.put, List.setIfInBounds_toArray, List.set_cons_zero, List.set_cons_succ])
  refine takeH (i := 4) (v := ?_) (d := (some 22)) rfl (by kernel_rfl) (by kernel_rfl) (by kernel_rfl) rfl (fun _ _ _ h => h) (Or.inl ⟨by kernel_rfl, ?_⟩) (by first | assumption | trivial) ?_; rotate_left
  · (intro w hSw; (try dsimp only at hSw); first | (go_simp; done) | (go_simp; with_reducible rfl))
  (try simp only [Act.put, List.setIfInBounds_toArray, List.set_cons_zero, List.set_cons_succ])
  refine takeH (i := 5) (v := ?_) (d := (some 23)) rfl (by kernel_rfl) (by kernel_rfl) (by kernel_rfl) rfl (fun _ _ _ h => h) (Or.inl ⟨by kernel_rfl, ?_⟩) (by first | assumption | trivial) ?_; rotate_left
  · (intro w hSw; (try dsimp only at hSw); first | (go_simp; done) | (go_simp; with_reducible rfl))
  (try simp only [Act.put, List.setIfInBounds_toArray, List.set_cons_zero, List.set_cons_succ])
  refine takeH (i := 6) (v := ?_) (d := (some 24)) rfl (by kernel_rfl) (by kernel_rfl) (by kernel_rfl) rfl (fun _ _ _ h => h) (Or.inl ⟨by kernel_rfl, ?_⟩) (by first | assumption | trivial) ?_; rotate_left
  · (intro w hSw; (try dsimp only at hSw); first | (go_simp; done) | (go_simp; with_reducible rfl))
  (try simp only [Act.put, List.setIfInBounds_toArray, List.set_cons_zero, List.set_cons_succ])
  refine takeH (i := 7) (v := ?_) (d := (some 25)) rfl (by kernel_rfl) (by kernel_rfl) (by kernel_rfl) rfl (fun _ _ _ h => h) (Or.inl ⟨by kernel_rfl, ?_⟩) (by first | assumption | trivial) ?_; rotate_left
  · (intro w hSw; (try dsimp only at hSw); first | (go_simp; done) | (go_simp; with_reducible rfl))
  (try simp only [Act.put, List.setIfInBounds_toArray, List.set_cons_zero, List.set_cons_succ])
  refine takeH (i := 8) (v := ?_) (d := (some 26)) rfl (by kernel_rfl) (by kernel_rfl) (by kernel_rfl) rfl (fun _ _ _ h => h) (Or.inl ⟨by kernel_rfl, ?_⟩) (by first | assumption | trivial) ?_; rotate_left
  · (intro w hSw; (try dsimp only at hSw); first | (go_simp; done) | (go_simp; with_reducible rfl))
  (try simp only [Act.put, List.setIfInBounds_toArray, List.set_cons_zero, List.set_cons_succ])
  refine takeH (i := 9) (v := ?_) (d := (some 27)) rfl (by kernel_rfl) (by kernel_rfl) (by kernel_rfl) rfl (fun _ _ _ h => h) (Or.inl ⟨by kernel_rfl, ?_⟩) (by first | assumption | trivial) ?_; rotate_left
  · (intro w hSw; (try dsimp only at hSw); first | (go_simp; done) | (go_simp; with_reducible rfl))
  (try simp only [Act.put, List.setIfInBounds_toArray, List.set_cons_zero, List.set_cons_succ])
  refine takeH (i := 10) (v := ?_) (d := (some 28)) rfl (by kernel_rfl) (by kernel_rfl) (by kernel_rfl) rfl (fun _ _ _ h => h) (Or.inl ⟨by kernel_rfl, ?_⟩) (by first | assumption | trivial) ?_; rotate_left
  · (intro w hSw; (try dsimp only at hSw); first | (go_simp; done) | (go_simp; with_reducible rfl))
  (try simp only [Act.put, List.setIfInBounds_toArray, List.set_cons_zero, List.set_cons_succ])
  refine takeH (i := 11) (v := ?_) (d := (some 29)) rfl (by kernel_rfl) (by kernel_rfl) (by kernel_rfl) rfl (fun _ _ _ h => h) (Or.inl ⟨by kernel_rfl, ?_⟩) (by first | assumption | trivial) ?_; rotate_left
  · (intro w hSw; (try dsimp only at hSw); first | (go_simp; done) | (go_simp; with_reducible rfl))
  (try simp only [Act.put, List.setIfInBounds_toArray, List.set_cons_zero, List.set_cons_succ])
  refine takeH (i := 12) (v := ?_) (d := (some 30)) rfl (by kernel_rfl) (by kernel_rfl) (by kernel_rfl) rfl (fun _ _ _ h => h) (Or.inl ⟨by kernel_rfl, ?_⟩) (by first | assumption | trivial) ?_; rotate_left
  · (intro w hSw; (try dsimp only at hSw); first | (go_simp; done) | (go_simp; with_reducible rfl))
  (try simp only [Act.put, List.setIfInBounds_toArray, List.set_cons_zero, List.set_cons_succ])
  refine takeH (i := 13) (v := ?_) (d := (some 31)) rfl (by kernel_rfl) (by kernel_rfl) (by kernel_rfl) rfl (fun _ _ _ h => h) (Or.inl ⟨by kernel_rfl, ?_⟩) (by first | assumption | trivial) ?_; rotate_left
  · (intro w hSw; (try dsimp only at hSw); first | (go_simp; done) | (go_simp; with_reducible rfl))
  (try simp only [Act.put, List.setIfInBounds_toArray, List.set_cons_zero, List.set_cons_succ])
  refine takeH (i := 14) (v := ?_) (d := (some 32)) rfl (by kernel_rfl) (by kernel_rfl) (by kernel_rfl) rfl (fun _ _ _ h => h) (Or.inl ⟨by kernel_rfl, ?_⟩) (by first | assumption | trivial) ?_; rotate_left
  · (intro w hSw; (try dsimp only at hSw); first | (go_simp; done) | (go_simp; with_reducible rfl))
  (try simp only [Act.put, List.setIfInBounds_toArray, List.set_cons_zero, List.set_cons_succ])
  refine wpAnyH_ready (rs := [15]) (by kernel_rfl) (by simp) (AllReadyH.cons rfl (fun K hK => ?_) AllReadyH.nil)
  rw [if_pos (by kernel_rfl)]
  refine copy_lab_wp (.tmp 24) (.tmp 32) rfl _ _ _ _ _ _ rfl rfl g n d L (fun j => M (s + j)) H.out.row.drew (by omega) (fun h => HA.out (by omega)) (fun h => ⟨g2, s, HB.out (by omega), fun j hj => H2.out.row.cell (by omega)⟩) ?_
  intro v w' h1 h2 h3
  have HE : Hid (LR w' g n (layL L M m z) ∧ w.grownBy w' (some g) ∧ w'.heap.size = w.heap.size) := by
    refine ⟨h1.congr fun i hi => ?_, ⟨h2.os, h2.tape, h2.output, h2.size, h2.block⟩, h3⟩
    have hq := HQ.out
    unfold layL
    by_cases c : 0 ≤ (i : Int) - z ∧ (i : Int) - z < (m : Int)
    · rw [if_pos c, if_pos (by omega)]
      congr 1
      omega
    · rw [if_neg c, if_neg (by omega)]
  clear h1 h2 h3
  refine hK.out _ _ trivial (fun hHeld => ?_)
  clear hK K hHeld
  refine wpAnyH_done (by kernel_rfl) ?_ _
  go_wp2
  go_end0
  exact ⟨rfl, ⟨(HE.out.2.1.block T H.out.lt (fun e => H.out.ne (Option.some.inj e))).trans H.out.box, HE.out.1⟩, HE.out.2⟩
set_option maxHeartbeats 1000000 in
set_option maxRecDepth 100000 in
theorem slay_none {w : World} {T g n : Nat} {L : Nat → Int} (h : Sh w T g n L) (hn : n ≤ 65536) (z : Int) (hz1 : -65536 ≤ z) (hz2 : z ≤ 65536) :
    Calls Try.prog 13 #[.pointer (some ⟨T, 0, none⟩), .int .i64 z, .pointer none] w fun e w' => e = .returned (.tuple #[]) ∧ Below w.heap.size w w' := by
  have c1 := all_any h
  have c2 := all_nil w
  obtain ⟨A, hA⟩ : ∃ A : Nat, max z 0 = (A : Int) := ⟨(max z 0).toNat, by omega⟩
  obtain ⟨d, hd⟩ : ∃ d : Nat, min (A : Int) (n : Int) = (d : Int) := ⟨min A n, by omega⟩
  obtain ⟨B, hB⟩ : ∃ B : Nat, max (-z) 0 = (B : Int) := ⟨(max (-z) 0).toNat, by omega⟩
  have hs : min (B : Int) 0 = 0 := by omega
  have hdn : d ≤ n := by omega
  have hwz : IntKind.i64.wrap (-z) = -z := (wrap_is _).trans (IntWalk.wrap64_in _ (by omega))
  have y1 : ¬ z < -65536 := by omega
  have y2 : ¬ 65536 < z := by omega
  have y3 : (d : Int) ≤ (n : Int) := by omega
  have y5 : (0 : Int) ≤ (d : Int) := by omega
  obtain ⟨da, hda⟩ : ∃ da : Option Addr, (if n = d then some ⟨g, 0, none⟩ else some ⟨g, d, none⟩) = da := ⟨_, rfl⟩
  clear h
  go_enter Try.func13, Try.ntmps13
  go_wp2_with fail
  refine c1.mono ?_
  rintro e w1 ⟨rfl, h1⟩
  subst w1
  clear c1
  go_wp2_with fail
  refine c2.mono ?_
  rintro e w1 ⟨rfl, h1⟩
  subst w1
  clear c2
  go_upto_region 2 with fail
  refine wp_region_held_drew (S := fun w' => True) (by kernel_rfl) trivial (fun hHeld => ?_)
  clear hHeld
  refine takeH (i := 0) (v := ?_) (d := (some 18)) rfl (by kernel_rfl) (by kernel_rfl) (by kernel_rfl) rfl (fun _ _ _ h => h) (Or.inl ⟨by kernel_rfl, ?_⟩) (by first | assumption | trivial) ?_; rotate_left
  · (intro w hSw; (try dsimp only at hSw); first | (go_simp; done) | (go_simp; with_reducible rfl))
  (try simp only [Act.put, List.setIfInBounds_toArray, List.set_cons_zero, List.set_cons_succ])
  refine takeH (i := 1) (v := ?_) (d := (some 19)) rfl (by kernel_rfl) (by kernel_rfl) (by kernel_rfl) rfl (fun _ _ _ h => h) (Or.inl ⟨by kernel_rfl, ?_⟩) (by first | assumption | trivial) ?_; rotate_left
  · (intro w hSw; (try dsimp only at hSw); first | (go_simp; done) | (go_simp; with_reducible rfl))
  (try simp only [Act.put, List.setIfInBounds_toArray, List.set_cons_zero, List.set_cons_succ])
  refine takeH (i := 2) (v := ?_) (d := (some 20)) rfl (by kernel_rfl) (by kernel_rfl) (by kernel_rfl) rfl (fun _ _ _ h => h) (Or.inl ⟨by kernel_rfl, ?_⟩) (by first | assumption | trivial) ?_; rotate_left
  · (intro w hSw; (try dsimp only at hSw); first | (go_simp; done) | (go_simp; with_reducible rfl))
  (try simp only [Act.put, List.setIfInBounds_toArray, List.set_cons_zero, List.set_cons_succ])
  refine takeH (i := 3) (v := ?_) (d := (some 21)) rfl (by kernel_rfl) (by kernel_rfl) (by kernel_rfl) rfl (fun _ _ _ h => h) (Or.inl ⟨by kernel_rfl, ?_⟩) (by first | assumption | trivial) ?_; rotate_left
  · (intro w hSw; (try dsimp only at hSw); first | (go_simp; done) | (go_simp; with_reducible rfl))
  (try simp only [Act.put, List.setIfInBounds_toArray, List.set_cons_zero, List.set_cons_succ])
  refine takeH (i := 4) (v := ?_) (d := (some 22)) rfl (by kernel_rfl) (by kernel_rfl) (by kernel_rfl) rfl (fun _ _ _ h => h) (Or.inl ⟨by kernel_rfl, ?_⟩) (by first | assumption | trivial) ?_; rotate_left
  · (intro w hSw; (try dsimp only at hSw); first | (go_simp; done) | (go_simp; with_reducible rfl))
  (try simp only [Act.put, List.setIfInBounds_toArray, List.set_cons_zero, List.set_cons_succ])
  refine takeH (i := 5) (v := ?_) (d := (some 23)) rfl (by kernel_rfl) (by kernel_rfl) (by kernel_rfl) rfl (fun _ _ _ h => h) (Or.inl ⟨by kernel_rfl, ?_⟩) (by first | assumption | trivial) ?_; rotate_left
  · (intro w hSw; (try dsimp only at hSw); first | (go_simp; done) | (go_simp; with_reducible rfl))
  (try simp only [Act.put, List.setIfInBounds_toArray, List.set_cons_zero, List.set_cons_succ])
  refine takeH (i := 6) (v := ?_) (d := (some 24)) rfl (by kernel_rfl) (by kernel_rfl) (by kernel_rfl) rfl (fun _ _ _ h => h) (Or.inl ⟨by kernel_rfl, ?_⟩) (by first | assumption | trivial) ?_; rotate_left
  · (intro w hSw; (try dsimp only at hSw); first | (go_simp; done) | (go_simp; with_reducible rfl))
  (try simp only [Act.put, List.setIfInBounds_toArray, List.set_cons_zero, List.set_cons_succ])
  refine takeH (i := 7) (v := ?_) (d := (some 25)) rfl (by kernel_rfl) (by kernel_rfl) (by kernel_rfl) rfl (fun _ _ _ h => h) (Or.inl ⟨by kernel_rfl, ?_⟩) (by first | assumption | trivial) ?_; rotate_left
  · (intro w hSw; (try dsimp only at hSw); first | (go_simp; done) | (go_simp; with_reducible rfl))
  (try simp only [Act.put, List.setIfInBounds_toArray, List.set_cons_zero, List.set_cons_succ])
  refine takeH (i := 8) (v := ?_) (d := (some 26)) rfl (by kernel_rfl) (by kernel_rfl) (by kernel_rfl) rfl (fun _ _ _ h => h) (Or.inl ⟨by kernel_rfl, ?_⟩) (by first | assumption | trivial) ?_; rotate_left
  · (intro w hSw; (try dsimp only at hSw); first | (go_simp; done) | (go_simp; with_reducible rfl))
  (try simp only [Act.put, List.setIfInBounds_toArray, List.set_cons_zero, List.set_cons_succ])
  refine takeH (i := 9) (v := ?_) (d := (some 27)) rfl (by kernel_rfl) (by kernel_rfl) (by kernel_rfl) rfl (fun _ _ _ h => h) (Or.inl ⟨by kernel_rfl, ?_⟩) (by first | assumption | trivial) ?_; rotate_left
  · (intro w hSw; (try dsimp only at hSw); first | (go_simp; done) | (go_simp; with_reducible rfl))
  (try simp only [Act.put, List.setIfInBounds_toArray, List.set_cons_zero, List.set_cons_succ])
  refine takeH (i := 10) (v := ?_) (d := (some 28)) rfl (by kernel_rfl) (by kernel_rfl) (by kernel_rfl) rfl (fun _ _ _ h => h) (Or.inl ⟨by kernel_rfl, ?_⟩) (by first | assumption | trivial) ?_; rotate_left
  · (intro w hSw; (try dsimp only at hSw); first | (go_simp; done) | (go_simp; with_reducible rfl))
  (try simp only [Act.put, List.setIfInBounds_toArray, List.set_cons_zero, List.set_cons_succ])
  refine takeH (i := 11) (v := ?_) (d := (some 29)) rfl (by kernel_rfl) (by kernel_rfl) (by kernel_rfl) rfl (fun _ _ _ h => h) (Or.inl ⟨by kernel_rfl, ?_⟩) (by first | assumption | trivial) ?_; rotate_left
  · (intro w hSw; (try dsimp only at hSw); first | (go_simp; done) | (go_simp; with_reducible rfl))
  (try simp only [Act.put, List.setIfInBounds_toArray, List.set_cons_zero, List.set_cons_succ])
  refine takeH (i := 12) (v := ?_) (d := (some 30)) rfl (by kernel_rfl) (by kernel_rfl) (by kernel_rfl) rfl (fun _ _ _ h => h) (Or.inl ⟨by kernel_rfl, ?_⟩) (by first | assumption | trivial) ?_; rotate_left
  · (intro w hSw; (try dsimp only at hSw); first | (go_simp; done) | (go_simp; with_reducible rfl))
  (try simp only [Act.put, List.setIfInBounds_toArray, List.set_cons_zero, List.set_cons_succ])
  refine takeH (i := 13) (v := ?_) (d := (some 31)) rfl (by kernel_rfl) (by kernel_rfl) (by kernel_rfl) rfl (fun _ _ _ h => h) (Or.inl ⟨by kernel_rfl, ?_⟩) (by first | assumption | trivial) ?_; rotate_left
  · (intro w hSw; (try dsimp only at hSw); first | (go_simp; done) | (go_simp; with_reducible rfl))
  (try simp only [Act.put, List.setIfInBounds_toArray, List.set_cons_zero, List.set_cons_succ])
  refine takeH (i := 14) (v := ?_) (d := (some 32)) rfl (by kernel_rfl) (by kernel_rfl) (by kernel_rfl) rfl (fun _ _ _ h => h) (Or.inl ⟨by kernel_rfl, ?_⟩) (by first | assumption | trivial) ?_; rotate_left
  · (intro w hSw; (try dsimp only at hSw); first | (go_simp; done) | (go_simp; with_reducible rfl))
  (try simp only [Act.put, List.setIfInBounds_toArray, List.set_cons_zero, List.set_cons_succ])
  refine wpAnyH_ready (rs := [15]) (by kernel_rfl) (by simp) (AllReadyH.cons rfl (fun K hK => ?_) AllReadyH.nil)
  rw [if_pos (by kernel_rfl)]
  refine copy_none_wp (.tmp 24) (.tmp 32) rfl _ _ _ _ _ _ rfl rfl (by simp) ?_
  refine hK.out _ _ trivial (fun hHeld => ?_)
  clear hK K hHeld
  refine wpAnyH_done (by kernel_rfl) ?_ _
  go_wp2
  go_end0
  exact ⟨rfl, (Below.refl _ _).drew⟩
set_option maxHeartbeats 1000000 in
set_option maxRecDepth 100000 in
theorem slay_on_none {w : World} {T2 g2 m : Nat} {M : Nat → Int} (h2 : Sh w T2 g2 m M) (hm : m ≤ 65536) (z : Int) (hz1 : -65536 ≤ z) (hz2 : z ≤ 65536) :
    Calls Try.prog 13 #[.pointer none, .int .i64 z, .pointer (some ⟨T2, 0, none⟩)] w fun e w' => e = .returned (.tuple #[]) ∧ Below w.heap.size w w' := by
  have c1 := all_nil w
  have c2 := all_any h2
  obtain ⟨A, hA⟩ : ∃ A : Nat, max z 0 = (A : Int) := ⟨(max z 0).toNat, by omega⟩
  have hd : min (A : Int) 0 = 0 := by omega
  obtain ⟨B, hB⟩ : ∃ B : Nat, max (-z) 0 = (B : Int) := ⟨(max (-z) 0).toNat, by omega⟩
  obtain ⟨s, hs⟩ : ∃ s : Nat, min (B : Int) (m : Int) = (s : Int) := ⟨min B m, by omega⟩
  have hsm : s ≤ m := by omega
  have hwz : IntKind.i64.wrap (-z) = -z := (wrap_is _).trans (IntWalk.wrap64_in _ (by omega))
  have y1 : ¬ z < -65536 := by omega
  have y2 : ¬ 65536 < z := by omega
  have y4 : (s : Int) ≤ (m : Int) := by omega
  have y6 : (0 : Int) ≤ (s : Int) := by omega
  obtain ⟨sa, hsa⟩ : ∃ sa : Option Addr, (if m = s then some ⟨g2, 0, none⟩ else some ⟨g2, s, none⟩) = sa := ⟨_, rfl⟩
  clear h2
  go_enter Try.func13, Try.ntmps13
  go_wp2_with fail
  refine c1.mono ?_
  rintro e w1 ⟨rfl, h1⟩
  subst w1
  clear c1
  go_wp2_with fail
  refine c2.mono ?_
  rintro e w1 ⟨rfl, h1⟩
  subst w1
  clear c2
  go_upto_region 2 with fail
  refine wp_region_held_drew (S := fun w' => True) (by kernel_rfl) trivial (fun hHeld => ?_)
  clear hHeld
  refine takeH (i := 0) (v := ?_) (d := (some 18)) rfl (by kernel_rfl) (by kernel_rfl) (by kernel_rfl) rfl (fun _ _ _ h => h) (Or.inl ⟨by kernel_rfl, ?_⟩) (by first | assumption | trivial) ?_; rotate_left
  · (intro w hSw; (try dsimp only at hSw); first | (go_simp; done) | (go_simp; with_reducible rfl))
  (try simp only [Act.put, List.setIfInBounds_toArray, List.set_cons_zero, List.set_cons_succ])
  refine takeH (i := 1) (v := ?_) (d := (some 19)) rfl (by kernel_rfl) (by kernel_rfl) (by kernel_rfl) rfl (fun _ _ _ h => h) (Or.inl ⟨by kernel_rfl, ?_⟩) (by first | assumption | trivial) ?_; rotate_left
  · (intro w hSw; (try dsimp only at hSw); first | (go_simp; done) | (go_simp; with_reducible rfl))
  (try simp only [Act.put, List.setIfInBounds_toArray, List.set_cons_zero, List.set_cons_succ])
  refine takeH (i := 2) (v := ?_) (d := (some 20)) rfl (by kernel_rfl) (by kernel_rfl) (by kernel_rfl) rfl (fun _ _ _ h => h) (Or.inl ⟨by kernel_rfl, ?_⟩) (by first | assumption | trivial) ?_; rotate_left
  · (intro w hSw; (try dsimp only at hSw); first | (go_simp; done) | (go_simp; with_reducible rfl))
  (try simp only [Act.put, List.setIfInBounds_toArray, List.set_cons_zero, List.set_cons_succ])
  refine takeH (i := 3) (v := ?_) (d := (some 21)) rfl (by kernel_rfl) (by kernel_rfl) (by kernel_rfl) rfl (fun _ _ _ h => h) (Or.inl ⟨by kernel_rfl, ?_⟩) (by first | assumption | trivial) ?_; rotate_left
  · (intro w hSw; (try dsimp only at hSw); first | (go_simp; done) | (go_simp; with_reducible rfl))
  (try simp only [Act.put, List.setIfInBounds_toArray, List.set_cons_zero, List.set_cons_succ])
  refine takeH (i := 4) (v := ?_) (d := (some 22)) rfl (by kernel_rfl) (by kernel_rfl) (by kernel_rfl) rfl (fun _ _ _ h => h) (Or.inl ⟨by kernel_rfl, ?_⟩) (by first | assumption | trivial) ?_; rotate_left
  · (intro w hSw; (try dsimp only at hSw); first | (go_simp; done) | (go_simp; with_reducible rfl))
  (try simp only [Act.put, List.setIfInBounds_toArray, List.set_cons_zero, List.set_cons_succ])
  refine takeH (i := 5) (v := ?_) (d := (some 23)) rfl (by kernel_rfl) (by kernel_rfl) (by kernel_rfl) rfl (fun _ _ _ h => h) (Or.inl ⟨by kernel_rfl, ?_⟩) (by first | assumption | trivial) ?_; rotate_left
  · (intro w hSw; (try dsimp only at hSw); first | (go_simp; done) | (go_simp; with_reducible rfl))
  (try simp only [Act.put, List.setIfInBounds_toArray, List.set_cons_zero, List.set_cons_succ])
  refine takeH (i := 6) (v := ?_) (d := (some 24)) rfl (by kernel_rfl) (by kernel_rfl) (by kernel_rfl) rfl (fun _ _ _ h => h) (Or.inl ⟨by kernel_rfl, ?_⟩) (by first | assumption | trivial) ?_; rotate_left
  · (intro w hSw; (try dsimp only at hSw); first | (go_simp; done) | (go_simp; with_reducible rfl))
  (try simp only [Act.put, List.setIfInBounds_toArray, List.set_cons_zero, List.set_cons_succ])
  refine takeH (i := 7) (v := ?_) (d := (some 25)) rfl (by kernel_rfl) (by kernel_rfl) (by kernel_rfl) rfl (fun _ _ _ h => h) (Or.inl ⟨by kernel_rfl, ?_⟩) (by first | assumption | trivial) ?_; rotate_left
  · (intro w hSw; (try dsimp only at hSw); first | (go_simp; done) | (go_simp; with_reducible rfl))
  (try simp only [Act.put, List.setIfInBounds_toArray, List.set_cons_zero, List.set_cons_succ])
  refine takeH (i := 8) (v := ?_) (d := (some 26)) rfl (by kernel_rfl) (by kernel_rfl) (by kernel_rfl) rfl (fun _ _ _ h => h) (Or.inl ⟨by kernel_rfl, ?_⟩) (by first | assumption | trivial) ?_; rotate_left
  · (intro w hSw; (try dsimp only at hSw); first | (go_simp; done) | (go_simp; with_reducible rfl))
  (try simp only [Act.put, List.setIfInBounds_toArray, List.set_cons_zero, List.set_cons_succ])
  refine takeH (i := 9) (v := ?_) (d := (some 27)) rfl (by kernel_rfl) (by kernel_rfl) (by kernel_rfl) rfl (fun _ _ _ h => h) (Or.inl ⟨by kernel_rfl, ?_⟩) (by first | assumption | trivial) ?_; rotate_left
  · (intro w hSw; (try dsimp only at hSw); first | (go_simp; done) | (go_simp; with_reducible rfl))
  (try simp only [Act.put, List.setIfInBounds_toArray, List.set_cons_zero, List.set_cons_succ])
  refine takeH (i := 10) (v := ?_) (d := (some 28)) rfl (by kernel_rfl) (by kernel_rfl) (by kernel_rfl) rfl (fun _ _ _ h => h) (Or.inl ⟨by kernel_rfl, ?_⟩) (by first | assumption | trivial) ?_; rotate_left
  · (intro w hSw; (try dsimp only at hSw); first | (go_simp; done) | (go_simp; with_reducible rfl))
  (try simp only [Act.put, List.setIfInBounds_toArray, List.set_cons_zero, List.set_cons_succ])
  refine takeH (i := 11) (v := ?_) (d := (some 29)) rfl (by kernel_rfl) (by kernel_rfl) (by kernel_rfl) rfl (fun _ _ _ h => h) (Or.inl ⟨by kernel_rfl, ?_⟩) (by first | assumption | trivial) ?_; rotate_left
  · (intro w hSw; (try dsimp only at hSw); first | (go_simp; done) | (go_simp; with_reducible rfl))
  (try simp only [Act.put, List.setIfInBounds_toArray, List.set_cons_zero, List.set_cons_succ])
  refine takeH (i := 12) (v := ?_) (d := (some 30)) rfl (by kernel_rfl) (by kernel_rfl) (by kernel_rfl) rfl (fun _ _ _ h => h) (Or.inl ⟨by kernel_rfl, ?_⟩) (by first | assumption | trivial) ?_; rotate_left
  · (intro w hSw; (try dsimp only at hSw); first | (go_simp; done) | (go_simp; with_reducible rfl))
  (try simp only [Act.put, List.setIfInBounds_toArray, List.set_cons_zero, List.set_cons_succ])
  refine takeH (i := 13) (v := ?_) (d := (some 31)) rfl (by kernel_rfl) (by kernel_rfl) (by kernel_rfl) rfl (fun _ _ _ h => h) (Or.inl ⟨by kernel_rfl, ?_⟩) (by first | assumption | trivial) ?_; rotate_left
  · (intro w hSw; (try dsimp only at hSw); first | (go_simp; done) | (go_simp; with_reducible rfl))
  (try simp only [Act.put, List.setIfInBounds_toArray, List.set_cons_zero, List.set_cons_succ])
  refine takeH (i := 14) (v := ?_) (d := (some 32)) rfl (by kernel_rfl) (by kernel_rfl) (by kernel_rfl) rfl (fun _ _ _ h => h) (Or.inl ⟨by kernel_rfl, ?_⟩) (by first | assumption | trivial) ?_; rotate_left
  · (intro w hSw; (try dsimp only at hSw); first | (go_simp; done) | (go_simp; with_reducible rfl))
  (try simp only [Act.put, List.setIfInBounds_toArray, List.set_cons_zero, List.set_cons_succ])
  refine wpAnyH_ready (rs := [15]) (by kernel_rfl) (by simp) (AllReadyH.cons rfl (fun K hK => ?_) AllReadyH.nil)
  rw [if_pos (by kernel_rfl)]
  refine copy_none_wp (.tmp 24) (.tmp 32) rfl _ _ _ _ _ _ rfl rfl (by simp) ?_
  refine hK.out _ _ trivial (fun hHeld => ?_)
  clear hK K hHeld
  refine wpAnyH_done (by kernel_rfl) ?_ _
  go_wp2
  go_end0
  exact ⟨rfl, (Below.refl _ _).drew⟩
end Go.Proofs.Ytfefdcolmalgjaa
