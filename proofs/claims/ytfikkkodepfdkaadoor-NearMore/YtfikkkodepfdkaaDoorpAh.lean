/- The reference's has and ahead. -/
import Derived.BigQuiet
import Derived.Test.YtfikkkodepfdkaaDoorpkF
import Derived.Test.YtfikkkodepfdkaaDoorpkE
import Derived.Test.YtfikkkodepfdkaaDoorpkC
namespace Go.Proofs.YtfikkkodepfdkaaDoor
set_option linter.unusedVariables false
open Go.RowKit Go.ChangeShapes
open Qns (dd far at_)
theorem rhas_any {w : World} {v : Value} {L : List ByteArray} (hv : TL w v L) (hL : L.length ≤ 5000) (x : ByteArray) (b : Bool) (hb : b = true ↔ x ∈ L) :
    Calls Tryd.prog 57 #[v, .string x] w fun e w' => e = .returned (.bool b) ∧ w' = w := by
  obtain ⟨ad, c, rfl, hc⟩ := hv
  have HC : Hid (∀ (j : Nat) (s : ByteArray), L[j]? = some s → ∃ b off, ad = some ⟨b, off, none⟩ ∧ w.cell? ⟨b, off + j, none⟩ = some (.string s)) := hc
  have HB : Hid (b = true ↔ x ∈ L) := hb
  clear hc hb
  generalize en : L.length = n at *
  have EN : Hid (L.length = n) := en
  clear en
  go_enter Tryd.func57, Tryd.ntmps57
  go_wp2
  go_loopg [5] n (fun g iv wr => ∃ i : Nat, i ≤ n ∧ g = n - i ∧ iv = .int .i64 i ∧ wr = w ∧ Hid (∀ j y, L[j]? = some y → j < i → y ≠ x))
  case atStart => exact ⟨0, Nat.zero_le _, rfl, rfl, rfl, fun j y _ hj => absurd hj (Nat.not_lt_zero j)⟩
  case round =>
    obtain ⟨i, hin, hg, rfl, hw, HJ⟩ := hrel
    subst wr
    have z0 : (0 : Int) ≤ (i : Int) := by omega
    by_cases hlt : i < n
    · have z1 : (i : Int) < (n : Int) := by omega
      obtain ⟨y, hy⟩ : ∃ y, L[i]? = some y := ⟨_, List.getElem?_eq_getElem (by rw [EN.out]; exact hlt)⟩
      obtain ⟨b', off, rfl, hcy⟩ := HC.out i y hy
      have HY : Hid (L[i]? = some y) := hy
      have EQ := eq_str y x
      clear hy
      by_cases hyx : y = x
      · have hq : (y.toList == x.toList) = true := by rw [EQ]; simpa using hyx
        have HM : Hid (b = true) := HB.out.2 (by rw [← hyx]; exact List.mem_of_getElem? HY.out)
        clear EQ hyx
        go_wp2
        go_ret
        exact ⟨congrArg (fun q => Ending.returned (Value.bool q)) HM.out.symm, rfl⟩
      · have hq : (y.toList == x.toList) = false := by rw [EQ]; simpa using hyx
        have HJ2 : Hid (∀ j y, L[j]? = some y → j < i + 1 → y ≠ x) := fun j y' hj hl => by
          rcases Nat.lt_succ_iff_lt_or_eq.1 hl with h | h
          · exact HJ.out j y' hj h
          · subst h
            rw [HY.out] at hj
            injection hj with hj
            rw [← hj]; exact hyx
        clear EQ hyx
        go_wp2
        go_roundg (n - (i + 1))
        case measure => omega
        case rel => exact ⟨i + 1, by omega, rfl, by go_num, rfl, HJ2⟩
    · obtain rfl : i = n := by omega
      have z1 : ¬ (i : Int) < (i : Int) := by omega
      go_wp2
      go_ret
      have e : b = false := by
        cases hb : b with
        | false => rfl
        | true =>
          obtain ⟨j, hj, e⟩ := List.getElem_of_mem (HB.out.1 hb)
          exact absurd e (HJ.out j _ (List.getElem?_eq_getElem hj) (by rw [← EN.out]; exact hj))
      exact ⟨congrArg (fun q => Ending.returned (Value.bool q)) e.symm, rfl⟩
/-- Whether one suggestion stands ahead of another. -/
def AhdIs (Pf : List ByteArray) (x y : Nr) (b : Bool) : Prop := b = true ↔ LtN Pf x y
set_option maxHeartbeats 2000000 in
set_option maxRecDepth 100000 in
theorem ahead_any {w : World} {v : Value} {Pf : List ByteArray} (hv : TL w v Pf) (hL : Pf.length ≤ 5000) (x y : Nr) (b : Bool) (hb : AhdIs Pf x y b) (hx : x.d ≤ 1000) (hy : y.d ≤ 1000) :
    Calls Tryd.prog 40 #[.agg #[.string x.s, .int .i64 (x.d : Int)], .agg #[.string y.s, .int .i64 (y.d : Int)], v] w fun e w' => e = .returned (.bool b) ∧ Below w.heap.size w w' := by
  obtain ⟨xs, xd⟩ := x
  obtain ⟨ys, yd⟩ := y
  dsimp only at hx hy ⊢
  have HV : Hid (TL w v Pf) := hv
  obtain ⟨ad, c, rfl, -⟩ := hv
  have HB : Hid (AhdIs Pf ⟨xs, xd⟩ ⟨ys, yd⟩ b) := hb
  clear hb
  obtain ⟨W1, hW1⟩ : ∃ W1, (w.alloc (.cells #[.string xs, .int .i64 (xd : Int)] 47)).alloc (.cells #[.string ys, .int .i64 (yd : Int)] 47) = W1 := ⟨_, rfl⟩
  have HU1 : Hid (Up w.heap.size w W1) := by show Up _ _ _; rw [← hW1]; exact ((Up.refl w).alloc _).alloc _
  have hX1 : W1.cell? ⟨w.heap.size, 0, none⟩ = some (.string xs) ∧ W1.cell? ⟨w.heap.size, 1, none⟩ = some (.int .i64 (xd : Int)) ∧ W1.cell? ⟨w.heap.size + 1, 0, none⟩ = some (.string ys) ∧ W1.cell? ⟨w.heap.size + 1, 1, none⟩ = some (.int .i64 (yd : Int)) := by
    have h1 : W1.heap[w.heap.size]? = some (.cells #[.string xs, .int .i64 (xd : Int)] 47 (0, 0)) := by
      rw [← hW1]
      exact (heap_alloc_old _ _ (by simp)).trans (Array.getElem?_push_size)
    have h2 : W1.heap[w.heap.size + 1]? = some (.cells #[.string ys, .int .i64 (yd : Int)] 47 (0, 0)) := by
      rw [← hW1]
      have := heap_alloc_new (w.alloc (.cells #[.string xs, .int .i64 (xd : Int)] 47)) (.cells #[.string ys, .int .i64 (yd : Int)] 47)
      simpa using this
    refine ⟨?_, ?_, ?_, ?_⟩
    · rw [cell_of_row W1 _ 0 _ _ _ h1]; rfl
    · rw [cell_of_row W1 _ 1 _ _ _ h1]; rfl
    · rw [cell_of_row W1 _ 0 _ _ _ h2]; rfl
    · rw [cell_of_row W1 _ 1 _ _ _ h2]; rfl
  obtain ⟨d0, d1, d2, d3⟩ := hX1
  by_cases hd : xd = yd
  · subst hd
    obtain ⟨bx, hbx⟩ : ∃ bx : Bool, bx = true ↔ xs ∈ Pf := by
      by_cases h : xs ∈ Pf
      · exact ⟨true, by simp [h]⟩
      · exact ⟨false, by simp [h]⟩
    obtain ⟨by', hby⟩ : ∃ bx : Bool, bx = true ↔ ys ∈ Pf := by
      by_cases h : ys ∈ Pf
      · exact ⟨true, by simp [h]⟩
      · exact ⟨false, by simp [h]⟩
    have C1 : Hid (∀ w', Up W1.heap.size W1 w' → Calls Tryd.prog 57 #[.slice ad Pf.length c, .string xs] w' fun e w'' => e = .returned (.bool bx) ∧ Up W1.heap.size W1 w'') := fun w' hu => by
      refine (rhas_any ((HV.out.stay HU1.out.1).stay hu.1) hL xs bx hbx).mono ?_
      rintro e w'' ⟨rfl, rfl⟩
      exact ⟨rfl, hu⟩
    have C2 : Hid (∀ w', Up W1.heap.size W1 w' → Calls Tryd.prog 57 #[.slice ad Pf.length c, .string ys] w' fun e w'' => e = .returned (.bool by') ∧ Up W1.heap.size W1 w'') := fun w' hu => by
      refine (rhas_any ((HV.out.stay HU1.out.1).stay hu.1) hL ys by' hby).mono ?_
      rintro e w'' ⟨rfl, rfl⟩
      exact ⟨rfl, hu⟩
    have HRK : Hid (rk Pf xs = (if bx = true then -1 else 0) ∧ rk Pf ys = (if by' = true then -1 else 0)) := by
      refine ⟨?_, ?_⟩
      · unfold rk
        by_cases h : xs ∈ Pf
        · rw [if_pos h, if_pos (hbx.2 h)]
        · rw [if_neg h, if_neg (fun e => h (hbx.1 e))]
      · unfold rk
        by_cases h : ys ∈ Pf
        · rw [if_pos h, if_pos (hby.2 h)]
        · rw [if_neg h, if_neg (fun e => h (hby.1 e))]
    have hlq := lw_less xs ys
    obtain ⟨lq, elq⟩ : ∃ lq, lw xs ys = lq := ⟨_, rfl⟩
    have HLQ : Hid (lw xs ys = lq) := elq
    rw [elq] at hlq
    clear hbx hby elq
    go_enter Tryd.func40, Tryd.ntmps40
    go_upto_region 3 with fail
    go_cut [7, 8] (fun v7 v8 wx => v7 = .bool bx ∧ v8 = .bool by' ∧ Hid (Up W1.heap.size W1 wx))
    case first =>
      refine wp_region_held_drew (S := fun w' => Up W1.heap.size W1 w') (by kernel_rfl) (Up.refl W1).drew (fun hHeld => ?_)
      (try dsimp only at hHeld)
      obtain ⟨x0, hx0⟩ : ∃ x0, W1.drew = x0 := ⟨_, rfl⟩
      rw [hx0] at hHeld ⊢
      clear hx0
      refine takeH (i := 0) (v := ?_) (d := (some 19)) rfl (by kernel_rfl) (by kernel_rfl) (by kernel_rfl) rfl (fun _ _ _ h => h) (Or.inl ⟨by kernel_rfl, ?_⟩) (by first | assumption | trivial) ?_; rotate_left
      · (intro w hSw; (try dsimp only at hSw); first | (go_simp; done) | (go_simp; with_reducible rfl))
      (try simp only [Act.put, List.setIfInBounds_toArray, List.set_cons_zero, List.set_cons_succ])
      refine takeH (i := 1) (v := ?_) (d := (some 20)) rfl (by kernel_rfl) (by kernel_rfl) (by kernel_rfl) rfl (fun _ _ _ h => h) (Or.inl ⟨by kernel_rfl, ?_⟩) (by first | assumption | trivial) ?_; rotate_left
      · (intro w hSw; (try dsimp only at hSw); first | (go_simp; done) | (go_simp; with_reducible rfl))
      (try simp only [Act.put, List.setIfInBounds_toArray, List.set_cons_zero, List.set_cons_succ])
      refine takeH (i := 2) (v := ?_) (d := (some 21)) rfl (by kernel_rfl) (by kernel_rfl) (by kernel_rfl) rfl (fun _ _ _ h => h) (Or.inl ⟨by kernel_rfl, ?_⟩) (by first | assumption | trivial) ?_; rotate_left
      · (intro w hSw; (try dsimp only at hSw); have cc := cell_stay d0 hSw.1; first | (go_simp; done) | (go_simp; with_reducible rfl))
      (try simp only [Act.put, List.setIfInBounds_toArray, List.set_cons_zero, List.set_cons_succ])
      refine takeH (i := 4) (v := ?_) (d := (some 23)) rfl (by kernel_rfl) (by kernel_rfl) (by kernel_rfl) rfl (fun _ _ _ h => h) (Or.inl ⟨by kernel_rfl, ?_⟩) (by first | assumption | trivial) ?_; rotate_left
      · (intro w hSw; (try dsimp only at hSw); first | (go_simp; done) | (go_simp; with_reducible rfl))
      (try simp only [Act.put, List.setIfInBounds_toArray, List.set_cons_zero, List.set_cons_succ])
      refine takeH (i := 5) (v := ?_) (d := (some 24)) rfl (by kernel_rfl) (by kernel_rfl) (by kernel_rfl) rfl (fun _ _ _ h => h) (Or.inl ⟨by kernel_rfl, ?_⟩) (by first | assumption | trivial) ?_; rotate_left
      · (intro w hSw; (try dsimp only at hSw); first | (go_simp; done) | (go_simp; with_reducible rfl))
      (try simp only [Act.put, List.setIfInBounds_toArray, List.set_cons_zero, List.set_cons_succ])
      refine takeH (i := 6) (v := ?_) (d := (some 25)) rfl (by kernel_rfl) (by kernel_rfl) (by kernel_rfl) rfl (fun _ _ _ h => h) (Or.inl ⟨by kernel_rfl, ?_⟩) (by first | assumption | trivial) ?_; rotate_left
      · (intro w hSw; (try dsimp only at hSw); have cc := cell_stay d2 hSw.1; first | (go_simp; done) | (go_simp; with_reducible rfl))
      (try simp only [Act.put, List.setIfInBounds_toArray, List.set_cons_zero, List.set_cons_succ])
      refine wpAnyH_ready (rs := [3]) (by kernel_rfl) (by simp) (AllReadyH.cons rfl (fun K hK => ?_) AllReadyH.nil)
      go_simp
      refine (C1.out _ hHeld).mono ?_
      rintro e x1 ⟨rfl, hx1⟩
      go_wp2_with fail
      refine hK.out _ _ hx1 (fun hHeld' => ?_)
      clear hK K hHeld hx1
      have hHeld := hHeld'
      clear hHeld'
      (try dsimp only at hHeld)
      (try simp only [Act.put, List.setIfInBounds_toArray, List.set_cons_zero, List.set_cons_succ])
      refine wpAnyH_ready (rs := [7]) (by kernel_rfl) (by simp) (AllReadyH.cons rfl (fun K hK => ?_) AllReadyH.nil)
      go_simp
      refine (C2.out _ hHeld).mono ?_
      rintro e x2 ⟨rfl, hx2⟩
      go_wp2_with fail
      refine hK.out _ _ hx2 (fun hHeld' => ?_)
      clear hK K hHeld hx2
      have hHeld := hHeld'
      clear hHeld'
      (try dsimp only at hHeld)
      (try simp only [Act.put, List.setIfInBounds_toArray, List.set_cons_zero, List.set_cons_succ])
      refine takeH (i := 8) (v := ?_) (d := (some 7)) rfl (by kernel_rfl) (by kernel_rfl) (by kernel_rfl) rfl (fun _ _ _ h => h) (Or.inl ⟨by kernel_rfl, ?_⟩) (by first | assumption | trivial) ?_; rotate_left
      · (intro w hSw; (try dsimp only at hSw); first | (go_simp; done) | (go_simp; with_reducible rfl))
      (try simp only [Act.put, List.setIfInBounds_toArray, List.set_cons_zero, List.set_cons_succ])
      refine takeH (i := 9) (v := ?_) (d := (some 8)) rfl (by kernel_rfl) (by kernel_rfl) (by kernel_rfl) rfl (fun _ _ _ h => h) (Or.inl ⟨by kernel_rfl, ?_⟩) (by first | assumption | trivial) ?_; rotate_left
      · (intro w hSw; (try dsimp only at hSw); first | (go_simp; done) | (go_simp; with_reducible rfl))
      (try simp only [Act.put, List.setIfInBounds_toArray, List.set_cons_zero, List.set_cons_succ])
      refine wpAnyH_done (by kernel_rfl) ?_ _
      have HUX : Hid (Up W1.heap.size W1 x2) := hHeld
      clear hHeld
      go_wp2
      go_meet
      case rel => exact ⟨rfl, rfl, HUX⟩
    case rest =>
      obtain ⟨rfl, rfl, HU2⟩ := hcut
      have f0 := cell_stay d0 HU2.out.1
      have f2 := cell_stay d2 HU2.out.1
      have HBL : Hid (Below w.heap.size w wc) := HU1.out.1.trans (HU2.out.1.mono HU1.out.2)
      have HRES : Hid ((bx ≠ by' → b = bx) ∧ (bx = by' → b = lq)) := by
        have h2 := HB.out
        unfold AhdIs LtN at h2
        dsimp only at h2
        rw [HRK.out.1, HRK.out.2, HLQ.out] at h2
        refine ⟨fun hne => ?_, fun he => ?_⟩
        · cases bx <;> cases by' <;> simp at hne h2 <;> simp [h2]
        · subst he
          cases bx <;> cases lq <;> simp at h2 <;> simp [h2]
      clear d0 d1 d2 d3 hW1 C1 C2
      cases bx with
      | true =>
        cases by' with
        | true =>
          have e := HRES.out.2 rfl
          have HE : Hid (b = lq) := e
          clear e
          go_wp2
          go_ret
          exact ⟨congrArg (fun q => Ending.returned (Value.bool q)) HE.out.symm, HBL.out⟩
        | false =>
          have e := HRES.out.1 (by simp)
          have HE : Hid (b = true) := e
          clear e
          go_wp2
          go_ret
          exact ⟨congrArg (fun q => Ending.returned (Value.bool q)) HE.out.symm, HBL.out⟩
      | false =>
        cases by' with
        | true =>
          have e := HRES.out.1 (by simp)
          have HE : Hid (b = false) := e
          clear e
          go_wp2
          go_ret
          exact ⟨congrArg (fun q => Ending.returned (Value.bool q)) HE.out.symm, HBL.out⟩
        | false =>
          have e := HRES.out.2 rfl
          have HE : Hid (b = lq) := e
          clear e
          go_wp2
          go_ret
          exact ⟨congrArg (fun q => Ending.returned (Value.bool q)) HE.out.symm, HBL.out⟩
  · have y1 : ¬ (xd : Int) = (yd : Int) := by omega
    have HBB : Hid (decide (xd < yd) = b) := by
      have h2 := HB.out
      show decide (xd < yd) = b
      unfold AhdIs LtN at h2
      by_cases h : xd < yd
      · rw [decide_eq_true h]
        exact (h2.2 (Or.inl h)).symm
      · rw [decide_eq_false h]
        cases hb : b with
        | false => rfl
        | true =>
          rcases h2.1 hb with k | ⟨k, _⟩
          · exact absurd k h
          · exact absurd k hd
    go_enter Tryd.func40, Tryd.ntmps40
    go_wp2
    go_ret
    exact ⟨congrArg (fun q => Ending.returned (Value.bool q)) HBB.out, HU1.out.1⟩
end Go.Proofs.YtfikkkodepfdkaaDoor
