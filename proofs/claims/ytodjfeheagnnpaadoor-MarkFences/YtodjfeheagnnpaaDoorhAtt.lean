/- html: value, attribute. -/
import Derived.Test.YtodjfeheagnnpaaDoorhSml
namespace Go.Proofs.YtodjfeheagnnpaaDoor
set_option linter.unusedVariables false
open Go.RowKit Go.ChangeShapes
theorem enV (x : Int) (w : World) : (callFunc 53 #[.int .u8 x]).run Tryd.prog w = .ok (.enter 53 #[.int .u8 x]) w := Proofs.enters_of Tryd.func53 (by kernel_rfl) rfl _ _
theorem enA (x : Int) (w : World) : (callFunc 40 #[.int .u8 x]).run Tryd.prog w = .ok (.enter 40 #[.int .u8 x]) w := Proofs.enters_of Tryd.func40 (by kernel_rfl) rfl _ _
theorem enB (x : Int) (w : World) : (callFunc 24 #[.int .u8 x]).run Tryd.prog w = .ok (.enter 24 #[.int .u8 x]) w := Proofs.enters_of Tryd.func24 (by kernel_rfl) rfl _ _
theorem enN (x : Int) (w : World) : (callFunc 22 #[.int .u8 x]).run Tryd.prog w = .ok (.enter 22 #[.int .u8 x]) w := Proofs.enters_of Tryd.func22 (by kernel_rfl) rfl _ _
theorem ix_a4 {c : Nat → Int} {n e : Nat} (h : e < n) : ixI [c e] (fun j => c (e + 1 + j)) (n - (e + 1)) = if a4 c n e < n then (a4 c n e : Int) - (e + 1) else -1 := by
  have h1 : oc [c e] (fun j => c (e + 1 + j)) = fun j => c (e + 1 + j) == c e := by
    funext j
    rw [oc1]
  unfold ixI a4
  rw [h1, fs_shift (fun j => c j == c e) n (e + 1) h]
  have h2 := fs_le (fun j => c (e + 1 + j) == c e) (n := n - (e + 1)) (i := 0) (Nat.zero_le _)
  by_cases h3 : fs (fun j => c (e + 1 + j) == c e) (n - (e + 1)) 0 < n - (e + 1)
  · rw [if_pos h3, if_pos (by omega)]
    omega
  · rw [if_neg h3, if_neg (by omega)]
set_option maxRecDepth 100000 in
theorem value_no {w : World} {b off n cap : Nat} {c : Nat → Int} (h : BC w (some ⟨b, off, none⟩) n c) (hn : n ≤ 1000000000) (e : Nat) (he : e ≤ n) (hq : quB (c e) = false) :
    Calls Tryd.prog 41 #[.slice (some ⟨b, off, none⟩) n cap, .int .i64 e] w fun ev w' => ev = .returned (.tuple #[.agg #[.int .i64 0, .int .i64 0], .int .i64 (ps vlB c n e)]) ∧ Below w.heap.size w w' := by
  have ct := pass_any (cap := cap) (h.stay (below_alloc w (.cells #[.int .i64 0, .int .i64 0] 29))) hn e 53 vlB enV inValue_any
  obtain ⟨R, hR⟩ : ∃ R, ps vlB c n e = R := ⟨_, rfl⟩
  rw [hR] at ct ⊢
  clear hR
  by_cases hen : e = n
  · subst hen
    clear h hq
    go_enter Tryd.func41, Tryd.ntmps41
    go_wp2_with fail
    refine ct.mono ?_
    rintro e' w1 ⟨rfl, hw⟩
    subst w1
    go_wp2
    exact bodyPost_ret (v := .tuple #[.agg #[.int .i64 0, .int .i64 0], .int .i64 R]) (by simp [results, Tryd.results41, go_sem]) rfl ⟨rfl, by (repeat (first | exact Below.refl _ _ | (refine Below.alloc ?_ (by simp <;> omega) _) | (refine Below.setCell ?_ (by simp <;> omega) _)))⟩
  · have z1 : ((e : Int) == (n : Int)) = false := by simp only [beq_eq_false_iff_ne]; omega
    have z2 : (0 : Int) ≤ (e : Int) := by omega
    have z3 : (e : Int) < (n : Int) := by omega
    obtain ⟨b', off', eq', hc0⟩ := h e (by omega)
    injection eq' with eq'
    injection eq' with e1 e2 _
    subst e1 e2
    have hc := cell_stay hc0 (below_alloc w (.cells #[.int .i64 0, .int .i64 0] 29))
    obtain ⟨x, hx⟩ : ∃ x, c e = x := ⟨_, rfl⟩
    rw [hx] at hc hq
    clear hc0
    have k1 : (x != 34) = true := by simp [quB] at hq; simpa using hq.1
    have k2 : (x != 39) = true := by simp [quB] at hq; simpa using hq.2
    clear h hq hx
    go_enter Tryd.func41, Tryd.ntmps41
    go_wp2_with fail
    refine ct.mono ?_
    rintro e' w1 ⟨rfl, hw⟩
    subst w1
    go_wp2
    exact bodyPost_ret (v := .tuple #[.agg #[.int .i64 0, .int .i64 0], .int .i64 R]) (by simp [results, Tryd.results41, go_sem]) rfl ⟨rfl, by (repeat (first | exact Below.refl _ _ | (refine Below.alloc ?_ (by simp <;> omega) _) | (refine Below.setCell ?_ (by simp <;> omega) _)))⟩
set_option maxRecDepth 100000 in
theorem value_q {w : World} {b off n cap : Nat} {c : Nat → Int} (hC : Ch c n) (h : BC w (some ⟨b, off, none⟩) n c) (hn : n ≤ 1000000000) (hcap : n ≤ cap) (e : Nat) (he : e < n) (q : Int) (hce : c e = q) (hq : q = 34 ∨ q = 39) :
    Calls Tryd.prog 41 #[.slice (some ⟨b, off, none⟩) n cap, .int .i64 e] w fun ev w' => ev = .returned (.tuple #[.agg #[.int .i64 (if a4 c n e < n then e + 1 else 0 : Nat), .int .i64 (if a4 c n e < n then a4 c n e - (e + 1) else 0 : Nat)], .int .i64 (if a4 c n e < n then a4 c n e + 1 else n : Nat)]) ∧ Below w.heap.size w w' := by
  obtain ⟨W, hW⟩ : ∃ W, w.alloc (.cells #[.int .i64 0, .int .i64 0] 29) = W := ⟨_, rfl⟩
  have hb0 := h.stay (w' := W) (by rw [← hW]; exact below_alloc w _)
  obtain ⟨adk, hk⟩ : ∃ adk, (if cap = e + 1 then some (⟨b, off, none⟩ : Addr) else some ⟨b, off + (e + 1), none⟩) = adk := ⟨_, rfl⟩
  have hfr := BC.from hb0 (e + 1) he hcap
  rw [hk] at hfr
  have hk0 : adk ≠ none := by rw [← hk]; split <;> simp
  have hix := ix_a4 (c := c) he
  rw [hce] at hix
  have CA : Hid (∀ nq : Nat, Calls Tryd.prog 54 #[.slice adk (n - (e + 1)) (cap - (e + 1)), .int .u8 q] (W.drewN nq) fun ev w' => ev = .returned (.int .i64 (ixI [q] (fun j => c (e + 1 + j)) (n - (e + 1)))) ∧ w' = W.drewN nq) := fun nq => by
    exact idxB_any (hC.from (e + 1) he) (hfr.stay (below_drewN (Below.refl _ _) nq)) hk0 q (by omega)
  have h4 := a4_le (c := c) he
  rw [hix] at CA
  have z1 : ((e : Int) == (n : Int)) = false := by simp only [beq_eq_false_iff_ne]; omega
  have z2 : (0 : Int) ≤ (e : Int) := by omega
  have z3 : (e : Int) < (n : Int) := by omega
  obtain ⟨b', off', eq', hc⟩ := hb0 e he
  injection eq' with eq'
  injection eq' with e1 e2 _
  subst e1 e2
  rw [hce] at hc
  have k1 : IntKind.i64.wrap ((e : Int) + 1) = (e : Int) + 1 := (wrap_is _).trans (IntWalk.wrap64_in _ (by omega))
  have z4 : (0 : Int) ≤ (e : Int) + 1 := by omega
  have z5 : (e : Int) + 1 ≤ (n : Int) := by omega
  have CA2 : Hid (∀ nq : Nat, Calls Tryd.prog 54 #[.slice adk (n - (e + 1)) (cap - (e + 1)), .int .u8 q] (W.drewN nq) fun ev w' => ev = .returned (.int .i64 (if a4 c n e < n then (a4 c n e : Int) - (e + 1) else -1)) ∧ w' = W.drewN nq) := CA
  clear CA
  generalize a4 c n e = A at *
  have HY : Hid (∀ nq, (W.drewN nq).heap[w.heap.size]? = some (.cells #[.int .i64 0, .int .i64 0] 29)) := fun nq => by
    show W.heap[w.heap.size]? = _
    rw [← hW]
    exact heap_alloc_new _ _
  have HB : Hid (∀ nq, Below w.heap.size w (W.drewN nq)) := fun nq => below_drewN (by rw [← hW]; exact below_alloc w _) nq
  clear hb0 hfr hix hk0 h hC hce
  by_cases hA : A < n
  · obtain ⟨D, hD⟩ : ∃ D : Nat, (A : Int) - (e + 1) = (D : Int) := ⟨A - (e + 1), by omega⟩
    rw [if_pos hA, if_pos hA, if_pos hA, show A - (e + 1) = D by omega, show A + 1 = e + 1 + D + 1 by omega]
    have CA : Hid (∀ nq : Nat, Calls Tryd.prog 54 #[.slice adk (n - (e + 1)) (cap - (e + 1)), .int .u8 q] (W.drewN nq) fun ev w' => ev = .returned (.int .i64 (D : Int)) ∧ w' = W.drewN nq) := fun nq => by
      have := CA2.out nq
      rw [if_pos hA, hD] at this
      exact this
    have z7 : (D : Int) ≤ 1000000000 := by omega
    clear CA2 hD hA
    have z6 : ¬ (D : Int) < 0 := by omega
    rcases hq with rfl | rfl
    · go_enter Tryd.func41, Tryd.ntmps41
      go_upto_region 3 with fail
      go_quiet (first | (go_at_call 54; exact Calls.quiet_of_same (CA.out _)))
      have y := HY.out nq
      have yb := HB.out nq
      generalize W.drewN nq = V at *
      have y0 : V.cell? ⟨w.heap.size, 0, none⟩ = some (.int .i64 0) := by simp [World.cell?, y]
      have y1 : V.cell? ⟨w.heap.size, 1, none⟩ = some (.int .i64 0) := by simp [World.cell?, y]
      have y2 : V.frozen? ⟨w.heap.size, 0, none⟩ = false := by simp [World.frozen?, y]
      have y3 : V.frozen? ⟨w.heap.size, 1, none⟩ = false := by simp [World.frozen?, y]
      have HV : Hid (Below w.heap.size w V) := yb
      clear y yb hW hk hc
      go_wp2
      exact bodyPost_ret (v := .tuple #[.agg #[.int .i64 ((e : Int) + 1), .int .i64 (D : Int)], .int .i64 ((e : Int) + 1 + D + 1)]) (by simp [results, Tryd.results41, go_sem, *]) rfl ⟨by norm_cast, by (repeat (first | exact HV.out | (refine Below.setCell ?_ (by simp <;> omega) _)))⟩
    · go_enter Tryd.func41, Tryd.ntmps41
      go_upto_region 3 with fail
      go_quiet (first | (go_at_call 54; exact Calls.quiet_of_same (CA.out _)))
      have y := HY.out nq
      have yb := HB.out nq
      generalize W.drewN nq = V at *
      have y0 : V.cell? ⟨w.heap.size, 0, none⟩ = some (.int .i64 0) := by simp [World.cell?, y]
      have y1 : V.cell? ⟨w.heap.size, 1, none⟩ = some (.int .i64 0) := by simp [World.cell?, y]
      have y2 : V.frozen? ⟨w.heap.size, 0, none⟩ = false := by simp [World.frozen?, y]
      have y3 : V.frozen? ⟨w.heap.size, 1, none⟩ = false := by simp [World.frozen?, y]
      have HV : Hid (Below w.heap.size w V) := yb
      clear y yb hW hk hc
      go_wp2
      exact bodyPost_ret (v := .tuple #[.agg #[.int .i64 ((e : Int) + 1), .int .i64 (D : Int)], .int .i64 ((e : Int) + 1 + D + 1)]) (by simp [results, Tryd.results41, go_sem, *]) rfl ⟨by norm_cast, by (repeat (first | exact HV.out | (refine Below.setCell ?_ (by simp <;> omega) _)))⟩
  · rw [if_neg hA, if_neg hA, if_neg hA]
    have CA : Hid (∀ nq : Nat, Calls Tryd.prog 54 #[.slice adk (n - (e + 1)) (cap - (e + 1)), .int .u8 q] (W.drewN nq) fun ev w' => ev = .returned (.int .i64 (-1)) ∧ w' = W.drewN nq) := fun nq => by
      have := CA2.out nq
      rw [if_neg hA] at this
      exact this
    clear CA2 hA
    rcases hq with rfl | rfl
    · go_enter Tryd.func41, Tryd.ntmps41
      go_upto_region 3 with fail
      go_quiet (first | (go_at_call 54; exact Calls.quiet_of_same (CA.out _)))
      have y := HY.out nq
      have yb := HB.out nq
      generalize W.drewN nq = V at *
      have y0 : V.cell? ⟨w.heap.size, 0, none⟩ = some (.int .i64 0) := by simp [World.cell?, y]
      have y1 : V.cell? ⟨w.heap.size, 1, none⟩ = some (.int .i64 0) := by simp [World.cell?, y]
      have y2 : V.frozen? ⟨w.heap.size, 0, none⟩ = false := by simp [World.frozen?, y]
      have y3 : V.frozen? ⟨w.heap.size, 1, none⟩ = false := by simp [World.frozen?, y]
      have HV : Hid (Below w.heap.size w V) := yb
      clear y yb hW hk hc
      go_wp2
      exact bodyPost_ret (v := .tuple #[.agg #[.int .i64 0, .int .i64 0], .int .i64 (n : Int)]) (by simp [results, Tryd.results41, go_sem, *]) rfl ⟨by rfl, by (repeat (first | exact HV.out | (refine Below.setCell ?_ (by simp <;> omega) _)))⟩
    · go_enter Tryd.func41, Tryd.ntmps41
      go_upto_region 3 with fail
      go_quiet (first | (go_at_call 54; exact Calls.quiet_of_same (CA.out _)))
      have y := HY.out nq
      have yb := HB.out nq
      generalize W.drewN nq = V at *
      have y0 : V.cell? ⟨w.heap.size, 0, none⟩ = some (.int .i64 0) := by simp [World.cell?, y]
      have y1 : V.cell? ⟨w.heap.size, 1, none⟩ = some (.int .i64 0) := by simp [World.cell?, y]
      have y2 : V.frozen? ⟨w.heap.size, 0, none⟩ = false := by simp [World.frozen?, y]
      have y3 : V.frozen? ⟨w.heap.size, 1, none⟩ = false := by simp [World.frozen?, y]
      have HV : Hid (Below w.heap.size w V) := yb
      clear y yb hW hk hc
      go_wp2
      exact bodyPost_ret (v := .tuple #[.agg #[.int .i64 0, .int .i64 0], .int .i64 (n : Int)]) (by simp [results, Tryd.results41, go_sem, *]) rfl ⟨by rfl, by (repeat (first | exact HV.out | (refine Below.setCell ?_ (by simp <;> omega) _)))⟩
theorem value_any {w : World} {b off n cap : Nat} {c : Nat → Int} (hC : Ch c n) (h : BC w (some ⟨b, off, none⟩) n c) (hn : n ≤ 1000000000) (hcap : n ≤ cap) (e : Nat) (he : e ≤ n) :
    Calls Tryd.prog 41 #[.slice (some ⟨b, off, none⟩) n cap, .int .i64 e] w fun ev w' => ev = .returned (.tuple #[.agg #[.int .i64 ((vlP c n e).1 : Nat), .int .i64 ((vlP c n e).2 : Nat)], .int .i64 (vlE c n e : Nat)]) ∧ Below w.heap.size w w' := by
  cases hq : quB (c e) with
  | false =>
    have h1 : vlP c n e = (0, 0) := by unfold vlP; rw [if_neg (by rw [hq]; exact Bool.false_ne_true)]
    have h2 : vlE c n e = ps vlB c n e := by unfold vlE; rw [if_neg (by rw [hq]; exact Bool.false_ne_true)]
    rw [h1, h2]
    exact value_no h hn e he hq
  | true =>
    have hen : e < n := by
      rcases Nat.lt_or_ge e n with h1 | h1
      · exact h1
      · rw [hC.2 e h1] at hq; exact absurd hq (by decide)
    have hq' : c e = 34 ∨ c e = 39 := by simpa [quB] using hq
    have ct := value_q hC h hn hcap e hen (c e) rfl hq'
    have h2 : vlE c n e = if a4 c n e < n then a4 c n e + 1 else n := by unfold vlE; rw [if_pos hq]
    have h1 : vlP c n e = if a4 c n e < n then (e + 1, a4 c n e - (e + 1)) else (0, 0) := by unfold vlP; rw [if_pos hq]
    rw [h1, h2]
    by_cases h4 : a4 c n e < n
    · rw [if_pos h4, if_pos h4, if_pos h4] at ct
      rw [if_pos h4, if_pos h4]
      exact ct
    · rw [if_neg h4, if_neg h4, if_neg h4] at ct
      rw [if_neg h4, if_neg h4]
      exact ct
theorem lw_byte {x : Int} (h : 0 ≤ x ∧ x < 256) : 0 ≤ lw x ∧ lw x < 256 := by
  unfold lw
  by_cases hg : grB x = true
  · rw [if_pos hg]
    simp only [grB, Bool.and_eq_true, decide_eq_true_eq] at hg
    omega
  · rw [if_neg hg]; exact h
theorem nm_byt {c : Nat → Int} {n : Nat} (hC : Ch c n) (i e : Nat) (he : e ≤ n) : Byt (nm c i e) := fun x hx => by
  obtain ⟨j, hj, rfl⟩ := List.mem_map.1 hx
  rw [List.mem_range] at hj
  exact lw_byte (hC.1 (i + j) (by omega))
theorem nums_inj : ∀ {l t : List Int}, Byt l → Byt t → strOfNums l = strOfNums t → l = t := by
  intro l t hl ht h
  have h1 := congrArg (fun s : ByteArray => s.data.toList) h
  simp only [strOfNums_data] at h1
  clear h
  induction l generalizing t with
  | nil =>
    cases t with
    | nil => rfl
    | cons y t => simp at h1
  | cons x l ih =>
    cases t with
    | nil => simp at h1
    | cons y t =>
      simp only [List.map_cons, List.cons.injEq] at h1
      have hx := hl x List.mem_cons_self
      have hy := ht y List.mem_cons_self
      have := congrArg UInt8.toNat h1.1
      rw [UInt8.toNat_ofNat', UInt8.toNat_ofNat', Nat.mod_eq_of_lt (by omega), Nat.mod_eq_of_lt (by omega)] at this
      rw [show x = y by omega, ih (fun z hz => hl z (List.mem_cons_of_mem _ hz)) (fun z hz => ht z (List.mem_cons_of_mem _ hz)) h1.2]
theorem toList_inj {x y : ByteArray} (h : x.toList = y.toList) : x = y := by
  rw [Lib.toList_data, Lib.toList_data] at h
  exact ByteArray.ext (Array.ext' h)
theorem nums_beq {l t : List Int} (hl : Byt l) (ht : Byt t) : ((strOfNums l).toList == (strOfNums t).toList) = (l == t) := by
  by_cases e : l = t
  · subst e; simp
  · have h1 : (l == t) = false := by simpa using e
    rw [h1]
    simp only [beq_eq_false_iff_ne]
    exact fun h => e (nums_inj hl ht (toList_inj h))
theorem byt_lit (t : List Int) (h : t.all (fun x => decide (0 ≤ x) && decide (x < 256)) = true) : Byt t := fun x hx => by
  have := List.all_eq_true.1 h x hx
  simpa using this
/-- A name's bytes. -/
theorem nums_is {l : List Int} (hl : Byt l) (t : List Int) (ht : Byt t) : ((strOfNums l).toList == t.map fun x => UInt8.ofNat x.toNat) = (l == t) := by
  rw [← nums_beq hl ht, Lib.toList_data (strOfNums t), strOfNums_data]
theorem alt_two {l : List Int} (hl : Byt l) : altB l = (((strOfNums l).toList == [97, 108, 116]) || ((strOfNums l).toList == [116, 105, 116, 108, 101])) := by
  have h1 : ((strOfNums l).toList == [97, 108, 116]) = (l == [97, 108, 116]) := nums_is hl _ (byt_lit [97, 108, 116] rfl)
  have h2 : ((strOfNums l).toList == [116, 105, 116, 108, 101]) = (l == [116, 105, 116, 108, 101]) := nums_is hl _ (byt_lit [116, 105, 116, 108, 101] rfl)
  unfold altB
  rw [h1, h2]
set_option maxRecDepth 100000 in
set_option maxHeartbeats 1000000 in
theorem attr_any {w : World} {b off n cap : Nat} {c : Nat → Int} (hC : Ch c n) (h : BC w (some ⟨b, off, none⟩) n c) (hn : n ≤ 1000000000) (hcap : n ≤ cap) (i : Nat) (hi : i < n) :
    Calls Tryd.prog 25 #[.slice (some ⟨b, off, none⟩) n cap, .int .i64 i] w fun ev w' => ev = .returned (.tuple #[.agg #[.int .i64 ((atP c n i).1 : Nat), .int .i64 ((atP c n i).2 : Nat)], .int .i64 (atE c n i : Nat)]) ∧ Below w.heap.size w w' := by
  obtain ⟨W, hW⟩ : ∃ W, w.alloc (.cells #[.int .i64 0, .int .i64 0] 29) = W := ⟨_, rfl⟩
  have hBW : Below w.heap.size w W := by rw [← hW]; exact below_alloc w _
  have hW0 : W.heap[w.heap.size]? = some (.cells #[.int .i64 0, .int .i64 0] 29) := by rw [← hW]; exact heap_alloc_new _ _
  have hb0 := h.stay hBW
  have ct1 := pass_any (cap := cap) hb0 hn (i + 1) 40 atB enA inAttr_any
  have h1 := a1_le (c := c) hi
  have h2 := a2_le (c := c) hi
  have hfr := BC.from hb0 i (by omega) hcap
  rw [if_neg (show ¬ cap = i by omega)] at hfr
  have ct2 := small_any (cap := cap - i) (hfr.upto (m := a1 c n i - i) (by omega)) (by omega)
  rw [nm_shift] at ct2
  have HB : Hid (BC W (some ⟨b, off, none⟩) n c ∧ Ch c n) := ⟨hb0, hC⟩
  have HE1 : Hid (a1 c n i = ps atB c n (i + 1)) := rfl
  change Calls _ _ _ _ (fun e w' => e = .returned (.int .i64 (a1 c n i)) ∧ w' = W) at ct1
  rw [show ((i + 1 : Nat) : Int) = (i : Int) + 1 by omega] at ct1
  have halt := alt_two (nm_byt hC i (a1 c n i) h1.2)
  obtain ⟨X, hX⟩ : ∃ X, strOfNums (nm c i (a1 c n i)) = X := ⟨_, rfl⟩
  rw [hX] at ct2 halt
  obtain ⟨B1, hB1⟩ : ∃ B1, (X.toList == [97, 108, 116]) = B1 := ⟨_, rfl⟩
  obtain ⟨B2, hB2⟩ : ∃ B2, (X.toList == [116, 105, 116, 108, 101]) = B2 := ⟨_, rfl⟩
  rw [hB1, hB2] at halt
  have k0 : IntKind.i64.wrap ((i : Int) + 1) = (i : Int) + 1 := (wrap_is _).trans (IntWalk.wrap64_in _ (by omega))
  have z1 : (0 : Int) ≤ (i : Int) := by omega
  have z2 : (i : Int) ≤ ((a1 c n i : Nat) : Int) := by omega
  have z3 : ((a1 c n i : Nat) : Int) ≤ (cap : Int) := by omega
  have z5 : ¬ cap = i := by omega
  have HA2 : Hid (a2 c n i = ps bkB c n (a1 c n i)) := rfl
  obtain ⟨R, hR⟩ : ∃ R, atE c n i = R := ⟨_, rfl⟩
  obtain ⟨P, hP⟩ : ∃ P, atP c n i = P := ⟨_, rfl⟩
  obtain ⟨P1, P2⟩ := P
  rw [hR, hP]
  have HR : Hid (atE c n i = R ∧ atP c n i = (P1, P2)) := ⟨hR, hP⟩
  have HAL : Hid (altB (nm c i (a1 c n i)) = (B1 || B2)) := halt
  clear hR hP h hb0 hfr halt hX hC
  obtain ⟨E1, hE1⟩ : ∃ E1, a1 c n i = E1 := ⟨_, rfl⟩
  obtain ⟨E2, hE2⟩ : ∃ E2, a2 c n i = E2 := ⟨_, rfl⟩
  rw [hE1] at ct1 ct2 h1 z2 z3 HAL HA2
  rw [hE2] at h2 HA2
  have HE : Hid (a1 c n i = E1 ∧ a2 c n i = E2) := ⟨hE1, hE2⟩
  clear hE1 hE2
  go_enter Tryd.func25, Tryd.ntmps25
  go_wp2_with fail
  refine ct1.mono ?_
  rintro e w1 ⟨rfl, hw⟩
  subst w1
  clear ct1
  go_wp2_with fail
  refine ct2.mono ?_
  rintro e w2 ⟨rfl, hb2⟩
  have hb2' := HB.out.1.stay hb2
  have ct3 := pass_any (cap := cap) hb2' hn E1 24 bkB enB blank_any
  rw [← HA2.out] at ct3
  have hW2 : w2.heap[w.heap.size]? = some (.cells #[.int .i64 0, .int .i64 0] 29) := blk_stay hW0 hb2
  have HB2 : Hid (Below w.heap.size w w2) := hBW.trans (hb2.mono hBW.size)
  clear ct2 hb2 hW hBW hW0
  go_wp2_with fail
  refine ct3.mono ?_
  rintro e w3 ⟨rfl, hw⟩
  subst w3
  clear ct3
  have y0 : w2.cell? ⟨w.heap.size, 0, none⟩ = some (.int .i64 0) := by simp [World.cell?, hW2]
  have y1 : w2.cell? ⟨w.heap.size, 1, none⟩ = some (.int .i64 0) := by simp [World.cell?, hW2]
  have y2 : w2.frozen? ⟨w.heap.size, 0, none⟩ = false := by simp [World.frozen?, hW2]
  have y3 : w2.frozen? ⟨w.heap.size, 1, none⟩ = false := by simp [World.frozen?, hW2]
  have HC := HB.out.2
  by_cases h61 : c E2 = 61
  · have h2n : E2 < n := by
      rcases Nat.lt_or_ge E2 n with h3 | h3
      · exact h3
      · rw [HC.2 E2 h3] at h61; exact absurd h61 (by decide)
    have h3 : i < a3 c n i ∧ a3 c n i ≤ n := a3_le hi (by rw [HE.out.2]; exact h2n)
    have ct4 := pass_any (cap := cap) hb2' hn (E2 + 1) 24 bkB enB blank_any
    have he3 : ps bkB c n (E2 + 1) = a3 c n i := by unfold a3; rw [HE.out.2]
    rw [he3, show ((E2 + 1 : Nat) : Int) = (E2 : Int) + 1 by omega] at ct4
    have HQ : Hid (R = vlE c n (a3 c n i) ∧ (P1, P2) = if (B1 || B2) = true then vlP c n (a3 c n i) else (0, 0)) := by
      obtain ⟨hr, hp⟩ := HR.out
      unfold atE at hr
      unfold atP at hp
      rw [HE.out.2, if_pos h61] at hr hp
      rw [HE.out.1, HAL.out] at hp
      exact ⟨hr.symm, hp.symm⟩
    have ct5 := value_any HC hb2' hn hcap (a3 c n i) h3.2
    obtain ⟨E3, hE3⟩ : ∃ E3, a3 c n i = E3 := ⟨_, rfl⟩
    rw [hE3] at ct4 ct5 h3 HQ
    obtain ⟨⟨V1, V2⟩, hV⟩ : ∃ V : Nat × Nat, vlP c n E3 = V := ⟨_, rfl⟩
    obtain ⟨vE, hvE⟩ : ∃ vE, vlE c n E3 = vE := ⟨_, rfl⟩
    rw [hV, hvE] at ct5 HQ
    obtain ⟨b', off', eq', hc⟩ := hb2' E2 h2n
    injection eq' with eq'
    injection eq' with e1 e2 _
    subst e1 e2
    rw [h61] at hc
    have x1 : ((E2 : Int) == (n : Int)) = false := by simp only [beq_eq_false_iff_ne]; omega
    have x2 : (0 : Int) ≤ (E2 : Int) := by omega
    have x3 : (E2 : Int) < (n : Int) := by omega
    have x4 : IntKind.i64.wrap ((E2 : Int) + 1) = (E2 : Int) + 1 := (wrap_is _).trans (IntWalk.wrap64_in _ (by omega))
    clear he3 hE3 hV hvE hb2' HC h61
    go_wp2_with fail
    refine ct4.mono ?_
    rintro e w3 ⟨rfl, hw⟩
    subst w3
    clear ct4
    go_wp2_with fail
    refine ct5.mono ?_
    rintro e w3 ⟨rfl, hb3⟩
    have HB3 : Hid (Below w.heap.size w w3) := HB2.out.trans (hb3.mono HB2.out.size)
    have hW3 := blk_stay hW2 hb3
    clear ct5 hb3 y0 y1 y2 y3 hW2 hc
    obtain ⟨U, hU⟩ : ∃ U, w3.alloc (.cells #[.int .i64 V1, .int .i64 V2] 29) = U := ⟨_, rfl⟩
    have hWU : U.heap[w.heap.size]? = some (.cells #[.int .i64 0, .int .i64 0] 29) := by rw [← hU]; exact blk_stay hW3 (below_alloc w3 _)
    have hUU : U.heap[w3.heap.size]? = some (.cells #[.int .i64 V1, .int .i64 V2] 29) := by rw [← hU]; exact heap_alloc_new _ _
    have HBU : Hid (Below w.heap.size w U) := by
      show Below _ _ _
      rw [← hU]
      exact HB3.out.alloc HB3.out.size _
    have y0 : U.cell? ⟨w.heap.size, 0, none⟩ = some (.int .i64 0) := by simp [World.cell?, hWU]
    have y1 : U.cell? ⟨w.heap.size, 1, none⟩ = some (.int .i64 0) := by simp [World.cell?, hWU]
    have y2 : U.frozen? ⟨w.heap.size, 0, none⟩ = false := by simp [World.frozen?, hWU]
    have y3 : U.frozen? ⟨w.heap.size, 1, none⟩ = false := by simp [World.frozen?, hWU]
    have y4 : U.cell? ⟨w3.heap.size, 0, none⟩ = some (.int .i64 V1) := by simp [World.cell?, hUU]
    have y5 : U.cell? ⟨w3.heap.size, 1, none⟩ = some (.int .i64 V2) := by simp [World.cell?, hUU]
    clear hWU hUU hW3
    cases B1 with
    | true =>
      have hB1' : X.toList = [97, 108, 116] := by simpa using hB1
      clear hB1
      go_wp2
      refine bodyPost_ret (v := .tuple #[.agg #[.int .i64 (V1 : Int), .int .i64 (V2 : Int)], .int .i64 (vE : Int)]) (by simp [results, Tryd.results25, go_sem, *]) rfl ⟨?_, by (repeat (first | exact HBU.out | (refine Below.setCell ?_ (by simp <;> omega) _)))⟩
      obtain ⟨q1, q2⟩ := HQ.out
      injection q2 with q2 q3
      rw [q1, q2, q3]
    | false =>
      cases B2 with
      | true =>
        have hB1' : ¬ X.toList = [97, 108, 116] := by simpa using hB1
        have hB2' : X.toList = [116, 105, 116, 108, 101] := by simpa using hB2
        clear hB1 hB2
        go_wp2
        refine bodyPost_ret (v := .tuple #[.agg #[.int .i64 (V1 : Int), .int .i64 (V2 : Int)], .int .i64 (vE : Int)]) (by simp [results, Tryd.results25, go_sem, *]) rfl ⟨?_, by (repeat (first | exact HBU.out | (refine Below.setCell ?_ (by simp <;> omega) _)))⟩
        obtain ⟨q1, q2⟩ := HQ.out
        injection q2 with q2 q3
        rw [q1, q2, q3]
      | false =>
        have hB1' : ¬ X.toList = [97, 108, 116] := by simpa using hB1
        have hB2' : ¬ X.toList = [116, 105, 116, 108, 101] := by simpa using hB2
        go_wp2
        refine bodyPost_ret (v := .tuple #[.agg #[.int .i64 0, .int .i64 0], .int .i64 (vE : Int)]) (by simp [results, Tryd.results25, go_sem, *]) rfl ⟨?_, by (repeat (first | exact HBU.out | (refine Below.setCell ?_ (by simp <;> omega) _)))⟩
        obtain ⟨q1, q2⟩ := HQ.out
        injection q2 with q2 q3
        rw [q1, q2, q3]
        rfl
  · have HQ : Hid (R = E2 ∧ P1 = 0 ∧ P2 = 0) := by
      obtain ⟨hr, hp⟩ := HR.out
      unfold atE at hr
      unfold atP at hp
      rw [HE.out.2, if_neg h61] at hr hp
      injection hp with hp1 hp2
      exact ⟨hr.symm, hp1.symm, hp2.symm⟩
    by_cases hen : E2 = n
    · subst hen
      clear h61 hb2' HC hW2
      go_wp2
      refine bodyPost_ret (v := .tuple #[.agg #[.int .i64 0, .int .i64 0], .int .i64 (E2 : Int)]) (by simp [results, Tryd.results25, go_sem, *]) rfl ⟨?_, by (repeat (first | exact HB2.out | (refine Below.setCell ?_ (by simp <;> omega) _)))⟩
      obtain ⟨q1, q2, q3⟩ := HQ.out
      rw [q1, q2, q3]
      rfl
    · obtain ⟨b', off', eq', hc⟩ := hb2' E2 (by omega)
      injection eq' with eq'
      injection eq' with e1 e2 _
      subst e1 e2
      obtain ⟨x, hx⟩ : ∃ x, c E2 = x := ⟨_, rfl⟩
      rw [hx] at hc h61
      have x1 : ((E2 : Int) == (n : Int)) = false := by simp only [beq_eq_false_iff_ne]; omega
      have x2 : (0 : Int) ≤ (E2 : Int) := by omega
      have x3 : (E2 : Int) < (n : Int) := by omega
      have x4 : (x != 61) = true := by simpa using h61
      clear h61 hb2' HC hW2 hx
      go_wp2
      refine bodyPost_ret (v := .tuple #[.agg #[.int .i64 0, .int .i64 0], .int .i64 (E2 : Int)]) (by simp [results, Tryd.results25, go_sem, *]) rfl ⟨?_, by (repeat (first | exact HB2.out | (refine Below.setCell ?_ (by simp <;> omega) _)))⟩
      obtain ⟨q1, q2, q3⟩ := HQ.out
      rw [q1, q2, q3]
      rfl
end Go.Proofs.YtodjfeheagnnpaaDoor
