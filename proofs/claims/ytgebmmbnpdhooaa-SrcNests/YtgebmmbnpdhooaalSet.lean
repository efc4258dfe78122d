/- label: lay, all, New, Set, At, Len. -/
import Derived.Test.YtgebmmbnpdhooaalBase
namespace Go.Proofs.Ytgebmmbnpdhooaa
set_option linter.unusedVariables false
open Go.RowKit Go.ChangeShapes
set_option maxHeartbeats 1000000 in
theorem lay_any {w : World} {g n : Nat} {L : Nat → Int} (hR : LR w g n L) (hn : n ≤ 65536) (l f t : Int) :
    Calls Try.prog 29 #[.slice (some ⟨g, 0, none⟩) n n, .int .u8 l, .int .i64 f, .int .i64 t] w fun e w' =>
      e = .returned (.tuple #[]) ∧ LR w' g n (setL L l f t) ∧ w.grownBy w' (some g) ∧ w'.heap.size = w.heap.size := by
  obtain ⟨F, hF⟩ : ∃ F : Nat, max f 0 = (F : Int) := ⟨(max f 0).toNat, by omega⟩
  obtain ⟨t', ht⟩ : ∃ t' : Int, min t (n : Int) = t' := ⟨_, rfl⟩
  have HF : Hid (max f 0 = (F : Int) ∧ min t (n : Int) = t') := ⟨hF, ht⟩
  have HR : Hid (LR w g n L) := hR
  clear hR
  go_enter Try.func29, Try.ntmps29
  go_wp2
  go_loopg [8] ((t' - F).toNat) (fun q iv wr => ∃ k : Nat, F ≤ k ∧ (k = F ∨ (k : Int) ≤ t') ∧ q = (t' - k).toNat ∧ iv = .int .i64 k ∧ Hid (LR wr g n (setL L l F k)) ∧ Hid (w.grownBy wr (some g)) ∧ Hid (wr.heap.size = w.heap.size))
  case atStart => exact ⟨F, Nat.le_refl _, Or.inl rfl, rfl, rfl, HR.out.congr fun i _ => (setL_none L l F F (Int.le_refl _) i).symm, World.grownBy.refl _ _, rfl⟩
  case round =>
    obtain ⟨k, hk, hk2, hq, rfl, HL, HG, HS⟩ := hrel
    by_cases hlt : (k : Int) < t'
    · have z0 : k < n := by have := HF.out; omega
      have z1 : (0 : Int) ≤ (k : Int) := by omega
      have z2 : (k : Int) < (n : Int) := by omega
      have z3 : ¬ (k : Int) < 0 := by omega
      have hc := HL.out.cell z0
      have hf := HL.out.frozen k
      clear hF ht
      go_wp2
      go_roundg ((t' - (k + 1 : Nat)).toNat)
      case measure => omega
      case rel => exact ⟨k + 1, by omega, Or.inr (by omega), rfl, by go_num, (HL.out.set k l).congr fun i _ => by rw [setL_snoc L l F k (by omega) i]; norm_cast, grown_set HG.out k _, by show (World.setCell _ _ _).heap.size = _; rw [← HS.out]; simp [World.setCell]⟩
    · clear hF ht
      go_wp2
      go_end0
      refine ⟨rfl, HL.out.congr fun i hi => setL_same ?_, HG.out, HS.out⟩
      have := HF.out
      omega
theorem lay_none (ad : Option Addr) (c : Nat) (l f t : Int) (w : World) :
    Calls Try.prog 29 #[.slice ad 0 c, .int .u8 l, .int .i64 f, .int .i64 t] w fun e w' => e = .returned (.tuple #[]) ∧ w' = w := by
  obtain ⟨F, hF⟩ : ∃ F : Int, max f 0 = F := ⟨_, rfl⟩
  obtain ⟨t', ht⟩ : ∃ t' : Int, min t 0 = t' := ⟨_, rfl⟩
  have h : ¬ F < t' := by omega
  go_enter Try.func29, Try.ntmps29
  go_wp2
  go_loopg [8] 0 (fun q iv wr => q = 0 ∧ iv = .int .i64 F ∧ wr = w)
  case atStart => exact ⟨rfl, rfl, rfl⟩
  case round =>
    obtain ⟨_, rfl, rfl⟩ := hrel
    go_wp2
    go_end0
    exact ⟨rfl, rfl⟩
theorem all_nil (w : World) : Calls Try.prog 28 #[.pointer none] w fun e w' => e = .returned (.slice none 0 0) ∧ w' = w := by
  go_enter Try.func28, Try.ntmps28
  go_wp2
  go_ret
  exact ⟨rfl, rfl⟩
theorem all_any {w : World} {T g n : Nat} {L : Nat → Int} (h : Sh w T g n L) : Calls Try.prog 28 #[.pointer (some ⟨T, 0, none⟩)] w fun e w' => e = .returned (.slice (some ⟨g, 0, none⟩) n n) ∧ w' = w := by
  have hc := h.cell
  clear h
  go_enter Try.func28, Try.ntmps28
  go_wp2
  go_ret
  exact ⟨rfl, rfl⟩
theorem set_any {w : World} {T g n : Nat} {L : Nat → Int} (h : Sh w T g n L) (hn : n ≤ 65536) (l f t : Int) :
    Calls Try.prog 40 #[.pointer (some ⟨T, 0, none⟩), .int .u8 l, .int .i64 f, .int .i64 t] w fun e w' =>
      e = .returned (.tuple #[]) ∧ Sh w' T g n (setL L l f t) ∧ w.grownBy w' (some g) ∧ w'.heap.size = w.heap.size := by
  have c1 := all_any h
  have c2 := lay_any h.row hn l f t
  have H : Hid (Sh w T g n L) := h
  clear h
  go_enter Try.func40, Try.ntmps40
  go_wp2_with fail
  refine c1.mono ?_
  rintro e w1 ⟨rfl, h1⟩
  subst w1
  clear c1
  go_wp2_with fail
  refine c2.mono ?_
  rintro e w2 ⟨rfl, h2, h3, h4⟩
  have H2 : Hid (LR w2 g n (setL L l f t) ∧ w.grownBy w2 (some g) ∧ w2.heap.size = w.heap.size) := ⟨h2, h3, h4⟩
  clear c2 h2 h3 h4
  go_wp2
  go_end0
  exact ⟨rfl, ⟨(H2.out.2.1.block T H.out.lt (fun e => H.out.ne (Option.some.inj e))).trans H.out.box, H2.out.1⟩, H2.out.2⟩
theorem set_nil (l f t : Int) (w : World) :
    Calls Try.prog 40 #[.pointer none, .int .u8 l, .int .i64 f, .int .i64 t] w fun e w' => e = .returned (.tuple #[]) ∧ w' = w := by
  have c1 := all_nil w
  have c2 := lay_none none 0 l f t w
  go_enter Try.func40, Try.ntmps40
  go_wp2_with fail
  refine c1.mono ?_
  rintro e w1 ⟨rfl, h1⟩
  subst w1
  clear c1
  go_wp2_with fail
  refine c2.mono ?_
  rintro e w2 ⟨rfl, h2⟩
  subst w2
  clear c2
  go_wp2
  go_end0
  exact ⟨rfl, rfl⟩
theorem at_no {w : World} {T g n : Nat} {L : Nat → Int} (h : Sh w T g n L) (i : Int) (hi : i < 0 ∨ (n : Int) ≤ i) : Calls Try.prog 17 #[.pointer (some ⟨T, 0, none⟩), .int .i64 i] w fun e w' => e = .returned (.int .u8 0) ∧ w' = w := by
  have c1 := all_any h
  clear h
  by_cases h1 : i < 0
  · clear hi
    go_enter Try.func17, Try.ntmps17
    go_wp2_with fail
    refine c1.mono ?_
    rintro e w1 ⟨rfl, h1⟩
    subst w1
    clear c1
    go_wp2
    go_ret
    exact ⟨rfl, rfl⟩
  · have h2 : (n : Int) ≤ i := by omega
    clear hi
    go_enter Try.func17, Try.ntmps17
    go_wp2_with fail
    refine c1.mono ?_
    rintro e w1 ⟨rfl, h1⟩
    subst w1
    clear c1
    go_wp2
    go_ret
    exact ⟨rfl, rfl⟩
theorem at_any {w : World} {T g n : Nat} {L : Nat → Int} (h : Sh w T g n L) (i : Nat) (hi : i < n) : Calls Try.prog 17 #[.pointer (some ⟨T, 0, none⟩), .int .i64 i] w fun e w' => e = .returned (.int .u8 (L i)) ∧ w' = w := by
  have c1 := all_any h
  have hc := h.row.cell hi
  have z1 : ¬ (i : Int) < 0 := by omega
  have z2 : ¬ (n : Int) ≤ (i : Int) := by omega
  have z3 : (i : Int) < (n : Int) := by omega
  have z4 : (0 : Int) ≤ (i : Int) := by omega
  clear h
  go_enter Try.func17, Try.ntmps17
  go_wp2_with fail
  refine c1.mono ?_
  rintro e w1 ⟨rfl, h1⟩
  subst w1
  clear c1
  go_wp2
  go_ret
  exact ⟨rfl, rfl⟩
theorem at_nil (i : Int) (w : World) : Calls Try.prog 17 #[.pointer none, .int .i64 i] w fun e w' => e = .returned (.int .u8 0) ∧ w' = w := by
  have c1 := all_nil w
  by_cases h1 : i < 0
  · go_enter Try.func17, Try.ntmps17
    go_wp2_with fail
    refine c1.mono ?_
    rintro e w1 ⟨rfl, h1⟩
    subst w1
    clear c1
    go_wp2
    go_ret
    exact ⟨rfl, rfl⟩
  · have h2 : (0 : Int) ≤ i := by omega
    go_enter Try.func17, Try.ntmps17
    go_wp2_with fail
    refine c1.mono ?_
    rintro e w1 ⟨rfl, h1⟩
    subst w1
    clear c1
    go_wp2
    go_ret
    exact ⟨rfl, rfl⟩
theorem new_no (n : Int) (h : n < 0 ∨ 65536 < n) (w : World) : Calls Try.prog 19 #[.int .i64 n] w fun e w' => e = .returned (.tuple #[.pointer none, .int .i64 2]) ∧ w' = w := by
  by_cases h1 : n < 0
  · clear h
    go_enter Try.func19, Try.ntmps19
    go_wp2
    exact bodyPost_ret (v := .tuple #[.pointer none, .int .i64 2]) (by simp [results, Try.results19, go_sem]) rfl ⟨rfl, rfl⟩
  · have h2 : 65536 < n := by omega
    clear h
    go_enter Try.func19, Try.ntmps19
    go_wp2
    exact bodyPost_ret (v := .tuple #[.pointer none, .int .i64 2]) (by simp [results, Try.results19, go_sem]) rfl ⟨rfl, rfl⟩
theorem new_ok (n : Nat) (hn : n ≤ 65536) (w : World) : Calls Try.prog 19 #[.int .i64 n] w fun e w' => ∃ T g, e = .returned (.tuple #[.pointer (some ⟨T, 0, none⟩), .int .i64 0]) ∧ w.heap.size ≤ T ∧ w.heap.size ≤ g ∧ Sh w' T g n (fun _ => 1) ∧ Up w.heap.size w w' := by
  have hmk : ∀ (w : World), (Instr.makeSlice 34 (.int .i64 (n : Int)) (.int .i64 (n : Int))).run Try.prog w = .ok (.slice (some ⟨w.heap.size, 0, none⟩) n n) (w.alloc (.cells (madeCells #[Value.int .u8 0] n) 43)) := run_make_row' (P := Try.prog) 34 43 (.int .u8 0) 1 Try.underlying34 infoL rfl .i64 .i64 n (by omega) (by omega)
  have z1 : ¬ (n : Int) < 0 := by omega
  have z2 : ¬ (65536 : Int) < (n : Int) := by omega
  obtain ⟨W, hW⟩ : ∃ W, (w.alloc (.cells (madeCells #[Value.int .u8 0] n) 43)).alloc (.cells #[.slice (some ⟨w.heap.size, 0, none⟩) n n] 74) = W := ⟨_, rfl⟩
  have hs : (w.alloc (.cells (madeCells #[Value.int .u8 0] n) 43)).heap.size = w.heap.size + 1 := by simp
  have hS : Sh W (w.heap.size + 1) w.heap.size n (fun _ => 0) := by
    rw [← hW]
    refine ⟨?_, ((made_lr w n)).stay ((Below.refl _ _).alloc (Nat.le_refl _) _)⟩
    rw [← hs]
    exact heap_alloc_new _ _
  have hU : Up w.heap.size w W := by rw [← hW]; exact ((Up.refl w).alloc _).alloc _
  have hc := hS.cell
  have c1 := lay_any hS.row hn 1 0 n
  have H : Hid (Sh W (w.heap.size + 1) w.heap.size n (fun _ => 0) ∧ Up w.heap.size w W) := ⟨hS, hU⟩
  clear hS hU hs
  go_enter Try.func19, Try.ntmps19
  go_wp2_with fail
  refine c1.mono ?_
  rintro e w2 ⟨rfl, h2, h3, h4⟩
  have H2 : Hid (LR w2 w.heap.size n (setL (fun _ => 0) 1 0 n) ∧ W.grownBy w2 (some w.heap.size) ∧ w2.heap.size = W.heap.size) := ⟨h2, h3, h4⟩
  clear c1 h2 h3 h4 hW hc hmk
  go_wp2
  refine bodyPost_ret (v := .tuple #[.pointer (some ⟨w.heap.size + 1, 0, none⟩), .int .i64 0]) (by simp [results, Try.results19, go_sem]) rfl ?_
  refine ⟨_, w.heap.size, rfl, by omega, by omega, ⟨(H2.out.2.1.block _ H.out.1.lt (fun e => H.out.1.ne (Option.some.inj e))).trans H.out.1.box, H2.out.1.congr fun i hi => ?_⟩, H.out.2.grown H2.out.2.1 (fun k hk => by cases hk; exact Nat.le_refl _)⟩
  unfold setL
  rw [if_pos (by omega)]
end Go.Proofs.Ytgebmmbnpdhooaa
