/- The reference's low, put, tag, shut. -/
import Derived.Test.YtjieonldmckheaaDoorhRef1
import Derived.Test.YtjieonldmckheaaDoorhOM
import Derived.Test.YtjieonldmckheaaDoorhLay
import Derived.Test.YtjieonldmckheaaDoorlRef
namespace Go.Proofs.YtjieonldmckheaaDoor
set_option linter.unusedVariables false
open Go.RowKit Go.ChangeShapes
theorem om_conv (w : World) (base : Nat) (hb : base ≤ w.heap.size) (t : List Int) (ht : Byt t) : OMg (Lib.bytesWorld w 5 (strOfNums t)) base w.heap.size (grownCap w t.length 0 5) t := by
  have hnew := Lib.bytesWorld_at_new w 5 (strOfNums t)
  have hsz : (Lib.bytesCells w 5 (strOfNums t)).size = grownCap w t.length 0 5 := by
    have hge := grownCap_ge w t.length 0 5
    have hss := strOfNums_size t
    simp [Lib.bytesCells, hss]
    omega
  refine ⟨hb, by rw [Lib.bytesWorld_size]; omega, grownCap_ge _ _ _ _, fun j hj => ⟨?_, ?_⟩, fun j x hx => ?_⟩
  · have hj2 : j < (Lib.bytesCells w 5 (strOfNums t)).size := by rw [hsz]; exact hj
    simp only [World.cell?, hnew, Array.getElem?_eq_getElem hj2]
    rfl
  · have hj2 : j < (Lib.bytesCells w 5 (strOfNums t)).size := by rw [hsz]; exact hj
    simp [World.frozen?, hnew]
    omega
  · have hj := (List.getElem?_eq_some_iff.1 hx).1
    obtain ⟨b, off, e, hc⟩ := conv_bc w t ht j hj
    injection e with e
    injection e with e1 e2 _
    subst e1 e2
    rw [Nat.zero_add] at hc
    rw [hc]
    simp [hx]
theorem OMg.put {w : World} {base g cap : Nat} {l : List Int} (h : OMg w base g cap l) (k : Nat) (hk : k < l.length) (x : Int) : OMg (w.setCell ⟨g, k, none⟩ (.int .u8 x)) base g cap (l.set k x) := by
  refine ⟨h.lo, by simpa using h.hi, by rw [List.length_set]; exact h.len, fun j hj => ⟨?_, ?_⟩, fun j y hy => ?_⟩
  · have := h.len
    by_cases e : j = k
    · subst e
      obtain ⟨u, hu⟩ := Option.isSome_iff_exists.1 (h.there j hj).1
      rw [World.cell?_setCell_same _ _ _ hu]; rfl
    · rw [World.cell?_setCell_other _ _ _ _ (by simp <;> omega)]
      exact (h.there j hj).1
  · rw [World.frozen?_setCell]
    exact (h.there j hj).2
  · rw [List.getElem?_set] at hy
    by_cases e : k = j
    · subst e
      rw [if_pos rfl, if_pos hk] at hy
      injection hy with hy
      subst hy
      exact World.cell?_setCell_same _ _ _ (h.cells k l[k] (List.getElem?_eq_getElem hk))
    · rw [if_neg e] at hy
      rw [World.cell?_setCell_other _ _ _ _ (by simp <;> omega)]
      exact h.cells j y hy
theorem low_sum {x : Int} (h : grB x = true) : IntKind.u8.wrap (x + 32) = lw x := by
  unfold lw
  rw [if_pos h]
  simp only [grB, Bool.and_eq_true, decide_eq_true_eq] at h
  simp only [IntKind.wrap, IntKind.bits, IntKind.signed]
  have h2 : (x + 32) % 256 = x + 32 := Int.emod_eq_of_lt (by omega) (by omega)
  simp [h2]
theorem md_setL (c : Nat → Int) (n k : Nat) (h : k < n) : (md c n k).set k (lw (c k)) = md c n (k + 1) := by
  apply List.ext_getElem?
  intro j
  rw [List.getElem?_set]
  by_cases hj : k = j
  · subst hj
    rw [if_pos rfl, if_pos (by rw [md_len]; exact h)]
    simp [md, List.getElem?_range h]
  · rw [if_neg hj]
    by_cases hjn : j < n
    · simp only [md, List.getElem?_map, List.getElem?_range hjn, Option.map_some]
      by_cases h1 : j < k
      · rw [if_pos h1, if_pos (by omega)]
      · rw [if_neg h1, if_neg (by omega)]
    · rw [List.getElem?_eq_none (by rw [md_len]; omega), List.getElem?_eq_none (by rw [md_len]; omega)]
theorem md_get (c : Nat → Int) (n k : Nat) (h : k < n) : (md c n k)[k]? = some (c k) := by simp [md, List.getElem?_range h]
theorem cl_all (l : List Int) : cl (cL l) l.length = l := cl_cL l
set_option maxRecDepth 100000 in
set_option maxHeartbeats 1000000 in
theorem rlow_any {c : Nat → Int} {n : Nat} (hC : ∀ j, j < n → 0 ≤ c j ∧ c j < 256) (hn : n ≤ 1000000) (s : ByteArray) (hs : strOfNums (cl c n) = s) (w : World) :
    Calls Tryd.prog 42 #[.string s] w fun e w' => e = .returned (.string (strOfNums (nm c 0 n))) ∧ Below w.heap.size w w' := by
  have hcv := Lib.run_convert_string_bytes (P := Tryd.prog) w 9 22 5 s Tryd.underlying9 Tryd.underlying22 Tryd.underlying5
  have hom := om_conv w w.heap.size (Nat.le_refl _) (cl c n) (cl_byt2 hC)
  have hbw := conv_below w (strOfNums (cl c n))
  have hsz : s.size = n := by rw [← hs, strOfNums_size, cl_len]
  rw [hs, cl_len] at hom
  rw [hs] at hbw
  rw [hsz] at hcv
  generalize Lib.bytesWorld w 5 s = W at hcv hom hbw
  generalize grownCap w n 0 5 = gc at hcv hom
  rw [← md_zero] at hom
  have HO : Hid (OMg W w.heap.size w.heap.size gc (md c n 0)) := hom
  have HU : Hid (Up w.heap.size w W) := ⟨hbw, hbw.size⟩
  obtain ⟨X, hX⟩ : ∃ X, strOfNums (nm c 0 n) = X := ⟨_, rfl⟩
  have HX : Hid (strOfNums (nm c 0 n) = X) := hX
  rw [hX]
  obtain ⟨B, hB⟩ : ∃ B, w.heap.size = B := ⟨_, rfl⟩
  have HBB : Hid (w.heap.size = B) := hB
  have HC : Hid (∀ j, j < n → 0 ≤ c j ∧ c j < 256) := hC
  rw [hB] at hcv HO HU
  have HBe : Hid (Up B w W → Below w.heap.size w W) := fun h => by rw [HBB.out]; exact h.1
  clear hom hbw hs hsz hX hC
  have hpost : (fun (e : Ending) (w' : World) => e = .returned (.string X) ∧ Below w.heap.size w w') = (fun (e : Ending) (w' : World) => e = .returned (.string X) ∧ Below B w w') := by rw [hB]
  rw [hpost]
  clear hpost hB
  go_enter Tryd.func42, Tryd.ntmps42
  go_wp2
  go_loopg [4] n (fun q iv wr => ∃ k : Nat, k ≤ n ∧ q = n - k ∧ iv = .int .i64 k ∧ Hid (OMg wr B B gc (md c n k)) ∧ Hid (Up B w wr))
  case atStart => exact ⟨0, Nat.zero_le _, rfl, rfl, HO, HU⟩
  case round =>
    obtain ⟨k, hk, hq, rfl, HOk, HUk⟩ := hrel
    by_cases hlt : k < n
    · have z1 : (k : Int) < (n : Int) := by omega
      have z2 : (0 : Int) ≤ (k : Int) := by omega
      have hc := HOk.out.cells k (c k) (md_get c n k hlt)
      have hfz := (HOk.out.there k (by have := HOk.out.len; rw [md_len] at this; omega)).2
      have hset := HOk.out.put k (by rw [md_len]; exact hlt) (lw (c k))
      rw [md_setL c n k hlt] at hset
      have HM : Hid (grB (c k) = false → md c n (k + 1) = md c n k) := md_same c n k
      have HS1 : Hid (OMg (wr.setCell ⟨B, k, none⟩ (.int .u8 (lw (c k)))) B B gc (md c n (k + 1))) := hset
      have HS2 : Hid (Up B w (wr.setCell ⟨B, k, none⟩ (.int .u8 (lw (c k))))) := HUk.out.setCell (Nat.le_refl _) _
      obtain ⟨x, hx⟩ : ∃ x, c k = x := ⟨_, rfl⟩
      rw [hx] at hc HS1 HS2 HM
      clear hset hx
      by_cases a1 : 65 ≤ x
      · by_cases a2 : x ≤ 90
        · have hg : grB x = true := by simp [grB, a1, a2]
          have e1 := low_sum hg
          obtain ⟨y, hy⟩ : ∃ y, lw x = y := ⟨_, rfl⟩
          rw [hy] at e1 HS1 HS2
          clear hg hy
          go_wp2
          go_roundg (n - (k + 1))
          case measure => omega
          case rel => exact ⟨k + 1, by omega, rfl, by go_num, HS1, HS2⟩
        · have hg : grB x = false := by simp [grB, a2]
          have HO2 : Hid (OMg wr B B gc (md c n (k + 1))) := by show OMg _ _ _ _ _; rw [HM.out hg]; exact HOk.out
          have a3 : decide (x ≤ 90) = false := by simpa using a2
          clear hg
          go_wp2
          go_roundg (n - (k + 1))
          case measure => omega
          case rel => exact ⟨k + 1, by omega, rfl, by go_num, HO2, HUk⟩
      · have hg : grB x = false := by simp [grB, a1]
        have HO2 : Hid (OMg wr B B gc (md c n (k + 1))) := by show OMg _ _ _ _ _; rw [HM.out hg]; exact HOk.out
        clear hg
        go_wp2
        go_roundg (n - (k + 1))
        case measure => omega
        case rel => exact ⟨k + 1, by omega, rfl, by go_num, HO2, HUk⟩
    · obtain rfl : k = n := by omega
      have ht := str_bc (cap := gc) HOk.out.bc
      rw [cl_all, md_len, md_all, HX.out] at ht
      have z1 : ¬ (k : Int) < (k : Int) := by omega
      go_wp2
      go_ret
      exact ⟨rfl, HUk.out.1⟩
set_option maxHeartbeats 1000000 in
theorem rput_any {w : World} {g n : Nat} {L : Nat → Int} (hR : LR w g n L) (hn : n ≤ 65536) (l : Int) (f t : Nat) (ht : t ≤ n) :
    Calls Tryd.prog 32 #[.slice (some ⟨g, 0, none⟩) n n, .int .u8 l, .int .i64 f, .int .i64 t] w fun e w' =>
      e = .returned (.tuple #[]) ∧ LR w' g n (setL L l f t) ∧ w.grownBy w' (some g) ∧ w'.heap.size = w.heap.size := by
  have HR : Hid (LR w g n L) := hR
  clear hR
  go_enter Tryd.func32, Tryd.ntmps32
  go_wp2
  go_loopg [8] (t - f) (fun q iv wr => ∃ k : Nat, f ≤ k ∧ (k = f ∨ k ≤ t) ∧ q = t - k ∧ iv = .int .i64 k ∧ Hid (LR wr g n (setL L l f k)) ∧ Hid (w.grownBy wr (some g)) ∧ Hid (wr.heap.size = w.heap.size))
  case atStart => exact ⟨f, Nat.le_refl _, Or.inl rfl, rfl, rfl, HR.out.congr fun i _ => (setL_none L l f f (Int.le_refl _) i).symm, World.grownBy.refl _ _, rfl⟩
  case round =>
    obtain ⟨k, hk, hk2, hq, rfl, HL, HG, HS⟩ := hrel
    by_cases hlt : k < t
    · have z0 : k < n := by omega
      have z1 : (0 : Int) ≤ (k : Int) := by omega
      have z2 : (k : Int) < (n : Int) := by omega
      have z3 : (k : Int) < (t : Int) := by omega
      have hc := HL.out.cell z0
      have hf := HL.out.frozen k
      go_wp2
      go_roundg (t - (k + 1))
      case measure => omega
      case rel => exact ⟨k + 1, by omega, Or.inr (by omega), rfl, by go_num, (HL.out.set k l).congr fun i _ => by rw [setL_snoc L l f k (by omega) i]; norm_cast, grown_set HG.out k _, by show (World.setCell _ _ _).heap.size = _; rw [← HS.out]; simp [World.setCell]⟩
    · have z3 : ¬ (k : Int) < (t : Int) := by omega
      go_wp2
      go_end0
      refine ⟨rfl, HL.out.congr fun i hi => setL_same ?_, HG.out, HS.out⟩
      omega
set_option maxRecDepth 100000 in
set_option maxHeartbeats 2000000 in
theorem rtag_any {w : World} {g n base : Nat} {L : Nat → Int} (h : LR w g n L) (hn : n ≤ 65536) (i : Nat) (e : Nat) (he : e ≤ n) (X : ByteArray) (cl : Bool) (pv : Value) (l : List (Nat × Nat)) (hp : PR w base pv l) (hok : PrOk n l) (hl : l.length ≤ 65536) :
    Calls Tryd.prog 34 #[.slice (some ⟨g, 0, none⟩) n n, .int .i64 i, .agg #[.int .i64 e, .string X, .bool cl, pv]] w fun ev w' => ev = .returned (.tuple #[]) ∧ LR w' g n (layP (setL L 2 (i : Int) (e : Int)) l) ∧ w.grownBy w' (some g) := by
  obtain ⟨pd, pc, rfl⟩ := hp.form
  obtain ⟨W, hW⟩ : ∃ W, w.alloc (.cells #[.int .i64 e, .string X, .bool cl, .slice pd l.length pc] 46) = W := ⟨_, rfl⟩
  have hbW : Below w.heap.size w W := by rw [← hW]; exact below_alloc w _
  have hB0 : W.heap[w.heap.size]? = some (.cells #[.int .i64 e, .string X, .bool cl, .slice pd l.length pc] 46) := by rw [← hW]; exact heap_alloc_new _ _
  have hS := h.stay hbW
  have hp1 := hp.stay hbW
  have ct := rput_any hS hn 2 i e he
  obtain ⟨m, hm⟩ : ∃ m, l.length = m := ⟨_, rfl⟩
  rw [hm] at hW hB0 hp1 hl ⊢
  have y0 : W.cell? ⟨w.heap.size, 0, none⟩ = some (.int .i64 e) := by simp [World.cell?, hB0]
  have HH : Hid (Below w.heap.size w W ∧ LR W g n L ∧ PR W base (.slice pd m pc) l ∧ l.length = m ∧ PrOk n l ∧ g < w.heap.size) := ⟨hbW, hS, hp1, hm, hok, h.lt⟩
  have HB0 : Hid (W.heap[w.heap.size]? = some (.cells #[.int .i64 e, .string X, .bool cl, .slice pd m pc] 46)) := hB0
  obtain ⟨D, hD⟩ : ∃ D, w.heap.size = D := ⟨_, rfl⟩
  have HDD : Hid (w.heap.size = D) := hD
  clear hbW hB0 hS hp1 hm h hp hok hD
  go_enter Tryd.func34, Tryd.ntmps34
  go_wp2_with fail
  refine ct.mono ?_
  rintro ev w1 ⟨rfl, h1, h2, h3⟩
  have HS1 : Hid (LR w1 g n (setL L 2 (i : Int) (e : Int)) ∧ w.grownBy w1 (some g)) := ⟨h1, grown_trans (grown_of HH.out.1 _) h2⟩
  have HP1 : Hid (PR w1 base (.slice pd m pc) l) := HH.out.2.2.1.keep HH.out.2.1 h2
  have hB1 : w1.heap[w.heap.size]? = some (.cells #[.int .i64 e, .string X, .bool cl, .slice pd m pc] 46) :=
    (h2.block w.heap.size (lt_of_heap HB0.out) (fun ee => by injection ee with ee; have := HH.out; omega)).trans HB0.out
  have HB1 : Hid (w1.heap[D]? = some (.cells #[.int .i64 e, .string X, .bool cl, .slice pd m pc] 46) ∧ g < D) := by rw [← HDD.out]; exact ⟨hB1, HH.out.2.2.2.2.2⟩
  rw [HDD.out]
  clear h1 h2 h3 ct hW y0 hB1
  go_wp2
  go_loopg [6] m (fun q iv wr => ∃ k : Nat, k ≤ m ∧ q = m - k ∧ iv = .int .i64 k ∧ Hid (LR wr g n (layP (setL L 2 (i : Int) (e : Int)) (l.take k))) ∧ Hid (w.grownBy wr (some g)) ∧ Hid (PR wr base (.slice pd m pc) l) ∧ Hid (wr.heap[D]? = some (.cells #[.int .i64 e, .string X, .bool cl, .slice pd m pc] 46)))
  case atStart => exact ⟨0, Nat.zero_le _, rfl, rfl, HS1.out.1, HS1.out.2, HP1, HB1.out.1⟩
  case round =>
    obtain ⟨k, hk, hq, rfl, HS, HG, HP, HD⟩ := hrel
    have y3 : wr.cell? ⟨D, 3, none⟩ = some (.slice pd m pc) := by simp [World.cell?, HD.out]
    by_cases hlt : k < m
    · have z1 : (k : Int) < (m : Int) := by omega
      have z2 : (0 : Int) ≤ (k : Int) := by omega
      obtain ⟨p, hp⟩ : ∃ p, l[k]? = some p := ⟨_, List.getElem?_eq_getElem (by rw [HH.out.2.2.2.1]; exact hlt)⟩
      obtain ⟨a, s⟩ := p
      obtain ⟨gp, rfl, -, -⟩ := own_at (n := m) (by have := HP.out; unfold PR at this; rw [HH.out.2.2.2.1] at this; exact this) (by omega)
      obtain ⟨c0, c1⟩ := HP.out.cells HH.out.2.2.2.1.symm hp
      have hpk := HH.out.2.2.2.2.1 (a, s) (List.mem_of_getElem? hp)
      dsimp only at c0 c1 hpk
      have HTK : Hid (l.take (k + 1) = l.take k ++ [(a, s)]) := by show _ = _; rw [List.take_add_one, hp]; rfl
      have q1 : IntKind.i64.wrap ((a : Int) + (s : Int)) = (a : Int) + (s : Int) := (wrap_is _).trans (IntWalk.wrap64_in _ (by omega))
      clear hp
      go_upto_region 5 with fail
      refine wp_region_held_drew (S := fun w' => w'.cell? ⟨D, 3, none⟩ = some (.slice (some ⟨gp, 0, none⟩) m pc) ∧ w'.cell? ⟨gp, k * 2, none⟩ = some (.int .i64 a) ∧ w'.cell? ⟨gp, k * 2 + 1, none⟩ = some (.int .i64 s)) (by kernel_rfl) ⟨y3, c0, c1⟩ (fun hHeld => ?_)
      (try dsimp only at hHeld)
      refine takeH (i := 0) (v := ?_) (d := (some 19)) rfl (by kernel_rfl) (by kernel_rfl) (by kernel_rfl) rfl (fun _ _ _ h => h) (Or.inl ⟨by kernel_rfl, ?_⟩) (by assumption) ?_; rotate_left
      · (intro w hSw; (try dsimp only at hSw); obtain ⟨hs0, hs1, hs2⟩ := hSw; first | (go_simp; done) | (go_simp; with_reducible rfl))
      (try simp only [Act.put, List.setIfInBounds_toArray, List.set_cons_zero, List.set_cons_succ])
      refine takeH (i := 1) (v := ?_) (d := (some 20)) rfl (by kernel_rfl) (by kernel_rfl) (by kernel_rfl) rfl (fun _ _ _ h => h) (Or.inl ⟨by kernel_rfl, ?_⟩) (by assumption) ?_; rotate_left
      · (intro w hSw; (try dsimp only at hSw); obtain ⟨hs0, hs1, hs2⟩ := hSw; first | (go_simp; done) | (go_simp; with_reducible rfl))
      (try simp only [Act.put, List.setIfInBounds_toArray, List.set_cons_zero, List.set_cons_succ])
      refine takeH (i := 2) (v := ?_) (d := (some 21)) rfl (by kernel_rfl) (by kernel_rfl) (by kernel_rfl) rfl (fun _ _ _ h => h) (Or.inl ⟨by kernel_rfl, ?_⟩) (by assumption) ?_; rotate_left
      · (intro w hSw; (try dsimp only at hSw); obtain ⟨hs0, hs1, hs2⟩ := hSw; first | (go_simp; done) | (go_simp; with_reducible rfl))
      (try simp only [Act.put, List.setIfInBounds_toArray, List.set_cons_zero, List.set_cons_succ])
      refine takeH (i := 3) (v := ?_) (d := (some 22)) rfl (by kernel_rfl) (by kernel_rfl) (by kernel_rfl) rfl (fun _ _ _ h => h) (Or.inl ⟨by kernel_rfl, ?_⟩) (by assumption) ?_; rotate_left
      · (intro w hSw; (try dsimp only at hSw); obtain ⟨hs0, hs1, hs2⟩ := hSw; first | (go_simp; done) | (go_simp; with_reducible rfl))
      (try simp only [Act.put, List.setIfInBounds_toArray, List.set_cons_zero, List.set_cons_succ])
      refine takeH (i := 4) (v := ?_) (d := (some 23)) rfl (by kernel_rfl) (by kernel_rfl) (by kernel_rfl) rfl (fun _ _ _ h => h) (Or.inl ⟨by kernel_rfl, ?_⟩) (by assumption) ?_; rotate_left
      · (intro w hSw; (try dsimp only at hSw); obtain ⟨hs0, hs1, hs2⟩ := hSw; first | (go_simp; done) | (go_simp; with_reducible rfl))
      (try simp only [Act.put, List.setIfInBounds_toArray, List.set_cons_zero, List.set_cons_succ])
      refine takeH (i := 5) (v := ?_) (d := (some 24)) rfl (by kernel_rfl) (by kernel_rfl) (by kernel_rfl) rfl (fun _ _ _ h => h) (Or.inl ⟨by kernel_rfl, ?_⟩) (by assumption) ?_; rotate_left
      · (intro w hSw; (try dsimp only at hSw); obtain ⟨hs0, hs1, hs2⟩ := hSw; first | (go_simp; done) | (go_simp; with_reducible rfl))
      (try simp only [Act.put, List.setIfInBounds_toArray, List.set_cons_zero, List.set_cons_succ])
      refine takeH (i := 6) (v := ?_) (d := (some 25)) rfl (by kernel_rfl) (by kernel_rfl) (by kernel_rfl) rfl (fun _ _ _ h => h) (Or.inl ⟨by kernel_rfl, ?_⟩) (by assumption) ?_; rotate_left
      · (intro w hSw; (try dsimp only at hSw); obtain ⟨hs0, hs1, hs2⟩ := hSw; first | (go_simp; done) | (go_simp; with_reducible rfl))
      (try simp only [Act.put, List.setIfInBounds_toArray, List.set_cons_zero, List.set_cons_succ])
      refine takeH (i := 7) (v := ?_) (d := (some 26)) rfl (by kernel_rfl) (by kernel_rfl) (by kernel_rfl) rfl (fun _ _ _ h => h) (Or.inl ⟨by kernel_rfl, ?_⟩) (by assumption) ?_; rotate_left
      · (intro w hSw; (try dsimp only at hSw); obtain ⟨hs0, hs1, hs2⟩ := hSw; first | (go_simp; done) | (go_simp; with_reducible rfl))
      (try simp only [Act.put, List.setIfInBounds_toArray, List.set_cons_zero, List.set_cons_succ])
      refine takeH (i := 8) (v := ?_) (d := (some 27)) rfl (by kernel_rfl) (by kernel_rfl) (by kernel_rfl) rfl (fun _ _ _ h => h) (Or.inl ⟨by kernel_rfl, ?_⟩) (by assumption) ?_; rotate_left
      · (intro w hSw; (try dsimp only at hSw); obtain ⟨hs0, hs1, hs2⟩ := hSw; first | (go_simp; done) | (go_simp; with_reducible rfl))
      (try simp only [Act.put, List.setIfInBounds_toArray, List.set_cons_zero, List.set_cons_succ])
      refine takeH (i := 9) (v := ?_) (d := (some 28)) rfl (by kernel_rfl) (by kernel_rfl) (by kernel_rfl) rfl (fun _ _ _ h => h) (Or.inl ⟨by kernel_rfl, ?_⟩) (by assumption) ?_; rotate_left
      · (intro w hSw; (try dsimp only at hSw); obtain ⟨hs0, hs1, hs2⟩ := hSw; first | (go_simp; done) | (go_simp; with_reducible rfl))
      (try simp only [Act.put, List.setIfInBounds_toArray, List.set_cons_zero, List.set_cons_succ])
      refine takeH (i := 10) (v := ?_) (d := (some 29)) rfl (by kernel_rfl) (by kernel_rfl) (by kernel_rfl) rfl (fun _ _ _ h => h) (Or.inl ⟨by kernel_rfl, ?_⟩) (by assumption) ?_; rotate_left
      · (intro w hSw; (try dsimp only at hSw); obtain ⟨hs0, hs1, hs2⟩ := hSw; first | (go_simp; done) | (go_simp; with_reducible rfl))
      (try simp only [Act.put, List.setIfInBounds_toArray, List.set_cons_zero, List.set_cons_succ])
      refine takeH (i := 11) (v := ?_) (d := (some 30)) rfl (by kernel_rfl) (by kernel_rfl) (by kernel_rfl) rfl (fun _ _ _ h => h) (Or.inl ⟨by kernel_rfl, ?_⟩) (by assumption) ?_; rotate_left
      · (intro w hSw; (try dsimp only at hSw); obtain ⟨hs0, hs1, hs2⟩ := hSw; first | (go_simp; done) | (go_simp; with_reducible rfl))
      (try simp only [Act.put, List.setIfInBounds_toArray, List.set_cons_zero, List.set_cons_succ])
      refine takeH (i := 12) (v := ?_) (d := (some 31)) rfl (by kernel_rfl) (by kernel_rfl) (by kernel_rfl) rfl (fun _ _ _ h => h) (Or.inl ⟨by kernel_rfl, ?_⟩) (by assumption) ?_; rotate_left
      · (intro w hSw; (try dsimp only at hSw); obtain ⟨hs0, hs1, hs2⟩ := hSw; first | (go_simp; done) | (go_simp; with_reducible rfl))
      (try simp only [Act.put, List.setIfInBounds_toArray, List.set_cons_zero, List.set_cons_succ])
      refine takeH (i := 13) (v := ?_) (d := (some 32)) rfl (by kernel_rfl) (by kernel_rfl) (by kernel_rfl) rfl (fun _ _ _ h => h) (Or.inl ⟨by kernel_rfl, ?_⟩) (by assumption) ?_; rotate_left
      · (intro w hSw; (try dsimp only at hSw); obtain ⟨hs0, hs1, hs2⟩ := hSw; first | (go_simp; done) | (go_simp; with_reducible rfl))
      (try simp only [Act.put, List.setIfInBounds_toArray, List.set_cons_zero, List.set_cons_succ])
      refine takeH (i := 14) (v := ?_) (d := (some 33)) rfl (by kernel_rfl) (by kernel_rfl) (by kernel_rfl) rfl (fun _ _ _ h => h) (Or.inl ⟨by kernel_rfl, ?_⟩) (by assumption) ?_; rotate_left
      · (intro w hSw; (try dsimp only at hSw); obtain ⟨hs0, hs1, hs2⟩ := hSw; first | (go_simp; done) | (go_simp; with_reducible rfl))
      (try simp only [Act.put, List.setIfInBounds_toArray, List.set_cons_zero, List.set_cons_succ])
      refine takeH (i := 15) (v := ?_) (d := (some 34)) rfl (by kernel_rfl) (by kernel_rfl) (by kernel_rfl) rfl (fun _ _ _ h => h) (Or.inl ⟨by kernel_rfl, ?_⟩) (by assumption) ?_; rotate_left
      · (intro w hSw; (try dsimp only at hSw); obtain ⟨hs0, hs1, hs2⟩ := hSw; first | (go_simp; done) | (go_simp; with_reducible rfl))
      (try simp only [Act.put, List.setIfInBounds_toArray, List.set_cons_zero, List.set_cons_succ])
      refine takeH (i := 16) (v := ?_) (d := (some 35)) rfl (by kernel_rfl) (by kernel_rfl) (by kernel_rfl) rfl (fun _ _ _ h => h) (Or.inl ⟨by kernel_rfl, ?_⟩) (by assumption) ?_; rotate_left
      · (intro w hSw; (try dsimp only at hSw); obtain ⟨hs0, hs1, hs2⟩ := hSw; first | (go_simp; done) | (go_simp; with_reducible rfl))
      (try simp only [Act.put, List.setIfInBounds_toArray, List.set_cons_zero, List.set_cons_succ])
      refine takeH (i := 17) (v := ?_) (d := (some 36)) rfl (by kernel_rfl) (by kernel_rfl) (by kernel_rfl) rfl (fun _ _ _ h => h) (Or.inl ⟨by kernel_rfl, ?_⟩) (by assumption) ?_; rotate_left
      · (intro w hSw; (try dsimp only at hSw); obtain ⟨hs0, hs1, hs2⟩ := hSw; first | (go_simp; done) | (go_simp; with_reducible rfl))
      (try simp only [Act.put, List.setIfInBounds_toArray, List.set_cons_zero, List.set_cons_succ])
      refine takeH (i := 18) (v := ?_) (d := (some 37)) rfl (by kernel_rfl) (by kernel_rfl) (by kernel_rfl) rfl (fun _ _ _ h => h) (Or.inl ⟨by kernel_rfl, ?_⟩) (by assumption) ?_; rotate_left
      · (intro w hSw; (try dsimp only at hSw); obtain ⟨hs0, hs1, hs2⟩ := hSw; first | (go_simp; done) | (go_simp; with_reducible rfl))
      (try simp only [Act.put, List.setIfInBounds_toArray, List.set_cons_zero, List.set_cons_succ])
      refine takeH (i := 19) (v := ?_) (d := (some 38)) rfl (by kernel_rfl) (by kernel_rfl) (by kernel_rfl) rfl (fun _ _ _ h => h) (Or.inl ⟨by kernel_rfl, ?_⟩) (by assumption) ?_; rotate_left
      · (intro w hSw; (try dsimp only at hSw); obtain ⟨hs0, hs1, hs2⟩ := hSw; first | (go_simp; done) | (go_simp; with_reducible rfl))
      (try simp only [Act.put, List.setIfInBounds_toArray, List.set_cons_zero, List.set_cons_succ])
      have cs := rput_any (w := wr.drew) HS.out.drew hn 1 a (a + s) hpk.2
      rw [show ((a + s : Nat) : Int) = (a : Int) + (s : Int) by omega] at cs
      refine wpAnyH_ready (rs := [20]) (by kernel_rfl) (by simp) (AllReadyH.cons rfl (fun K hK => ?_) AllReadyH.nil)
      go_simp
      refine cs.mono ?_
      rintro ev w4 ⟨rfl, h41, h42, h43⟩
      have hG4 : wr.grownBy w4 (some g) := grown_trans (grown_drew (World.grownBy.refl wr (some g))) h42
      have HS4 : Hid (LR w4 g n (layP (setL L 2 (i : Int) (e : Int)) (l.take (k + 1)))) := by
        show LR _ _ _ _
        rw [HTK.out, layP_snoc]
        exact h41
      have HG4 : Hid (w.grownBy w4 (some g)) := grown_trans HG.out hG4
      have HP4 : Hid (PR w4 base (.slice (some ⟨gp, 0, none⟩) m pc) l) := HP.out.keep HS.out hG4
      have hD4 : w4.heap[D]? = some (.cells #[.int .i64 e, .string X, .bool cl, .slice (some ⟨gp, 0, none⟩) m pc] 46) := (hG4.block D (lt_of_heap HD.out) (fun ee => by injection ee with ee; have := HB1.out; omega)).trans HD.out
      have hgp : gp ≠ g := fun ee => by
        subst ee
        obtain ⟨cc, hcc, _⟩ := HS.out
        have hpp := HP.out
        unfold PR at hpp
        obtain ⟨_, ⟨e1, _⟩ | ⟨g', cap, cur, e1, _, hh, _⟩⟩ := hpp
        · cases e1
        · injection e1 with e1 _ _
          injection e1 with e1
          injection e1 with e1 _ _
          subst e1
          rw [hh] at hcc
          injection hcc with hcc
          injection hcc with _ e2 _
          exact absurd e2 (by decide)
      have c04 := cell_grown c0 hG4 hgp
      have c14 := cell_grown c1 hG4 hgp
      have HD4 : Hid (w4.heap[D]? = some (.cells #[.int .i64 e, .string X, .bool cl, .slice (some ⟨gp, 0, none⟩) m pc] 46)) := hD4
      clear cs h41 h42 h43 hG4 hgp
      go_wp2_with fail
      refine hK.out _ _ ⟨by simp [World.cell?, hD4], c04, c14⟩ (fun hHeld' => ?_)
      clear hK K hHeld' hHeld hD4 c04 c14
      (try simp only [Act.put, List.setIfInBounds_toArray, List.set_cons_zero, List.set_cons_succ])
      refine wpAnyH_done (by kernel_rfl) ?_ _
      go_wp2
      go_roundg (m - (k + 1))
      case measure => omega
      case rel => exact ⟨k + 1, by omega, rfl, by go_num, HS4, HG4, HP4, HD4⟩
    · obtain rfl : k = m := by omega
      have z1 : ¬ (k : Int) < (k : Int) := by omega
      go_wp2
      go_end0
      refine ⟨rfl, ?_, HG.out⟩
      have := HS.out
      rw [List.take_of_length_le (by rw [HH.out.2.2.2.1]; exact Nat.le_refl _)] at this
      exact this
end Go.Proofs.YtjieonldmckheaaDoor
