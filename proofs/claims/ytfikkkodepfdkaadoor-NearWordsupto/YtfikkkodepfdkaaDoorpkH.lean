/- The reference's Nears. -/
import Derived.Deep.CutBlock
import Derived.Test.YtfikkkodepfdkaaDoorpAh
import Derived.Test.YtfikkkodepfdkaaDoorpSa
import Derived.Test.YtfikkkodepfdkaaDoorpRu
import Derived.Test.YtfikkkodepfdkaaDoorpkF
import Derived.Test.YtfikkkodepfdkaaDoorpZr
namespace Go.Proofs.YtfikkkodepfdkaaDoor
set_option linter.unusedVariables false
open Go.RowKit Go.ChangeShapes
open Qns (dd far at_)
theorem nrC_cons (x : Nr) (F : List Nr) : nrC (x :: F) = [.string x.s, .int .i64 (x.d : Int)] ++ nrC F := rfl
theorem two_one (a b : Value) (ha : a.oneCell' = true) (hb : b.oneCell' = true) : ∀ u ∈ [a, b], u.oneCell' = true := by
  intro u hu
  simp at hu
  rcases hu with rfl | rfl
  · exact ha
  · exact hb
theorem rsl_own {w : World} {b : Nat} {v : Value} {W : List Int} (h : w.ownsRow b 21 1 v W.length (W.map i32c)) : Qns.RSl w v W.length (at_ W) := by
  have h0 := h
  obtain ⟨hl, ⟨e, h1⟩ | ⟨g, cap, cur, e, hg, hh, h3⟩⟩ := h
  · exact Or.inl ⟨none, 0, e, h1⟩
  · subst e
    refine Or.inr ⟨g, 0, cap, rfl, fun q hq => ?_⟩
    rw [Nat.zero_add, h0.cellAt q (by omega), List.getElem?_map]
    unfold at_
    rw [List.getD_eq_getElem?_getD, List.getElem?_eq_getElem hq]
    rfl
/-- The part of a row of suggestions from i on. -/
theorem nr_part {w : World} {g i m c n cap b : Nat} {F M : List Nr} (h : ON w b (.slice (some ⟨g, 0, none⟩) n cap) F) (hm : M.length = m) (hM : ∀ j x, M[j]? = some x → F[i + j]? = some x) : Srcs w (.slice (some ⟨g, i * 2, none⟩) m c) m 2 (nrC M) := by
  refine ⟨by rw [nrC_len, hm], Or.inr ⟨g, i * 2, c, rfl, fun j u hu => ?_⟩⟩
  have hj : j < M.length * 2 := by
    have := (List.getElem?_eq_some_iff.1 hu).1
    rw [nrC_len] at this
    exact this
  obtain ⟨x, hx⟩ : ∃ x, M[j / 2]? = some x := ⟨_, List.getElem?_eq_getElem (by omega)⟩
  obtain ⟨a1, a2⟩ := nrC_at M (j / 2) x hx
  obtain ⟨b1, b2⟩ := nrC_at F (i + j / 2) x (hM _ _ hx)
  have key : (nrC F)[i * 2 + j]? = some u := by
    rcases Nat.mod_two_eq_zero_or_one j with e | e
    · have ej : j = j / 2 * 2 := by omega
      rw [ej] at hu
      rw [a1] at hu
      rw [show i * 2 + j = (i + j / 2) * 2 by omega, b1, hu]
    · have ej : j = j / 2 * 2 + 1 := by omega
      rw [ej] at hu
      rw [a2] at hu
      rw [show i * 2 + j = (i + j / 2) * 2 + 1 by omega, b2, hu]
  have := World.ownsRow.cells h rfl _ u key
  rw [addr_plus, Nat.zero_add] at this
  exact this
theorem on_cells {w : World} {b : Nat} {ad : Option Addr} {n c : Nat} {F : List Nr} (h : ON w b (.slice ad n c) F) (hn : F.length = n) {i : Nat} {x : Nr} (hx : F[i]? = some x) : ∃ g, ad = some ⟨g, 0, none⟩ ∧ w.cell? ⟨g, i * 2, none⟩ = some (.string x.s) ∧ w.cell? ⟨g, i * 2 + 1, none⟩ = some (.int .i64 (x.d : Int)) ∧ b ≤ g ∧ g < w.heap.size := by
  have h0 := h
  have hi := (List.getElem?_eq_some_iff.1 hx).1
  obtain ⟨_, ⟨e, h2⟩ | ⟨g, cap, cur, e, hg, hh, h3⟩⟩ := h
  · omega
  · injection e with e1 e2 e3
    subst e1
    obtain ⟨a1, a2⟩ := nrC_at F i x hx
    have k1 := World.ownsRow.cells h0 rfl _ _ a1
    have k2 := World.ownsRow.cells h0 rfl _ _ a2
    rw [addr_plus, Nat.zero_add] at k1 k2
    exact ⟨g, rfl, k1, k2, hg, lt_of_heap hh⟩
theorem insN_at {p : Nr → Bool} {out : List Nr} {k : Nat} (h1 : ∀ j y, out[j]? = some y → j < k → p y = true) (h2 : ∀ y, out[k]? = some y → p y = false) (hk : k ≤ out.length) (x : Nr) : insN p out x = out.take k ++ x :: out.drop k := by
  unfold insN
  induction out generalizing k with
  | nil =>
    obtain rfl : k = 0 := by simpa using hk
    rfl
  | cons a out ih =>
    cases k with
    | zero =>
      have := h2 a rfl
      rw [List.takeWhile_cons_of_neg (by simp [this]), List.dropWhile_cons_of_neg (by simp [this])]
      rfl
    | succ k =>
      have ha := h1 0 a rfl (by omega)
      rw [List.takeWhile_cons_of_pos ha, List.dropWhile_cons_of_pos ha, List.take_succ_cons, List.drop_succ_cons, List.cons_append, List.cons_append, ih (k := k) (fun j y hy hj => h1 (j + 1) y (by simpa using hy) (by omega)) (fun y hy => h2 y (by simpa using hy)) (by simpa using hk)]
open Classical in
set_option maxHeartbeats 8000000 in
set_option maxRecDepth 100000 in
theorem nears_any {w : World} {v vp : Value} {L Pf : List ByteArray} (hv : TL w v L) (hL : L.length ≤ 5000) (hG : ∀ s ∈ L, GoodX s) (hP : TL w vp Pf) (hPl : Pf.length ≤ 5000) (word : ByteArray) (hword : word.size ≤ 40000) (hW : (rs word).length ≤ 64) (most k : Nat) (hm : most ≤ 3) (hk : k ≤ 32) :
    Calls Tryd.prog 19 #[v, .string word, .int .i64 (most : Int), .int .i64 (k : Int), vp] w fun e w' => ∃ v', e = .returned v' ∧ NL w' v' ((nearsP Pf (rs word) most L).take k) ∧ Below w.heap.size w w' := by
  have HV : Hid (TL w v L) := hv
  have HP : Hid (TL w vp Pf) := hP
  have HG : Hid (∀ s ∈ L, GoodX s) := hG
  obtain ⟨ad, c, rfl, hc⟩ := hv
  obtain ⟨ap, cp, rfl, -⟩ := hP
  have HC : Hid (∀ (j : Nat) (s : ByteArray), L[j]? = some s → ∃ b off, ad = some ⟨b, off, none⟩ ∧ w.cell? ⟨b, off + j, none⟩ = some (.string s)) := hc
  have CW : Hid (∀ w1, Calls Tryd.prog 39 #[.string word] w1 fun e w' => ∃ v, e = .returned v ∧ w'.ownsRow w1.heap.size 21 1 v (rs word).length ((rs word).map i32c) ∧ Below w1.heap.size w1 w') := fun w1 => rrunes_rs word w1 hword
  obtain ⟨W, eW⟩ : ∃ W, rs word = W := ⟨_, rfl⟩
  rw [eW] at CW hW ⊢
  obtain ⟨R, eR⟩ : ∃ R, nearsP Pf W most L = R := ⟨_, rfl⟩
  have HR : Hid (nearsG Pf W most [] (L.drop 0) = R) := eR
  have hRl : R.length ≤ L.length := by
    have := nearsG_len Pf W most L []
    rw [← eR]
    simpa [nearsP] using this
  rw [eR]
  obtain ⟨nl, hnl⟩ : ∃ nl, L.length = nl := ⟨_, rfl⟩
  have HNL : Hid (L.length = nl) := hnl
  rw [hnl] at hL hRl ⊢
  obtain ⟨in0, hin, hnz0, hnz1, hnz2⟩ := info_parts infoNr
  clear hG hc hnl eR eW
  go_enter Tryd.func19, Tryd.ntmps19
  go_wp2
  go_loopg [11, 12] nl (fun g ov iv wx => ∃ (i : Nat) (out : List Nr) (o11 : Value), ov = o11 ∧ i ≤ nl ∧ g = nl - i ∧ iv = .int .i64 i ∧ Hid (ON wx w.heap.size o11 out) ∧ Hid (nearsG Pf W most out (L.drop i) = R) ∧ Hid (out.length ≤ i ∧ ∀ y ∈ out, y.d ≤ 3) ∧ Hid (Up w.heap.size w wx))
  case atStart => exact ⟨0, [], _, rfl, Nat.zero_le _, rfl, rfl, World.ownsRow_nil _ _ _ _, HR, ⟨Nat.le_refl _, fun y hy => by cases hy⟩, Up.refl w⟩
  case round =>
    obtain ⟨i, out, o11, rfl, hil, hg, rfl, HO, HN0, HLE, HU⟩ := hrel
    obtain ⟨n, hn⟩ : ∃ n, out.length = n := ⟨_, rfl⟩
    have HN : Hid (out.length = n) := hn
    obtain ⟨ado, co, eo⟩ : ∃ ado co, u11 = .slice ado n co := by rw [← hn]; exact own_slice HO.out
    subst eo
    have hni : n ≤ i := by have := HLE.out.1; omega
    have z0 : (0 : Int) ≤ (i : Int) := by omega
    clear hn
    by_cases hlt : i < nl
    · have z1 : (i : Int) < (nl : Int) := by omega
      obtain ⟨s, hs⟩ : ∃ s, L[i]? = some s := ⟨_, List.getElem?_eq_getElem (by rw [HNL.out]; exact hlt)⟩
      obtain ⟨b, off, rfl, hcs0⟩ := HC.out i s hs
      have hcs := cell_stay hcs0 HU.out.1
      have hgs := HG.out s (List.mem_of_getElem? hs)
      have hgl : (rs s).length ≤ 64 := hgs.2.2.2
      obtain ⟨d, ed⟩ : ∃ d, far W (rs s) = d := ⟨_, rfl⟩
      have hd1000 : d ≤ 1000 := by
        have := (Qns.far_max W (rs s)).1
        omega
      have HED : Hid (far W (rs s) = d) := ed
      have HDR : Hid (L.drop i = s :: L.drop (i + 1)) := by
        obtain ⟨h1, h2⟩ := List.getElem?_eq_some_iff.1 hs
        show _ = _
        rw [← h2]
        exact List.drop_eq_getElem_cons h1
      have CS : Hid (∀ w1, Calls Tryd.prog 39 #[.string s] w1 fun e w' => ∃ v, e = .returned v ∧ w'.ownsRow w1.heap.size 21 1 v (rs s).length ((rs s).map i32c) ∧ Below w1.heap.size w1 w') := fun w1 => rrunes_rs s w1 (by have := hgs.2.1; omega)
      have HDI : Hid (∀ w1 vA vB, w1.ownsRow wr.heap.size 21 1 vA W.length (W.map i32c) → w1.ownsRow wr.heap.size 21 1 vB (rs s).length ((rs s).map i32c) → Calls Tryd.prog 38 #[vA, vB] w1 fun e w' => e = .returned (.int .i64 (d : Int)) ∧ Below w1.heap.size w1 w') := fun w1 vA vB h1 h2 => by
        refine (Qns.rdist_near (rsl_own h1) (rsl_own h2) hW hgl).mono ?_
        rintro e w' ⟨rfl, hu⟩
        refine ⟨?_, hu.1⟩
        rw [← HED.out]
        rfl
      clear hs hcs0 hgs ed hgl
      go_upto_region 5 with fail
      go_cut [13] (fun xv wx => ∃ X, xv = .pointer (some ⟨X, 0, none⟩) ∧ Hid (wr.heap.size ≤ X ∧ wx.heap[X]? = some (.cells #[.string s, .int .i64 (d : Int)] 47 (0, 0))) ∧ Hid (Up wr.heap.size wr wx))
      case first =>
        refine wp_region_held_drew (S := fun w' => Up wr.heap.size wr w') (by kernel_rfl) (Up.refl wr).drew (fun hHeld => ?_)
        (try dsimp only at hHeld)
        obtain ⟨x0, hx0⟩ : ∃ x0, wr.drew = x0 := ⟨_, rfl⟩
        rw [hx0] at hHeld ⊢
        clear hx0
        refine takeH (i := 0) (v := ?_) (d := (some 21)) rfl (by kernel_rfl) (by kernel_rfl) (by kernel_rfl) rfl (fun _ _ _ h => h) (Or.inl ⟨by kernel_rfl, ?_⟩) (by first | assumption | trivial) ?_; rotate_left
        · (intro w hSw; (try dsimp only at hSw); first | (go_simp; done) | (go_simp; with_reducible rfl))
        (try simp only [Act.put, List.setIfInBounds_toArray, List.set_cons_zero, List.set_cons_succ])
        refine takeH (i := 1) (v := ?_) (d := (some 22)) rfl (by kernel_rfl) (by kernel_rfl) (by kernel_rfl) rfl (fun _ _ _ h => h) (Or.inl ⟨by kernel_rfl, ?_⟩) (by first | assumption | trivial) ?_; rotate_left
        · (intro w hSw; (try dsimp only at hSw); first | (go_simp; done) | (go_simp; with_reducible rfl))
        (try simp only [Act.put, List.setIfInBounds_toArray, List.set_cons_zero, List.set_cons_succ])
        refine takeH (i := 2) (v := ?_) (d := (some 23)) rfl (by kernel_rfl) (by kernel_rfl) (by kernel_rfl) rfl (fun _ _ _ h => h) (Or.inl ⟨by kernel_rfl, ?_⟩) (by first | assumption | trivial) ?_; rotate_left
        · (intro w hSw; (try dsimp only at hSw); first | (go_simp; done) | (go_simp; with_reducible rfl))
        (try simp only [Act.put, List.setIfInBounds_toArray, List.set_cons_zero, List.set_cons_succ])
        refine takeH (i := 3) (v := ?_) (d := (some 24)) rfl (by kernel_rfl) (by kernel_rfl) (by kernel_rfl) rfl (fun _ _ _ h => h) (Or.inl ⟨by kernel_rfl, ?_⟩) (by first | assumption | trivial) ?_; rotate_left
        · (intro w hSw; (try dsimp only at hSw); have cc := cell_stay hcs hSw.1; first | (go_simp; done) | (go_simp; with_reducible rfl))
        (try simp only [Act.put, List.setIfInBounds_toArray, List.set_cons_zero, List.set_cons_succ])
        refine takeH (i := 4) (v := ?_) (d := (some 25)) rfl (by kernel_rfl) (by kernel_rfl) (by kernel_rfl) rfl (fun _ _ _ h => h) (Or.inl ⟨by kernel_rfl, ?_⟩) (by first | assumption | trivial) ?_; rotate_left
        · (intro w hSw; (try dsimp only at hSw); first | (go_simp; done) | (go_simp; with_reducible rfl))
        (try simp only [Act.put, List.setIfInBounds_toArray, List.set_cons_zero, List.set_cons_succ])
        refine takeH (i := 6) (v := ?_) (d := (some 27)) rfl (by kernel_rfl) (by kernel_rfl) (by kernel_rfl) rfl (fun _ _ _ h => h) (Or.inl ⟨by kernel_rfl, ?_⟩) (by first | assumption | trivial) ?_; rotate_left
        · (intro w hSw; (try dsimp only at hSw); first | (go_simp; done) | (go_simp; with_reducible rfl))
        (try simp only [Act.put, List.setIfInBounds_toArray, List.set_cons_zero, List.set_cons_succ])
        refine takeH (i := 7) (v := ?_) (d := (some 28)) rfl (by kernel_rfl) (by kernel_rfl) (by kernel_rfl) rfl (fun _ _ _ h => h) (Or.inl ⟨by kernel_rfl, ?_⟩) (by first | assumption | trivial) ?_; rotate_left
        · (intro w hSw; (try dsimp only at hSw); first | (go_simp; done) | (go_simp; with_reducible rfl))
        (try simp only [Act.put, List.setIfInBounds_toArray, List.set_cons_zero, List.set_cons_succ])
        refine takeH (i := 8) (v := ?_) (d := (some 29)) rfl (by kernel_rfl) (by kernel_rfl) (by kernel_rfl) rfl (fun _ _ _ h => h) (Or.inl ⟨by kernel_rfl, ?_⟩) (by first | assumption | trivial) ?_; rotate_left
        · (intro w hSw; (try dsimp only at hSw); first | (go_simp; done) | (go_simp; with_reducible rfl))
        (try simp only [Act.put, List.setIfInBounds_toArray, List.set_cons_zero, List.set_cons_succ])
        refine takeH (i := 9) (v := ?_) (d := (some 30)) rfl (by kernel_rfl) (by kernel_rfl) (by kernel_rfl) rfl (fun _ _ _ h => h) (Or.inl ⟨by kernel_rfl, ?_⟩) (by first | assumption | trivial) ?_; rotate_left
        · (intro w hSw; (try dsimp only at hSw); have cc := cell_stay hcs hSw.1; first | (go_simp; done) | (go_simp; with_reducible rfl))
        (try simp only [Act.put, List.setIfInBounds_toArray, List.set_cons_zero, List.set_cons_succ])
        refine wpAnyH_ready (rs := [5, 13]) (by kernel_rfl) (by simp) (AllReadyH.cons rfl (fun K hK => ?_) (AllReadyH.cons rfl (fun K hK => ?_) AllReadyH.nil))
        · go_simp
          refine (CW.out x0).mono ?_
          rintro e x1 ⟨vA, rfl, hoA, hbA⟩
          have HA : Hid (x1.ownsRow wr.heap.size 21 1 vA W.length (W.map i32c)) := own_mono hoA hHeld.2
          go_wp2_with fail
          refine hK.out _ _ (hHeld.stay hbA : Up wr.heap.size wr x1) (fun hHeld' => ?_)
          clear hK K hoA hbA
          clear hHeld
          have hHeld := hHeld'
          clear hHeld'
          (try dsimp only at hHeld)
          (try simp only [Act.put, List.setIfInBounds_toArray, List.set_cons_zero, List.set_cons_succ])
          refine wpAnyH_ready (rs := [10, 13]) (by kernel_rfl) (by simp) (AllReadyH.cons rfl (fun K hK => ?_) (AllReadyH.cons rfl (fun K hK => ?_) AllReadyH.nil))
          · go_simp
            refine (CS.out x1).mono ?_
            rintro e x2 ⟨vB, rfl, hoB, hbB⟩
            have HBW : Hid (x2.ownsRow wr.heap.size 21 1 vB (rs s).length ((rs s).map i32c)) := own_mono hoB hHeld.2
            have HA' : Hid (x2.ownsRow wr.heap.size 21 1 vA W.length (W.map i32c)) := own_stay HA.out hbB
            clear HA
            have HA := HA'
            clear HA'
            go_wp2_with fail
            refine hK.out _ _ (hHeld.stay hbB : Up wr.heap.size wr x2) (fun hHeld' => ?_)
            clear hK K hoB hbB
            clear hHeld
            have hHeld := hHeld'
            clear hHeld'
            (try dsimp only at hHeld)
            (try simp only [Act.put, List.setIfInBounds_toArray, List.set_cons_zero, List.set_cons_succ])
            refine wpAnyH_ready (rs := [11, 13]) (by kernel_rfl) (by simp) (AllReadyH.cons rfl (fun K hK => ?_) (AllReadyH.cons rfl (fun K hK => ?_) AllReadyH.nil))
            · go_simp
              have hdi := HDI.out x2 vA vB HA.out HBW.out
              refine hdi.mono ?_
              rintro e x3 ⟨rfl, hbD⟩
              clear HA HBW hdi
              go_wp2_with fail
              refine hK.out _ _ (hHeld.stay hbD : Up wr.heap.size wr x3) (fun hHeld' => ?_)
              clear hK K hbD
              clear hHeld
              have hHeld := hHeld'
              clear hHeld'
              (try dsimp only at hHeld)
              (try simp only [Act.put, List.setIfInBounds_toArray, List.set_cons_zero, List.set_cons_succ])
              refine takeH (i := 12) (v := ?_) (d := (some 33)) rfl (by kernel_rfl) (by kernel_rfl) (by kernel_rfl) rfl (fun _ _ _ h => h) (Or.inl ⟨by kernel_rfl, ?_⟩) (by first | assumption | trivial) ?_; rotate_left
              · (intro w hSw; (try dsimp only at hSw); first | (go_simp; done) | (go_simp; with_reducible rfl))
              (try simp only [Act.put, List.setIfInBounds_toArray, List.set_cons_zero, List.set_cons_succ])
              refine wpAnyH_ready (rs := [13]) (by kernel_rfl) (by simp) (AllReadyH.cons rfl (fun K hK => ?_) AllReadyH.nil)
              rw [if_pos (by kernel_rfl)]
              go_simp
              have hba : Below x3.heap.size x3 (x3.alloc (.cells #[.string ⟨#[]⟩, .int .i64 0] 47)) := (Below.refl _ _).alloc (Nat.le_refl _) _
              obtain ⟨X, hXe⟩ : ∃ X, x3.heap.size = X := ⟨_, rfl⟩
              have HXB : Hid (wr.heap.size ≤ X ∧ (x3.alloc (.cells #[.string ⟨#[]⟩, .int .i64 0] 47)).heap[X]? = some (.cells #[.string ⟨#[]⟩, .int .i64 0] 47 (0, 0))) := ⟨by rw [← hXe]; exact hHeld.2, by rw [← hXe]; exact Array.getElem?_push_size⟩
              rw [hXe]
              refine hK.out _ _ (hHeld.stay hba : Up wr.heap.size wr (x3.alloc (.cells #[.string ⟨#[]⟩, .int .i64 0] 47))) (fun hHeld' => ?_)
              clear hK K hba hXe
              clear hHeld
              have hHeld := hHeld'
              clear hHeld'
              (try dsimp only at hHeld)
              (try simp only [Act.put, List.setIfInBounds_toArray, List.set_cons_zero, List.set_cons_succ])
              obtain ⟨x4, hx4⟩ : ∃ x4, x3.alloc (.cells #[.string ⟨#[]⟩, .int .i64 0] 47) = x4 := ⟨_, rfl⟩
              rw [hx4] at hHeld HXB  ⊢
              clear hx4
              refine wpAnyH_ready (rs := [14]) (by kernel_rfl) (by simp) (AllReadyH.cons rfl (fun K hK => ?_) AllReadyH.nil)
              rw [if_pos (by kernel_rfl)]
              have e0 : x4.cell? ⟨X, 0, none⟩ = some (.string ⟨#[]⟩) := by rw [cell_of_row _ X 0 _ _ _ HXB.out.2]; rfl
              have e1 : x4.cell? ⟨X, 1, none⟩ = some (.int .i64 0) := by rw [cell_of_row _ X 1 _ _ _ HXB.out.2]; rfl
              have f0 : x4.frozen? ⟨X, 0, none⟩ = false := by simp [World.frozen?, HXB.out.2]
              have f1 : x4.frozen? ⟨X, 1, none⟩ = false := by simp [World.frozen?, HXB.out.2]
              have HUF : Hid (Up wr.heap.size wr ((x4.setCell ⟨X, 0, none⟩ (.string s)).setCell ⟨X, 1, none⟩ (.int .i64 (d : Int)))) := (hHeld.setCell HXB.out.1 _).setCell HXB.out.1 _
              have HXF : Hid (wr.heap.size ≤ X ∧ ((x4.setCell ⟨X, 0, none⟩ (.string s)).setCell ⟨X, 1, none⟩ (.int .i64 (d : Int))).heap[X]? = some (.cells #[.string s, .int .i64 (d : Int)] 47 (0, 0))) := ⟨HXB.out.1, heap_setCell_same _ X 1 _ _ _ (heap_setCell_same x4 X 0 _ _ _ HXB.out.2)⟩
              go_simp
              refine hK.out _ _ HUF.out (fun hHeld' => ?_)
              clear hK K hHeld hHeld' HXB e0 e1 f0 f1
              (try simp only [Act.put, List.setIfInBounds_toArray, List.set_cons_zero, List.set_cons_succ])
              refine wpAnyH_done (by kernel_rfl) ?_ _
              go_wp2
              go_meet
              case rel => exact ⟨X, rfl, HXF, HUF⟩
            · rw [if_pos (by kernel_rfl)]
              go_simp
              have hba : Below x2.heap.size x2 (x2.alloc (.cells #[.string ⟨#[]⟩, .int .i64 0] 47)) := (Below.refl _ _).alloc (Nat.le_refl _) _
              obtain ⟨X, hXe⟩ : ∃ X, x2.heap.size = X := ⟨_, rfl⟩
              have HXB : Hid (wr.heap.size ≤ X ∧ (x2.alloc (.cells #[.string ⟨#[]⟩, .int .i64 0] 47)).heap[X]? = some (.cells #[.string ⟨#[]⟩, .int .i64 0] 47 (0, 0))) := ⟨by rw [← hXe]; exact hHeld.2, by rw [← hXe]; exact Array.getElem?_push_size⟩
              have HA' : Hid ((x2.alloc (.cells #[.string ⟨#[]⟩, .int .i64 0] 47)).ownsRow wr.heap.size 21 1 vA W.length (W.map i32c)) := own_stay HA.out hba
              clear HA
              have HA := HA'
              clear HA'
              have HBW' : Hid ((x2.alloc (.cells #[.string ⟨#[]⟩, .int .i64 0] 47)).ownsRow wr.heap.size 21 1 vB (rs s).length ((rs s).map i32c)) := own_stay HBW.out hba
              clear HBW
              have HBW := HBW'
              clear HBW'
              rw [hXe]
              refine hK.out _ _ (hHeld.stay hba : Up wr.heap.size wr (x2.alloc (.cells #[.string ⟨#[]⟩, .int .i64 0] 47))) (fun hHeld' => ?_)
              clear hK K hba hXe
              clear hHeld
              have hHeld := hHeld'
              clear hHeld'
              (try dsimp only at hHeld)
              (try simp only [Act.put, List.setIfInBounds_toArray, List.set_cons_zero, List.set_cons_succ])
              obtain ⟨x5, hx5⟩ : ∃ x5, x2.alloc (.cells #[.string ⟨#[]⟩, .int .i64 0] 47) = x5 := ⟨_, rfl⟩
              rw [hx5] at hHeld HXB HA HBW ⊢
              clear hx5
              refine wpAnyH_ready (rs := [11]) (by kernel_rfl) (by simp) (AllReadyH.cons rfl (fun K hK => ?_) AllReadyH.nil)
              go_simp
              have hdi := HDI.out x5 vA vB HA.out HBW.out
              refine hdi.mono ?_
              rintro e x6 ⟨rfl, hbD⟩
              have HXB' : Hid (wr.heap.size ≤ X ∧ x6.heap[X]? = some (.cells #[.string ⟨#[]⟩, .int .i64 0] 47 (0, 0))) := ⟨HXB.out.1, (hbD.block X (lt_of_heap HXB.out.2)).trans HXB.out.2⟩
              clear HXB
              have HXB := HXB'
              clear HXB'
              clear HA HBW hdi
              go_wp2_with fail
              refine hK.out _ _ (hHeld.stay hbD : Up wr.heap.size wr x6) (fun hHeld' => ?_)
              clear hK K hbD
              clear hHeld
              have hHeld := hHeld'
              clear hHeld'
              (try dsimp only at hHeld)
              (try simp only [Act.put, List.setIfInBounds_toArray, List.set_cons_zero, List.set_cons_succ])
              refine takeH (i := 12) (v := ?_) (d := (some 33)) rfl (by kernel_rfl) (by kernel_rfl) (by kernel_rfl) rfl (fun _ _ _ h => h) (Or.inl ⟨by kernel_rfl, ?_⟩) (by first | assumption | trivial) ?_; rotate_left
              · (intro w hSw; (try dsimp only at hSw); first | (go_simp; done) | (go_simp; with_reducible rfl))
              (try simp only [Act.put, List.setIfInBounds_toArray, List.set_cons_zero, List.set_cons_succ])
              refine wpAnyH_ready (rs := [14]) (by kernel_rfl) (by simp) (AllReadyH.cons rfl (fun K hK => ?_) AllReadyH.nil)
              rw [if_pos (by kernel_rfl)]
              have e0 : x6.cell? ⟨X, 0, none⟩ = some (.string ⟨#[]⟩) := by rw [cell_of_row _ X 0 _ _ _ HXB.out.2]; rfl
              have e1 : x6.cell? ⟨X, 1, none⟩ = some (.int .i64 0) := by rw [cell_of_row _ X 1 _ _ _ HXB.out.2]; rfl
              have f0 : x6.frozen? ⟨X, 0, none⟩ = false := by simp [World.frozen?, HXB.out.2]
              have f1 : x6.frozen? ⟨X, 1, none⟩ = false := by simp [World.frozen?, HXB.out.2]
              have HUF : Hid (Up wr.heap.size wr ((x6.setCell ⟨X, 0, none⟩ (.string s)).setCell ⟨X, 1, none⟩ (.int .i64 (d : Int)))) := (hHeld.setCell HXB.out.1 _).setCell HXB.out.1 _
              have HXF : Hid (wr.heap.size ≤ X ∧ ((x6.setCell ⟨X, 0, none⟩ (.string s)).setCell ⟨X, 1, none⟩ (.int .i64 (d : Int))).heap[X]? = some (.cells #[.string s, .int .i64 (d : Int)] 47 (0, 0))) := ⟨HXB.out.1, heap_setCell_same _ X 1 _ _ _ (heap_setCell_same x6 X 0 _ _ _ HXB.out.2)⟩
              go_simp
              refine hK.out _ _ HUF.out (fun hHeld' => ?_)
              clear hK K hHeld hHeld' HXB e0 e1 f0 f1
              (try simp only [Act.put, List.setIfInBounds_toArray, List.set_cons_zero, List.set_cons_succ])
              refine wpAnyH_done (by kernel_rfl) ?_ _
              go_wp2
              go_meet
              case rel => exact ⟨X, rfl, HXF, HUF⟩
          · rw [if_pos (by kernel_rfl)]
            go_simp
            have hba : Below x1.heap.size x1 (x1.alloc (.cells #[.string ⟨#[]⟩, .int .i64 0] 47)) := (Below.refl _ _).alloc (Nat.le_refl _) _
            obtain ⟨X, hXe⟩ : ∃ X, x1.heap.size = X := ⟨_, rfl⟩
            have HXB : Hid (wr.heap.size ≤ X ∧ (x1.alloc (.cells #[.string ⟨#[]⟩, .int .i64 0] 47)).heap[X]? = some (.cells #[.string ⟨#[]⟩, .int .i64 0] 47 (0, 0))) := ⟨by rw [← hXe]; exact hHeld.2, by rw [← hXe]; exact Array.getElem?_push_size⟩
            have HA' : Hid ((x1.alloc (.cells #[.string ⟨#[]⟩, .int .i64 0] 47)).ownsRow wr.heap.size 21 1 vA W.length (W.map i32c)) := own_stay HA.out hba
            clear HA
            have HA := HA'
            clear HA'
            rw [hXe]
            refine hK.out _ _ (hHeld.stay hba : Up wr.heap.size wr (x1.alloc (.cells #[.string ⟨#[]⟩, .int .i64 0] 47))) (fun hHeld' => ?_)
            clear hK K hba hXe
            clear hHeld
            have hHeld := hHeld'
            clear hHeld'
            (try dsimp only at hHeld)
            (try simp only [Act.put, List.setIfInBounds_toArray, List.set_cons_zero, List.set_cons_succ])
            obtain ⟨x7, hx7⟩ : ∃ x7, x1.alloc (.cells #[.string ⟨#[]⟩, .int .i64 0] 47) = x7 := ⟨_, rfl⟩
            rw [hx7] at hHeld HXB HA ⊢
            clear hx7
            refine wpAnyH_ready (rs := [10]) (by kernel_rfl) (by simp) (AllReadyH.cons rfl (fun K hK => ?_) AllReadyH.nil)
            go_simp
            refine (CS.out x7).mono ?_
            rintro e x8 ⟨vB, rfl, hoB, hbB⟩
            have HBW : Hid (x8.ownsRow wr.heap.size 21 1 vB (rs s).length ((rs s).map i32c)) := own_mono hoB hHeld.2
            have HA' : Hid (x8.ownsRow wr.heap.size 21 1 vA W.length (W.map i32c)) := own_stay HA.out hbB
            clear HA
            have HA := HA'
            clear HA'
            have HXB' : Hid (wr.heap.size ≤ X ∧ x8.heap[X]? = some (.cells #[.string ⟨#[]⟩, .int .i64 0] 47 (0, 0))) := ⟨HXB.out.1, (hbB.block X (lt_of_heap HXB.out.2)).trans HXB.out.2⟩
            clear HXB
            have HXB := HXB'
            clear HXB'
            go_wp2_with fail
            refine hK.out _ _ (hHeld.stay hbB : Up wr.heap.size wr x8) (fun hHeld' => ?_)
            clear hK K hoB hbB
            clear hHeld
            have hHeld := hHeld'
            clear hHeld'
            (try dsimp only at hHeld)
            (try simp only [Act.put, List.setIfInBounds_toArray, List.set_cons_zero, List.set_cons_succ])
            refine wpAnyH_ready (rs := [11]) (by kernel_rfl) (by simp) (AllReadyH.cons rfl (fun K hK => ?_) AllReadyH.nil)
            go_simp
            have hdi := HDI.out x8 vA vB HA.out HBW.out
            refine hdi.mono ?_
            rintro e x9 ⟨rfl, hbD⟩
            have HXB' : Hid (wr.heap.size ≤ X ∧ x9.heap[X]? = some (.cells #[.string ⟨#[]⟩, .int .i64 0] 47 (0, 0))) := ⟨HXB.out.1, (hbD.block X (lt_of_heap HXB.out.2)).trans HXB.out.2⟩
            clear HXB
            have HXB := HXB'
            clear HXB'
            clear HA HBW hdi
            go_wp2_with fail
            refine hK.out _ _ (hHeld.stay hbD : Up wr.heap.size wr x9) (fun hHeld' => ?_)
            clear hK K hbD
            clear hHeld
            have hHeld := hHeld'
            clear hHeld'
            (try dsimp only at hHeld)
            (try simp only [Act.put, List.setIfInBounds_toArray, List.set_cons_zero, List.set_cons_succ])
            refine takeH (i := 12) (v := ?_) (d := (some 33)) rfl (by kernel_rfl) (by kernel_rfl) (by kernel_rfl) rfl (fun _ _ _ h => h) (Or.inl ⟨by kernel_rfl, ?_⟩) (by first | assumption | trivial) ?_; rotate_left
            · (intro w hSw; (try dsimp only at hSw); first | (go_simp; done) | (go_simp; with_reducible rfl))
            (try simp only [Act.put, List.setIfInBounds_toArray, List.set_cons_zero, List.set_cons_succ])
            refine wpAnyH_ready (rs := [14]) (by kernel_rfl) (by simp) (AllReadyH.cons rfl (fun K hK => ?_) AllReadyH.nil)
            rw [if_pos (by kernel_rfl)]
            have e0 : x9.cell? ⟨X, 0, none⟩ = some (.string ⟨#[]⟩) := by rw [cell_of_row _ X 0 _ _ _ HXB.out.2]; rfl
            have e1 : x9.cell? ⟨X, 1, none⟩ = some (.int .i64 0) := by rw [cell_of_row _ X 1 _ _ _ HXB.out.2]; rfl
            have f0 : x9.frozen? ⟨X, 0, none⟩ = false := by simp [World.frozen?, HXB.out.2]
            have f1 : x9.frozen? ⟨X, 1, none⟩ = false := by simp [World.frozen?, HXB.out.2]
            have HUF : Hid (Up wr.heap.size wr ((x9.setCell ⟨X, 0, none⟩ (.string s)).setCell ⟨X, 1, none⟩ (.int .i64 (d : Int)))) := (hHeld.setCell HXB.out.1 _).setCell HXB.out.1 _
            have HXF : Hid (wr.heap.size ≤ X ∧ ((x9.setCell ⟨X, 0, none⟩ (.string s)).setCell ⟨X, 1, none⟩ (.int .i64 (d : Int))).heap[X]? = some (.cells #[.string s, .int .i64 (d : Int)] 47 (0, 0))) := ⟨HXB.out.1, heap_setCell_same _ X 1 _ _ _ (heap_setCell_same x9 X 0 _ _ _ HXB.out.2)⟩
            go_simp
            refine hK.out _ _ HUF.out (fun hHeld' => ?_)
            clear hK K hHeld hHeld' HXB e0 e1 f0 f1
            (try simp only [Act.put, List.setIfInBounds_toArray, List.set_cons_zero, List.set_cons_succ])
            refine wpAnyH_done (by kernel_rfl) ?_ _
            go_wp2
            go_meet
            case rel => exact ⟨X, rfl, HXF, HUF⟩
        · rw [if_pos (by kernel_rfl)]
          go_simp
          have hba : Below x0.heap.size x0 (x0.alloc (.cells #[.string ⟨#[]⟩, .int .i64 0] 47)) := (Below.refl _ _).alloc (Nat.le_refl _) _
          obtain ⟨X, hXe⟩ : ∃ X, x0.heap.size = X := ⟨_, rfl⟩
          have HXB : Hid (wr.heap.size ≤ X ∧ (x0.alloc (.cells #[.string ⟨#[]⟩, .int .i64 0] 47)).heap[X]? = some (.cells #[.string ⟨#[]⟩, .int .i64 0] 47 (0, 0))) := ⟨by rw [← hXe]; exact hHeld.2, by rw [← hXe]; exact Array.getElem?_push_size⟩
          rw [hXe]
          refine hK.out _ _ (hHeld.stay hba : Up wr.heap.size wr (x0.alloc (.cells #[.string ⟨#[]⟩, .int .i64 0] 47))) (fun hHeld' => ?_)
          clear hK K hba hXe
          clear hHeld
          have hHeld := hHeld'
          clear hHeld'
          (try dsimp only at hHeld)
          (try simp only [Act.put, List.setIfInBounds_toArray, List.set_cons_zero, List.set_cons_succ])
          obtain ⟨x10, hx10⟩ : ∃ x10, x0.alloc (.cells #[.string ⟨#[]⟩, .int .i64 0] 47) = x10 := ⟨_, rfl⟩
          rw [hx10] at hHeld HXB  ⊢
          clear hx10
          refine wpAnyH_ready (rs := [5]) (by kernel_rfl) (by simp) (AllReadyH.cons rfl (fun K hK => ?_) AllReadyH.nil)
          go_simp
          refine (CW.out x10).mono ?_
          rintro e x11 ⟨vA, rfl, hoA, hbA⟩
          have HA : Hid (x11.ownsRow wr.heap.size 21 1 vA W.length (W.map i32c)) := own_mono hoA hHeld.2
          have HXB' : Hid (wr.heap.size ≤ X ∧ x11.heap[X]? = some (.cells #[.string ⟨#[]⟩, .int .i64 0] 47 (0, 0))) := ⟨HXB.out.1, (hbA.block X (lt_of_heap HXB.out.2)).trans HXB.out.2⟩
          clear HXB
          have HXB := HXB'
          clear HXB'
          go_wp2_with fail
          refine hK.out _ _ (hHeld.stay hbA : Up wr.heap.size wr x11) (fun hHeld' => ?_)
          clear hK K hoA hbA
          clear hHeld
          have hHeld := hHeld'
          clear hHeld'
          (try dsimp only at hHeld)
          (try simp only [Act.put, List.setIfInBounds_toArray, List.set_cons_zero, List.set_cons_succ])
          refine wpAnyH_ready (rs := [10]) (by kernel_rfl) (by simp) (AllReadyH.cons rfl (fun K hK => ?_) AllReadyH.nil)
          go_simp
          refine (CS.out x11).mono ?_
          rintro e x12 ⟨vB, rfl, hoB, hbB⟩
          have HBW : Hid (x12.ownsRow wr.heap.size 21 1 vB (rs s).length ((rs s).map i32c)) := own_mono hoB hHeld.2
          have HXB' : Hid (wr.heap.size ≤ X ∧ x12.heap[X]? = some (.cells #[.string ⟨#[]⟩, .int .i64 0] 47 (0, 0))) := ⟨HXB.out.1, (hbB.block X (lt_of_heap HXB.out.2)).trans HXB.out.2⟩
          clear HXB
          have HXB := HXB'
          clear HXB'
          have HA' : Hid (x12.ownsRow wr.heap.size 21 1 vA W.length (W.map i32c)) := own_stay HA.out hbB
          clear HA
          have HA := HA'
          clear HA'
          go_wp2_with fail
          refine hK.out _ _ (hHeld.stay hbB : Up wr.heap.size wr x12) (fun hHeld' => ?_)
          clear hK K hoB hbB
          clear hHeld
          have hHeld := hHeld'
          clear hHeld'
          (try dsimp only at hHeld)
          (try simp only [Act.put, List.setIfInBounds_toArray, List.set_cons_zero, List.set_cons_succ])
          refine wpAnyH_ready (rs := [11]) (by kernel_rfl) (by simp) (AllReadyH.cons rfl (fun K hK => ?_) AllReadyH.nil)
          go_simp
          have hdi := HDI.out x12 vA vB HA.out HBW.out
          refine hdi.mono ?_
          rintro e x13 ⟨rfl, hbD⟩
          have HXB' : Hid (wr.heap.size ≤ X ∧ x13.heap[X]? = some (.cells #[.string ⟨#[]⟩, .int .i64 0] 47 (0, 0))) := ⟨HXB.out.1, (hbD.block X (lt_of_heap HXB.out.2)).trans HXB.out.2⟩
          clear HXB
          have HXB := HXB'
          clear HXB'
          clear HA HBW hdi
          go_wp2_with fail
          refine hK.out _ _ (hHeld.stay hbD : Up wr.heap.size wr x13) (fun hHeld' => ?_)
          clear hK K hbD
          clear hHeld
          have hHeld := hHeld'
          clear hHeld'
          (try dsimp only at hHeld)
          (try simp only [Act.put, List.setIfInBounds_toArray, List.set_cons_zero, List.set_cons_succ])
          refine takeH (i := 12) (v := ?_) (d := (some 33)) rfl (by kernel_rfl) (by kernel_rfl) (by kernel_rfl) rfl (fun _ _ _ h => h) (Or.inl ⟨by kernel_rfl, ?_⟩) (by first | assumption | trivial) ?_; rotate_left
          · (intro w hSw; (try dsimp only at hSw); first | (go_simp; done) | (go_simp; with_reducible rfl))
          (try simp only [Act.put, List.setIfInBounds_toArray, List.set_cons_zero, List.set_cons_succ])
          refine wpAnyH_ready (rs := [14]) (by kernel_rfl) (by simp) (AllReadyH.cons rfl (fun K hK => ?_) AllReadyH.nil)
          rw [if_pos (by kernel_rfl)]
          have e0 : x13.cell? ⟨X, 0, none⟩ = some (.string ⟨#[]⟩) := by rw [cell_of_row _ X 0 _ _ _ HXB.out.2]; rfl
          have e1 : x13.cell? ⟨X, 1, none⟩ = some (.int .i64 0) := by rw [cell_of_row _ X 1 _ _ _ HXB.out.2]; rfl
          have f0 : x13.frozen? ⟨X, 0, none⟩ = false := by simp [World.frozen?, HXB.out.2]
          have f1 : x13.frozen? ⟨X, 1, none⟩ = false := by simp [World.frozen?, HXB.out.2]
          have HUF : Hid (Up wr.heap.size wr ((x13.setCell ⟨X, 0, none⟩ (.string s)).setCell ⟨X, 1, none⟩ (.int .i64 (d : Int)))) := (hHeld.setCell HXB.out.1 _).setCell HXB.out.1 _
          have HXF : Hid (wr.heap.size ≤ X ∧ ((x13.setCell ⟨X, 0, none⟩ (.string s)).setCell ⟨X, 1, none⟩ (.int .i64 (d : Int))).heap[X]? = some (.cells #[.string s, .int .i64 (d : Int)] 47 (0, 0))) := ⟨HXB.out.1, heap_setCell_same _ X 1 _ _ _ (heap_setCell_same x13 X 0 _ _ _ HXB.out.2)⟩
          go_simp
          refine hK.out _ _ HUF.out (fun hHeld' => ?_)
          clear hK K hHeld hHeld' HXB e0 e1 f0 f1
          (try simp only [Act.put, List.setIfInBounds_toArray, List.set_cons_zero, List.set_cons_succ])
          refine wpAnyH_done (by kernel_rfl) ?_ _
          go_wp2
          go_meet
          case rel => exact ⟨X, rfl, HXF, HUF⟩
      case rest =>
        obtain ⟨X, rfl, HXF, HUX⟩ := hcut
        have hx0 : wc.cell? ⟨X, 0, none⟩ = some (.string s) := by rw [cell_of_row _ X 0 _ _ _ HXF.out.2]; rfl
        have hx1 : wc.cell? ⟨X, 1, none⟩ = some (.int .i64 (d : Int)) := by rw [cell_of_row _ X 1 _ _ _ HXF.out.2]; rfl
        have HXC : Hid (wc.cell? ⟨X, 0, none⟩ = some (.string s) ∧ wc.cell? ⟨X, 1, none⟩ = some (.int .i64 (d : Int))) := ⟨hx0, hx1⟩
        have HOC : Hid (ON wc w.heap.size (.slice ado n co) out) := HO.out.stay HUX.out.1
        have HUC : Hid (Up w.heap.size w wc) := HU.out.stay HUX.out.1
        clear CS HDI hcs HO HU HUX HXF
        by_cases hfar : most < d
        · have y1 : (most : Int) < (d : Int) := by omega
          have HN1 : Hid (nearsG Pf W most out (L.drop (i + 1)) = R) := by
            have h1 := HN0.out
            rw [HDR.out] at h1
            unfold nearsG at h1
            rw [if_neg (by rw [HED.out]; omega)] at h1
            exact h1
          clear hx0 HN0
          go_wp2
          go_roundg (nl - (i + 1))
          case measure => omega
          case rel => exact ⟨i + 1, out, _, rfl, by omega, rfl, by go_num, HOC, HN1, ⟨by have := HLE.out.1; omega, HLE.out.2⟩, HUC⟩
        · have y1 : ¬ (most : Int) < (d : Int) := by omega
          have HN1 : Hid (nearsG Pf W most (insN (fun y => ltB Pf y ⟨s, d⟩) out ⟨s, d⟩) (L.drop (i + 1)) = R) := by
            have h1 := HN0.out
            rw [HDR.out] at h1
            unfold nearsG at h1
            rw [if_pos (by rw [HED.out]; omega), HED.out] at h1
            exact h1
          clear HN0
          obtain ⟨wT, rfl⟩ : ∃ wT, wT = wr := ⟨_, rfl⟩
          obtain ⟨wb, rfl⟩ : ∃ wb, wb = wc := ⟨_, rfl⟩
          clear hx0
          go_upto_block 2 with fail
          go_cut [14] (fun kv wx => ∃ m : Nat, m ≤ n ∧ kv = .int .i64 m ∧ Hid (Up wb.heap.size wb wx) ∧ Hid (∀ j y, out[j]? = some y → j < m → LtN Pf y ⟨s, d⟩) ∧ Hid (∀ y, out[m]? = some y → ¬ LtN Pf y ⟨s, d⟩))
          case first =>
            go_wp2_with fail
            go_loopg [14] n (fun g kv wx => ∃ m : Nat, m ≤ n ∧ g = n - m ∧ kv = .int .i64 m ∧ Hid (Up wb.heap.size wb wx) ∧ Hid (∀ j y, out[j]? = some y → j < m → LtN Pf y ⟨s, d⟩))
            case atStart => exact ⟨0, Nat.zero_le _, rfl, rfl, Up.refl wb, fun j y _ hj => absurd hj (Nat.not_lt_zero j)⟩
            case round =>
              obtain ⟨m, hmn, hgm, rfl, HUq, HJ⟩ := hrel
              obtain ⟨wq, rfl⟩ : ∃ wq, wq = wr := ⟨_, rfl⟩
              have x0 : (0 : Int) ≤ (m : Int) := by omega
              have hxc0 := cell_stay HXC.out.1 HUq.out.1
              have hxc1 := cell_stay HXC.out.2 HUq.out.1
              by_cases hmq : m < n
              · have x1 : (m : Int) < (n : Int) := by omega
                obtain ⟨⟨ys, yd⟩, hy⟩ : ∃ y, out[m]? = some y := ⟨_, List.getElem?_eq_getElem (by rw [HN.out]; exact hmq)⟩
                obtain ⟨g, rfl, ho0', ho1', -, -⟩ := on_cells HOC.out HN.out hy
                have ho0 := cell_stay ho0' HUq.out.1
                have ho1 := cell_stay ho1' HUq.out.1
                dsimp only at ho0 ho1
                obtain ⟨bq, ebq⟩ : ∃ bq : Bool, bq = true ↔ LtN Pf ⟨ys, yd⟩ ⟨s, d⟩ := by
                  by_cases h : LtN Pf ⟨ys, yd⟩ ⟨s, d⟩
                  · exact ⟨true, by simp [h]⟩
                  · exact ⟨false, by simp [h]⟩
                have HBQ : Hid (bq = true ↔ LtN Pf ⟨ys, yd⟩ ⟨s, d⟩) := ebq
                have hyd := HLE.out.2 _ (List.mem_of_getElem? hy)
                have CA : Hid (∀ w', Up wq.heap.size wq w' → Calls Tryd.prog 40 #[.agg #[.string ys, .int .i64 (yd : Int)], .agg #[.string s, .int .i64 (d : Int)], .slice ap Pf.length cp] w' fun e w'' => e = .returned (.bool bq) ∧ Up wq.heap.size wq w'') := fun w' hu => by
                  refine (ahead_any (HP.out.stay (HUC.out.stay HUq.out.1 |>.stay hu.1).1) hPl ⟨ys, yd⟩ ⟨s, d⟩ bq HBQ.out (by show yd ≤ 1000; have : yd ≤ 3 := hyd; omega) hd1000).mono ?_
                  rintro e w'' ⟨rfl, hb⟩
                  exact ⟨rfl, hu.stay hb⟩
                have HY : Hid (out[m]? = some ⟨ys, yd⟩) := hy
                clear hy ho0' ho1' ebq hyd
                go_upto_region 8 with fail
                go_cut [50] (fun tv wx => tv = .bool bq ∧ Hid (Up wq.heap.size wq wx))
                case first =>
                  refine wp_region_held_drew (S := fun w' => Up wq.heap.size wq w') (by kernel_rfl) (Up.refl wq).drew (fun hHeld => ?_)
                  (try dsimp only at hHeld)
                  obtain ⟨x0, hx0⟩ : ∃ x0, wq.drew = x0 := ⟨_, rfl⟩
                  rw [hx0] at hHeld ⊢
                  clear hx0
                  refine takeH (i := 0) (v := ?_) (d := (some 38)) rfl (by kernel_rfl) (by kernel_rfl) (by kernel_rfl) rfl (fun _ _ _ h => h) (Or.inl ⟨by kernel_rfl, ?_⟩) (by first | assumption | trivial) ?_; rotate_left
                  · (intro w hSw; (try dsimp only at hSw); first | (go_simp; done) | (go_simp; with_reducible rfl))
                  (try simp only [Act.put, List.setIfInBounds_toArray, List.set_cons_zero, List.set_cons_succ])
                  refine takeH (i := 1) (v := ?_) (d := (some 39)) rfl (by kernel_rfl) (by kernel_rfl) (by kernel_rfl) rfl (fun _ _ _ h => h) (Or.inl ⟨by kernel_rfl, ?_⟩) (by first | assumption | trivial) ?_; rotate_left
                  · (intro w hSw; (try dsimp only at hSw); first | (go_simp; done) | (go_simp; with_reducible rfl))
                  (try simp only [Act.put, List.setIfInBounds_toArray, List.set_cons_zero, List.set_cons_succ])
                  refine takeH (i := 2) (v := ?_) (d := (some 40)) rfl (by kernel_rfl) (by kernel_rfl) (by kernel_rfl) rfl (fun _ _ _ h => h) (Or.inl ⟨by kernel_rfl, ?_⟩) (by first | assumption | trivial) ?_; rotate_left
                  · (intro w hSw; (try dsimp only at hSw); first | (go_simp; done) | (go_simp; with_reducible rfl))
                  (try simp only [Act.put, List.setIfInBounds_toArray, List.set_cons_zero, List.set_cons_succ])
                  refine takeH (i := 3) (v := ?_) (d := (some 41)) rfl (by kernel_rfl) (by kernel_rfl) (by kernel_rfl) rfl (fun _ _ _ h => h) (Or.inl ⟨by kernel_rfl, ?_⟩) (by first | assumption | trivial) ?_; rotate_left
                  · (intro w hSw; (try dsimp only at hSw); first | (go_simp; done) | (go_simp; with_reducible rfl))
                  (try simp only [Act.put, List.setIfInBounds_toArray, List.set_cons_zero, List.set_cons_succ])
                  refine takeH (i := 4) (v := ?_) (d := (some 42)) rfl (by kernel_rfl) (by kernel_rfl) (by kernel_rfl) rfl (fun _ _ _ h => h) (Or.inl ⟨by kernel_rfl, ?_⟩) (by first | assumption | trivial) ?_; rotate_left
                  · (intro w hSw; (try dsimp only at hSw); first | (go_simp; done) | (go_simp; with_reducible rfl))
                  (try simp only [Act.put, List.setIfInBounds_toArray, List.set_cons_zero, List.set_cons_succ])
                  refine takeH (i := 5) (v := ?_) (d := (some 43)) rfl (by kernel_rfl) (by kernel_rfl) (by kernel_rfl) rfl (fun _ _ _ h => h) (Or.inl ⟨by kernel_rfl, ?_⟩) (by first | assumption | trivial) ?_; rotate_left
                  · (intro w hSw; (try dsimp only at hSw); first | (go_simp; done) | (go_simp; with_reducible rfl))
                  (try simp only [Act.put, List.setIfInBounds_toArray, List.set_cons_zero, List.set_cons_succ])
                  refine takeH (i := 6) (v := ?_) (d := (some 44)) rfl (by kernel_rfl) (by kernel_rfl) (by kernel_rfl) rfl (fun _ _ _ h => h) (Or.inl ⟨by kernel_rfl, ?_⟩) (by first | assumption | trivial) ?_; rotate_left
                  · (intro w hSw; (try dsimp only at hSw); first | (go_simp; done) | (go_simp; with_reducible rfl))
                  (try simp only [Act.put, List.setIfInBounds_toArray, List.set_cons_zero, List.set_cons_succ])
                  refine takeH (i := 7) (v := ?_) (d := (some 45)) rfl (by kernel_rfl) (by kernel_rfl) (by kernel_rfl) rfl (fun _ _ _ h => h) (Or.inl ⟨by kernel_rfl, ?_⟩) (by first | assumption | trivial) ?_; rotate_left
                  · (intro w hSw; (try dsimp only at hSw); first | (go_simp; done) | (go_simp; with_reducible rfl))
                  (try simp only [Act.put, List.setIfInBounds_toArray, List.set_cons_zero, List.set_cons_succ])
                  refine takeH (i := 8) (v := ?_) (d := (some 46)) rfl (by kernel_rfl) (by kernel_rfl) (by kernel_rfl) rfl (fun _ _ _ h => h) (Or.inl ⟨by kernel_rfl, ?_⟩) (by first | assumption | trivial) ?_; rotate_left
                  · (intro w hSw; (try dsimp only at hSw); have q0 := cell_stay ho0 hSw.1; have q1 := cell_stay ho1 hSw.1; first | (go_simp; done) | (go_simp; with_reducible rfl))
                  (try simp only [Act.put, List.setIfInBounds_toArray, List.set_cons_zero, List.set_cons_succ])
                  refine takeH (i := 9) (v := ?_) (d := (some 47)) rfl (by kernel_rfl) (by kernel_rfl) (by kernel_rfl) rfl (fun _ _ _ h => h) (Or.inl ⟨by kernel_rfl, ?_⟩) (by first | assumption | trivial) ?_; rotate_left
                  · (intro w hSw; (try dsimp only at hSw); have q0 := cell_stay hxc0 hSw.1; have q1 := cell_stay hxc1 hSw.1; first | (go_simp; done) | (go_simp; with_reducible rfl))
                  (try simp only [Act.put, List.setIfInBounds_toArray, List.set_cons_zero, List.set_cons_succ])
                  refine takeH (i := 10) (v := ?_) (d := (some 48)) rfl (by kernel_rfl) (by kernel_rfl) (by kernel_rfl) rfl (fun _ _ _ h => h) (Or.inl ⟨by kernel_rfl, ?_⟩) (by first | assumption | trivial) ?_; rotate_left
                  · (intro w hSw; (try dsimp only at hSw); first | (go_simp; done) | (go_simp; with_reducible rfl))
                  (try simp only [Act.put, List.setIfInBounds_toArray, List.set_cons_zero, List.set_cons_succ])
                  refine wpAnyH_ready (rs := [11]) (by kernel_rfl) (by simp) (AllReadyH.cons rfl (fun K hK => ?_) AllReadyH.nil)
                  go_simp
                  refine (CA.out _ hHeld).mono ?_
                  rintro e x1 ⟨rfl, hx1⟩
                  go_wp2_with fail
                  refine hK.out _ _ hx1 (fun hHeld' => ?_)
                  clear hK K hHeld hx1
                  have hHeld := hHeld'
                  clear hHeld'
                  (try dsimp only at hHeld)
                  (try simp only [Act.put, List.setIfInBounds_toArray, List.set_cons_zero, List.set_cons_succ])
                  refine takeH (i := 12) (v := ?_) (d := (some 50)) rfl (by kernel_rfl) (by kernel_rfl) (by kernel_rfl) rfl (fun _ _ _ h => h) (Or.inl ⟨by kernel_rfl, ?_⟩) (by first | assumption | trivial) ?_; rotate_left
                  · (intro w hSw; (try dsimp only at hSw); first | (go_simp; done) | (go_simp; with_reducible rfl))
                  (try simp only [Act.put, List.setIfInBounds_toArray, List.set_cons_zero, List.set_cons_succ])
                  refine wpAnyH_done (by kernel_rfl) ?_ _
                  have HUX : Hid (Up wq.heap.size wq x1) := hHeld
                  clear hHeld
                  go_wp2
                  go_meet
                  case rel => exact ⟨rfl, HUX⟩
                case rest =>
                  obtain ⟨rfl, HU8⟩ := hcut
                  have HUZ : Hid (Up wb.heap.size wb wc) := HUq.out.stay HU8.out.1
                  clear CA ho0 ho1 hxc0 hxc1
                  cases bq with
                  | true =>
                    have HJ2 : Hid (∀ j y, out[j]? = some y → j < m + 1 → LtN Pf y ⟨s, d⟩) := fun j y hj hl => by
                      rcases Nat.lt_succ_iff_lt_or_eq.1 hl with h | h
                      · exact HJ.out j y hj h
                      · subst h
                        rw [HY.out] at hj
                        injection hj with hj
                        rw [← hj]
                        exact HBQ.out.1 rfl
                    go_wp2
                    go_roundg (n - (m + 1))
                    case measure => omega
                    case rel => exact ⟨m + 1, by omega, rfl, by go_num, HUZ, HJ2⟩
                  | false =>
                    have HNN : Hid (∀ y, out[m]? = some y → ¬ LtN Pf y ⟨s, d⟩) := fun y hy hl => by
                      rw [HY.out] at hy
                      injection hy with hy
                      rw [← hy] at hl
                      have := HBQ.out.2 hl
                      cases this
                    go_wp2
                    go_meet
                    case rel => exact ⟨m, hmn, rfl, HUZ, HJ, HNN⟩
              · have x1 : ¬ (m : Int) < (n : Int) := by omega
                have HNN : Hid (∀ y, out[m]? = some y → ¬ LtN Pf y ⟨s, d⟩) := fun y hy => by
                  have := (List.getElem?_eq_some_iff.1 hy).1
                  rw [HN.out] at this
                  omega
                go_upto_region 8 with fail
                go_cut [50] (fun tv wx => tv = .bool false ∧ Hid (Up wq.heap.size wq wx))
                case first =>
                  refine wp_region_held_drew (S := fun w' => Up wq.heap.size wq w') (by kernel_rfl) (Up.refl wq).drew (fun hHeld => ?_)
                  (try dsimp only at hHeld)
                  obtain ⟨x0, hx0⟩ : ∃ x0, wq.drew = x0 := ⟨_, rfl⟩
                  rw [hx0] at hHeld ⊢
                  clear hx0
                  refine takeH (i := 0) (v := ?_) (d := (some 38)) rfl (by kernel_rfl) (by kernel_rfl) (by kernel_rfl) rfl (fun _ _ _ h => h) (Or.inl ⟨by kernel_rfl, ?_⟩) (by first | assumption | trivial) ?_; rotate_left
                  · (intro w hSw; (try dsimp only at hSw); first | (go_simp; done) | (go_simp; with_reducible rfl))
                  (try simp only [Act.put, List.setIfInBounds_toArray, List.set_cons_zero, List.set_cons_succ])
                  refine takeH (i := 1) (v := ?_) (d := (some 39)) rfl (by kernel_rfl) (by kernel_rfl) (by kernel_rfl) rfl (fun _ _ _ h => h) (Or.inl ⟨by kernel_rfl, ?_⟩) (by first | assumption | trivial) ?_; rotate_left
                  · (intro w hSw; (try dsimp only at hSw); first | (go_simp; done) | (go_simp; with_reducible rfl))
                  (try simp only [Act.put, List.setIfInBounds_toArray, List.set_cons_zero, List.set_cons_succ])
                  refine takeH (i := 2) (v := ?_) (d := (some 40)) rfl (by kernel_rfl) (by kernel_rfl) (by kernel_rfl) rfl (fun _ _ _ h => h) (Or.inl ⟨by kernel_rfl, ?_⟩) (by first | assumption | trivial) ?_; rotate_left
                  · (intro w hSw; (try dsimp only at hSw); first | (go_simp; done) | (go_simp; with_reducible rfl))
                  (try simp only [Act.put, List.setIfInBounds_toArray, List.set_cons_zero, List.set_cons_succ])
                  refine takeH (i := 3) (v := ?_) (d := (some 41)) rfl (by kernel_rfl) (by kernel_rfl) (by kernel_rfl) rfl (fun _ _ _ h => h) (Or.inl ⟨by kernel_rfl, ?_⟩) (by first | assumption | trivial) ?_; rotate_left
                  · (intro w hSw; (try dsimp only at hSw); first | (go_simp; done) | (go_simp; with_reducible rfl))
                  (try simp only [Act.put, List.setIfInBounds_toArray, List.set_cons_zero, List.set_cons_succ])
                  refine takeH (i := 4) (v := ?_) (d := (some 42)) rfl (by kernel_rfl) (by kernel_rfl) (by kernel_rfl) rfl (fun _ _ _ h => h) (Or.inl ⟨by kernel_rfl, ?_⟩) (by first | assumption | trivial) ?_; rotate_left
                  · (intro w hSw; (try dsimp only at hSw); first | (go_simp; done) | (go_simp; with_reducible rfl))
                  (try simp only [Act.put, List.setIfInBounds_toArray, List.set_cons_zero, List.set_cons_succ])
                  refine takeH (i := 5) (v := undef) (d := (some 43)) rfl (by kernel_rfl) (by kernel_rfl) (by kernel_rfl) rfl (fun _ _ _ h => h) (Or.inr ⟨by kernel_rfl, rfl⟩) (by assumption) ?_
                  (try simp only [Act.put, List.setIfInBounds_toArray, List.set_cons_zero, List.set_cons_succ])
                  refine takeH (i := 6) (v := undef) (d := (some 44)) rfl (by kernel_rfl) (by kernel_rfl) (by kernel_rfl) rfl (fun _ _ _ h => h) (Or.inr ⟨by kernel_rfl, rfl⟩) (by assumption) ?_
                  (try simp only [Act.put, List.setIfInBounds_toArray, List.set_cons_zero, List.set_cons_succ])
                  refine takeH (i := 7) (v := undef) (d := (some 45)) rfl (by kernel_rfl) (by kernel_rfl) (by kernel_rfl) rfl (fun _ _ _ h => h) (Or.inr ⟨by kernel_rfl, rfl⟩) (by assumption) ?_
                  (try simp only [Act.put, List.setIfInBounds_toArray, List.set_cons_zero, List.set_cons_succ])
                  refine takeH (i := 8) (v := undef) (d := (some 46)) rfl (by kernel_rfl) (by kernel_rfl) (by kernel_rfl) rfl (fun _ _ _ h => h) (Or.inr ⟨by kernel_rfl, rfl⟩) (by assumption) ?_
                  (try simp only [Act.put, List.setIfInBounds_toArray, List.set_cons_zero, List.set_cons_succ])
                  refine takeH (i := 9) (v := undef) (d := (some 47)) rfl (by kernel_rfl) (by kernel_rfl) (by kernel_rfl) rfl (fun _ _ _ h => h) (Or.inr ⟨by kernel_rfl, rfl⟩) (by assumption) ?_
                  (try simp only [Act.put, List.setIfInBounds_toArray, List.set_cons_zero, List.set_cons_succ])
                  refine takeH (i := 10) (v := undef) (d := (some 48)) rfl (by kernel_rfl) (by kernel_rfl) (by kernel_rfl) rfl (fun _ _ _ h => h) (Or.inr ⟨by kernel_rfl, rfl⟩) (by assumption) ?_
                  (try simp only [Act.put, List.setIfInBounds_toArray, List.set_cons_zero, List.set_cons_succ])
                  refine takeH (i := 11) (v := undef) (d := (some 49)) rfl (by kernel_rfl) (by kernel_rfl) (by kernel_rfl) rfl (fun _ _ _ h => h) (Or.inr ⟨by kernel_rfl, rfl⟩) (by assumption) ?_
                  (try simp only [Act.put, List.setIfInBounds_toArray, List.set_cons_zero, List.set_cons_succ])
                  refine takeH (i := 12) (v := ?_) (d := (some 50)) rfl (by kernel_rfl) (by kernel_rfl) (by kernel_rfl) rfl (fun _ _ _ h => h) (Or.inl ⟨by kernel_rfl, ?_⟩) (by first | assumption | trivial) ?_; rotate_left
                  · (intro w hSw; (try dsimp only at hSw); first | (go_simp; done) | (go_simp; with_reducible rfl))
                  (try simp only [Act.put, List.setIfInBounds_toArray, List.set_cons_zero, List.set_cons_succ])
                  refine wpAnyH_done (by kernel_rfl) ?_ _
                  have HUX : Hid (Up wq.heap.size wq x0) := hHeld
                  clear hHeld
                  go_wp2
                  go_meet
                  case rel => exact ⟨rfl, HUX⟩
                case rest =>
                  obtain ⟨rfl, HU8⟩ := hcut
                  have HUZ : Hid (Up wb.heap.size wb wc) := HUq.out.stay HU8.out.1
                  clear hxc0 hxc1
                  go_wp2
                  go_meet
                  case rel => exact ⟨m, hmn, rfl, HUZ, HJ, HNN⟩
          case rest =>
            obtain ⟨m, hmn, rfl, HUq, HJ, HNN⟩ := hcut
            obtain ⟨wd, rfl⟩ : ∃ wd, wd = wc := ⟨_, rfl⟩
            have HOD : Hid (ON wd w.heap.size (.slice ado n co) out) := HOC.out.stay HUq.out.1
            have HWD : Hid (Up w.heap.size w wd) := HUC.out.stay HUq.out.1
            have HX0 : Hid (wd.cell? ⟨X, 0, none⟩ = some (.string s) ∧ wd.cell? ⟨X, 1, none⟩ = some (.int .i64 (d : Int))) := ⟨cell_stay HXC.out.1 HUq.out.1, cell_stay HXC.out.2 HUq.out.1⟩
            have HIN : Hid (insN (fun y => ltB Pf y ⟨s, d⟩) out ⟨s, d⟩ = out.take m ++ ⟨s, d⟩ :: out.drop m) := insN_at (fun j y hy hj => ltB_iff.2 (HJ.out j y hy hj)) (fun y hy => ltB_no.2 (HNN.out y hy)) (by rw [HN.out]; exact hmn) _
            have HDL : Hid (d ≤ 3) := by show d ≤ 3; omega
            have hnc : n ≤ co := (srcs_take HOD.out HN.out (Nat.le_refl n)).2.2
            have x0 : (0 : Int) ≤ (m : Int) := by omega
            have x2 : (m : Int) ≤ (n : Int) := by omega
            have x3 : (m : Int) ≤ (co : Int) := by omega
            have x4 : (n : Int) ≤ (co : Int) := by omega
            have HN2 : Hid (nearsG Pf W most (out.take m ++ ⟨s, d⟩ :: out.drop m) (L.drop (i + 1)) = R) := by
                show _ = _
                rw [← HIN.out]
                exact HN1.out
            have HLE2 : Hid ((out.take m ++ ⟨s, d⟩ :: out.drop m).length ≤ i + 1 ∧ ∀ y ∈ (out.take m ++ ⟨s, d⟩ :: out.drop m), y.d ≤ 3) := by
                refine ⟨?_, fun y hy => ?_⟩
                · rw [List.length_append, List.length_cons, List.length_take, List.length_drop, HN.out]
                  omega
                · rcases List.mem_append.1 hy with hy | hy
                  · exact HLE.out.2 y (List.mem_of_mem_take hy)
                  · rcases List.mem_cons.1 hy with rfl | hy
                    · exact HDL.out
                    · exact HLE.out.2 y (List.mem_of_mem_drop hy)
            clear HOC HUC HXC HUq HJ HNN HIN HN1
            go_upto_region 10 with fail
            · cases ado with
              | none =>
                have hn0 : n = 0 ∧ co = 0 := by
                  obtain ⟨_, ⟨e, h2⟩ | ⟨g, cap, cur, e, _⟩⟩ := HOD.out
                  · injection e with _ e2 e3
                    exact ⟨e2, e3⟩
                  · cases e
                obtain ⟨rfl, rfl⟩ := hn0
                obtain rfl : m = 0 := by omega
                obtain rfl : out = [] := List.eq_nil_of_length_eq_zero HN.out
                have HSA : ∀ c, Hid (Srcs wd (.slice none 0 c) 0 2 (nrC [])) := fun c => ⟨rfl, Or.inl ⟨_, c, rfl, rfl⟩⟩
                refine wp_region_held_drew (S := fun w' => Up wd.heap.size wd w') (by kernel_rfl) (Up.drew (Up.refl wd)) (fun hHeld => ?_)
                (try dsimp only at hHeld)
                obtain ⟨x0, hx0⟩ : ∃ x0, wd.drew = x0 := ⟨_, rfl⟩
                rw [hx0] at hHeld ⊢
                clear hx0
                refine takeH (i := 1) (v := ?_) (d := (some 54)) rfl (by kernel_rfl) (by kernel_rfl) (by kernel_rfl) rfl (fun _ _ _ h => h) (Or.inl ⟨by kernel_rfl, ?_⟩) (by assumption) ?_; rotate_left
                · (intro w hSw; (try dsimp only at hSw); first | (go_simp; done) | (go_simp; with_reducible rfl))
                (try simp only [Act.put, List.setIfInBounds_toArray, List.set_cons_zero, List.set_cons_succ])
                refine takeH (i := 2) (v := ?_) (d := (some 55)) rfl (by kernel_rfl) (by kernel_rfl) (by kernel_rfl) rfl (fun _ _ _ h => h) (Or.inl ⟨by kernel_rfl, ?_⟩) (by assumption) ?_; rotate_left
                · (intro w hSw; (try dsimp only at hSw); first | (go_simp; done) | (go_simp; with_reducible rfl))
                (try simp only [Act.put, List.setIfInBounds_toArray, List.set_cons_zero, List.set_cons_succ])
                refine takeH (i := 3) (v := ?_) (d := (some 56)) rfl (by kernel_rfl) (by kernel_rfl) (by kernel_rfl) rfl (fun _ _ _ h => h) (Or.inl ⟨by kernel_rfl, ?_⟩) (by assumption) ?_; rotate_left
                · (intro w hSw; (try dsimp only at hSw); first | (go_simp; done) | (go_simp; with_reducible rfl))
                (try simp only [Act.put, List.setIfInBounds_toArray, List.set_cons_zero, List.set_cons_succ])
                refine takeH (i := 5) (v := ?_) (d := (some 58)) rfl (by kernel_rfl) (by kernel_rfl) (by kernel_rfl) rfl (fun _ _ _ h => h) (Or.inl ⟨by kernel_rfl, ?_⟩) (by assumption) ?_; rotate_left
                · (intro w hSw; (try dsimp only at hSw); have q0 := cell_stay HX0.out.1 hSw.1; have q1 := cell_stay HX0.out.2 hSw.1; first | (go_simp; done) | (go_simp; with_reducible rfl))
                (try simp only [Act.put, List.setIfInBounds_toArray, List.set_cons_zero, List.set_cons_succ])
                refine takeH (i := 8) (v := ?_) (d := (some 61)) rfl (by kernel_rfl) (by kernel_rfl) (by kernel_rfl) rfl (fun _ _ _ h => h) (Or.inl ⟨by kernel_rfl, ?_⟩) (by assumption) ?_; rotate_left
                · (intro w hSw; (try dsimp only at hSw); first | (go_simp; done) | (go_simp; with_reducible rfl))
                (try simp only [Act.put, List.setIfInBounds_toArray, List.set_cons_zero, List.set_cons_succ])
                refine takeH (i := 9) (v := ?_) (d := (some 62)) rfl (by kernel_rfl) (by kernel_rfl) (by kernel_rfl) rfl (fun _ _ _ h => h) (Or.inl ⟨by kernel_rfl, ?_⟩) (by assumption) ?_; rotate_left
                · (intro w hSw; (try dsimp only at hSw); first | (go_simp; done) | (go_simp; with_reducible rfl))
                (try simp only [Act.put, List.setIfInBounds_toArray, List.set_cons_zero, List.set_cons_succ])
                refine takeH (i := 10) (v := ?_) (d := (some 63)) rfl (by kernel_rfl) (by kernel_rfl) (by kernel_rfl) rfl (fun _ _ _ h => h) (Or.inl ⟨by kernel_rfl, ?_⟩) (by assumption) ?_; rotate_left
                · (intro w hSw; (try dsimp only at hSw); first | (go_simp; done) | (go_simp; with_reducible rfl))
                (try simp only [Act.put, List.setIfInBounds_toArray, List.set_cons_zero, List.set_cons_succ])
                refine wpAnyH_ready (rs := [0, 6]) (by kernel_rfl) (by simp) (AllReadyH.cons rfl (fun K hK => ?_) (AllReadyH.cons rfl (fun K hK => ?_) AllReadyH.nil))
                · rw [if_pos (by kernel_rfl)]
                  go_simp
                  have O20 : Hid ((x0.alloc (.cells #[] 47)).ownsRow wd.heap.size 47 2 (.slice (some ⟨x0.heap.size, 0, none⟩) 0 0) 0 []) := World.ownsRow_lit x0 #[] 0 hHeld.2 (Nat.zero_le _) rfl
                  refine hK.out _ _ (hHeld.alloc _ : Up wd.heap.size wd _) (fun hHeld => ?_)
                  clear hK K
                  (try dsimp only at hHeld)
                  (try simp only [Act.put, List.setIfInBounds_toArray, List.set_cons_zero, List.set_cons_succ])
                  obtain ⟨x1, hx1⟩ : ∃ x1, x0.alloc (.cells #[] 47) = x1 := ⟨_, rfl⟩
                  rw [hx1] at hHeld O20 ⊢
                  refine wpAnyH_ready (rs := [4, 6]) (by kernel_rfl) (by simp) (AllReadyH.cons rfl (fun K hK => ?_) (AllReadyH.cons rfl (fun K hK => ?_) AllReadyH.nil))
                  · rw [if_pos (by kernel_rfl)]
                    refine app_src_wp (.tmp 53) (.tmp 56) 34 rfl wd.heap.size 47 in0 _ 2 24 Tryd.underlying34 hin hnz0 hnz1 hnz2 rfl (by decide) _ _ _ rfl O20.out _ _ _ rfl ((HSA _).out.stay hHeld.1) (one_nr _) (by unfold maxLen; omega) (by omega) hHeld.2 ?_
                    intro v24 x2 ho24 hg24
                    change K (Act.put _ (some 57) _) _
                    have O24 : Hid (x2.ownsRow wd.heap.size 47 2 v24 (0 + 0) ([] ++ (nrC []))) := ho24
                    have hu24 : Up wd.heap.size wd x2 := hHeld.grown hg24 (own_base O20.out)
                    clear ho24 hg24 O20
                    refine hK.out _ _ (hu24 : Up wd.heap.size wd _) (fun hHeld => ?_)
                    clear hK K
                    (try dsimp only at hHeld)
                    (try simp only [Act.put, List.setIfInBounds_toArray, List.set_cons_zero, List.set_cons_succ])
                    clear hu24
                    refine wpAnyH_ready (rs := [6]) (by kernel_rfl) (by simp) (AllReadyH.cons rfl (fun K hK => ?_) AllReadyH.nil)
                    rw [if_pos (by kernel_rfl)]
                    go_simp
                    have S26 : Hid (Srcs (x2.alloc (.cells #[.string s, .int .i64 (d : Int)] 47)) (.slice (some ⟨x2.heap.size, 0, none⟩) 1 1) 1 2 [.string s, .int .i64 (d : Int)]) := srcs_new x2 #[.string s, .int .i64 (d : Int)] 47 1 2 1 rfl
                    have O24' := O24.out.alloc (.cells #[.string s, .int .i64 (d : Int)] 47)
                    clear O24
                    have O24 : Hid (World.ownsRow _ _ _ _ _ _ _) := O24'
                    clear O24'
                    refine hK.out _ _ (hHeld.alloc _ : Up wd.heap.size wd _) (fun hHeld => ?_)
                    clear hK K
                    (try dsimp only at hHeld)
                    (try simp only [Act.put, List.setIfInBounds_toArray, List.set_cons_zero, List.set_cons_succ])
                    obtain ⟨x3, hx3⟩ : ∃ x3, x2.alloc (.cells #[.string s, .int .i64 (d : Int)] 47) = x3 := ⟨_, rfl⟩
                    rw [hx3] at hHeld O24 S26 ⊢
                    refine wpAnyH_ready (rs := [7]) (by kernel_rfl) (by simp) (AllReadyH.cons rfl (fun K hK => ?_) AllReadyH.nil)
                    rw [if_pos (by kernel_rfl)]
                    refine app_src_wp (.tmp 57) (.tmp 59) 34 rfl wd.heap.size 47 in0 _ 2 24 Tryd.underlying34 hin hnz0 hnz1 hnz2 rfl (by decide) _ _ _ rfl O24.out _ _ _ rfl S26.out (two_one _ _ rfl rfl) (by unfold maxLen; omega) (by omega) hHeld.2 ?_
                    intro v27 y1 ho27 hg27
                    change K (Act.put _ (some 60) _) _
                    have O27 : Hid (y1.ownsRow wd.heap.size 47 2 v27 (0 + 0 + 1) ([] ++ (nrC []) ++ [.string s, .int .i64 (d : Int)])) := ho27
                    have hu27 : Up wd.heap.size wd y1 := hHeld.grown hg27 (own_base O24.out)
                    clear ho27 hg27 O24 S26
                    refine hK.out _ _ (hu27 : Up wd.heap.size wd _) (fun hHeld => ?_)
                    clear hK K
                    (try dsimp only at hHeld)
                    (try simp only [Act.put, List.setIfInBounds_toArray, List.set_cons_zero, List.set_cons_succ])
                    clear hu27
                    refine wpAnyH_ready (rs := [11]) (by kernel_rfl) (by simp) (AllReadyH.cons rfl (fun K hK => ?_) AllReadyH.nil)
                    rw [if_pos (by kernel_rfl)]
                    refine app_src_wp (.tmp 60) (.tmp 63) 34 rfl wd.heap.size 47 in0 _ 2 24 Tryd.underlying34 hin hnz0 hnz1 hnz2 rfl (by decide) _ _ _ rfl O27.out _ _ _ rfl ((HSA _).out.stay hHeld.1) (one_nr _) (by unfold maxLen; omega) (by omega) hHeld.2 ?_
                    intro v31 y2 ho31 hg31
                    change K (Act.put _ (some 64) _) _
                    have O31 : Hid (y2.ownsRow wd.heap.size 47 2 v31 (0 + 0 + 1 + (0 - 0)) ([] ++ (nrC []) ++ [.string s, .int .i64 (d : Int)] ++ (nrC []))) := ho31
                    have hu31 : Up wd.heap.size wd y2 := hHeld.grown hg31 (own_base O27.out)
                    clear ho31 hg31 O27
                    refine hK.out _ _ (hu31 : Up wd.heap.size wd _) (fun hHeld => ?_)
                    clear hK K
                    (try dsimp only at hHeld)
                    (try simp only [Act.put, List.setIfInBounds_toArray, List.set_cons_zero, List.set_cons_succ])
                    clear hu31
                    refine takeH (i := 12) (v := ?_) (d := (some 11)) rfl (by kernel_rfl) (by kernel_rfl) (by kernel_rfl) rfl (fun _ _ _ h => h) (Or.inl ⟨by kernel_rfl, ?_⟩) (by assumption) ?_; rotate_left
                    · (intro w hSw; (try dsimp only at hSw); first | (go_simp; done) | (go_simp; with_reducible rfl))
                    (try simp only [Act.put, List.setIfInBounds_toArray, List.set_cons_zero, List.set_cons_succ])
                    refine wpAnyH_done (by kernel_rfl) ?_ _
                    have HU9 : Hid (Up wd.heap.size wd y2) := hHeld
                    clear hHeld
                    have HO4 : Hid (ON y2 w.heap.size v31 (([] : List Nr).take 0 ++ ⟨s, d⟩ :: ([] : List Nr).drop 0)) := by
                      show y2.ownsRow _ _ _ _ _ _
                      have hown3 := own_mono O31.out HWD.out.2
                      have e : (([] : List Nr).take 0 ++ ⟨s, d⟩ :: ([] : List Nr).drop 0).length = 0 + 0 + 1 + (0 - 0) := by
                        have := HN.out
                        first | (simp; done) | (simp; omega)
                      rw [e, nrC_app, nrC_cons]
                      simpa using hown3
                    have HUM : Hid (Up w.heap.size w y2) := HWD.out.stay HU9.out.1
                    clear O31 HU9
                    go_wp2
                    all_goals
                      go_roundg (nl - (i + 1))
                      case measure => omega
                      case rel => exact ⟨i + 1, _, _, rfl, by omega, rfl, by go_num, HO4, HN2, HLE2, HUM⟩
                  · rw [if_pos (by kernel_rfl)]
                    go_simp
                    have S26 : Hid (Srcs (x1.alloc (.cells #[.string s, .int .i64 (d : Int)] 47)) (.slice (some ⟨x1.heap.size, 0, none⟩) 1 1) 1 2 [.string s, .int .i64 (d : Int)]) := srcs_new x1 #[.string s, .int .i64 (d : Int)] 47 1 2 1 rfl
                    have O20' := O20.out.alloc (.cells #[.string s, .int .i64 (d : Int)] 47)
                    clear O20
                    have O20 : Hid (World.ownsRow _ _ _ _ _ _ _) := O20'
                    clear O20'
                    have hne : x0.heap.size < x1.heap.size := by rw [← hx1]; simp
                    refine hK.out _ _ (hHeld.alloc _ : Up wd.heap.size wd _) (fun hHeld => ?_)
                    clear hK K
                    (try dsimp only at hHeld)
                    (try simp only [Act.put, List.setIfInBounds_toArray, List.set_cons_zero, List.set_cons_succ])
                    obtain ⟨x2, hx2⟩ : ∃ x2, x1.alloc (.cells #[.string s, .int .i64 (d : Int)] 47) = x2 := ⟨_, rfl⟩
                    rw [hx2] at hHeld O20 S26 ⊢
                    refine wpAnyH_ready (rs := [4]) (by kernel_rfl) (by simp) (AllReadyH.cons rfl (fun K hK => ?_) AllReadyH.nil)
                    rw [if_pos (by kernel_rfl)]
                    refine app_src_wp (.tmp 53) (.tmp 56) 34 rfl wd.heap.size 47 in0 _ 2 24 Tryd.underlying34 hin hnz0 hnz1 hnz2 rfl (by decide) _ _ _ rfl O20.out _ _ _ rfl ((HSA _).out.stay hHeld.1) (one_nr _) (by unfold maxLen; omega) (by omega) hHeld.2 ?_
                    intro v24 x3 ho24 hg24
                    change K (Act.put _ (some 57) _) _
                    have O24 : Hid (x3.ownsRow wd.heap.size 47 2 v24 (0 + 0) ([] ++ (nrC []))) := ho24
                    have S26' := S26.out.grown hg24 (fun e => by have e' : some x0.heap.size = some x1.heap.size := e; injection e' with e'; omega)
                    clear S26
                    have S26 : Hid (Srcs _ _ _ _ _) := S26'
                    clear S26'
                    have hu24 : Up wd.heap.size wd x3 := hHeld.grown hg24 (own_base O20.out)
                    clear ho24 hg24 O20
                    refine hK.out _ _ (hu24 : Up wd.heap.size wd _) (fun hHeld => ?_)
                    clear hK K
                    (try dsimp only at hHeld)
                    (try simp only [Act.put, List.setIfInBounds_toArray, List.set_cons_zero, List.set_cons_succ])
                    clear hu24
                    refine wpAnyH_ready (rs := [7]) (by kernel_rfl) (by simp) (AllReadyH.cons rfl (fun K hK => ?_) AllReadyH.nil)
                    rw [if_pos (by kernel_rfl)]
                    refine app_src_wp (.tmp 57) (.tmp 59) 34 rfl wd.heap.size 47 in0 _ 2 24 Tryd.underlying34 hin hnz0 hnz1 hnz2 rfl (by decide) _ _ _ rfl O24.out _ _ _ rfl S26.out (two_one _ _ rfl rfl) (by unfold maxLen; omega) (by omega) hHeld.2 ?_
                    intro v27 y1 ho27 hg27
                    change K (Act.put _ (some 60) _) _
                    have O27 : Hid (y1.ownsRow wd.heap.size 47 2 v27 (0 + 0 + 1) ([] ++ (nrC []) ++ [.string s, .int .i64 (d : Int)])) := ho27
                    have hu27 : Up wd.heap.size wd y1 := hHeld.grown hg27 (own_base O24.out)
                    clear ho27 hg27 O24 S26
                    refine hK.out _ _ (hu27 : Up wd.heap.size wd _) (fun hHeld => ?_)
                    clear hK K
                    (try dsimp only at hHeld)
                    (try simp only [Act.put, List.setIfInBounds_toArray, List.set_cons_zero, List.set_cons_succ])
                    clear hu27
                    refine wpAnyH_ready (rs := [11]) (by kernel_rfl) (by simp) (AllReadyH.cons rfl (fun K hK => ?_) AllReadyH.nil)
                    rw [if_pos (by kernel_rfl)]
                    refine app_src_wp (.tmp 60) (.tmp 63) 34 rfl wd.heap.size 47 in0 _ 2 24 Tryd.underlying34 hin hnz0 hnz1 hnz2 rfl (by decide) _ _ _ rfl O27.out _ _ _ rfl ((HSA _).out.stay hHeld.1) (one_nr _) (by unfold maxLen; omega) (by omega) hHeld.2 ?_
                    intro v31 y2 ho31 hg31
                    change K (Act.put _ (some 64) _) _
                    have O31 : Hid (y2.ownsRow wd.heap.size 47 2 v31 (0 + 0 + 1 + (0 - 0)) ([] ++ (nrC []) ++ [.string s, .int .i64 (d : Int)] ++ (nrC []))) := ho31
                    have hu31 : Up wd.heap.size wd y2 := hHeld.grown hg31 (own_base O27.out)
                    clear ho31 hg31 O27
                    refine hK.out _ _ (hu31 : Up wd.heap.size wd _) (fun hHeld => ?_)
                    clear hK K
                    (try dsimp only at hHeld)
                    (try simp only [Act.put, List.setIfInBounds_toArray, List.set_cons_zero, List.set_cons_succ])
                    clear hu31
                    refine takeH (i := 12) (v := ?_) (d := (some 11)) rfl (by kernel_rfl) (by kernel_rfl) (by kernel_rfl) rfl (fun _ _ _ h => h) (Or.inl ⟨by kernel_rfl, ?_⟩) (by assumption) ?_; rotate_left
                    · (intro w hSw; (try dsimp only at hSw); first | (go_simp; done) | (go_simp; with_reducible rfl))
                    (try simp only [Act.put, List.setIfInBounds_toArray, List.set_cons_zero, List.set_cons_succ])
                    refine wpAnyH_done (by kernel_rfl) ?_ _
                    have HU9 : Hid (Up wd.heap.size wd y2) := hHeld
                    clear hHeld
                    have HO4 : Hid (ON y2 w.heap.size v31 (([] : List Nr).take 0 ++ ⟨s, d⟩ :: ([] : List Nr).drop 0)) := by
                      show y2.ownsRow _ _ _ _ _ _
                      have hown3 := own_mono O31.out HWD.out.2
                      have e : (([] : List Nr).take 0 ++ ⟨s, d⟩ :: ([] : List Nr).drop 0).length = 0 + 0 + 1 + (0 - 0) := by
                        have := HN.out
                        first | (simp; done) | (simp; omega)
                      rw [e, nrC_app, nrC_cons]
                      simpa using hown3
                    have HUM : Hid (Up w.heap.size w y2) := HWD.out.stay HU9.out.1
                    clear O31 HU9
                    go_wp2
                    all_goals
                      go_roundg (nl - (i + 1))
                      case measure => omega
                      case rel => exact ⟨i + 1, _, _, rfl, by omega, rfl, by go_num, HO4, HN2, HLE2, HUM⟩
                · rw [if_pos (by kernel_rfl)]
                  go_simp
                  have S26 : Hid (Srcs (x0.alloc (.cells #[.string s, .int .i64 (d : Int)] 47)) (.slice (some ⟨x0.heap.size, 0, none⟩) 1 1) 1 2 [.string s, .int .i64 (d : Int)]) := srcs_new x0 #[.string s, .int .i64 (d : Int)] 47 1 2 1 rfl
                  refine hK.out _ _ (hHeld.alloc _ : Up wd.heap.size wd _) (fun hHeld => ?_)
                  clear hK K
                  (try dsimp only at hHeld)
                  (try simp only [Act.put, List.setIfInBounds_toArray, List.set_cons_zero, List.set_cons_succ])
                  obtain ⟨x1, hx1⟩ : ∃ x1, x0.alloc (.cells #[.string s, .int .i64 (d : Int)] 47) = x1 := ⟨_, rfl⟩
                  rw [hx1] at hHeld S26 ⊢
                  refine wpAnyH_ready (rs := [0]) (by kernel_rfl) (by simp) (AllReadyH.cons rfl (fun K hK => ?_) AllReadyH.nil)
                  rw [if_pos (by kernel_rfl)]
                  go_simp
                  have O20 : Hid ((x1.alloc (.cells #[] 47)).ownsRow wd.heap.size 47 2 (.slice (some ⟨x1.heap.size, 0, none⟩) 0 0) 0 []) := World.ownsRow_lit x1 #[] 0 hHeld.2 (Nat.zero_le _) rfl
                  have S26' := S26.out.stay ((Below.refl _ _).alloc (Nat.le_refl _) (.cells #[] 47))
                  clear S26
                  have S26 : Hid (Srcs _ _ _ _ _) := S26'
                  clear S26'
                  have hne : x0.heap.size < x1.heap.size := by rw [← hx1]; simp
                  refine hK.out _ _ (hHeld.alloc _ : Up wd.heap.size wd _) (fun hHeld => ?_)
                  clear hK K
                  (try dsimp only at hHeld)
                  (try simp only [Act.put, List.setIfInBounds_toArray, List.set_cons_zero, List.set_cons_succ])
                  obtain ⟨x2, hx2⟩ : ∃ x2, x1.alloc (.cells #[] 47) = x2 := ⟨_, rfl⟩
                  rw [hx2] at hHeld O20 S26 ⊢
                  refine wpAnyH_ready (rs := [4]) (by kernel_rfl) (by simp) (AllReadyH.cons rfl (fun K hK => ?_) AllReadyH.nil)
                  rw [if_pos (by kernel_rfl)]
                  refine app_src_wp (.tmp 53) (.tmp 56) 34 rfl wd.heap.size 47 in0 _ 2 24 Tryd.underlying34 hin hnz0 hnz1 hnz2 rfl (by decide) _ _ _ rfl O20.out _ _ _ rfl ((HSA _).out.stay hHeld.1) (one_nr _) (by unfold maxLen; omega) (by omega) hHeld.2 ?_
                  intro v24 x3 ho24 hg24
                  change K (Act.put _ (some 57) _) _
                  have O24 : Hid (x3.ownsRow wd.heap.size 47 2 v24 (0 + 0) ([] ++ (nrC []))) := ho24
                  have S26' := S26.out.grown hg24 (fun e => by have e' : some x1.heap.size = some x0.heap.size := e; injection e' with e'; omega)
                  clear S26
                  have S26 : Hid (Srcs _ _ _ _ _) := S26'
                  clear S26'
                  have hu24 : Up wd.heap.size wd x3 := hHeld.grown hg24 (own_base O20.out)
                  clear ho24 hg24 O20
                  refine hK.out _ _ (hu24 : Up wd.heap.size wd _) (fun hHeld => ?_)
                  clear hK K
                  (try dsimp only at hHeld)
                  (try simp only [Act.put, List.setIfInBounds_toArray, List.set_cons_zero, List.set_cons_succ])
                  clear hu24
                  refine wpAnyH_ready (rs := [7]) (by kernel_rfl) (by simp) (AllReadyH.cons rfl (fun K hK => ?_) AllReadyH.nil)
                  rw [if_pos (by kernel_rfl)]
                  refine app_src_wp (.tmp 57) (.tmp 59) 34 rfl wd.heap.size 47 in0 _ 2 24 Tryd.underlying34 hin hnz0 hnz1 hnz2 rfl (by decide) _ _ _ rfl O24.out _ _ _ rfl S26.out (two_one _ _ rfl rfl) (by unfold maxLen; omega) (by omega) hHeld.2 ?_
                  intro v27 y1 ho27 hg27
                  change K (Act.put _ (some 60) _) _
                  have O27 : Hid (y1.ownsRow wd.heap.size 47 2 v27 (0 + 0 + 1) ([] ++ (nrC []) ++ [.string s, .int .i64 (d : Int)])) := ho27
                  have hu27 : Up wd.heap.size wd y1 := hHeld.grown hg27 (own_base O24.out)
                  clear ho27 hg27 O24 S26
                  refine hK.out _ _ (hu27 : Up wd.heap.size wd _) (fun hHeld => ?_)
                  clear hK K
                  (try dsimp only at hHeld)
                  (try simp only [Act.put, List.setIfInBounds_toArray, List.set_cons_zero, List.set_cons_succ])
                  clear hu27
                  refine wpAnyH_ready (rs := [11]) (by kernel_rfl) (by simp) (AllReadyH.cons rfl (fun K hK => ?_) AllReadyH.nil)
                  rw [if_pos (by kernel_rfl)]
                  refine app_src_wp (.tmp 60) (.tmp 63) 34 rfl wd.heap.size 47 in0 _ 2 24 Tryd.underlying34 hin hnz0 hnz1 hnz2 rfl (by decide) _ _ _ rfl O27.out _ _ _ rfl ((HSA _).out.stay hHeld.1) (one_nr _) (by unfold maxLen; omega) (by omega) hHeld.2 ?_
                  intro v31 y2 ho31 hg31
                  change K (Act.put _ (some 64) _) _
                  have O31 : Hid (y2.ownsRow wd.heap.size 47 2 v31 (0 + 0 + 1 + (0 - 0)) ([] ++ (nrC []) ++ [.string s, .int .i64 (d : Int)] ++ (nrC []))) := ho31
                  have hu31 : Up wd.heap.size wd y2 := hHeld.grown hg31 (own_base O27.out)
                  clear ho31 hg31 O27
                  refine hK.out _ _ (hu31 : Up wd.heap.size wd _) (fun hHeld => ?_)
                  clear hK K
                  (try dsimp only at hHeld)
                  (try simp only [Act.put, List.setIfInBounds_toArray, List.set_cons_zero, List.set_cons_succ])
                  clear hu31
                  refine takeH (i := 12) (v := ?_) (d := (some 11)) rfl (by kernel_rfl) (by kernel_rfl) (by kernel_rfl) rfl (fun _ _ _ h => h) (Or.inl ⟨by kernel_rfl, ?_⟩) (by assumption) ?_; rotate_left
                  · (intro w hSw; (try dsimp only at hSw); first | (go_simp; done) | (go_simp; with_reducible rfl))
                  (try simp only [Act.put, List.setIfInBounds_toArray, List.set_cons_zero, List.set_cons_succ])
                  refine wpAnyH_done (by kernel_rfl) ?_ _
                  have HU9 : Hid (Up wd.heap.size wd y2) := hHeld
                  clear hHeld
                  have HO4 : Hid (ON y2 w.heap.size v31 (([] : List Nr).take 0 ++ ⟨s, d⟩ :: ([] : List Nr).drop 0)) := by
                    show y2.ownsRow _ _ _ _ _ _
                    have hown3 := own_mono O31.out HWD.out.2
                    have e : (([] : List Nr).take 0 ++ ⟨s, d⟩ :: ([] : List Nr).drop 0).length = 0 + 0 + 1 + (0 - 0) := by
                      have := HN.out
                      first | (simp; done) | (simp; omega)
                    rw [e, nrC_app, nrC_cons]
                    simpa using hown3
                  have HUM : Hid (Up w.heap.size w y2) := HWD.out.stay HU9.out.1
                  clear O31 HU9
                  go_wp2
                  all_goals
                    go_roundg (nl - (i + 1))
                    case measure => omega
                    case rel => exact ⟨i + 1, _, _, rfl, by omega, rfl, by go_num, HO4, HN2, HLE2, HUM⟩
              | some a =>
                obtain ⟨g, rfl⟩ : ∃ g, a = ⟨g, 0, none⟩ := by
                  obtain ⟨_, ⟨e, h2⟩ | ⟨g, cap, cur, e, _⟩⟩ := HOD.out
                  · cases e
                  · injection e with e1 _ _
                    injection e1 with e1
                    exact ⟨g, e1⟩
                have HSA : ∀ c, Hid (Srcs wd (.slice (some ⟨g, 0, none⟩) m c) m 2 (nrC (out.take m))) := fun c => by
                  have := nr_part (i := 0) (m := m) (c := c) (M := out.take m) HOD.out (by rw [List.length_take, HN.out]; omega) (fun j x hx => by
                    rw [Nat.zero_add]
                    rw [List.getElem?_take] at hx
                    split at hx
                    · exact hx
                    · cases hx)
                  rw [Nat.zero_mul] at this
                  exact this
                have HSB : ∀ c, Hid (Srcs wd (.slice (if co = m then some ⟨g, 0, none⟩ else some ⟨g, m * 2, none⟩) (n - m) c) (n - m) 2 (nrC (out.drop m))) := fun c => by
                  show Srcs _ _ _ _ _
                  have hdl : (out.drop m).length = n - m := by rw [List.length_drop, HN.out]
                  split
                  · exact ⟨by rw [nrC_len, hdl], Or.inl ⟨_, c, by rw [show n - m = 0 by omega], by omega⟩⟩
                  · exact nr_part HOD.out hdl (fun j x hx => by rw [List.getElem?_drop] at hx; exact hx)
                obtain ⟨adk, hadk⟩ : ∃ adk : Option Addr, (if co = m then some (⟨g, 0, none⟩ : Addr) else some ⟨g, m * 2, none⟩) = adk := ⟨_, rfl⟩
                simp only [hadk] at HSB
                refine wp_region_held_drew (S := fun w' => Up wd.heap.size wd w') (by kernel_rfl) (Up.drew (Up.refl wd)) (fun hHeld => ?_)
                (try dsimp only at hHeld)
                obtain ⟨x0, hx0⟩ : ∃ x0, wd.drew = x0 := ⟨_, rfl⟩
                rw [hx0] at hHeld ⊢
                clear hx0
                refine takeH (i := 1) (v := ?_) (d := (some 54)) rfl (by kernel_rfl) (by kernel_rfl) (by kernel_rfl) rfl (fun _ _ _ h => h) (Or.inl ⟨by kernel_rfl, ?_⟩) (by assumption) ?_; rotate_left
                · (intro w hSw; (try dsimp only at hSw); first | (go_simp; done) | (go_simp; with_reducible rfl))
                (try simp only [Act.put, List.setIfInBounds_toArray, List.set_cons_zero, List.set_cons_succ])
                refine takeH (i := 2) (v := ?_) (d := (some 55)) rfl (by kernel_rfl) (by kernel_rfl) (by kernel_rfl) rfl (fun _ _ _ h => h) (Or.inl ⟨by kernel_rfl, ?_⟩) (by assumption) ?_; rotate_left
                · (intro w hSw; (try dsimp only at hSw); first | (go_simp; done) | (go_simp; with_reducible rfl))
                (try simp only [Act.put, List.setIfInBounds_toArray, List.set_cons_zero, List.set_cons_succ])
                refine takeH (i := 3) (v := ?_) (d := (some 56)) rfl (by kernel_rfl) (by kernel_rfl) (by kernel_rfl) rfl (fun _ _ _ h => h) (Or.inl ⟨by kernel_rfl, ?_⟩) (by assumption) ?_; rotate_left
                · (intro w hSw; (try dsimp only at hSw); first | (go_simp; done) | (go_simp; with_reducible rfl))
                (try simp only [Act.put, List.setIfInBounds_toArray, List.set_cons_zero, List.set_cons_succ])
                refine takeH (i := 5) (v := ?_) (d := (some 58)) rfl (by kernel_rfl) (by kernel_rfl) (by kernel_rfl) rfl (fun _ _ _ h => h) (Or.inl ⟨by kernel_rfl, ?_⟩) (by assumption) ?_; rotate_left
                · (intro w hSw; (try dsimp only at hSw); have q0 := cell_stay HX0.out.1 hSw.1; have q1 := cell_stay HX0.out.2 hSw.1; first | (go_simp; done) | (go_simp; with_reducible rfl))
                (try simp only [Act.put, List.setIfInBounds_toArray, List.set_cons_zero, List.set_cons_succ])
                refine takeH (i := 8) (v := ?_) (d := (some 61)) rfl (by kernel_rfl) (by kernel_rfl) (by kernel_rfl) rfl (fun _ _ _ h => h) (Or.inl ⟨by kernel_rfl, ?_⟩) (by assumption) ?_; rotate_left
                · (intro w hSw; (try dsimp only at hSw); first | (go_simp; done) | (go_simp; with_reducible rfl))
                (try simp only [Act.put, List.setIfInBounds_toArray, List.set_cons_zero, List.set_cons_succ])
                refine takeH (i := 9) (v := ?_) (d := (some 62)) rfl (by kernel_rfl) (by kernel_rfl) (by kernel_rfl) rfl (fun _ _ _ h => h) (Or.inl ⟨by kernel_rfl, ?_⟩) (by assumption) ?_; rotate_left
                · (intro w hSw; (try dsimp only at hSw); first | (go_simp; done) | (go_simp; with_reducible rfl))
                (try simp only [Act.put, List.setIfInBounds_toArray, List.set_cons_zero, List.set_cons_succ])
                refine takeH (i := 10) (v := ?_) (d := (some 63)) rfl (by kernel_rfl) (by kernel_rfl) (by kernel_rfl) rfl (fun _ _ _ h => h) (Or.inl ⟨by kernel_rfl, ?_⟩) (by assumption) ?_; rotate_left
                · (intro w hSw; (try dsimp only at hSw); first | (go_simp; done) | (go_simp; with_reducible rfl))
                (try simp only [Act.put, List.setIfInBounds_toArray, List.set_cons_zero, List.set_cons_succ])
                refine wpAnyH_ready (rs := [0, 6]) (by kernel_rfl) (by simp) (AllReadyH.cons rfl (fun K hK => ?_) (AllReadyH.cons rfl (fun K hK => ?_) AllReadyH.nil))
                · rw [if_pos (by kernel_rfl)]
                  go_simp
                  have O20 : Hid ((x0.alloc (.cells #[] 47)).ownsRow wd.heap.size 47 2 (.slice (some ⟨x0.heap.size, 0, none⟩) 0 0) 0 []) := World.ownsRow_lit x0 #[] 0 hHeld.2 (Nat.zero_le _) rfl
                  refine hK.out _ _ (hHeld.alloc _ : Up wd.heap.size wd _) (fun hHeld => ?_)
                  clear hK K
                  (try dsimp only at hHeld)
                  (try simp only [Act.put, List.setIfInBounds_toArray, List.set_cons_zero, List.set_cons_succ])
                  obtain ⟨x1, hx1⟩ : ∃ x1, x0.alloc (.cells #[] 47) = x1 := ⟨_, rfl⟩
                  rw [hx1] at hHeld O20 ⊢
                  refine wpAnyH_ready (rs := [4, 6]) (by kernel_rfl) (by simp) (AllReadyH.cons rfl (fun K hK => ?_) (AllReadyH.cons rfl (fun K hK => ?_) AllReadyH.nil))
                  · rw [if_pos (by kernel_rfl)]
                    refine app_src_wp (.tmp 53) (.tmp 56) 34 rfl wd.heap.size 47 in0 _ 2 24 Tryd.underlying34 hin hnz0 hnz1 hnz2 rfl (by decide) _ _ _ rfl O20.out _ _ _ rfl ((HSA _).out.stay hHeld.1) (one_nr _) (by unfold maxLen; omega) (by omega) hHeld.2 ?_
                    intro v24 x2 ho24 hg24
                    change K (Act.put _ (some 57) _) _
                    have O24 : Hid (x2.ownsRow wd.heap.size 47 2 v24 (0 + m) ([] ++ (nrC (out.take m)))) := ho24
                    have hu24 : Up wd.heap.size wd x2 := hHeld.grown hg24 (own_base O20.out)
                    clear ho24 hg24 O20
                    refine hK.out _ _ (hu24 : Up wd.heap.size wd _) (fun hHeld => ?_)
                    clear hK K
                    (try dsimp only at hHeld)
                    (try simp only [Act.put, List.setIfInBounds_toArray, List.set_cons_zero, List.set_cons_succ])
                    clear hu24
                    refine wpAnyH_ready (rs := [6]) (by kernel_rfl) (by simp) (AllReadyH.cons rfl (fun K hK => ?_) AllReadyH.nil)
                    rw [if_pos (by kernel_rfl)]
                    go_simp
                    have S26 : Hid (Srcs (x2.alloc (.cells #[.string s, .int .i64 (d : Int)] 47)) (.slice (some ⟨x2.heap.size, 0, none⟩) 1 1) 1 2 [.string s, .int .i64 (d : Int)]) := srcs_new x2 #[.string s, .int .i64 (d : Int)] 47 1 2 1 rfl
                    have O24' := O24.out.alloc (.cells #[.string s, .int .i64 (d : Int)] 47)
                    clear O24
                    have O24 : Hid (World.ownsRow _ _ _ _ _ _ _) := O24'
                    clear O24'
                    refine hK.out _ _ (hHeld.alloc _ : Up wd.heap.size wd _) (fun hHeld => ?_)
                    clear hK K
                    (try dsimp only at hHeld)
                    (try simp only [Act.put, List.setIfInBounds_toArray, List.set_cons_zero, List.set_cons_succ])
                    obtain ⟨x3, hx3⟩ : ∃ x3, x2.alloc (.cells #[.string s, .int .i64 (d : Int)] 47) = x3 := ⟨_, rfl⟩
                    rw [hx3] at hHeld O24 S26 ⊢
                    refine wpAnyH_ready (rs := [7]) (by kernel_rfl) (by simp) (AllReadyH.cons rfl (fun K hK => ?_) AllReadyH.nil)
                    rw [if_pos (by kernel_rfl)]
                    refine app_src_wp (.tmp 57) (.tmp 59) 34 rfl wd.heap.size 47 in0 _ 2 24 Tryd.underlying34 hin hnz0 hnz1 hnz2 rfl (by decide) _ _ _ rfl O24.out _ _ _ rfl S26.out (two_one _ _ rfl rfl) (by unfold maxLen; omega) (by omega) hHeld.2 ?_
                    intro v27 y1 ho27 hg27
                    change K (Act.put _ (some 60) _) _
                    have O27 : Hid (y1.ownsRow wd.heap.size 47 2 v27 (0 + m + 1) ([] ++ (nrC (out.take m)) ++ [.string s, .int .i64 (d : Int)])) := ho27
                    have hu27 : Up wd.heap.size wd y1 := hHeld.grown hg27 (own_base O24.out)
                    clear ho27 hg27 O24 S26
                    refine hK.out _ _ (hu27 : Up wd.heap.size wd _) (fun hHeld => ?_)
                    clear hK K
                    (try dsimp only at hHeld)
                    (try simp only [Act.put, List.setIfInBounds_toArray, List.set_cons_zero, List.set_cons_succ])
                    clear hu27
                    refine wpAnyH_ready (rs := [11]) (by kernel_rfl) (by simp) (AllReadyH.cons rfl (fun K hK => ?_) AllReadyH.nil)
                    rw [if_pos (by kernel_rfl)]
                    refine app_src_wp (.tmp 60) (.tmp 63) 34 rfl wd.heap.size 47 in0 _ 2 24 Tryd.underlying34 hin hnz0 hnz1 hnz2 rfl (by decide) _ _ _ rfl O27.out _ _ _ rfl ((HSB _).out.stay hHeld.1) (one_nr _) (by unfold maxLen; omega) (by omega) hHeld.2 ?_
                    intro v31 y2 ho31 hg31
                    change K (Act.put _ (some 64) _) _
                    have O31 : Hid (y2.ownsRow wd.heap.size 47 2 v31 (0 + m + 1 + (n - m)) ([] ++ (nrC (out.take m)) ++ [.string s, .int .i64 (d : Int)] ++ (nrC (out.drop m)))) := ho31
                    have hu31 : Up wd.heap.size wd y2 := hHeld.grown hg31 (own_base O27.out)
                    clear ho31 hg31 O27
                    refine hK.out _ _ (hu31 : Up wd.heap.size wd _) (fun hHeld => ?_)
                    clear hK K
                    (try dsimp only at hHeld)
                    (try simp only [Act.put, List.setIfInBounds_toArray, List.set_cons_zero, List.set_cons_succ])
                    clear hu31
                    refine takeH (i := 12) (v := ?_) (d := (some 11)) rfl (by kernel_rfl) (by kernel_rfl) (by kernel_rfl) rfl (fun _ _ _ h => h) (Or.inl ⟨by kernel_rfl, ?_⟩) (by assumption) ?_; rotate_left
                    · (intro w hSw; (try dsimp only at hSw); first | (go_simp; done) | (go_simp; with_reducible rfl))
                    (try simp only [Act.put, List.setIfInBounds_toArray, List.set_cons_zero, List.set_cons_succ])
                    refine wpAnyH_done (by kernel_rfl) ?_ _
                    have HU9 : Hid (Up wd.heap.size wd y2) := hHeld
                    clear hHeld
                    have HO4 : Hid (ON y2 w.heap.size v31 (out.take m ++ ⟨s, d⟩ :: out.drop m)) := by
                      show y2.ownsRow _ _ _ _ _ _
                      have hown3 := own_mono O31.out HWD.out.2
                      have e : (out.take m ++ ⟨s, d⟩ :: out.drop m).length = 0 + m + 1 + (n - m) := by
                        have := HN.out
                        first | (simp; done) | (simp; omega)
                      rw [e, nrC_app, nrC_cons]
                      simpa using hown3
                    have HUM : Hid (Up w.heap.size w y2) := HWD.out.stay HU9.out.1
                    clear O31 HU9
                    go_wp2
                    all_goals
                      go_roundg (nl - (i + 1))
                      case measure => omega
                      case rel => exact ⟨i + 1, _, _, rfl, by omega, rfl, by go_num, HO4, HN2, HLE2, HUM⟩
                  · rw [if_pos (by kernel_rfl)]
                    go_simp
                    have S26 : Hid (Srcs (x1.alloc (.cells #[.string s, .int .i64 (d : Int)] 47)) (.slice (some ⟨x1.heap.size, 0, none⟩) 1 1) 1 2 [.string s, .int .i64 (d : Int)]) := srcs_new x1 #[.string s, .int .i64 (d : Int)] 47 1 2 1 rfl
                    have O20' := O20.out.alloc (.cells #[.string s, .int .i64 (d : Int)] 47)
                    clear O20
                    have O20 : Hid (World.ownsRow _ _ _ _ _ _ _) := O20'
                    clear O20'
                    have hne : x0.heap.size < x1.heap.size := by rw [← hx1]; simp
                    refine hK.out _ _ (hHeld.alloc _ : Up wd.heap.size wd _) (fun hHeld => ?_)
                    clear hK K
                    (try dsimp only at hHeld)
                    (try simp only [Act.put, List.setIfInBounds_toArray, List.set_cons_zero, List.set_cons_succ])
                    obtain ⟨x2, hx2⟩ : ∃ x2, x1.alloc (.cells #[.string s, .int .i64 (d : Int)] 47) = x2 := ⟨_, rfl⟩
                    rw [hx2] at hHeld O20 S26 ⊢
                    refine wpAnyH_ready (rs := [4]) (by kernel_rfl) (by simp) (AllReadyH.cons rfl (fun K hK => ?_) AllReadyH.nil)
                    rw [if_pos (by kernel_rfl)]
                    refine app_src_wp (.tmp 53) (.tmp 56) 34 rfl wd.heap.size 47 in0 _ 2 24 Tryd.underlying34 hin hnz0 hnz1 hnz2 rfl (by decide) _ _ _ rfl O20.out _ _ _ rfl ((HSA _).out.stay hHeld.1) (one_nr _) (by unfold maxLen; omega) (by omega) hHeld.2 ?_
                    intro v24 x3 ho24 hg24
                    change K (Act.put _ (some 57) _) _
                    have O24 : Hid (x3.ownsRow wd.heap.size 47 2 v24 (0 + m) ([] ++ (nrC (out.take m)))) := ho24
                    have S26' := S26.out.grown hg24 (fun e => by have e' : some x0.heap.size = some x1.heap.size := e; injection e' with e'; omega)
                    clear S26
                    have S26 : Hid (Srcs _ _ _ _ _) := S26'
                    clear S26'
                    have hu24 : Up wd.heap.size wd x3 := hHeld.grown hg24 (own_base O20.out)
                    clear ho24 hg24 O20
                    refine hK.out _ _ (hu24 : Up wd.heap.size wd _) (fun hHeld => ?_)
                    clear hK K
                    (try dsimp only at hHeld)
                    (try simp only [Act.put, List.setIfInBounds_toArray, List.set_cons_zero, List.set_cons_succ])
                    clear hu24
                    refine wpAnyH_ready (rs := [7]) (by kernel_rfl) (by simp) (AllReadyH.cons rfl (fun K hK => ?_) AllReadyH.nil)
                    rw [if_pos (by kernel_rfl)]
                    refine app_src_wp (.tmp 57) (.tmp 59) 34 rfl wd.heap.size 47 in0 _ 2 24 Tryd.underlying34 hin hnz0 hnz1 hnz2 rfl (by decide) _ _ _ rfl O24.out _ _ _ rfl S26.out (two_one _ _ rfl rfl) (by unfold maxLen; omega) (by omega) hHeld.2 ?_
                    intro v27 y1 ho27 hg27
                    change K (Act.put _ (some 60) _) _
                    have O27 : Hid (y1.ownsRow wd.heap.size 47 2 v27 (0 + m + 1) ([] ++ (nrC (out.take m)) ++ [.string s, .int .i64 (d : Int)])) := ho27
                    have hu27 : Up wd.heap.size wd y1 := hHeld.grown hg27 (own_base O24.out)
                    clear ho27 hg27 O24 S26
                    refine hK.out _ _ (hu27 : Up wd.heap.size wd _) (fun hHeld => ?_)
                    clear hK K
                    (try dsimp only at hHeld)
                    (try simp only [Act.put, List.setIfInBounds_toArray, List.set_cons_zero, List.set_cons_succ])
                    clear hu27
                    refine wpAnyH_ready (rs := [11]) (by kernel_rfl) (by simp) (AllReadyH.cons rfl (fun K hK => ?_) AllReadyH.nil)
                    rw [if_pos (by kernel_rfl)]
                    refine app_src_wp (.tmp 60) (.tmp 63) 34 rfl wd.heap.size 47 in0 _ 2 24 Tryd.underlying34 hin hnz0 hnz1 hnz2 rfl (by decide) _ _ _ rfl O27.out _ _ _ rfl ((HSB _).out.stay hHeld.1) (one_nr _) (by unfold maxLen; omega) (by omega) hHeld.2 ?_
                    intro v31 y2 ho31 hg31
                    change K (Act.put _ (some 64) _) _
                    have O31 : Hid (y2.ownsRow wd.heap.size 47 2 v31 (0 + m + 1 + (n - m)) ([] ++ (nrC (out.take m)) ++ [.string s, .int .i64 (d : Int)] ++ (nrC (out.drop m)))) := ho31
                    have hu31 : Up wd.heap.size wd y2 := hHeld.grown hg31 (own_base O27.out)
                    clear ho31 hg31 O27
                    refine hK.out _ _ (hu31 : Up wd.heap.size wd _) (fun hHeld => ?_)
                    clear hK K
                    (try dsimp only at hHeld)
                    (try simp only [Act.put, List.setIfInBounds_toArray, List.set_cons_zero, List.set_cons_succ])
                    clear hu31
                    refine takeH (i := 12) (v := ?_) (d := (some 11)) rfl (by kernel_rfl) (by kernel_rfl) (by kernel_rfl) rfl (fun _ _ _ h => h) (Or.inl ⟨by kernel_rfl, ?_⟩) (by assumption) ?_; rotate_left
                    · (intro w hSw; (try dsimp only at hSw); first | (go_simp; done) | (go_simp; with_reducible rfl))
                    (try simp only [Act.put, List.setIfInBounds_toArray, List.set_cons_zero, List.set_cons_succ])
                    refine wpAnyH_done (by kernel_rfl) ?_ _
                    have HU9 : Hid (Up wd.heap.size wd y2) := hHeld
                    clear hHeld
                    have HO4 : Hid (ON y2 w.heap.size v31 (out.take m ++ ⟨s, d⟩ :: out.drop m)) := by
                      show y2.ownsRow _ _ _ _ _ _
                      have hown3 := own_mono O31.out HWD.out.2
                      have e : (out.take m ++ ⟨s, d⟩ :: out.drop m).length = 0 + m + 1 + (n - m) := by
                        have := HN.out
                        first | (simp; done) | (simp; omega)
                      rw [e, nrC_app, nrC_cons]
                      simpa using hown3
                    have HUM : Hid (Up w.heap.size w y2) := HWD.out.stay HU9.out.1
                    clear O31 HU9
                    go_wp2
                    all_goals
                      go_roundg (nl - (i + 1))
                      case measure => omega
                      case rel => exact ⟨i + 1, _, _, rfl, by omega, rfl, by go_num, HO4, HN2, HLE2, HUM⟩
                · rw [if_pos (by kernel_rfl)]
                  go_simp
                  have S26 : Hid (Srcs (x0.alloc (.cells #[.string s, .int .i64 (d : Int)] 47)) (.slice (some ⟨x0.heap.size, 0, none⟩) 1 1) 1 2 [.string s, .int .i64 (d : Int)]) := srcs_new x0 #[.string s, .int .i64 (d : Int)] 47 1 2 1 rfl
                  refine hK.out _ _ (hHeld.alloc _ : Up wd.heap.size wd _) (fun hHeld => ?_)
                  clear hK K
                  (try dsimp only at hHeld)
                  (try simp only [Act.put, List.setIfInBounds_toArray, List.set_cons_zero, List.set_cons_succ])
                  obtain ⟨x1, hx1⟩ : ∃ x1, x0.alloc (.cells #[.string s, .int .i64 (d : Int)] 47) = x1 := ⟨_, rfl⟩
                  rw [hx1] at hHeld S26 ⊢
                  refine wpAnyH_ready (rs := [0]) (by kernel_rfl) (by simp) (AllReadyH.cons rfl (fun K hK => ?_) AllReadyH.nil)
                  rw [if_pos (by kernel_rfl)]
                  go_simp
                  have O20 : Hid ((x1.alloc (.cells #[] 47)).ownsRow wd.heap.size 47 2 (.slice (some ⟨x1.heap.size, 0, none⟩) 0 0) 0 []) := World.ownsRow_lit x1 #[] 0 hHeld.2 (Nat.zero_le _) rfl
                  have S26' := S26.out.stay ((Below.refl _ _).alloc (Nat.le_refl _) (.cells #[] 47))
                  clear S26
                  have S26 : Hid (Srcs _ _ _ _ _) := S26'
                  clear S26'
                  have hne : x0.heap.size < x1.heap.size := by rw [← hx1]; simp
                  refine hK.out _ _ (hHeld.alloc _ : Up wd.heap.size wd _) (fun hHeld => ?_)
                  clear hK K
                  (try dsimp only at hHeld)
                  (try simp only [Act.put, List.setIfInBounds_toArray, List.set_cons_zero, List.set_cons_succ])
                  obtain ⟨x2, hx2⟩ : ∃ x2, x1.alloc (.cells #[] 47) = x2 := ⟨_, rfl⟩
                  rw [hx2] at hHeld O20 S26 ⊢
                  refine wpAnyH_ready (rs := [4]) (by kernel_rfl) (by simp) (AllReadyH.cons rfl (fun K hK => ?_) AllReadyH.nil)
                  rw [if_pos (by kernel_rfl)]
                  refine app_src_wp (.tmp 53) (.tmp 56) 34 rfl wd.heap.size 47 in0 _ 2 24 Tryd.underlying34 hin hnz0 hnz1 hnz2 rfl (by decide) _ _ _ rfl O20.out _ _ _ rfl ((HSA _).out.stay hHeld.1) (one_nr _) (by unfold maxLen; omega) (by omega) hHeld.2 ?_
                  intro v24 x3 ho24 hg24
                  change K (Act.put _ (some 57) _) _
                  have O24 : Hid (x3.ownsRow wd.heap.size 47 2 v24 (0 + m) ([] ++ (nrC (out.take m)))) := ho24
                  have S26' := S26.out.grown hg24 (fun e => by have e' : some x1.heap.size = some x0.heap.size := e; injection e' with e'; omega)
                  clear S26
                  have S26 : Hid (Srcs _ _ _ _ _) := S26'
                  clear S26'
                  have hu24 : Up wd.heap.size wd x3 := hHeld.grown hg24 (own_base O20.out)
                  clear ho24 hg24 O20
                  refine hK.out _ _ (hu24 : Up wd.heap.size wd _) (fun hHeld => ?_)
                  clear hK K
                  (try dsimp only at hHeld)
                  (try simp only [Act.put, List.setIfInBounds_toArray, List.set_cons_zero, List.set_cons_succ])
                  clear hu24
                  refine wpAnyH_ready (rs := [7]) (by kernel_rfl) (by simp) (AllReadyH.cons rfl (fun K hK => ?_) AllReadyH.nil)
                  rw [if_pos (by kernel_rfl)]
                  refine app_src_wp (.tmp 57) (.tmp 59) 34 rfl wd.heap.size 47 in0 _ 2 24 Tryd.underlying34 hin hnz0 hnz1 hnz2 rfl (by decide) _ _ _ rfl O24.out _ _ _ rfl S26.out (two_one _ _ rfl rfl) (by unfold maxLen; omega) (by omega) hHeld.2 ?_
                  intro v27 y1 ho27 hg27
                  change K (Act.put _ (some 60) _) _
                  have O27 : Hid (y1.ownsRow wd.heap.size 47 2 v27 (0 + m + 1) ([] ++ (nrC (out.take m)) ++ [.string s, .int .i64 (d : Int)])) := ho27
                  have hu27 : Up wd.heap.size wd y1 := hHeld.grown hg27 (own_base O24.out)
                  clear ho27 hg27 O24 S26
                  refine hK.out _ _ (hu27 : Up wd.heap.size wd _) (fun hHeld => ?_)
                  clear hK K
                  (try dsimp only at hHeld)
                  (try simp only [Act.put, List.setIfInBounds_toArray, List.set_cons_zero, List.set_cons_succ])
                  clear hu27
                  refine wpAnyH_ready (rs := [11]) (by kernel_rfl) (by simp) (AllReadyH.cons rfl (fun K hK => ?_) AllReadyH.nil)
                  rw [if_pos (by kernel_rfl)]
                  refine app_src_wp (.tmp 60) (.tmp 63) 34 rfl wd.heap.size 47 in0 _ 2 24 Tryd.underlying34 hin hnz0 hnz1 hnz2 rfl (by decide) _ _ _ rfl O27.out _ _ _ rfl ((HSB _).out.stay hHeld.1) (one_nr _) (by unfold maxLen; omega) (by omega) hHeld.2 ?_
                  intro v31 y2 ho31 hg31
                  change K (Act.put _ (some 64) _) _
                  have O31 : Hid (y2.ownsRow wd.heap.size 47 2 v31 (0 + m + 1 + (n - m)) ([] ++ (nrC (out.take m)) ++ [.string s, .int .i64 (d : Int)] ++ (nrC (out.drop m)))) := ho31
                  have hu31 : Up wd.heap.size wd y2 := hHeld.grown hg31 (own_base O27.out)
                  clear ho31 hg31 O27
                  refine hK.out _ _ (hu31 : Up wd.heap.size wd _) (fun hHeld => ?_)
                  clear hK K
                  (try dsimp only at hHeld)
                  (try simp only [Act.put, List.setIfInBounds_toArray, List.set_cons_zero, List.set_cons_succ])
                  clear hu31
                  refine takeH (i := 12) (v := ?_) (d := (some 11)) rfl (by kernel_rfl) (by kernel_rfl) (by kernel_rfl) rfl (fun _ _ _ h => h) (Or.inl ⟨by kernel_rfl, ?_⟩) (by assumption) ?_; rotate_left
                  · (intro w hSw; (try dsimp only at hSw); first | (go_simp; done) | (go_simp; with_reducible rfl))
                  (try simp only [Act.put, List.setIfInBounds_toArray, List.set_cons_zero, List.set_cons_succ])
                  refine wpAnyH_done (by kernel_rfl) ?_ _
                  have HU9 : Hid (Up wd.heap.size wd y2) := hHeld
                  clear hHeld
                  have HO4 : Hid (ON y2 w.heap.size v31 (out.take m ++ ⟨s, d⟩ :: out.drop m)) := by
                    show y2.ownsRow _ _ _ _ _ _
                    have hown3 := own_mono O31.out HWD.out.2
                    have e : (out.take m ++ ⟨s, d⟩ :: out.drop m).length = 0 + m + 1 + (n - m) := by
                      have := HN.out
                      first | (simp; done) | (simp; omega)
                    rw [e, nrC_app, nrC_cons]
                    simpa using hown3
                  have HUM : Hid (Up w.heap.size w y2) := HWD.out.stay HU9.out.1
                  clear O31 HU9
                  go_wp2
                  all_goals
                    go_roundg (nl - (i + 1))
                    case measure => omega
                    case rel => exact ⟨i + 1, _, _, rfl, by omega, rfl, by go_num, HO4, HN2, HLE2, HUM⟩
    · obtain rfl : i = nl := by omega
      have z1 : ¬ (i : Int) < (i : Int) := by omega
      have hR : out = R := by
        have h1 := HN0.out
        rw [List.drop_eq_nil_of_le (by rw [HNL.out]; exact Nat.le_refl _)] at h1
        exact h1
      have HRR : Hid (out = R) := hR
      obtain ⟨hsr, htl, hnc⟩ := srcs_take HO.out HN.out (Nat.min_le_right k n)
      have HSR : Hid (Srcs wr (.slice ado (min k n) co) (min k n) 2 (nrC (out.take (min k n)))) := hsr
      have HTL : Hid ((out.take (min k n)).length = min k n) := htl
      have hnc2 : (k : Int) ≤ (co : Int) ∨ ¬ (k : Int) < (n : Int) := by omega
      clear hR hsr htl HN0
      by_cases hkn : k < n
      · have y2 : (k : Int) < (n : Int) := by omega
        have y3 : (k : Int) ≤ (co : Int) := by omega
        have y4 : (0 : Int) ≤ (k : Int) := by omega
        have hmin : min k n = k := by omega
        rw [hmin] at HSR HTL
        have HFIN : Hid (NL wr (.slice ado k co) (R.take k)) := by
          show Srcs _ _ _ _ _
          rw [← HRR.out, HTL.out]
          exact HSR.out
        clear HSR HTL hmin hnc2
        go_wp2
        go_ret
        exact ⟨_, rfl, HFIN.out, HU.out.1⟩
      · have y2 : ¬ (k : Int) < (n : Int) := by omega
        have hmin : min k n = n := by omega
        rw [hmin] at HSR HTL
        have HFIN : Hid (NL wr (.slice ado n co) (R.take k)) := by
          show Srcs _ _ _ _ _
          rw [← HRR.out, List.take_of_length_le (by rw [HN.out]; omega)]
          rw [List.take_of_length_le (by rw [HN.out]; exact Nat.le_refl _)] at HSR
          rw [HN.out]
          exact HSR.out
        clear HSR HTL hmin hnc2
        go_wp2
        go_ret
        exact ⟨_, rfl, HFIN.out, HU.out.1⟩
end Go.Proofs.YtfikkkodepfdkaaDoor
