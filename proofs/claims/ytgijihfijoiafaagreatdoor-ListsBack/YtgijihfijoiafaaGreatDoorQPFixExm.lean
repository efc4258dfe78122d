/- lists.Fixes. -/
import Derived.Test.YtgijihfijoiafaaGreatDoorQPWrdCmp
namespace Go.Proofs.YtgijihfijoiafaaGreatDoor
set_option linter.unusedVariables false
open Go.RowKit Go.ChangeShapes

abbrev nmF : ByteArray := ⟨#[102, 105, 120, 101, 115]⟩
theorem enterF (args : Array Value) (w : World) : (callFunc 39 args).run Tryz.prog w = .ok (.enter 39 args) w := Proofs.enters_of Tryz.func39 (by kernel_rfl) rfl args w
theorem finv_start (w : World) (X : Nat) (hX : w.heap.size + 3 ≤ X) : FInv w X ([], false) (((w.alloc (.cells #[.slice none 0 0] 38)).alloc (.map #[] 0)).alloc (.cells #[.map (some (w.heap.size + 1))] 63)) := by
  refine ⟨(((Up.refl w).alloc _).alloc _).alloc _ |>.1, hX, fun _ => ⟨?_, ⟨0, Nat.le_refl _, ?_⟩, ⟨.slice none 0 0, [], ?_, World.ownsRow_nil _ _ _ _, rfl, fun x h => by cases h⟩, Nat.zero_le _⟩⟩
  · have h := Bk.new ((w.alloc (.cells #[.slice none 0 0] 38)).alloc (.map #[] 0)) #[.map (some (w.heap.size + 1))] 63
    simp only [World.size_alloc] at h
    exact h
  · have h := Bag.made (w.alloc (.cells #[.slice none 0 0] 38))
    simp only [World.size_alloc] at h
    exact h.stay ((Below.refl _ _).alloc (Nat.le_refl _) _)
  · exact ((Bk.new w #[.slice none 0 0] 38).alloc _).alloc _
set_option maxRecDepth 100000 in
set_option maxHeartbeats 2000000 in
theorem fixes_run (s : ByteArray) (v : Value) (m : Int) (w : World) (hs : s.size ≤ 40000) (hT : Tabs w) (hb : Lns.BSl w v s) (hm : w.cell? ⟨3, 0, none⟩ = some (.int .i64 m)) (hL : longL (linesL s) 0 = 0) :
    Calls Tryz.prog 18 #[v] w fun e w' => ∃ st c ln, runR fstep (linesL s) 0 ([], false) = (st, c, ln) ∧ Below w.heap.size w w' ∧
      ((c = 0 ∧ ∃ u ys, e = .returned (.tuple #[u, .nilIface]) ∧ w'.ownsRow w.heap.size 49 2 u ys.length (fcells ys) ∧ (ys.map Fx.p).Perm st.1 ∧ Rise ys ∧ ∀ x ∈ ys, w'.ownsRow w.heap.size 9 1 x.v x.l.length (x.l.map Value.string)) ∨
       (c ≠ 0 ∧ ∃ b, e = .returned (.tuple #[.slice none 0 0, val [⟨b, nmF, ln⟩] c]) ∧ Lie w' [⟨b, nmF, ln⟩] c)) := by
  have hmm := @run_makeMap Tryz.prog
  have hmf : ∀ (fn : Fn) (first cap : Array Value) (w : World), (Instr.makeFunc fn first cap).run Tryz.prog w = .ok (.func fn first cap) w := fun _ _ _ _ => rfl
  have HB : Hid (Lns.BSl w v s) := hb
  have HT : Hid (Tabs w) := hT
  obtain ⟨vd, vc, rfl⟩ := hb.form
  have HM : Hid (w.cell? ⟨3, 0, none⟩ = some (.int .i64 m)) := hm
  clear hb hT hm
  go_enter Tryz.func18, Tryz.ntmps18
  go_wp2_with fail
  have hsz : (((w.alloc (.cells #[.slice none 0 0] 38)).alloc (.map #[] 0)).alloc (.cells #[.map (some (w.heap.size + 1))] 63)).heap.size = w.heap.size + 3 := by simp
  have HW : Hid (∀ X, w.heap.size + 3 ≤ X → FInv w X ([], false) (((w.alloc (.cells #[.slice none 0 0] 38)).alloc (.map #[] 0)).alloc (.cells #[.map (some (w.heap.size + 1))] 63))) := finv_start w
  have HU : Hid (Up w.heap.size w (((w.alloc (.cells #[.slice none 0 0] 38)).alloc (.map #[] 0)).alloc (.cells #[.map (some (w.heap.size + 1))] 63))) := ((((Up.refl w).alloc _).alloc _).alloc _)
  generalize ((w.alloc (.cells #[.slice none 0 0] 38)).alloc (.map #[] 0)).alloc (.cells #[.map (some (w.heap.size + 1))] 63) = W at hsz HW HU ⊢
  have hbel := HU.out.1
  have hbs : Below w.heap.size w W := hbel
  refine (each_run nmF s (.slice vd s.size vc) 39 #[.pointer (some ⟨w.heap.size + 2, 0, none⟩), .pointer (some ⟨w.heap.size, 0, none⟩)] (FInv w) (fun st => st.2 = false) fstep ([], false) m W hs (tabs_up HT.out hbs) (HB.out.stay hbs)
    (fun X st w' h => (h.up.cell (World.block_lt_of_cell? w _ HM.out)).trans HM.out) (fun r w' => enterF _ w') rfl (fun st r h h0 => fstep_good st r h h0)
    (fun X st r w' hg h1 h2 h3 h4 => fixes1_any w m HT.out HM.out X st hg r w' h1 h3 h4) (fun X st w' w'' h1 h2 => h1.stay h2) (fun X w' h1 h2 => (HW.out X (by omega)).stay h1) hL).mono ?_
  clear hbel hbs hsz HW HU
  rintro e w1 ⟨X, st, c, ln, hrun, hI, ⟨rfl, hgood, rfl⟩ | ⟨hc, b, rfl, hlie⟩⟩
  · have hok := hI.ok hgood
    obtain ⟨u, xs, hu, hol, hxs, hxo⟩ := hok.l
    have hln : xs.length = st.1.length := by rw [← hxs, List.length_map]
    rw [← hln] at hol
    obtain ⟨ad, cp, rfl⟩ := own_form hol
    have hcv := hu.cell 0 rfl
    have hul := hu.lt
    have hx := hI.x
    have hnl := hok.n
    have HP : Hid (Below w.heap.size w w1) := hI.up
    have HR : Hid (runR fstep (linesL s) 0 ([], false) = (st, 0, ln)) := hrun
    have c4 := sortF_any xs (X + 1) _ w1 (by omega) hol
    have HXO : Hid (∀ x ∈ xs, w1.ownsRow (X + 1) 9 1 x.v x.l.length (x.l.map Value.string)) := hxo
    have HXS : Hid (xs.map Fx.p = st.1) := hxs
    have HOL : Hid (w1.ownsRow (X + 1) 49 2 (.slice ad xs.length cp) xs.length (fcells xs)) := hol
    clear hI hu hrun hol hok hxs hxo hln
    go_wp2_with fail
    refine c4.mono ?_
    rintro e w2 ⟨rfl, ys, hpm, hrs, ho2, hbb, hkk⟩
    have hk := hbb (w.heap.size + 1) w1 (Below.refl _ _) (by omega) (by omega)
    have hcv2 : w2.cell? ⟨w.heap.size, 0, none⟩ = _ := (hk.cell (by simp)).trans hcv
    have hyl : ys.length = xs.length := hpm.length_eq
    have HO : Hid (w2.ownsRow (X + 1) 49 2 (.slice ad xs.length cp) ys.length (fcells ys)) := by rw [hyl]; exact ho2
    have HP2 : Hid (Below w.heap.size w w2) := HP.out.trans (hk.mono (by omega))
    have HY : Hid ((ys.map Fx.p).Perm st.1 ∧ Rise ys ∧ ∀ x ∈ ys, w2.ownsRow w.heap.size 9 1 x.v x.l.length (x.l.map Value.string)) := by
      refine ⟨by rw [← HXS.out]; exact hpm.map _, hrs, fun x hx => ?_⟩
      have h1 := HXO.out x (hpm.mem_iff.1 hx)
      refine own_mono2 ?_ (show w.heap.size ≤ X + 1 by omega)
      rcases own_other h1 HOL.out (by decide) with h2 | h2
      · obtain ⟨h3, h4 | ⟨g, cap, cur, h4, hg, hh, h5⟩⟩ := h1
        · exact ⟨h3, Or.inl h4⟩
        · rw [h4] at h2; cases h2
      · obtain ⟨h3, h4 | ⟨g, cap, cur, h4, hg, hh, h5⟩⟩ := h1
        · exact ⟨h3, Or.inl h4⟩
        · refine ⟨h3, Or.inr ⟨g, cap, cur, h4, hg, (hkk g (lt_of_heap hh) (fun e => h2 ?_)).trans hh, h5⟩⟩
          rw [h4, e]
          rfl
    clear hbb hk ho2 c4 hcv hkk hpm hrs hyl
    go_wp2
    refine bodyPost_ret (v := .tuple #[.slice ad xs.length cp, .nilIface]) (by simp [results, Tryz.results18, go_sem]) rfl ?_
    exact ⟨st, 0, ln, HR.out, HP2.out, Or.inl ⟨rfl, _, ys, rfl, own_mono2 HO.out (by omega), HY.out⟩⟩
  · have HP : Hid (Below w.heap.size w w1) := hI.up
    have HR : Hid (runR fstep (linesL s) 0 ([], false) = (st, c, ln)) := hrun
    have HL : Hid (Lie w1 [⟨b, nmF, ln⟩] c) := hlie
    clear hI hrun hlie
    unfold val
    go_wp2
    refine bodyPost_ret (v := .tuple #[.slice none 0 0, val [⟨b, nmF, ln⟩] c]) (by simp [results, Tryz.results18, go_sem, val]) rfl ?_
    exact ⟨st, c, ln, HR.out, HP.out, Or.inr ⟨hc, b, rfl, HL.out⟩⟩
end Go.Proofs.YtgijihfijoiafaaGreatDoor
/- What the two examples of chapter 6 come to. -/
namespace Go.Proofs.YtgijihfijoiafaaGreatDoor
set_option linter.unusedVariables false
open Go.RowKit Go.ChangeShapes

abbrev ex1 : ByteArray := ⟨#[116, 101, 104, 32, 45, 62, 32, 116, 104, 101, 10, 104, 97, 118, 32, 45, 62, 32, 104, 97, 118, 101, 44, 32, 104, 97, 108, 102, 32, 35, 32, 120]⟩
abbrev ex2 : ByteArray := ⟨#[98, 10, 65, 10, 98]⟩
abbrev x_teh : ByteArray := ⟨#[116, 101, 104]⟩
theorem ends_teh : Ends x_teh 3 := by refine ⟨by kernel_rfl, ?_⟩; decide
theorem chk_teh : chk x_teh = 0 := by
  unfold chk
  rw [kS_is ends_teh]
  kernel_rfl
abbrev x_hav : ByteArray := ⟨#[104, 97, 118]⟩
theorem ends_hav : Ends x_hav 3 := by refine ⟨by kernel_rfl, ?_⟩; decide
theorem chk_hav : chk x_hav = 0 := by
  unfold chk
  rw [kS_is ends_hav]
  kernel_rfl
abbrev x_the : ByteArray := ⟨#[116, 104, 101]⟩
theorem ends_the : Ends x_the 3 := by refine ⟨by kernel_rfl, ?_⟩; decide
theorem chk_the : chk x_the = 0 := by
  unfold chk
  rw [kS_is ends_the]
  kernel_rfl
abbrev x_have : ByteArray := ⟨#[104, 97, 118, 101]⟩
theorem ends_have : Ends x_have 4 := by refine ⟨by kernel_rfl, ?_⟩; decide
theorem chk_have : chk x_have = 0 := by
  unfold chk
  rw [kS_is ends_have]
  kernel_rfl
abbrev x_half : ByteArray := ⟨#[104, 97, 108, 102]⟩
theorem ends_half : Ends x_half 4 := by refine ⟨by kernel_rfl, ?_⟩; decide
theorem chk_half : chk x_half = 0 := by
  unfold chk
  rw [kS_is ends_half]
  kernel_rfl
abbrev x_b : ByteArray := ⟨#[98]⟩
theorem ends_b : Ends x_b 1 := by refine ⟨by kernel_rfl, ?_⟩; decide
theorem chk_b : chk x_b = 0 := by
  unfold chk
  rw [kS_is ends_b]
  kernel_rfl
abbrev x_A : ByteArray := ⟨#[65]⟩
theorem ends_A : Ends x_A 1 := by refine ⟨by kernel_rfl, ?_⟩; decide
theorem chk_A : chk x_A = 0 := by
  unfold chk
  rw [kS_is ends_A]
  kernel_rfl
theorem fld_teh : fld x_teh = (x_teh : ByteArray) := by
  unfold fld
  rw [kS_is ends_teh]
  kernel_rfl
theorem fld_hav : fld x_hav = (x_hav : ByteArray) := by
  unfold fld
  rw [kS_is ends_hav]
  kernel_rfl
theorem fld_the : fld x_the = (x_the : ByteArray) := by
  unfold fld
  rw [kS_is ends_the]
  kernel_rfl
theorem fld_have : fld x_have = (x_have : ByteArray) := by
  unfold fld
  rw [kS_is ends_have]
  kernel_rfl
theorem fld_half : fld x_half = (x_half : ByteArray) := by
  unfold fld
  rw [kS_is ends_half]
  kernel_rfl
theorem fld_b : fld x_b = (x_b : ByteArray) := by
  unfold fld
  rw [kS_is ends_b]
  kernel_rfl
theorem fld_A : fld x_A = (⟨#[97]⟩ : ByteArray) := by
  unfold fld
  rw [kS_is ends_A]
  kernel_rfl
abbrev x_a : ByteArray := ⟨#[97]⟩
theorem lines1 : linesL ex1 = [⟨#[116, 101, 104, 32, 45, 62, 32, 116, 104, 101, 10]⟩, ⟨#[104, 97, 118, 32, 45, 62, 32, 104, 97, 118, 101, 44, 32, 104, 97, 108, 102, 32, 35, 32, 120]⟩] := by kernel_rfl
theorem lines2 : linesL ex2 = [⟨#[98, 10]⟩, ⟨#[65, 10]⟩, ⟨#[98]⟩] := by kernel_rfl
theorem long1 : longL (linesL ex1) 0 = 0 := by kernel_rfl
theorem long2 : longL (linesL ex2) 0 = 0 := by kernel_rfl
theorem ne_by {a b : ByteArray} (h : a.data.toList ≠ b.data.toList) : a ≠ b := fun e => h (by rw [e])
theorem runR_ok {σ : Type} (step : σ → ByteArray → σ × Int) (r : ByteArray) (l : List ByteArray) (j : Nat) (st st' : σ) (x : ByteArray) (hx : rowB r = x) (h0 : x.size ≠ 0) (h : step st x = (st', 0)) : runR step (r :: l) j st = runR step l (j + 1) st' := by
  conv => lhs; unfold runR
  rw [hx, if_neg h0, h, if_pos rfl]
theorem cstep_new (L : List ByteArray) (r b f : ByteArray) (h1 : bareB r = b) (h2 : b.size ≠ 0) (h3 : chk b = 0) (h4 : fld b = f) (h5 : f ∉ L) : cstep L r = (L ++ [f], 0) := by
  unfold cstep
  rw [h1, if_neg h2, if_neg (by simp [h3]), h4, if_neg h5]
theorem entry_ok (r a b f : ByteArray) (L : List ByteArray) (h1 : sides r = true) (h2 : bareB (sideA r) = a) (h3 : chk a = 0) (h4 : fld a = f) (h5 : sideB r = b) (h6 : runP cstep (pcs b.size b) [] = (L, 0)) : entry r = ((f, L), 0) := by
  unfold entry
  rw [if_neg (by simp [h1]), h2, if_neg (by simp [h3]), h5, h6, if_neg (by simp), h4]
theorem fstep_ok (st : List (ByteArray × List ByteArray)) (r f : ByteArray) (L : List ByteArray) (h1 : entry r = ((f, L), 0)) (h2 : f ∉ st.map Prod.fst) (h3 : st.length ≠ 4096) : fstep (st, false) r = ((st ++ [(f, L)], false), 0) := by
  unfold fstep
  rw [h1, if_neg (by simp), if_neg h2, if_neg h3]
theorem wstep_new (n : Nat) (L : List ByteArray) (r f : ByteArray) (h1 : chk r = 0) (h2 : n ≠ 4096) (h3 : fld r = f) (h4 : f ∉ L) : wstep ⟨n, L⟩ r = (⟨n + 1, L ++ [f]⟩, 0) := by
  unfold wstep
  rw [if_neg (by simp [h1]), if_neg h2, h3, if_neg h4]
theorem wstep_old (n : Nat) (L : List ByteArray) (r f : ByteArray) (h1 : chk r = 0) (h2 : n ≠ 4096) (h3 : fld r = f) (h4 : f ∈ L) : wstep ⟨n, L⟩ r = (⟨n + 1, L⟩, 0) := by
  unfold wstep
  rw [if_neg (by simp [h1]), if_neg h2, h3, if_pos h4]
theorem entry1 : entry ⟨#[116, 101, 104, 32, 45, 62, 32, 116, 104, 101]⟩ = ((x_teh, [x_the]), 0) := by
  refine entry_ok _ x_teh ⟨#[32, 116, 104, 101]⟩ _ _ (by kernel_rfl) (by kernel_rfl) chk_teh fld_teh (by kernel_rfl) ?_
  rw [show pcs (⟨#[32, 116, 104, 101]⟩ : ByteArray).size ⟨#[32, 116, 104, 101]⟩ = [⟨#[32, 116, 104, 101]⟩] by kernel_rfl]
  unfold runP
  rw [cstep_new [] _ x_the x_the (by kernel_rfl) (by decide) chk_the fld_the (by simp)]
  rfl
theorem entry2 : entry ⟨#[104, 97, 118, 32, 45, 62, 32, 104, 97, 118, 101, 44, 32, 104, 97, 108, 102]⟩ = ((x_hav, [x_have, x_half]), 0) := by
  refine entry_ok _ x_hav ⟨#[32, 104, 97, 118, 101, 44, 32, 104, 97, 108, 102]⟩ _ _ (by kernel_rfl) (by kernel_rfl) chk_hav fld_hav (by kernel_rfl) ?_
  rw [show pcs (⟨#[32, 104, 97, 118, 101, 44, 32, 104, 97, 108, 102]⟩ : ByteArray).size ⟨#[32, 104, 97, 118, 101, 44, 32, 104, 97, 108, 102]⟩ = [⟨#[32, 104, 97, 118, 101]⟩, ⟨#[32, 104, 97, 108, 102]⟩] by kernel_rfl]
  unfold runP
  rw [cstep_new [] _ x_have x_have (by kernel_rfl) (by decide) chk_have fld_have (by simp)]
  simp only [if_pos, List.nil_append]
  unfold runP
  rw [cstep_new [x_have] _ x_half x_half (by kernel_rfl) (by decide) chk_half fld_half (by simp only [List.mem_singleton]; exact ne_by (by decide))]
  rfl
theorem run1 : runR fstep (linesL ex1) 0 ([], false) = (([(x_teh, [x_the]), (x_hav, [x_have, x_half])], false), 0, 0) := by
  rw [lines1, runR_ok fstep _ _ _ _ ([(x_teh, [x_the])], false) ⟨#[116, 101, 104, 32, 45, 62, 32, 116, 104, 101]⟩ (by kernel_rfl) (by decide) (fstep_ok [] _ _ _ entry1 (by simp) (by decide)),
    runR_ok fstep _ _ _ _ ([(x_teh, [x_the]), (x_hav, [x_have, x_half])], false) ⟨#[104, 97, 118, 32, 45, 62, 32, 104, 97, 118, 101, 44, 32, 104, 97, 108, 102]⟩ (by kernel_rfl) (by decide) (fstep_ok [(x_teh, [x_the])] _ _ _ entry2 (by simp only [List.map_cons, List.map_nil, List.mem_singleton]; exact ne_by (by decide)) (by decide))]
  rfl
theorem run2 : runR wstep (linesL ex2) 0 ⟨0, []⟩ = (⟨3, [x_b, x_a]⟩, 0, 0) := by
  rw [lines2, runR_ok wstep _ _ _ _ ⟨1, [x_b]⟩ x_b (by kernel_rfl) (by decide) (wstep_new 0 [] _ _ chk_b (by decide) fld_b (by simp)),
    runR_ok wstep _ _ _ _ ⟨2, [x_b, x_a]⟩ x_A (by kernel_rfl) (by decide) (wstep_new 1 [x_b] _ _ chk_A (by decide) fld_A (by simp only [List.mem_singleton]; exact ne_by (by decide))),
    runR_ok wstep _ _ _ _ ⟨3, [x_b, x_a]⟩ x_b (by kernel_rfl) (by decide) (wstep_old 2 [x_b, x_a] _ _ chk_b (by decide) fld_b (by simp))]
  rfl
theorem srt2 : srt [x_b, x_a] = [x_a, x_b] := by
  have h : ([[98], [97]] : List (List UInt8)).mergeSort (fun x y => decide (x ≤ y)) = [[97], [98]] := by
    simp [List.mergeSort, List.MergeSort.Internal.splitInTwo, List.merge]
    decide
  unfold srt
  show (List.mergeSort [[98], [97]] _).map _ = _
  rw [h]
  rfl
end Go.Proofs.YtgijihfijoiafaaGreatDoor
