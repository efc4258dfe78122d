/- near.order, slices.Clone of suggestions, near.Words. -/
import Derived.Test.YtfikkkodepfdkaaDoornOrder
namespace Go.Proofs.YtfikkkodepfdkaaDoor
set_option linter.unusedVariables false
open Go.RowKit Go.ChangeShapes
open Qns (dd far at_)
/-- What order leaves. -/
def OrP (w w' : World) (b : Nat) (v : Value) (F : List Nr) (Pf : List ByteArray) : Prop := ∃ ys, (ys.Perm F ∧ SortedN Pf ys) ∧ ON w' b v ys ∧ (∀ B w0, Below B w0 w → B ≤ b → Below B w0 w')
theorem went_set1 (w : World) (bs : Nat) {w' : World} (h : w.grownBy w' (some bs)) : Went w w' (· = bs) (· = bs) := ⟨h.os, h.tape, h.output, h.size, fun k hk hn => h.block k hk (fun e => hn (Option.some.inj e)), fun k hk => Or.inl hk⟩
set_option maxHeartbeats 4000000 in
set_option maxRecDepth 100000 in
theorem order_any {w : World} {b : Nat} {v : Value} {F : List Nr} (hF : ON w b v F) (hbw : b ≤ w.heap.size) (hsz : ∀ x ∈ F, x.s.size ≤ 9223372036854775807) (hn : F.length ≤ 5000) {vp : Value} {Pf : List ByteArray} (hP : TL w vp Pf) (hPl : Pf.length ≤ 100) (hPs : ∀ s ∈ Pf, s.size ≤ 2000000) :
    Calls Tryd.prog 34 #[v, vp] w fun e w' => (∃ u, e = .returned u) ∧ OrP w w' b v F Pf := by
  have HF : Hid (ON w b v F) := hF
  obtain ⟨ap, cp, rfl, hc⟩ := hP
  have HC : Hid (∀ (j : Nat) (s : ByteArray), Pf[j]? = some s → ∃ b off, ap = some ⟨b, off, none⟩ ∧ w.cell? ⟨b, off + j, none⟩ = some (.string s)) := hc
  have HPS : Hid (∀ s ∈ Pf, s.size ≤ 2000000) := hPs
  have HSZ : Hid (∀ x ∈ F, x.s.size ≤ 9223372036854775807) := hsz
  obtain ⟨np, hnp⟩ : ∃ np, Pf.length = np := ⟨_, rfl⟩
  have HNP : Hid (Pf.length = np) := hnp
  rw [hnp] at hPl ⊢
  clear hF hc hPs hsz hnp
  have hmm : (Instr.makeMap 97 (some (.int .i64 (np : Int)))).run Tryd.prog w = .ok (.map (some w.heap.size)) (w.alloc (.map #[] 0)) := by
    have h0 : ¬ (np : Int) < 0 := by omega
    first | rfl | (simp [Instr.makeMap]; done) | (simp [Instr.makeMap, h0]; done) | (simp [Instr.makeMap, h0, go_sem]; done) | (unfold Instr.makeMap; simp [h0, go_sem])
  obtain ⟨w2, hw2⟩ : ∃ x, (w.alloc (.map #[] 0)).alloc (.cells #[.map (some w.heap.size)] 97) = x := ⟨_, rfl⟩
  have HU2 : Hid (Up w.heap.size w w2) := by show Up _ _ _; rw [← hw2]; exact ((Up.refl w).alloc _).alloc _
  have HM2 : Hid (BagR w2 w.heap.size 0 []) := by
    show BagR _ _ _ _
    rw [← hw2]
    exact (BagR.made w).stay ((Below.refl _ _).alloc (Nat.le_refl _) _)
  have HR2 : Hid (w2.cell? ⟨w.heap.size + 1, 0, none⟩ = some (.map (some w.heap.size))) := by
    show _ = _
    rw [← hw2]
    have := heap_alloc_new (w.alloc (.map #[] 0)) (.cells #[.map (some w.heap.size)] 97)
    have hs : (w.alloc (.map #[] 0)).heap.size = w.heap.size + 1 := by simp
    rw [hs] at this
    rw [cell_of_row _ _ 0 _ _ _ this]
    rfl
  have HW2E : Hid ((w.alloc (.map #[] 0)).alloc (.cells #[.map (some w.heap.size)] 97) = w2) := hw2
  clear hw2
  go_enter Tryd.func34, Tryd.ntmps34
  go_wp2
  clear hmm
  rw [HW2E.out]
  go_loopg [12] np (fun g jv wx => ∃ j : Nat, j ≤ np ∧ g = np - j ∧ jv = .int .i64 j ∧ Hid (BagR wx w.heap.size j (Pf.take j)) ∧ Hid (Went w2 wx (· = w.heap.size) (· = w.heap.size)))
  case atStart => exact ⟨0, Nat.zero_le _, rfl, rfl, HM2, Went.refl _ _⟩
  case round =>
    obtain ⟨j, hjn, hg, rfl, HMX, HWX⟩ := hrel
    have y0 : (0 : Int) ≤ (j : Int) := by omega
    have hcx : wr.cell? ⟨w.heap.size + 1, 0, none⟩ = some (.map (some w.heap.size)) := (World.cell?_of_block (HWX.out.far _ (World.block_lt_of_cell? w2 _ HR2.out) (by show ¬ w.heap.size + 1 = w.heap.size; omega))).trans HR2.out
    by_cases hlt : j < np
    · have y1 : (j : Int) < (np : Int) := by omega
      obtain ⟨s, hs⟩ : ∃ s, Pf[j]? = some s := ⟨_, List.getElem?_eq_getElem (by rw [HNP.out]; exact hlt)⟩
      obtain ⟨pb, po, rfl, hcs⟩ := HC.out j s hs
      have hcw : wr.cell? ⟨pb, po + j, none⟩ = some (.string s) := by
        have h2 := cell_stay hcs HU2.out.1
        exact (World.cell?_of_block (HWX.out.far _ (World.block_lt_of_cell? w2 _ h2) (by
          have := World.block_lt_of_cell? w _ hcs
          show ¬ pb = w.heap.size
          have h3 : pb < w.heap.size := this
          omega))).trans h2
      obtain ⟨w3, hrun, hbg, hgr⟩ := HMX.out.put s (by have := HPS.out s (List.mem_of_getElem? hs); omega) (by omega)
      have HM3 : Hid (BagR w3 w.heap.size (j + 1) (Pf.take (j + 1))) := by
        show BagR _ _ _ _
        rw [List.take_add_one, hs]
        exact hbg
      have HW3 : Hid (Went w2 w3 (· = w.heap.size) (· = w.heap.size)) := HWX.out.trans (went_set1 wr w.heap.size hgr)
      clear hs hcs hbg hgr HMX HWX
      go_wp2
      go_roundg (np - (j + 1))
      case measure => omega
      case rel => exact ⟨j + 1, by omega, rfl, by go_num, HM3, HW3⟩
    · obtain rfl : j = np := by omega
      have y1 : ¬ (j : Int) < (j : Int) := by omega
      have hM := HMX.out
      rw [List.take_of_length_le (by rw [HNP.out]; exact Nat.le_refl _)] at hM
      have hvb := HF.out.lt
      have hFx : ON wr b v F := own_of_blocks HF.out (fun k hk => by
        have h1 := (hvb k hk).2
        rw [HWX.out.far k (Nat.lt_of_lt_of_le h1 HU2.out.2) (by show ¬ k = w.heap.size; omega)]
        exact HU2.out.1.block k h1)
      have hcS := sortN_any Pf F HSZ.out b v wr (by omega) hFx (w.heap.size + 1) w.heap.size j hcx hM (fun e => by have := (hvb _ e).2; omega) (fun e => by have := (hvb _ e).2; omega)
      have HBL : Hid (∀ B w0, Below B w0 w → B ≤ b → Below B w0 wr ∧ B ≤ wr.heap.size) := fun B w0 h1 h2 => by
        have h3 : Below B w0 w2 := h1.trans (HU2.out.1.mono (by omega))
        have h4 : Below B w2 wr := HWX.out.below (by have := HU2.out.2; omega) (fun k hk => by have : k = w.heap.size := hk; omega)
        exact ⟨h3.trans h4, by have := h3.trans h4; have h5 := HU2.out.2; have h6 := HWX.out.size; omega⟩
      clear hM hvb hFx HMX HWX hcx
      go_wp2_with fail
      refine hcS.mono ?_
      rintro e w5 ⟨rfl, ys, hys, hon, hbl⟩
      have HP5 : Hid (OrP w w5 b v F Pf) := ⟨ys, hys, hon, fun B w0 h1 h2 => by
        obtain ⟨h3, h4⟩ := HBL.out B w0 h1 h2
        exact hbl B w0 h3 h2 h4⟩
      clear hys hon hbl hcS
      go_wp2
      go_end0
      exact ⟨⟨_, rfl⟩, HP5.out⟩
theorem one_nr (F : List Nr) : ∀ u ∈ nrC F, u.oneCell' = true := by
  intro u hu
  unfold nrC at hu
  obtain ⟨x, _, hx⟩ := List.mem_flatMap.1 hu
  simp at hx
  rcases hx with rfl | rfl <;> rfl
set_option maxRecDepth 100000 in
theorem cloneN {w : World} {ad : Option Addr} {m c : Nat} (F : List Nr) (hm : F.length = m) (h : Srcs w (.slice ad m c) m 2 (nrC F)) (hL : m ≤ 5000) :
    Calls Tryd.prog 35 #[.slice ad m c] w fun e w' => ∃ v', e = .returned v' ∧ w'.ownsRow w.heap.size 47 2 v' m (nrC F) ∧ Below w.heap.size w w' := by
  obtain ⟨i0, hi, hz0, hz1, hz2⟩ := info_parts infoNr
  have H : Hid (Srcs w (.slice ad m c) m 2 (nrC F)) := h
  have HMF : Hid (F.length = m) := hm
  have hnil := fun a l c => run_eql_slice_nil (P := Tryd.prog) w 34 47 a l c Tryd.underlying34
  clear hm
  cases ad with
  | none =>
    have hm0 : m = 0 := by
      obtain ⟨_, ⟨_, _, _, h0⟩ | ⟨_, _, _, e, _⟩⟩ := h
      · exact h0
      · cases e
    subst hm0
    have hF0 : F = [] := List.eq_nil_of_length_eq_zero HMF.out
    clear h H
    go_enter Tryd.func35, Tryd.ntmps35
    go_wp2
    go_ret
    exact ⟨_, rfl, by rw [hF0]; exact World.ownsRow_nil _ _ _ _, Below.refl _ _⟩
  | some a =>
    clear h
    go_enter Tryd.func35, Tryd.ntmps35
    go_wp2_with (at_builtin; refine app_src rfl _ _ 34 rfl w.heap.size 47 i0 _ 2 24 Tryd.underlying34 hi hz0 hz1 hz2 rfl (by decide) _ _ [] rfl (World.ownsRow_made w #[] 0 (Nat.le_refl _) (by unfold maxLen; omega) rfl) _ m (nrC F) rfl (H.out.stay ((Below.refl _ _).alloc (Nat.le_refl _) _)) (one_nr F) (by unfold maxLen; omega) (by omega) (by simp) ?_)
    intro v' w' ho hg
    have HB : Hid (Below w.heap.size w w') := by
      refine ⟨hg.os, hg.tape, hg.output, ?_, fun q hq => ?_⟩
      · have := hg.size
        simp at this
        omega
      · rw [hg.block q (by simp; omega) (by simp [Value.ownBlock]; omega)]
        exact (World.grownBy_alloc w _ none).block q hq (by simp)
    have HO : Hid (w'.ownsRow w.heap.size 47 2 v' m (nrC F)) := by
      have h3 : w'.ownsRow w.heap.size 47 2 v' m (nrC F) := by simpa using ho
      exact h3
    clear ho hg H
    go_wp2
    go_ret
    exact ⟨_, rfl, HO, HB⟩
theorem nrC_take (F : List Nr) (k : Nat) : (nrC F).take (k * 2) = nrC (F.take k) := by
  induction F generalizing k with
  | nil => simp [nrC]
  | cons x F ih =>
    cases k with
    | zero => simp [nrC]
    | succ k =>
      rw [List.take_succ_cons]
      show (_ :: _ :: nrC F).take _ = _ :: _ :: nrC (F.take k)
      rw [show (k + 1) * 2 = k * 2 + 1 + 1 by omega, List.take_succ_cons, List.take_succ_cons, ih]
/-- The beginning of a row. -/
theorem srcs_take {w : World} {b : Nat} {ad : Option Addr} {n c z : Nat} {F : List Nr} (h : ON w b (.slice ad n c) F) (hn : F.length = n) (hz : z ≤ n) : Srcs w (.slice ad z c) z 2 (nrC (F.take z)) ∧ (F.take z).length = z ∧ n ≤ c := by
  have hl : (F.take z).length = z := by rw [List.length_take]; omega
  refine ⟨⟨by rw [nrC_len, hl], ?_⟩, hl, ?_⟩
  · have h0 := h
    obtain ⟨h1, ⟨e, h2⟩ | ⟨g, cap, cur, e, hg, hh, h3⟩⟩ := h
    · have : z = 0 := by omega
      subst this
      exact Or.inl ⟨ad, c, rfl, rfl⟩
    · injection e with e1 e2 e3
      subst e1
      refine Or.inr ⟨g, 0, c, rfl, fun j u hu => ?_⟩
      have hc := World.ownsRow.cells h0 rfl j u (by
        rw [← nrC_take, List.getElem?_take] at hu
        split at hu
        · exact hu
        · cases hu)
      rw [addr_plus] at hc
      exact hc
  · obtain ⟨h1, ⟨e, h2⟩ | ⟨g, cap, cur, e, hg, hh, h3, _⟩⟩ := h
    · injection e with e1 e2 e3
      omega
    · injection e with e1 e2 e3
      omega
/-- Numbers that are refused. -/
theorem words_bad (tv : Value) (s : ByteArray) (most k : Int) (vp : Value) (w : World) (h : most < 0 ∨ 3 < most ∨ k < 0 ∨ 32 < k) :
    Calls Tryd.prog 16 #[tv, .string s, .int .i64 most, .int .i64 k, vp] w fun e w' => e = .returned (.tuple #[.slice none 0 0, .int .i64 2]) ∧ w' = w := by
  by_cases h1 : most < 0
  · clear h
    go_enter Tryd.func16, Tryd.ntmps16
    go_wp2
    go_ret2
    exact ⟨rfl, rfl⟩
  by_cases h2 : 3 < most
  · clear h
    go_enter Tryd.func16, Tryd.ntmps16
    go_wp2
    go_ret2
    exact ⟨rfl, rfl⟩
  by_cases h3 : k < 0
  · clear h
    go_enter Tryd.func16, Tryd.ntmps16
    go_wp2
    go_ret2
    exact ⟨rfl, rfl⟩
  have h4 : 32 < k := by omega
  clear h
  go_enter Tryd.func16, Tryd.ntmps16
  go_wp2
  go_ret2
  exact ⟨rfl, rfl⟩
/-- A word that is too long. -/
theorem words_long (tv : Value) (s : ByteArray) (most k : Nat) (vp : Value) (w : World) (hT : Tabs w) (hm : most ≤ 3) (hk : k ≤ 32) (hs : s.size ≤ 2000000) (h : 64 < (rs s).length) :
    Calls Tryd.prog 16 #[tv, .string s, .int .i64 (most : Int), .int .i64 (k : Int), vp] w fun e w' => e = .returned (.tuple #[.slice none 0 0, .int .i64 3]) ∧ Below w.heap.size w w' := by
  have y1 : ¬ (most : Int) < 0 := by omega
  have y2 : ¬ (3 : Int) < (most : Int) := by omega
  have y3 : ¬ (k : Int) < 0 := by omega
  have y4 : ¬ (32 : Int) < (k : Int) := by omega
  by_cases h2 : 256 < s.size
  · have c1 := short_long s w h2 hs
    clear hT h
    go_enter Tryd.func16, Tryd.ntmps16
    go_wp2_with fail
    refine c1.mono ?_
    rintro e w1 ⟨rfl, rfl⟩
    go_wp2
    go_ret2
    exact ⟨rfl, Below.refl _ _⟩
  · have c1 := short_any s w hT (by omega)
    have hd : decide ((rs s).length ≤ 64) = false := decide_eq_false (by omega)
    rw [hd] at c1
    clear hT h hd
    go_enter Tryd.func16, Tryd.ntmps16
    go_wp2_with fail
    refine c1.mono ?_
    rintro e w1 ⟨v, rfl, -, hb⟩
    have HB : Hid (Below w.heap.size w w1) := hb
    clear hb c1
    go_wp2
    go_ret2
    exact ⟨rfl, HB.out⟩
/-- What near.Words tells. -/
def WdP (w w' : World) (v : Value) (N : List Nr) : Prop := ON w' w.heap.size v N ∧ Below w.heap.size w w'
set_option maxHeartbeats 4000000 in
set_option maxRecDepth 100000 in
theorem words_any {tp : Option Addr} {s : ByteArray} {most k : Nat} {vp : Value} {w : World} {L Pf : List ByteArray} (hT : Tabs w) (hV : Tr w (.pointer tp) L) (hP : TL w vp Pf) (hPl : Pf.length ≤ 100) (hPs : ∀ s ∈ Pf, s.size ≤ 2000000) (hm : most ≤ 3) (hk : k ≤ 32) (hs : s.size ≤ 2000000) (h : (rs s).length ≤ 64) :
    Calls Tryd.prog 16 #[(.pointer tp), .string s, .int .i64 (most : Int), .int .i64 (k : Int), vp] w fun e w' => ∃ v, e = .returned (.tuple #[v, .int .i64 0]) ∧ WdP w w' v ((nearsP Pf (rs s) most L).take k) := by
  have y1 : ¬ (most : Int) < 0 := by omega
  have y2 : ¬ (3 : Int) < (most : Int) := by omega
  have y3 : ¬ (k : Int) < 0 := by omega
  have y4 : ¬ (32 : Int) < (k : Int) := by omega
  have hs2 : s.size ≤ 256 := by
    have h1 := kS_ends s
    have h2 : s.size ≤ 4 * kS s := by
      have key : ∀ k, (∀ j, j < k → pos s j < s.size) → pos s k ≤ 4 * k := fun k => by
        induction k with
        | zero => intro _; exact Nat.le_refl _
        | succ k ih =>
          intro hj
          have h3 := ih (fun j hj' => hj j (by omega))
          have h4 := (wd_pos s (pos s k) (hj k (by omega))).2.2
          show pos s k + wd s (pos s k) ≤ _
          omega
      rw [← h1.1]
      exact key _ h1.2
    rw [← rs_len] at h2
    omega
  have c1 := short_any s w hT hs2
  have hd : decide ((rs s).length ≤ 64) = true := decide_eq_true h
  rw [hd] at c1
  have HV : Hid (Tr w (.pointer tp) L) := hV
  have HP : Hid (TL w vp Pf) := hP
  have HPS : Hid (∀ s ∈ Pf, s.size ≤ 2000000) := hPs
  obtain ⟨W, hW⟩ : ∃ W, rs s = W := ⟨_, rfl⟩
  rw [hW] at c1 h ⊢
  obtain ⟨X, hX⟩ : ∃ X, (nearsP Pf W most L).take k = X := ⟨_, rfl⟩
  rw [hX]
  have HX : Hid ((nearsP Pf W most L).take k = X) := hX
  clear hT hV hP hPs hd hW hX
  go_enter Tryd.func16, Tryd.ntmps16
  go_wp2_with fail
  refine c1.mono ?_
  rintro e w1 ⟨vW, rfl, hoW, hb1⟩
  have HU1 : Hid (Up w.heap.size w w1) := (Up.refl w).stay hb1
  have hR : Qns.RSl w1 vW W.length (at_ W) := by
    have h0 := hoW
    obtain ⟨hl, ⟨e, h1⟩ | ⟨g, cap, cur, e, hg, hh, h3⟩⟩ := hoW
    · exact Or.inl ⟨none, 0, e, h1⟩
    · subst e
      refine Or.inr ⟨g, 0, cap, rfl, fun q hq => ?_⟩
      rw [Nat.zero_add, h0.cellAt q (by omega), List.getElem?_map]
      unfold at_
      rw [List.getD_eq_getElem?_getD, List.getElem?_eq_getElem hq]
      rfl
  have c2 := enough_any (HV.out.stay HU1.out) hR h most k hm hk
  clear hoW hb1 hR c1
  go_wp2_with fail
  refine c2.mono ?_
  rintro e w2 ⟨v2, rfl, hen, hU2⟩
  obtain ⟨fs, hfs, hon⟩ := hen
  have HFS : Hid (EnF W L most k fs) := hfs
  have HU2 : Hid (Up w.heap.size w w2) := HU1.out.stay hU2.1
  have HON : Hid (ON w2 w1.heap.size v2 (nearL W fs L)) := hon
  obtain ⟨N, hN⟩ : ∃ N, nearL W fs L = N := ⟨_, rfl⟩
  have hNl := nearL_len W fs L
  have hLl := HV.out.len
  obtain ⟨P, B, -, hNP, -, -⟩ := HV.out.ex
  have HGD : Hid (∀ s ∈ L, GoodX s) := hNP.good
  have hsz : ∀ x ∈ N, x.s.size ≤ 9223372036854775807 := fun x hx => by
    rw [← hN] at hx
    obtain ⟨t, ht, _, rfl⟩ := (wit_mem HGD.out W fs x).1 hx
    have := (HGD.out t ht).2.1
    show t.size ≤ _
    omega
  rw [hN] at hNl hon
  have c3 := order_any hon (by exact hU2.2) hsz (by omega) (HP.out.stay HU2.out.1) hPl HPS.out
  have hU12 := hU2.2
  have HU12 : Hid (w1.heap.size ≤ w2.heap.size) := hU12
  have HNN : Hid (nearL W fs L = N) := hN
  clear hfs hon hU2 hN hsz hNP c2 HON
  go_wp2_with fail
  refine c3.mono ?_
  rintro e w3 ⟨⟨u, rfl⟩, ys, ⟨hp, hso⟩, hon, hbl⟩
  have HB3 : Hid (Below w.heap.size w w3) := hbl _ _ HU2.out.1 HU1.out.2
  have hyl : ys.length ≤ 5000 := by rw [hp.length_eq]; omega
  have HSM : Hid (ys.take k = X) := by
    show _ = _
    rw [← HX.out]
    rw [← HNN.out] at hp
    exact near_same HGD.out HV.out.rise Pf W most k fs HFS.out hp hso
  obtain ⟨n, hn⟩ : ∃ n, ys.length = n := ⟨_, rfl⟩
  obtain ⟨av, cv, rfl⟩ : ∃ av cv, v2 = .slice av n cv := by rw [← hn]; exact own_slice hon
  obtain ⟨z, hz⟩ : ∃ z, min k n = z := ⟨_, rfl⟩
  have hzn : z ≤ n := by omega
  have z1 : min (k : Int) (n : Int) = (z : Int) := by omega
  obtain ⟨hsr, htl, hnc⟩ := srcs_take hon hn hzn
  have c4 := cloneN (ys.take z) htl hsr (by omega)
  have HTK : Hid (ys.take z = X) := by
    show _ = _
    rw [← HSM.out, ← hz]
    by_cases hkn : k ≤ n
    · rw [Nat.min_eq_left hkn]
    · rw [Nat.min_eq_right (by omega), List.take_of_length_le (by omega), List.take_of_length_le (by omega)]
  have HTL : Hid ((ys.take z).length = z) := htl
  have z2 : (z : Int) ≤ (cv : Int) := by omega
  have z3 : (0 : Int) ≤ (z : Int) := by omega
  rw [hn] at hyl
  have HU13 : Hid (Below w.heap.size w w3 ∧ w.heap.size ≤ w3.heap.size) := ⟨HB3.out, HB3.out.size⟩
  clear hp hso hon hbl hn hz hsr htl c3
  go_wp2_with fail
  refine c4.mono ?_
  rintro e w4 ⟨v4, rfl, ho4, hb4⟩
  have HW4 : Hid (WdP w w4 v4 X) := by
    refine ⟨?_, HU13.out.1.trans (hb4.mono HU13.out.2)⟩
    show w4.ownsRow _ _ _ _ _ _
    rw [← HTK.out, HTL.out]
    exact own_mono ho4 HU13.out.2
  clear ho4 hb4 c4
  go_wp2
  go_ret2
  exact ⟨v4, rfl, HW4.out⟩
end Go.Proofs.YtfikkkodepfdkaaDoor
