/- lists.Fixes: what takes a row. -/
import Derived.Test.YthdjadkdjljciaaGreatDoorRea
namespace Go.Proofs.YthdjadkdjljciaaGreatDoor
set_option linter.unusedVariables false
open Go.RowKit Go.ChangeShapes

/-- A correction as it lies in memory. -/
structure Fx where
  f : ByteArray
  l : List ByteArray
  ad : Option Addr
  c : Nat
def Fx.v (x : Fx) : Value := .slice x.ad x.l.length x.c
def Fx.p (x : Fx) : ByteArray × List ByteArray := (x.f, x.l)
def fcells (xs : List Fx) : List Value := xs.flatMap fun x => [.string x.f, x.v]
theorem fcells_snoc (xs : List Fx) (x : Fx) : fcells (xs ++ [x]) = fcells xs ++ [.string x.f, x.v] := by simp [fcells]
abbrev FSt := List (ByteArray × List ByteArray) × Bool
def fstep (st : FSt) (r : ByteArray) : FSt × Int :=
  haveI : ∀ (s : ByteArray) (L : List ByteArray), Decidable (s ∈ L) := memDec
  if (entry r).2 ≠ 0 then (st, (entry r).2) else if (entry r).1.1 ∈ st.1.map Prod.fst then (st, 6) else if st.1.length = 4096 then ((st.1, true), 4) else ((st.1 ++ [(entry r).1], false), 0)
theorem fstep_good (st : FSt) (r : ByteArray) (h : st.2 = false) (h0 : (fstep st r).2 = 0) : (fstep st r).1.2 = false := by
  unfold fstep at h0 ⊢
  split at h0
  · rename_i h1
    exact absurd h0 h1
  · rename_i h1
    rw [if_neg h1]
    split at h0
    · cases h0
    · rename_i h2
      rw [if_neg h2]
      split at h0
      · cases h0
      · rename_i h3
        rw [if_neg h3]
/-- What Fixes keeps while its rows are taken, as long as they are good. -/
structure FOk (w0 : World) (X : Nat) (st : List (ByteArray × List ByteArray)) (w : World) : Prop where
  t : Bk w (w0.heap.size + 2) #[.map (some (w0.heap.size + 1))] 63
  bag : ∃ m, m ≤ st.length ∧ Bag w (w0.heap.size + 1) m (st.map Prod.fst)
  l : ∃ v xs, Bk w w0.heap.size #[v] 38 ∧ w.ownsRow (X + 1) 49 2 v st.length (fcells xs) ∧ xs.map Fx.p = st ∧ ∀ x ∈ xs, w.ownsRow (X + 1) 9 1 x.v x.l.length (x.l.map Value.string)
  n : st.length ≤ 4096
structure FInv (w0 : World) (X : Nat) (st : FSt) (w : World) : Prop where
  up : Below w0.heap.size w0 w
  x : w0.heap.size + 3 ≤ X
  ok : st.2 = false → FOk w0 X st.1 w
theorem FOk.stay {w0 w w' : World} {X : Nat} {st : List (ByteArray × List ByteArray)} (h : FOk w0 X st w) (hb : Below w.heap.size w w') : FOk w0 X st w' := by
  obtain ⟨m, hm, hbag⟩ := h.bag
  obtain ⟨v, xs, hv, ho, he, hx⟩ := h.l
  exact ⟨h.t.stay hb, ⟨m, hm, hbag.stay hb⟩, ⟨v, xs, hv.stay hb, own_block ho (fun k _ hk => hb.block k hk), he, fun x h => own_block (hx x h) (fun k _ hk => hb.block k hk)⟩, h.n⟩
theorem FInv.stay {w0 w w' : World} {X : Nat} {st : FSt} (h : FInv w0 X st w) (hb : Below w.heap.size w w') : FInv w0 X st w' :=
  ⟨h.up.trans (hb.mono h.up.size), h.x, fun e => (h.ok e).stay hb⟩
theorem infoF : (Tryz.prog.info? 49).map (fun i => (i.zero, i.size, i.bytes)) = some (some (.agg #[.string ByteArray.empty, .slice none 0 0]), 2, 40) := by kernel_rfl
theorem own_mono2 {w : World} {base base' e size n : Nat} {v : Value} {xs : List Value} (h : w.ownsRow base e size v n xs) (hb : base' ≤ base) : w.ownsRow base' e size v n xs := Lns.own_mono h hb
/-- Two rows of other kinds lie in other blocks. -/
theorem own_other {w : World} {b1 b2 e1 e2 s1 s2 n1 n2 : Nat} {v1 v2 : Value} {x1 x2 : List Value} (h1 : w.ownsRow b1 e1 s1 v1 n1 x1) (h2 : w.ownsRow b2 e2 s2 v2 n2 x2) (he : e1 ≠ e2) : v1.ownBlock = none ∨ v1.ownBlock ≠ v2.ownBlock := by
  obtain ⟨_, ⟨rfl, _⟩ | ⟨g1, c1, u1, rfl, _, hh1, _⟩⟩ := h1
  · exact Or.inl rfl
  · obtain ⟨_, ⟨rfl, _⟩ | ⟨g2, c2, u2, rfl, _, hh2, _⟩⟩ := h2
    · exact Or.inr (by simp [Value.ownBlock])
    · refine Or.inr (fun e => ?_)
      simp only [Value.ownBlock, Option.some.injEq] at e
      subst e
      rw [hh1] at hh2
      cases hh2
      exact he rfl
theorem two_new (w : World) (u v : Value) (t : TypeId) : ∀ j x, [u, v][j]? = some x → (w.alloc (.cells #[u, v] t)).cell? ((⟨w.heap.size, 0, none⟩ : Addr).add j) = some x := by
  intro j x h
  have hb := Bk.new w #[u, v] t
  match j, h with
  | 0, h => cases h; exact hb.cell 0 rfl
  | 1, h => cases h; exact hb.cell 1 rfl
theorem two_one (u v : Value) (h : u.oneCell' = true) (h' : v.oneCell' = true) : ∀ x ∈ [u, v], x.oneCell' = true := by
  intro x hx
  rcases List.mem_cons.1 hx with rfl | hx
  · exact h
  · rcases List.mem_cons.1 hx with rfl | hx
    · exact h'
    · cases hx
theorem entry_size (r : ByteArray) : (entry r).1.1.size ≤ 4 * r.size := by
  unfold entry
  have h1 := fld_size (bareB (sideA r))
  have h2 := bareB_size (sideA r)
  have h3 := sideA_size r
  split
  · exact Nat.zero_le _
  · split
    · exact Nat.zero_le _
    · split
      · exact Nat.zero_le _
      · simp only
        omega
set_option maxRecDepth 100000 in
set_option maxHeartbeats 2000000 in
theorem fixes1_any (w0 : World) (m0 : Int) (hT0 : Tabs w0) (hm0 : w0.cell? ⟨3, 0, none⟩ = some (.int .i64 m0)) (X : Nat) (st : FSt) (hst : st.2 = false) (r : ByteArray) (w : World) (hr : r.size ≤ 4096) (h : FInv w0 X st w) (hX : X < w.heap.size) :
    Calls Tryz.prog 39 #[.string r, .pointer (some ⟨w0.heap.size + 2, 0, none⟩), .pointer (some ⟨w0.heap.size, 0, none⟩)] w fun e w' =>
      e = .returned (.int .i64 (fstep st r).2) ∧ FInv w0 X (fstep st r).1 w' ∧ w'.heap[X]? = w.heap[X]? ∧ w.heap.size ≤ w'.heap.size := by
  have c1 := read_any r m0 w hr (tabs_up hT0 h.up) ((h.up.cell (World.block_lt_of_cell? w0 _ hm0)).trans hm0)
  obtain ⟨Z, hZ⟩ : ∃ Z, fstep st r = Z := ⟨_, rfl⟩
  rw [hZ]
  unfold fstep at hZ
  have HX : Hid (X < w.heap.size) := hX
  clear hX hm0
  go_enter Tryz.func39, Tryz.ntmps39
  go_wp2_with fail
  refine c1.mono ?_
  rintro e w1 ⟨F, L, v, c, hent, rfl, hown, hb1⟩
  have hFs := entry_size r
  rw [hent] at hZ hFs
  simp only at hZ hFs
  clear c1 hent
  have hI1 := h.stay hb1
  have hx := h.x
  have HG1 : Hid (w1.heap[X]? = w.heap[X]?) := hb1.block X HX.out
  have HU1 : Hid (w.heap.size ≤ w1.heap.size) := hb1.size
  obtain ⟨ad, cp, rfl⟩ := own_form hown
  clear h hb1
  by_cases hc : c = 0
  · subst hc
    rw [if_neg (by simp)] at hZ
    have hal : Below w1.heap.size w1 (w1.alloc (.cells #[.string F, .slice ad L.length cp] 49)) := (Below.refl _ _).alloc (Nat.le_refl _) _
    have hI2 := hI1.stay hal
    have bF := Bk.new w1 #[.string F, .slice ad L.length cp] 49
    have hoT : (w1.alloc (.cells #[.string F, .slice ad L.length cp] 49)).ownsRow (X + 1) 9 1 (.slice ad L.length cp) L.length (L.map Value.string) :=
      own_mono2 (own_block hown (fun k _ hk => hal.block k hk)) (by have := HX.out; omega)
    have hx2 := HX.out
    have hu2 := HU1.out
    have HG2 : Hid ((w1.alloc (.cells #[.string F, .slice ad L.length cp] 49)).heap[X]? = w.heap[X]?) := (hal.block X (by omega)).trans HG1.out
    have hs2 : (w1.alloc (.cells #[.string F, .slice ad L.length cp] 49)).heap.size = w1.heap.size + 1 := by simp
    obtain ⟨W, hW⟩ : ∃ W, w1.alloc (.cells #[.string F, .slice ad L.length cp] 49) = W := ⟨_, rfl⟩
    rw [hW] at hI2 bF hoT HG2 hs2 hal
    have hok := hI2.ok hst
    have et := hok.t.cell 0 rfl
    obtain ⟨m, hm, hbag⟩ := hok.bag
    have hnn := hok.n
    have ew := bF.cell 0 rfl
    have ew1 := bF.cell 1 rfl
    have HOT : Hid (W.ownsRow (X + 1) 9 1 (.slice ad L.length cp) L.length (L.map Value.string)) := hoT
    have HBF : Hid (Bk W w1.heap.size #[.string F, .slice ad L.length cp] 49) := bF
    have HUW : Hid (w.heap.size < W.heap.size ∧ w1.heap.size < W.heap.size ∧ X < W.heap.size ∧ X < w1.heap.size) := by show _ ∧ _ ∧ _ ∧ _; omega
    clear hal hown bF hoT HG1 HU1 hI1 hs2
    by_cases hin : F ∈ st.1.map Prod.fst
    · rw [if_pos hin] at hZ
      have HZ : Hid ((st, (6 : Int)) = Z) := hZ
      have ca := add_old _ m _ F W (by omega) hbag hin
      have HI2 : Hid (FInv w0 X st W) := hI2
      clear hZ hin hI2 hok hbag hu2
      go_wp2_with fail
      refine ca.mono ?_
      rintro e w3 ⟨rfl, hb3⟩
      have HE : Hid (FInv w0 X st w3 ∧ w3.heap[X]? = w.heap[X]? ∧ w.heap.size ≤ w3.heap.size) := ⟨HI2.out.stay hb3, (hb3.block X HUW.out.2.2.1).trans HG2.out, Nat.le_trans (Nat.le_of_lt HUW.out.1) hb3.size⟩
      clear hb3 ca hW
      go_wp2
      go_ret
      rw [← HZ.out]
      exact ⟨rfl, HE.out⟩
    · rw [if_neg hin] at hZ
      have ca := add_new _ m _ F W (by omega) (by omega) hbag hin
      have HI2 : Hid (FInv w0 X st W) := hI2
      clear hin hI2 hok hbag hu2
      go_wp2_with fail
      refine ca.mono ?_
      rintro e w3 ⟨rfl, hbag3, hk3⟩
      have hok := HI2.out.ok hst
      obtain ⟨lv, xs, hlv, hlo, hxs, hxo⟩ := hok.l
      have hs3 := hk3.size
      obtain ⟨q1, q2, q3, q4⟩ := HUW.out
      have hlv3 := hlv.kept hk3 hlv.lt (by omega)
      have el := hlv3.cell 0 rfl
      have HG3 : Hid (w3.heap[X]? = w.heap[X]?) := (hk3.block X q3 (by omega)).trans HG2.out
      have HP3 : Hid (Below w0.heap.size w0 w3) := HI2.out.up.trans (hk3.below HI2.out.up.size (fun k hk => by omega))
      have hb3F := HBF.out.kept hk3 HBF.out.lt (by omega)
      have ef0 := hb3F.cell 0 rfl
      have ef1 := hb3F.cell 1 rfl
      have HO3 : Hid (w3.ownsRow (X + 1) 49 2 lv st.1.length (fcells xs)) := own_block hlo (fun k h1 h2 => hk3.block k h2 (by omega))
      have HXO : Hid (∀ x ∈ xs, w3.ownsRow (X + 1) 9 1 x.v x.l.length (x.l.map Value.string)) := fun x hx => own_block (hxo x hx) (fun k h1 h2 => hk3.block k h2 (by omega))
      have HOT3 : Hid (w3.ownsRow (X + 1) 9 1 (.slice ad L.length cp) L.length (L.map Value.string)) := own_block HOT.out (fun k h1 h2 => hk3.block k h2 (by omega))
      have HXS : Hid (xs.map Fx.p = st.1) := hxs
      have HT3 : Hid (Bk w3 (w0.heap.size + 2) #[.map (some (w0.heap.size + 1))] 63) := hok.t.kept hk3 hok.t.lt (by omega)
      have HB3 : Hid (Bag w3 (w0.heap.size + 1) (m + 1) (F :: st.1.map Prod.fst)) := hbag3
      have HV3 : Hid (Bk w3 w0.heap.size #[lv] 38) := hlv3
      have HS3 : Hid (X < w3.heap.size ∧ w.heap.size ≤ w3.heap.size) := by show _ ∧ _; omega
      obtain ⟨la, lc, rfl⟩ := own_form hlo
      clear hok hlv hlo hxs hxo hk3 hbag3 ca HI2 HG2 HBF HOT hb3F hlv3 q1 q2 q3 q4 hs3 et ew ew1 hW HUW
      by_cases hn : st.1.length = 4096
      · rw [if_pos hn] at hZ
        have HZ : Hid (((st.1, true), (4 : Int)) = Z) := hZ
        clear hZ
        rw [hn] at el
        go_wp2
        go_ret
        rw [← HZ.out]
        exact ⟨rfl, ⟨HP3.out, hx, fun e => by cases e⟩, HG3.out, HS3.out.2⟩
      · rw [if_neg hn] at hZ
        have HZ : Hid (((st.1 ++ [(F, L)], false), (0 : Int)) = Z) := hZ
        have hn' : ¬ (st.1.length : Int) = 4096 := by omega
        obtain ⟨i0, hi, hz0, hz1, hz2⟩ := info_parts infoF
        clear hZ
        go_wp2_with (at_builtin; refine wpList_append_own _ rfl _ _ 38 rfl (X + 1) 49 i0 _ 2 40 Tryz.underlying38 hi hz0 hz1 hz2 rfl (by decide) _ _ _ rfl (HO3.out.alloc _) ⟨w3.heap.size, 0, none⟩ 1 1 [.string F, .slice ad L.length cp] rfl rfl (two_new _ _ _ _) (two_one _ _ rfl rfl) (by unfold maxLen; omega) (by omega) (by have := HS3.out.1; simp only [World.size_alloc]; omega) ?_)
        intro v' w4 hown4 hgr hnil
        obtain ⟨a4, c4, rfl⟩ := own_form hown4
        obtain ⟨hx3, hu3⟩ := HS3.out
        have hlo := HO3.out.lt
        have hbk : ∀ k, k ≤ X → w4.heap[k]? = w3.heap[k]? := fun k hk =>
          (hgr.block k (by simp; omega) (fun e => by have := (hlo k e.symm).1; omega)).trans (((Below.refl w3.heap.size w3).alloc (Nat.le_refl _) _).block k (by omega))
        have hto : ∀ (vv : Value) (LL : List ByteArray), w3.ownsRow (X + 1) 9 1 vv LL.length (LL.map Value.string) → w4.ownsRow (X + 1) 9 1 vv LL.length (LL.map Value.string) := fun vv LL h =>
          (h.alloc _).kept hgr (own_other h HO3.out (by decide))
        have hv4 : Bk w4 w0.heap.size #[.slice la st.1.length lc] 38 := (hbk _ (by omega)).trans HV3.out
        have hc4 := hv4.cell 0 rfl
        have hf4 := hv4.frozen 0
        have hsz4 := hgr.size
        simp only [World.size_alloc] at hsz4
        have hb4 : Below w0.heap.size w0 w4 := ⟨hgr.os.trans HP3.out.os, hgr.tape.trans HP3.out.tape, hgr.output.trans HP3.out.output, by have := HP3.out.size; omega, fun k hk => (hbk k (by omega)).trans (HP3.out.block k hk)⟩
        have hbg4 : Bag w4 (w0.heap.size + 1) (m + 1) (F :: st.1.map Prod.fst) := HB3.out.block (hbk _ (by omega))
        have hst : ∀ (vv : Value) (LL : List ByteArray) (u : Value), w4.ownsRow (X + 1) 9 1 vv LL.length (LL.map Value.string) → (w4.setCell ⟨w0.heap.size, 0, none⟩ u).ownsRow (X + 1) 9 1 vv LL.length (LL.map Value.string) := fun vv LL u h =>
          own_block h (fun k hk _ => Below.heap_setCell w4 _ _ _ (by show k ≠ w0.heap.size; omega))
        have hE : FInv w0 X (st.1 ++ [(F, L)], false) (w4.setCell ⟨w0.heap.size, 0, none⟩ (.slice a4 (st.1.length + 1) c4)) := by
          refine ⟨hb4.setCell (Nat.le_refl _) _, hx, fun _ => ⟨Bk.other ((hbk _ (by omega)).trans HT3.out) (by show w0.heap.size + 2 ≠ w0.heap.size; omega) _, ⟨m + 1, by simp; omega, (hbg4.block (Below.heap_setCell w4 _ _ _ (by show w0.heap.size + 1 ≠ w0.heap.size; omega))).same (fun s => by simp [or_comm])⟩, ⟨_, xs ++ [⟨F, L, ad, cp⟩], hv4.set 0 _, ?_, ?_, ?_⟩, by simp; omega⟩⟩
          · have ho := own_block (w' := w4.setCell ⟨w0.heap.size, 0, none⟩ (.slice a4 (st.1.length + 1) c4)) hown4 (fun k hk _ => Below.heap_setCell w4 _ _ _ (by show k ≠ w0.heap.size; omega))
            rw [fcells_snoc]
            simpa [Fx.v] using ho
          · simp [HXS.out, Fx.p]
          · intro x hx
            rcases List.mem_append.1 hx with hx | hx
            · exact hst _ _ _ (hto _ _ (HXO.out x hx))
            · have : x = ⟨F, L, ad, cp⟩ := by simpa using hx
              subst this
              exact hst _ _ _ (hto _ _ HOT3.out)
        have HE : Hid (FInv w0 X (st.1 ++ [(F, L)], false) (w4.setCell ⟨w0.heap.size, 0, none⟩ (.slice a4 (st.1.length + 1) c4)) ∧ (w4.setCell ⟨w0.heap.size, 0, none⟩ (.slice a4 (st.1.length + 1) c4)).heap[X]? = w.heap[X]? ∧ w.heap.size ≤ (w4.setCell ⟨w0.heap.size, 0, none⟩ (.slice a4 (st.1.length + 1) c4)).heap.size) :=
          ⟨hE, (Below.heap_setCell w4 _ _ _ (by show X ≠ w0.heap.size; omega)).trans ((hbk X (Nat.le_refl _)).trans HG3.out), by simp [World.setCell]; omega⟩
        clear hE hst hbg4 hb4 hsz4 hv4 hto hbk hlo hx3 hu3 hown4 hgr hnil HO3 HXO HOT3 HXS HT3 HB3 HV3 HS3 HG3 HP3 el ef0 ef1
        go_wp2
        go_ret
        rw [← HZ.out]
        exact ⟨rfl, HE.out⟩
  · rw [if_pos hc] at hZ
    have HZ : Hid ((st, c) = Z) := hZ
    have HI1 : Hid (FInv w0 X st w1) := hI1
    clear hZ hown hI1
    go_wp2
    go_ret
    rw [← HZ.out]
    have hx2 := HX.out
    have hu2 := HU1.out
    exact ⟨rfl, HI1.out.stay ((Below.refl _ _).alloc (Nat.le_refl _) _), (((Below.refl w1.heap.size w1).alloc (Nat.le_refl _) _).block X (by omega)).trans HG1.out, by simp; omega⟩
end Go.Proofs.YthdjadkdjljciaaGreatDoor
