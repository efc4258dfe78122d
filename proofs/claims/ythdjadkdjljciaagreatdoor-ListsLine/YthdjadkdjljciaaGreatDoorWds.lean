/- lists.Words: what takes a row. -/
import Derived.Test.YthdjadkdjljciaaGreatDoorEch
import Derived.Lib.OwnBridge
namespace Go.Proofs.YthdjadkdjljciaaGreatDoor
set_option linter.unusedVariables false
open Go.RowKit Go.ChangeShapes

theorem ends_go (s : ByteArray) : ∀ d k, s.size - pos s k ≤ d → (∀ j, j < k → pos s j < s.size) → ∃ K, Ends s K
  | 0, k, hd, h => ⟨k, ⟨by have := pos_le s k h; omega, h⟩⟩
  | d + 1, k, hd, h => by
    by_cases h1 : pos s k < s.size
    · have h2 := (wd_pos s (pos s k) h1).1
      refine ends_go s d (k + 1) (by simp only [pos]; omega) (fun j hj => ?_)
      rcases Nat.lt_succ_iff_lt_or_eq.1 hj with h3 | h3
      · exact h j h3
      · rw [h3]; exact h1
    · exact ⟨k, ⟨by have := pos_le s k h; omega, h⟩⟩
theorem ends_ex (s : ByteArray) : ∃ K, Ends s K := ends_go s s.size 0 (by omega) (fun j hj => absurd hj (Nat.not_lt_zero j))
/-- How many signs. -/
def kG (s : ByteArray) : Nat → Nat → Nat
  | 0, k => k
  | f + 1, k => if pos s k = s.size then k else kG s f (k + 1)
theorem kG_ends {s : ByteArray} {K : Nat} (hK : Ends s K) : ∀ f k, k ≤ K → K ≤ k + f → kG s f k = K
  | 0, k, h1, h2 => by show k = K; omega
  | f + 1, k, h1, h2 => by
    show (if pos s k = s.size then k else kG s f (k + 1)) = K
    by_cases h : pos s k = s.size
    · rw [if_pos h]
      rcases Nat.lt_or_ge k K with hl | hg
      · exact absurd h (Nat.ne_of_lt (hK.2 k hl))
      · omega
    · rw [if_neg h]
      have hne : k ≠ K := fun e => h (by rw [e]; exact hK.1)
      exact kG_ends hK f (k + 1) (by omega) (by omega)
def kS (s : ByteArray) : Nat := kG s s.size 0
theorem kS_ends (s : ByteArray) : Ends s (kS s) := by
  obtain ⟨K, hK⟩ := ends_ex s
  have hl := hK.le
  have h := kG_ends hK s.size 0 (Nat.zero_le _) (by omega)
  show Ends s (kG s s.size 0)
  rw [h]
  exact hK
theorem kS_is {s : ByteArray} {k : Nat} (h : Ends s k) : kS s = k := (kS_ends s).one h
/-- Bytes are equal or not. -/
def bytesDec : DecidableEq ByteArray := fun s t => decidable_of_iff (s.data = t.data) ⟨fun h => by cases s; cases t; cases h; rfl, fun h => by rw [h]⟩
/-- A text is in a list or not. -/
def memDec (s : ByteArray) : (L : List ByteArray) → Decidable (s ∈ L)
  | [] => isFalse (by simp)
  | t :: L => match bytesDec s t with
    | isTrue h => isTrue (by simp [h])
    | isFalse h => match memDec s L with
      | isTrue k => isTrue (List.mem_cons_of_mem _ k)
      | isFalse k => isFalse (by simp [h, k])
/-- Check's number of a text; a text in small letters. -/
def chk (s : ByteArray) : Int := chkL s.size (rl s (kS s))
def fld (s : ByteArray) : ByteArray := tx (wrL 1 (sg s (kS s)))
theorem check_at (s : ByteArray) (w : World) (hn : s.size ≤ 5000) (hT : Tabs w) :
    Calls Tryz.prog 12 #[.string s] w fun e w' => e = .returned (.int .i64 (chk s)) ∧ Below w.heap.size w w' := check_any s (kS s) w hn hT (kS_ends s)
theorem fold_at (s : ByteArray) (w : World) (hn : s.size ≤ 5000) (hT : Tabs w) :
    Calls Tryz.prog 21 #[.string s] w fun e w' => e = .returned (.string (fld s)) ∧ Below w.heap.size w w' := fold_any s (kS s) w hn hT (kS_ends s)
theorem flat_len (l : List Int) : (l.flatMap enc).length ≤ 4 * l.length := by
  induction l with
  | nil => simp
  | cons a l ih => rw [List.flatMap_cons, List.length_append, List.length_cons]; have := enc_le a; omega
theorem fld_size (s : ByteArray) : (fld s).size ≤ 4 * s.size := by
  unfold fld tx
  rw [strOfNums_size]
  refine Nat.le_trans (flat_len _) ?_
  rw [wrL_len]
  have h1 : (sg s (kS s)).length ≤ kS s := by
    unfold sg
    refine Nat.le_trans (List.length_filter_le _ _) ?_
    simp [rl]
  have h2 := (kS_ends s).le
  omega
/-- Words' own: how many were there, and which. -/
structure WSt where
  n : Nat
  L : List ByteArray
def wstep (st : WSt) (r : ByteArray) : WSt × Int :=
  haveI : ∀ (s : ByteArray) (L : List ByteArray), Decidable (s ∈ L) := memDec
  if chk r ≠ 0 then (st, chk r) else if st.n = 4096 then (st, 4) else if fld r ∈ st.L then (⟨st.n + 1, st.L⟩, 0) else (⟨st.n + 1, st.L ++ [fld r]⟩, 0)
theorem own_block {w w' : World} {base e size n : Nat} {v : Value} {xs : List Value} (h : w.ownsRow base e size v n xs) (hb : ∀ k, base ≤ k → k < w.heap.size → w'.heap[k]? = w.heap[k]?) : w'.ownsRow base e size v n xs := by
  obtain ⟨h1, h2 | ⟨g, cap, cur, rfl, hg, hh, h3⟩⟩ := h
  · exact ⟨h1, Or.inl h2⟩
  · exact ⟨h1, Or.inr ⟨g, cap, cur, rfl, hg, (hb g hg (lt_of_heap hh)).trans hh, h3⟩⟩
theorem own_form {w : World} {base e size n : Nat} {v : Value} {xs : List Value} (h : w.ownsRow base e size v n xs) : ∃ ad c, v = .slice ad n c := by
  obtain ⟨h1, ⟨rfl, rfl⟩ | ⟨g, cap, cur, rfl, hg, hh, h3⟩⟩ := h
  · exact ⟨_, _, rfl⟩
  · exact ⟨_, _, rfl⟩
/-- What Words keeps while its rows are taken. -/
structure WInv (w0 : World) (X : Nat) (st : WSt) (w : World) : Prop where
  up : Below w0.heap.size w0 w
  a : Bk w (w0.heap.size + 2) #[.int .i64 st.n] 3
  t : Bk w (w0.heap.size + 3) #[.map (some (w0.heap.size + 1))] 63
  bag : ∃ m, m ≤ st.L.length ∧ Bag w (w0.heap.size + 1) m st.L
  l : ∃ v, Bk w w0.heap.size #[v] 28 ∧ w.ownsRow (X + 1) 9 1 v st.L.length (st.L.map Value.string)
  x : w0.heap.size + 4 ≤ X
  n : st.n ≤ 4096
  c : st.L.length ≤ st.n
theorem WInv.stay {w0 w w' : World} {X : Nat} {st : WSt} (h : WInv w0 X st w) (hb : Below w.heap.size w w') : WInv w0 X st w' := by
  obtain ⟨m, hm, hbag⟩ := h.bag
  obtain ⟨v, hv, ho⟩ := h.l
  exact ⟨h.up.trans (hb.mono h.up.size), h.a.stay hb, h.t.stay hb, ⟨m, hm, hbag.stay hb⟩, ⟨v, hv.stay hb, own_block ho (fun k _ hk => hb.block k hk)⟩, h.x, h.n, h.c⟩
theorem Bag.same {w : World} {b n : Nat} {L L' : List ByteArray} (h : Bag w b n L) (e : ∀ s, s ∈ L ↔ s ∈ L') : Bag w b n L' := by
  obtain ⟨D, h1, h2⟩ := h
  exact ⟨D, h1, fun s => (h2 s).trans (e s)⟩
theorem Bag.mono {w : World} {b n m : Nat} {L : List ByteArray} (h : Bag w b n L) (e : n ≤ m) : Bag w b m L := by
  obtain ⟨D, h1, h2⟩ := h
  exact ⟨D, h1.mono e, h2⟩
theorem tabs_up {w0 w : World} (h : Tabs w0) (hb : Below w0.heap.size w0 w) : Tabs w := tabs_stay h hb
theorem WInv.count {w0 w : World} {X : Nat} {st : WSt} (h : WInv w0 X st w) (hn : st.n < 4096) : WInv w0 X ⟨st.n + 1, st.L⟩ (w.setCell ⟨w0.heap.size + 2, 0, none⟩ (.int .i64 ((st.n : Int) + 1))) := by
  obtain ⟨m, hm, hbag⟩ := h.bag
  obtain ⟨v, hv, ho⟩ := h.l
  have hx := h.x
  refine ⟨h.up.setCell (by simp) _, h.a.set 0 _, h.t.other (by simp) _, ⟨m, hm, hbag.block (Below.heap_setCell w _ _ _ (by simp))⟩, ⟨v, hv.other (by simp) _, own_block ho (fun k hk _ => Below.heap_setCell w _ _ _ (by simp; omega))⟩, h.x, by simp; omega, by have := h.c; simp; omega⟩
theorem chk_small {r : ByteArray} (h : chk r = 0) : r.size ≤ 64 := by
  unfold chk chkL at h
  split at h <;> omega
set_option maxRecDepth 100000 in
set_option maxHeartbeats 2000000 in
theorem words1_any (w0 : World) (hT0 : Tabs w0) (X : Nat) (st : WSt) (r : ByteArray) (w : World) (hr : r.size ≤ 4096) (h : WInv w0 X st w) (hX : X < w.heap.size) :
    Calls Tryz.prog 31 #[.string r, .pointer (some ⟨w0.heap.size + 2, 0, none⟩), .pointer (some ⟨w0.heap.size + 3, 0, none⟩), .pointer (some ⟨w0.heap.size, 0, none⟩)] w fun e w' =>
      e = .returned (.int .i64 (wstep st r).2) ∧ WInv w0 X (wstep st r).1 w' ∧ w'.heap[X]? = w.heap[X]? ∧ w.heap.size ≤ w'.heap.size := by
  have c1 := check_at r w (by omega) (tabs_up hT0 h.up)
  obtain ⟨Z, hZ⟩ : ∃ Z, wstep st r = Z := ⟨_, rfl⟩
  rw [hZ]
  unfold wstep at hZ
  have HX : Hid (X < w.heap.size) := hX
  clear hX
  by_cases hc : chk r = 0
  · have h64 := chk_small hc
    rw [hc] at c1
    rw [if_neg (by simp [hc])] at hZ
    go_enter Tryz.func31, Tryz.ntmps31
    go_wp2_with fail
    refine c1.mono ?_
    rintro e w1 ⟨rfl, hb1⟩
    have HI : Hid (WInv w0 X st w1) := h.stay hb1
    have ha := HI.out.a.cell 0 rfl
    have hfa := HI.out.a.frozen 0
    have HG : Hid (w1.heap[X]? = w.heap[X]?) := hb1.block X HX.out
    have HU : Hid (w.heap.size ≤ w1.heap.size) := hb1.size
    clear c1 hb1
    by_cases hn : st.n = 4096
    · rw [if_pos hn] at hZ
      rw [hn] at ha
      have HZ : Hid ((st, (4 : Int)) = Z) := hZ
      clear hZ
      go_wp2
      go_ret
      rw [← HZ.out]
      exact ⟨rfl, HI.out, HG.out, HU.out⟩
    · rw [if_neg hn] at hZ
      have hlt : st.n < 4096 := by have := h.n; omega
      have hn' : ¬ (st.n : Int) = 4096 := by omega
      have hll := HI.out.c
      have HI1 := HI.out.count hlt
      have hfs := fld_size r
      clear h
      go_wp2_with fail
      refine (fold_at r _ (by omega) (tabs_up hT0 HI1.up)).mono ?_
      rintro e w2 ⟨rfl, hb2⟩
      have hI2 := HI1.stay hb2
      have hx := hI2.x
      have HG2 : Hid (w2.heap[X]? = w.heap[X]?) := (hb2.block X (by have := HX.out; have := HU.out; simp [World.setCell]; omega)).trans ((Below.heap_setCell w1 _ _ _ (by simp; omega)).trans HG.out)
      have HU2 : Hid (w.heap.size ≤ w2.heap.size) := Nat.le_trans HU.out (by have := hb2.size; simpa [World.setCell] using this)
      clear ha hfa HI1 HG HU hb2 HI
      have ht := hI2.t.cell 0 rfl
      obtain ⟨m, hm, hbag⟩ := hI2.bag
      simp only at hm
      by_cases hin : fld r ∈ st.L
      · rw [if_pos hin] at hZ
        have HZ : Hid ((⟨st.n + 1, st.L⟩, (0 : Int)) = Z) := hZ
        have c3 := add_old _ m st.L (fld r) w2 (by omega) hbag hin
        have HI2 : Hid (WInv w0 X ⟨st.n + 1, st.L⟩ w2) := hI2
        clear hZ hin hI2 hbag hfs
        generalize fld r = f at c3 ⊢
        go_wp2_with fail
        refine c3.mono ?_
        rintro e w3 ⟨rfl, hb3⟩
        have HI3 : Hid (WInv w0 X ⟨st.n + 1, st.L⟩ w3) := HI2.out.stay hb3
        have HG3 : Hid (w3.heap[X]? = w.heap[X]?) := (hb3.block X (Nat.lt_of_lt_of_le HX.out HU2.out)).trans HG2.out
        have HU3 : Hid (w.heap.size ≤ w3.heap.size) := Nat.le_trans HU2.out hb3.size
        clear hb3 c3 HI2 HG2 HU2
        go_wp2
        go_ret
        rw [← HZ.out]
        exact ⟨rfl, HI3.out, HG3.out, HU3.out⟩
      · rw [if_neg hin] at hZ
        have HZ : Hid ((⟨st.n + 1, st.L ++ [fld r]⟩, (0 : Int)) = Z) := hZ
        have c3 := add_new _ m st.L (fld r) w2 (by omega) (by omega) hbag hin
        have HI2 : Hid (WInv w0 X ⟨st.n + 1, st.L⟩ w2) := hI2
        clear hZ hin hI2 hbag hfs
        generalize fld r = f at c3 HZ ⊢
        go_wp2_with fail
        refine c3.mono ?_
        rintro e w3 ⟨rfl, hbag3, hk3⟩
        have hsz := hk3.size
        obtain ⟨v, hv, hol⟩ := HI2.out.l
        simp only at hol
        have hv3 : Bk w3 w0.heap.size #[v] 28 := hv.kept hk3 hv.lt (by simp)
        have hol3 : w3.ownsRow (X + 1) 9 1 v st.L.length (st.L.map Value.string) := own_block hol (fun k hk hl => hk3.block k hl (by omega))
        have HA : Hid (Bk w3 (w0.heap.size + 2) #[.int .i64 ((st.n + 1 : Nat) : Int)] 3) := HI2.out.a.kept hk3 HI2.out.a.lt (by simp)
        have HTT : Hid (Bk w3 (w0.heap.size + 3) #[.map (some (w0.heap.size + 1))] 63) := HI2.out.t.kept hk3 HI2.out.t.lt (by simp)
        have HP : Hid (Below w0.heap.size w0 w3) := HI2.out.up.trans (hk3.below HI2.out.up.size (fun k hk => by omega))
        have HG3 : Hid (w3.heap[X]? = w.heap[X]?) := (hk3.block X (Nat.lt_of_lt_of_le HX.out HU2.out) (by omega)).trans HG2.out
        have HU3 : Hid (w.heap.size ≤ w3.heap.size) := Nat.le_trans HU2.out hsz
        have HX3 : Hid (X < w3.heap.size) := Nat.lt_of_lt_of_le HX.out HU3.out
        have HO : Hid (w3.ownsRow (X + 1) 9 1 v st.L.length (st.L.map Value.string)) := hol3
        have HV : Hid (Bk w3 w0.heap.size #[v] 28) := hv3
        have hcv := hv3.cell 0 rfl
        have HBG : Hid (Bag w3 (w0.heap.size + 1) (m + 1) (f :: st.L)) := hbag3
        obtain ⟨i0, hi, hz0, hz1, hz2⟩ := info_parts Lns.info9
        clear c3 hk3 hsz HI2 HG2 HU2 hv hol hol3 hv3 hbag3 ht
        go_wp2_with (at_builtin; refine wpList_append_own _ rfl _ _ 28 rfl (X + 1) 9 i0 _ 1 16 Tryz.underlying28 hi hz0 hz1 hz2 rfl (by decide) _ _ _ rfl (HO.out.alloc _) ⟨w3.heap.size, 0, none⟩ 1 1 [.string f] rfl rfl (Lns.one_new _ _ _) (Lns.one_one _ rfl) (by unfold maxLen; omega) (by omega) (by have := HX3.out; simp only [World.size_alloc]; omega) ?_)
        intro v' w4 hown4 hgr hnil
        obtain ⟨ad4, cp4, rfl⟩ := own_form hown4
        have hx4 := HX3.out
        have hlo := HO.out.lt
        have hne : ∀ k, k ≤ X → some k ≠ v.ownBlock := fun k hk e => by have := (hlo k e.symm).1; omega
        have hbk : ∀ k, k ≤ X → w4.heap[k]? = w3.heap[k]? := fun k hk =>
          (hgr.block k (by simp; omega) (hne k hk)).trans (((Below.refl w3.heap.size w3).alloc (Nat.le_refl _) _).block k (by omega))
        have hv4 : Bk w4 w0.heap.size #[v] 28 := (hbk _ (by omega)).trans HV.out
        have hc4 := hv4.cell 0 rfl
        have hf4 := hv4.frozen 0
        have HE : Hid (WInv w0 X ⟨st.n + 1, st.L ++ [f]⟩ (w4.setCell ⟨w0.heap.size, 0, none⟩ (.slice ad4 (st.L.length + 1) cp4))) := by
          have hsz4 := hgr.size
          simp only [World.size_alloc] at hsz4
          have hb4 : Below w0.heap.size w0 w4 := ⟨hgr.os.trans HP.out.os, hgr.tape.trans HP.out.tape, hgr.output.trans HP.out.output, by have := HP.out.size; omega, fun k hk => (hbk k (by omega)).trans (HP.out.block k hk)⟩
          have hbg4 : Bag w4 (w0.heap.size + 1) (m + 1) (f :: st.L) := HBG.out.block (hbk _ (by omega))
          refine ⟨hb4.setCell (Nat.le_refl _) _, Bk.other ((hbk _ (by omega)).trans HA.out) (by simp) _, Bk.other ((hbk _ (by omega)).trans HTT.out) (by simp) _, ⟨m + 1, by simp; omega, (hbg4.block (Below.heap_setCell w4 _ _ _ (by simp))).same (fun s => by simp [or_comm])⟩, ⟨_, hv4.set 0 _, ?_⟩, hx, by simp; omega, by simp; omega⟩
          have ho := own_block (w' := w4.setCell ⟨w0.heap.size, 0, none⟩ (.slice ad4 (st.L.length + 1) cp4)) hown4 (fun k hk _ => Below.heap_setCell w4 _ _ _ (by simp; omega))
          simpa using ho
        have HG4 : Hid ((w4.setCell ⟨w0.heap.size, 0, none⟩ (.slice ad4 (st.L.length + 1) cp4)).heap[X]? = w.heap[X]?) := (Below.heap_setCell w4 _ _ _ (by simp; omega)).trans ((hbk X (Nat.le_refl _)).trans HG3.out)
        have HU4 : Hid (w.heap.size ≤ (w4.setCell ⟨w0.heap.size, 0, none⟩ (.slice ad4 (st.L.length + 1) cp4)).heap.size) := by
          have hsz4 := hgr.size
          simp only [World.size_alloc] at hsz4
          have := HU3.out
          show _ ≤ _
          simp [World.setCell]
          omega
        clear hown4 hgr hnil hlo hne hbk hv4 HO HV HA HTT HBG HP HG3 HU3 hcv
        go_wp2
        go_ret
        rw [← HZ.out]
        exact ⟨rfl, HE.out, HG4.out, HU4.out⟩
  · rw [if_pos hc] at hZ
    have HZ : Hid ((st, chk r) = Z) := hZ
    clear hZ
    generalize chk r = z at c1 hc HZ
    go_enter Tryz.func31, Tryz.ntmps31
    go_wp2_with fail
    refine c1.mono ?_
    rintro e w1 ⟨rfl, hb1⟩
    have HI : Hid (WInv w0 X st w1) := h.stay hb1
    have HG : Hid (w1.heap[X]? = w.heap[X]?) := hb1.block X HX.out
    have HU : Hid (w.heap.size ≤ w1.heap.size) := hb1.size
    clear c1 hb1
    go_wp2
    go_ret
    rw [← HZ.out]
    exact ⟨rfl, HI.out, HG.out, HU.out⟩
end Go.Proofs.YthdjadkdjljciaaGreatDoor
