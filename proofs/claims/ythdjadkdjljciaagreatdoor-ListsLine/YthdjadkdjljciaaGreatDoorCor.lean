/- lists.corrections. -/
import Derived.Test.YthdjadkdjljciaaGreatDoorSpl
namespace Go.Proofs.YthdjadkdjljciaaGreatDoor
set_option linter.unusedVariables false
open Go.RowKit Go.ChangeShapes Go.Shelf
attribute [local go_sem] Oper.semAt_some

/-- A word's, without what may stand about it. -/
def bareB (s : ByteArray) : ByteArray := ⟨(bareL s.data.toList).toArray⟩
/-- What a piece does to the corrections. -/
def cstep (L : List ByteArray) (r : ByteArray) : List ByteArray × Int :=
  haveI : ∀ (s : ByteArray) (L : List ByteArray), Decidable (s ∈ L) := memDec
  if (bareB r).size = 0 then (L, 7) else if chk (bareB r) ≠ 0 then (L, chk (bareB r)) else if fld (bareB r) ∈ L then (L, 0) else (L ++ [fld (bareB r)], 0)
theorem enterSp (args : Array Value) (w : World) : (callFunc 162 args).run Tryz.prog w = .ok (.enter 162 args) w := Proofs.enters_of Tryz.func162 (by kernel_rfl) rfl args w
/-- What stands while pieces are taken. -/
structure CInv (w0 : World) (L : List ByteArray) (V : World) : Prop where
  up : Below w0.heap.size w0 V
  r0 : Bk V w0.heap.size #[.slice none 0 0] 28
  r1 : Bk V (w0.heap.size + 1) #[.int .i64 0] 23
  t : Bk V (w0.heap.size + 4) #[.map (some (w0.heap.size + 3))] 63
  bag : ∃ m, m ≤ L.length ∧ Bag V (w0.heap.size + 3) m L
  l : ∃ v, Bk V (w0.heap.size + 2) #[v] 28 ∧ V.ownsRow (w0.heap.size + 10) 9 1 v L.length (L.map Value.string)
  s : w0.heap.size + 10 ≤ V.heap.size
theorem CInv.kept {w0 V V' : World} {L : List ByteArray} (h : CInv w0 L V) (k : Kpt V.heap.size (fun k => w0.heap.size + 5 ≤ k ∧ k < w0.heap.size + 10) V V') : CInv w0 L V' := by
  obtain ⟨m, hm, hbag⟩ := h.bag
  obtain ⟨v, hv, ho⟩ := h.l
  exact ⟨h.up.trans (k.below h.up.size (fun j hj => by omega)), h.r0.kept k h.r0.lt (by omega), h.r1.kept k h.r1.lt (by omega), h.t.kept k h.t.lt (by omega), ⟨m, hm, hbag.kept k hbag.lt (by omega)⟩,
    ⟨v, hv.kept k hv.lt (by omega), own_block ho (fun j hj hl => k.block j hl (by omega))⟩, Nat.le_trans h.s k.size⟩
theorem CInv.stay {w0 V V' : World} {L : List ByteArray} (h : CInv w0 L V) (hb : Below V.heap.size V V') : CInv w0 L V' := h.kept (Kpt.of hb)
def LInv (w0 : World) (c : Int) (V : World) : Prop := Below w0.heap.size w0 V ∧ Bk V w0.heap.size #[.slice none 0 0] 28 ∧ Bk V (w0.heap.size + 1) #[.int .i64 c] 23
def Fr (n : Nat) (V V' : World) : Prop := ∀ k, n + 5 ≤ k → k < n + 10 → V'.heap[k]? = V.heap[k]?
theorem Fr.stay {n : Nat} {V V' : World} (h : n + 10 ≤ V.heap.size) (hb : Below V.heap.size V V') : Fr n V V' := fun k _ h2 => hb.block k (by omega)
theorem cstep_len (L : List ByteArray) (r : ByteArray) : (cstep L r).1.length ≤ L.length + 1 := by
  unfold cstep
  split
  · simp
  · split
    · simp
    · split
      · simp
      · simp
theorem bareB_size (s : ByteArray) : (bareB s).size ≤ s.size := trimS_len s.data.toList _
theorem bare_at (s : ByteArray) (w : World) (hs : s.size < 4294967281) :
    Calls Tryz.prog 66 #[.string s] w fun e w' => e = .returned (.string (bareB s)) ∧ Below w.heap.size w w' := bare_any s w hs
set_option maxHeartbeats 1000000 in
set_option maxRecDepth 100000 in
theorem corr_any (s : ByteArray) (w : World) (hs : s.size ≤ 5000) (hT : Tabs w) :
    Calls Tryz.prog 67 #[.string s] w fun e w' => ∃ L c v, runP cstep (pcs s.size s) [] = (L, c) ∧ e = .returned (.tuple #[v, .int .i64 c]) ∧ Below w.heap.size w w' ∧
      ((c = 0 ∧ w'.ownsRow w.heap.size 9 1 v L.length (L.map Value.string)) ∨ (c ≠ 0 ∧ v = .slice none 0 0)) := by
  have hmm := @run_makeMap Tryz.prog
  refine (callsIn_wide (n := 9)).1 ?_
  refine callsIn_of_wp_marks Tryz.func67 rfl trivial ?_ rfl
  simp only [Tryz.ntmps67, List.size_toArray, List.length_cons, List.length_nil, Nat.reduceAdd, Nat.reduceSub, Array.replicate_succ, Array.replicate_zero, List.push_toArray, List.append_toArray, List.nil_append, List.cons_append]
  gi_wp2_with (first | (refine ⟨trivial, ?_⟩; gi_at_call 106; refine (callsIn_wide.2 (splitSeq_any _ _ _)).mono ?_; rintro e w1 ⟨rfl, hw⟩; subst w1) | fail)
  simp only [Nat.add_assoc, Nat.reduceAdd]
  have hsz : ((((((((w.alloc (.cells #[.slice none 0 0] 28)).alloc (.cells #[.int .i64 0] 23)).alloc (.cells #[.slice none 0 0] 28)).alloc (.map #[] 0)).alloc (.cells #[.map (some (w.heap.size + 3))] 63)).alloc (.cells #[.string s] 9)).alloc (.cells #[.string ⟨#[44]⟩] 9)).alloc (.cells #[.int .i64 0] 3)).heap.size = w.heap.size + 8 := by simp
  have hb0 := (((((((Bk.new w #[.slice none 0 0] 28).alloc (.cells #[.int .i64 0] 23)).alloc (.cells #[.slice none 0 0] 28)).alloc (.map #[] 0)).alloc (.cells #[.map (some (w.heap.size + 3))] 63)).alloc (.cells #[.string s] 9)).alloc (.cells #[.string ⟨#[44]⟩] 9)).alloc (.cells #[.int .i64 0] 3)
  have hb1 := ((((((Bk.new (w.alloc (.cells #[.slice none 0 0] 28)) #[.int .i64 0] 23).alloc (.cells #[.slice none 0 0] 28)).alloc (.map #[] 0)).alloc (.cells #[.map (some (w.heap.size + 3))] 63)).alloc (.cells #[.string s] 9)).alloc (.cells #[.string ⟨#[44]⟩] 9)).alloc (.cells #[.int .i64 0] 3)
  have hb2 := (((((Bk.new ((w.alloc (.cells #[.slice none 0 0] 28)).alloc (.cells #[.int .i64 0] 23)) #[.slice none 0 0] 28).alloc (.map #[] 0)).alloc (.cells #[.map (some (w.heap.size + 3))] 63)).alloc (.cells #[.string s] 9)).alloc (.cells #[.string ⟨#[44]⟩] 9)).alloc (.cells #[.int .i64 0] 3)
  have hb3 := ((((Bag.made (((w.alloc (.cells #[.slice none 0 0] 28)).alloc (.cells #[.int .i64 0] 23)).alloc (.cells #[.slice none 0 0] 28))).stay ((Below.refl _ _).alloc (Nat.le_refl _) (.cells #[.map (some (w.heap.size + 3))] 63))).stay ((Below.refl _ _).alloc (Nat.le_refl _) (.cells #[.string s] 9))).stay ((Below.refl _ _).alloc (Nat.le_refl _) (.cells #[.string ⟨#[44]⟩] 9))).stay ((Below.refl _ _).alloc (Nat.le_refl _) (.cells #[.int .i64 0] 3))
  have hb4 := (((Bk.new ((((w.alloc (.cells #[.slice none 0 0] 28)).alloc (.cells #[.int .i64 0] 23)).alloc (.cells #[.slice none 0 0] 28)).alloc (.map #[] 0)) #[.map (some (w.heap.size + 3))] 63).alloc (.cells #[.string s] 9)).alloc (.cells #[.string ⟨#[44]⟩] 9)).alloc (.cells #[.int .i64 0] 3)
  have hb5 := ((Bk.new (((((w.alloc (.cells #[.slice none 0 0] 28)).alloc (.cells #[.int .i64 0] 23)).alloc (.cells #[.slice none 0 0] 28)).alloc (.map #[] 0)).alloc (.cells #[.map (some (w.heap.size + 3))] 63)) #[.string s] 9).alloc (.cells #[.string ⟨#[44]⟩] 9)).alloc (.cells #[.int .i64 0] 3)
  have hb6 := (Bk.new ((((((w.alloc (.cells #[.slice none 0 0] 28)).alloc (.cells #[.int .i64 0] 23)).alloc (.cells #[.slice none 0 0] 28)).alloc (.map #[] 0)).alloc (.cells #[.map (some (w.heap.size + 3))] 63)).alloc (.cells #[.string s] 9)) #[.string ⟨#[44]⟩] 9).alloc (.cells #[.int .i64 0] 3)
  have hb7 := Bk.new (((((((w.alloc (.cells #[.slice none 0 0] 28)).alloc (.cells #[.int .i64 0] 23)).alloc (.cells #[.slice none 0 0] 28)).alloc (.map #[] 0)).alloc (.cells #[.map (some (w.heap.size + 3))] 63)).alloc (.cells #[.string s] 9)).alloc (.cells #[.string ⟨#[44]⟩] 9)) #[.int .i64 0] 3
  have hu := ((((((((Up.refl w).alloc (.cells #[.slice none 0 0] 28)).alloc (.cells #[.int .i64 0] 23)).alloc (.cells #[.slice none 0 0] 28)).alloc (.map #[] 0)).alloc (.cells #[.map (some (w.heap.size + 3))] 63)).alloc (.cells #[.string s] 9)).alloc (.cells #[.string ⟨#[44]⟩] 9)).alloc (.cells #[.int .i64 0] 3)
  simp only [World.size_alloc, Nat.add_assoc, Nat.reduceAdd] at hb1 hb2 hb3 hb4 hb5 hb6 hb7
  generalize (((((((w.alloc (.cells #[.slice none 0 0] 28)).alloc (.cells #[.int .i64 0] 23)).alloc (.cells #[.slice none 0 0] 28)).alloc (.map #[] 0)).alloc (.cells #[.map (some (w.heap.size + 3))] 63)).alloc (.cells #[.string s] 9)).alloc (.cells #[.string ⟨#[44]⟩] 9)).alloc (.cells #[.int .i64 0] 3) = W at *
  refine range_gen (α := List ByteArray × ByteArray) (gf := 162) (lb := #[.pointer (some ⟨w.heap.size + 6, 0, none⟩), .pointer (some ⟨w.heap.size + 5, 0, none⟩), .pointer (some ⟨w.heap.size + 7, 0, none⟩)]) rfl enterSp
    (fun x => #[.string x.2]) (fun _ => rfl)
    (fun x V => CInv w x.1 V ∧ x.1.length ≤ 5000 ∧ x.2.size ≤ 5000)
    (fun x V V' => (cstep x.1 x.2).2 = 0 ∧ CInv w (cstep x.1 x.2).1 V' ∧ Fr w.heap.size V V')
    (fun x V V' => (cstep x.1 x.2).2 ≠ 0 ∧ LInv w (cstep x.1 x.2).2 V' ∧ Fr w.heap.size V V')
    (fun x => { tmps := #[.string s, undef, .pointer (some ⟨w.heap.size, 0, none⟩), .pointer (some ⟨w.heap.size + 1, 0, none⟩), .pointer (some ⟨w.heap.size + 2, 0, none⟩), .pointer (some ⟨w.heap.size + 4, 0, none⟩), .string x.2, undef, .map (some (w.heap.size + 3)), .string s, .func (.func 162) #[] #[.pointer (some ⟨w.heap.size + 6, 0, none⟩), .pointer (some ⟨w.heap.size + 5, 0, none⟩), .pointer (some ⟨w.heap.size + 7, 0, none⟩)], .string x.2, undef, undef, undef, undef, undef, undef, undef, undef, undef, undef, undef, undef, undef, undef, undef, undef, undef, undef, undef], defers := [] })
    ?ok (fun x V V' h => h.2.2 _ (by omega) (by omega)) (fun x V V' h => h.2.2 _ (by omega) (by omega)) ?assign ?body
    (fun V => ∃ L, runP cstep (pcs s.size s) [] = (L, 0) ∧ CInv w L V ∧ V.heap[W.heap.size]? = some (.deferred (some [])))
    (fun V => ∃ L c, c ≠ 0 ∧ runP cstep (pcs s.size s) [] = (L, c) ∧ LInv w c V ∧ V.heap[W.heap.size]? = some (.deferred (some []))) ?iter ?done ?stop
  case assign =>
    intro x V K hK
    gi_wp2
    exact hK
  case ok =>
    rintro x V o ⟨h1, h2⟩
    exact ⟨h1.kept ((Kpt.refl _ _ _).putObj (Or.inr (by omega)) o), h2⟩
  case body =>
    rintro ⟨L, r⟩ V ⟨hC, hLl, hr⟩ hlt
    simp only at hC hLl hr ⊢
    have cb := bare_at r V (by omega)
    obtain ⟨Z, hZ⟩ : ∃ Z, cstep L r = Z := ⟨_, rfl⟩
    rw [hZ]
    unfold cstep at hZ
    have hbs := bareB_size r
    generalize bareB r = b at cb hZ hbs
    clear hb0 hb1 hb2 hb3 hb4 hb5 hb6 hb7 hsz hlt hu
    gi_wp2_with fail
    refine ⟨trivial, (CallsIn.inRound _ (callsIn_wide.2 cb)).mono ?_⟩
    rintro e V1 ⟨rfl, q1⟩
    have hC1 := hC.stay q1
    have HF1 : Hid (Fr w.heap.size V V1) := Fr.stay hC.s q1
    clear hC q1 cb
    have e0 := hC1.r0.cell 0 rfl
    have g0 := hC1.r0.frozen 0
    by_cases hz : b.size = 0
    · rw [if_pos hz] at hZ
      have HZ : Hid ((L, (7 : Int)) = Z) := hZ
      clear hZ
      obtain rfl : b = ⟨#[]⟩ := by
        cases b with
        | mk d => congr 1; exact Array.eq_empty_of_size_eq_zero hz
      have hk5 := hC1.r1.other (q := ⟨w.heap.size, 0, none⟩) (by show w.heap.size + 1 ≠ w.heap.size; omega) (.slice none 0 0)
      have e1 := hk5.cell 0 rfl
      have g1 := hk5.frozen 0
      have hl1 : LInv w 7 ((V1.setCell ⟨w.heap.size, 0, none⟩ (.slice none 0 0)).setCell ⟨w.heap.size + 1, 0, none⟩ (.int .i64 7)) :=
        ⟨(hC1.up.setCell (Nat.le_refl _) _).setCell (by show _ ≤ w.heap.size + 1; omega) _, (hC1.r0.set 0 _).other (by show w.heap.size ≠ w.heap.size + 1; omega) _, hk5.set 0 _⟩
      have hfr : Fr w.heap.size V ((V1.setCell ⟨w.heap.size, 0, none⟩ (.slice none 0 0)).setCell ⟨w.heap.size + 1, 0, none⟩ (.int .i64 7)) := fun k h1 h2 =>
        (Below.heap_setCell _ _ _ _ (by show k ≠ w.heap.size + 1; omega)).trans ((Below.heap_setCell _ _ _ _ (by show k ≠ w.heap.size; omega)).trans (HF1.out k h1 h2))
      have HE : Hid (LInv w 7 ((V1.setCell ⟨w.heap.size, 0, none⟩ (.slice none 0 0)).setCell ⟨w.heap.size + 1, 0, none⟩ (.int .i64 7)) ∧ Fr w.heap.size V ((V1.setCell ⟨w.heap.size, 0, none⟩ (.slice none 0 0)).setCell ⟨w.heap.size + 1, 0, none⟩ (.int .i64 7))) := ⟨hl1, hfr⟩
      clear hC1 hk5 hl1 hfr hz
      gi_wp2
      show _ ∧ _
      rw [← HZ.out]
      exact ⟨by show (7 : Int) ≠ 0; decide, HE.out⟩
    · rw [if_neg hz] at hZ
      have hne : b.toList.isEmpty = false := by
        cases e : b.toList.isEmpty
        · rfl
        · exfalso
          have h2 := toList_length b
          rw [List.isEmpty_iff.1 e] at h2
          exact hz h2.symm
      have cc := check_at b V1 (by omega) (tabs_up hT hC1.up)
      clear e0 g0
      gi_wp2_with fail
      refine ⟨trivial, (CallsIn.inRound _ (callsIn_wide.2 cc)).mono ?_⟩
      rintro e V2 ⟨rfl, q2⟩
      have hC2 := hC1.stay q2
      have HF2 : Hid (Fr w.heap.size V V2) := fun k h1 h2 => (Fr.stay hC1.s q2 k h1 h2).trans (HF1.out k h1 h2)
      clear hC1 q2 cc HF1
      by_cases hc : chk b = 0
      · rw [if_neg (by simp [hc])] at hZ
        rw [hc]
        have h64 := chk_small hc
        have hfs := fld_size b
        have cf := fold_at b V2 (by omega) (tabs_up hT hC2.up)
        gi_wp2_with fail
        refine ⟨trivial, (CallsIn.inRound _ (callsIn_wide.2 cf)).mono ?_⟩
        rintro e V3 ⟨rfl, q3⟩
        have hC3 := hC2.stay q3
        have HF3 : Hid (Fr w.heap.size V V3) := fun k h1 h2 => (Fr.stay hC2.s q3 k h1 h2).trans (HF2.out k h1 h2)
        clear hC2 q3 cf HF2
        have et := hC3.t.cell 0 rfl
        obtain ⟨m, hm, hbag⟩ := hC3.bag
        by_cases hin : fld b ∈ L
        · rw [if_pos hin] at hZ
          have HZ : Hid ((L, (0 : Int)) = Z) := hZ
          have ca := add_old _ m L (fld b) V3 (by omega) hbag hin
          have HC3 : Hid (CInv w L V3) := hC3
          clear hZ hin hC3 hbag hfs hc
          generalize fld b = f at ca ⊢
          gi_wp2_with fail
          refine ⟨trivial, (CallsIn.inRound _ (callsIn_wide.2 ca)).mono ?_⟩
          rintro e V4 ⟨rfl, q4⟩
          have HE : Hid (CInv w L V4 ∧ Fr w.heap.size V V4) := ⟨HC3.out.stay q4, fun k h1 h2 => (Fr.stay HC3.out.s q4 k h1 h2).trans (HF3.out k h1 h2)⟩
          clear q4 ca HC3 HF3
          gi_wp2
          show _ ∧ _
          rw [← HZ.out]
          exact ⟨rfl, HE.out⟩
        · rw [if_neg hin] at hZ
          have HZ : Hid ((L ++ [fld b], (0 : Int)) = Z) := hZ
          have ca := add_new _ m L (fld b) V3 (by omega) (by omega) hbag hin
          have HC3 : Hid (CInv w L V3) := hC3
          clear hZ hin hC3 hbag hfs hc
          generalize fld b = f at ca HZ ⊢
          gi_wp2_with fail
          refine ⟨trivial, (CallsIn.inRound _ (callsIn_wide.2 ca)).mono ?_⟩
          rintro e V4 ⟨rfl, hbag4, hk4⟩
          obtain ⟨v, hv, ho⟩ := HC3.out.l
          have hs4 := HC3.out.s
          have hs44 := hk4.size
          have hv4 := hv.kept hk4 hv.lt (by omega)
          have HO : Hid (V4.ownsRow (w.heap.size + 10) 9 1 v L.length (L.map Value.string)) := own_block ho (fun k h1 h2 => hk4.block k h2 (by omega))
          have HX : Hid (Below w.heap.size w V4 ∧ Bk V4 w.heap.size #[.slice none 0 0] 28 ∧ Bk V4 (w.heap.size + 1) #[.int .i64 0] 23 ∧ Bk V4 (w.heap.size + 4) #[.map (some (w.heap.size + 3))] 63 ∧ Bag V4 (w.heap.size + 3) (m + 1) (f :: L) ∧ Fr w.heap.size V V4 ∧ Bk V4 (w.heap.size + 2) #[v] 28) :=
            ⟨HC3.out.up.trans (hk4.below HC3.out.up.size (fun k hk => by omega)), HC3.out.r0.kept hk4 HC3.out.r0.lt (by omega), HC3.out.r1.kept hk4 HC3.out.r1.lt (by omega), HC3.out.t.kept hk4 HC3.out.t.lt (by omega), hbag4, fun k h1 h2 => (hk4.block k (by omega) (by omega)).trans (HF3.out k h1 h2), hv4⟩
          have ev := hv4.cell 0 rfl
          have HS4 : Hid (w.heap.size + 10 ≤ V4.heap.size) := Nat.le_trans hs4 hs44
          obtain ⟨i0, hi, hz0, hz1, hz2⟩ := info_parts Lns.info9
          clear ca hbag4 hk4 HC3 HF3 hv ho hv4 hs4 hs44 et
          gi_wp2_with (gi_at_builtin; refine wpListIn_append_own _ rfl _ _ 28 rfl (w.heap.size + 10) 9 i0 _ 1 16 Tryz.underlying28 hi hz0 hz1 hz2 rfl (by decide) _ _ _ rfl (HO.out.alloc _) ⟨V4.heap.size, 0, none⟩ 1 1 [.string f] rfl rfl (Lns.one_new _ _ _) (Lns.one_one _ rfl) (by unfold maxLen; omega) (by omega) (by have := HS4.out; simp only [World.size_alloc]; omega) ?_)
          intro v' V5 hown5 hgr hnil
          obtain ⟨ad5, cp5, rfl⟩ := own_form hown5
          have hs4 := HS4.out
          have hlo := HO.out.lt
          have hbk : ∀ k, k < w.heap.size + 10 → V5.heap[k]? = V4.heap[k]? := fun k hk =>
            (hgr.block k (by simp; omega) (fun e => by have := (hlo k e.symm).1; omega)).trans (((Below.refl V4.heap.size V4).alloc (Nat.le_refl _) _).block k (by omega))
          obtain ⟨x1, x2, x3, x4, x5, x6, x7⟩ := HX.out
          have hv5 : Bk V5 (w.heap.size + 2) #[v] 28 := (hbk _ (by omega)).trans x7
          have ev5 := hv5.cell 0 rfl
          have gv5 := hv5.frozen 0
          have hs5 := hgr.size
          simp only [World.size_alloc] at hs5
          have hb5 : Below w.heap.size w V5 := ⟨hgr.os.trans x1.os, hgr.tape.trans x1.tape, hgr.output.trans x1.output, by omega, fun k hk => (hbk k (by omega)).trans (x1.block k hk)⟩
          have hbg5 : Bag V5 (w.heap.size + 3) (m + 1) (f :: L) := x5.block (hbk _ (by omega))
          have hE : CInv w (L ++ [f]) (V5.setCell ⟨w.heap.size + 2, 0, none⟩ (.slice ad5 (L.length + 1) cp5)) := by
            refine ⟨hb5.setCell (by show _ ≤ w.heap.size + 2; omega) _, Bk.other ((hbk _ (by omega)).trans x2) (by show w.heap.size ≠ w.heap.size + 2; omega) _, Bk.other ((hbk _ (by omega)).trans x3) (by show w.heap.size + 1 ≠ w.heap.size + 2; omega) _, Bk.other ((hbk _ (by omega)).trans x4) (by show w.heap.size + 4 ≠ w.heap.size + 2; omega) _,
              ⟨m + 1, by simp; omega, (hbg5.block (Below.heap_setCell V5 _ _ _ (by show w.heap.size + 3 ≠ w.heap.size + 2; omega))).same (fun s => by simp [or_comm])⟩, ⟨_, hv5.set 0 _, ?_⟩, by simp [World.setCell]; omega⟩
            have ho := own_block (w' := V5.setCell ⟨w.heap.size + 2, 0, none⟩ (.slice ad5 (L.length + 1) cp5)) hown5 (fun k hk _ => Below.heap_setCell V5 _ _ _ (by show k ≠ w.heap.size + 2; omega))
            simpa using ho
          have HE : Hid (CInv w (L ++ [f]) (V5.setCell ⟨w.heap.size + 2, 0, none⟩ (.slice ad5 (L.length + 1) cp5)) ∧ Fr w.heap.size V (V5.setCell ⟨w.heap.size + 2, 0, none⟩ (.slice ad5 (L.length + 1) cp5))) :=
            ⟨hE, fun k h1 h2 => (Below.heap_setCell V5 _ _ _ (by show k ≠ w.heap.size + 2; omega)).trans ((hbk k (by omega)).trans (x6 k h1 h2))⟩
          clear hE x1 x2 x3 x4 x5 x6 x7 hb5 hbg5 hv5 hown5 hgr hnil hlo hbk HX HO hs5 hs4 ev
          gi_wp2
          show _ ∧ _
          rw [← HZ.out]
          exact ⟨rfl, HE.out⟩
      · rw [if_pos hc] at hZ
        have HZ : Hid ((L, chk b) = Z) := hZ
        clear hZ
        generalize chk b = z at hc HZ ⊢
        have e0 := hC2.r0.cell 0 rfl
        have g0 := hC2.r0.frozen 0
        have hk5 := hC2.r1.other (q := ⟨w.heap.size, 0, none⟩) (by show w.heap.size + 1 ≠ w.heap.size; omega) (.slice none 0 0)
        have e1 := hk5.cell 0 rfl
        have g1 := hk5.frozen 0
        have hl1 : LInv w z ((V2.setCell ⟨w.heap.size, 0, none⟩ (.slice none 0 0)).setCell ⟨w.heap.size + 1, 0, none⟩ (.int .i64 z)) :=
          ⟨(hC2.up.setCell (Nat.le_refl _) _).setCell (by show _ ≤ w.heap.size + 1; omega) _, (hC2.r0.set 0 _).other (by show w.heap.size ≠ w.heap.size + 1; omega) _, hk5.set 0 _⟩
        have hfr : Fr w.heap.size V ((V2.setCell ⟨w.heap.size, 0, none⟩ (.slice none 0 0)).setCell ⟨w.heap.size + 1, 0, none⟩ (.int .i64 z)) := fun k h1 h2 =>
          (Below.heap_setCell _ _ _ _ (by show k ≠ w.heap.size + 1; omega)).trans ((Below.heap_setCell _ _ _ _ (by show k ≠ w.heap.size; omega)).trans (HF2.out k h1 h2))
        have HE : Hid (LInv w z ((V2.setCell ⟨w.heap.size, 0, none⟩ (.slice none 0 0)).setCell ⟨w.heap.size + 1, 0, none⟩ (.int .i64 z)) ∧ Fr w.heap.size V ((V2.setCell ⟨w.heap.size, 0, none⟩ (.slice none 0 0)).setCell ⟨w.heap.size + 1, 0, none⟩ (.int .i64 z))) := ⟨hl1, hfr⟩
        clear hC2 hk5 hl1 hfr
        gi_wp2
        show _ ∧ _
        rw [← HZ.out]
        exact ⟨hc, HE.out⟩
  case iter =>
    intro W1 rec busy don hB hs1 hD hR hY
    have hC : CInv w [] W1 := ⟨hu.1.trans (hB.mono (by omega)), hb0.stay hB, hb1.stay hB, hb4.stay hB, ⟨0, Nat.le_refl _, hb3.stay hB⟩, ⟨_, hb2.stay hB, World.ownsRow_nil _ _ _ _⟩, by omega⟩
    refine callsIn_wide.2 ((split_iter (W.heap.size + 1) 9 (w.heap.size + 6) (w.heap.size + 5) (w.heap.size + 7) (by omega) (by omega)
      (fun k L V => CInv w L V ∧ L.length ≤ k ∧ V.heap[W.heap.size + 1]? = some rec ∧ V.heap[W.heap.size]? = some (.deferred (some [])))
      (fun L c V => LInv w c V ∧ V.heap[W.heap.size + 1]? = some don ∧ V.heap[W.heap.size]? = some (.deferred (some []))) cstep [] s s.size hs (Nat.le_refl _) W1 ?_ ?_ (hb6.stay hB) (hb5.stay hB) (hb7.stay hB) ⟨hC, Nat.le_refl _, hR, hD⟩).mono ?_)
    · rintro k L V v ⟨h1, h2, h3, h4⟩
      exact ⟨h1.kept ((Kpt.refl _ _ _).setCell (q := ⟨w.heap.size + 5, 0, none⟩) (Or.inr ⟨Nat.le_refl _, by show w.heap.size + 5 < _; omega⟩) v), h2, (Below.heap_setCell V _ _ _ (by show _ ≠ w.heap.size + 5; omega)).trans h3, (Below.heap_setCell V _ _ _ (by show _ ≠ w.heap.size + 5; omega)).trans h4⟩
    · rintro k L r V hk hr ⟨h1, h2, h3, h4⟩
      have hlt := lt_of_heap h3
      refine (hY (L, r) V ⟨h1, by show L.length ≤ 5000; omega, hr⟩ h3).mono ?_
      rintro e V' (⟨rfl, V3, ⟨g1, g2, g3⟩, rfl⟩ | ⟨rfl, V3, ⟨g1, g2, g3⟩, rfl⟩)
      · have hl3 := g2.s
        refine Or.inl ⟨rfl, g1, ⟨g2.kept ((Kpt.refl _ _ _).putObj (Or.inr (by omega)) rec), Nat.le_trans (cstep_len L r) (by omega), World.putObj_heap_same (by omega), ?_⟩, fun j hj => ?_⟩
        · exact (World.putObj_heap_other (by omega)).trans ((g3 _ (by omega) (by omega)).trans ((World.putObj_heap_other (by omega)).trans h4))
        · exact (World.putObj_heap_other (by omega)).trans ((g3 _ (by omega) (by omega)).trans (World.putObj_heap_other (by omega)))
      · have hl3 : W.heap.size + 1 < V3.heap.size := by
          have h8 := g3 (W.heap.size + 1) (by omega) (by omega)
          rw [World.putObj_heap_same hlt] at h8
          exact lt_of_heap h8
        refine Or.inr ⟨rfl, g1, ⟨?_, g2.2.1.put (by omega), g2.2.2.put (by omega)⟩, World.putObj_heap_same hl3, ?_⟩
        · exact ((Kpt.of (p := fun _ => False) g2.1).putObj (Or.inl (by omega)) don).below (Nat.le_refl _) (fun k h => h.elim)
        · exact (World.putObj_heap_other (by omega)).trans ((g3 _ (by omega) (by omega)).trans ((World.putObj_heap_other (by omega)).trans h4))
    · rintro e V ⟨hv, (⟨k, L, h1, h2, h3, h4, h5⟩ | ⟨L, c, h1, h2, h3, h4, h5⟩)⟩
      · exact ⟨hv, Or.inl ⟨h4, L, h1, h2, h5⟩⟩
      · exact ⟨hv, Or.inr ⟨h4, L, c, h1, h2, h3, h5⟩⟩
  case done =>
    rintro V o hlt ⟨L, hrun, hC, hd⟩
    obtain ⟨v, hv, ho⟩ := hC.l
    obtain ⟨ad, cp, rfl⟩ := own_form ho
    have k0 := hC.r0.put (o := o) (show w.heap.size ≠ W.heap.size + 1 by omega)
    have k1 := hC.r1.put (o := o) (show w.heap.size + 1 ≠ W.heap.size + 1 by omega)
    have k2 := hv.put (o := o) (show w.heap.size + 2 ≠ W.heap.size + 1 by omega)
    have hx := hC.s
    have hkp : Kpt V.heap.size (fun k => k = w.heap.size ∨ k = w.heap.size + 1 ∨ k = W.heap.size + 1) V (((V.putObj (W.heap.size + 1) o).setCell ⟨w.heap.size, 0, none⟩ (.slice ad L.length cp)).setCell ⟨w.heap.size + 1, 0, none⟩ (.int .i64 0)) :=
      (((Kpt.refl _ _ _).putObj (Or.inr (by omega)) o).setCell (q := ⟨w.heap.size, 0, none⟩) (Or.inr (Or.inl rfl)) _).setCell (q := ⟨w.heap.size + 1, 0, none⟩) (Or.inr (Or.inr (Or.inl rfl))) _
    have k3 := ((k0.set 0 (.slice ad L.length cp)).other (q := ⟨w.heap.size + 1, 0, none⟩) (by show w.heap.size ≠ w.heap.size + 1; omega) (.int .i64 0))
    have k4 := ((k1.other (q := ⟨w.heap.size, 0, none⟩) (by show w.heap.size + 1 ≠ w.heap.size; omega) (.slice ad L.length cp)).set 0 (.int .i64 0))
    have k5 := k1.other (q := ⟨w.heap.size, 0, none⟩) (by show w.heap.size + 1 ≠ w.heap.size; omega) (.slice ad L.length cp)
    have e0 := k0.cell 0 rfl
    have f0 := k0.frozen 0
    have e1 := k5.cell 0 rfl
    have f1 := k5.frozen 0
    have e2 := k2.cell 0 rfl
    have hD := (hkp.block W.heap.size (by omega) (by omega)).trans hd
    have hkq : Kpt V.heap.size (fun k => k = w.heap.size ∨ k = w.heap.size + 1 ∨ k = W.heap.size + 1 ∨ k = W.heap.size) V ((((V.putObj (W.heap.size + 1) o).setCell ⟨w.heap.size, 0, none⟩ (.slice ad L.length cp)).setCell ⟨w.heap.size + 1, 0, none⟩ (.int .i64 0)).putObj W.heap.size (.deferred none)) :=
      (hkp.wide (fun k h => by omega)).putObj (Or.inr (by omega)) _
    have k6 := (k3.put (o := .deferred none) (show w.heap.size ≠ W.heap.size by omega)).cell 0 rfl
    have k7 := (k4.put (o := .deferred none) (show w.heap.size + 1 ≠ W.heap.size by omega)).cell 0 rfl
    have hfin : Below w.heap.size w ((((V.putObj (W.heap.size + 1) o).setCell ⟨w.heap.size, 0, none⟩ (.slice ad L.length cp)).setCell ⟨w.heap.size + 1, 0, none⟩ (.int .i64 0)).putObj W.heap.size (.deferred none)) := hC.up.trans (hkq.below hC.up.size (fun k h => by omega))
    have how : ((((V.putObj (W.heap.size + 1) o).setCell ⟨w.heap.size, 0, none⟩ (.slice ad L.length cp)).setCell ⟨w.heap.size + 1, 0, none⟩ (.int .i64 0)).putObj W.heap.size (.deferred none)).ownsRow w.heap.size 9 1 (.slice ad L.length cp) L.length (L.map Value.string) := Lns.own_mono (own_block ho (fun k h1 h2 => hkq.block k h2 (by omega))) (by omega)
    clear k0 k1 k2 k3 k4 k5 hkp hkq hv ho hb0 hb1 hb2 hb3 hb4 hb5 hb6 hb7
    have HSZ : Hid (W.heap.size = w.heap.size + 8) := hsz
    clear hsz
    gi_wp2
    refine ⟨by simp, .inl ⟨_, _, rfl, run_takeDeferred hD, ?_⟩⟩
    refine ⟨.tuple #[.slice ad L.length cp, .int .i64 0], ?_, L, 0, .slice ad L.length cp, hrun, rfl, hfin, Or.inl ⟨rfl, how⟩⟩
    simp at k6 k7
    simp [results, Tryz.results67, go_sem, k6, k7]
  case stop =>
    rintro V o hlt ⟨L, c, hc, hrun, hC, hd⟩
    have hD : (V.putObj (W.heap.size + 1) o).heap[W.heap.size]? = some (.deferred (some [])) := (World.putObj_heap_other (by omega)).trans hd
    have k6 := ((hC.2.1.put (o := o) (show w.heap.size ≠ W.heap.size + 1 by omega)).put (o := .deferred none) (show w.heap.size ≠ W.heap.size by omega)).cell 0 rfl
    have k7 := ((hC.2.2.put (o := o) (show w.heap.size + 1 ≠ W.heap.size + 1 by omega)).put (o := .deferred none) (show w.heap.size + 1 ≠ W.heap.size by omega)).cell 0 rfl
    have hfin : Below w.heap.size w ((V.putObj (W.heap.size + 1) o).putObj W.heap.size (.deferred none)) := (((Kpt.of (p := fun _ => False) hC.1).putObj (Or.inl (by omega)) o).putObj (Or.inl (by omega)) _).below (Nat.le_refl _) (fun k h => h.elim)
    gi_wp2
    refine ⟨by simp, .inl ⟨_, _, rfl, run_takeDeferred hD, ?_⟩⟩
    refine ⟨.tuple #[.slice none 0 0, .int .i64 c], ?_, L, c, .slice none 0 0, hrun, rfl, hfin, Or.inr ⟨hc, rfl⟩⟩
    simp at k6 k7
    simp [results, Tryz.results67, go_sem, k6, k7]
end Go.Proofs.YthdjadkdjljciaaGreatDoor
