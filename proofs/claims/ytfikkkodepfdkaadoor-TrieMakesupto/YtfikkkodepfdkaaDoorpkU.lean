/- trie.Words. -/
import Derived.Deep.LoopGhost
import Derived.Deep.CutBlock
import Derived.Deep.DeepCutAuto
import Derived.Test.YtfikkkodepfdkaaDoorpkT
import Derived.Test.YtfikkkodepfdkaaDoorpkE
namespace Go.Proofs.YtfikkkodepfdkaaDoor
set_option linter.unusedVariables false
open Go.RowKit Go.ChangeShapes
attribute [local go_sem] Oper.semAt_some
/-- What stands ahead of each round of Words. -/
def WI (w0 : World) (Tb K : Nat) (B D : List (List Int)) (g : Nat) (a : Act) (w : World) : Prop := ∃ (T : List Pt) (O : List (List Int)) (vS vl : Value) (ms : List Nat) (u1 u5 u6 u7 u8 u9 u10 u11 u12 u13 u14 u15 u16 u17 u18 u19 u20 u21 u22 u23 u24 u25 u26 u27 u28 u29 u30 u31 u32 u33 u34 u35 u36 u37 u38 u39 u40 u41 u42 u43 u44 u45 u46 u47 u48 u49 u50 u51 u52 u53 u54 u55 : Value),
  a = { tmps := #[.pointer (some ⟨Tb, 0, none⟩), u1, .slice none 0 0, vl, .pointer (some ⟨K, 0, none⟩), u5, u6, u7, u8, u9, u10, u11, u12, u13, u14, u15, u16, u17, u18, u19, u20, u21, u22, u23, u24, u25, u26, u27, u28, u29, u30, u31, u32, u33, u34, u35, u36, u37, u38, u39, u40, u41, u42, u43, u44, u45, u46, u47, u48, u49, u50, u51, u52, u53, u54, u55], defers := ms.map mk } ∧ g = (T.map fun x => onP B x.p).sum ∧ WS w0 w K vS T ∧ OS w w0.heap.size vl (O.map tx) ∧ O ++ (T.flatMap fun x => subW D x.p) = D ∧ g ≤ 300000 ∧ (∀ x ∈ T, B[x.i]? = some x.p) ∧ ms.Nodup ∧ (∀ r ∈ ms, w.heap[r]? = some (.deferred (some [])) ∧ w0.heap.size ≤ r)
set_option maxHeartbeats 4000000 in
set_option maxRecDepth 100000 in
theorem wordsT_any {w0 : World} {base Tb m0 : Nat} {vN : Value} {l : List Nd} {L : List ByteArray} (h : TrieM w0 base Tb m0 vN l) (hl : l.map Nd.p = (makeP L).2) (hok : OkP (makeP L).2) (h3 : (makeP L).2.length ≤ 300000) (hz : (makeP L).1 = 0) (hLl : L.length ≤ 5000) :
    Calls Tryd.prog 14 #[.pointer (some ⟨Tb, 0, none⟩)] w0 fun e w' => ∃ v, e = .returned v ∧ OS w' w0.heap.size v L ∧ Below w0.heap.size w0 w' := by
  obtain ⟨hgd, hD⟩ := makeP_good hz
  obtain ⟨B, hNP⟩ := NP.of hz hgd
  have HTM : Hid (TrieM w0 base Tb m0 vN l) := h
  have HPL : Hid (l.map Nd.p = (makeP L).2) := hl
  have HNP : Hid (NP L (makeP L).2 B) := hNP
  have HD : Hid ((L.map rs).Pairwise (· < ·)) := hD
  have HGD : Hid (∀ s ∈ L, GoodX s) := hgd
  have hll : l.length ≤ 300000 := by rw [← hl, List.length_map] at h3; exact h3
  have HOK : Hid (OkP (makeP L).2) := hok
  have HBL : Hid (onP B [] ≤ 300000) := by
    show _ ≤ _
    have h4 : onP B [] ≤ B.length := List.countP_le_length
    have h5 := hNP.inv.len
    omega
  clear h hl hok h3 hz hgd hD hNP
  obtain ⟨w1, hw1⟩ : ∃ w1, (w0.alloc (.cells #[.int .i64 0, .slice none 0 0] 67)).alloc (.cells #[.slice (some ⟨w0.heap.size, 0, none⟩) 1 1] 68) = w1 := ⟨_, rfl⟩
  have HW1E : Hid ((w0.alloc (.cells #[.int .i64 0, .slice none 0 0] 67)).alloc (.cells #[.slice (some ⟨w0.heap.size, 0, none⟩) 1 1] 68) = w1) := hw1
  have HWS1 : Hid (WS w0 w1 (w0.heap.size + 1) (.slice (some ⟨w0.heap.size, 0, none⟩) 1 1) [⟨0, .slice none 0 0, []⟩]) := by
    have hb0 : w1.heap[w0.heap.size]? = some (.cells #[.int .i64 0, .slice none 0 0] 67 (0, 0)) := by
      rw [← hw1]
      exact (heap_alloc_old _ _ (by simp)).trans (Array.getElem?_push_size)
    have hb1 : w1.heap[w0.heap.size + 1]? = some (.cells #[.slice (some ⟨w0.heap.size, 0, none⟩) 1 1] 68 (0, 0)) := by
      rw [← hw1]
      have := heap_alloc_new (w0.alloc (.cells #[.int .i64 0, .slice none 0 0] 67)) (.cells #[.slice (some ⟨w0.heap.size, 0, none⟩) 1 1] 68)
      simpa using this
    refine ⟨by rw [← hw1]; exact ((Up.refl w0).alloc _).alloc _, by omega, hb1, ?_, fun x hx => ?_⟩
    · exact ⟨rfl, Or.inr ⟨w0.heap.size, 1, _, rfl, Nat.le_refl _, hb0, Nat.le_refl _, by unfold maxLen; omega, rfl, rfl⟩⟩
    · simp at hx
      subst hx
      exact World.ownsRow_nil _ _ _ _
  clear hw1
  refine (callsIn_wide (n := 9)).1 ?_
  refine callsIn_of_wp_marks Tryd.func14 rfl trivial ?_ rfl
  simp only [Tryd.ntmps14, List.size_toArray, List.length_cons, List.length_nil, Nat.reduceAdd, Nat.reduceSub, Array.replicate_succ, Array.replicate_zero, List.push_toArray, List.append_toArray, List.nil_append, List.cons_append]
  refine wpIn_wide.2 ?_
  go_wp2
  rw [HW1E.out]
  refine wp_loop_ghost (WI w0 Tb (w0.heap.size + 1) B (L.map rs)) (onP B []) ?_ ?_
  · refine ⟨[⟨0, .slice none 0 0, []⟩], [], _, _, [], _, _, _, _, _, _, _, _, _, _, _, _, _, _, _, _, _, _, _, _, _, _, _, _, _, _, _, _, _, _, _, _, _, _, _, _, _, _, _, _, _, _, _, _, _, _, _, _, _, _, _, _, rfl, by simp, HWS1.out, World.ownsRow_nil _ _ _ _, by simp [subW_nil], HBL.out, fun x hx => ?_, List.nodup_nil, fun r hr => by cases hr⟩
    simp at hx
    subst hx
    exact HNP.out.inv.b0
  · rintro g a w ⟨T, O, vS, vl, ms, u1, u5, u6, u7, u8, u9, u10, u11, u12, u13, u14, u15, u16, u17, u18, u19, u20, u21, u22, u23, u24, u25, u26, u27, u28, u29, u30, u31, u32, u33, u34, u35, u36, u37, u38, u39, u40, u41, u42, u43, u44, u45, u46, u47, u48, u49, u50, u51, u52, u53, u54, u55, rfl, hg, hWS, hO, hOT, hgl, hB, hms, hmd⟩
    obtain ⟨K, hK⟩ : ∃ K, w0.heap.size + 1 = K := ⟨_, rfl⟩
    rw [hK] at hWS ⊢
    have HWS : Hid (WS w0 w K vS T) := hWS
    have HO : Hid (OS w w0.heap.size vl (O.map tx)) := hO
    have HOT : Hid (O ++ (T.flatMap fun x => subW (L.map rs) x.p) = L.map rs) := hOT
    have HB : Hid (∀ x ∈ T, B[x.i]? = some x.p) := hB
    have HMS : Hid (ms.Nodup ∧ ∀ r ∈ ms, w.heap[r]? = some (.deferred (some [])) ∧ w0.heap.size ≤ r) := ⟨hms, hmd⟩
    have HG : Hid (g = (T.map fun x => onP B x.p).sum) := hg
    have hkc := hWS.cell.1
    have hkf := hWS.cell.2
    obtain ⟨ds, hds⟩ : ∃ ds, ms.map mk = ds := ⟨_, rfl⟩
    rw [hds]
    have HDS : Hid (ms.map mk = ds) := hds
    clear hg hO hOT hB hms hmd hds
    cases T with
    | nil =>
      obtain ⟨aS, cS, rfl⟩ : ∃ a c, vS = .slice a 0 c := own_slice hWS.row
      obtain ⟨al, cl, el⟩ : ∃ a c, vl = .slice a (O.map tx).length c := own_slice HO.out
      have hOD : O = L.map rs := by simpa using HOT.out
      have hOL : O.map tx = L := by
        rw [hOD, List.map_map]
        have : ∀ s ∈ L, (tx ∘ rs) s = s := fun s hs => rs_back (HGD.out s hs).2.2.1
        rw [List.map_congr_left this]
        simp
      have HO2 : Hid (OS w w0.heap.size vl L) := by
        show OS _ _ _ _
        rw [← hOL]
        exact HO.out
      have HUw : Hid (Up w0.heap.size w0 w) := hWS.up
      have EL : Hid (vl = .slice al (O.map tx).length cl) := el
      clear hWS hOD hOL el
      go_wp2
      show LeavesInM _ _ _ _ _ _ _ _ _
      rw [← HDS.out]
      refine leaves_marks (fun w' => OS w' w0.heap.size vl L ∧ Below w0.heap.size w0 w') (fun r => w0.heap.size ≤ r) ?_ ?_ ms w HMS.out.1 HMS.out.2 ⟨HO2.out, HUw.out.1⟩
      · rintro w' r hr ⟨h1, h2⟩ hd
        have hother : ∀ k, k ≠ r → (w'.putObj r (.deferred none)).heap[k]? = w'.heap[k]? := fun k hk => World.putObj_heap_other hk
        refine ⟨own_of_blocks h1 (fun k hk => hother k (fun e => ?_)), ⟨h2.os, h2.tape, h2.output, by rw [World.putObj_size]; exact h2.size, fun k hk => by rw [hother k (by omega)]; exact h2.block k hk⟩⟩
        subst e
        obtain ⟨_, ⟨e0, _⟩ | ⟨g', cap, cur, e1, _, hh, _⟩⟩ := h1
        · rw [e0] at hk; cases hk
        · rw [e1] at hk
          obtain rfl : g' = k := Option.some.inj hk
          rw [hh] at hd
          cases hd
      · rintro w' ⟨h1, h2⟩
        refine ⟨vl, ?_, vl, rfl, h1, h2⟩
        have e2 := EL.out
        simp [results, Tryd.results14, go_sem]
    | cons x T =>
      obtain ⟨gS, capS, rfl, hcapS, hgK, hp0, hp1, hA⟩ := WA.first HWS.out HO.out HMS.out.2
      obtain ⟨xi, xv, xp⟩ := x
      dsimp only at hp0 hp1 hA
      have hBx := HB.out ⟨xi, xv, xp⟩ (List.mem_cons_self ..)
      dsimp only at hBx
      obtain ⟨nd, hnd⟩ := HNP.out.inv.node hBx
      obtain ⟨⟨nr, nk, pn⟩, hln, rfl⟩ : ∃ n : Nd, l[xi]? = some n ∧ n.p = nd := by
        have : (l.map Nd.p)[xi]? = some nd := by rw [HPL.out]; exact hnd
        rw [List.getElem?_map] at this
        cases hx : l[xi]? with
        | none => rw [hx] at this; cases this
        | some n => rw [hx] at this; exact ⟨n, rfl, by simpa using this⟩
      dsimp only at hnd
      have hbeg := hWS.beg ⟨xi, xv, xp⟩ (List.mem_cons_self ..)
      dsimp only at hbeg
      have hxp := (HNP.out.ok hBx).2
      obtain ⟨ax, cx, rfl⟩ := own_slice hbeg
      obtain ⟨ar, cr, er⟩ := own_slice (HTM.out.rr xi _ hln)
      obtain ⟨ak, ck, ek⟩ := own_slice (HTM.out.kk xi _ hln)
      dsimp only at er ek
      subst er ek
      have hTl : T.length ≤ 300000 := by
        have h1 : ∀ U : List Pt, (∀ x ∈ U, B[x.i]? = some x.p) → U.length ≤ (U.map fun x => onP B x.p).sum := fun U => by
          induction U with
          | nil => intro _; simp
          | cons y U ih =>
            intro hU
            have h2 := ih (fun x hx => hU x (List.mem_cons_of_mem _ hx))
            have h3 : 0 < onP B y.p := List.countP_pos_iff.2 ⟨y.p, List.mem_of_getElem? (hU y (List.mem_cons_self ..)), by simp⟩
            simp only [List.length_cons, List.map_cons, List.sum_cons]
            omega
        have h4 := h1 _ HB.out
        rw [← HG.out] at h4
        simp only [List.length_cons] at h4
        omega
      obtain ⟨nT, hnT⟩ : ∃ q, T.length = q := ⟨_, rfl⟩
      rw [hnT] at hcapS hp0 hp1 hA hkc hTl
      have HNT : Hid (T.length = nT) := hnT
      obtain ⟨wa, hwa⟩ : ∃ wa, (w.setCell ⟨K, 0, none⟩ (.slice (some ⟨gS, 0, none⟩) nT capS)).alloc (.cells #[.int .i64 (xi : Int), .slice ax xp.length cx] 67) = wa := ⟨_, rfl⟩
      have HWA : Hid ((w.setCell ⟨K, 0, none⟩ (.slice (some ⟨gS, 0, none⟩) nT capS)).alloc (.cells #[.int .i64 (xi : Int), .slice ax xp.length cx] 67) = wa) := hwa
      rw [hwa] at hA
      have z1 : ((nT + 1 : Nat) : Int) - 1 = (nT : Int) := by omega
      have z2 : (nT : Int) < ((nT + 1 : Nat) : Int) := by omega
      have z3 : (0 : Int) ≤ (nT : Int) := by omega
      have z4 : (0 : Int) < ((nT + 1 : Nat) : Int) := by omega
      have z5 : (nT : Int) ≤ (capS : Int) := by omega
      have z6 : wrap64 (nT : Int) = (nT : Int) := by unfold wrap64; omega
      have hKw := World.block_lt_of_cell? w _ hkc
      have hgw := World.block_lt_of_cell? w _ hp0
      have HA : Hid (WA w0 wa K (.slice (some ⟨gS, 0, none⟩) nT capS) T vl O ⟨xi, .slice ax xp.length cx, xp⟩ ms [(w.heap.size, #[.int .i64 (xi : Int), .slice ax xp.length cx], 67)]) := hA
      have HLN : Hid (l[xi]? = some ⟨.slice ar pn.R.length cr, .slice ak pn.K.length ck, pn⟩) := hln
      have HBX : Hid (B[xi]? = some xp) := hBx
      have HND : Hid ((makeP L).2[xi]? = some pn) := hnd
      obtain ⟨P5, hP5⟩ : ∃ q, w.heap.size = q := ⟨_, rfl⟩
      have HP5 : Hid (w.heap.size = P5) := hP5
      clear hWS hbeg hln hBx hnd hA hnT hwa hP5
      have CN : Hid (Calls Tryd.prog 29 #[.pointer (some ⟨Tb, 0, none⟩), .int .i64 (xi : Int)] wa fun e w' => e = .returned (.agg #[.slice ar pn.R.length cr, .slice ak pn.K.length ck, .bool pn.e]) ∧ Below wa.heap.size wa w') := node_any (HTM.out.stay HA.out.ws.up.1) HLN.out (by omega)
      obtain ⟨be, hbe⟩ : ∃ b, pn.e = b := ⟨_, rfl⟩
      have HBE : Hid (pn.e = be) := hbe
      rw [hbe] at CN
      clear hbe
      have HOL : Hid (O.length ≤ 5000) := by
        show _ ≤ _
        have h5 := congrArg List.length HOT.out
        simp only [List.length_append, List.length_map] at h5
        omega
      have HWD : Hid (subW (L.map rs) xp = (if pn.e = true then [xp] else []) ++ pn.R.flatMap fun r => subW (L.map rs) (xp ++ [r])) := HNP.out.words HD.out HBX.out HND.out
      cases be
      case' false =>
        go_wp2_with (first | (rw [HWA.out]; refine CN.out.mono ?_; rintro e w3 ⟨rfl, hb3⟩; have hq5 := (HA.out.stay hb3).at (List.mem_cons_self ..) 1 _ rfl; have hl5 := World.block_lt_of_cell? w3 _ hq5; have HA3 : Hid (WA w0 (w3.alloc (.cells #[.slice ar pn.R.length cr, .slice ak pn.K.length ck, .bool false] 70)) K (.slice (some ⟨gS, 0, none⟩) nT capS) T vl O ⟨xi, .slice ax xp.length cx, xp⟩ ms [(w3.heap.size, #[.slice ar pn.R.length cr, .slice ak pn.K.length ck, .bool false], 70), (w.heap.size, #[.int .i64 (xi : Int), .slice ax xp.length cx], 67)]) := (HA.out.stay hb3).lay _ _ (by decide) (by decide)) | fail)
        have HOX : Hid (O ++ ((pn.R.flatMap fun r => subW (L.map rs) (xp ++ [r])) ++ T.flatMap fun x => subW (L.map rs) x.p) = L.map rs) := by
          show _ = _
          have h5 := HOT.out
          rw [List.flatMap_cons, HWD.out, HBE.out] at h5
          simpa using h5
        obtain ⟨w6, hwx⟩ : ∃ q, w3.alloc (.cells #[.slice ar pn.R.length cr, .slice ak pn.K.length ck, .bool false] 70) = q := ⟨_, rfl⟩
        rw [hwx] at HA3 ⊢
        clear hwx hq5 hl5 hb3
        obtain ⟨P6, hP6⟩ : ∃ q, w3.heap.size = q := ⟨_, rfl⟩
        rw [hP6] at HA3 ⊢
        clear hP6
        obtain ⟨v', hv'⟩ : ∃ q, vl = q := ⟨_, rfl⟩
        rw [hv'] at HA3 ⊢
        clear hv'
        obtain ⟨O', hO'⟩ : ∃ q, O = q := ⟨_, rfl⟩
        rw [hO'] at HA3 HOX
        clear hO'
        obtain ⟨b6, hb6⟩ : ∃ q, Value.bool false = q := ⟨_, rfl⟩
        rw [hb6] at HA3
        clear hb6
      case' true =>
        obtain ⟨i9, hi9, hz90, hz91, hz92⟩ := info_parts info9
        go_wp2_with (first | (rw [HWA.out]; refine CN.out.mono ?_; rintro e w3 ⟨rfl, hb3⟩; have hq5 := (HA.out.stay hb3).at (List.mem_cons_self ..) 1 _ rfl; have hl5 := World.block_lt_of_cell? w3 _ hq5; have HA3 : Hid (WA w0 (w3.alloc (.cells #[.slice ar pn.R.length cr, .slice ak pn.K.length ck, .bool true] 70)) K (.slice (some ⟨gS, 0, none⟩) nT capS) T vl O ⟨xi, .slice ax xp.length cx, xp⟩ ms [(w3.heap.size, #[.slice ar pn.R.length cr, .slice ak pn.K.length ck, .bool true], 70), (w.heap.size, #[.int .i64 (xi : Int), .slice ax xp.length cx], 67)]) := (HA.out.stay hb3).lay _ _ (by decide) (by decide)) | fail)
        obtain ⟨wy, hwy⟩ : ∃ q, w3.alloc (.cells #[.slice ar pn.R.length cr, .slice ak pn.K.length ck, .bool true] 70) = q := ⟨_, rfl⟩
        rw [hwy] at HA3 ⊢
        clear hwy hq5 hl5 hb3
        obtain ⟨P6, hP6⟩ : ∃ q, w3.heap.size = q := ⟨_, rfl⟩
        rw [hP6] at HA3 ⊢
        clear hP6
        refine (tx_own xp HA3.out.beg (by omega)).mono ?_
        rintro e w5 ⟨rfl, hb5⟩
        have HA5 : Hid (WA w0 (w5.alloc (.cells #[.string (tx xp)] 9)) K (.slice (some ⟨gS, 0, none⟩) nT capS) T vl O ⟨xi, .slice ax xp.length cx, xp⟩ ms [(P6, #[.slice ar pn.R.length cr, .slice ak pn.K.length ck, .bool true], 70), (w.heap.size, #[.int .i64 (xi : Int), .slice ax xp.length cx], 67)]) := (HA3.out.stay hb5).stay ((Below.refl _ _).alloc (Nat.le_refl _) _)
        have hOl : O.length ≤ 5000 := HOL.out
        clear hb5
        go_wp2_with (at_builtin; refine wpList_append_own _ rfl _ _ 22 rfl w0.heap.size 9 i9 _ 1 16 Tryd.underlying22 hi9 hz90 hz91 hz92 rfl (by decide) vl (O.map tx).length ((O.map tx).map Value.string) rfl HA5.out.out ⟨w5.heap.size, 0, none⟩ 1 1 [.string (tx xp)] rfl rfl (fun j u hu => World.news_of_block (Array.getElem?_push_size (xs := w5.heap) (x := .cells #[.string (tx xp)] 9)) j u hu) (one_one _ rfl) (by rw [List.length_map]; unfold maxLen; omega) (by rw [List.length_map]; omega) HA5.out.ws.up.2 ?_; intro v' w6 hown hg _; have HA6 : Hid (WA w0 w6 K (.slice (some ⟨gS, 0, none⟩) nT capS) T v' (O ++ [xp]) ⟨xi, .slice ax xp.length cx, xp⟩ ms [(P6, #[.slice ar pn.R.length cr, .slice ak pn.K.length ck, .bool true], 70), (w.heap.size, #[.int .i64 (xi : Int), .slice ax xp.length cx], 67)]) := HA5.out.grown (by show OS _ _ _ _; unfold OS; rw [List.map_append, List.length_append, List.map_append]; exact hown) hg; have hq6 := HA6.out.at (List.mem_cons_self ..) 0 _ rfl; clear hown hg)
        have HOX : Hid ((O ++ [xp]) ++ ((pn.R.flatMap fun r => subW (L.map rs) (xp ++ [r])) ++ T.flatMap fun x => subW (L.map rs) x.p) = L.map rs) := by
          show _ = _
          have h5 := HOT.out
          rw [List.flatMap_cons, HWD.out, HBE.out] at h5
          simpa using h5
        clear hq6 HA3 HA5 hOl
        have HA3 := HA6
        clear HA6
        obtain ⟨O', hO'⟩ : ∃ q, O ++ [xp] = q := ⟨_, rfl⟩
        rw [hO'] at HA3 HOX
        clear hO'
        obtain ⟨b6, hb6⟩ : ∃ q, Value.bool true = q := ⟨_, rfl⟩
        rw [hb6] at HA3
        clear hb6
      case true =>
        clear HO HOT HWS HBE HOL HWD CN HA HWA hkc hp0 hp1 hkf hcapS z1 z2 z3 z4 z5 z6 hgw hKw
        refine (back_any ar pn.R.length cr w6).mono ?_
        rintro e w7 ⟨rfl, rfl⟩
        have HA7 : Hid (WA w0 (w6.alloc (.cells #[.slice ar pn.R.length cr] 37)) K (.slice (some ⟨gS, 0, none⟩) nT capS) T v' O' ⟨xi, .slice ax xp.length cx, xp⟩ ms [(w6.heap.size, #[.slice ar pn.R.length cr], 37), (P6, #[.slice ar pn.R.length cr, .slice ak pn.K.length ck, b6], 70), (w.heap.size, #[.int .i64 (xi : Int), .slice ax xp.length cx], 67)]) := HA3.out.lay _ _ (by decide) (by decide)
        clear HA3
        obtain ⟨wR, hwR⟩ : ∃ q, w6.alloc (.cells #[.slice ar pn.R.length cr] 37) = q := ⟨_, rfl⟩
        obtain ⟨bx, hbx⟩ : ∃ q, w6.heap.size = q := ⟨_, rfl⟩
        rw [hwR] at HA7 ⊢
        rw [hbx] at HA7 ⊢
        clear hwR hbx
        go_wp2_with fail
        have hw0R : w0.heap.size ≤ wR.heap.size := HA7.out.ws.up.2
        have hRl : pn.R.length ≤ 300000 := by
          have h5 := HOK.out pn (List.mem_of_getElem? HND.out)
          have h6 := congrArg List.length HPL.out
          rw [List.length_map] at h6
          omega
        refine wpIn_wide.1 (range_gen (n := 9) (α := Nat × Int) (gf := 49) (lb := #[.pointer (some ⟨bx, 0, none⟩)]) rfl enterBk (fun x => #[.int .i64 ((pn.R.length - 1 - x.1 : Nat) : Int), .int .i32 x.2]) (fun _ => rfl)
          (fun x V => x.1 < pn.R.length ∧ pn.R[pn.R.length - 1 - x.1]? = some x.2 ∧ WStep w0 wR K (.slice (some ⟨gS, 0, none⟩) nT capS) T B xp pn.R (x.1) V)
          (fun x V V' => WStep w0 wR K (.slice (some ⟨gS, 0, none⟩) nT capS) T B xp pn.R (x.1 + 1) V' ∧ V'.heap[wR.heap.size + 1]? = V.heap[wR.heap.size + 1]?)
          (fun x V V' => False)
          (fun x => { tmps := #[.pointer (some ⟨Tb, 0, none⟩), u1, .slice none 0 0, v', .pointer (some ⟨K, 0, none⟩), .pointer (some ⟨w.heap.size, 0, none⟩), .pointer (some ⟨P6, 0, none⟩), .int .i64 ((pn.R.length - 1 - x.1 : Nat) : Int), .int .i32 x.2, u9, u10, .slice (some ⟨gS, 0, none⟩) (nT + 1) capS, .int .i64 ((nT : Int) + 1), .bool true, .slice (some ⟨gS, 0, none⟩) (nT + 1) capS, .slice (some ⟨gS, 0, none⟩) (nT + 1) capS, .int .i64 ((nT : Int) + 1), .int .i64 (nT : Int), .pointer (some ⟨gS, nT * 2, none⟩), .agg #[.int .i64 (xi : Int), .slice ax xp.length cx], .slice (some ⟨gS, 0, none⟩) (nT + 1) capS, .slice (some ⟨gS, 0, none⟩) (nT + 1) capS, .int .i64 ((nT : Int) + 1), .int .i64 (nT : Int), .slice (some ⟨gS, 0, none⟩) nT capS, .pointer (some ⟨Tb, 0, none⟩), .pointer (some ⟨w.heap.size, 0, none⟩), .int .i64 (xi : Int), .agg #[.slice ar pn.R.length cr, .slice ak pn.K.length ck, .bool true], .pointer (some ⟨P6, 2, none⟩), .bool true, vl, .pointer (some ⟨w.heap.size, 1, none⟩), .slice ax xp.length cx, .string (tx xp), .slice (some ⟨w5.heap.size, 0, none⟩) 1 1, v', .pointer (some ⟨P6, 0, none⟩), .slice ar pn.R.length cr, .func (.func 49) #[] #[.pointer (some ⟨bx, 0, none⟩)], .int .i64 ((pn.R.length - 1 - x.1 : Nat) : Int), .int .i32 x.2, u42, u43, u44, u45, u46, u47, u48, u49, u50, u51, u52, u53, u54, u55], defers := [] })
          (fun x V o h => ⟨h.1, h.2.1, h.2.2.put hw0R o⟩) (fun x V V' h => h.2) (fun x V V' h => h.elim) ?assign ?body (fun V => WStep w0 wR K (.slice (some ⟨gS, 0, none⟩) nT capS) T B xp pn.R (pn.R.length) V) (fun V => False) ?iter ?done (fun V o _ h => h.elim))
        case assign =>
          intro x V Kq hKq
          gi_wp2
          exact hKq
        case body =>
          rintro ⟨k, r⟩ V ⟨hk, hr, hS⟩ hlt
          dsimp only at hk hr hS ⊢
          obtain ⟨j, hj⟩ : ∃ j, pn.R.length - 1 - k = j := ⟨_, rfl⟩
          rw [hj] at hr ⊢
          obtain ⟨c, hcK, hcB, -⟩ := HNP.out.kid HBX.out HND.out hr
          obtain ⟨U, vS, hPS, hU, hUB⟩ := hS
          have hUl := WStep.len hU (Nat.le_of_lt hk)
          have hkk := (HTM.out.stay hPS.ws.up.1).kk xi _ HLN.out
          dsimp only at hkk
          have hkk0 := HTM.out.kk xi _ HLN.out
          dsimp only at hkk0
          have hjl : j < pn.K.length := (List.getElem?_eq_some_iff.1 hcK).1
          obtain ⟨gk, rfl⟩ : ∃ gk, ak = some ⟨gk, 0, none⟩ := by
            obtain ⟨gk, cap, e, _⟩ := hkk.form (by omega)
            injection e with e1 _ _
            exact ⟨gk, e1⟩
          have hgk0 : gk < w0.heap.size := (hkk0.lt gk rfl).2
          have hgkw := HA7.out.ws.bK
          
          have hck : V.cell? ⟨gk, j, none⟩ = some (.int .i64 (c : Int)) := by
            rw [hkk.cellAt j (by omega), List.getElem?_map, hcK]
            rfl
          have hAV := HA7.out.ps hPS
          have hq6 := hAV.at (List.mem_cons_of_mem _ (List.mem_cons_self ..)) 1 _ rfl
          have hq5 := hAV.at (List.mem_cons_of_mem _ (List.mem_cons_of_mem _ (List.mem_cons_self ..))) 1 _ rfl
          have HFAR : Hid (∀ X Y, PS w0 wR X K (.slice (some ⟨gS, 0, none⟩) nT capS) vS (U ++ T) → X.grownBy Y vS.ownBlock → SV P6 gk j w.heap.size (.slice (some ⟨gk, 0, none⟩) pn.K.length ck) (.int .i64 (c : Int)) (.slice ax xp.length cx) X → SV P6 gk j w.heap.size (.slice (some ⟨gk, 0, none⟩) pn.K.length ck) (.int .i64 (c : Int)) (.slice ax xp.length cx) Y) := fun X Y hp hg hs => by
            have hX := HA7.out.ps hp
            refine hs.keep fun q hq => hg.block q ?_ (fun e => ?_)
            · rcases hq with rfl | rfl | rfl
              · exact World.block_lt_of_cell? X _ hs.1
              · exact World.block_lt_of_cell? X _ hs.2.1
              · exact World.block_lt_of_cell? X _ hs.2.2
            · rcases hq with rfl | rfl | rfl
              · exact (hX.exs _ (List.mem_cons_of_mem _ (List.mem_cons_self ..))).2.2.2.1 e.symm
              · have := own_base hp.ws.row _ e.symm
                omega
              · exact (hX.exs _ (List.mem_cons_of_mem _ (List.mem_cons_of_mem _ (List.mem_cons_self ..)))).2.2.2.1 e.symm
          have HSET : Hid (∀ (Y : World) (v : Value), SV P6 gk j w.heap.size (.slice (some ⟨gk, 0, none⟩) pn.K.length ck) (.int .i64 (c : Int)) (.slice ax xp.length cx) Y → SV P6 gk j w.heap.size (.slice (some ⟨gk, 0, none⟩) pn.K.length ck) (.int .i64 (c : Int)) (.slice ax xp.length cx) (Y.setCell ⟨K, 0, none⟩ v)) := fun Y v hs => by
            refine hs.keep fun q hq => heap_setCell_other Y ⟨K, 0, none⟩ q v (fun e => ?_)
            dsimp only at e
            rcases hq with rfl | rfl | rfl
            · exact (HA7.out.exs _ (List.mem_cons_of_mem _ (List.mem_cons_self ..))).2.2.1 e
            · omega
            · exact (HA7.out.exs _ (List.mem_cons_of_mem _ (List.mem_cons_of_mem _ (List.mem_cons_self ..)))).2.2.1 e
          have z1 : (j : Int) < (pn.K.length : Int) := by omega
          have z2 : (0 : Int) ≤ (j : Int) := by omega
          have HU : Hid (U.map Pt.p = (pn.R.drop (pn.R.length - k)).map (fun r => xp ++ [r]) ∧ ∀ u ∈ U, B[u.i]? = some u.p) := ⟨hU, hUB⟩
          have HJ : Hid (k < pn.R.length ∧ pn.R.length - 1 - k = j ∧ pn.R[j]? = some r ∧ B[c]? = some (xp ++ [r])) := ⟨hk, hj, hr, hcB⟩
          have HP : Hid (PS w0 wR V.drew K (.slice (some ⟨gS, 0, none⟩) nT capS) vS (U ++ T)) := hPS.drew
          have HR : Hid (V.drew.heap[wR.heap.size + 1]? = V.heap[wR.heap.size + 1]?) := rfl
          have hUT : (U ++ T).length ≤ 600000 := by
            have := HNT.out
            rw [List.length_append]
            omega
          obtain ⟨nU, hnU⟩ : ∃ q, (U ++ T).length = q := ⟨_, rfl⟩
          rw [hnU] at hUT
          have HNU : Hid ((U ++ T).length = nU) := hnU
          clear hnU
          obtain ⟨ip, hip, hpz0, hpz1, hpz2⟩ := info_parts infoPt
          have hS0 : SV P6 gk j w.heap.size (.slice (some ⟨gk, 0, none⟩) pn.K.length ck) (.int .i64 (c : Int)) (.slice ax xp.length cx) V.drew := ⟨hq6, hck, hq5⟩
          clear hkk hkk0 hck hq6 hq5 hAV hPS hU hUB hr hcK hcB hj hk hlt hUl
          refine wpIn_block ?_
          refine region_in (S := SV P6 gk j w.heap.size (.slice (some ⟨gk, 0, none⟩) pn.K.length ck) (.int .i64 (c : Int)) (.slice ax xp.length cx)) (by kernel_rfl) (by kernel_rfl) (fun ⟨_, _, h⟩ => h) hS0 (fun hHeld => ?_)
          clear hS0
          obtain ⟨x0, hx0⟩ : ∃ x0, V.drew = x0 := ⟨_, rfl⟩
          rw [hx0] at HP HR hHeld ⊢
          clear hx0
          refine takeH (i := 1) (v := ?_) (d := (some 43)) rfl (by kernel_rfl) (by kernel_rfl) (by kernel_rfl) rfl (fun _ _ _ h => h) (Or.inl ⟨by kernel_rfl, ?_⟩) (by first | assumption | trivial) ?_; rotate_left
          · (intro w' hSw; (try dsimp only at hSw); obtain ⟨hs1, hs2, hs3⟩ := hSw; first | (go_simp; done) | (go_simp; with_reducible rfl))
          (try simp only [Act.put, List.setIfInBounds_toArray, List.set_cons_zero, List.set_cons_succ])
          refine takeH (i := 2) (v := ?_) (d := (some 44)) rfl (by kernel_rfl) (by kernel_rfl) (by kernel_rfl) rfl (fun _ _ _ h => h) (Or.inl ⟨by kernel_rfl, ?_⟩) (by first | assumption | trivial) ?_; rotate_left
          · (intro w' hSw; (try dsimp only at hSw); obtain ⟨hs1, hs2, hs3⟩ := hSw; first | (go_simp; done) | (go_simp; with_reducible rfl))
          (try simp only [Act.put, List.setIfInBounds_toArray, List.set_cons_zero, List.set_cons_succ])
          refine takeH (i := 3) (v := ?_) (d := (some 45)) rfl (by kernel_rfl) (by kernel_rfl) (by kernel_rfl) rfl (fun _ _ _ h => h) (Or.inl ⟨by kernel_rfl, ?_⟩) (by first | assumption | trivial) ?_; rotate_left
          · (intro w' hSw; (try dsimp only at hSw); obtain ⟨hs1, hs2, hs3⟩ := hSw; first | (go_simp; done) | (go_simp; with_reducible rfl))
          (try simp only [Act.put, List.setIfInBounds_toArray, List.set_cons_zero, List.set_cons_succ])
          refine takeH (i := 4) (v := ?_) (d := (some 46)) rfl (by kernel_rfl) (by kernel_rfl) (by kernel_rfl) rfl (fun _ _ _ h => h) (Or.inl ⟨by kernel_rfl, ?_⟩) (by first | assumption | trivial) ?_; rotate_left
          · (intro w' hSw; (try dsimp only at hSw); obtain ⟨hs1, hs2, hs3⟩ := hSw; first | (go_simp; done) | (go_simp; with_reducible rfl))
          (try simp only [Act.put, List.setIfInBounds_toArray, List.set_cons_zero, List.set_cons_succ])
          refine takeH (i := 5) (v := ?_) (d := (some 47)) rfl (by kernel_rfl) (by kernel_rfl) (by kernel_rfl) rfl (fun _ _ _ h => h) (Or.inl ⟨by kernel_rfl, ?_⟩) (by first | assumption | trivial) ?_; rotate_left
          · (intro w' hSw; (try dsimp only at hSw); obtain ⟨hs1, hs2, hs3⟩ := hSw; first | (go_simp; done) | (go_simp; with_reducible rfl))
          (try simp only [Act.put, List.setIfInBounds_toArray, List.set_cons_zero, List.set_cons_succ])
          refine takeH (i := 6) (v := ?_) (d := (some 48)) rfl (by kernel_rfl) (by kernel_rfl) (by kernel_rfl) rfl (fun _ _ _ h => h) (Or.inl ⟨by kernel_rfl, ?_⟩) (by first | assumption | trivial) ?_; rotate_left
          · (intro w' hSw; (try dsimp only at hSw); obtain ⟨hs1, hs2, hs3⟩ := hSw; first | (go_simp; done) | (go_simp; with_reducible rfl))
          (try simp only [Act.put, List.setIfInBounds_toArray, List.set_cons_zero, List.set_cons_succ])
          refine takeH (i := 7) (v := ?_) (d := (some 49)) rfl (by kernel_rfl) (by kernel_rfl) (by kernel_rfl) rfl (fun _ _ _ h => h) (Or.inl ⟨by kernel_rfl, ?_⟩) (by first | assumption | trivial) ?_; rotate_left
          · (intro w' hSw; (try dsimp only at hSw); obtain ⟨hs1, hs2, hs3⟩ := hSw; first | (go_simp; done) | (go_simp; with_reducible rfl))
          (try simp only [Act.put, List.setIfInBounds_toArray, List.set_cons_zero, List.set_cons_succ])
          refine takeH (i := 8) (v := ?_) (d := (some 50)) rfl (by kernel_rfl) (by kernel_rfl) (by kernel_rfl) rfl (fun _ _ _ h => h) (Or.inl ⟨by kernel_rfl, ?_⟩) (by first | assumption | trivial) ?_; rotate_left
          · (intro w' hSw; (try dsimp only at hSw); obtain ⟨hs1, hs2, hs3⟩ := hSw; first | (go_simp; done) | (go_simp; with_reducible rfl))
          (try simp only [Act.put, List.setIfInBounds_toArray, List.set_cons_zero, List.set_cons_succ])
          refine wpAnyH_ready (rs := [0, 9]) (by kernel_rfl) (by simp) (AllReadyH.cons rfl (fun Kq hK => ?_) (AllReadyH.cons rfl (fun Kq hK => ?_) AllReadyH.nil))
          · rw [if_pos (by kernel_rfl)]
            have hkc := HP.out.ws.cell.1
            go_simp
            clear hkc
            refine hK.out _ _ hHeld (fun hHeld' => ?_)
            clear hK Kq hHeld
            have hHeld := hHeld'
            clear hHeld'
            (try dsimp only at hHeld)
            (try simp only [Act.put, List.setIfInBounds_toArray, List.set_cons_zero, List.set_cons_succ])
            refine wpAnyH_ready (rs := [9]) (by kernel_rfl) (by simp) (AllReadyH.cons rfl (fun Kq hK => ?_) AllReadyH.nil)
            rw [if_pos (by kernel_rfl)]
            go_simp
            refine (longer_any xp (HA7.out.ps HP.out).beg (by omega) r).mono ?_
            rintro e x1 ⟨vv, rfl, hov, huv⟩
            obtain ⟨av, cv, rfl⟩ : ∃ a c, vv = .slice a (xp.length + 1) c := by simpa using own_slice hov
            have HV : Hid (x1.ownsRow w0.heap.size 21 1 (.slice av (xp.length + 1) cv) (xp ++ [r]).length ((xp ++ [r]).map i32c) ∧ ∀ g, (Value.slice av (xp.length + 1) cv).ownBlock = some g → wR.heap.size + 2 ≤ g) := ⟨own_mono hov HP.out.ws.up.2, fun g hg => Nat.le_trans HP.out.size (own_base hov g hg)⟩
            have HR' : Hid (x1.heap[wR.heap.size + 1]? = V.heap[wR.heap.size + 1]?) := (huv.1.block _ (by have := HP.out.size; omega)).trans HR.out
            clear HR
            have HR := HR'
            clear HR'
            have HP' : Hid (PS w0 wR x1 K (.slice (some ⟨gS, 0, none⟩) nT capS) vS (U ++ T)) := HP.out.stay huv.1
            clear HP
            have HP := HP'
            clear HP'
            (try go_wp2_with fail)
            refine hK.out _ _ (hHeld.stay huv.1) (fun hHeld' => ?_)
            clear hK Kq hHeld
            have hHeld := hHeld'
            clear hHeld'
            (try dsimp only at hHeld)
            (try simp only [Act.put, List.setIfInBounds_toArray, List.set_cons_zero, List.set_cons_succ])
            clear hov huv
            refine takeH (i := 10) (v := ?_) (d := (some 52)) rfl (by kernel_rfl) (by kernel_rfl) (by kernel_rfl) rfl (fun _ _ _ h => h) (Or.inl ⟨by kernel_rfl, ?_⟩) (by first | assumption | trivial) ?_; rotate_left
            · (intro w' hSw; (try dsimp only at hSw); obtain ⟨hs1, hs2, hs3⟩ := hSw; first | (go_simp; done) | (go_simp; with_reducible rfl))
            (try simp only [Act.put, List.setIfInBounds_toArray, List.set_cons_zero, List.set_cons_succ])
            refine wpAnyH_ready (rs := [11]) (by kernel_rfl) (by simp) (AllReadyH.cons rfl (fun Kq hK => ?_) AllReadyH.nil)
            rw [if_pos (by kernel_rfl)]
            go_simp
            have HR' : Hid ((x1.alloc (.cells #[.int .i64 (c : Int), .slice av (xp.length + 1) cv] 67)).heap[wR.heap.size + 1]? = V.heap[wR.heap.size + 1]?) := (((Below.refl _ _).alloc (Nat.le_refl _) _ : Below x1.heap.size x1 _).block _ (by have := HP.out.size; omega)).trans HR.out
            clear HR
            have HR := HR'
            clear HR'
            have HP' : Hid (PS w0 wR (x1.alloc (.cells #[.int .i64 (c : Int), .slice av (xp.length + 1) cv] 67)) K (.slice (some ⟨gS, 0, none⟩) nT capS) vS (U ++ T)) := HP.out.stay ((Below.refl _ _).alloc (Nat.le_refl _) _)
            clear HP
            have HP := HP'
            clear HP'
            have HV' : Hid ((x1.alloc (.cells #[.int .i64 (c : Int), .slice av (xp.length + 1) cv] 67)).ownsRow w0.heap.size 21 1 (.slice av (xp.length + 1) cv) (xp ++ [r]).length ((xp ++ [r]).map i32c) ∧ ∀ g, (Value.slice av (xp.length + 1) cv).ownBlock = some g → wR.heap.size + 2 ≤ g) := ⟨own_stay HV.out.1 ((Below.refl _ _).alloc (Nat.le_refl _) _), HV.out.2⟩
            clear HV
            have HV := HV'
            clear HV'
            have HN : Hid (∀ j' u, [Value.int .i64 (c : Int), .slice av (xp.length + 1) cv][j']? = some u → (x1.alloc (.cells #[.int .i64 (c : Int), .slice av (xp.length + 1) cv] 67)).cell? ((⟨x1.heap.size, 0, none⟩ : Addr).add j') = some u) := fun j' u hu => World.news_of_block (Array.getElem?_push_size (xs := x1.heap) (x := .cells #[.int .i64 (c : Int), .slice av (xp.length + 1) cv] 67)) j' u hu
            refine hK.out _ _ (hHeld.stay ((Below.refl _ _).alloc (Nat.le_refl _) _)) (fun hHeld' => ?_)
            clear hK Kq hHeld
            have hHeld := hHeld'
            clear hHeld'
            (try dsimp only at hHeld)
            (try simp only [Act.put, List.setIfInBounds_toArray, List.set_cons_zero, List.set_cons_succ])
            obtain ⟨x2, hx2⟩ : ∃ q, x1.alloc (.cells #[.int .i64 (c : Int), .slice av (xp.length + 1) cv] 67) = q := ⟨_, rfl⟩
            rw [hx2] at HP HV HN HR hHeld ⊢
            clear hx2
            refine wpAnyH_ready (rs := [12]) (by kernel_rfl) (by simp) (AllReadyH.cons rfl (fun Kq hK => ?_) AllReadyH.nil)
            rw [if_pos (by kernel_rfl)]
            refine wp_append_lies x2 (.tmp 42) (.tmp 53) 68 rfl w0.heap.size 67 ip _ 2 32 Tryd.underlying68 hip hpz0 hpz1 hpz2 rfl (by decide) vS nU (ptC (U ++ T).reverse) rfl (HNU.out ▸ HP.out.ws.row) ⟨x1.heap.size, 0, none⟩ 1 1 [.int .i64 (c : Int), .slice av (xp.length + 1) cv] rfl rfl HN.out (pt_one _ _ rfl rfl) (by decide) (by unfold maxLen; omega) (by omega) HP.out.ws.up.2 _ rfl ?_
            intro gn capn x3 hown hgrow hgg hgl'
            change Kq (Act.put _ (some 54) _) _
            have HM : Hid (WStep w0 wR K (.slice (some ⟨gS, 0, none⟩) nT capS) T B xp pn.R (k + 1) (x3.setCell ⟨K, 0, none⟩ (.slice (some ⟨gn, 0, none⟩) (nU + 1) capn)) ∧ (x3.setCell ⟨K, 0, none⟩ (.slice (some ⟨gn, 0, none⟩) (nU + 1) capn)).heap[wR.heap.size + 1]? = x2.heap[wR.heap.size + 1]?) := WStep.more HP.out HU.out.1 HU.out.2 HJ.out.1 HJ.out.2.1 HJ.out.2.2.1 HJ.out.2.2.2 (by rw [HNU.out]) HV.out.1 HV.out.2 hown hgrow (hgg.imp id (fun e => Nat.le_of_eq e.symm))
            obtain ⟨hkc', hkf'⟩ : x3.cell? ⟨K, 0, none⟩ = some vS ∧ x3.frozen? ⟨K, 0, none⟩ = false := by
              have hvK : some K ≠ vS.ownBlock := fun e => own_blk HP.out.ws.row HP.out.ws.box (by decide) e.symm
              exact ⟨(hgrow.cell_far ⟨K, 0, none⟩ (lt_of_heap HP.out.ws.box) hvK).trans HP.out.ws.cell.1, (hgrow.frozen_far ⟨K, 0, none⟩ (lt_of_heap HP.out.ws.box) hvK).trans HP.out.ws.cell.2⟩
            have hS2 : SV P6 gk j w.heap.size (.slice (some ⟨gk, 0, none⟩) pn.K.length ck) (.int .i64 (c : Int)) (.slice ax xp.length cx) x3 := HFAR.out _ _ HP.out hgrow hHeld
            refine hK.out _ _ hS2 (fun hHeld' => ?_)
            clear hK Kq hHeld
            have hHeld := hHeld'
            clear hHeld'
            (try dsimp only at hHeld)
            (try simp only [Act.put, List.setIfInBounds_toArray, List.set_cons_zero, List.set_cons_succ])
            clear hS2 hown hgrow hgg hgl'
            refine wpAnyH_ready (rs := [13]) (by kernel_rfl) (by simp) (AllReadyH.cons rfl (fun Kq hK => ?_) AllReadyH.nil)
            rw [if_pos (by kernel_rfl)]
            go_simp
            refine hK.out _ _ (HSET.out _ _ hHeld) (fun hHeld' => ?_)
            clear hK Kq hHeld
            have hHeld := hHeld'
            clear hHeld'
            (try dsimp only at hHeld)
            (try simp only [Act.put, List.setIfInBounds_toArray, List.set_cons_zero, List.set_cons_succ])
            refine wpAnyH_done (by kernel_rfl) ?_ _
            exact ⟨HM.out.1, HM.out.2.trans HR.out⟩
          · rw [if_pos (by kernel_rfl)]
            go_simp
            refine (longer_any xp (HA7.out.ps HP.out).beg (by omega) r).mono ?_
            rintro e x1 ⟨vv, rfl, hov, huv⟩
            obtain ⟨av, cv, rfl⟩ : ∃ a c, vv = .slice a (xp.length + 1) c := by simpa using own_slice hov
            have HV : Hid (x1.ownsRow w0.heap.size 21 1 (.slice av (xp.length + 1) cv) (xp ++ [r]).length ((xp ++ [r]).map i32c) ∧ ∀ g, (Value.slice av (xp.length + 1) cv).ownBlock = some g → wR.heap.size + 2 ≤ g) := ⟨own_mono hov HP.out.ws.up.2, fun g hg => Nat.le_trans HP.out.size (own_base hov g hg)⟩
            have HR' : Hid (x1.heap[wR.heap.size + 1]? = V.heap[wR.heap.size + 1]?) := (huv.1.block _ (by have := HP.out.size; omega)).trans HR.out
            clear HR
            have HR := HR'
            clear HR'
            have HP' : Hid (PS w0 wR x1 K (.slice (some ⟨gS, 0, none⟩) nT capS) vS (U ++ T)) := HP.out.stay huv.1
            clear HP
            have HP := HP'
            clear HP'
            (try go_wp2_with fail)
            refine hK.out _ _ (hHeld.stay huv.1) (fun hHeld' => ?_)
            clear hK Kq hHeld
            have hHeld := hHeld'
            clear hHeld'
            (try dsimp only at hHeld)
            (try simp only [Act.put, List.setIfInBounds_toArray, List.set_cons_zero, List.set_cons_succ])
            clear hov huv
            refine takeH (i := 10) (v := ?_) (d := (some 52)) rfl (by kernel_rfl) (by kernel_rfl) (by kernel_rfl) rfl (fun _ _ _ h => h) (Or.inl ⟨by kernel_rfl, ?_⟩) (by first | assumption | trivial) ?_; rotate_left
            · (intro w' hSw; (try dsimp only at hSw); obtain ⟨hs1, hs2, hs3⟩ := hSw; first | (go_simp; done) | (go_simp; with_reducible rfl))
            (try simp only [Act.put, List.setIfInBounds_toArray, List.set_cons_zero, List.set_cons_succ])
            refine wpAnyH_ready (rs := [0, 11]) (by kernel_rfl) (by simp) (AllReadyH.cons rfl (fun Kq hK => ?_) (AllReadyH.cons rfl (fun Kq hK => ?_) AllReadyH.nil))
            · rw [if_pos (by kernel_rfl)]
              have hkc := HP.out.ws.cell.1
              go_simp
              clear hkc
              refine hK.out _ _ hHeld (fun hHeld' => ?_)
              clear hK Kq hHeld
              have hHeld := hHeld'
              clear hHeld'
              (try dsimp only at hHeld)
              (try simp only [Act.put, List.setIfInBounds_toArray, List.set_cons_zero, List.set_cons_succ])
              refine wpAnyH_ready (rs := [11]) (by kernel_rfl) (by simp) (AllReadyH.cons rfl (fun Kq hK => ?_) AllReadyH.nil)
              rw [if_pos (by kernel_rfl)]
              go_simp
              have HR' : Hid ((x1.alloc (.cells #[.int .i64 (c : Int), .slice av (xp.length + 1) cv] 67)).heap[wR.heap.size + 1]? = V.heap[wR.heap.size + 1]?) := (((Below.refl _ _).alloc (Nat.le_refl _) _ : Below x1.heap.size x1 _).block _ (by have := HP.out.size; omega)).trans HR.out
              clear HR
              have HR := HR'
              clear HR'
              have HP' : Hid (PS w0 wR (x1.alloc (.cells #[.int .i64 (c : Int), .slice av (xp.length + 1) cv] 67)) K (.slice (some ⟨gS, 0, none⟩) nT capS) vS (U ++ T)) := HP.out.stay ((Below.refl _ _).alloc (Nat.le_refl _) _)
              clear HP
              have HP := HP'
              clear HP'
              have HV' : Hid ((x1.alloc (.cells #[.int .i64 (c : Int), .slice av (xp.length + 1) cv] 67)).ownsRow w0.heap.size 21 1 (.slice av (xp.length + 1) cv) (xp ++ [r]).length ((xp ++ [r]).map i32c) ∧ ∀ g, (Value.slice av (xp.length + 1) cv).ownBlock = some g → wR.heap.size + 2 ≤ g) := ⟨own_stay HV.out.1 ((Below.refl _ _).alloc (Nat.le_refl _) _), HV.out.2⟩
              clear HV
              have HV := HV'
              clear HV'
              have HN : Hid (∀ j' u, [Value.int .i64 (c : Int), .slice av (xp.length + 1) cv][j']? = some u → (x1.alloc (.cells #[.int .i64 (c : Int), .slice av (xp.length + 1) cv] 67)).cell? ((⟨x1.heap.size, 0, none⟩ : Addr).add j') = some u) := fun j' u hu => World.news_of_block (Array.getElem?_push_size (xs := x1.heap) (x := .cells #[.int .i64 (c : Int), .slice av (xp.length + 1) cv] 67)) j' u hu
              refine hK.out _ _ (hHeld.stay ((Below.refl _ _).alloc (Nat.le_refl _) _)) (fun hHeld' => ?_)
              clear hK Kq hHeld
              have hHeld := hHeld'
              clear hHeld'
              (try dsimp only at hHeld)
              (try simp only [Act.put, List.setIfInBounds_toArray, List.set_cons_zero, List.set_cons_succ])
              obtain ⟨x2, hx2⟩ : ∃ q, x1.alloc (.cells #[.int .i64 (c : Int), .slice av (xp.length + 1) cv] 67) = q := ⟨_, rfl⟩
              rw [hx2] at HP HV HN HR hHeld ⊢
              clear hx2
              refine wpAnyH_ready (rs := [12]) (by kernel_rfl) (by simp) (AllReadyH.cons rfl (fun Kq hK => ?_) AllReadyH.nil)
              rw [if_pos (by kernel_rfl)]
              refine wp_append_lies x2 (.tmp 42) (.tmp 53) 68 rfl w0.heap.size 67 ip _ 2 32 Tryd.underlying68 hip hpz0 hpz1 hpz2 rfl (by decide) vS nU (ptC (U ++ T).reverse) rfl (HNU.out ▸ HP.out.ws.row) ⟨x1.heap.size, 0, none⟩ 1 1 [.int .i64 (c : Int), .slice av (xp.length + 1) cv] rfl rfl HN.out (pt_one _ _ rfl rfl) (by decide) (by unfold maxLen; omega) (by omega) HP.out.ws.up.2 _ rfl ?_
              intro gn capn x3 hown hgrow hgg hgl'
              change Kq (Act.put _ (some 54) _) _
              have HM : Hid (WStep w0 wR K (.slice (some ⟨gS, 0, none⟩) nT capS) T B xp pn.R (k + 1) (x3.setCell ⟨K, 0, none⟩ (.slice (some ⟨gn, 0, none⟩) (nU + 1) capn)) ∧ (x3.setCell ⟨K, 0, none⟩ (.slice (some ⟨gn, 0, none⟩) (nU + 1) capn)).heap[wR.heap.size + 1]? = x2.heap[wR.heap.size + 1]?) := WStep.more HP.out HU.out.1 HU.out.2 HJ.out.1 HJ.out.2.1 HJ.out.2.2.1 HJ.out.2.2.2 (by rw [HNU.out]) HV.out.1 HV.out.2 hown hgrow (hgg.imp id (fun e => Nat.le_of_eq e.symm))
              obtain ⟨hkc', hkf'⟩ : x3.cell? ⟨K, 0, none⟩ = some vS ∧ x3.frozen? ⟨K, 0, none⟩ = false := by
                have hvK : some K ≠ vS.ownBlock := fun e => own_blk HP.out.ws.row HP.out.ws.box (by decide) e.symm
                exact ⟨(hgrow.cell_far ⟨K, 0, none⟩ (lt_of_heap HP.out.ws.box) hvK).trans HP.out.ws.cell.1, (hgrow.frozen_far ⟨K, 0, none⟩ (lt_of_heap HP.out.ws.box) hvK).trans HP.out.ws.cell.2⟩
              have hS2 : SV P6 gk j w.heap.size (.slice (some ⟨gk, 0, none⟩) pn.K.length ck) (.int .i64 (c : Int)) (.slice ax xp.length cx) x3 := HFAR.out _ _ HP.out hgrow hHeld
              refine hK.out _ _ hS2 (fun hHeld' => ?_)
              clear hK Kq hHeld
              have hHeld := hHeld'
              clear hHeld'
              (try dsimp only at hHeld)
              (try simp only [Act.put, List.setIfInBounds_toArray, List.set_cons_zero, List.set_cons_succ])
              clear hS2 hown hgrow hgg hgl'
              refine wpAnyH_ready (rs := [13]) (by kernel_rfl) (by simp) (AllReadyH.cons rfl (fun Kq hK => ?_) AllReadyH.nil)
              rw [if_pos (by kernel_rfl)]
              go_simp
              refine hK.out _ _ (HSET.out _ _ hHeld) (fun hHeld' => ?_)
              clear hK Kq hHeld
              have hHeld := hHeld'
              clear hHeld'
              (try dsimp only at hHeld)
              (try simp only [Act.put, List.setIfInBounds_toArray, List.set_cons_zero, List.set_cons_succ])
              refine wpAnyH_done (by kernel_rfl) ?_ _
              exact ⟨HM.out.1, HM.out.2.trans HR.out⟩
            · rw [if_pos (by kernel_rfl)]
              go_simp
              have HR' : Hid ((x1.alloc (.cells #[.int .i64 (c : Int), .slice av (xp.length + 1) cv] 67)).heap[wR.heap.size + 1]? = V.heap[wR.heap.size + 1]?) := (((Below.refl _ _).alloc (Nat.le_refl _) _ : Below x1.heap.size x1 _).block _ (by have := HP.out.size; omega)).trans HR.out
              clear HR
              have HR := HR'
              clear HR'
              have HP' : Hid (PS w0 wR (x1.alloc (.cells #[.int .i64 (c : Int), .slice av (xp.length + 1) cv] 67)) K (.slice (some ⟨gS, 0, none⟩) nT capS) vS (U ++ T)) := HP.out.stay ((Below.refl _ _).alloc (Nat.le_refl _) _)
              clear HP
              have HP := HP'
              clear HP'
              have HV' : Hid ((x1.alloc (.cells #[.int .i64 (c : Int), .slice av (xp.length + 1) cv] 67)).ownsRow w0.heap.size 21 1 (.slice av (xp.length + 1) cv) (xp ++ [r]).length ((xp ++ [r]).map i32c) ∧ ∀ g, (Value.slice av (xp.length + 1) cv).ownBlock = some g → wR.heap.size + 2 ≤ g) := ⟨own_stay HV.out.1 ((Below.refl _ _).alloc (Nat.le_refl _) _), HV.out.2⟩
              clear HV
              have HV := HV'
              clear HV'
              have HN : Hid (∀ j' u, [Value.int .i64 (c : Int), .slice av (xp.length + 1) cv][j']? = some u → (x1.alloc (.cells #[.int .i64 (c : Int), .slice av (xp.length + 1) cv] 67)).cell? ((⟨x1.heap.size, 0, none⟩ : Addr).add j') = some u) := fun j' u hu => World.news_of_block (Array.getElem?_push_size (xs := x1.heap) (x := .cells #[.int .i64 (c : Int), .slice av (xp.length + 1) cv] 67)) j' u hu
              refine hK.out _ _ (hHeld.stay ((Below.refl _ _).alloc (Nat.le_refl _) _)) (fun hHeld' => ?_)
              clear hK Kq hHeld
              have hHeld := hHeld'
              clear hHeld'
              (try dsimp only at hHeld)
              (try simp only [Act.put, List.setIfInBounds_toArray, List.set_cons_zero, List.set_cons_succ])
              obtain ⟨x2, hx2⟩ : ∃ q, x1.alloc (.cells #[.int .i64 (c : Int), .slice av (xp.length + 1) cv] 67) = q := ⟨_, rfl⟩
              rw [hx2] at HP HV HN HR hHeld ⊢
              clear hx2
              refine wpAnyH_ready (rs := [0]) (by kernel_rfl) (by simp) (AllReadyH.cons rfl (fun Kq hK => ?_) AllReadyH.nil)
              rw [if_pos (by kernel_rfl)]
              have hkc := HP.out.ws.cell.1
              go_simp
              clear hkc
              refine hK.out _ _ hHeld (fun hHeld' => ?_)
              clear hK Kq hHeld
              have hHeld := hHeld'
              clear hHeld'
              (try dsimp only at hHeld)
              (try simp only [Act.put, List.setIfInBounds_toArray, List.set_cons_zero, List.set_cons_succ])
              refine wpAnyH_ready (rs := [12]) (by kernel_rfl) (by simp) (AllReadyH.cons rfl (fun Kq hK => ?_) AllReadyH.nil)
              rw [if_pos (by kernel_rfl)]
              refine wp_append_lies x2 (.tmp 42) (.tmp 53) 68 rfl w0.heap.size 67 ip _ 2 32 Tryd.underlying68 hip hpz0 hpz1 hpz2 rfl (by decide) vS nU (ptC (U ++ T).reverse) rfl (HNU.out ▸ HP.out.ws.row) ⟨x1.heap.size, 0, none⟩ 1 1 [.int .i64 (c : Int), .slice av (xp.length + 1) cv] rfl rfl HN.out (pt_one _ _ rfl rfl) (by decide) (by unfold maxLen; omega) (by omega) HP.out.ws.up.2 _ rfl ?_
              intro gn capn x3 hown hgrow hgg hgl'
              change Kq (Act.put _ (some 54) _) _
              have HM : Hid (WStep w0 wR K (.slice (some ⟨gS, 0, none⟩) nT capS) T B xp pn.R (k + 1) (x3.setCell ⟨K, 0, none⟩ (.slice (some ⟨gn, 0, none⟩) (nU + 1) capn)) ∧ (x3.setCell ⟨K, 0, none⟩ (.slice (some ⟨gn, 0, none⟩) (nU + 1) capn)).heap[wR.heap.size + 1]? = x2.heap[wR.heap.size + 1]?) := WStep.more HP.out HU.out.1 HU.out.2 HJ.out.1 HJ.out.2.1 HJ.out.2.2.1 HJ.out.2.2.2 (by rw [HNU.out]) HV.out.1 HV.out.2 hown hgrow (hgg.imp id (fun e => Nat.le_of_eq e.symm))
              obtain ⟨hkc', hkf'⟩ : x3.cell? ⟨K, 0, none⟩ = some vS ∧ x3.frozen? ⟨K, 0, none⟩ = false := by
                have hvK : some K ≠ vS.ownBlock := fun e => own_blk HP.out.ws.row HP.out.ws.box (by decide) e.symm
                exact ⟨(hgrow.cell_far ⟨K, 0, none⟩ (lt_of_heap HP.out.ws.box) hvK).trans HP.out.ws.cell.1, (hgrow.frozen_far ⟨K, 0, none⟩ (lt_of_heap HP.out.ws.box) hvK).trans HP.out.ws.cell.2⟩
              have hS2 : SV P6 gk j w.heap.size (.slice (some ⟨gk, 0, none⟩) pn.K.length ck) (.int .i64 (c : Int)) (.slice ax xp.length cx) x3 := HFAR.out _ _ HP.out hgrow hHeld
              refine hK.out _ _ hS2 (fun hHeld' => ?_)
              clear hK Kq hHeld
              have hHeld := hHeld'
              clear hHeld'
              (try dsimp only at hHeld)
              (try simp only [Act.put, List.setIfInBounds_toArray, List.set_cons_zero, List.set_cons_succ])
              clear hS2 hown hgrow hgg hgl'
              refine wpAnyH_ready (rs := [13]) (by kernel_rfl) (by simp) (AllReadyH.cons rfl (fun Kq hK => ?_) AllReadyH.nil)
              rw [if_pos (by kernel_rfl)]
              go_simp
              refine hK.out _ _ (HSET.out _ _ hHeld) (fun hHeld' => ?_)
              clear hK Kq hHeld
              have hHeld := hHeld'
              clear hHeld'
              (try dsimp only at hHeld)
              (try simp only [Act.put, List.setIfInBounds_toArray, List.set_cons_zero, List.set_cons_succ])
              refine wpAnyH_done (by kernel_rfl) ?_ _
              exact ⟨HM.out.1, HM.out.2.trans HR.out⟩
        case iter =>
          intro W1 rec busy don hB hs1 hD hRc hY
          refine callsIn_wide.2 ((back_iter (wR.heap.size + 1) 9 bx ar cr pn.R (by omega) (fun k V => WStep w0 wR K (.slice (some ⟨gS, 0, none⟩) nT capS) T B xp pn.R (k) V ∧ V.heap[wR.heap.size + 1]? = some rec) W1 ?_ ?_ ⟨WStep.zero B xp pn.R HA7.out.ws hB hs1 hD, hRc⟩).mono ?_)
          · rintro k V ⟨⟨U, vS, hPS, -, -⟩, -⟩
            have hAV := HA7.out.ps hPS
            refine ⟨hAV.at (List.mem_cons_self ..) 0 _ rfl, fun j r hr => ?_⟩
            have hrr := (HTM.out.stay hPS.ws.up.1).rr xi _ HLN.out
            dsimp only at hrr
            have hjl := (List.getElem?_eq_some_iff.1 hr).1
            obtain ⟨gr, cap, e, _⟩ := hrr.form (by omega)
            injection e with e1 _ _
            subst e1
            refine ⟨gr, rfl, ?_⟩
            rw [hrr.cellAt j (by omega), List.getElem?_map, hr]
            rfl
          · rintro k r V hk hr ⟨hS, hrec⟩
            refine (hY (k, r) V ⟨hk, hr, hS⟩ hrec).mono ?_
            rintro e V' (⟨rfl, V3, ⟨h1, h2⟩, rfl⟩ | ⟨rfl, V3, h1, rfl⟩)
            · refine ⟨rfl, h1.put hw0R rec, World.putObj_heap_same ?_⟩
              obtain ⟨U3, vS3, hP3, -, -⟩ := h1
              have := hP3.size
              omega
            · exact h1.elim
          · rintro e W' ⟨hv, hS, hrec⟩
            exact ⟨hv, Or.inl ⟨hrec, hS⟩⟩
        case done =>
          rintro W o hlt ⟨U, vS, hPS, hU, hUB⟩
          have hPo := hPS.put hw0R o
          have hAV := HA7.out.ps hPo
          rw [Nat.sub_self, List.drop_zero] at hU
          have hsum : ((U ++ T).map fun x => onP B x.p).sum < g := by
            have h7 : (U.map fun x => onP B x.p) = pn.R.map fun r => onP B (xp ++ [r]) := by
              have := congrArg (List.map (onP B)) hU
              simpa [List.map_map, Function.comp_def] using this
            have h8 := HNP.out.sum HBX.out HND.out
            have h9 : 0 < onP B xp := List.countP_pos_iff.2 ⟨xp, List.mem_of_getElem? HBX.out, by simp⟩
            have h10 : onP B xp = below B xp + 1 := on_below (HNP.out.nod) (List.mem_of_getElem? HBX.out)
            rw [HG.out, List.map_append, List.sum_append, List.map_cons, List.sum_cons, h7, h8]
            dsimp only
            omega
          refine ⟨((U ++ T).map fun x => onP B x.p).sum, hsum, U ++ T, O', vS, v', wR.heap.size :: ms, u1, .pointer (some ⟨w.heap.size, 0, none⟩), .pointer (some ⟨P6, 0, none⟩), u7, u8, u9, u10, .slice (some ⟨gS, 0, none⟩) (nT + 1) capS, .int .i64 ((nT : Int) + 1), .bool true, .slice (some ⟨gS, 0, none⟩) (nT + 1) capS, .slice (some ⟨gS, 0, none⟩) (nT + 1) capS, .int .i64 ((nT : Int) + 1), .int .i64 (nT : Int), .pointer (some ⟨gS, nT * 2, none⟩), .agg #[.int .i64 (xi : Int), .slice ax xp.length cx], .slice (some ⟨gS, 0, none⟩) (nT + 1) capS, .slice (some ⟨gS, 0, none⟩) (nT + 1) capS, .int .i64 ((nT : Int) + 1), .int .i64 (nT : Int), .slice (some ⟨gS, 0, none⟩) nT capS, .pointer (some ⟨Tb, 0, none⟩), .pointer (some ⟨w.heap.size, 0, none⟩), .int .i64 (xi : Int), .agg #[.slice ar pn.R.length cr, .slice ak pn.K.length ck, .bool true], .pointer (some ⟨P6, 2, none⟩), .bool true, vl, .pointer (some ⟨w.heap.size, 1, none⟩), .slice ax xp.length cx, .string (tx xp), .slice (some ⟨w5.heap.size, 0, none⟩) 1 1, v', .pointer (some ⟨P6, 0, none⟩), .slice ar pn.R.length cr, .func (.func 49) #[] #[.pointer (some ⟨bx, 0, none⟩)], u40, u41, u42, u43, u44, u45, u46, u47, u48, u49, u50, u51, u52, u53, u54, u55, ?_, rfl, hAV.ws, hAV.out, ?_, by omega, fun x hx => ?_, List.nodup_cons.2 ⟨fun hm => ?_, HMS.out.1⟩, fun q hq => ?_⟩
          · rw [List.map_cons, HDS.out]
            rfl
          · have h7 : (U.flatMap fun x => subW (L.map rs) x.p) = pn.R.flatMap fun r => subW (L.map rs) (xp ++ [r]) := by
              have := congrArg (List.flatMap (subW (L.map rs))) hU
              simpa [List.flatMap_map] using this
            rw [List.flatMap_append, h7]
            exact HOX.out
          · rcases List.mem_append.1 hx with hx | hx
            · exact hUB x hx
            · exact HB.out x (List.mem_cons_of_mem _ hx)
          · have := lt_of_heap (HA7.out.mks _ hm).1
            omega
          · rcases List.mem_cons.1 hq with rfl | hq
            · exact ⟨hPo.dfr, hw0R⟩
            · exact hAV.mks q hq
      case false =>
        clear HO HOT HWS HBE HOL HWD CN HA HWA hkc hp0 hp1 hkf hcapS z1 z2 z3 z4 z5 z6 hgw hKw
        refine (back_any ar pn.R.length cr w6).mono ?_
        rintro e w7 ⟨rfl, rfl⟩
        have HA7 : Hid (WA w0 (w6.alloc (.cells #[.slice ar pn.R.length cr] 37)) K (.slice (some ⟨gS, 0, none⟩) nT capS) T v' O' ⟨xi, .slice ax xp.length cx, xp⟩ ms [(w6.heap.size, #[.slice ar pn.R.length cr], 37), (P6, #[.slice ar pn.R.length cr, .slice ak pn.K.length ck, b6], 70), (w.heap.size, #[.int .i64 (xi : Int), .slice ax xp.length cx], 67)]) := HA3.out.lay _ _ (by decide) (by decide)
        clear HA3
        obtain ⟨wR, hwR⟩ : ∃ q, w6.alloc (.cells #[.slice ar pn.R.length cr] 37) = q := ⟨_, rfl⟩
        obtain ⟨bx, hbx⟩ : ∃ q, w6.heap.size = q := ⟨_, rfl⟩
        rw [hwR] at HA7 ⊢
        rw [hbx] at HA7 ⊢
        clear hwR hbx
        go_wp2_with fail
        have hw0R : w0.heap.size ≤ wR.heap.size := HA7.out.ws.up.2
        have hRl : pn.R.length ≤ 300000 := by
          have h5 := HOK.out pn (List.mem_of_getElem? HND.out)
          have h6 := congrArg List.length HPL.out
          rw [List.length_map] at h6
          omega
        refine wpIn_wide.1 (range_gen (n := 9) (α := Nat × Int) (gf := 49) (lb := #[.pointer (some ⟨bx, 0, none⟩)]) rfl enterBk (fun x => #[.int .i64 ((pn.R.length - 1 - x.1 : Nat) : Int), .int .i32 x.2]) (fun _ => rfl)
          (fun x V => x.1 < pn.R.length ∧ pn.R[pn.R.length - 1 - x.1]? = some x.2 ∧ WStep w0 wR K (.slice (some ⟨gS, 0, none⟩) nT capS) T B xp pn.R (x.1) V)
          (fun x V V' => WStep w0 wR K (.slice (some ⟨gS, 0, none⟩) nT capS) T B xp pn.R (x.1 + 1) V' ∧ V'.heap[wR.heap.size + 1]? = V.heap[wR.heap.size + 1]?)
          (fun x V V' => False)
          (fun x => { tmps := #[.pointer (some ⟨Tb, 0, none⟩), u1, .slice none 0 0, v', .pointer (some ⟨K, 0, none⟩), .pointer (some ⟨w.heap.size, 0, none⟩), .pointer (some ⟨P6, 0, none⟩), .int .i64 ((pn.R.length - 1 - x.1 : Nat) : Int), .int .i32 x.2, u9, u10, .slice (some ⟨gS, 0, none⟩) (nT + 1) capS, .int .i64 ((nT : Int) + 1), .bool true, .slice (some ⟨gS, 0, none⟩) (nT + 1) capS, .slice (some ⟨gS, 0, none⟩) (nT + 1) capS, .int .i64 ((nT : Int) + 1), .int .i64 (nT : Int), .pointer (some ⟨gS, nT * 2, none⟩), .agg #[.int .i64 (xi : Int), .slice ax xp.length cx], .slice (some ⟨gS, 0, none⟩) (nT + 1) capS, .slice (some ⟨gS, 0, none⟩) (nT + 1) capS, .int .i64 ((nT : Int) + 1), .int .i64 (nT : Int), .slice (some ⟨gS, 0, none⟩) nT capS, .pointer (some ⟨Tb, 0, none⟩), .pointer (some ⟨w.heap.size, 0, none⟩), .int .i64 (xi : Int), .agg #[.slice ar pn.R.length cr, .slice ak pn.K.length ck, .bool false], .pointer (some ⟨P6, 2, none⟩), .bool false, u31, u32, u33, u34, u35, u36, .pointer (some ⟨P6, 0, none⟩), .slice ar pn.R.length cr, .func (.func 49) #[] #[.pointer (some ⟨bx, 0, none⟩)], .int .i64 ((pn.R.length - 1 - x.1 : Nat) : Int), .int .i32 x.2, u42, u43, u44, u45, u46, u47, u48, u49, u50, u51, u52, u53, u54, u55], defers := [] })
          (fun x V o h => ⟨h.1, h.2.1, h.2.2.put hw0R o⟩) (fun x V V' h => h.2) (fun x V V' h => h.elim) ?assign ?body (fun V => WStep w0 wR K (.slice (some ⟨gS, 0, none⟩) nT capS) T B xp pn.R (pn.R.length) V) (fun V => False) ?iter ?done (fun V o _ h => h.elim))
        case assign =>
          intro x V Kq hKq
          gi_wp2
          exact hKq
        case body =>
          rintro ⟨k, r⟩ V ⟨hk, hr, hS⟩ hlt
          dsimp only at hk hr hS ⊢
          obtain ⟨j, hj⟩ : ∃ j, pn.R.length - 1 - k = j := ⟨_, rfl⟩
          rw [hj] at hr ⊢
          obtain ⟨c, hcK, hcB, -⟩ := HNP.out.kid HBX.out HND.out hr
          obtain ⟨U, vS, hPS, hU, hUB⟩ := hS
          have hUl := WStep.len hU (Nat.le_of_lt hk)
          have hkk := (HTM.out.stay hPS.ws.up.1).kk xi _ HLN.out
          dsimp only at hkk
          have hkk0 := HTM.out.kk xi _ HLN.out
          dsimp only at hkk0
          have hjl : j < pn.K.length := (List.getElem?_eq_some_iff.1 hcK).1
          obtain ⟨gk, rfl⟩ : ∃ gk, ak = some ⟨gk, 0, none⟩ := by
            obtain ⟨gk, cap, e, _⟩ := hkk.form (by omega)
            injection e with e1 _ _
            exact ⟨gk, e1⟩
          have hgk0 : gk < w0.heap.size := (hkk0.lt gk rfl).2
          have hgkw := HA7.out.ws.bK
          
          have hck : V.cell? ⟨gk, j, none⟩ = some (.int .i64 (c : Int)) := by
            rw [hkk.cellAt j (by omega), List.getElem?_map, hcK]
            rfl
          have hAV := HA7.out.ps hPS
          have hq6 := hAV.at (List.mem_cons_of_mem _ (List.mem_cons_self ..)) 1 _ rfl
          have hq5 := hAV.at (List.mem_cons_of_mem _ (List.mem_cons_of_mem _ (List.mem_cons_self ..))) 1 _ rfl
          have HFAR : Hid (∀ X Y, PS w0 wR X K (.slice (some ⟨gS, 0, none⟩) nT capS) vS (U ++ T) → X.grownBy Y vS.ownBlock → SV P6 gk j w.heap.size (.slice (some ⟨gk, 0, none⟩) pn.K.length ck) (.int .i64 (c : Int)) (.slice ax xp.length cx) X → SV P6 gk j w.heap.size (.slice (some ⟨gk, 0, none⟩) pn.K.length ck) (.int .i64 (c : Int)) (.slice ax xp.length cx) Y) := fun X Y hp hg hs => by
            have hX := HA7.out.ps hp
            refine hs.keep fun q hq => hg.block q ?_ (fun e => ?_)
            · rcases hq with rfl | rfl | rfl
              · exact World.block_lt_of_cell? X _ hs.1
              · exact World.block_lt_of_cell? X _ hs.2.1
              · exact World.block_lt_of_cell? X _ hs.2.2
            · rcases hq with rfl | rfl | rfl
              · exact (hX.exs _ (List.mem_cons_of_mem _ (List.mem_cons_self ..))).2.2.2.1 e.symm
              · have := own_base hp.ws.row _ e.symm
                omega
              · exact (hX.exs _ (List.mem_cons_of_mem _ (List.mem_cons_of_mem _ (List.mem_cons_self ..)))).2.2.2.1 e.symm
          have HSET : Hid (∀ (Y : World) (v : Value), SV P6 gk j w.heap.size (.slice (some ⟨gk, 0, none⟩) pn.K.length ck) (.int .i64 (c : Int)) (.slice ax xp.length cx) Y → SV P6 gk j w.heap.size (.slice (some ⟨gk, 0, none⟩) pn.K.length ck) (.int .i64 (c : Int)) (.slice ax xp.length cx) (Y.setCell ⟨K, 0, none⟩ v)) := fun Y v hs => by
            refine hs.keep fun q hq => heap_setCell_other Y ⟨K, 0, none⟩ q v (fun e => ?_)
            dsimp only at e
            rcases hq with rfl | rfl | rfl
            · exact (HA7.out.exs _ (List.mem_cons_of_mem _ (List.mem_cons_self ..))).2.2.1 e
            · omega
            · exact (HA7.out.exs _ (List.mem_cons_of_mem _ (List.mem_cons_of_mem _ (List.mem_cons_self ..)))).2.2.1 e
          have z1 : (j : Int) < (pn.K.length : Int) := by omega
          have z2 : (0 : Int) ≤ (j : Int) := by omega
          have HU : Hid (U.map Pt.p = (pn.R.drop (pn.R.length - k)).map (fun r => xp ++ [r]) ∧ ∀ u ∈ U, B[u.i]? = some u.p) := ⟨hU, hUB⟩
          have HJ : Hid (k < pn.R.length ∧ pn.R.length - 1 - k = j ∧ pn.R[j]? = some r ∧ B[c]? = some (xp ++ [r])) := ⟨hk, hj, hr, hcB⟩
          have HP : Hid (PS w0 wR V.drew K (.slice (some ⟨gS, 0, none⟩) nT capS) vS (U ++ T)) := hPS.drew
          have HR : Hid (V.drew.heap[wR.heap.size + 1]? = V.heap[wR.heap.size + 1]?) := rfl
          have hUT : (U ++ T).length ≤ 600000 := by
            have := HNT.out
            rw [List.length_append]
            omega
          obtain ⟨nU, hnU⟩ : ∃ q, (U ++ T).length = q := ⟨_, rfl⟩
          rw [hnU] at hUT
          have HNU : Hid ((U ++ T).length = nU) := hnU
          clear hnU
          obtain ⟨ip, hip, hpz0, hpz1, hpz2⟩ := info_parts infoPt
          have hS0 : SV P6 gk j w.heap.size (.slice (some ⟨gk, 0, none⟩) pn.K.length ck) (.int .i64 (c : Int)) (.slice ax xp.length cx) V.drew := ⟨hq6, hck, hq5⟩
          clear hkk hkk0 hck hq6 hq5 hAV hPS hU hUB hr hcK hcB hj hk hlt hUl
          refine wpIn_block ?_
          refine region_in (S := SV P6 gk j w.heap.size (.slice (some ⟨gk, 0, none⟩) pn.K.length ck) (.int .i64 (c : Int)) (.slice ax xp.length cx)) (by kernel_rfl) (by kernel_rfl) (fun ⟨_, _, h⟩ => h) hS0 (fun hHeld => ?_)
          clear hS0
          obtain ⟨x0, hx0⟩ : ∃ x0, V.drew = x0 := ⟨_, rfl⟩
          rw [hx0] at HP HR hHeld ⊢
          clear hx0
          refine takeH (i := 1) (v := ?_) (d := (some 43)) rfl (by kernel_rfl) (by kernel_rfl) (by kernel_rfl) rfl (fun _ _ _ h => h) (Or.inl ⟨by kernel_rfl, ?_⟩) (by first | assumption | trivial) ?_; rotate_left
          · (intro w' hSw; (try dsimp only at hSw); obtain ⟨hs1, hs2, hs3⟩ := hSw; first | (go_simp; done) | (go_simp; with_reducible rfl))
          (try simp only [Act.put, List.setIfInBounds_toArray, List.set_cons_zero, List.set_cons_succ])
          refine takeH (i := 2) (v := ?_) (d := (some 44)) rfl (by kernel_rfl) (by kernel_rfl) (by kernel_rfl) rfl (fun _ _ _ h => h) (Or.inl ⟨by kernel_rfl, ?_⟩) (by first | assumption | trivial) ?_; rotate_left
          · (intro w' hSw; (try dsimp only at hSw); obtain ⟨hs1, hs2, hs3⟩ := hSw; first | (go_simp; done) | (go_simp; with_reducible rfl))
          (try simp only [Act.put, List.setIfInBounds_toArray, List.set_cons_zero, List.set_cons_succ])
          refine takeH (i := 3) (v := ?_) (d := (some 45)) rfl (by kernel_rfl) (by kernel_rfl) (by kernel_rfl) rfl (fun _ _ _ h => h) (Or.inl ⟨by kernel_rfl, ?_⟩) (by first | assumption | trivial) ?_; rotate_left
          · (intro w' hSw; (try dsimp only at hSw); obtain ⟨hs1, hs2, hs3⟩ := hSw; first | (go_simp; done) | (go_simp; with_reducible rfl))
          (try simp only [Act.put, List.setIfInBounds_toArray, List.set_cons_zero, List.set_cons_succ])
          refine takeH (i := 4) (v := ?_) (d := (some 46)) rfl (by kernel_rfl) (by kernel_rfl) (by kernel_rfl) rfl (fun _ _ _ h => h) (Or.inl ⟨by kernel_rfl, ?_⟩) (by first | assumption | trivial) ?_; rotate_left
          · (intro w' hSw; (try dsimp only at hSw); obtain ⟨hs1, hs2, hs3⟩ := hSw; first | (go_simp; done) | (go_simp; with_reducible rfl))
          (try simp only [Act.put, List.setIfInBounds_toArray, List.set_cons_zero, List.set_cons_succ])
          refine takeH (i := 5) (v := ?_) (d := (some 47)) rfl (by kernel_rfl) (by kernel_rfl) (by kernel_rfl) rfl (fun _ _ _ h => h) (Or.inl ⟨by kernel_rfl, ?_⟩) (by first | assumption | trivial) ?_; rotate_left
          · (intro w' hSw; (try dsimp only at hSw); obtain ⟨hs1, hs2, hs3⟩ := hSw; first | (go_simp; done) | (go_simp; with_reducible rfl))
          (try simp only [Act.put, List.setIfInBounds_toArray, List.set_cons_zero, List.set_cons_succ])
          refine takeH (i := 6) (v := ?_) (d := (some 48)) rfl (by kernel_rfl) (by kernel_rfl) (by kernel_rfl) rfl (fun _ _ _ h => h) (Or.inl ⟨by kernel_rfl, ?_⟩) (by first | assumption | trivial) ?_; rotate_left
          · (intro w' hSw; (try dsimp only at hSw); obtain ⟨hs1, hs2, hs3⟩ := hSw; first | (go_simp; done) | (go_simp; with_reducible rfl))
          (try simp only [Act.put, List.setIfInBounds_toArray, List.set_cons_zero, List.set_cons_succ])
          refine takeH (i := 7) (v := ?_) (d := (some 49)) rfl (by kernel_rfl) (by kernel_rfl) (by kernel_rfl) rfl (fun _ _ _ h => h) (Or.inl ⟨by kernel_rfl, ?_⟩) (by first | assumption | trivial) ?_; rotate_left
          · (intro w' hSw; (try dsimp only at hSw); obtain ⟨hs1, hs2, hs3⟩ := hSw; first | (go_simp; done) | (go_simp; with_reducible rfl))
          (try simp only [Act.put, List.setIfInBounds_toArray, List.set_cons_zero, List.set_cons_succ])
          refine takeH (i := 8) (v := ?_) (d := (some 50)) rfl (by kernel_rfl) (by kernel_rfl) (by kernel_rfl) rfl (fun _ _ _ h => h) (Or.inl ⟨by kernel_rfl, ?_⟩) (by first | assumption | trivial) ?_; rotate_left
          · (intro w' hSw; (try dsimp only at hSw); obtain ⟨hs1, hs2, hs3⟩ := hSw; first | (go_simp; done) | (go_simp; with_reducible rfl))
          (try simp only [Act.put, List.setIfInBounds_toArray, List.set_cons_zero, List.set_cons_succ])
          refine wpAnyH_ready (rs := [0, 9]) (by kernel_rfl) (by simp) (AllReadyH.cons rfl (fun Kq hK => ?_) (AllReadyH.cons rfl (fun Kq hK => ?_) AllReadyH.nil))
          · rw [if_pos (by kernel_rfl)]
            have hkc := HP.out.ws.cell.1
            go_simp
            clear hkc
            refine hK.out _ _ hHeld (fun hHeld' => ?_)
            clear hK Kq hHeld
            have hHeld := hHeld'
            clear hHeld'
            (try dsimp only at hHeld)
            (try simp only [Act.put, List.setIfInBounds_toArray, List.set_cons_zero, List.set_cons_succ])
            refine wpAnyH_ready (rs := [9]) (by kernel_rfl) (by simp) (AllReadyH.cons rfl (fun Kq hK => ?_) AllReadyH.nil)
            rw [if_pos (by kernel_rfl)]
            go_simp
            refine (longer_any xp (HA7.out.ps HP.out).beg (by omega) r).mono ?_
            rintro e x1 ⟨vv, rfl, hov, huv⟩
            obtain ⟨av, cv, rfl⟩ : ∃ a c, vv = .slice a (xp.length + 1) c := by simpa using own_slice hov
            have HV : Hid (x1.ownsRow w0.heap.size 21 1 (.slice av (xp.length + 1) cv) (xp ++ [r]).length ((xp ++ [r]).map i32c) ∧ ∀ g, (Value.slice av (xp.length + 1) cv).ownBlock = some g → wR.heap.size + 2 ≤ g) := ⟨own_mono hov HP.out.ws.up.2, fun g hg => Nat.le_trans HP.out.size (own_base hov g hg)⟩
            have HR' : Hid (x1.heap[wR.heap.size + 1]? = V.heap[wR.heap.size + 1]?) := (huv.1.block _ (by have := HP.out.size; omega)).trans HR.out
            clear HR
            have HR := HR'
            clear HR'
            have HP' : Hid (PS w0 wR x1 K (.slice (some ⟨gS, 0, none⟩) nT capS) vS (U ++ T)) := HP.out.stay huv.1
            clear HP
            have HP := HP'
            clear HP'
            (try go_wp2_with fail)
            refine hK.out _ _ (hHeld.stay huv.1) (fun hHeld' => ?_)
            clear hK Kq hHeld
            have hHeld := hHeld'
            clear hHeld'
            (try dsimp only at hHeld)
            (try simp only [Act.put, List.setIfInBounds_toArray, List.set_cons_zero, List.set_cons_succ])
            clear hov huv
            refine takeH (i := 10) (v := ?_) (d := (some 52)) rfl (by kernel_rfl) (by kernel_rfl) (by kernel_rfl) rfl (fun _ _ _ h => h) (Or.inl ⟨by kernel_rfl, ?_⟩) (by first | assumption | trivial) ?_; rotate_left
            · (intro w' hSw; (try dsimp only at hSw); obtain ⟨hs1, hs2, hs3⟩ := hSw; first | (go_simp; done) | (go_simp; with_reducible rfl))
            (try simp only [Act.put, List.setIfInBounds_toArray, List.set_cons_zero, List.set_cons_succ])
            refine wpAnyH_ready (rs := [11]) (by kernel_rfl) (by simp) (AllReadyH.cons rfl (fun Kq hK => ?_) AllReadyH.nil)
            rw [if_pos (by kernel_rfl)]
            go_simp
            have HR' : Hid ((x1.alloc (.cells #[.int .i64 (c : Int), .slice av (xp.length + 1) cv] 67)).heap[wR.heap.size + 1]? = V.heap[wR.heap.size + 1]?) := (((Below.refl _ _).alloc (Nat.le_refl _) _ : Below x1.heap.size x1 _).block _ (by have := HP.out.size; omega)).trans HR.out
            clear HR
            have HR := HR'
            clear HR'
            have HP' : Hid (PS w0 wR (x1.alloc (.cells #[.int .i64 (c : Int), .slice av (xp.length + 1) cv] 67)) K (.slice (some ⟨gS, 0, none⟩) nT capS) vS (U ++ T)) := HP.out.stay ((Below.refl _ _).alloc (Nat.le_refl _) _)
            clear HP
            have HP := HP'
            clear HP'
            have HV' : Hid ((x1.alloc (.cells #[.int .i64 (c : Int), .slice av (xp.length + 1) cv] 67)).ownsRow w0.heap.size 21 1 (.slice av (xp.length + 1) cv) (xp ++ [r]).length ((xp ++ [r]).map i32c) ∧ ∀ g, (Value.slice av (xp.length + 1) cv).ownBlock = some g → wR.heap.size + 2 ≤ g) := ⟨own_stay HV.out.1 ((Below.refl _ _).alloc (Nat.le_refl _) _), HV.out.2⟩
            clear HV
            have HV := HV'
            clear HV'
            have HN : Hid (∀ j' u, [Value.int .i64 (c : Int), .slice av (xp.length + 1) cv][j']? = some u → (x1.alloc (.cells #[.int .i64 (c : Int), .slice av (xp.length + 1) cv] 67)).cell? ((⟨x1.heap.size, 0, none⟩ : Addr).add j') = some u) := fun j' u hu => World.news_of_block (Array.getElem?_push_size (xs := x1.heap) (x := .cells #[.int .i64 (c : Int), .slice av (xp.length + 1) cv] 67)) j' u hu
            refine hK.out _ _ (hHeld.stay ((Below.refl _ _).alloc (Nat.le_refl _) _)) (fun hHeld' => ?_)
            clear hK Kq hHeld
            have hHeld := hHeld'
            clear hHeld'
            (try dsimp only at hHeld)
            (try simp only [Act.put, List.setIfInBounds_toArray, List.set_cons_zero, List.set_cons_succ])
            obtain ⟨x2, hx2⟩ : ∃ q, x1.alloc (.cells #[.int .i64 (c : Int), .slice av (xp.length + 1) cv] 67) = q := ⟨_, rfl⟩
            rw [hx2] at HP HV HN HR hHeld ⊢
            clear hx2
            refine wpAnyH_ready (rs := [12]) (by kernel_rfl) (by simp) (AllReadyH.cons rfl (fun Kq hK => ?_) AllReadyH.nil)
            rw [if_pos (by kernel_rfl)]
            refine wp_append_lies x2 (.tmp 42) (.tmp 53) 68 rfl w0.heap.size 67 ip _ 2 32 Tryd.underlying68 hip hpz0 hpz1 hpz2 rfl (by decide) vS nU (ptC (U ++ T).reverse) rfl (HNU.out ▸ HP.out.ws.row) ⟨x1.heap.size, 0, none⟩ 1 1 [.int .i64 (c : Int), .slice av (xp.length + 1) cv] rfl rfl HN.out (pt_one _ _ rfl rfl) (by decide) (by unfold maxLen; omega) (by omega) HP.out.ws.up.2 _ rfl ?_
            intro gn capn x3 hown hgrow hgg hgl'
            change Kq (Act.put _ (some 54) _) _
            have HM : Hid (WStep w0 wR K (.slice (some ⟨gS, 0, none⟩) nT capS) T B xp pn.R (k + 1) (x3.setCell ⟨K, 0, none⟩ (.slice (some ⟨gn, 0, none⟩) (nU + 1) capn)) ∧ (x3.setCell ⟨K, 0, none⟩ (.slice (some ⟨gn, 0, none⟩) (nU + 1) capn)).heap[wR.heap.size + 1]? = x2.heap[wR.heap.size + 1]?) := WStep.more HP.out HU.out.1 HU.out.2 HJ.out.1 HJ.out.2.1 HJ.out.2.2.1 HJ.out.2.2.2 (by rw [HNU.out]) HV.out.1 HV.out.2 hown hgrow (hgg.imp id (fun e => Nat.le_of_eq e.symm))
            obtain ⟨hkc', hkf'⟩ : x3.cell? ⟨K, 0, none⟩ = some vS ∧ x3.frozen? ⟨K, 0, none⟩ = false := by
              have hvK : some K ≠ vS.ownBlock := fun e => own_blk HP.out.ws.row HP.out.ws.box (by decide) e.symm
              exact ⟨(hgrow.cell_far ⟨K, 0, none⟩ (lt_of_heap HP.out.ws.box) hvK).trans HP.out.ws.cell.1, (hgrow.frozen_far ⟨K, 0, none⟩ (lt_of_heap HP.out.ws.box) hvK).trans HP.out.ws.cell.2⟩
            have hS2 : SV P6 gk j w.heap.size (.slice (some ⟨gk, 0, none⟩) pn.K.length ck) (.int .i64 (c : Int)) (.slice ax xp.length cx) x3 := HFAR.out _ _ HP.out hgrow hHeld
            refine hK.out _ _ hS2 (fun hHeld' => ?_)
            clear hK Kq hHeld
            have hHeld := hHeld'
            clear hHeld'
            (try dsimp only at hHeld)
            (try simp only [Act.put, List.setIfInBounds_toArray, List.set_cons_zero, List.set_cons_succ])
            clear hS2 hown hgrow hgg hgl'
            refine wpAnyH_ready (rs := [13]) (by kernel_rfl) (by simp) (AllReadyH.cons rfl (fun Kq hK => ?_) AllReadyH.nil)
            rw [if_pos (by kernel_rfl)]
            go_simp
            refine hK.out _ _ (HSET.out _ _ hHeld) (fun hHeld' => ?_)
            clear hK Kq hHeld
            have hHeld := hHeld'
            clear hHeld'
            (try dsimp only at hHeld)
            (try simp only [Act.put, List.setIfInBounds_toArray, List.set_cons_zero, List.set_cons_succ])
            refine wpAnyH_done (by kernel_rfl) ?_ _
            exact ⟨HM.out.1, HM.out.2.trans HR.out⟩
          · rw [if_pos (by kernel_rfl)]
            go_simp
            refine (longer_any xp (HA7.out.ps HP.out).beg (by omega) r).mono ?_
            rintro e x1 ⟨vv, rfl, hov, huv⟩
            obtain ⟨av, cv, rfl⟩ : ∃ a c, vv = .slice a (xp.length + 1) c := by simpa using own_slice hov
            have HV : Hid (x1.ownsRow w0.heap.size 21 1 (.slice av (xp.length + 1) cv) (xp ++ [r]).length ((xp ++ [r]).map i32c) ∧ ∀ g, (Value.slice av (xp.length + 1) cv).ownBlock = some g → wR.heap.size + 2 ≤ g) := ⟨own_mono hov HP.out.ws.up.2, fun g hg => Nat.le_trans HP.out.size (own_base hov g hg)⟩
            have HR' : Hid (x1.heap[wR.heap.size + 1]? = V.heap[wR.heap.size + 1]?) := (huv.1.block _ (by have := HP.out.size; omega)).trans HR.out
            clear HR
            have HR := HR'
            clear HR'
            have HP' : Hid (PS w0 wR x1 K (.slice (some ⟨gS, 0, none⟩) nT capS) vS (U ++ T)) := HP.out.stay huv.1
            clear HP
            have HP := HP'
            clear HP'
            (try go_wp2_with fail)
            refine hK.out _ _ (hHeld.stay huv.1) (fun hHeld' => ?_)
            clear hK Kq hHeld
            have hHeld := hHeld'
            clear hHeld'
            (try dsimp only at hHeld)
            (try simp only [Act.put, List.setIfInBounds_toArray, List.set_cons_zero, List.set_cons_succ])
            clear hov huv
            refine takeH (i := 10) (v := ?_) (d := (some 52)) rfl (by kernel_rfl) (by kernel_rfl) (by kernel_rfl) rfl (fun _ _ _ h => h) (Or.inl ⟨by kernel_rfl, ?_⟩) (by first | assumption | trivial) ?_; rotate_left
            · (intro w' hSw; (try dsimp only at hSw); obtain ⟨hs1, hs2, hs3⟩ := hSw; first | (go_simp; done) | (go_simp; with_reducible rfl))
            (try simp only [Act.put, List.setIfInBounds_toArray, List.set_cons_zero, List.set_cons_succ])
            refine wpAnyH_ready (rs := [0, 11]) (by kernel_rfl) (by simp) (AllReadyH.cons rfl (fun Kq hK => ?_) (AllReadyH.cons rfl (fun Kq hK => ?_) AllReadyH.nil))
            · rw [if_pos (by kernel_rfl)]
              have hkc := HP.out.ws.cell.1
              go_simp
              clear hkc
              refine hK.out _ _ hHeld (fun hHeld' => ?_)
              clear hK Kq hHeld
              have hHeld := hHeld'
              clear hHeld'
              (try dsimp only at hHeld)
              (try simp only [Act.put, List.setIfInBounds_toArray, List.set_cons_zero, List.set_cons_succ])
              refine wpAnyH_ready (rs := [11]) (by kernel_rfl) (by simp) (AllReadyH.cons rfl (fun Kq hK => ?_) AllReadyH.nil)
              rw [if_pos (by kernel_rfl)]
              go_simp
              have HR' : Hid ((x1.alloc (.cells #[.int .i64 (c : Int), .slice av (xp.length + 1) cv] 67)).heap[wR.heap.size + 1]? = V.heap[wR.heap.size + 1]?) := (((Below.refl _ _).alloc (Nat.le_refl _) _ : Below x1.heap.size x1 _).block _ (by have := HP.out.size; omega)).trans HR.out
              clear HR
              have HR := HR'
              clear HR'
              have HP' : Hid (PS w0 wR (x1.alloc (.cells #[.int .i64 (c : Int), .slice av (xp.length + 1) cv] 67)) K (.slice (some ⟨gS, 0, none⟩) nT capS) vS (U ++ T)) := HP.out.stay ((Below.refl _ _).alloc (Nat.le_refl _) _)
              clear HP
              have HP := HP'
              clear HP'
              have HV' : Hid ((x1.alloc (.cells #[.int .i64 (c : Int), .slice av (xp.length + 1) cv] 67)).ownsRow w0.heap.size 21 1 (.slice av (xp.length + 1) cv) (xp ++ [r]).length ((xp ++ [r]).map i32c) ∧ ∀ g, (Value.slice av (xp.length + 1) cv).ownBlock = some g → wR.heap.size + 2 ≤ g) := ⟨own_stay HV.out.1 ((Below.refl _ _).alloc (Nat.le_refl _) _), HV.out.2⟩
              clear HV
              have HV := HV'
              clear HV'
              have HN : Hid (∀ j' u, [Value.int .i64 (c : Int), .slice av (xp.length + 1) cv][j']? = some u → (x1.alloc (.cells #[.int .i64 (c : Int), .slice av (xp.length + 1) cv] 67)).cell? ((⟨x1.heap.size, 0, none⟩ : Addr).add j') = some u) := fun j' u hu => World.news_of_block (Array.getElem?_push_size (xs := x1.heap) (x := .cells #[.int .i64 (c : Int), .slice av (xp.length + 1) cv] 67)) j' u hu
              refine hK.out _ _ (hHeld.stay ((Below.refl _ _).alloc (Nat.le_refl _) _)) (fun hHeld' => ?_)
              clear hK Kq hHeld
              have hHeld := hHeld'
              clear hHeld'
              (try dsimp only at hHeld)
              (try simp only [Act.put, List.setIfInBounds_toArray, List.set_cons_zero, List.set_cons_succ])
              obtain ⟨x2, hx2⟩ : ∃ q, x1.alloc (.cells #[.int .i64 (c : Int), .slice av (xp.length + 1) cv] 67) = q := ⟨_, rfl⟩
              rw [hx2] at HP HV HN HR hHeld ⊢
              clear hx2
              refine wpAnyH_ready (rs := [12]) (by kernel_rfl) (by simp) (AllReadyH.cons rfl (fun Kq hK => ?_) AllReadyH.nil)
              rw [if_pos (by kernel_rfl)]
              refine wp_append_lies x2 (.tmp 42) (.tmp 53) 68 rfl w0.heap.size 67 ip _ 2 32 Tryd.underlying68 hip hpz0 hpz1 hpz2 rfl (by decide) vS nU (ptC (U ++ T).reverse) rfl (HNU.out ▸ HP.out.ws.row) ⟨x1.heap.size, 0, none⟩ 1 1 [.int .i64 (c : Int), .slice av (xp.length + 1) cv] rfl rfl HN.out (pt_one _ _ rfl rfl) (by decide) (by unfold maxLen; omega) (by omega) HP.out.ws.up.2 _ rfl ?_
              intro gn capn x3 hown hgrow hgg hgl'
              change Kq (Act.put _ (some 54) _) _
              have HM : Hid (WStep w0 wR K (.slice (some ⟨gS, 0, none⟩) nT capS) T B xp pn.R (k + 1) (x3.setCell ⟨K, 0, none⟩ (.slice (some ⟨gn, 0, none⟩) (nU + 1) capn)) ∧ (x3.setCell ⟨K, 0, none⟩ (.slice (some ⟨gn, 0, none⟩) (nU + 1) capn)).heap[wR.heap.size + 1]? = x2.heap[wR.heap.size + 1]?) := WStep.more HP.out HU.out.1 HU.out.2 HJ.out.1 HJ.out.2.1 HJ.out.2.2.1 HJ.out.2.2.2 (by rw [HNU.out]) HV.out.1 HV.out.2 hown hgrow (hgg.imp id (fun e => Nat.le_of_eq e.symm))
              obtain ⟨hkc', hkf'⟩ : x3.cell? ⟨K, 0, none⟩ = some vS ∧ x3.frozen? ⟨K, 0, none⟩ = false := by
                have hvK : some K ≠ vS.ownBlock := fun e => own_blk HP.out.ws.row HP.out.ws.box (by decide) e.symm
                exact ⟨(hgrow.cell_far ⟨K, 0, none⟩ (lt_of_heap HP.out.ws.box) hvK).trans HP.out.ws.cell.1, (hgrow.frozen_far ⟨K, 0, none⟩ (lt_of_heap HP.out.ws.box) hvK).trans HP.out.ws.cell.2⟩
              have hS2 : SV P6 gk j w.heap.size (.slice (some ⟨gk, 0, none⟩) pn.K.length ck) (.int .i64 (c : Int)) (.slice ax xp.length cx) x3 := HFAR.out _ _ HP.out hgrow hHeld
              refine hK.out _ _ hS2 (fun hHeld' => ?_)
              clear hK Kq hHeld
              have hHeld := hHeld'
              clear hHeld'
              (try dsimp only at hHeld)
              (try simp only [Act.put, List.setIfInBounds_toArray, List.set_cons_zero, List.set_cons_succ])
              clear hS2 hown hgrow hgg hgl'
              refine wpAnyH_ready (rs := [13]) (by kernel_rfl) (by simp) (AllReadyH.cons rfl (fun Kq hK => ?_) AllReadyH.nil)
              rw [if_pos (by kernel_rfl)]
              go_simp
              refine hK.out _ _ (HSET.out _ _ hHeld) (fun hHeld' => ?_)
              clear hK Kq hHeld
              have hHeld := hHeld'
              clear hHeld'
              (try dsimp only at hHeld)
              (try simp only [Act.put, List.setIfInBounds_toArray, List.set_cons_zero, List.set_cons_succ])
              refine wpAnyH_done (by kernel_rfl) ?_ _
              exact ⟨HM.out.1, HM.out.2.trans HR.out⟩
            · rw [if_pos (by kernel_rfl)]
              go_simp
              have HR' : Hid ((x1.alloc (.cells #[.int .i64 (c : Int), .slice av (xp.length + 1) cv] 67)).heap[wR.heap.size + 1]? = V.heap[wR.heap.size + 1]?) := (((Below.refl _ _).alloc (Nat.le_refl _) _ : Below x1.heap.size x1 _).block _ (by have := HP.out.size; omega)).trans HR.out
              clear HR
              have HR := HR'
              clear HR'
              have HP' : Hid (PS w0 wR (x1.alloc (.cells #[.int .i64 (c : Int), .slice av (xp.length + 1) cv] 67)) K (.slice (some ⟨gS, 0, none⟩) nT capS) vS (U ++ T)) := HP.out.stay ((Below.refl _ _).alloc (Nat.le_refl _) _)
              clear HP
              have HP := HP'
              clear HP'
              have HV' : Hid ((x1.alloc (.cells #[.int .i64 (c : Int), .slice av (xp.length + 1) cv] 67)).ownsRow w0.heap.size 21 1 (.slice av (xp.length + 1) cv) (xp ++ [r]).length ((xp ++ [r]).map i32c) ∧ ∀ g, (Value.slice av (xp.length + 1) cv).ownBlock = some g → wR.heap.size + 2 ≤ g) := ⟨own_stay HV.out.1 ((Below.refl _ _).alloc (Nat.le_refl _) _), HV.out.2⟩
              clear HV
              have HV := HV'
              clear HV'
              have HN : Hid (∀ j' u, [Value.int .i64 (c : Int), .slice av (xp.length + 1) cv][j']? = some u → (x1.alloc (.cells #[.int .i64 (c : Int), .slice av (xp.length + 1) cv] 67)).cell? ((⟨x1.heap.size, 0, none⟩ : Addr).add j') = some u) := fun j' u hu => World.news_of_block (Array.getElem?_push_size (xs := x1.heap) (x := .cells #[.int .i64 (c : Int), .slice av (xp.length + 1) cv] 67)) j' u hu
              refine hK.out _ _ (hHeld.stay ((Below.refl _ _).alloc (Nat.le_refl _) _)) (fun hHeld' => ?_)
              clear hK Kq hHeld
              have hHeld := hHeld'
              clear hHeld'
              (try dsimp only at hHeld)
              (try simp only [Act.put, List.setIfInBounds_toArray, List.set_cons_zero, List.set_cons_succ])
              obtain ⟨x2, hx2⟩ : ∃ q, x1.alloc (.cells #[.int .i64 (c : Int), .slice av (xp.length + 1) cv] 67) = q := ⟨_, rfl⟩
              rw [hx2] at HP HV HN HR hHeld ⊢
              clear hx2
              refine wpAnyH_ready (rs := [0]) (by kernel_rfl) (by simp) (AllReadyH.cons rfl (fun Kq hK => ?_) AllReadyH.nil)
              rw [if_pos (by kernel_rfl)]
              have hkc := HP.out.ws.cell.1
              go_simp
              clear hkc
              refine hK.out _ _ hHeld (fun hHeld' => ?_)
              clear hK Kq hHeld
              have hHeld := hHeld'
              clear hHeld'
              (try dsimp only at hHeld)
              (try simp only [Act.put, List.setIfInBounds_toArray, List.set_cons_zero, List.set_cons_succ])
              refine wpAnyH_ready (rs := [12]) (by kernel_rfl) (by simp) (AllReadyH.cons rfl (fun Kq hK => ?_) AllReadyH.nil)
              rw [if_pos (by kernel_rfl)]
              refine wp_append_lies x2 (.tmp 42) (.tmp 53) 68 rfl w0.heap.size 67 ip _ 2 32 Tryd.underlying68 hip hpz0 hpz1 hpz2 rfl (by decide) vS nU (ptC (U ++ T).reverse) rfl (HNU.out ▸ HP.out.ws.row) ⟨x1.heap.size, 0, none⟩ 1 1 [.int .i64 (c : Int), .slice av (xp.length + 1) cv] rfl rfl HN.out (pt_one _ _ rfl rfl) (by decide) (by unfold maxLen; omega) (by omega) HP.out.ws.up.2 _ rfl ?_
              intro gn capn x3 hown hgrow hgg hgl'
              change Kq (Act.put _ (some 54) _) _
              have HM : Hid (WStep w0 wR K (.slice (some ⟨gS, 0, none⟩) nT capS) T B xp pn.R (k + 1) (x3.setCell ⟨K, 0, none⟩ (.slice (some ⟨gn, 0, none⟩) (nU + 1) capn)) ∧ (x3.setCell ⟨K, 0, none⟩ (.slice (some ⟨gn, 0, none⟩) (nU + 1) capn)).heap[wR.heap.size + 1]? = x2.heap[wR.heap.size + 1]?) := WStep.more HP.out HU.out.1 HU.out.2 HJ.out.1 HJ.out.2.1 HJ.out.2.2.1 HJ.out.2.2.2 (by rw [HNU.out]) HV.out.1 HV.out.2 hown hgrow (hgg.imp id (fun e => Nat.le_of_eq e.symm))
              obtain ⟨hkc', hkf'⟩ : x3.cell? ⟨K, 0, none⟩ = some vS ∧ x3.frozen? ⟨K, 0, none⟩ = false := by
                have hvK : some K ≠ vS.ownBlock := fun e => own_blk HP.out.ws.row HP.out.ws.box (by decide) e.symm
                exact ⟨(hgrow.cell_far ⟨K, 0, none⟩ (lt_of_heap HP.out.ws.box) hvK).trans HP.out.ws.cell.1, (hgrow.frozen_far ⟨K, 0, none⟩ (lt_of_heap HP.out.ws.box) hvK).trans HP.out.ws.cell.2⟩
              have hS2 : SV P6 gk j w.heap.size (.slice (some ⟨gk, 0, none⟩) pn.K.length ck) (.int .i64 (c : Int)) (.slice ax xp.length cx) x3 := HFAR.out _ _ HP.out hgrow hHeld
              refine hK.out _ _ hS2 (fun hHeld' => ?_)
              clear hK Kq hHeld
              have hHeld := hHeld'
              clear hHeld'
              (try dsimp only at hHeld)
              (try simp only [Act.put, List.setIfInBounds_toArray, List.set_cons_zero, List.set_cons_succ])
              clear hS2 hown hgrow hgg hgl'
              refine wpAnyH_ready (rs := [13]) (by kernel_rfl) (by simp) (AllReadyH.cons rfl (fun Kq hK => ?_) AllReadyH.nil)
              rw [if_pos (by kernel_rfl)]
              go_simp
              refine hK.out _ _ (HSET.out _ _ hHeld) (fun hHeld' => ?_)
              clear hK Kq hHeld
              have hHeld := hHeld'
              clear hHeld'
              (try dsimp only at hHeld)
              (try simp only [Act.put, List.setIfInBounds_toArray, List.set_cons_zero, List.set_cons_succ])
              refine wpAnyH_done (by kernel_rfl) ?_ _
              exact ⟨HM.out.1, HM.out.2.trans HR.out⟩
        case iter =>
          intro W1 rec busy don hB hs1 hD hRc hY
          refine callsIn_wide.2 ((back_iter (wR.heap.size + 1) 9 bx ar cr pn.R (by omega) (fun k V => WStep w0 wR K (.slice (some ⟨gS, 0, none⟩) nT capS) T B xp pn.R (k) V ∧ V.heap[wR.heap.size + 1]? = some rec) W1 ?_ ?_ ⟨WStep.zero B xp pn.R HA7.out.ws hB hs1 hD, hRc⟩).mono ?_)
          · rintro k V ⟨⟨U, vS, hPS, -, -⟩, -⟩
            have hAV := HA7.out.ps hPS
            refine ⟨hAV.at (List.mem_cons_self ..) 0 _ rfl, fun j r hr => ?_⟩
            have hrr := (HTM.out.stay hPS.ws.up.1).rr xi _ HLN.out
            dsimp only at hrr
            have hjl := (List.getElem?_eq_some_iff.1 hr).1
            obtain ⟨gr, cap, e, _⟩ := hrr.form (by omega)
            injection e with e1 _ _
            subst e1
            refine ⟨gr, rfl, ?_⟩
            rw [hrr.cellAt j (by omega), List.getElem?_map, hr]
            rfl
          · rintro k r V hk hr ⟨hS, hrec⟩
            refine (hY (k, r) V ⟨hk, hr, hS⟩ hrec).mono ?_
            rintro e V' (⟨rfl, V3, ⟨h1, h2⟩, rfl⟩ | ⟨rfl, V3, h1, rfl⟩)
            · refine ⟨rfl, h1.put hw0R rec, World.putObj_heap_same ?_⟩
              obtain ⟨U3, vS3, hP3, -, -⟩ := h1
              have := hP3.size
              omega
            · exact h1.elim
          · rintro e W' ⟨hv, hS, hrec⟩
            exact ⟨hv, Or.inl ⟨hrec, hS⟩⟩
        case done =>
          rintro W o hlt ⟨U, vS, hPS, hU, hUB⟩
          have hPo := hPS.put hw0R o
          have hAV := HA7.out.ps hPo
          rw [Nat.sub_self, List.drop_zero] at hU
          have hsum : ((U ++ T).map fun x => onP B x.p).sum < g := by
            have h7 : (U.map fun x => onP B x.p) = pn.R.map fun r => onP B (xp ++ [r]) := by
              have := congrArg (List.map (onP B)) hU
              simpa [List.map_map, Function.comp_def] using this
            have h8 := HNP.out.sum HBX.out HND.out
            have h9 : 0 < onP B xp := List.countP_pos_iff.2 ⟨xp, List.mem_of_getElem? HBX.out, by simp⟩
            have h10 : onP B xp = below B xp + 1 := on_below (HNP.out.nod) (List.mem_of_getElem? HBX.out)
            rw [HG.out, List.map_append, List.sum_append, List.map_cons, List.sum_cons, h7, h8]
            dsimp only
            omega
          refine ⟨((U ++ T).map fun x => onP B x.p).sum, hsum, U ++ T, O', vS, v', wR.heap.size :: ms, u1, .pointer (some ⟨w.heap.size, 0, none⟩), .pointer (some ⟨P6, 0, none⟩), u7, u8, u9, u10, .slice (some ⟨gS, 0, none⟩) (nT + 1) capS, .int .i64 ((nT : Int) + 1), .bool true, .slice (some ⟨gS, 0, none⟩) (nT + 1) capS, .slice (some ⟨gS, 0, none⟩) (nT + 1) capS, .int .i64 ((nT : Int) + 1), .int .i64 (nT : Int), .pointer (some ⟨gS, nT * 2, none⟩), .agg #[.int .i64 (xi : Int), .slice ax xp.length cx], .slice (some ⟨gS, 0, none⟩) (nT + 1) capS, .slice (some ⟨gS, 0, none⟩) (nT + 1) capS, .int .i64 ((nT : Int) + 1), .int .i64 (nT : Int), .slice (some ⟨gS, 0, none⟩) nT capS, .pointer (some ⟨Tb, 0, none⟩), .pointer (some ⟨w.heap.size, 0, none⟩), .int .i64 (xi : Int), .agg #[.slice ar pn.R.length cr, .slice ak pn.K.length ck, .bool false], .pointer (some ⟨P6, 2, none⟩), .bool false, u31, u32, u33, u34, u35, u36, .pointer (some ⟨P6, 0, none⟩), .slice ar pn.R.length cr, .func (.func 49) #[] #[.pointer (some ⟨bx, 0, none⟩)], u40, u41, u42, u43, u44, u45, u46, u47, u48, u49, u50, u51, u52, u53, u54, u55, ?_, rfl, hAV.ws, hAV.out, ?_, by omega, fun x hx => ?_, List.nodup_cons.2 ⟨fun hm => ?_, HMS.out.1⟩, fun q hq => ?_⟩
          · rw [List.map_cons, HDS.out]
            rfl
          · have h7 : (U.flatMap fun x => subW (L.map rs) x.p) = pn.R.flatMap fun r => subW (L.map rs) (xp ++ [r]) := by
              have := congrArg (List.flatMap (subW (L.map rs))) hU
              simpa [List.flatMap_map] using this
            rw [List.flatMap_append, h7]
            exact HOX.out
          · rcases List.mem_append.1 hx with hx | hx
            · exact hUB x hx
            · exact HB.out x (List.mem_cons_of_mem _ hx)
          · have := lt_of_heap (HA7.out.mks _ hm).1
            omega
          · rcases List.mem_cons.1 hq with rfl | hq
            · exact ⟨hPo.dfr, hw0R⟩
            · exact hAV.mks q hq
end Go.Proofs.YtfikkkodepfdkaaDoor
