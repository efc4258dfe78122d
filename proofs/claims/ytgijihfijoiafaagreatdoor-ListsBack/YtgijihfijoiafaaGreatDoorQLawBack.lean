/- ListsBack. -/
import Derived.Test.YtgijihfijoiafaaGreatDoorQPChwBck
import Derived.Test.YtgijihfijoiafaaGreatDoorQBgb
import Derived.Test.YtgijihfijoiafaaGreatDoorQLawFixes
namespace Go.Proofs.YtgijihfijoiafaaGreatDoor
set_option linter.unusedVariables false
open Go.RowKit Go.ChangeShapes Go.Maps
/-- Texts that came in. -/
def Strs (w : World) (ad : Option Addr) (n : Nat) (F : Nat → ByteArray) : Prop := ∀ i, i < n → ∃ b off, ad = some ⟨b, off, none⟩ ∧ w.cell? ⟨b, off + i, none⟩ = some (.string (F i)) ∧ (F i).size ≤ 9223372036854775807
theorem check_all (s : ByteArray) (w : World) (hs : s.size ≤ 9223372036854775807) (hT : Tabs w) :
    Calls Tryz.prog 12 #[.string s] w fun e w' => e = .returned (.int .i64 (chk s)) ∧ Below w.heap.size w w' := by
  by_cases h : s.size ≤ 5000
  · exact check_at s w h hT
  · have hd : chk s = 3 := by unfold chk chkL; rw [if_pos (by omega)]
    rw [hd]
    have h64' : (64 : Int) < (s.size : Int) := by omega
    clear hd hT
    go_enter Tryz.func12, Tryz.ntmps12
    go_wp2
    go_ret
    exact ⟨rfl, Below.refl _ _⟩
/-- The words that were listed, and those that were new. -/
structure RB (ws N : List ByteArray) : Prop where
  c : ∀ s ∈ ws, chk s = 0
  n : ∀ s ∈ N, chk s = 0
  e : N.map fld = nub ws
  d : (nub ws).Nodup
  l : N.length ≤ ws.length
theorem RB.old {ws N : List ByteArray} {s : ByteArray} (h : RB ws N) (hs : chk s = 0) (hm : fld s ∈ nub ws) : RB (ws ++ [s]) N ∧ nub (ws ++ [s]) = nub ws := by
  have e := nub_snoc ws s
  rw [nubS_old hm] at e
  refine ⟨⟨fun t ht => ?_, h.n, by rw [e]; exact h.e, by rw [e]; exact h.d, by have := h.l; simp; omega⟩, e⟩
  rcases List.mem_append.1 ht with ht | ht
  · exact h.c t ht
  · rw [List.mem_singleton.1 ht]; exact hs
theorem RB.new {ws N : List ByteArray} {s : ByteArray} (h : RB ws N) (hs : chk s = 0) (hm : ¬ fld s ∈ nub ws) : RB (ws ++ [s]) (N ++ [s]) ∧ nub (ws ++ [s]) = nub ws ++ [fld s] := by
  have e := nub_snoc ws s
  rw [nubS_new hm] at e
  refine ⟨⟨fun t ht => ?_, fun t ht => ?_, by rw [e, List.map_append, h.e]; rfl, ?_, by have := h.l; simp; omega⟩, e⟩
  · rcases List.mem_append.1 ht with ht | ht
    · exact h.c t ht
    · rw [List.mem_singleton.1 ht]; exact hs
  · rcases List.mem_append.1 ht with ht | ht
    · exact h.n t ht
    · rw [List.mem_singleton.1 ht]; exact hs
  · rw [e]
    refine List.nodup_append.2 ⟨h.d, by simp, fun a ha b hb ee => ?_⟩
    simp at hb
    exact hm (by rw [← hb, ← ee]; exact ha)
theorem wBy_snoc (ws : List ByteArray) (s : ByteArray) : wBy (ws ++ [s]) = (wBy ws ++ s.data.toList) ++ [32, 32, 35, 32, 120, 10] := by simp [wBy, lnW]
theorem fBy_snoc (N : List ByteArray) (s : ByteArray) : fBy (N ++ [s]) = ((((fBy N ++ [32]) ++ s.data.toList) ++ [45, 62, 9]) ++ s.data.toList) ++ [44, 32, 122, 122, 44, 122, 122, 13, 10] := by simp [fBy, lnF, rwF]
theorem zz_ne {f : ByteArray} (h : ¬ f = zz) : (f.toList == [122, 122]) = false := by
  cases e : f.toList == [122, 122]
  · rfl
  · exfalso
    apply h
    have e1 : f.toList = [122, 122] := eq_of_beq e
    rw [Lib.toList_data] at e1
    rw [← bA_of f, e1]
    rfl
theorem back_words (WW : List ByteArray) (h : ∀ s ∈ WW, chk s = 0) (hl : WW.length ≤ 120) : longL (linesL (bA (wBy WW))) 0 = 0 ∧ runR wstep (linesL (bA (wBy WW))) 0 ⟨0, []⟩ = (⟨0 + WW.length, nub WW⟩, 0, 0) := by
  rw [wBy_lines WW h]
  refine ⟨longL_none _ _ (fun t ht => ?_), runW_ws WW h 0 0 [] (by omega)⟩
  obtain ⟨s, hs, rfl⟩ := List.mem_map.1 ht
  rw [bA_size]
  have := lnW_len (h s hs)
  omega
theorem back_fixes (N : List ByteArray) (h : ∀ s ∈ N, chk s = 0) (hd : (N.map fld).Nodup) (hl : N.length ≤ 60) : longL (linesL (bA (fBy N))) 0 = 0 ∧ runR fstep (linesL (bA (fBy N))) 0 ([], false) = (((N.map fld).map prF, false), 0, 0) := by
  rw [fBy_lines N h]
  refine ⟨longL_none _ _ (fun t ht => ?_), runF_N N h 0 [] hd (by simp; omega)⟩
  obtain ⟨s, hs, rfl⟩ := List.mem_map.1 ht
  rw [bA_size]
  have := lnF_len (h s hs)
  omega
/-- The table's corrections, rising, are the list's words. -/
theorem back_pairs {L : List ByteArray} {ys : List Fx} (hd : L.Nodup) (hp : (ys.map Fx.p).Perm (L.map prF)) (hr : Rise ys) : ys.map Fx.p = (srt L).map prF := by
  have hk : (ys.map Fx.f).Perm L := by
    have h := hp.map Prod.fst
    rw [List.map_map, List.map_map] at h
    have e : L.map (Prod.fst ∘ prF) = L := by
      have : (Prod.fst ∘ prF) = id := rfl
      rw [this, List.map_id]
    rw [e] at h
    exact h
  have hry : RiseK Fx.f ys := rise_weak (f := Fx.f) hr (hk.nodup_iff.2 hd)
  refine rise_one (f := Prod.fst) (hp.trans ((srt_perm L).symm.map prF)) ?_ ?_
  · exact List.pairwise_map.2 hry
  · exact List.pairwise_map.2 (srt_rise L hd)
theorem toF_len (f : ByteArray) : (f = zz → (toF f).length = 1) ∧ (f ≠ zz → (toF f).length = 2) ∧ (toF f)[0]? = some f := by
  unfold toF
  refine ⟨fun h => ?_, fun h => ?_, ?_⟩
  · rw [if_pos (by rw [h]; simp)]
    rfl
  · rw [if_neg (by simp; exact fun e => h e.symm)]
    rfl
  · split <;> rfl
theorem back_cells {L : List ByteArray} {ys : List Fx} {wY : World} {b b' mb kk : Nat} {ua xa : Option Addr} {uc xc : Nat} (hd : L.Nodup) (hsz : ∀ f ∈ L, f.size ≤ 1000) (hyp : ys.map Fx.p = (srt L).map prF) (hyl : ys.length = L.length)
    (hm : wY.ownsRow b 9 1 (.slice ua L.length uc) L.length ((srt L).map Value.string)) (hx : wY.ownsRow b' 49 2 (.slice xa ys.length xc) ys.length (fcells ys)) (hto : ∀ x ∈ ys, wY.ownsRow b' 9 1 x.v x.l.length (x.l.map Value.string)) (hb : BagB wY mb kk L) (j : Nat) (hj : j < L.length) :
    ∃ f gm gx gt tc, ua = some ⟨gm, 0, none⟩ ∧ xa = some ⟨gx, 0, none⟩ ∧ wY.cell? ⟨gm, j, none⟩ = some (.string f) ∧ wY.cell? ⟨gx, j * 2, none⟩ = some (.string f) ∧ wY.cell? ⟨gx, j * 2 + 1, none⟩ = some (.slice (some ⟨gt, 0, none⟩) (toF f).length tc) ∧ wY.cell? ⟨gt, 0, none⟩ = some (.string f) ∧ (Instr.lookup 46 (.map (some mb)) (.string f) false).run Tryz.prog wY = .ok (.bool true) wY ∧ (∀ p, j = p + 1 → ∃ f', wY.cell? ⟨gm, p, none⟩ = some (.string f') ∧ lw f' f = true) := by
  have hsl := srt_len L
  have hjS : j < (srt L).length := by omega
  have hjy : j < ys.length := by omega
  have hp : (ys.map Fx.p)[j]? = ((srt L).map prF)[j]? := by rw [hyp]
  rw [List.getElem?_map, List.getElem?_map, List.getElem?_eq_getElem hjS, List.getElem?_eq_getElem hjy] at hp
  simp only [Option.map_some, Option.some.injEq, Fx.p, prF, Prod.mk.injEq] at hp
  obtain ⟨ef, el⟩ := hp
  have hm0 := hm
  have hx0 := hx
  obtain ⟨_, ⟨e, h0⟩ | ⟨gm, cm, curm, e, _⟩⟩ := hm
  · omega
  · cases e
    obtain ⟨_, ⟨e, h0⟩ | ⟨gx, cx, curx, e, _⟩⟩ := hx
    · omega
    · cases e
      have hc := own_cells hm0
      obtain ⟨x1, x2⟩ := fx_cells hx0 j hjy
      have hty := hto ys[j] (List.getElem_mem hjy)
      have hl0 := (toF_len (srt L)[j]).2.2
      have hmem : (srt L)[j] ∈ L := (srt_perm L).mem_iff.1 (List.getElem_mem hjS)
      unfold Fx.v at x2 hty
      rw [el] at x2 hty
      rw [ef] at x1
      have hty0 := hty
      have hlen1 : 0 < (toF (srt L)[j]).length := by
        rcases Classical.em ((srt L)[j] = zz) with h | h
        · rw [(toF_len _).1 h]; decide
        · rw [(toF_len _).2.1 h]; decide
      obtain ⟨_, ⟨e, h0⟩ | ⟨gt, ct, curt, e, _⟩⟩ := hty
      · omega
      · injection e with e1 e2 e3
        rw [e1, e3] at x2
        rw [e1, e3] at hty0
        refine ⟨(srt L)[j], gm, gx, gt, ct, rfl, rfl, hc j hjS, x1, x2, ?_, (hb.look _ (by have := hsz _ hmem; omega)).1 hmem, fun p hjp => ?_⟩
        · rw [own_cells hty0 0 hlen1]
          have := List.getElem?_eq_some_iff.1 hl0
          obtain ⟨_, h2⟩ := this
          rw [h2]
        · have hpS : p < (srt L).length := by omega
          refine ⟨(srt L)[p], hc p hpS, ?_⟩
          exact List.pairwise_iff_getElem.1 (srt_rise L hd) p j hpS hjS (by omega)
theorem wBy_len (ws : List ByteArray) (h : ∀ s ∈ ws, chk s = 0) : (wBy ws).length ≤ 70 * ws.length := flat_le lnW 70 ws (fun s hs => lnW_len (h s hs))
theorem fBy_len (N : List ByteArray) (h : ∀ s ∈ N, chk s = 0) : (fBy N).length ≤ 142 * N.length := flat_le lnF 142 N (fun s hs => lnF_len (h s hs))
set_option maxRecDepth 100000 in
set_option maxHeartbeats 4000000 in
theorem back_law (ad : Option Addr) (n cap : Nat) (F : Nat → ByteArray) (tw : Bool) (m : Int) (w : World) (hF : Strs w ad n F) (hT : Tabs w) (hm : w.cell? ⟨3, 0, none⟩ = some (.int .i64 m)) :
    Calls Tryz.prog 7 #[.slice ad n cap, .bool tw] w fun e w' => e = .returned (.bool true) ∧ Below w.heap.size w w' := by
  have hmm := @run_makeMap Tryz.prog
  have ca := awake_any m w hT hm
  have HT : Hid (Tabs w) := hT
  have HM : Hid (w.cell? ⟨3, 0, none⟩ = some (.int .i64 m)) := hm
  have HF : Hid (Strs w ad n F) := hF
  clear hT hm hF
  obtain ⟨i0, hi, hz0, hz1, hz2⟩ := info_parts info5
  go_enter Tryz.func7, Tryz.ntmps7
  go_wp2_with fail
  refine ca.mono ?_
  rintro e w1 ⟨rfl, hb1⟩
  have HU1 : Hid (Up w.heap.size w w1) := (Up.refl w).stay hb1
  clear ca hb1
  by_cases h6 : 60 < n
  · have h6' : (60 : Int) < (n : Int) := by omega
    go_wp2
    go_ret
    exact ⟨rfl, HU1.out.1⟩
  · have h6' : ¬ (60 : Int) < (n : Int) := by omega
    have HST : Hid (ThR w1 (w1.alloc (.map #[] 0)) (.slice none 0 0) (.slice none 0 0) [] [] 0 []) := ⟨OB.nil _ _, OB.nil _ _, (fun k h _ => by cases h), BagB.made w1, (Up.refl w1).alloc _⟩
    go_wp2_with fail
    go_loopg [5, 6, 24] (n) (fun gh bv cv iv wr => ∃ i k : Nat, ∃ ws N : List ByteArray, i ≤ n ∧ gh = n - i ∧ iv = .int .i64 i ∧ k ≤ i ∧ ws.length ≤ i ∧ Hid (RB ws N) ∧ Hid (ThR w1 wr bv cv (wBy ws) (fBy N) k (nub ws)))
    case atStart => exact ⟨0, 0, [], [], Nat.zero_le _, rfl, rfl, Nat.le_refl _, Nat.le_refl _, ⟨(fun s hs => by cases hs), (fun s hs => by cases hs), rfl, List.nodup_nil, Nat.le_refl _⟩, HST⟩
    case round =>
      obtain ⟨i, k, ws, N, hin, hgh, rfl, hki, hwi, HB, HR⟩ := hrel
      obtain ⟨wR, hwR⟩ : ∃ wR, wR = wr := ⟨_, rfl⟩
      rw [← hwR] at HR ⊢
      clear hwR
      by_cases hlt : i < n
      · obtain ⟨bb, off, rfl, hcs, hsz⟩ := HF.out i hlt
        have z0 : (0 : Int) ≤ (i : Int) := by omega
        have z1 : (i : Int) < (n : Int) := by omega
        have HUR : Hid (Up w.heap.size w wR) := HU1.out.stay HR.out.u.1
        have hcx := cell_keep hcs HUR.out.1
        generalize F i = s at hcx hsz
        have cc := check_all s wR hsz (tabs_up HT.out HUR.out.1)
        clear hcs
        by_cases hch : chk s = 0
        · rw [hch] at cc
          have h64 := chk_small hch
          have hpos : 0 < s.size := by
            rcases Nat.eq_zero_or_pos s.size with h | h
            · exact absurd (List.eq_nil_of_length_eq_zero (by simpa using h)) (chk_ne hch)
            · exact h
          have hsl : s.data.toList.length ≤ 64 := by simpa using h64
          have hwl := wBy_len ws HB.out.c
          have hfl := fBy_len N HB.out.n
          have hNl := HB.out.l
          have HWS : Hid (wBy (ws ++ [s]) = (wBy ws ++ s.data.toList) ++ [32, 32, 35, 32, 120, 10]) := wBy_snoc ws s
          have HFS : Hid (fBy (N ++ [s]) = ((((fBy N ++ [32]) ++ s.data.toList) ++ [45, 62, 9]) ++ s.data.toList) ++ [44, 32, 122, 122, 44, 122, 122, 13, 10]) := fBy_snoc N s
          have HCH : Hid (chk s = 0) := hch
          have hfs := fld_size s
          have cf := fun w' (hT' : Tabs w') => fold_at s w' (by omega) hT'
          obtain ⟨f, hf⟩ : ∃ f, fld s = f := ⟨_, rfl⟩
          have HFL : Hid (fld s = f) := hf
          rw [hf] at hfs
          simp only [hf] at cf
          generalize wBy ws = B0 at HR hwl HWS
          obtain ⟨C0, hC0⟩ : ∃ C0, fBy N = C0 := ⟨_, rfl⟩
          rw [hC0] at HR hfl HFS
          have HC0 : Hid (fBy N = C0) := hC0
          clear hC0
          clear hch hf
          go_wp2_with fail
          refine cc.mono ?_
          rintro e w2 ⟨rfl, hb2⟩
          have HR2 : Hid (ThR w1 w2 u5 u6 B0 C0 k (nub ws)) := HR.out.stay hb2
          clear cc hb2 HR hcx HUR
          go_wp2_with (at_builtin; refine app_text2 rfl _ _ 27 9 rfl (w1.heap.size + 1) i0 Tryz.underlying27 Tryz.underlying9 hi hz0 hz1 hz2 _ B0 rfl HR2.out.b s rfl hpos ?c1 HR2.out.size ?_)
          case c1 =>
            omega
          intro g3 cap3 w3 hoZ hgZ haZ
          have hZ := HR2.out.growB hgZ hoZ (by simpa using haZ)
          obtain ⟨B1, hB1⟩ : ∃ B1, B0 ++ s.data.toList = B1 := ⟨_, rfl⟩
          change ThR _ _ _ _ (B0 ++ s.data.toList) _ _ _ at hZ
          rw [hB1] at hZ
          have HB1 : Hid (B0 ++ s.data.toList = B1) := hB1
          have HR3 : Hid (ThR _ _ _ _ _ _ _ _) := hZ
          have hbB1 : B1.length ≤ B0.length + 64 := by rw [← hB1, List.length_append]; omega
          clear hoZ hgZ haZ hZ hB1 HR2
          go_wp2_with (at_builtin; refine app_text2 rfl _ _ 27 9 rfl (w1.heap.size + 1) i0 Tryz.underlying27 Tryz.underlying9 hi hz0 hz1 hz2 _ B1 rfl HR3.out.b ⟨#[32, 32, 35, 32, 120, 10]⟩ rfl (by decide) ?c1 HR3.out.size ?_)
          case c1 =>
            show B1.length + 6 ≤ _
            omega
          intro g4 cap4 w4 hoZ hgZ haZ
          have hZ := HR3.out.growB hgZ hoZ (by simpa using haZ)
          obtain ⟨B2, hB2⟩ : ∃ B2, B1 ++ [32, 32, 35, 32, 120, 10] = B2 := ⟨_, rfl⟩
          change ThR _ _ _ _ (B1 ++ [32, 32, 35, 32, 120, 10]) _ _ _ at hZ
          rw [hB2] at hZ
          have HB2 : Hid (B1 ++ [32, 32, 35, 32, 120, 10] = B2) := hB2
          have HR4 : Hid (ThR _ _ _ _ _ _ _ _) := hZ
          have hbB2 : B2.length ≤ B1.length + 6 := by rw [← hB2, List.length_append]; exact Nat.le_refl _
          clear hoZ hgZ haZ hZ hB2 HR3
          have HRW : Hid (wBy (ws ++ [s]) = B2) := by show _ = _; rw [HWS.out, HB1.out, HB2.out]
          clear HWS HB1 HB2
          have HTX : Hid (∀ w', Up w1.heap.size w1 w' → Tabs w') := fun w' hu => tabs_up HT.out (HU1.out.stay hu.1).1
          go_wp2_with fail
          refine (cf _ (HTX.out _ HR4.out.u)).mono ?_
          rintro e w5 ⟨rfl, hb5⟩
          have HR5 := HR4.out.stay hb5
          clear hb5 HR4
          have hlk := HR5.m.look f (by omega)
          by_cases hin2 : fld s ∈ nub ws
          · have hlk2 := hlk.1 (by rw [← HFL.out]; exact hin2)
            obtain ⟨HRB, HNB⟩ := HB.out.old HCH.out hin2
            have HRB' : Hid (RB (ws ++ [s]) N) := HRB
            have HIN : Hid (f ∈ nub ws) := by show f ∈ _; rw [← HFL.out]; exact hin2
            have HR5' : Hid (ThR w1 w5 _ u6 B2 C0 k (nub ws)) := HR5
            have HNB' : Hid (nub (ws ++ [s]) = nub ws) := HNB
            clear hlk hin2 HRB HNB HR5
            go_wp2_with fail
            refine (cf _ (HTX.out _ HR5'.out.u)).mono ?_
            rintro e w6 ⟨rfl, hb6⟩
            have HR6 : Hid (ThR w1 w6 _ u6 B2 C0 k (nub ws)) := HR5'.out.stay hb6
            clear hb6 HR5' hlk2
            obtain ⟨D, d1, d2, d3, d4⟩ := HR6.out.m
            have HD : Hid ((∀ s : ByteArray, s ∈ nub ws → D.atKey (.string s.data.toList) (.lit (.bool false)) = .lit (.bool true)) ∧ (∀ s : ByteArray, Maps.has D (.string s.data.toList) = true ↔ s ∈ nub ws) ∧ Maps.size D = (nub ws).length) := ⟨d2, d3, d4⟩
            clear d2 d3 d4
            go_wp2_with (at_mapUpdate; refine wpList_mapUpdate_own _ rfl _ _ _ 46 rfl 9 4 lawS Tryz.underlying46 (plainElem (H := Unit) Tryz.prog 4) w1.heap.size k D rfl d1 (by unfold maxLen; omega) _ _ _ rfl rfl (keyS f (by omega)) _ [] (plainB true) ?_)
            intro w7 ho7 hg7
            have hZ7 := HR6.out.put hg7 ((bagB_put f d1 HD.out.1 HD.out.2.1 HD.out.2.2 ho7).1 HIN.out)
            rw [← HRW.out, ← HC0.out, ← HNB'.out] at hZ7
            have HR7 : Hid (ThR _ _ _ _ _ _ _ _) := hZ7
            have hwn : (ws ++ [s]).length ≤ i + 1 := by simp; omega
            clear ho7 hg7 d1 HD HR6 hZ7
            go_wp2
            go_roundg (n - (i + 1))
            case measure => omega
            case rel => exact ⟨i + 1, k + 1, ws ++ [s], N, by omega, rfl, by go_num, by omega, hwn, HRB', HR7⟩
          · have hlk2 := hlk.2 (by rw [← HFL.out]; exact hin2)
            obtain ⟨HRB, HNB⟩ := HB.out.new HCH.out hin2
            have HRB' : Hid (RB (ws ++ [s]) (N ++ [s])) := HRB
            have HIN : Hid (f ∉ nub ws) := by show f ∉ _; rw [← HFL.out]; exact hin2
            have HNB' : Hid (nub (ws ++ [s]) = nub ws ++ [f]) := by show _ = _; rw [HNB, HFL.out]
            have HR5' : Hid (ThR w1 w5 _ u6 B2 C0 k (nub ws)) := HR5
            have HR6 : Hid (ThR w1 (w5.alloc (.cells #[.int .u8 32] 5)) _ u6 B2 C0 k (nub ws)) := HR5.alloc _
            have HS6 : Hid (Srcs (w5.alloc (.cells #[.int .u8 32] 5)) (.slice (some ⟨w5.heap.size, 0, none⟩) 1 1) 1 1 (([32] : List UInt8).map u8c)) := srcs_new w5 #[.int .u8 32] 5 1 1 1 rfl
            clear hlk hin2 HRB HNB HR5 HR5'
            go_wp2_with (at_builtin; refine app_bytes2 rfl _ _ 27 rfl (w1.heap.size + 1) i0 Tryz.underlying27 hi hz0 hz1 hz2 _ C0 rfl HR6.out.c w5.heap.size 1 [32] 1 rfl rfl HS6.out (by decide) (by omega) HR6.out.size ?_)
            intro g7 cap7 w7 ho7 hg7 ha7
            have hZ := HR6.out.growC hg7 ho7 (by simpa using ha7)
            obtain ⟨C1, hC1⟩ : ∃ C1, C0 ++ [32] = C1 := ⟨_, rfl⟩
            rw [hC1] at hZ
            have HC1 : Hid (C0 ++ [32] = C1) := hC1
            have HR7 : Hid (ThR _ _ _ _ _ _ _ _) := hZ
            have hbC1 : C1.length ≤ C0.length + 1 := by rw [← hC1, List.length_append]; exact Nat.le_refl _
            clear ho7 hg7 ha7 hZ hC1 HR6 HS6 hlk2
            go_wp2_with (at_builtin; refine app_text2 rfl _ _ 27 9 rfl (w1.heap.size + 1) i0 Tryz.underlying27 Tryz.underlying9 hi hz0 hz1 hz2 _ C1 rfl HR7.out.c s rfl hpos ?c1 HR7.out.size ?_)
            case c1 =>
              omega
            intro g8 cap8 w8 hoZ hgZ haZ
            have hZ := HR7.out.growC hgZ hoZ (by simpa using haZ)
            obtain ⟨C2, hC2⟩ : ∃ C2, C1 ++ s.data.toList = C2 := ⟨_, rfl⟩
            change ThR _ _ _ _ _ (C1 ++ s.data.toList) _ _ at hZ
            rw [hC2] at hZ
            have HC2 : Hid (C1 ++ s.data.toList = C2) := hC2
            have HR8 : Hid (ThR _ _ _ _ _ _ _ _) := hZ
            have hbC2 : C2.length ≤ C1.length + 64 := by rw [← hC2, List.length_append]; omega
            clear hoZ hgZ haZ hZ hC2 HR7
            go_wp2_with (at_builtin; refine app_text2 rfl _ _ 27 9 rfl (w1.heap.size + 1) i0 Tryz.underlying27 Tryz.underlying9 hi hz0 hz1 hz2 _ C2 rfl HR8.out.c ⟨#[45, 62, 9]⟩ rfl (by decide) ?c1 HR8.out.size ?_)
            case c1 =>
              show C2.length + 3 ≤ _
              omega
            intro g9 cap9 w9 hoZ hgZ haZ
            have hZ := HR8.out.growC hgZ hoZ (by simpa using haZ)
            obtain ⟨C3, hC3⟩ : ∃ C3, C2 ++ [45, 62, 9] = C3 := ⟨_, rfl⟩
            change ThR _ _ _ _ _ (C2 ++ [45, 62, 9]) _ _ at hZ
            rw [hC3] at hZ
            have HC3 : Hid (C2 ++ [45, 62, 9] = C3) := hC3
            have HR9 : Hid (ThR _ _ _ _ _ _ _ _) := hZ
            have hbC3 : C3.length ≤ C2.length + 3 := by rw [← hC3, List.length_append]; exact Nat.le_refl _
            clear hoZ hgZ haZ hZ hC3 HR8
            go_wp2_with (at_builtin; refine app_text2 rfl _ _ 27 9 rfl (w1.heap.size + 1) i0 Tryz.underlying27 Tryz.underlying9 hi hz0 hz1 hz2 _ C3 rfl HR9.out.c s rfl hpos ?c1 HR9.out.size ?_)
            case c1 =>
              omega
            intro g10 cap10 w10 hoZ hgZ haZ
            have hZ := HR9.out.growC hgZ hoZ (by simpa using haZ)
            obtain ⟨C4, hC4⟩ : ∃ C4, C3 ++ s.data.toList = C4 := ⟨_, rfl⟩
            change ThR _ _ _ _ _ (C3 ++ s.data.toList) _ _ at hZ
            rw [hC4] at hZ
            have HC4 : Hid (C3 ++ s.data.toList = C4) := hC4
            have HR10 : Hid (ThR _ _ _ _ _ _ _ _) := hZ
            have hbC4 : C4.length ≤ C3.length + 64 := by rw [← hC4, List.length_append]; omega
            clear hoZ hgZ haZ hZ hC4 HR9
            go_wp2_with (at_builtin; refine app_text2 rfl _ _ 27 9 rfl (w1.heap.size + 1) i0 Tryz.underlying27 Tryz.underlying9 hi hz0 hz1 hz2 _ C4 rfl HR10.out.c ⟨#[44, 32, 122, 122, 44, 122, 122, 13, 10]⟩ rfl (by decide) ?c1 HR10.out.size ?_)
            case c1 =>
              show C4.length + 9 ≤ _
              omega
            intro g11 cap11 w11 hoZ hgZ haZ
            have hZ := HR10.out.growC hgZ hoZ (by simpa using haZ)
            obtain ⟨C5, hC5⟩ : ∃ C5, C4 ++ [44, 32, 122, 122, 44, 122, 122, 13, 10] = C5 := ⟨_, rfl⟩
            change ThR _ _ _ _ _ (C4 ++ [44, 32, 122, 122, 44, 122, 122, 13, 10]) _ _ at hZ
            rw [hC5] at hZ
            have HC5 : Hid (C4 ++ [44, 32, 122, 122, 44, 122, 122, 13, 10] = C5) := hC5
            have HR11 : Hid (ThR _ _ _ _ _ _ _ _) := hZ
            have hbC5 : C5.length ≤ C4.length + 9 := by rw [← hC5, List.length_append]; exact Nat.le_refl _
            clear hoZ hgZ haZ hZ hC5 HR10
            have HRF : Hid (fBy (N ++ [s]) = C5) := by show _ = _; rw [HFS.out, HC1.out, HC2.out, HC3.out, HC4.out, HC5.out]
            clear HFS HC1 HC2 HC3 HC4 HC5
            go_wp2_with fail
            refine (cf _ (HTX.out _ HR11.out.u)).mono ?_
            rintro e w12 ⟨rfl, hb12⟩
            have HR12 := HR11.out.stay hb12
            obtain ⟨D, d1, d2, d3, d4⟩ := HR12.m
            have HR12' : Hid (ThR w1 w12 _ _ B2 C5 k (nub ws)) := HR12
            have HD : Hid ((∀ s : ByteArray, s ∈ nub ws → D.atKey (.string s.data.toList) (.lit (.bool false)) = .lit (.bool true)) ∧ (∀ s : ByteArray, Maps.has D (.string s.data.toList) = true ↔ s ∈ nub ws) ∧ Maps.size D = (nub ws).length) := ⟨d2, d3, d4⟩
            clear d2 d3 d4 hb12 HR11 HR12
            go_wp2_with (at_mapUpdate; refine wpList_mapUpdate_own _ rfl _ _ _ 46 rfl 9 4 lawS Tryz.underlying46 (plainElem (H := Unit) Tryz.prog 4) w1.heap.size k D rfl d1 (by unfold maxLen; omega) _ _ _ rfl rfl (keyS f (by omega)) _ [] (plainB true) ?_)
            intro w13 ho13 hg13
            have hZ13 := HR12'.out.put hg13 ((bagB_put f d1 HD.out.1 HD.out.2.1 HD.out.2.2 ho13).2 HIN.out)
            rw [← HRW.out, ← HRF.out, ← HNB'.out] at hZ13
            have HR13 : Hid (ThR _ _ _ _ _ _ _ _) := hZ13
            have hwn : (ws ++ [s]).length ≤ i + 1 := by simp; omega
            clear ho13 hg13 d1 HD HR12' hZ13
            go_wp2
            go_roundg (n - (i + 1))
            case measure => omega
            case rel => exact ⟨i + 1, k + 1, ws ++ [s], N ++ [s], by omega, rfl, by go_num, by omega, hwn, HRB', HR13⟩
        · generalize chk s = z at cc hch
          go_wp2_with fail
          refine cc.mono ?_
          rintro e w2 ⟨rfl, hb2⟩
          have HR2 : Hid (ThR w1 w2 u5 u6 (wBy ws) (fBy N) k (nub ws)) := HR.out.stay hb2
          clear cc hb2 HR hcx HUR
          go_wp2
          go_roundg (n - (i + 1))
          case measure => omega
          case rel => exact ⟨i + 1, k, ws, N, by omega, rfl, by go_num, by omega, by omega, HB, HR2⟩
      · obtain rfl : i = n := by omega
        have hwl := wBy_len ws HB.out.c
        have hfl := fBy_len N HB.out.n
        have hNl := HB.out.l
        have HUR : Hid (Up w.heap.size w wR) := HU1.out.stay HR.out.u.1
        have HDJ : Hid (∀ k, u5.ownBlock = some k → u6.ownBlock = some k → False) := HR.out.d
        have HOB : Hid (OB wR (w1.heap.size + 1) u5 (wBy ws)) := HR.out.b
        have HOC : Hid (OB wR (w1.heap.size + 1) u6 (fBy N)) := HR.out.c
        have HBG : Hid (BagB wR w1.heap.size k (nub ws)) := HR.out.m
        have hsz1 : w1.heap.size + 1 ≤ wR.heap.size := HR.out.size
        have HU5 : Hid (Up w1.heap.size w1 wR) := HR.out.u
        obtain ⟨ba, bc, hbf⟩ := OB.form HR.out.b
        obtain ⟨cA, cC, hcf⟩ := OB.form HR.out.c
        subst hbf
        subst hcf
        have HSC : Hid (Lns.BSl wR (.slice cA (fBy N).length cC) (bA (fBy N))) := HOC.out.bsl
        clear HR
        cases tw
        · obtain ⟨WW, hWW⟩ : ∃ WW, WW = ws := ⟨_, rfl⟩
          have HWC : Hid ((∀ s ∈ WW, chk s = 0) ∧ nub WW = nub ws ∧ WW.length ≤ 120) := by subst hWW; exact ⟨HB.out.c, rfl, by omega⟩
          have HSB : Hid (Lns.BSl wR (.slice ba (wBy ws).length bc) (bA (wBy WW))) := by rw [hWW]; exact HOB.out.bsl
          have HBW : Hid ((wBy WW).length ≤ 30000) := by show _ ≤ _; rw [hWW]; omega
          obtain ⟨wZ, hwZ⟩ : ∃ wZ, wZ = wR := ⟨_, rfl⟩
          rw [← hwZ] at HSB HSC HBG HUR ⊢
          obtain ⟨bn, hbn⟩ : ∃ bn, (wBy ws).length = bn := ⟨_, rfl⟩
          rw [hbn] at HSB ⊢
          clear hwZ hWW hbn HOB HOC HDJ HU5 hsz1
          have hWW := back_words WW HWC.out.1 HWC.out.2.2
          have hFF := back_fixes N HB.out.n (by rw [HB.out.e]; exact HB.out.d) (by omega)
          rw [HWC.out.2.1] at hWW
          rw [HB.out.e] at hFF
          have HW : Hid (longL (linesL (bA (wBy WW))) 0 = 0 ∧ runR wstep (linesL (bA (wBy WW))) 0 ⟨0, []⟩ = (⟨0 + WW.length, nub ws⟩, 0, 0)) := hWW
          have HFX : Hid (longL (linesL (bA (fBy N))) 0 = 0 ∧ runR fstep (linesL (bA (fBy N))) 0 ([], false) = (((nub ws).map prF, false), 0, 0)) := hFF
          have hsB : (bA (wBy WW)).size ≤ 40000 := by rw [bA_size]; have := HBW.out; omega
          have hsC : (bA (fBy N)).size ≤ 40000 := by rw [bA_size]; omega
          have HND : Hid ((nub ws).Nodup) := HB.out.d
          have HLL : Hid ((nub ws).length ≤ 60) := by show _ ≤ _; rw [← HB.out.e, List.length_map]; omega
          have HSZ : Hid (∀ f ∈ nub ws, f.size ≤ 1000) := fun f hf => by
            rw [← HB.out.e] at hf
            obtain ⟨s, hs, rfl⟩ := List.mem_map.1 hf
            have h1 := fld_size s
            have h2 := chk_small (HB.out.n s hs)
            omega
          clear hWW hFF hwl hfl hNl HB HWC HBW hwi
          generalize bA (wBy WW) = Bb at hsB HSB HW
          generalize bA (fBy N) = Cc at hsC HSC HFX
          generalize (fBy N).length = cn at *
          generalize nub ws = L at HBG HW HFX HND HLL HSZ
          have HTT : Hid (Tabs wZ ∧ wZ.cell? ⟨3, 0, none⟩ = some (.int .i64 m)) := ⟨tabs_up HT.out HUR.out.1, (HUR.out.1.cell (World.block_lt_of_cell? w _ HM.out)).trans HM.out⟩
          clear HT HM HF HST
          have c1 := words_run Bb _ m wZ hsB HTT.out.1 HSB.out HTT.out.2 HW.out.1
          go_wp2_with fail
          refine c1.mono ?_
          rintro e wX ⟨st, c, ln, hrun, hbX, hcase⟩
          have he := hrun.symm.trans HW.out.2
          cases he
          obtain ⟨_, u, rfl, hou⟩ : (0 : Int) = 0 ∧ ∃ u, e = .returned (.tuple #[u, .nilIface]) ∧ wX.ownsRow wZ.heap.size 9 1 u L.length ((srt L).map Value.string) := by
            rcases hcase with h | ⟨h, _⟩
            · exact h
            · exact absurd rfl h
          have c2 := fixes_run Cc _ m wX hsC (tabs_up HTT.out.1 hbX) (HSC.out.stay hbX) ((hbX.cell (World.block_lt_of_cell? wZ _ HTT.out.2)).trans HTT.out.2) HFX.out.1
          have HUX : Hid (Up w.heap.size w wX) := HUR.out.stay hbX
          have HBX : Hid (BagB wX w1.heap.size k L) := HBG.out.stay hbX
          have HOU : Hid (wX.ownsRow wZ.heap.size 9 1 u L.length ((srt L).map Value.string)) := hou
          obtain ⟨ua, uc, huf⟩ := own_form hou
          subst huf
          clear hcase hou hrun c1 hbX HUR HBG HW HSB HSC HTT
          go_wp2_with fail
          refine c2.mono ?_
          rintro e wY ⟨st', c', ln', hrun', hbY, hcase'⟩
          have he := hrun'.symm.trans HFX.out.2
          cases he
          obtain ⟨_, u', ys, rfl, hou', hpm, hri, hto⟩ : (0 : Int) = 0 ∧ ∃ u ys, e = .returned (.tuple #[u, .nilIface]) ∧ wY.ownsRow wX.heap.size 49 2 u ys.length (fcells ys) ∧ (ys.map Fx.p).Perm (L.map prF) ∧ Rise ys ∧ ∀ x ∈ ys, wY.ownsRow wX.heap.size 9 1 x.v x.l.length (x.l.map Value.string) := by
            rcases hcase' with h | ⟨h, _⟩
            · exact h
            · exact absurd rfl h
          have hyp := back_pairs HND.out hpm hri
          have hyl : ys.length = L.length := by have h := congrArg List.length hyp; rw [List.length_map, List.length_map, srt_len] at h; exact h
          have HUY : Hid (Up w.heap.size w wY) := HUX.out.stay hbY
          have HBY : Hid (BagB wY w1.heap.size k L) := HBX.out.stay hbY
          have HOY : Hid (wY.ownsRow wZ.heap.size 9 1 (.slice ua L.length uc) L.length ((srt L).map Value.string)) := own_stay HOU.out hbY
          have hcnt := HBY.out.count 3
          have hxs := hou'
          obtain ⟨xa, xc, hxf⟩ := own_form hou'
          subst hxf
          have HCELL : Hid (∀ j, j < L.length → ∃ f gm gx gt tc, ua = some ⟨gm, 0, none⟩ ∧ xa = some ⟨gx, 0, none⟩ ∧ wY.cell? ⟨gm, j, none⟩ = some (.string f) ∧ wY.cell? ⟨gx, j * 2, none⟩ = some (.string f) ∧ wY.cell? ⟨gx, j * 2 + 1, none⟩ = some (.slice (some ⟨gt, 0, none⟩) (toF f).length tc) ∧ wY.cell? ⟨gt, 0, none⟩ = some (.string f) ∧ (Instr.lookup 46 (.map (some w1.heap.size)) (.string f) false).run Tryz.prog wY = .ok (.bool true) wY ∧ (∀ p, j = p + 1 → ∃ f', wY.cell? ⟨gm, p, none⟩ = some (.string f') ∧ lw f' f = true)) := fun j hj => back_cells HND.out HSZ.out hyp hyl HOY.out hxs hto HBY.out j hj
          rw [hyl]
          have HUE : Hid (Below w.heap.size w wY) := HUY.out.1
          clear hcase' hou' hrun' c2 hbY hpm hri hto hyp hyl hxs HUX HBX HOU HFX HND HOY HUY HBY HSZ
          obtain ⟨K, hK⟩ : ∃ K, L.length = K := ⟨_, rfl⟩
          rw [hK] at hcnt HCELL HLL ⊢
          have hk60 : K ≤ 60 := HLL.out
          clear hK
          go_wp2_with fail
          go_loopg [90] (K) (fun gh iv wr => ∃ j : Nat, j ≤ K ∧ gh = K - j ∧ iv = .int .i64 j ∧ wr = wY)
          case atStart => exact ⟨0, Nat.zero_le _, rfl, rfl, rfl⟩
          case round =>
            obtain ⟨j, hjK, hgj, rfl, hw⟩ := hrel
            subst wr
            by_cases hlj : j < K
            · obtain ⟨f, gm, gx, gt, tc, rfl, rfl, q1, q2, q3, q4, q5, q6⟩ := HCELL.out j hlj
              have y0 : (0 : Int) ≤ (j : Int) := by omega
              have y1 : (j : Int) < (K : Int) := by omega
              have hzl := toF_len f
              rcases Nat.eq_zero_or_pos j with hj0 | hj0
              · subst hj0
                simp only [Nat.zero_mul, Nat.zero_add] at q2 q3
                clear q6
                rcases Classical.em (f = zz) with hz | hz
                · rw [hzl.1 hz] at q3
                  have hz' : f = ⟨#[122, 122]⟩ := hz
                  subst hz'
                  clear hzl hz
                  go_wp2
                  go_roundg (K - (0 + 1))
                  case measure => omega
                  case rel => exact ⟨0 + 1, by omega, rfl, by go_num, rfl⟩
                · rw [hzl.2.1 hz] at q3
                  have hz1 : (f.toList == [122, 122]) = false := zz_ne hz
                  clear hzl hz
                  go_wp2
                  go_roundg (K - (0 + 1))
                  case measure => omega
                  case rel => exact ⟨0 + 1, by omega, rfl, by go_num, rfl⟩
              · obtain ⟨p, hp⟩ : ∃ p, j = p + 1 := ⟨j - 1, by omega⟩
                obtain ⟨f', r1, r2⟩ := q6 p hp
                rw [← lw_less] at r2
                have y2 : (0 : Int) < (j : Int) := by omega
                have y3 : (j : Int) - 1 = (p : Int) := by omega
                have y4 : (0 : Int) ≤ (p : Int) := by omega
                have y5 : (p : Int) < (K : Int) := by omega
                clear q6 hp hj0
                rcases Classical.em (f = zz) with hz | hz
                · rw [hzl.1 hz] at q3
                  have hz' : f = ⟨#[122, 122]⟩ := hz
                  subst hz'
                  have r3 : Op.bytesLess f'.toList [122, 122] = true := by rw [Lib.toList_data ⟨#[122, 122]⟩] at r2; exact r2
                  clear hzl hz
                  go_wp2
                  go_roundg (K - (j + 1))
                  case measure => omega
                  case rel => exact ⟨j + 1, by omega, rfl, by go_num, rfl⟩
                · rw [hzl.2.1 hz] at q3
                  have hz1 : (f.toList == [122, 122]) = false := zz_ne hz
                  clear hzl hz
                  go_wp2
                  go_roundg (K - (j + 1))
                  case measure => omega
                  case rel => exact ⟨j + 1, by omega, rfl, by go_num, rfl⟩
            · obtain rfl : j = K := by omega
              go_wp2
              go_ret
              exact ⟨rfl, HUE.out⟩
        · go_wp2_with (at_builtin; refine app_src rfl _ _ 27 rfl (w1.heap.size + 1) 5 i0 _ 1 1 Tryz.underlying27 hi hz0 hz1 hz2 rfl (by decide) _ _ _ rfl HOB.out _ _ _ rfl (srcs_own HOB.out) (u8_one _) (by unfold maxLen; omega) (by omega) hsz1 ?_)
          intro vZ wZ hoZ hgZ
          have hobZ : OB wZ (w1.heap.size + 1) vZ (wBy (ws ++ ws)) := by
            have e : wBy (ws ++ ws) = wBy ws ++ wBy ws := by simp [wBy]
            rw [e]
            unfold OB
            rw [List.length_append, List.map_append]
            exact hoZ
          have HWC : Hid ((∀ s ∈ ws ++ ws, chk s = 0) ∧ nub (ws ++ ws) = nub ws ∧ (ws ++ ws).length ≤ 120) := ⟨fun s hs => (List.mem_append.1 hs).elim (HB.out.c s) (HB.out.c s), nub_twice ws, by simp; omega⟩
          have hwl2 := wBy_len (ws ++ ws) HWC.out.1
          obtain ⟨WW, hWW⟩ : ∃ WW, ws ++ ws = WW := ⟨_, rfl⟩
          rw [hWW] at HWC hwl2 hobZ
          have HSB : Hid (Lns.BSl wZ vZ (bA (wBy WW))) := hobZ.bsl
          have HBW : Hid ((wBy WW).length ≤ 30000) := by have := HWC.out.2.2; show _ ≤ _; omega
          have HSC2 : Hid (Lns.BSl wZ (.slice cA (fBy N).length cC) (bA (fBy N))) := (ob_kept HOC.out hgZ (fun k h1 h2 => HDJ.out k h2 h1)).bsl
          have HBG2 : Hid (BagB wZ w1.heap.size k (nub ws)) := grown_bag HBG.out HOB.out hgZ (Nat.lt_succ_self _)
          have hu2 : Up w1.heap.size w1 wZ := HU5.out.grown hgZ (fun k hk => by have := own_base HOB.out k hk; omega)
          have HUR2 : Hid (Up w.heap.size w wZ) := HU1.out.stay hu2.1
          obtain ⟨ba2, bc2, hbf2⟩ := OB.form hobZ
          subst hbf2
          obtain ⟨bn, hbn⟩ : ∃ bn, (wBy WW).length = bn := ⟨_, rfl⟩
          rw [hbn] at HSB ⊢
          clear hoZ hgZ hobZ hWW hwl2 hu2 HOB HOC HDJ HU5 hsz1 HSC HBG HUR hbn
          have HSC := HSC2
          have HBG := HBG2
          have HUR := HUR2
          clear HSC2 HBG2 HUR2
          have hWW := back_words WW HWC.out.1 HWC.out.2.2
          have hFF := back_fixes N HB.out.n (by rw [HB.out.e]; exact HB.out.d) (by omega)
          rw [HWC.out.2.1] at hWW
          rw [HB.out.e] at hFF
          have HW : Hid (longL (linesL (bA (wBy WW))) 0 = 0 ∧ runR wstep (linesL (bA (wBy WW))) 0 ⟨0, []⟩ = (⟨0 + WW.length, nub ws⟩, 0, 0)) := hWW
          have HFX : Hid (longL (linesL (bA (fBy N))) 0 = 0 ∧ runR fstep (linesL (bA (fBy N))) 0 ([], false) = (((nub ws).map prF, false), 0, 0)) := hFF
          have hsB : (bA (wBy WW)).size ≤ 40000 := by rw [bA_size]; have := HBW.out; omega
          have hsC : (bA (fBy N)).size ≤ 40000 := by rw [bA_size]; omega
          have HND : Hid ((nub ws).Nodup) := HB.out.d
          have HLL : Hid ((nub ws).length ≤ 60) := by show _ ≤ _; rw [← HB.out.e, List.length_map]; omega
          have HSZ : Hid (∀ f ∈ nub ws, f.size ≤ 1000) := fun f hf => by
            rw [← HB.out.e] at hf
            obtain ⟨s, hs, rfl⟩ := List.mem_map.1 hf
            have h1 := fld_size s
            have h2 := chk_small (HB.out.n s hs)
            omega
          clear hWW hFF hwl hfl hNl HB HWC HBW hwi
          generalize bA (wBy WW) = Bb at hsB HSB HW
          generalize bA (fBy N) = Cc at hsC HSC HFX
          generalize (fBy N).length = cn at *
          generalize nub ws = L at HBG HW HFX HND HLL HSZ
          have HTT : Hid (Tabs wZ ∧ wZ.cell? ⟨3, 0, none⟩ = some (.int .i64 m)) := ⟨tabs_up HT.out HUR.out.1, (HUR.out.1.cell (World.block_lt_of_cell? w _ HM.out)).trans HM.out⟩
          clear HT HM HF HST
          have c1 := words_run Bb _ m wZ hsB HTT.out.1 HSB.out HTT.out.2 HW.out.1
          go_wp2_with fail
          refine c1.mono ?_
          rintro e wX ⟨st, c, ln, hrun, hbX, hcase⟩
          have he := hrun.symm.trans HW.out.2
          cases he
          obtain ⟨_, u, rfl, hou⟩ : (0 : Int) = 0 ∧ ∃ u, e = .returned (.tuple #[u, .nilIface]) ∧ wX.ownsRow wZ.heap.size 9 1 u L.length ((srt L).map Value.string) := by
            rcases hcase with h | ⟨h, _⟩
            · exact h
            · exact absurd rfl h
          have c2 := fixes_run Cc _ m wX hsC (tabs_up HTT.out.1 hbX) (HSC.out.stay hbX) ((hbX.cell (World.block_lt_of_cell? wZ _ HTT.out.2)).trans HTT.out.2) HFX.out.1
          have HUX : Hid (Up w.heap.size w wX) := HUR.out.stay hbX
          have HBX : Hid (BagB wX w1.heap.size k L) := HBG.out.stay hbX
          have HOU : Hid (wX.ownsRow wZ.heap.size 9 1 u L.length ((srt L).map Value.string)) := hou
          obtain ⟨ua, uc, huf⟩ := own_form hou
          subst huf
          clear hcase hou hrun c1 hbX HUR HBG HW HSB HSC HTT
          go_wp2_with fail
          refine c2.mono ?_
          rintro e wY ⟨st', c', ln', hrun', hbY, hcase'⟩
          have he := hrun'.symm.trans HFX.out.2
          cases he
          obtain ⟨_, u', ys, rfl, hou', hpm, hri, hto⟩ : (0 : Int) = 0 ∧ ∃ u ys, e = .returned (.tuple #[u, .nilIface]) ∧ wY.ownsRow wX.heap.size 49 2 u ys.length (fcells ys) ∧ (ys.map Fx.p).Perm (L.map prF) ∧ Rise ys ∧ ∀ x ∈ ys, wY.ownsRow wX.heap.size 9 1 x.v x.l.length (x.l.map Value.string) := by
            rcases hcase' with h | ⟨h, _⟩
            · exact h
            · exact absurd rfl h
          have hyp := back_pairs HND.out hpm hri
          have hyl : ys.length = L.length := by have h := congrArg List.length hyp; rw [List.length_map, List.length_map, srt_len] at h; exact h
          have HUY : Hid (Up w.heap.size w wY) := HUX.out.stay hbY
          have HBY : Hid (BagB wY w1.heap.size k L) := HBX.out.stay hbY
          have HOY : Hid (wY.ownsRow wZ.heap.size 9 1 (.slice ua L.length uc) L.length ((srt L).map Value.string)) := own_stay HOU.out hbY
          have hcnt := HBY.out.count 3
          have hxs := hou'
          obtain ⟨xa, xc, hxf⟩ := own_form hou'
          subst hxf
          have HCELL : Hid (∀ j, j < L.length → ∃ f gm gx gt tc, ua = some ⟨gm, 0, none⟩ ∧ xa = some ⟨gx, 0, none⟩ ∧ wY.cell? ⟨gm, j, none⟩ = some (.string f) ∧ wY.cell? ⟨gx, j * 2, none⟩ = some (.string f) ∧ wY.cell? ⟨gx, j * 2 + 1, none⟩ = some (.slice (some ⟨gt, 0, none⟩) (toF f).length tc) ∧ wY.cell? ⟨gt, 0, none⟩ = some (.string f) ∧ (Instr.lookup 46 (.map (some w1.heap.size)) (.string f) false).run Tryz.prog wY = .ok (.bool true) wY ∧ (∀ p, j = p + 1 → ∃ f', wY.cell? ⟨gm, p, none⟩ = some (.string f') ∧ lw f' f = true)) := fun j hj => back_cells HND.out HSZ.out hyp hyl HOY.out hxs hto HBY.out j hj
          rw [hyl]
          have HUE : Hid (Below w.heap.size w wY) := HUY.out.1
          clear hcase' hou' hrun' c2 hbY hpm hri hto hyp hyl hxs HUX HBX HOU HFX HND HOY HUY HBY HSZ
          obtain ⟨K, hK⟩ : ∃ K, L.length = K := ⟨_, rfl⟩
          rw [hK] at hcnt HCELL HLL ⊢
          have hk60 : K ≤ 60 := HLL.out
          clear hK
          go_wp2_with fail
          go_loopg [90] (K) (fun gh iv wr => ∃ j : Nat, j ≤ K ∧ gh = K - j ∧ iv = .int .i64 j ∧ wr = wY)
          case atStart => exact ⟨0, Nat.zero_le _, rfl, rfl, rfl⟩
          case round =>
            obtain ⟨j, hjK, hgj, rfl, hw⟩ := hrel
            subst wr
            by_cases hlj : j < K
            · obtain ⟨f, gm, gx, gt, tc, rfl, rfl, q1, q2, q3, q4, q5, q6⟩ := HCELL.out j hlj
              have y0 : (0 : Int) ≤ (j : Int) := by omega
              have y1 : (j : Int) < (K : Int) := by omega
              have hzl := toF_len f
              rcases Nat.eq_zero_or_pos j with hj0 | hj0
              · subst hj0
                simp only [Nat.zero_mul, Nat.zero_add] at q2 q3
                clear q6
                rcases Classical.em (f = zz) with hz | hz
                · rw [hzl.1 hz] at q3
                  have hz' : f = ⟨#[122, 122]⟩ := hz
                  subst hz'
                  clear hzl hz
                  go_wp2
                  go_roundg (K - (0 + 1))
                  case measure => omega
                  case rel => exact ⟨0 + 1, by omega, rfl, by go_num, rfl⟩
                · rw [hzl.2.1 hz] at q3
                  have hz1 : (f.toList == [122, 122]) = false := zz_ne hz
                  clear hzl hz
                  go_wp2
                  go_roundg (K - (0 + 1))
                  case measure => omega
                  case rel => exact ⟨0 + 1, by omega, rfl, by go_num, rfl⟩
              · obtain ⟨p, hp⟩ : ∃ p, j = p + 1 := ⟨j - 1, by omega⟩
                obtain ⟨f', r1, r2⟩ := q6 p hp
                rw [← lw_less] at r2
                have y2 : (0 : Int) < (j : Int) := by omega
                have y3 : (j : Int) - 1 = (p : Int) := by omega
                have y4 : (0 : Int) ≤ (p : Int) := by omega
                have y5 : (p : Int) < (K : Int) := by omega
                clear q6 hp hj0
                rcases Classical.em (f = zz) with hz | hz
                · rw [hzl.1 hz] at q3
                  have hz' : f = ⟨#[122, 122]⟩ := hz
                  subst hz'
                  have r3 : Op.bytesLess f'.toList [122, 122] = true := by rw [Lib.toList_data ⟨#[122, 122]⟩] at r2; exact r2
                  clear hzl hz
                  go_wp2
                  go_roundg (K - (j + 1))
                  case measure => omega
                  case rel => exact ⟨j + 1, by omega, rfl, by go_num, rfl⟩
                · rw [hzl.2.1 hz] at q3
                  have hz1 : (f.toList == [122, 122]) = false := zz_ne hz
                  clear hzl hz
                  go_wp2
                  go_roundg (K - (j + 1))
                  case measure => omega
                  case rel => exact ⟨j + 1, by omega, rfl, by go_num, rfl⟩
            · obtain rfl : j = K := by omega
              go_wp2
              go_ret
              exact ⟨rfl, HUE.out⟩
end Go.Proofs.YtgijihfijoiafaaGreatDoor
