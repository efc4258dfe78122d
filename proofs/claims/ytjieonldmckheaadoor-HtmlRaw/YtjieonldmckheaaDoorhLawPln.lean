/- HtmlPlain. -/
import Derived.Test.YtjieonldmckheaaDoorhPlnP
import Derived.Test.YtjieonldmckheaaDoorhCln
namespace Go.Proofs.YtjieonldmckheaaDoor
set_option linter.unusedVariables false
open Go.RowKit Go.ChangeShapes
set_option maxRecDepth 100000 in
theorem clean_any {w : World} {ad : Option Addr} {n cap : Nat} {c : Nat → Int} (h : BC w ad n c) (hn : n ≤ 1000) (bad : Int) :
    Calls Tryd.prog 26 #[.slice ad n cap, .int .u8 bad] w fun ev w' => ∃ v, ev = .returned v ∧ OB w' w.heap.size v (wo bad (cl c n)) ∧ Below w.heap.size w w' := by
  have HB : Hid (BC w ad n c) := h
  obtain ⟨Z, hZ⟩ : ∃ Z, wo bad (cl c n) = Z := ⟨_, rfl⟩
  have HZ : Hid (wo bad (cl c n) = Z) := hZ
  rw [hZ]
  clear h hZ
  go_enter Tryd.func26, Tryd.ntmps26
  go_wp2
  go_loopg [5, 10] n (fun q bv iv wr => ∃ (i : Nat) (bd : Option Addr) (bn bc : Nat), i ≤ n ∧ q = n - i ∧ iv = .int .i64 i ∧ bv = .slice bd bn bc ∧ bn ≤ i ∧ Hid (∃ l, l.length = bn ∧ OB wr w.heap.size (.slice bd bn bc) l ∧ l = wo bad ((cl c n).take i)) ∧ Hid (Up w.heap.size w wr))
  case atStart => exact ⟨0, none, 0, 0, Nat.zero_le _, rfl, rfl, rfl, Nat.zero_le _, ⟨[], rfl, OB.nil _ _, rfl⟩, Up.refl w⟩
  case round =>
    obtain ⟨i, bd, bn, bc, hi, hq, rfl, rfl, hbn, HL, HU⟩ := hrel
    obtain ⟨l, hl1, hl2, hl3⟩ := HL.out
    have HO : Hid (OB wr w.heap.size (.slice bd bn bc) l ∧ l.length = bn ∧ l = wo bad ((cl c n).take i)) := ⟨hl2, hl1, hl3⟩
    have hu := HU.out.2
    clear hl1 hl2 hl3 HL
    by_cases hlt : i < n
    · have z1 : (i : Int) < (n : Int) := by omega
      have z2 : (0 : Int) ≤ (i : Int) := by omega
      obtain ⟨b, off, rfl, hc⟩ := HB.out i hlt
      have hcw := cell_stay hc HU.out.1
      obtain ⟨x, hx⟩ : ∃ x, c i = x := ⟨_, rfl⟩
      rw [hx] at hcw
      have HT : Hid ((cl c n).take (i + 1) = (cl c n).take i ++ [x]) := by show _ = _; rw [cl_take c n i hlt, hx]
      clear hc hx
      by_cases hxb : x = bad
      · have k1 : (x != bad) = false := by simpa using hxb
        have HE : Hid (l = wo bad ((cl c n).take (i + 1))) := by show l = _; rw [HT.out, hxb, wo_snoc_no]; exact HO.out.2.2
        clear hxb
        go_wp2
        go_roundg (n - (i + 1))
        case measure => omega
        case rel => exact ⟨i + 1, bd, bn, bc, by omega, rfl, by go_num, rfl, by omega, ⟨l, HO.out.2.1, HO.out.1, HE.out⟩, HU⟩
      · have k1 : (x != bad) = true := by simpa using hxb
        have HE : Hid (l ++ [x] = wo bad ((cl c n).take (i + 1))) := by show l ++ [x] = _; rw [HT.out, wo_snoc_yes hxb, ← HO.out.2.2]
        go_wp2_with (at_builtin; refine app_ob rfl _ _ rfl w.heap.size _ l rfl (HO.out.1.stay (below_alloc wr _)) (some ⟨wr.heap.size, 0, none⟩) 1 1 (cL [x]) rfl (one_bc wr x) (by rw [HO.out.2.1]; omega) (by simp; omega) ?_)
        intro v1 w1 ho1 hg1
        rw [cl_one] at ho1
        obtain ⟨bd1, bc1, rfl, -⟩ := ho1.form
        have HO1 : Hid (OB w1 w.heap.size (.slice bd1 (l ++ [x]).length bc1) (l ++ [x])) := ho1
        have HU1 : Hid (Up w.heap.size w w1) := (HU.out.alloc _).grown hg1 (own_base HO.out.1)
        obtain ⟨n1, hn1⟩ : ∃ n1, (l ++ [x]).length = n1 := ⟨_, rfl⟩
        have HN1 : Hid ((l ++ [x]).length = n1) := hn1
        have hn1b : n1 ≤ i + 1 := by rw [← hn1, List.length_append, HO.out.2.1]; simp; omega
        rw [hn1] at HO1 ⊢
        clear ho1 hg1 hn1
        go_wp2
        go_roundg (n - (i + 1))
        case measure => omega
        case rel => exact ⟨i + 1, bd1, n1, bc1, by omega, rfl, by go_num, rfl, hn1b, ⟨l ++ [x], HN1.out, HO1.out, HE.out⟩, HU1⟩
    · obtain rfl : i = n := by omega
      have z1 : ¬ (i : Int) < (i : Int) := by omega
      have HE : Hid (OB wr w.heap.size (.slice bd bn bc) Z) := by
        show OB _ _ _ _
        have := HO.out.2.2
        rw [List.take_of_length_le (by rw [cl_len]; omega), HZ.out] at this
        rw [← this]
        exact HO.out.1
      go_wp2
      go_ret
      exact ⟨_, rfl, HE.out, HU.out.1⟩
theorem nums_app (l m : List Int) : strOfNums (l ++ m) = strOfNums l ++ strOfNums m := by
  apply ByteArray.ext
  apply Array.ext'
  rw [ByteArray.data_append, Array.toList_append, strOfNums_data, strOfNums_data, strOfNums_data, List.map_append]
set_option maxRecDepth 100000 in
set_option maxHeartbeats 2000000 in
theorem plain_law {w : World} (hG : Glo w) {aa : Option Addr} {an acap : Nat} {ac : Nat → Int} (haC : Ch ac an) (ha : BC w aa an ac) (han : an ≤ 140737488351232) {ba : Option Addr} {bn bcap : Nat} {bc : Nat → Int} (hbC : Ch bc bn) (hb : BC w ba bn bc) (hbn : bn ≤ 140737488351232) {ta : Option Addr} {tn tcap : Nat} {tc : Nat → Int} (htC : Ch tc tn) (ht : BC w ta tn tc) (htn : tn ≤ 140737488351232) :
    Calls Tryd.prog 7 #[.slice aa an acap, .slice ba bn bcap, .slice ta tn tcap] w fun ev w' => ev = .returned (.bool true) ∧ Below w.heap.size w w' := by
  have ca := awake_any w hG
  have HH : Hid (Glo w ∧ (Ch ac an ∧ BC w aa an ac) ∧ (Ch bc bn ∧ BC w ba bn bc) ∧ (Ch tc tn ∧ BC w ta tn tc)) := ⟨hG, ⟨haC, ha⟩, ⟨hbC, hb⟩, ⟨htC, ht⟩⟩
  clear hG haC ha hbC hb htC ht
  by_cases hbig : 1000 < an + bn + tn
  · have z1 : (1000 : Int) < (an : Int) + (bn : Int) + (tn : Int) := by omega
    go_enter Tryd.func7, Tryd.ntmps7
    go_wp2_with (refine ca.mono ?_; rintro ev w1 ⟨rfl, hb1⟩)
    go_ret
    exact ⟨rfl, hb1⟩
  · have z1 : ¬ (1000 : Int) < (an : Int) + (bn : Int) + (tn : Int) := by omega
    go_enter Tryd.func7, Tryd.ntmps7
    go_wp2_with fail
    refine ca.mono ?_
    rintro ev w1 ⟨rfl, hb1⟩
    have HB1 : Hid (Below w.heap.size w w1) := hb1
    have c1 := clean_any (cap := acap) (HH.out.2.1.2.stay hb1) (by omega) 60
    clear ca hb1
    go_wp2_with fail
    refine c1.mono ?_
    rintro ev w2 ⟨v2, rfl, ho2, hb2⟩
    have HB2 : Hid (Below w.heap.size w w2) := HB1.out.trans (hb2.mono HB1.out.size)
    have HO2 : Hid (OB w2 w1.heap.size v2 (wo 60 (cl ac an))) := ho2
    have c2 := clean_any (cap := bcap) (HH.out.2.2.1.2.stay HB2.out) (by omega) 60
    clear c1 ho2 hb2
    go_wp2_with fail
    refine c2.mono ?_
    rintro ev w3 ⟨v3, rfl, ho3, hb3⟩
    have HB3 : Hid (Below w.heap.size w w3) := HB2.out.trans (hb3.mono HB2.out.size)
    have HO2' : Hid (OB w3 w1.heap.size v2 (wo 60 (cl ac an))) := HO2.out.stay hb3
    have HO3 : Hid (OB w3 w2.heap.size v3 (wo 60 (cl bc bn))) := ho3
    have c3 := clean_any (cap := tcap) (HH.out.2.2.2.2.stay HB3.out) (by omega) 45
    clear c2 ho3 hb3 HO2
    go_wp2_with fail
    refine c3.mono ?_
    rintro ev w4 ⟨v4, rfl, ho4, hb4⟩
    have HB4 : Hid (Below w.heap.size w w4) := HB3.out.trans (hb4.mono HB3.out.size)
    have hoA := HO2'.out.stay hb4
    have hoB := HO3.out.stay hb4
    obtain ⟨A, hA⟩ : ∃ A, wo 60 (cl ac an) = A := ⟨_, rfl⟩
    obtain ⟨B, hB⟩ : ∃ B, wo 60 (cl bc bn) = B := ⟨_, rfl⟩
    obtain ⟨N, hN⟩ : ∃ N, wo 45 (cl tc tn) = N := ⟨_, rfl⟩
    have HAB : Hid (Byt A ∧ Byt B ∧ Byt N ∧ (∀ x ∈ A, x ≠ 60) ∧ (∀ x ∈ B, x ≠ 60) ∧ (∀ x ∈ N, x ≠ 45)) := by
      rw [← hA, ← hB, ← hN]
      exact ⟨wo_byt (cl_byt HH.out.2.1.1), wo_byt (cl_byt HH.out.2.2.1.1), wo_byt (cl_byt HH.out.2.2.2.1), fun x hx => (wo_mem hx).2, fun x hx => (wo_mem hx).2, fun x hx => (wo_mem hx).2⟩
    have hlA : A.length ≤ an := by rw [← hA]; exact Nat.le_trans (wo_len _ _) (by rw [cl_len]; exact Nat.le_refl _)
    have hlB : B.length ≤ bn := by rw [← hB]; exact Nat.le_trans (wo_len _ _) (by rw [cl_len]; exact Nat.le_refl _)
    have hlN : N.length ≤ tn := by rw [← hN]; exact Nat.le_trans (wo_len _ _) (by rw [cl_len]; exact Nat.le_refl _)
    rw [hA] at hoA
    rw [hB] at hoB
    rw [hN] at ho4
    obtain ⟨adA, cpA, rfl, -⟩ := hoA.form
    obtain ⟨adB, cpB, rfl, -⟩ := hoB.form
    obtain ⟨adN, cpN, rfl, -⟩ := ho4.form
    have HBC : Hid (BC w4 adA A.length (cL A) ∧ BC w4 adB B.length (cL B) ∧ BC w4 adN N.length (cL N)) := ⟨hoA.bc, hoB.bc, ho4.bc⟩
    obtain ⟨nA, hnA⟩ : ∃ nA, A.length = nA := ⟨_, rfl⟩
    obtain ⟨nB, hnB⟩ : ∃ nB, B.length = nB := ⟨_, rfl⟩
    obtain ⟨nN, hnN⟩ : ∃ nN, N.length = nN := ⟨_, rfl⟩
    have HL : Hid (A.length = nA ∧ B.length = nB ∧ N.length = nN) := ⟨hnA, hnB, hnN⟩
    rw [hnA] at HBC hlA ⊢
    rw [hnB] at HBC hlB ⊢
    rw [hnN] at HBC hlN ⊢
    clear c3 ho4 hb4 hoA hoB hA hB hN hnA hnB hnN HO2' HO3
    have hnn : nA + nB + nN ≤ 1000 := by omega
    obtain ⟨sN, hsN⟩ : ∃ sN, strOfNums (cl (cL N) nN) = sN := ⟨_, rfl⟩
    have HSN : Hid (strOfNums (cl (cL N) nN) = sN) := hsN
    have hszN : sN.size = nN := by rw [← hsN, strOfNums_size, cl_len]
    have q1 : ¬ 9223372036854775807 < 4 + sN.size := by omega
    have q2 : ¬ 9223372036854775807 < 4 + sN.size + 3 := by omega
    clear hsN hszN
    go_upto_region 7 with fail
    refine wp_region_held_drew (S := fun w' => Up w4.heap.size w4 w') (by kernel_rfl) (Up.drew (Up.refl w4)) (fun hHeld => ?_)
    (try dsimp only at hHeld)
    obtain ⟨x0, hx0⟩ : ∃ x0, w4.drew = x0 := ⟨_, rfl⟩
    rw [hx0] at hHeld ⊢
    clear hx0
    refine takeH (i := 1) (v := ?_) (d := (some 37)) rfl (by kernel_rfl) (by kernel_rfl) (by kernel_rfl) rfl (fun _ _ _ h => h) (Or.inl ⟨by kernel_rfl, ?_⟩) (by assumption) ?_; rotate_left
    · (intro w hSw; (try dsimp only at hSw); first | (go_simp; done) | (go_simp; with_reducible rfl))
    (try simp only [Act.put, List.setIfInBounds_toArray, List.set_cons_zero, List.set_cons_succ])
    refine takeH (i := 3) (v := ?_) (d := (some 39)) rfl (by kernel_rfl) (by kernel_rfl) (by kernel_rfl) rfl (fun _ _ _ h => h) (Or.inl ⟨by kernel_rfl, ?_⟩) (by assumption) ?_; rotate_left
    · (intro w hSw; (try dsimp only at hSw); first | (go_simp; done) | (go_simp; with_reducible rfl))
    (try simp only [Act.put, List.setIfInBounds_toArray, List.set_cons_zero, List.set_cons_succ])
    refine takeH (i := 4) (v := ?_) (d := (some 40)) rfl (by kernel_rfl) (by kernel_rfl) (by kernel_rfl) rfl (fun _ _ _ h => h) (Or.inl ⟨by kernel_rfl, ?_⟩) (by assumption) ?_; rotate_left
    · (intro w hSw; (try dsimp only at hSw); have hs := str_bc (cap := cpN) (HBC.out.2.2.stay hSw.1); rw [HSN.out] at hs; first | (go_simp; done) | (go_simp; with_reducible rfl))
    (try simp only [Act.put, List.setIfInBounds_toArray, List.set_cons_zero, List.set_cons_succ])
    refine takeH (i := 5) (v := ?_) (d := (some 41)) rfl (by kernel_rfl) (by kernel_rfl) (by kernel_rfl) rfl (fun _ _ _ h => h) (Or.inl ⟨by kernel_rfl, ?_⟩) (by assumption) ?_; rotate_left
    · (intro w hSw; (try dsimp only at hSw); first | (go_simp; done) | (go_simp; with_reducible rfl))
    (try simp only [Act.put, List.setIfInBounds_toArray, List.set_cons_zero, List.set_cons_succ])
    refine takeH (i := 6) (v := ?_) (d := (some 42)) rfl (by kernel_rfl) (by kernel_rfl) (by kernel_rfl) rfl (fun _ _ _ h => h) (Or.inl ⟨by kernel_rfl, ?_⟩) (by assumption) ?_; rotate_left
    · (intro w hSw; (try dsimp only at hSw); first | (go_simp; done) | (go_simp; with_reducible rfl))
    (try simp only [Act.put, List.setIfInBounds_toArray, List.set_cons_zero, List.set_cons_succ])
    refine takeH (i := 8) (v := ?_) (d := (some 44)) rfl (by kernel_rfl) (by kernel_rfl) (by kernel_rfl) rfl (fun _ _ _ h => h) (Or.inl ⟨by kernel_rfl, ?_⟩) (by assumption) ?_; rotate_left
    · (intro w hSw; (try dsimp only at hSw); first | (go_simp; done) | (go_simp; with_reducible rfl))
    (try simp only [Act.put, List.setIfInBounds_toArray, List.set_cons_zero, List.set_cons_succ])
    refine wpAnyH_ready (rs := [0]) (by kernel_rfl) (by simp) (AllReadyH.cons rfl (fun K hK => ?_) AllReadyH.nil)
    rw [if_pos (by kernel_rfl)]
    go_simp
    have O1 : Hid (OB (x0.alloc (.cells #[] 5)) w4.heap.size (.slice (some ⟨x0.heap.size, 0, none⟩) 0 0) []) := World.ownsRow_lit x0 #[] 0 hHeld.2 (Nat.zero_le _) rfl
    obtain ⟨x1, hx1⟩ : ∃ x1, x0.alloc (.cells #[] 5) = x1 := ⟨_, rfl⟩
    have HU1 : Hid (Up w4.heap.size w4 x1) := by show Up _ _ _; rw [← hx1]; exact hHeld.alloc _
    rw [hx1] at O1 ⊢
    clear hx1 hHeld
    refine hK.out _ _ (HU1.out : Up w4.heap.size w4 _) (fun hHeld' => ?_)
    clear hK K
    (try simp only [Act.put, List.setIfInBounds_toArray, List.set_cons_zero, List.set_cons_succ])
    clear hHeld'
    refine wpAnyH_ready (rs := [2]) (by kernel_rfl) (by simp) (AllReadyH.cons rfl (fun K hK => ?_) AllReadyH.nil)
    rw [if_pos (by kernel_rfl)]
    refine app_ob_wp (.tmp 36) (.tmp 37) rfl w4.heap.size _ [] rfl O1.out adA nA cpA (cL A) rfl (HBC.out.1.stay HU1.out.1) (by simp; omega) HU1.out.2 ?_
    intro y2 x2 ho2 hg2
    change K (Act.put _ (some 38) _) _
    have O2 : Hid (OB x2 w4.heap.size y2 A) := by
      show OB _ _ _ _
      have e : cl (cL A) nA = A := by rw [← HL.out.1]; exact cl_cL A
      rw [List.nil_append, e] at ho2
      exact ho2
    have HU2 : Hid (Up w4.heap.size w4 x2) := HU1.out.grown hg2 (own_base O1.out)
    clear ho2 hg2 O1
    refine hK.out _ _ (HU2.out : Up w4.heap.size w4 _) (fun hHeld' => ?_)
    clear hK K
    (try simp only [Act.put, List.setIfInBounds_toArray, List.set_cons_zero, List.set_cons_succ])
    clear hHeld'
    refine wpAnyH_ready (rs := [7]) (by kernel_rfl) (by simp) (AllReadyH.cons rfl (fun K hK => ?_) AllReadyH.nil)
    rw [if_pos (by kernel_rfl)]
    refine app_str_wp (.tmp 38) (.tmp 42) rfl w4.heap.size _ A rfl O2.out _ (rem N) ?_ ?_ rfl (by rw [rem_len, HL.out.1, HL.out.2.2]; omega) HU2.out.2 ?_
    · intro x hx
      unfold rem at hx
      rcases List.mem_append.1 hx with hx | hx
      · rcases List.mem_append.1 hx with hx | hx
        · exact byt_lit [60, 33, 45, 45] rfl x hx
        · exact HAB.out.2.2.1 x hx
      · exact byt_lit [45, 45, 62] rfl x hx
    · unfold rem
      have e : cl (cL N) nN = N := by rw [← HL.out.2.2]; exact cl_cL N
      rw [nums_app, nums_app, ← HSN.out, e]
      rfl
    intro y3 x3 ho3 hg3
    change K (Act.put _ (some 43) _) _
    have O3 : Hid (OB x3 w4.heap.size y3 (A ++ rem N)) := ho3
    have HU3 : Hid (Up w4.heap.size w4 x3) := HU2.out.grown hg3 (own_base O2.out)
    clear ho3 hg3 O2
    refine hK.out _ _ (HU3.out : Up w4.heap.size w4 _) (fun hHeld' => ?_)
    clear hK K
    (try simp only [Act.put, List.setIfInBounds_toArray, List.set_cons_zero, List.set_cons_succ])
    clear hHeld'
    refine wpAnyH_ready (rs := [9]) (by kernel_rfl) (by simp) (AllReadyH.cons rfl (fun K hK => ?_) AllReadyH.nil)
    rw [if_pos (by kernel_rfl)]
    refine app_ob_wp (.tmp 43) (.tmp 44) rfl w4.heap.size _ (A ++ rem N) rfl O3.out adB nB cpB (cL B) rfl (HBC.out.2.1.stay HU3.out.1) (by rw [List.length_append, rem_len, HL.out.1, HL.out.2.2]; omega) HU3.out.2 ?_
    intro y4 x4 ho4 hg4
    change K (Act.put _ (some 45) _) _
    have O4 : Hid (OB x4 w4.heap.size y4 (A ++ (rem N ++ B))) := by
      show OB _ _ _ _
      have e : cl (cL B) nB = B := by rw [← HL.out.2.1]; exact cl_cL B
      rw [e, List.append_assoc] at ho4
      exact ho4
    have HU4 : Hid (Up w4.heap.size w4 x4) := HU3.out.grown hg4 (own_base O3.out)
    clear ho4 hg4 O3
    refine hK.out _ _ (HU4.out : Up w4.heap.size w4 _) (fun hHeld' => ?_)
    clear hK K
    (try simp only [Act.put, List.setIfInBounds_toArray, List.set_cons_zero, List.set_cons_succ])
    refine wpAnyH_ready (rs := [10]) (by kernel_rfl) (by simp) (AllReadyH.cons rfl (fun K hK => ?_) AllReadyH.nil)
    rw [if_pos (by kernel_rfl)]
    go_simp
    refine hK.out _ _ (HU4.out : Up w4.heap.size w4 _) (fun hHeld' => ?_)
    clear hK K
    (try simp only [Act.put, List.setIfInBounds_toArray, List.set_cons_zero, List.set_cons_succ])
    refine wpAnyH_done (by kernel_rfl) ?_ _
    obtain ⟨adX, cpX, rfl, hcX⟩ := O4.out.form
    have HX : Hid (BC x4 adX (A ++ (rem N ++ B)).length (cL (A ++ (rem N ++ B)))) := O4.out.bc
    have hbytX : Byt (A ++ (rem N ++ B)) := fun x hx => by
      rcases List.mem_append.1 hx with hx | hx
      · exact HAB.out.1 x hx
      · rcases List.mem_append.1 hx with hx | hx
        · unfold rem at hx
          rcases List.mem_append.1 hx with hx | hx
          · rcases List.mem_append.1 hx with hx | hx
            · exact byt_lit [60, 33, 45, 45] rfl x hx
            · exact HAB.out.2.2.1 x hx
          · exact byt_lit [45, 45, 62] rfl x hx
        · exact HAB.out.2.1 x hx
    have hlx := rem_all hbytX HAB.out.2.2.2.1 HAB.out.2.2.2.2.1 HAB.out.2.2.2.2.2
    have hlenX : (A ++ (rem N ++ B)).length = nA + (nN + 7) + nB := by rw [List.length_append, List.length_append, rem_len, HL.out.1, HL.out.2.1, HL.out.2.2]; omega
    have HBX : Hid (Below w.heap.size w x4) := HB4.out.trans (HU4.out.1.mono HB4.out.size)
    have cx := lex_any (cL_ch hbytX) HX.out (by rw [hlenX]; omega) hcX (HH.out.1.stay HBX.out)
    obtain ⟨nX, hnX⟩ : ∃ nX, (A ++ (rem N ++ B)).length = nX := ⟨_, rfl⟩
    rw [hnX] at cx hlx hlenX ⊢
    have HCX : Hid (lxA (cL (A ++ (rem N ++ B))) nX = setL (fun _ => 1) 3 (nA : Int) ((nA + (nN + 7) : Nat) : Int)) := by
      show _ = _
      rw [hlx, HL.out.1, HL.out.2.2]
    have HLX : Hid (nX = nA + (nN + 7) + nB) := hlenX
    clear hlx hbytX hcX hnX hlenX hHeld' q1 q2
    go_wp2_with fail
    refine cx.mono ?_
    rintro ev w5 ⟨T1, g1, rfl, -, -, hS1, hU1⟩
    rw [HCX.out] at hS1
    have HS5 : Hid (Sh w5 T1 g1 nX (setL (fun _ => 1) 3 (nA : Int) ((nA + (nN + 7) : Nat) : Int))) := hS1
    have HB5 : Hid (Below w.heap.size w w5) := HBX.out.trans (hU1.1.mono HBX.out.size)
    have HBC5 : Hid (BC w5 adA nA (cL A) ∧ BC w5 adB nB (cL B)) := ⟨(HBC.out.1.stay HU4.out.1).stay hU1.1, (HBC.out.2.1.stay HU4.out.1).stay hU1.1⟩
    clear cx hS1 hU1
    have O5 : Hid (OB (w5.alloc (.cells #[] 5)) w5.heap.size (.slice (some ⟨w5.heap.size, 0, none⟩) 0 0) []) := World.ownsRow_lit w5 #[] 0 (Nat.le_refl _) (Nat.zero_le _) rfl
    obtain ⟨w6, hw6⟩ : ∃ w6, w5.alloc (.cells #[] 5) = w6 := ⟨_, rfl⟩
    have hb6 : Below w5.heap.size w5 w6 := by rw [← hw6]; exact below_alloc w5 _
    have HU6 : Hid (Up w5.heap.size w5 w6) := ⟨hb6, hb6.size⟩
    rw [hw6] at O5
    clear hb6
    go_wp2_with (at_builtin; refine app_ob rfl _ _ rfl w5.heap.size _ [] rfl O5.out adA nA cpA (cL A) rfl (HBC5.out.1.stay HU6.out.1) (by simp; omega) HU6.out.2 ?_)
    intro y7 w7 ho7 hg7
    have O7 : Hid (OB w7 w5.heap.size y7 A) := by
      show OB _ _ _ _
      have e : cl (cL A) nA = A := by rw [← HL.out.1]; exact cl_cL A
      first | rw [List.nil_append, e] at ho7 | rw [e] at ho7
      exact ho7
    have HU7 : Hid (Up w5.heap.size w5 w7) := HU6.out.grown hg7 (own_base O5.out)
    clear ho7 hg7 O5 hw6
    go_wp2_with (at_builtin; refine app_ob rfl _ _ rfl w5.heap.size _ A rfl O7.out adB nB cpB (cL B) rfl (HBC5.out.2.stay HU7.out.1) (by rw [HL.out.1]; omega) HU7.out.2 ?_)
    intro y8 w8 ho8 hg8
    have O8 : Hid (OB w8 w5.heap.size y8 (A ++ B)) := by
      show OB _ _ _ _
      have e : cl (cL B) nB = B := by rw [← HL.out.2.1]; exact cl_cL B
      rw [e] at ho8
      exact ho8
    have HU8 : Hid (Up w5.heap.size w5 w8) := HU7.out.grown hg8 (own_base O7.out)
    obtain ⟨adY, cpY, rfl, hcY⟩ := O8.out.form
    have HY : Hid (BC w8 adY (A ++ B).length (cL (A ++ B))) := O8.out.bc
    have hbytY : Byt (A ++ B) := fun x hx => (List.mem_append.1 hx).elim (HAB.out.1 x) (HAB.out.2.1 x)
    have hly := plain_all hbytY (fun x hx => (List.mem_append.1 hx).elim (HAB.out.2.2.2.1 x) (HAB.out.2.2.2.2.1 x))
    have hlenY : (A ++ B).length = nA + nB := by rw [List.length_append, HL.out.1, HL.out.2.1]
    have HB8 : Hid (Below w.heap.size w w8) := HB5.out.trans (HU8.out.1.mono HB5.out.size)
    have HS8 : Hid (Sh w8 T1 g1 nX (setL (fun _ => 1) 3 (nA : Int) ((nA + (nN + 7) : Nat) : Int))) := HS5.out.stay HU8.out.1
    have cy := lex_any (cL_ch hbytY) HY.out (by rw [hlenY]; omega) hcY (HH.out.1.stay HB8.out)
    rw [hlenY] at cy hly ⊢
    have HCY : Hid (lxA (cL (A ++ B)) (nA + nB) = fun _ => 1) := hly
    clear ho8 hg8 O7 hbytY hly hcY hlenY
    go_wp2_with fail
    refine cy.mono ?_
    rintro ev w9 ⟨T2, g2, rfl, -, -, hS2, hU2⟩
    rw [HCY.out] at hS2
    have HS9 : Hid (Sh w9 T1 g1 nX (setL (fun _ => 1) 3 (nA : Int) ((nA + (nN + 7) : Nat) : Int)) ∧ Sh w9 T2 g2 (nA + nB) (fun _ => 1)) := ⟨HS8.out.stay hU2.1, hS2⟩
    have HB9 : Hid (Below w.heap.size w w9) := HB8.out.trans (hU2.1.mono HB8.out.size)
    clear cy hS2 hU2
    go_wp2
    go_loopg [62] nX (fun q iv wr => ∃ k : Nat, k ≤ nX ∧ q = nX - k ∧ iv = .int .i64 k ∧ wr = w9)
    case atStart => exact ⟨0, Nat.zero_le _, rfl, rfl, rfl⟩
    case round =>
      obtain ⟨k, hk, hq, rfl, hwr⟩ := hrel
      subst wr
      by_cases hlt : k < nX
      · have v1 : (k : Int) < (nX : Int) := by omega
        have cA := at_any HS9.out.1 k hlt
        have v5 : (nX : Int) - (nB : Int) = (nA : Int) + ((nN : Int) + 7) := by have := HLX.out; omega
        have HLK : Hid (nX = nA + (nN + 7) + nB ∧ nX ≤ 10000) := ⟨HLX.out, by have := HLX.out; omega⟩
        by_cases h1 : k < nA
        · have v2 : ¬ (nA : Int) ≤ (k : Int) := by omega
          have e1 : setL (fun _ => 1) 3 (nA : Int) ((nA + (nN + 7) : Nat) : Int) k = 1 := by unfold setL; rw [if_neg (by omega)]
          rw [e1] at cA
          clear e1 v5
          go_wp2_with fail
          refine cA.mono ?_
          rintro ev wz ⟨rfl, hw⟩
          subst wz
          go_wp2
          go_roundg (nX - (k + 1))
          case measure => omega
          case rel => exact ⟨k + 1, by omega, rfl, by have := HLK.out; go_num, rfl⟩
        · have v2 : (nA : Int) ≤ (k : Int) := by omega
          by_cases h2 : k < nA + (nN + 7)
          · have v3 : (k : Int) < (nA : Int) + ((nN : Int) + 7) := by omega
            have e1 : setL (fun _ => 1) 3 (nA : Int) ((nA + (nN + 7) : Nat) : Int) k = 3 := by unfold setL; rw [if_pos (by omega)]
            rw [e1] at cA
            clear e1
            go_wp2_with fail
            refine cA.mono ?_
            rintro ev wz ⟨rfl, hw⟩
            subst wz
            go_wp2
            go_roundg (nX - (k + 1))
            case measure => omega
            case rel => exact ⟨k + 1, by omega, rfl, by have := HLK.out; go_num, rfl⟩
          · have v3 : ¬ (k : Int) < (nA : Int) + ((nN : Int) + 7) := by omega
            have v4 : decide ((k : Int) < (nA : Int) + ((nN : Int) + 7)) = false := by simpa using v3
            have e1 : setL (fun _ => 1) 3 (nA : Int) ((nA + (nN + 7) : Nat) : Int) k = 1 := by unfold setL; rw [if_neg (by omega)]
            rw [e1] at cA
            clear e1
            go_wp2_with fail
            refine cA.mono ?_
            rintro ev wz ⟨rfl, hw⟩
            subst wz
            go_wp2
            go_roundg (nX - (k + 1))
            case measure => omega
            case rel => exact ⟨k + 1, by omega, rfl, by have := HLK.out; go_num, rfl⟩
      · obtain rfl : k = nX := by omega
        have v1 : ¬ (k : Int) < (k : Int) := by omega
        go_wp2
        go_loopg [89] (nA + nB) (fun q iv wr => ∃ j : Nat, j ≤ nA + nB ∧ q = nA + nB - j ∧ iv = .int .i64 j ∧ wr = w9)
        case atStart => exact ⟨0, Nat.zero_le _, rfl, rfl, rfl⟩
        case round =>
          obtain ⟨j, hj, hq2, rfl, hwr⟩ := hrel
          subst wr
          by_cases hlt2 : j < nA + nB
          · have v2 : (j : Int) < (nA : Int) + (nB : Int) := by omega
            have cA := at_any HS9.out.2 j hlt2
            go_wp2_with fail
            refine cA.mono ?_
            rintro ev wz ⟨rfl, hw⟩
            subst wz
            go_wp2
            go_roundg (nA + nB - (j + 1))
            case measure => omega
            case rel => exact ⟨j + 1, by omega, rfl, by go_num, rfl⟩
          · obtain rfl : j = nA + nB := by omega
            have v2 : ¬ ((nA + nB : Nat) : Int) < (nA : Int) + (nB : Int) := by omega
            go_wp2
            go_ret
            exact ⟨rfl, HB9.out⟩
end Go.Proofs.YtjieonldmckheaaDoor
