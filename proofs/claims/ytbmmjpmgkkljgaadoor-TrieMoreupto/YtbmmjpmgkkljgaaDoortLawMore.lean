/- The law TrieMore. -/
import Derived.Test.YtbmmjpmgkkljgaaDoortNod
import Derived.Test.YtbmmjpmgkkljgaaDoortLawHas
import Derived.Test.YtbmmjpmgkkljgaaDoortAsk
import Derived.Deep.CutBlock
namespace Go.Proofs.YtbmmjpmgkkljgaaDoor
set_option linter.unusedVariables false
open Go.RowKit Go.ChangeShapes
theorem srt_one (t : ByteArray) : srtL [t] = if (wd12 t).size = 0 then [] else [wd12 t] := by
  show insP [] (wd12 t) = _
  unfold insP
  by_cases h : (wd12 t).size = 0
  · rw [if_pos (Or.inl h), if_pos h]
  · rw [if_neg (by simp [h]), if_neg h]
    rfl
theorem has_not {b : Bool} {p : Prop} (h : b = true ↔ p) (hp : ¬ p) : b = false := by
  cases b with
  | false => rfl
  | true => exact absurd (h.1 rfl) hp
set_option maxHeartbeats 4000000 in
set_option maxRecDepth 100000 in
theorem more_law (w : World) (hT : Tabs w) (v : Value) (Ls : List ByteArray) (hv : TL w v Ls) (hl : Ls.length ≤ 2000000) (hsz : ∀ s ∈ Ls, s.size ≤ 2000000) (s : ByteArray) (hs : s.size ≤ 2000000) :
    Calls Tryd.prog 7 #[v, .string s] w fun e w' => e = .returned (.bool true) ∧ Below w.heap.size w w' := by
  have HT : Hid (Tabs w) := hT
  have HV : Hid (TL w v Ls) := hv
  have HZ : Hid (∀ s ∈ Ls, s.size ≤ 2000000) := hsz
  obtain ⟨ad, c, rfl, -⟩ := hv
  clear hT hsz
  obtain ⟨i9, hi9, hz90, hz91, hz92⟩ := info_parts info9
  obtain ⟨hr, hgd, hL61⟩ := srtL_good Ls
  have HR : Hid (RiseK id (srtL Ls)) := hr
  have HG : Hid (∀ x ∈ srtL Ls, GoodW x) := hgd
  clear hr hgd
  have c0 := awake_any w HT.out
  go_enter Tryd.func7, Tryd.ntmps7
  go_wp2_with fail
  refine c0.mono ?_
  rintro e w1 ⟨rfl, hb1⟩
  have HU1 : Hid (Up w.heap.size w w1) := (Up.refl w).stay hb1
  clear hb1 c0
  have c1 := sorted_any w1 (tabs_stay HT.out HU1.out.1) (.slice ad Ls.length c) Ls (HV.out.stay HU1.out.1) hl HZ.out
  go_wp2_with fail
  refine c1.mono ?_
  rintro e w2 ⟨v2, rfl, hO2, hU2⟩
  have HO2 : Hid (OS w2 w1.heap.size v2 (srtL Ls)) := hO2
  have HU2 : Hid (Up w.heap.size w w2) := HU1.out.stay hU2.1
  clear hO2 hU2 c1
  generalize eL : srtL Ls = L at *
  clear eL
  obtain ⟨ado, co, rfl, -, -, -⟩ := HO2.out.form
  obtain ⟨wa, hwa⟩ : ∃ x, w2.alloc (.cells #[.string s] 9) = x := ⟨_, rfl⟩
  have HUa : Hid (Up w2.heap.size w2 wa) := by show Up _ _ _; rw [← hwa]; exact (Up.refl w2).alloc _
  have HTa : Hid (TL wa (.slice (some ⟨w2.heap.size, 0, none⟩) 1 1) [s]) := by
    have h : OS wa w2.heap.size (.slice (some ⟨w2.heap.size, 0, none⟩) 1 1) [s] := by
      show World.ownsRow _ _ _ _ _ _ _
      rw [← hwa]
      exact World.ownsRow_lit w2 #[.string s] 1 (Nat.le_refl _) (by unfold maxLen; omega) rfl
    exact h.tl
  have HUA : Hid (Up w.heap.size w wa) := HU2.out.stay HUa.out.1
  have c2 := sorted_any wa (tabs_stay HT.out HUA.out.1) (.slice (some ⟨w2.heap.size, 0, none⟩) 1 1) [s] HTa.out (by simp) (fun x hx => by simp at hx; subst hx; exact hs)
  go_wp2_with fail
  refine c2.mono ?_
  rintro e w3 ⟨v3, rfl, hO3, hU3⟩
  have HO3 : Hid (OS w3 w1.heap.size (.slice ado L.length co) L) := (HO2.out.stay HUa.out.1).stay hU3.1
  have HU3 : Hid (Up w.heap.size w w3) := HUA.out.stay hU3.1
  have H1 : Hid (OS w3 wa.heap.size v3 (srtL [s])) := hO3
  clear hO3 hU3 c2 HTa HO2 HU2
  have hone := srt_one s
  by_cases ht0 : (wd12 s).size = 0
  · rw [if_pos ht0] at hone
    rw [hone] at H1
    obtain ⟨a3, c3, rfl, -, -, -⟩ := H1.out.form
    clear hone
    go_wp2
    go_ret
    exact ⟨rfl, HU3.out.1⟩
  rw [if_neg ht0] at hone
  rw [hone] at H1
  have HGt : Hid (GoodW (wd12 s)) := wd12_good s ht0
  generalize et : wd12 s = t at *
  clear hone et
  obtain ⟨a3, c3, rfl, -, hno3, hso3⟩ := H1.out.form
  obtain ⟨aa, ha⟩ : ∃ a, a3 = some a := by
    cases a3 with
    | none => have := (hno3 rfl).1; cases this
    | some a => exact ⟨a, rfl⟩
  obtain ⟨g3, rfl, _, _, hcs3⟩ := hso3 aa ha
  subst ha
  have hc30 : w3.cell? ⟨g3, 0, none⟩ = some (.string t) := hcs3 0 (by simp)
  clear hcs3 hno3 hso3 H1
  obtain ⟨_, _, hov, hco, hnone, hsome⟩ := HO3.out.form
  injection hov with hov1 hov2 hov3
  subst hov1 hov3
  have HNO : Hid (ado = none → L = [] ∧ co = 0) := hnone
  have HSO : Hid (∀ a, ado = some a → ∃ g, a = ⟨g, 0, none⟩ ∧ w1.heap.size ≤ g ∧ g < w3.heap.size ∧ ∀ j, (hj : j < L.length) → w3.cell? ⟨g, j, none⟩ = some (.string L[j])) := hsome
  clear hov2 hnone hsome
  obtain ⟨nL, hnL⟩ : ∃ q, L.length = q := ⟨_, rfl⟩
  have HL : Hid (L.length = nL) := hnL
  rw [hnL] at hL61 hco HO3 ⊢
  clear hnL
  go_upto_block 0 with fail
  go_cut [7] (fun kv wx => ∃ k : Nat, k ≤ nL ∧ kv = .int .i64 k ∧ wx = w3 ∧ Hid (∀ j, (hj : j < L.length) → j < k → lw L[j] t = true) ∧ Hid (∀ hk : k < L.length, lw L[k] t = false))
  case first =>
    go_wp2_with fail
    go_loopg [7] nL (fun g kv wx => ∃ k : Nat, k ≤ nL ∧ g = nL - k ∧ kv = .int .i64 k ∧ wx = w3 ∧ Hid (∀ j, (hj : j < L.length) → j < k → lw L[j] t = true))
    case atStart => exact ⟨0, Nat.zero_le _, rfl, rfl, rfl, fun j _ hj => absurd hj (Nat.not_lt_zero j)⟩
    case round =>
      obtain ⟨k, hkn, hg3, rfl, hw, HJ⟩ := hrel
      subst wr
      have x0 : (0 : Int) ≤ (k : Int) := by omega
      have hlen := HL.out
      by_cases hgo : ∃ hlt : k < L.length, lw L[k] t = true
      · obtain ⟨hlt3, hq⟩ := hgo
        have x1 : (k : Int) < (nL : Int) := by omega
        obtain ⟨a, ha⟩ : ∃ a, ado = some a := by
          cases ado with
          | none => have := (HNO.out rfl).1; subst this; simp at hlt3
          | some a => exact ⟨a, rfl⟩
        obtain ⟨g, rfl, _, _, hcs⟩ := HSO.out a ha
        subst ha
        have hck := hcs k hlt3
        have HJ2 : Hid (∀ j, (hj : j < L.length) → j < k + 1 → lw L[j] t = true) := fun j hj hl => by
          rcases Nat.lt_succ_iff_lt_or_eq.1 hl with h | h
          · exact HJ.out j hj h
          · subst h; exact hq
        rw [← lw_less] at hq
        generalize L[k] = x at hck hq
        have hk2 : k < nL := by omega
        clear hlen hlt3 hcs
        go_wp2
        go_roundg (nL - (k + 1))
        case measure => omega
        case rel => exact ⟨k + 1, by omega, rfl, by go_num, rfl, HJ2⟩
      · have hno : ∀ hk : k < L.length, lw L[k] t = false := fun hk => by
          cases hc : lw L[k] t with
          | false => rfl
          | true => exact absurd ⟨hk, hc⟩ hgo
        have HNN : Hid (∀ hk : k < L.length, lw L[k] t = false) := hno
        clear hgo
        by_cases hkL : k < nL
        · have x1 : (k : Int) < (nL : Int) := by omega
          obtain ⟨a, ha⟩ : ∃ a, ado = some a := by
            cases ado with
            | none => have := (HNO.out rfl).1; subst this; simp at hlen; omega
            | some a => exact ⟨a, rfl⟩
          obtain ⟨g, rfl, _, _, hcs⟩ := HSO.out a ha
          subst ha
          have hck := hcs k (by omega)
          have hq := hno (by omega)
          rw [← lw_less] at hq
          generalize L[k] = x at hck hq
          clear hlen hcs hno
          go_wp2
          go_meet
          case rel => exact ⟨k, hkn, rfl, rfl, HJ, HNN⟩
        · have x1 : ¬ (k : Int) < (nL : Int) := by omega
          clear hno hlen
          go_wp2
          go_meet
          case rel => exact ⟨k, hkn, rfl, rfl, HJ, HNN⟩
  case rest =>
    obtain ⟨k, hkn, rfl, hw, HJ, HNN⟩ := hcut
    subst wc
    have x0 : (0 : Int) ≤ (k : Int) := by omega
    have hlen := HL.out
    have x2 : (k : Int) ≤ (nL : Int) := by omega
    have x3 : (k : Int) ≤ (co : Int) := by omega
    have x4 : (nL : Int) ≤ (co : Int) := by omega
    have HNI : Hid ((∀ hk : k < L.length, L[k] ≠ t) → t ∉ L) := fun hne => not_in HR.out HJ.out (fun hk => ⟨HNN.out hk, hne hk⟩)
    have HPS : Hid (putK id L t = L.take k ++ t :: L.drop k) := put_split L t k HJ.out (by omega) HNN.out
    go_upto_region 11 with fail
    go_cut [8] (fun mv wx => Hid (OS wx w3.heap.size mv (L.take k ++ t :: L.drop k)) ∧ Hid (Up w3.heap.size w3 wx))
    case first =>
      cases ado with
      | none =>
        obtain ⟨rfl, rfl⟩ := HNO.out rfl
        obtain rfl : nL = 0 := by simpa using hlen.symm
        obtain rfl : k = 0 := by omega
        have HSA : ∀ c, Hid (Srcs w3 (.slice none 0 c) 0 1 (([] : List ByteArray).map Value.string)) := fun c => ⟨rfl, Or.inl ⟨_, c, rfl, rfl⟩⟩
        refine wp_region_held_drew (S := fun w' => Up w3.heap.size w3 w') (by kernel_rfl) (Up.drew (Up.refl w3)) (fun hHeld => ?_)
        (try dsimp only at hHeld)
        obtain ⟨x0, hx0⟩ : ∃ x0, w3.drew = x0 := ⟨_, rfl⟩
        rw [hx0] at hHeld ⊢
        clear hx0
        refine takeH (i := 1) (v := ?_) (d := (some 43)) rfl (by kernel_rfl) (by kernel_rfl) (by kernel_rfl) rfl (fun _ _ _ h => h) (Or.inl ⟨by kernel_rfl, ?_⟩) (by assumption) ?_; rotate_left
        · (intro w hSw; (try dsimp only at hSw); first | (go_simp; done) | (go_simp; with_reducible rfl))
        (try simp only [Act.put, List.setIfInBounds_toArray, List.set_cons_zero, List.set_cons_succ])
        refine takeH (i := 2) (v := ?_) (d := (some 44)) rfl (by kernel_rfl) (by kernel_rfl) (by kernel_rfl) rfl (fun _ _ _ h => h) (Or.inl ⟨by kernel_rfl, ?_⟩) (by assumption) ?_; rotate_left
        · (intro w hSw; (try dsimp only at hSw); first | (go_simp; done) | (go_simp; with_reducible rfl))
        (try simp only [Act.put, List.setIfInBounds_toArray, List.set_cons_zero, List.set_cons_succ])
        refine takeH (i := 3) (v := ?_) (d := (some 45)) rfl (by kernel_rfl) (by kernel_rfl) (by kernel_rfl) rfl (fun _ _ _ h => h) (Or.inl ⟨by kernel_rfl, ?_⟩) (by assumption) ?_; rotate_left
        · (intro w hSw; (try dsimp only at hSw); first | (go_simp; done) | (go_simp; with_reducible rfl))
        (try simp only [Act.put, List.setIfInBounds_toArray, List.set_cons_zero, List.set_cons_succ])
        refine takeH (i := 5) (v := ?_) (d := (some 47)) rfl (by kernel_rfl) (by kernel_rfl) (by kernel_rfl) rfl (fun _ _ _ h => h) (Or.inl ⟨by kernel_rfl, ?_⟩) (by assumption) ?_; rotate_left
        · (intro w hSw; (try dsimp only at hSw); first | (go_simp; done) | (go_simp; with_reducible rfl))
        (try simp only [Act.put, List.setIfInBounds_toArray, List.set_cons_zero, List.set_cons_succ])
        refine takeH (i := 8) (v := ?_) (d := (some 50)) rfl (by kernel_rfl) (by kernel_rfl) (by kernel_rfl) rfl (fun _ _ _ h => h) (Or.inl ⟨by kernel_rfl, ?_⟩) (by assumption) ?_; rotate_left
        · (intro w hSw; (try dsimp only at hSw); first | (go_simp; done) | (go_simp; with_reducible rfl))
        (try simp only [Act.put, List.setIfInBounds_toArray, List.set_cons_zero, List.set_cons_succ])
        refine takeH (i := 9) (v := ?_) (d := (some 51)) rfl (by kernel_rfl) (by kernel_rfl) (by kernel_rfl) rfl (fun _ _ _ h => h) (Or.inl ⟨by kernel_rfl, ?_⟩) (by assumption) ?_; rotate_left
        · (intro w hSw; (try dsimp only at hSw); first | (go_simp; done) | (go_simp; with_reducible rfl))
        (try simp only [Act.put, List.setIfInBounds_toArray, List.set_cons_zero, List.set_cons_succ])
        refine takeH (i := 10) (v := ?_) (d := (some 52)) rfl (by kernel_rfl) (by kernel_rfl) (by kernel_rfl) rfl (fun _ _ _ h => h) (Or.inl ⟨by kernel_rfl, ?_⟩) (by assumption) ?_; rotate_left
        · (intro w hSw; (try dsimp only at hSw); first | (go_simp; done) | (go_simp; with_reducible rfl))
        (try simp only [Act.put, List.setIfInBounds_toArray, List.set_cons_zero, List.set_cons_succ])
        refine wpAnyH_ready (rs := [0, 6]) (by kernel_rfl) (by simp) (AllReadyH.cons rfl (fun K hK => ?_) (AllReadyH.cons rfl (fun K hK => ?_) AllReadyH.nil))
        · rw [if_pos (by kernel_rfl)]
          go_simp
          have O20 : Hid ((x0.alloc (.cells #[] 9)).ownsRow w3.heap.size 9 1 (.slice (some ⟨x0.heap.size, 0, none⟩) 0 0) 0 []) := World.ownsRow_lit x0 #[] 0 hHeld.2 (Nat.zero_le _) rfl
          refine hK.out _ _ (hHeld.alloc _ : Up w3.heap.size w3 _) (fun hHeld => ?_)
          clear hK K
          (try dsimp only at hHeld)
          (try simp only [Act.put, List.setIfInBounds_toArray, List.set_cons_zero, List.set_cons_succ])
          obtain ⟨x1, hx1⟩ : ∃ x1, x0.alloc (.cells #[] 9) = x1 := ⟨_, rfl⟩
          rw [hx1] at hHeld O20 ⊢
          refine wpAnyH_ready (rs := [4, 6]) (by kernel_rfl) (by simp) (AllReadyH.cons rfl (fun K hK => ?_) (AllReadyH.cons rfl (fun K hK => ?_) AllReadyH.nil))
          · rw [if_pos (by kernel_rfl)]
            refine app_src_wp (.tmp 42) (.tmp 45) 22 rfl w3.heap.size 9 i9 _ 1 16 Tryd.underlying22 hi9 hz90 hz91 hz92 rfl (by decide) _ _ _ rfl O20.out _ _ _ rfl ((HSA _).out.stay hHeld.1) (str_one _) (by unfold maxLen; omega) (by omega) hHeld.2 ?_
            intro v24 x2 ho24 hg24
            change K (Act.put _ (some 46) _) _
            have O24 : Hid (x2.ownsRow w3.heap.size 9 1 v24 (0 + 0) ([] ++ ([] : List ByteArray).map Value.string)) := ho24
            have hu24 : Up w3.heap.size w3 x2 := hHeld.grown hg24 (own_base O20.out)
            clear ho24 hg24 O20
            refine hK.out _ _ (hu24 : Up w3.heap.size w3 _) (fun hHeld => ?_)
            clear hK K
            (try dsimp only at hHeld)
            (try simp only [Act.put, List.setIfInBounds_toArray, List.set_cons_zero, List.set_cons_succ])
            clear hu24
            refine wpAnyH_ready (rs := [6]) (by kernel_rfl) (by simp) (AllReadyH.cons rfl (fun K hK => ?_) AllReadyH.nil)
            rw [if_pos (by kernel_rfl)]
            go_simp
            have S26 : Hid (Srcs (x2.alloc (.cells #[.string t] 9)) (.slice (some ⟨x2.heap.size, 0, none⟩) 1 1) 1 1 [.string t]) := srcs_new x2 #[.string t] 9 1 1 1 rfl
            have O24' := O24.out.alloc (.cells #[.string t] 9)
            clear O24
            have O24 : Hid (World.ownsRow _ _ _ _ _ _ _) := O24'
            clear O24'
            refine hK.out _ _ (hHeld.alloc _ : Up w3.heap.size w3 _) (fun hHeld => ?_)
            clear hK K
            (try dsimp only at hHeld)
            (try simp only [Act.put, List.setIfInBounds_toArray, List.set_cons_zero, List.set_cons_succ])
            obtain ⟨x3, hx3⟩ : ∃ x3, x2.alloc (.cells #[.string t] 9) = x3 := ⟨_, rfl⟩
            rw [hx3] at hHeld O24 S26 ⊢
            refine wpAnyH_ready (rs := [7]) (by kernel_rfl) (by simp) (AllReadyH.cons rfl (fun K hK => ?_) AllReadyH.nil)
            rw [if_pos (by kernel_rfl)]
            refine app_src_wp (.tmp 46) (.tmp 48) 22 rfl w3.heap.size 9 i9 _ 1 16 Tryd.underlying22 hi9 hz90 hz91 hz92 rfl (by decide) _ _ _ rfl O24.out _ _ _ rfl S26.out (one_one _ rfl) (by unfold maxLen; omega) (by omega) hHeld.2 ?_
            intro v27 y1 ho27 hg27
            change K (Act.put _ (some 49) _) _
            have O27 : Hid (y1.ownsRow w3.heap.size 9 1 v27 (0 + 0 + 1) ([] ++ ([] : List ByteArray).map Value.string ++ [.string t])) := ho27
            have hu27 : Up w3.heap.size w3 y1 := hHeld.grown hg27 (own_base O24.out)
            clear ho27 hg27 O24 S26
            refine hK.out _ _ (hu27 : Up w3.heap.size w3 _) (fun hHeld => ?_)
            clear hK K
            (try dsimp only at hHeld)
            (try simp only [Act.put, List.setIfInBounds_toArray, List.set_cons_zero, List.set_cons_succ])
            clear hu27
            refine wpAnyH_ready (rs := [11]) (by kernel_rfl) (by simp) (AllReadyH.cons rfl (fun K hK => ?_) AllReadyH.nil)
            rw [if_pos (by kernel_rfl)]
            refine app_src_wp (.tmp 49) (.tmp 52) 22 rfl w3.heap.size 9 i9 _ 1 16 Tryd.underlying22 hi9 hz90 hz91 hz92 rfl (by decide) _ _ _ rfl O27.out _ _ _ rfl ((HSA _).out.stay hHeld.1) (str_one _) (by unfold maxLen; omega) (by omega) hHeld.2 ?_
            intro v31 y2 ho31 hg31
            change K (Act.put _ (some 53) _) _
            have O31 : Hid (y2.ownsRow w3.heap.size 9 1 v31 (0 + 0 + 1 + (0 - 0)) ([] ++ ([] : List ByteArray).map Value.string ++ [.string t] ++ ([] : List ByteArray).map Value.string)) := ho31
            have hu31 : Up w3.heap.size w3 y2 := hHeld.grown hg31 (own_base O27.out)
            clear ho31 hg31 O27
            refine hK.out _ _ (hu31 : Up w3.heap.size w3 _) (fun hHeld => ?_)
            clear hK K
            (try dsimp only at hHeld)
            (try simp only [Act.put, List.setIfInBounds_toArray, List.set_cons_zero, List.set_cons_succ])
            clear hu31
            refine takeH (i := 12) (v := ?_) (d := (some 8)) rfl (by kernel_rfl) (by kernel_rfl) (by kernel_rfl) rfl (fun _ _ _ h => h) (Or.inl ⟨by kernel_rfl, ?_⟩) (by assumption) ?_; rotate_left
            · (intro w hSw; (try dsimp only at hSw); first | (go_simp; done) | (go_simp; with_reducible rfl))
            (try simp only [Act.put, List.setIfInBounds_toArray, List.set_cons_zero, List.set_cons_succ])
            refine wpAnyH_done (by kernel_rfl) ?_ _
            have HU9 : Hid (Up w3.heap.size w3 y2) := hHeld
            clear hHeld
            have HO4 : Hid (OS y2 w3.heap.size v31 (List.take 0 ([] : List ByteArray) ++ t :: List.drop 0 ([] : List ByteArray))) := by
              show y2.ownsRow _ _ _ _ _ _
              have hown3 := O31.out
              have e : (List.take 0 ([] : List ByteArray) ++ t :: List.drop 0 ([] : List ByteArray)).length = 0 + 0 + 1 + (0 - 0) := by first | (simp; done) | (simp; omega)
              rw [e, List.map_append, List.map_cons]
              simpa using hown3
            clear O31
            go_wp2
            all_goals
              go_meet
              case rel => exact ⟨HO4, HU9⟩
          · rw [if_pos (by kernel_rfl)]
            go_simp
            have S26 : Hid (Srcs (x1.alloc (.cells #[.string t] 9)) (.slice (some ⟨x1.heap.size, 0, none⟩) 1 1) 1 1 [.string t]) := srcs_new x1 #[.string t] 9 1 1 1 rfl
            have O20' := O20.out.alloc (.cells #[.string t] 9)
            clear O20
            have O20 : Hid (World.ownsRow _ _ _ _ _ _ _) := O20'
            clear O20'
            have hne : x0.heap.size < x1.heap.size := by rw [← hx1]; simp
            refine hK.out _ _ (hHeld.alloc _ : Up w3.heap.size w3 _) (fun hHeld => ?_)
            clear hK K
            (try dsimp only at hHeld)
            (try simp only [Act.put, List.setIfInBounds_toArray, List.set_cons_zero, List.set_cons_succ])
            obtain ⟨x2, hx2⟩ : ∃ x2, x1.alloc (.cells #[.string t] 9) = x2 := ⟨_, rfl⟩
            rw [hx2] at hHeld O20 S26 ⊢
            refine wpAnyH_ready (rs := [4]) (by kernel_rfl) (by simp) (AllReadyH.cons rfl (fun K hK => ?_) AllReadyH.nil)
            rw [if_pos (by kernel_rfl)]
            refine app_src_wp (.tmp 42) (.tmp 45) 22 rfl w3.heap.size 9 i9 _ 1 16 Tryd.underlying22 hi9 hz90 hz91 hz92 rfl (by decide) _ _ _ rfl O20.out _ _ _ rfl ((HSA _).out.stay hHeld.1) (str_one _) (by unfold maxLen; omega) (by omega) hHeld.2 ?_
            intro v24 x3 ho24 hg24
            change K (Act.put _ (some 46) _) _
            have O24 : Hid (x3.ownsRow w3.heap.size 9 1 v24 (0 + 0) ([] ++ ([] : List ByteArray).map Value.string)) := ho24
            have S26' := S26.out.grown hg24 (fun e => by have e' : some x0.heap.size = some x1.heap.size := e; injection e' with e'; omega)
            clear S26
            have S26 : Hid (Srcs _ _ _ _ _) := S26'
            clear S26'
            have hu24 : Up w3.heap.size w3 x3 := hHeld.grown hg24 (own_base O20.out)
            clear ho24 hg24 O20
            refine hK.out _ _ (hu24 : Up w3.heap.size w3 _) (fun hHeld => ?_)
            clear hK K
            (try dsimp only at hHeld)
            (try simp only [Act.put, List.setIfInBounds_toArray, List.set_cons_zero, List.set_cons_succ])
            clear hu24
            refine wpAnyH_ready (rs := [7]) (by kernel_rfl) (by simp) (AllReadyH.cons rfl (fun K hK => ?_) AllReadyH.nil)
            rw [if_pos (by kernel_rfl)]
            refine app_src_wp (.tmp 46) (.tmp 48) 22 rfl w3.heap.size 9 i9 _ 1 16 Tryd.underlying22 hi9 hz90 hz91 hz92 rfl (by decide) _ _ _ rfl O24.out _ _ _ rfl S26.out (one_one _ rfl) (by unfold maxLen; omega) (by omega) hHeld.2 ?_
            intro v27 y1 ho27 hg27
            change K (Act.put _ (some 49) _) _
            have O27 : Hid (y1.ownsRow w3.heap.size 9 1 v27 (0 + 0 + 1) ([] ++ ([] : List ByteArray).map Value.string ++ [.string t])) := ho27
            have hu27 : Up w3.heap.size w3 y1 := hHeld.grown hg27 (own_base O24.out)
            clear ho27 hg27 O24 S26
            refine hK.out _ _ (hu27 : Up w3.heap.size w3 _) (fun hHeld => ?_)
            clear hK K
            (try dsimp only at hHeld)
            (try simp only [Act.put, List.setIfInBounds_toArray, List.set_cons_zero, List.set_cons_succ])
            clear hu27
            refine wpAnyH_ready (rs := [11]) (by kernel_rfl) (by simp) (AllReadyH.cons rfl (fun K hK => ?_) AllReadyH.nil)
            rw [if_pos (by kernel_rfl)]
            refine app_src_wp (.tmp 49) (.tmp 52) 22 rfl w3.heap.size 9 i9 _ 1 16 Tryd.underlying22 hi9 hz90 hz91 hz92 rfl (by decide) _ _ _ rfl O27.out _ _ _ rfl ((HSA _).out.stay hHeld.1) (str_one _) (by unfold maxLen; omega) (by omega) hHeld.2 ?_
            intro v31 y2 ho31 hg31
            change K (Act.put _ (some 53) _) _
            have O31 : Hid (y2.ownsRow w3.heap.size 9 1 v31 (0 + 0 + 1 + (0 - 0)) ([] ++ ([] : List ByteArray).map Value.string ++ [.string t] ++ ([] : List ByteArray).map Value.string)) := ho31
            have hu31 : Up w3.heap.size w3 y2 := hHeld.grown hg31 (own_base O27.out)
            clear ho31 hg31 O27
            refine hK.out _ _ (hu31 : Up w3.heap.size w3 _) (fun hHeld => ?_)
            clear hK K
            (try dsimp only at hHeld)
            (try simp only [Act.put, List.setIfInBounds_toArray, List.set_cons_zero, List.set_cons_succ])
            clear hu31
            refine takeH (i := 12) (v := ?_) (d := (some 8)) rfl (by kernel_rfl) (by kernel_rfl) (by kernel_rfl) rfl (fun _ _ _ h => h) (Or.inl ⟨by kernel_rfl, ?_⟩) (by assumption) ?_; rotate_left
            · (intro w hSw; (try dsimp only at hSw); first | (go_simp; done) | (go_simp; with_reducible rfl))
            (try simp only [Act.put, List.setIfInBounds_toArray, List.set_cons_zero, List.set_cons_succ])
            refine wpAnyH_done (by kernel_rfl) ?_ _
            have HU9 : Hid (Up w3.heap.size w3 y2) := hHeld
            clear hHeld
            have HO4 : Hid (OS y2 w3.heap.size v31 (List.take 0 ([] : List ByteArray) ++ t :: List.drop 0 ([] : List ByteArray))) := by
              show y2.ownsRow _ _ _ _ _ _
              have hown3 := O31.out
              have e : (List.take 0 ([] : List ByteArray) ++ t :: List.drop 0 ([] : List ByteArray)).length = 0 + 0 + 1 + (0 - 0) := by first | (simp; done) | (simp; omega)
              rw [e, List.map_append, List.map_cons]
              simpa using hown3
            clear O31
            go_wp2
            all_goals
              go_meet
              case rel => exact ⟨HO4, HU9⟩
        · rw [if_pos (by kernel_rfl)]
          go_simp
          have S26 : Hid (Srcs (x0.alloc (.cells #[.string t] 9)) (.slice (some ⟨x0.heap.size, 0, none⟩) 1 1) 1 1 [.string t]) := srcs_new x0 #[.string t] 9 1 1 1 rfl
          refine hK.out _ _ (hHeld.alloc _ : Up w3.heap.size w3 _) (fun hHeld => ?_)
          clear hK K
          (try dsimp only at hHeld)
          (try simp only [Act.put, List.setIfInBounds_toArray, List.set_cons_zero, List.set_cons_succ])
          obtain ⟨x1, hx1⟩ : ∃ x1, x0.alloc (.cells #[.string t] 9) = x1 := ⟨_, rfl⟩
          rw [hx1] at hHeld S26 ⊢
          refine wpAnyH_ready (rs := [0]) (by kernel_rfl) (by simp) (AllReadyH.cons rfl (fun K hK => ?_) AllReadyH.nil)
          rw [if_pos (by kernel_rfl)]
          go_simp
          have O20 : Hid ((x1.alloc (.cells #[] 9)).ownsRow w3.heap.size 9 1 (.slice (some ⟨x1.heap.size, 0, none⟩) 0 0) 0 []) := World.ownsRow_lit x1 #[] 0 hHeld.2 (Nat.zero_le _) rfl
          have S26' := S26.out.stay ((Below.refl _ _).alloc (Nat.le_refl _) (.cells #[] 9))
          clear S26
          have S26 : Hid (Srcs _ _ _ _ _) := S26'
          clear S26'
          have hne : x0.heap.size < x1.heap.size := by rw [← hx1]; simp
          refine hK.out _ _ (hHeld.alloc _ : Up w3.heap.size w3 _) (fun hHeld => ?_)
          clear hK K
          (try dsimp only at hHeld)
          (try simp only [Act.put, List.setIfInBounds_toArray, List.set_cons_zero, List.set_cons_succ])
          obtain ⟨x2, hx2⟩ : ∃ x2, x1.alloc (.cells #[] 9) = x2 := ⟨_, rfl⟩
          rw [hx2] at hHeld O20 S26 ⊢
          refine wpAnyH_ready (rs := [4]) (by kernel_rfl) (by simp) (AllReadyH.cons rfl (fun K hK => ?_) AllReadyH.nil)
          rw [if_pos (by kernel_rfl)]
          refine app_src_wp (.tmp 42) (.tmp 45) 22 rfl w3.heap.size 9 i9 _ 1 16 Tryd.underlying22 hi9 hz90 hz91 hz92 rfl (by decide) _ _ _ rfl O20.out _ _ _ rfl ((HSA _).out.stay hHeld.1) (str_one _) (by unfold maxLen; omega) (by omega) hHeld.2 ?_
          intro v24 x3 ho24 hg24
          change K (Act.put _ (some 46) _) _
          have O24 : Hid (x3.ownsRow w3.heap.size 9 1 v24 (0 + 0) ([] ++ ([] : List ByteArray).map Value.string)) := ho24
          have S26' := S26.out.grown hg24 (fun e => by have e' : some x1.heap.size = some x0.heap.size := e; injection e' with e'; omega)
          clear S26
          have S26 : Hid (Srcs _ _ _ _ _) := S26'
          clear S26'
          have hu24 : Up w3.heap.size w3 x3 := hHeld.grown hg24 (own_base O20.out)
          clear ho24 hg24 O20
          refine hK.out _ _ (hu24 : Up w3.heap.size w3 _) (fun hHeld => ?_)
          clear hK K
          (try dsimp only at hHeld)
          (try simp only [Act.put, List.setIfInBounds_toArray, List.set_cons_zero, List.set_cons_succ])
          clear hu24
          refine wpAnyH_ready (rs := [7]) (by kernel_rfl) (by simp) (AllReadyH.cons rfl (fun K hK => ?_) AllReadyH.nil)
          rw [if_pos (by kernel_rfl)]
          refine app_src_wp (.tmp 46) (.tmp 48) 22 rfl w3.heap.size 9 i9 _ 1 16 Tryd.underlying22 hi9 hz90 hz91 hz92 rfl (by decide) _ _ _ rfl O24.out _ _ _ rfl S26.out (one_one _ rfl) (by unfold maxLen; omega) (by omega) hHeld.2 ?_
          intro v27 y1 ho27 hg27
          change K (Act.put _ (some 49) _) _
          have O27 : Hid (y1.ownsRow w3.heap.size 9 1 v27 (0 + 0 + 1) ([] ++ ([] : List ByteArray).map Value.string ++ [.string t])) := ho27
          have hu27 : Up w3.heap.size w3 y1 := hHeld.grown hg27 (own_base O24.out)
          clear ho27 hg27 O24 S26
          refine hK.out _ _ (hu27 : Up w3.heap.size w3 _) (fun hHeld => ?_)
          clear hK K
          (try dsimp only at hHeld)
          (try simp only [Act.put, List.setIfInBounds_toArray, List.set_cons_zero, List.set_cons_succ])
          clear hu27
          refine wpAnyH_ready (rs := [11]) (by kernel_rfl) (by simp) (AllReadyH.cons rfl (fun K hK => ?_) AllReadyH.nil)
          rw [if_pos (by kernel_rfl)]
          refine app_src_wp (.tmp 49) (.tmp 52) 22 rfl w3.heap.size 9 i9 _ 1 16 Tryd.underlying22 hi9 hz90 hz91 hz92 rfl (by decide) _ _ _ rfl O27.out _ _ _ rfl ((HSA _).out.stay hHeld.1) (str_one _) (by unfold maxLen; omega) (by omega) hHeld.2 ?_
          intro v31 y2 ho31 hg31
          change K (Act.put _ (some 53) _) _
          have O31 : Hid (y2.ownsRow w3.heap.size 9 1 v31 (0 + 0 + 1 + (0 - 0)) ([] ++ ([] : List ByteArray).map Value.string ++ [.string t] ++ ([] : List ByteArray).map Value.string)) := ho31
          have hu31 : Up w3.heap.size w3 y2 := hHeld.grown hg31 (own_base O27.out)
          clear ho31 hg31 O27
          refine hK.out _ _ (hu31 : Up w3.heap.size w3 _) (fun hHeld => ?_)
          clear hK K
          (try dsimp only at hHeld)
          (try simp only [Act.put, List.setIfInBounds_toArray, List.set_cons_zero, List.set_cons_succ])
          clear hu31
          refine takeH (i := 12) (v := ?_) (d := (some 8)) rfl (by kernel_rfl) (by kernel_rfl) (by kernel_rfl) rfl (fun _ _ _ h => h) (Or.inl ⟨by kernel_rfl, ?_⟩) (by assumption) ?_; rotate_left
          · (intro w hSw; (try dsimp only at hSw); first | (go_simp; done) | (go_simp; with_reducible rfl))
          (try simp only [Act.put, List.setIfInBounds_toArray, List.set_cons_zero, List.set_cons_succ])
          refine wpAnyH_done (by kernel_rfl) ?_ _
          have HU9 : Hid (Up w3.heap.size w3 y2) := hHeld
          clear hHeld
          have HO4 : Hid (OS y2 w3.heap.size v31 (List.take 0 ([] : List ByteArray) ++ t :: List.drop 0 ([] : List ByteArray))) := by
            show y2.ownsRow _ _ _ _ _ _
            have hown3 := O31.out
            have e : (List.take 0 ([] : List ByteArray) ++ t :: List.drop 0 ([] : List ByteArray)).length = 0 + 0 + 1 + (0 - 0) := by first | (simp; done) | (simp; omega)
            rw [e, List.map_append, List.map_cons]
            simpa using hown3
          clear O31
          go_wp2
          all_goals
            go_meet
            case rel => exact ⟨HO4, HU9⟩
      | some a =>
        obtain ⟨g, rfl, hgb, hgw, hcs⟩ := HSO.out a rfl
        have HSA : ∀ c, Hid (Srcs w3 (.slice (some ⟨g, 0, none⟩) k c) k 1 ((L.take k).map Value.string)) := fun c => srcs_part hcs (by simp; omega) (fun j x hx => by
          rw [Nat.zero_add]
          rw [List.getElem?_take] at hx
          split at hx
          · exact hx
          · cases hx)
        have HSB : ∀ c, Hid (Srcs w3 (.slice (if co = k then some ⟨g, 0, none⟩ else some ⟨g, k, none⟩) (nL - k) c) (nL - k) 1 ((L.drop k).map Value.string)) := fun c => by
          show Srcs _ _ _ _ _
          split
          · exact ⟨by simp; omega, Or.inl ⟨_, c, by rw [show nL - k = 0 by omega], by omega⟩⟩
          · exact srcs_part hcs (by simp; omega) (fun j x hx => by rw [List.getElem?_drop] at hx; exact hx)
        obtain ⟨adk, hadk⟩ : ∃ adk : Option Addr, (if co = k then some (⟨g, 0, none⟩ : Addr) else some ⟨g, k, none⟩) = adk := ⟨_, rfl⟩
        simp only [hadk] at HSB
        clear hcs
        refine wp_region_held_drew (S := fun w' => Up w3.heap.size w3 w') (by kernel_rfl) (Up.drew (Up.refl w3)) (fun hHeld => ?_)
        (try dsimp only at hHeld)
        obtain ⟨x0, hx0⟩ : ∃ x0, w3.drew = x0 := ⟨_, rfl⟩
        rw [hx0] at hHeld ⊢
        clear hx0
        refine takeH (i := 1) (v := ?_) (d := (some 43)) rfl (by kernel_rfl) (by kernel_rfl) (by kernel_rfl) rfl (fun _ _ _ h => h) (Or.inl ⟨by kernel_rfl, ?_⟩) (by assumption) ?_; rotate_left
        · (intro w hSw; (try dsimp only at hSw); first | (go_simp; done) | (go_simp; with_reducible rfl))
        (try simp only [Act.put, List.setIfInBounds_toArray, List.set_cons_zero, List.set_cons_succ])
        refine takeH (i := 2) (v := ?_) (d := (some 44)) rfl (by kernel_rfl) (by kernel_rfl) (by kernel_rfl) rfl (fun _ _ _ h => h) (Or.inl ⟨by kernel_rfl, ?_⟩) (by assumption) ?_; rotate_left
        · (intro w hSw; (try dsimp only at hSw); first | (go_simp; done) | (go_simp; with_reducible rfl))
        (try simp only [Act.put, List.setIfInBounds_toArray, List.set_cons_zero, List.set_cons_succ])
        refine takeH (i := 3) (v := ?_) (d := (some 45)) rfl (by kernel_rfl) (by kernel_rfl) (by kernel_rfl) rfl (fun _ _ _ h => h) (Or.inl ⟨by kernel_rfl, ?_⟩) (by assumption) ?_; rotate_left
        · (intro w hSw; (try dsimp only at hSw); first | (go_simp; done) | (go_simp; with_reducible rfl))
        (try simp only [Act.put, List.setIfInBounds_toArray, List.set_cons_zero, List.set_cons_succ])
        refine takeH (i := 5) (v := ?_) (d := (some 47)) rfl (by kernel_rfl) (by kernel_rfl) (by kernel_rfl) rfl (fun _ _ _ h => h) (Or.inl ⟨by kernel_rfl, ?_⟩) (by assumption) ?_; rotate_left
        · (intro w hSw; (try dsimp only at hSw); first | (go_simp; done) | (go_simp; with_reducible rfl))
        (try simp only [Act.put, List.setIfInBounds_toArray, List.set_cons_zero, List.set_cons_succ])
        refine takeH (i := 8) (v := ?_) (d := (some 50)) rfl (by kernel_rfl) (by kernel_rfl) (by kernel_rfl) rfl (fun _ _ _ h => h) (Or.inl ⟨by kernel_rfl, ?_⟩) (by assumption) ?_; rotate_left
        · (intro w hSw; (try dsimp only at hSw); first | (go_simp; done) | (go_simp; with_reducible rfl))
        (try simp only [Act.put, List.setIfInBounds_toArray, List.set_cons_zero, List.set_cons_succ])
        refine takeH (i := 9) (v := ?_) (d := (some 51)) rfl (by kernel_rfl) (by kernel_rfl) (by kernel_rfl) rfl (fun _ _ _ h => h) (Or.inl ⟨by kernel_rfl, ?_⟩) (by assumption) ?_; rotate_left
        · (intro w hSw; (try dsimp only at hSw); first | (go_simp; done) | (go_simp; with_reducible rfl))
        (try simp only [Act.put, List.setIfInBounds_toArray, List.set_cons_zero, List.set_cons_succ])
        refine takeH (i := 10) (v := ?_) (d := (some 52)) rfl (by kernel_rfl) (by kernel_rfl) (by kernel_rfl) rfl (fun _ _ _ h => h) (Or.inl ⟨by kernel_rfl, ?_⟩) (by assumption) ?_; rotate_left
        · (intro w hSw; (try dsimp only at hSw); first | (go_simp; done) | (go_simp; with_reducible rfl))
        (try simp only [Act.put, List.setIfInBounds_toArray, List.set_cons_zero, List.set_cons_succ])
        refine wpAnyH_ready (rs := [0, 6]) (by kernel_rfl) (by simp) (AllReadyH.cons rfl (fun K hK => ?_) (AllReadyH.cons rfl (fun K hK => ?_) AllReadyH.nil))
        · rw [if_pos (by kernel_rfl)]
          go_simp
          have O20 : Hid ((x0.alloc (.cells #[] 9)).ownsRow w3.heap.size 9 1 (.slice (some ⟨x0.heap.size, 0, none⟩) 0 0) 0 []) := World.ownsRow_lit x0 #[] 0 hHeld.2 (Nat.zero_le _) rfl
          refine hK.out _ _ (hHeld.alloc _ : Up w3.heap.size w3 _) (fun hHeld => ?_)
          clear hK K
          (try dsimp only at hHeld)
          (try simp only [Act.put, List.setIfInBounds_toArray, List.set_cons_zero, List.set_cons_succ])
          obtain ⟨x1, hx1⟩ : ∃ x1, x0.alloc (.cells #[] 9) = x1 := ⟨_, rfl⟩
          rw [hx1] at hHeld O20 ⊢
          refine wpAnyH_ready (rs := [4, 6]) (by kernel_rfl) (by simp) (AllReadyH.cons rfl (fun K hK => ?_) (AllReadyH.cons rfl (fun K hK => ?_) AllReadyH.nil))
          · rw [if_pos (by kernel_rfl)]
            refine app_src_wp (.tmp 42) (.tmp 45) 22 rfl w3.heap.size 9 i9 _ 1 16 Tryd.underlying22 hi9 hz90 hz91 hz92 rfl (by decide) _ _ _ rfl O20.out _ _ _ rfl ((HSA _).out.stay hHeld.1) (str_one _) (by unfold maxLen; omega) (by omega) hHeld.2 ?_
            intro v24 x2 ho24 hg24
            change K (Act.put _ (some 46) _) _
            have O24 : Hid (x2.ownsRow w3.heap.size 9 1 v24 (0 + k) ([] ++ (L.take k).map Value.string)) := ho24
            have hu24 : Up w3.heap.size w3 x2 := hHeld.grown hg24 (own_base O20.out)
            clear ho24 hg24 O20
            refine hK.out _ _ (hu24 : Up w3.heap.size w3 _) (fun hHeld => ?_)
            clear hK K
            (try dsimp only at hHeld)
            (try simp only [Act.put, List.setIfInBounds_toArray, List.set_cons_zero, List.set_cons_succ])
            clear hu24
            refine wpAnyH_ready (rs := [6]) (by kernel_rfl) (by simp) (AllReadyH.cons rfl (fun K hK => ?_) AllReadyH.nil)
            rw [if_pos (by kernel_rfl)]
            go_simp
            have S26 : Hid (Srcs (x2.alloc (.cells #[.string t] 9)) (.slice (some ⟨x2.heap.size, 0, none⟩) 1 1) 1 1 [.string t]) := srcs_new x2 #[.string t] 9 1 1 1 rfl
            have O24' := O24.out.alloc (.cells #[.string t] 9)
            clear O24
            have O24 : Hid (World.ownsRow _ _ _ _ _ _ _) := O24'
            clear O24'
            refine hK.out _ _ (hHeld.alloc _ : Up w3.heap.size w3 _) (fun hHeld => ?_)
            clear hK K
            (try dsimp only at hHeld)
            (try simp only [Act.put, List.setIfInBounds_toArray, List.set_cons_zero, List.set_cons_succ])
            obtain ⟨x3, hx3⟩ : ∃ x3, x2.alloc (.cells #[.string t] 9) = x3 := ⟨_, rfl⟩
            rw [hx3] at hHeld O24 S26 ⊢
            refine wpAnyH_ready (rs := [7]) (by kernel_rfl) (by simp) (AllReadyH.cons rfl (fun K hK => ?_) AllReadyH.nil)
            rw [if_pos (by kernel_rfl)]
            refine app_src_wp (.tmp 46) (.tmp 48) 22 rfl w3.heap.size 9 i9 _ 1 16 Tryd.underlying22 hi9 hz90 hz91 hz92 rfl (by decide) _ _ _ rfl O24.out _ _ _ rfl S26.out (one_one _ rfl) (by unfold maxLen; omega) (by omega) hHeld.2 ?_
            intro v27 y1 ho27 hg27
            change K (Act.put _ (some 49) _) _
            have O27 : Hid (y1.ownsRow w3.heap.size 9 1 v27 (0 + k + 1) ([] ++ (L.take k).map Value.string ++ [.string t])) := ho27
            have hu27 : Up w3.heap.size w3 y1 := hHeld.grown hg27 (own_base O24.out)
            clear ho27 hg27 O24 S26
            refine hK.out _ _ (hu27 : Up w3.heap.size w3 _) (fun hHeld => ?_)
            clear hK K
            (try dsimp only at hHeld)
            (try simp only [Act.put, List.setIfInBounds_toArray, List.set_cons_zero, List.set_cons_succ])
            clear hu27
            refine wpAnyH_ready (rs := [11]) (by kernel_rfl) (by simp) (AllReadyH.cons rfl (fun K hK => ?_) AllReadyH.nil)
            rw [if_pos (by kernel_rfl)]
            refine app_src_wp (.tmp 49) (.tmp 52) 22 rfl w3.heap.size 9 i9 _ 1 16 Tryd.underlying22 hi9 hz90 hz91 hz92 rfl (by decide) _ _ _ rfl O27.out _ _ _ rfl ((HSB _).out.stay hHeld.1) (str_one _) (by unfold maxLen; omega) (by omega) hHeld.2 ?_
            intro v31 y2 ho31 hg31
            change K (Act.put _ (some 53) _) _
            have O31 : Hid (y2.ownsRow w3.heap.size 9 1 v31 (0 + k + 1 + (nL - k)) ([] ++ (L.take k).map Value.string ++ [.string t] ++ (L.drop k).map Value.string)) := ho31
            have hu31 : Up w3.heap.size w3 y2 := hHeld.grown hg31 (own_base O27.out)
            clear ho31 hg31 O27
            refine hK.out _ _ (hu31 : Up w3.heap.size w3 _) (fun hHeld => ?_)
            clear hK K
            (try dsimp only at hHeld)
            (try simp only [Act.put, List.setIfInBounds_toArray, List.set_cons_zero, List.set_cons_succ])
            clear hu31
            refine takeH (i := 12) (v := ?_) (d := (some 8)) rfl (by kernel_rfl) (by kernel_rfl) (by kernel_rfl) rfl (fun _ _ _ h => h) (Or.inl ⟨by kernel_rfl, ?_⟩) (by assumption) ?_; rotate_left
            · (intro w hSw; (try dsimp only at hSw); first | (go_simp; done) | (go_simp; with_reducible rfl))
            (try simp only [Act.put, List.setIfInBounds_toArray, List.set_cons_zero, List.set_cons_succ])
            refine wpAnyH_done (by kernel_rfl) ?_ _
            have HU9 : Hid (Up w3.heap.size w3 y2) := hHeld
            clear hHeld
            have HO4 : Hid (OS y2 w3.heap.size v31 (List.take k L ++ t :: List.drop k L)) := by
              show y2.ownsRow _ _ _ _ _ _
              have hown3 := O31.out
              have e : (List.take k L ++ t :: List.drop k L).length = 0 + k + 1 + (nL - k) := by first | (simp; done) | (simp; omega)
              rw [e, List.map_append, List.map_cons]
              simpa using hown3
            clear O31
            go_wp2
            all_goals
              go_meet
              case rel => exact ⟨HO4, HU9⟩
          · rw [if_pos (by kernel_rfl)]
            go_simp
            have S26 : Hid (Srcs (x1.alloc (.cells #[.string t] 9)) (.slice (some ⟨x1.heap.size, 0, none⟩) 1 1) 1 1 [.string t]) := srcs_new x1 #[.string t] 9 1 1 1 rfl
            have O20' := O20.out.alloc (.cells #[.string t] 9)
            clear O20
            have O20 : Hid (World.ownsRow _ _ _ _ _ _ _) := O20'
            clear O20'
            have hne : x0.heap.size < x1.heap.size := by rw [← hx1]; simp
            refine hK.out _ _ (hHeld.alloc _ : Up w3.heap.size w3 _) (fun hHeld => ?_)
            clear hK K
            (try dsimp only at hHeld)
            (try simp only [Act.put, List.setIfInBounds_toArray, List.set_cons_zero, List.set_cons_succ])
            obtain ⟨x2, hx2⟩ : ∃ x2, x1.alloc (.cells #[.string t] 9) = x2 := ⟨_, rfl⟩
            rw [hx2] at hHeld O20 S26 ⊢
            refine wpAnyH_ready (rs := [4]) (by kernel_rfl) (by simp) (AllReadyH.cons rfl (fun K hK => ?_) AllReadyH.nil)
            rw [if_pos (by kernel_rfl)]
            refine app_src_wp (.tmp 42) (.tmp 45) 22 rfl w3.heap.size 9 i9 _ 1 16 Tryd.underlying22 hi9 hz90 hz91 hz92 rfl (by decide) _ _ _ rfl O20.out _ _ _ rfl ((HSA _).out.stay hHeld.1) (str_one _) (by unfold maxLen; omega) (by omega) hHeld.2 ?_
            intro v24 x3 ho24 hg24
            change K (Act.put _ (some 46) _) _
            have O24 : Hid (x3.ownsRow w3.heap.size 9 1 v24 (0 + k) ([] ++ (L.take k).map Value.string)) := ho24
            have S26' := S26.out.grown hg24 (fun e => by have e' : some x0.heap.size = some x1.heap.size := e; injection e' with e'; omega)
            clear S26
            have S26 : Hid (Srcs _ _ _ _ _) := S26'
            clear S26'
            have hu24 : Up w3.heap.size w3 x3 := hHeld.grown hg24 (own_base O20.out)
            clear ho24 hg24 O20
            refine hK.out _ _ (hu24 : Up w3.heap.size w3 _) (fun hHeld => ?_)
            clear hK K
            (try dsimp only at hHeld)
            (try simp only [Act.put, List.setIfInBounds_toArray, List.set_cons_zero, List.set_cons_succ])
            clear hu24
            refine wpAnyH_ready (rs := [7]) (by kernel_rfl) (by simp) (AllReadyH.cons rfl (fun K hK => ?_) AllReadyH.nil)
            rw [if_pos (by kernel_rfl)]
            refine app_src_wp (.tmp 46) (.tmp 48) 22 rfl w3.heap.size 9 i9 _ 1 16 Tryd.underlying22 hi9 hz90 hz91 hz92 rfl (by decide) _ _ _ rfl O24.out _ _ _ rfl S26.out (one_one _ rfl) (by unfold maxLen; omega) (by omega) hHeld.2 ?_
            intro v27 y1 ho27 hg27
            change K (Act.put _ (some 49) _) _
            have O27 : Hid (y1.ownsRow w3.heap.size 9 1 v27 (0 + k + 1) ([] ++ (L.take k).map Value.string ++ [.string t])) := ho27
            have hu27 : Up w3.heap.size w3 y1 := hHeld.grown hg27 (own_base O24.out)
            clear ho27 hg27 O24 S26
            refine hK.out _ _ (hu27 : Up w3.heap.size w3 _) (fun hHeld => ?_)
            clear hK K
            (try dsimp only at hHeld)
            (try simp only [Act.put, List.setIfInBounds_toArray, List.set_cons_zero, List.set_cons_succ])
            clear hu27
            refine wpAnyH_ready (rs := [11]) (by kernel_rfl) (by simp) (AllReadyH.cons rfl (fun K hK => ?_) AllReadyH.nil)
            rw [if_pos (by kernel_rfl)]
            refine app_src_wp (.tmp 49) (.tmp 52) 22 rfl w3.heap.size 9 i9 _ 1 16 Tryd.underlying22 hi9 hz90 hz91 hz92 rfl (by decide) _ _ _ rfl O27.out _ _ _ rfl ((HSB _).out.stay hHeld.1) (str_one _) (by unfold maxLen; omega) (by omega) hHeld.2 ?_
            intro v31 y2 ho31 hg31
            change K (Act.put _ (some 53) _) _
            have O31 : Hid (y2.ownsRow w3.heap.size 9 1 v31 (0 + k + 1 + (nL - k)) ([] ++ (L.take k).map Value.string ++ [.string t] ++ (L.drop k).map Value.string)) := ho31
            have hu31 : Up w3.heap.size w3 y2 := hHeld.grown hg31 (own_base O27.out)
            clear ho31 hg31 O27
            refine hK.out _ _ (hu31 : Up w3.heap.size w3 _) (fun hHeld => ?_)
            clear hK K
            (try dsimp only at hHeld)
            (try simp only [Act.put, List.setIfInBounds_toArray, List.set_cons_zero, List.set_cons_succ])
            clear hu31
            refine takeH (i := 12) (v := ?_) (d := (some 8)) rfl (by kernel_rfl) (by kernel_rfl) (by kernel_rfl) rfl (fun _ _ _ h => h) (Or.inl ⟨by kernel_rfl, ?_⟩) (by assumption) ?_; rotate_left
            · (intro w hSw; (try dsimp only at hSw); first | (go_simp; done) | (go_simp; with_reducible rfl))
            (try simp only [Act.put, List.setIfInBounds_toArray, List.set_cons_zero, List.set_cons_succ])
            refine wpAnyH_done (by kernel_rfl) ?_ _
            have HU9 : Hid (Up w3.heap.size w3 y2) := hHeld
            clear hHeld
            have HO4 : Hid (OS y2 w3.heap.size v31 (List.take k L ++ t :: List.drop k L)) := by
              show y2.ownsRow _ _ _ _ _ _
              have hown3 := O31.out
              have e : (List.take k L ++ t :: List.drop k L).length = 0 + k + 1 + (nL - k) := by first | (simp; done) | (simp; omega)
              rw [e, List.map_append, List.map_cons]
              simpa using hown3
            clear O31
            go_wp2
            all_goals
              go_meet
              case rel => exact ⟨HO4, HU9⟩
        · rw [if_pos (by kernel_rfl)]
          go_simp
          have S26 : Hid (Srcs (x0.alloc (.cells #[.string t] 9)) (.slice (some ⟨x0.heap.size, 0, none⟩) 1 1) 1 1 [.string t]) := srcs_new x0 #[.string t] 9 1 1 1 rfl
          refine hK.out _ _ (hHeld.alloc _ : Up w3.heap.size w3 _) (fun hHeld => ?_)
          clear hK K
          (try dsimp only at hHeld)
          (try simp only [Act.put, List.setIfInBounds_toArray, List.set_cons_zero, List.set_cons_succ])
          obtain ⟨x1, hx1⟩ : ∃ x1, x0.alloc (.cells #[.string t] 9) = x1 := ⟨_, rfl⟩
          rw [hx1] at hHeld S26 ⊢
          refine wpAnyH_ready (rs := [0]) (by kernel_rfl) (by simp) (AllReadyH.cons rfl (fun K hK => ?_) AllReadyH.nil)
          rw [if_pos (by kernel_rfl)]
          go_simp
          have O20 : Hid ((x1.alloc (.cells #[] 9)).ownsRow w3.heap.size 9 1 (.slice (some ⟨x1.heap.size, 0, none⟩) 0 0) 0 []) := World.ownsRow_lit x1 #[] 0 hHeld.2 (Nat.zero_le _) rfl
          have S26' := S26.out.stay ((Below.refl _ _).alloc (Nat.le_refl _) (.cells #[] 9))
          clear S26
          have S26 : Hid (Srcs _ _ _ _ _) := S26'
          clear S26'
          have hne : x0.heap.size < x1.heap.size := by rw [← hx1]; simp
          refine hK.out _ _ (hHeld.alloc _ : Up w3.heap.size w3 _) (fun hHeld => ?_)
          clear hK K
          (try dsimp only at hHeld)
          (try simp only [Act.put, List.setIfInBounds_toArray, List.set_cons_zero, List.set_cons_succ])
          obtain ⟨x2, hx2⟩ : ∃ x2, x1.alloc (.cells #[] 9) = x2 := ⟨_, rfl⟩
          rw [hx2] at hHeld O20 S26 ⊢
          refine wpAnyH_ready (rs := [4]) (by kernel_rfl) (by simp) (AllReadyH.cons rfl (fun K hK => ?_) AllReadyH.nil)
          rw [if_pos (by kernel_rfl)]
          refine app_src_wp (.tmp 42) (.tmp 45) 22 rfl w3.heap.size 9 i9 _ 1 16 Tryd.underlying22 hi9 hz90 hz91 hz92 rfl (by decide) _ _ _ rfl O20.out _ _ _ rfl ((HSA _).out.stay hHeld.1) (str_one _) (by unfold maxLen; omega) (by omega) hHeld.2 ?_
          intro v24 x3 ho24 hg24
          change K (Act.put _ (some 46) _) _
          have O24 : Hid (x3.ownsRow w3.heap.size 9 1 v24 (0 + k) ([] ++ (L.take k).map Value.string)) := ho24
          have S26' := S26.out.grown hg24 (fun e => by have e' : some x1.heap.size = some x0.heap.size := e; injection e' with e'; omega)
          clear S26
          have S26 : Hid (Srcs _ _ _ _ _) := S26'
          clear S26'
          have hu24 : Up w3.heap.size w3 x3 := hHeld.grown hg24 (own_base O20.out)
          clear ho24 hg24 O20
          refine hK.out _ _ (hu24 : Up w3.heap.size w3 _) (fun hHeld => ?_)
          clear hK K
          (try dsimp only at hHeld)
          (try simp only [Act.put, List.setIfInBounds_toArray, List.set_cons_zero, List.set_cons_succ])
          clear hu24
          refine wpAnyH_ready (rs := [7]) (by kernel_rfl) (by simp) (AllReadyH.cons rfl (fun K hK => ?_) AllReadyH.nil)
          rw [if_pos (by kernel_rfl)]
          refine app_src_wp (.tmp 46) (.tmp 48) 22 rfl w3.heap.size 9 i9 _ 1 16 Tryd.underlying22 hi9 hz90 hz91 hz92 rfl (by decide) _ _ _ rfl O24.out _ _ _ rfl S26.out (one_one _ rfl) (by unfold maxLen; omega) (by omega) hHeld.2 ?_
          intro v27 y1 ho27 hg27
          change K (Act.put _ (some 49) _) _
          have O27 : Hid (y1.ownsRow w3.heap.size 9 1 v27 (0 + k + 1) ([] ++ (L.take k).map Value.string ++ [.string t])) := ho27
          have hu27 : Up w3.heap.size w3 y1 := hHeld.grown hg27 (own_base O24.out)
          clear ho27 hg27 O24 S26
          refine hK.out _ _ (hu27 : Up w3.heap.size w3 _) (fun hHeld => ?_)
          clear hK K
          (try dsimp only at hHeld)
          (try simp only [Act.put, List.setIfInBounds_toArray, List.set_cons_zero, List.set_cons_succ])
          clear hu27
          refine wpAnyH_ready (rs := [11]) (by kernel_rfl) (by simp) (AllReadyH.cons rfl (fun K hK => ?_) AllReadyH.nil)
          rw [if_pos (by kernel_rfl)]
          refine app_src_wp (.tmp 49) (.tmp 52) 22 rfl w3.heap.size 9 i9 _ 1 16 Tryd.underlying22 hi9 hz90 hz91 hz92 rfl (by decide) _ _ _ rfl O27.out _ _ _ rfl ((HSB _).out.stay hHeld.1) (str_one _) (by unfold maxLen; omega) (by omega) hHeld.2 ?_
          intro v31 y2 ho31 hg31
          change K (Act.put _ (some 53) _) _
          have O31 : Hid (y2.ownsRow w3.heap.size 9 1 v31 (0 + k + 1 + (nL - k)) ([] ++ (L.take k).map Value.string ++ [.string t] ++ (L.drop k).map Value.string)) := ho31
          have hu31 : Up w3.heap.size w3 y2 := hHeld.grown hg31 (own_base O27.out)
          clear ho31 hg31 O27
          refine hK.out _ _ (hu31 : Up w3.heap.size w3 _) (fun hHeld => ?_)
          clear hK K
          (try dsimp only at hHeld)
          (try simp only [Act.put, List.setIfInBounds_toArray, List.set_cons_zero, List.set_cons_succ])
          clear hu31
          refine takeH (i := 12) (v := ?_) (d := (some 8)) rfl (by kernel_rfl) (by kernel_rfl) (by kernel_rfl) rfl (fun _ _ _ h => h) (Or.inl ⟨by kernel_rfl, ?_⟩) (by assumption) ?_; rotate_left
          · (intro w hSw; (try dsimp only at hSw); first | (go_simp; done) | (go_simp; with_reducible rfl))
          (try simp only [Act.put, List.setIfInBounds_toArray, List.set_cons_zero, List.set_cons_succ])
          refine wpAnyH_done (by kernel_rfl) ?_ _
          have HU9 : Hid (Up w3.heap.size w3 y2) := hHeld
          clear hHeld
          have HO4 : Hid (OS y2 w3.heap.size v31 (List.take k L ++ t :: List.drop k L)) := by
            show y2.ownsRow _ _ _ _ _ _
            have hown3 := O31.out
            have e : (List.take k L ++ t :: List.drop k L).length = 0 + k + 1 + (nL - k) := by first | (simp; done) | (simp; omega)
            rw [e, List.map_append, List.map_cons]
            simpa using hown3
          clear O31
          go_wp2
          all_goals
            go_meet
            case rel => exact ⟨HO4, HU9⟩
    case rest =>
      obtain ⟨HOM, HUM⟩ := hcut
      obtain ⟨M, eM⟩ : ∃ M, L.take k ++ t :: L.drop k = M := ⟨_, rfl⟩
      rw [eM] at HOM HPS
      have hMl : M.length = nL + 1 := by rw [← eM]; simp; omega
      clear eM
      have HO5 : Hid (OS wc w1.heap.size (.slice ado nL co) L) := HO3.out.stay HUM.out.1
      have HU5 : Hid (Up w.heap.size w wc) := HU3.out.stay HUM.out.1
      obtain ⟨am, cm, rfl, -, -, -⟩ := HOM.out.form
      have HML : Hid (M.length = nL + 1) := hMl
      rw [hMl] at HOM ⊢
      clear hMl
      have cA := made_has wc (tabs_stay HT.out HU5.out.1) (.slice ado nL co) L HO5.out.tl HR.out HG.out (by omega)
      go_wp2_with fail
      refine cA.mono ?_
      rintro e wa' ⟨hb6, vNa, la, rfl, hMA, q1, q2, q3, q4⟩
      have HO6 : Hid (OS wa' w1.heap.size (.slice ado nL co) L) := HO5.out.stay hb6
      have HM6 : Hid (OS wa' w3.heap.size (.slice am (nL + 1) cm) M) := HOM.out.stay hb6
      have HU6 : Hid (Up w.heap.size w wa') := HU5.out.stay hb6
      obtain ⟨bs, ebs⟩ : ∃ x, wc = x := ⟨_, rfl⟩
      have HA6 : Hid (TrieM wa' bs.heap.size (bs.heap.size + 1) nL vNa la) := by rw [← ebs, ← hlen]; exact hMA
      rw [ebs]
      have HQ6 : Hid (la.map Nd.p = (makeP L).2 ∧ OkP (makeP L).2 ∧ (makeP L).2.length ≤ 300000 ∧ 0 < (makeP L).2.length) := ⟨q1, q2, q3, q4⟩
      clear hb6 hMA q1 q2 q3 q4 cA HO5 HOM ebs
      go_upto_region 13 with fail
      go_cut [70] (fun tv wx => (∃ b : Bool, tv = .bool b ∧ Hid (b = true ↔ t ∈ L)) ∧ wx = wa')
      case first =>
        by_cases hkL : k < nL
        · have x1 : (k : Int) < (nL : Int) := by omega
          obtain ⟨_, _, hov, _, hno6, hso6⟩ := HO6.out.form
          injection hov with hov1 hov2 hov3
          subst hov1 hov3
          obtain ⟨a, ha⟩ : ∃ a, ado = some a := by
            cases ado with
            | none => have := (hno6 rfl).1; subst this; simp at hlen; omega
            | some a => exact ⟨a, rfl⟩
          obtain ⟨g, rfl, _, _, hcs⟩ := hso6 a ha
          subst ha
          have hck := hcs k (by omega)
          have HIN : Hid (L[k]'(by omega) = t → t ∈ L) := fun h => by rw [← h]; exact List.getElem_mem _
          have HNE : Hid (L[k]'(by omega) ≠ t → t ∉ L) := fun h => HNI.out (fun _ => h)
          generalize L[k]'(by omega) = x at hck HIN HNE
          have EQ := eq_str x t
          clear hno6 hso6 hcs hov2
          by_cases hxt : x = t
          · have hq : (x.toList == t.toList) = true := by rw [EQ]; simpa using hxt
            have HXT : Hid (x = t) := hxt
            clear EQ hxt
            go_wp2
            go_meet
            case rel => exact ⟨⟨true, rfl, ⟨fun _ => HIN.out HXT.out, fun _ => rfl⟩⟩, rfl⟩
          · have hq : (x.toList == t.toList) = false := by rw [EQ]; simpa using hxt
            have HXT : Hid (¬ x = t) := hxt
            clear EQ hxt
            go_wp2
            go_meet
            case rel => exact ⟨⟨false, rfl, ⟨fun h => (by cases h), fun h => absurd h (HNE.out HXT.out)⟩⟩, rfl⟩
        · have x1 : ¬ (k : Int) < (nL : Int) := by omega
          have HNE : Hid (t ∉ L) := HNI.out (fun hk => absurd hk (by omega))
          go_wp2
          go_meet
          case rel => exact ⟨⟨false, rfl, ⟨fun h => (by cases h), fun h => absurd h HNE.out⟩⟩, rfl⟩
      case rest =>
        obtain ⟨⟨b, rfl, HBT⟩, hw⟩ := hcut
        subst wc
        have cT := has_made HA6.out (tabs_stay HT.out HU6.out.1) HQ6.out.1 HQ6.out.2.1 HQ6.out.2.2.1 HQ6.out.2.2.2 HR.out HG.out (by omega) t (by have := HGt.out.2.1; omega)
        cases b with
        | true =>
          have HTL : Hid (t ∈ L) := HBT.out.1 rfl
          go_wp2_with fail
          refine cT.mono ?_
          rintro e wh ⟨⟨bh, rfl, hbh⟩, hbb⟩
          obtain rfl : bh = true := hbh.2 HTL.out
          have HU7 : Hid (Up w.heap.size w wh) := HU6.out.stay hbb
          clear cT hbb hbh
          go_wp2
          go_ret
          exact ⟨rfl, HU7.out.1⟩
        | false =>
          have HTL : Hid (t ∉ L) := fun h => by have := HBT.out.2 h; cases this
          have HRM : Hid (RiseK id M) := by show RiseK id M; rw [← HPS.out]; exact putK_rise id L t HR.out (by simpa using HTL.out)
          have HMM : Hid (∀ x, x ∈ M ↔ x = t ∨ x ∈ L) := fun x => by rw [← HPS.out, (putK_perm id L t).mem_iff, List.mem_cons]
          have HGM : Hid (∀ x ∈ M, GoodW x) := fun x hx => by
            rcases (HMM.out x).1 hx with e | e
            · rw [e]; exact HGt.out
            · exact HG.out x e
          clear cT
          have cB := made_has wa' (tabs_stay HT.out HU6.out.1) (.slice am (nL + 1) cm) M HM6.out.tl HRM.out HGM.out (by rw [HML.out]; omega)
          go_wp2_with fail
          refine cB.mono ?_
          rintro e wb ⟨hb7, vNb, lb, rfl, hMB, r1, r2, r3, r4⟩
          have HO7 : Hid (OS wb w1.heap.size (.slice ado nL co) L) := HO6.out.stay hb7
          have HA7 : Hid (TrieM wb bs.heap.size (bs.heap.size + 1) nL vNa la) := HA6.out.stay hb7
          have HU7 : Hid (Up w.heap.size w wb) := HU6.out.stay hb7
          have HB7 : Hid (TrieM wb wa'.heap.size (wa'.heap.size + 1) (nL + 1) vNb lb) := by rw [← HML.out]; exact hMB
          have HQ7 : Hid (lb.map Nd.p = (makeP M).2 ∧ OkP (makeP M).2 ∧ (makeP M).2.length ≤ 300000 ∧ 0 < (makeP M).2.length) := ⟨r1, r2, r3, r4⟩
          clear hb7 hMB r1 r2 r3 r4 cB
          have hla : la.length = (makeP L).2.length := by rw [← HQ6.out.1, List.length_map]
          have hlb : lb.length = (makeP M).2.length := by rw [← HQ7.out.1, List.length_map]
          have hmn := more_nodes (makeP_zero HR.out HG.out (by omega)) (makeP_zero HRM.out HGM.out (by rw [HML.out]; omega)) HMM.out
          rw [← hla, ← hlb] at hmn
          have h3a := HQ6.out.2.2.1
          have h4a := HQ6.out.2.2.2
          have h3b := HQ7.out.2.2.1
          have h4b := HQ7.out.2.2.2
          rw [← hla] at h3a h4a
          rw [← hlb] at h3b h4b
          have HSZ : Hid (0 < la.length ∧ la.length ≤ 300000 ∧ 0 < lb.length ∧ lb.length ≤ 300000) := ⟨h4a, h3a, h4b, h3b⟩
          obtain ⟨A1, eA1⟩ : ∃ x, la.length - 1 = x := ⟨_, rfl⟩
          obtain ⟨B1, eB1⟩ : ∃ x, lb.length - 1 = x := ⟨_, rfl⟩
          obtain ⟨kk, ekk⟩ : ∃ x, (rs t).length = x := ⟨_, rfl⟩
          have f1 : (A1 : Int) ≤ (B1 : Int) := by omega
          have f2 : (B1 : Int) ≤ (A1 : Int) + (kk : Int) := by omega
          have f3 : (A1 : Int) ≤ 300000 := by omega
          have f4 : (kk : Int) ≤ 12 := by have := HGt.out.2.2.2; omega
          have f5 : (0 : Int) ≤ (A1 : Int) := by omega
          have f6 : (0 : Int) ≤ (kk : Int) := by omega
          have EE : Hid (la.length - 1 = A1 ∧ lb.length - 1 = B1 ∧ (rs t).length = kk) := ⟨eA1, eB1, ekk⟩
          clear hla hlb hmn h3a h4a h3b h4b eA1 eB1 ekk
          go_wp2
          go_loopg [85] nL (fun g iv wr => ∃ i : Nat, i ≤ nL ∧ g = nL - i ∧ iv = .int .i64 i ∧ Hid (Up wb.heap.size wb wr))
          case atStart => exact ⟨0, Nat.zero_le _, rfl, rfl, Up.refl wb⟩
          case round =>
            obtain ⟨i, hin, hg, rfl, HUr⟩ := hrel
            have y0 : (0 : Int) ≤ (i : Int) := by omega
            by_cases hlt : i < nL
            · have y1 : (i : Int) < (nL : Int) := by omega
              obtain ⟨_, _, hov, _, hno6, hso6⟩ := HO7.out.form
              injection hov with hov1 hov2 hov3
              subst hov1 hov3
              obtain ⟨a, ha⟩ : ∃ a, ado = some a := by
                cases ado with
                | none => have := (hno6 rfl).1; subst this; simp at hlen; omega
                | some a => exact ⟨a, rfl⟩
              obtain ⟨g, rfl, _, _, hcs⟩ := hso6 a ha
              subst ha
              have hck := cell_stay (hcs i (by omega)) HUr.out.1
              have HXM : Hid (L[i]'(by omega) ∈ M) := (HMM.out _).2 (Or.inr (List.getElem_mem _))
              generalize L[i]'(by omega) = x at hck HXM
              have cH := has_made (HB7.out.stay HUr.out.1) (tabs_stay HT.out (HU7.out.stay HUr.out.1).1) HQ7.out.1 HQ7.out.2.1 HQ7.out.2.2.1 HQ7.out.2.2.2 HRM.out HGM.out (by rw [HML.out]; omega) x (by have := (HGM.out x HXM.out).2.1; omega)
              clear hno6 hso6 hcs hov2
              go_wp2_with fail
              refine cH.mono ?_
              rintro e wh ⟨⟨bh, rfl, hbh⟩, hbb⟩
              obtain rfl : bh = true := hbh.2 HXM.out
              have HUh : Hid (Up wb.heap.size wb wh) := HUr.out.stay hbb
              clear cH hbb hbh
              go_wp2
              go_roundg (nL - (i + 1))
              case measure => omega
              case rel => exact ⟨i + 1, by omega, rfl, by go_num, HUh⟩
            · obtain rfl : i = nL := by omega
              have y1 : ¬ (i : Int) < (i : Int) := by omega
              have c1 := has_made (HA7.out.stay HUr.out.1) (tabs_stay HT.out (HU7.out.stay HUr.out.1).1) HQ6.out.1 HQ6.out.2.1 HQ6.out.2.2.1 HQ6.out.2.2.2 HR.out HG.out (by omega) t (by have := HGt.out.2.1; omega)
              go_wp2_with fail
              refine c1.mono ?_
              rintro e w8 ⟨⟨b8, rfl, hb8⟩, hbb⟩
              obtain rfl : b8 = false := has_not hb8 HTL.out
              have HU8 : Hid (Up wb.heap.size wb w8) := HUr.out.stay hbb
              clear c1 hbb hb8
              have c2 := has_made (HB7.out.stay HU8.out.1) (tabs_stay HT.out (HU7.out.stay HU8.out.1).1) HQ7.out.1 HQ7.out.2.1 HQ7.out.2.2.1 HQ7.out.2.2.2 HRM.out HGM.out (by rw [HML.out]; omega) t (by have := HGt.out.2.1; omega)
              go_wp2_with fail
              refine c2.mono ?_
              rintro e w9 ⟨⟨b9, rfl, hb9⟩, hbb⟩
              obtain rfl : b9 = true := hb9.2 ((HMM.out t).2 (Or.inl rfl))
              have HU9 : Hid (Up wb.heap.size wb w9) := HU8.out.stay hbb
              clear c2 hbb hb9
              have cLb := len_any (HB7.out.stay HU9.out.1)
              have cLa := len_any (HA7.out.stay HU9.out.1)
              have cSb := size_any (HB7.out.stay HU9.out.1) HSZ.out.2.2.1 (by have := HSZ.out.2.2.2; omega)
              have cSa := size_any (HA7.out.stay HU9.out.1) HSZ.out.1 (by have := HSZ.out.2.1; omega)
              rw [EE.out.1] at cSa
              rw [EE.out.2.1] at cSb
              have CSa : Hid (Calls Tryd.prog 23 #[.pointer (some ⟨bs.heap.size + 1, 0, none⟩)] w9 fun e w' => e = .returned (.int .i64 (A1 : Int)) ∧ w' = w9) := cSa
              have CSb : Hid (Calls Tryd.prog 23 #[.pointer (some ⟨wa'.heap.size + 1, 0, none⟩)] w9 fun e w' => e = .returned (.int .i64 (B1 : Int)) ∧ w' = w9) := cSb
              have CLa : Hid (Calls Tryd.prog 12 #[.pointer (some ⟨bs.heap.size + 1, 0, none⟩)] w9 fun e w' => e = .returned (.int .i64 (i : Int)) ∧ w' = w9) := cLa
              have CLb : Hid (Calls Tryd.prog 12 #[.pointer (some ⟨wa'.heap.size + 1, 0, none⟩)] w9 fun e w' => e = .returned (.int .i64 ((i + 1 : Nat) : Int)) ∧ w' = w9) := cLb
              clear cLb cLa cSb cSa
              have cx := CLb.out
              go_wp2_with fail
              refine cx.mono ?_
              rintro e wx ⟨rfl, hwx⟩
              subst wx
              clear cx
              have cx := CLa.out
              go_wp2_with fail
              refine cx.mono ?_
              rintro e wx ⟨rfl, hwx⟩
              subst wx
              clear cx
              have cx := CSb.out
              go_wp2_with fail
              refine cx.mono ?_
              rintro e wx ⟨rfl, hwx⟩
              subst wx
              clear cx
              have cx := CSa.out
              go_wp2_with fail
              refine cx.mono ?_
              rintro e wx ⟨rfl, hwx⟩
              subst wx
              clear cx
              have cx := CSb.out
              go_wp2_with fail
              refine cx.mono ?_
              rintro e wx ⟨rfl, hwx⟩
              subst wx
              clear cx
              have cx := CSa.out
              go_wp2_with fail
              refine cx.mono ?_
              rintro e wx ⟨rfl, hwx⟩
              subst wx
              clear cx
              have cR := runes_any t w9 (by have := HGt.out.2.1; omega) (tabs_stay HT.out (HU7.out.stay HU9.out.1).1)
              go_wp2_with fail
              refine cR.mono ?_
              rintro e w10 ⟨k', v10, rfl, hE, hO10, hb10⟩
              obtain rfl : k' = kS t := (kS_is hE).symm
              rw [rcells_rs, ← rs_len] at hO10
              obtain ⟨a10, c10, rfl, -, -⟩ := own_rsl hO10
              rw [EE.out.2.2]
              have HU10 : Hid (Up wb.heap.size wb w10) := HU9.out.stay hb10
              clear cR hE hO10 hb10
              go_wp2
              go_ret
              exact ⟨rfl, (HU7.out.stay HU10.out.1).1⟩
end Go.Proofs.YtbmmjpmgkkljgaaDoor
