/- mark: ends, front, Lex. -/
import Derived.Test.YtodjfeheagnnpaaDoormLine
import Derived.Test.YtodjfeheagnnpaaDoorkX
import Derived.Test.YtodjfeheagnnpaaDoormStr
namespace Go.Proofs.YtodjfeheagnnpaaDoor
set_option linter.unusedVariables false
open Go.RowKit Go.ChangeShapes Go.Maps
open Lns (Idx nL S isSt bsl_own)
theorem bs_get {c : Nat → Int} {n j : Nat} (hC : ∀ i, i < n → 0 ≤ c i ∧ c i < 256) (h : j < n) : (((bs c n).get! j).toNat : Int) = c j := by
  have h1 : (cl c n)[j]? = some (c j) := cl_at c n j h
  exact Lns.nums_bt h1 (hC j h)
theorem bs_bt {c : Nat → Int} {n j : Nat} (hC : ∀ i, i < n → 0 ≤ c i ∧ c i < 256) (h : j < n) : (bt (bs c n) j : Int) = c j := bs_get hC h
theorem bs_by {w : World} {b off n : Nat} {c : Nat → Int} (hC : ∀ i, i < n → 0 ≤ c i ∧ c i < 256) (h : BC w (some ⟨b, off, none⟩) n c) : Lns.By w b off (bs c n) := fun j hj => by
  rw [bs_size] at hj
  obtain ⟨b', off', e, hc⟩ := h j hj
  injection e with e
  injection e with e1 e2 _
  subst e1 e2
  rw [hc, ← bs_get hC hj]
theorem st_ln {c : Nat → Int} {n : Nat} (hC : ∀ i, i < n → 0 ≤ c i ∧ c i < 256) (i : Nat) (h : i + 1 < n) : isSt (bs c n) (i + 1) = (c i == 10) := by
  rw [Lns.isSt_succ]
  have := bs_bt hC (show i < n by omega)
  by_cases h10 : c i = 10
  · rw [h10] at this ⊢
    have : bt (bs c n) i = 10 := by omega
    simp [this]
  · have h2 : ¬ bt (bs c n) i = 10 := fun e => h10 (by rw [← this, e]; rfl)
    have h3 : (c i == 10) = false := by simpa using h10
    rw [h3]
    simp [h2]
theorem S_next {c : Nat → Int} {n j : Nat} (hC : ∀ i, i < n → 0 ≤ c i ∧ c i < 256) (h : j < nL (bs c n)) : S (bs c n) (j + 1) = lnE c n (S (bs c n) j) := by
  have hlt := Lns.S_lt h
  rw [bs_size] at hlt
  have hmono : S (bs c n) j < S (bs c n) (j + 1) := Lns.S_mono (Nat.lt_succ_self j) h
  -- no newline between
  have hno : ∀ q, S (bs c n) j ≤ q → q + 1 < S (bs c n) (j + 1) → c q ≠ 10 := fun q h1 h2 h10 => by
    have hq : q + 1 < n := by have := Lns.S_le (bs c n) (j + 1); rw [bs_size] at this; omega
    have hst : isSt (bs c n) (q + 1) = true := by rw [st_ln hC q hq, h10]; rfl
    obtain ⟨j', hj', e⟩ := Lns.S_of (s := bs c n) (p := q + 1) (by rw [bs_size]; exact hq) hst
    rcases Nat.lt_trichotomy j' (j + 1) with h3 | h3 | h3
    · have := Lns.S_mono_le (bs c n) (show j' ≤ j by omega)
      omega
    · subst h3; omega
    · have := Lns.S_mono_le (bs c n) (show j + 1 ≤ j' by omega)
      omega
  unfold lnE
  rcases Nat.lt_or_ge (j + 1) (nL (bs c n)) with h1 | h1
  · have hS1 := Lns.S_lt h1
    rw [bs_size] at hS1
    have hnl := Lns.S_newline h1
    have hp : 0 < S (bs c n) (j + 1) := by omega
    have hc10 : c (S (bs c n) (j + 1) - 1) = 10 := by
      have := bs_bt hC (show S (bs c n) (j + 1) - 1 < n by omega)
      rw [hnl] at this
      exact this.symm
    have hf : fs (fun k => c k == 10) n (S (bs c n) j) = S (bs c n) (j + 1) - 1 := fs_is (by omega) (by omega) (fun k h2 h3 => by
      have := hno k h2 (by omega)
      simpa using this) (fun _ => by rw [hc10]; rfl)
    rw [hf, if_pos (by omega)]
    omega
  · have hS1 : S (bs c n) (j + 1) = n := by rw [Lns.S_big h1, bs_size]
    rw [hS1] at hno hmono
    rcases Nat.lt_or_ge (fs (fun k => c k == 10) n (S (bs c n) j)) n with h2 | h2
    · have h3 := fs_hit h2
      have h4 := fs_ge (fun k => c k == 10) n (S (bs c n) j)
      have h5 : ¬ fs (fun k => c k == 10) n (S (bs c n) j) + 1 < n := fun h6 => hno _ h4 h6 (by simpa using h3)
      rw [if_pos h2, hS1]
      omega
    · rw [if_neg (by omega), hS1]
theorem ends_at {c : Nat → Int} {n K j : Nat} {v : Value} {w : World} (hn : n ≤ 40000) (hj : j < nL (bs c n)) (h : Idx w v (bs c n) K) :
    Calls Tryd.prog 32 #[v, .int .i64 j] w fun e w' => e = .returned (.tuple #[.int .i64 (S (bs c n) j : Nat), .int .i64 (S (bs c n) (j + 1) : Nat)]) ∧ Below w.heap.size w w' := by
  have ct := Lns.span_ok (bs c n) K v j w (by rw [bs_size]; exact hn) hj h
  have hle := Lns.S_le (bs c n) (j + 1)
  rw [bs_size] at hle
  have hmo := Lns.S_mono_le (bs c n) (Nat.le_succ j)
  have hjl := Lns.nL_le (bs c n)
  rw [bs_size] at hjl
  obtain ⟨P, hP⟩ : ∃ P, S (bs c n) j = P := ⟨_, rfl⟩
  obtain ⟨R, hR⟩ : ∃ R, S (bs c n) (j + 1) = R := ⟨_, rfl⟩
  have hmo' : P ≤ R := by rw [← hP, ← hR]; exact hmo
  rw [hR] at hle
  rw [hP, hR] at ct ⊢
  clear hP hR hmo h
  go_enter Tryd.func32, Tryd.ntmps32
  go_wp2_with fail
  refine ct.mono ?_
  rintro e w1 ⟨rfl, hb⟩
  clear ct
  obtain ⟨W, hW⟩ : ∃ W, w1.alloc (.cells #[.int .i64 P, .int .i64 ((R : Int) - P)] 29) = W := ⟨_, rfl⟩
  have hBW : Below w1.heap.size w1 W := by rw [← hW]; exact below_alloc w1 _
  have hh : W.heap[w1.heap.size]? = some (.cells #[.int .i64 P, .int .i64 ((R : Int) - P)] 29) := by rw [← hW]; exact heap_alloc_new _ _
  have x0 : W.cell? ⟨w1.heap.size, 0, none⟩ = some (.int .i64 P) := by simp [World.cell?, hh]
  have x1 : W.cell? ⟨w1.heap.size, 1, none⟩ = some (.int .i64 ((R : Int) - P)) := by simp [World.cell?, hh]
  have HB : Hid (Below w.heap.size w W) := hb.trans (hBW.mono hb.size)
  have hsum : (P : Int) + ((R : Int) - P) = (R : Int) := by omega
  clear hb hBW hh
  go_wp2_with fail
  go_quiet (fail)
  go_wp2
  refine bodyPost_ret (v := .tuple #[.int .i64 P, .int .i64 R]) (by simp [results, Tryd.results32, go_sem]) rfl ⟨rfl, ?_⟩
  first | exact HB.out | exact HB.out.drew | exact below_drewN HB.out _
/-- Where lines begin isn't told by the two blocks that change. -/
theorem idx_chg {w w' : World} {v : Value} {s : ByteArray} {K B gs : Nat} {y : Int} (h : Idx w v s K) (hB : w.cell? ⟨B, 0, none⟩ = some (.pointer (some ⟨gs, 0, none⟩)) ∨ ∃ q, w.cell? ⟨B, 0, none⟩ = some (.pointer q)) (hg : w.cell? ⟨gs, 0, none⟩ = some (.int .u8 y)) (hc : Chg B gs w w') : Idx w' v s K := by
  obtain ⟨q, hq⟩ : ∃ q, w.cell? ⟨B, 0, none⟩ = some (.pointer q) := by
    rcases hB with h1 | h1
    · exact ⟨_, h1⟩
    · exact h1
  obtain ⟨he, g, vl, vs, rfl, h0, h1, h2, h3, h4⟩ := h
  have ne : ∀ (b : Nat) (z : Int), w.cell? ⟨b, 0, none⟩ = some (.int .i64 z) → b ≠ B ∧ b ≠ gs := fun b z hz => by
    constructor
    · intro e; subst e; rw [hq] at hz; cases hz
    · intro e; subst e; rw [hg] at hz; cases hz
  have keep : ∀ (b i : Nat) (u : Value) (z : Int), w.cell? ⟨b, 0, none⟩ = some (.int .i64 z) → w.cell? ⟨b, i, none⟩ = some u → w'.cell? ⟨b, i, none⟩ = some u := fun b i u z hz hu => by
    have hn := ne b z hz
    have e := hc.block b (World.block_lt_of_cell? w _ hz) hn.1 hn.2
    rw [← hu]
    simp only [World.cell?]
    rw [e]
  have row : ∀ (u : Value) (k : Nat) (P : Nat → Nat), Lns.ISl w u k P → Lns.ISl w' u k P := fun u k P hu => by
    rcases hu with h5 | ⟨b, c, e, h5⟩
    · exact Or.inl h5
    · rcases Nat.eq_zero_or_pos k with hk | hk
      · exact Or.inr ⟨b, c, e, fun i hi => by omega⟩
      · exact Or.inr ⟨b, c, e, fun i hi => keep b i _ _ (h5 0 hk) (h5 i hi)⟩
  exact ⟨he, g, vl, vs, rfl, keep g 0 _ _ h0 h0, keep g 1 _ _ h0 h1, keep g 2 _ _ h0 h2, row _ _ _ h3, row _ _ _ h4⟩
theorem ds_str {d : Nat → Int} {m : Nat} (hC : ∀ i, i < m → 0 ≤ d i ∧ d i < 256) : ((strOfNums (cl d (tmN d m))).toList == [45, 45, 45]) = dsP d m := by
  have hb : Byt (cl d (tmN d m)) := fun x hx => by
    obtain ⟨i, hi, rfl⟩ := List.mem_map.1 hx
    have := tmN_le d m
    exact hC i (by have := List.mem_range.1 hi; omega)
  rw [show ((strOfNums (cl d (tmN d m))).toList == [45, 45, 45]) = (cl d (tmN d m) == [45, 45, 45]) from nums_is hb _ (byt_lit [45, 45, 45] rfl)]
  unfold dsP
  by_cases h3 : tmN d m = 3
  · rw [h3]
    show ([d 0, d 1, d 2] == [45, 45, 45]) = _
    simp [Bool.and_assoc]
  · have : (cl d (tmN d m) == [45, 45, 45]) = false := by
      rw [beq_eq_false_iff_ne]
      intro e
      have := congrArg List.length e
      rw [cl_len] at this
      exact h3 this
    rw [this]
    simp [h3]
def FrP (w : World) (b off n cap B T gs : Nat) (c L : Nat → Int) (mv : Value) (v : Value) (K : Nat) (e : Ending) (w' : World) : Prop :=
  ∃ r : Nat, e = .returned (.int .i64 r) ∧ S (bs c n) r = frP c n ∧ r ≤ nL (bs c n) ∧ En w' b off n cap B T gs c (setL L 4 0 ((frP c n : Nat) : Int)) 0 0 true mv ∧ Idx w' v (bs c n) K ∧ Chg B gs w w'
set_option maxRecDepth 100000 in
theorem front_any {w : World} {b off n cap B T gs : Nat} {c L : Nat → Int} {mv v : Value} {K : Nat} (hs : Sta b n cap B T gs c) (hE : En w b off n cap B T gs c L 0 0 true mv) (h0 : 0 < n) (hI : Idx w v (bs c n) K) :
    Calls Tryd.prog 30 #[.pointer (some ⟨B, 0, none⟩), v] w (FrP w b off n cap B T gs c L mv v K) := by
  have hN := hs.n
  have ct := Lns.lines_any (bs c n) K v w hI
  have hpos := Lns.nL_pos (s := bs c n) (by rw [bs_size]; exact h0)
  have hnl := Lns.nL_le (bs c n)
  rw [bs_size] at hnl
  have hcap := hs.nc
  have HE : Hid (En w b off n cap B T gs c L 0 0 true mv ∧ Idx w v (bs c n) K ∧ Sta b n cap B T gs c) := ⟨hE, hI, hs⟩
  obtain ⟨Q, hQ⟩ : ∃ Q, FrP w b off n cap B T gs c L mv v K = Q := ⟨_, rfl⟩
  have HQ : Hid (FrP w b off n cap B T gs c L mv v K = Q) := hQ
  rw [hQ]
  obtain ⟨NL, hNL⟩ : ∃ NL, nL (bs c n) = NL := ⟨_, rfl⟩
  have HNL : Hid (nL (bs c n) = NL) := hNL
  rw [hNL] at ct hpos hnl
  clear hs hE hI hQ hNL
  go_enter Tryd.func30, Tryd.ntmps30
  go_wp2_with fail
  refine ct.mono ?_
  rintro e w1 ⟨rfl, hw⟩
  subst w1
  clear ct
  go_wp2
  go_loopg [11] (NL) (fun q iv wr => ∃ j : Nat, q = NL - j ∧ j ≤ NL ∧ iv = .int .i64 j ∧ Hid (En wr b off n cap B T gs c L 0 0 true mv ∧ Idx wr v (bs c n) K ∧ Chg B gs w wr) ∧ Hid ((0 < j → fr c n (S (bs c n) j) = frP c n)))
  case atStart => exact ⟨0, rfl, Nat.zero_le _, rfl, ⟨HE.out.1, HE.out.2.1, Chg.refl _ _ _⟩, fun h => absurd h (Nat.lt_irrefl _)⟩
  case round =>
    obtain ⟨j, hq, hj, rfl, HR, HF⟩ := hrel
    by_cases hlt : j < NL
    · have z1 : (j : Int) < (NL : Int) := by omega
      have hjn : j < nL (bs c n) := by rw [HNL.out]; exact hlt
      have ctE := ends_at hN hjn HR.out.2.1
      have hSn := S_next HE.out.2.2.ch.1 hjn
      have hSl := Lns.S_lt hjn
      rw [bs_size] at hSl
      have hSm := lnE_le c hSl
      rw [← hSn] at hSm
      have hfr1 := fr_one (c := c) (n := n) hSl
      rw [← hSn] at hfr1
      have hS0 : j = 0 → S (bs c n) j = 0 := fun e => by rw [e]; exact Lns.S_zero _
      obtain ⟨P, hP⟩ : ∃ P, S (bs c n) j = P := ⟨_, rfl⟩
      obtain ⟨R, hR⟩ : ∃ R, S (bs c n) (j + 1) = R := ⟨_, rfl⟩
      rw [hP, hR] at ctE
      rw [hP] at hSl HF
      rw [hP, hR] at hfr1 hSm
      rw [hP] at hS0
      have HPR : Hid (S (bs c n) (j + 1) = R ∧ S (bs c n) j = P) := ⟨hR, hP⟩
      have HFR : Hid (fr c n P = if dsP (ln c P R) (R - P) = true then R else fr c n R) := hfr1
      have hfp0 : j = 0 → frP c n = if dsP (ln c P R) (R - P) = true then fr c n R else 0 := fun e => by
        unfold frP
        have h1 := hS0 e
        rw [if_neg (by omega)]
        have h2 : lnE c n 0 = R := by rw [← hR, hSn, hP, h1]
        rw [h2, h1]
      have HF0 : Hid (j = 0 → frP c n = if dsP (ln c P R) (R - P) = true then fr c n R else 0) := hfp0
      clear hP hR hfr1 hSn hfp0 hS0
      go_wp2_with fail
      refine ctE.mono ?_
      rintro e w2 ⟨rfl, hb2⟩
      have hE2 := HR.out.1.stay hb2
      have hI2 := HR.out.2.1.stay hb2
      have hC2 := HR.out.2.2.stay hb2
      obtain ⟨x0, x1, -, -, -, -⟩ := hE2.fl.cells
      have y1 : (0 : Int) ≤ (P : Int) := by omega
      have y2 : (P : Int) ≤ (R : Int) := by omega
      have y3 : (R : Int) ≤ (cap : Int) := by omega
      have y5 : ¬ cap = P := by omega
      have hfr := BC.from (cap := cap) (hE2.bc.upto hSm.2) P (show P ≤ R by omega) (by omega)
      rw [if_neg y5] at hfr
      have hbd : BC w2 (some ⟨b, off + P, none⟩) (R - P) (ln c P R) := hfr.congr fun i hi => (ln_in hi).symm
      have hCd := ln_ch HE.out.2.2.ch (show P ≤ R by omega) hSm.2
      obtain ⟨d, hd⟩ : ∃ d, ln c P R = d := ⟨_, rfl⟩
      obtain ⟨m, hm⟩ : ∃ m, R - P = m := ⟨_, rfl⟩
      rw [hd, hm] at hbd hCd HFR HF0
      obtain ⟨p, hp⟩ : ∃ p, cap - P = p := ⟨_, rfl⟩
      have ctT := trimmed_at hCd.1 hbd (by omega) (show m ≤ p by omega) (by have := HE.out.2.2.big; omega)
      have hds := ds_str hCd.1
      have htm := tmN_le d m
      obtain ⟨t, ht⟩ : ∃ t, tmN d m = t := ⟨_, rfl⟩
      rw [ht] at ctT hds htm
      have HE2 : Hid (En w2 b off n cap B T gs c L 0 0 true mv ∧ Idx w2 v (bs c n) K ∧ Chg B gs w w2 ∧ BC w2 (some ⟨b, off + P, none⟩) m d) := ⟨hE2, hI2, hC2, hbd⟩
      clear ctE hb2 hE2 hI2 hC2 hfr hbd hCd hd ht
      go_wp2_with fail
      refine ctT.mono ?_
      rintro e w3 ⟨rfl, hb3⟩
      have hE3 := HE2.out.1.stay hb3
      have hst := str_bc (cap := p) ((HE2.out.2.2.2.stay hb3).upto htm)
      have HE3 : Hid (En w3 b off n cap B T gs c L 0 0 true mv ∧ Idx w3 v (bs c n) K ∧ Chg B gs w w3) := ⟨hE3, HE2.out.2.1.stay hb3, HE2.out.2.2.1.stay hb3⟩
      obtain ⟨X, hX⟩ : ∃ X, strOfNums (cl d t) = X := ⟨_, rfl⟩
      rw [hX] at hst hds
      obtain ⟨g, hg⟩ : ∃ g, dsP d m = g := ⟨_, rfl⟩
      rw [hg] at hds HFR HF0
      obtain ⟨u0, -, -, -, -, -⟩ := hE3.fl.cells
      have ctS := set_any hE3.sh (by omega) 4 0 (R : Int)
      clear ctT hb3 hX hg hE3
      cases g with
      | true =>
        by_cases hj0 : j = 0
        · subst hj0
          have HN : Hid (fr c n R = frP c n) := by show _ = _; rw [HF0.out rfl]; rfl
          go_wp2
          go_roundg (NL - (0 + 1))
          case measure => omega
          case rel => exact ⟨0 + 1, rfl, by omega, by go_num, HE3, fun _ => by rw [HPR.out.1]; exact HN.out⟩
        · have y6 : ((j : Int) == 0) = false := by simp only [beq_eq_false_iff_ne]; omega
          have y7 : (0 : Int) < (j : Int) := by omega
          have HN : Hid (frP c n = R) := by
            show _ = _
            rw [← HF.out (by omega), HFR.out]
            rfl
          go_wp2_with fail
          refine ctS.mono ?_
          rintro e w4 ⟨rfl, hS4, hg4, -⟩
          have hE4 := HE3.out.1.next HE.out.2.2 hS4 hg4
          have hC4 := (Chg.refl B gs w3).grown hg4
          have hI4 := idx_chg HE3.out.2.1 (Or.inr ⟨_, u0⟩) (HE3.out.1.sh.row.cell h0) hC4
          have HE4 : Hid (En w4 b off n cap B T gs c (setL L 4 0 (R : Int)) 0 0 true mv ∧ Idx w4 v (bs c n) K ∧ Chg B gs w w4) := ⟨hE4, hI4, HE3.out.2.2.trans hC4⟩
          clear ctS hS4 hg4 hE4 hC4 hI4
          go_wp2
          rw [← HQ.out]
          refine ⟨j + 1, by go_num, by rw [HPR.out.1]; exact HN.out.symm, by rw [HNL.out]; omega, ?_, HE4.out.2⟩
          rw [HN.out]
          exact HE4.out.1
      | false =>
        by_cases hj0 : j = 0
        · subst hj0
          have HN : Hid (frP c n = 0) := by show _ = _; rw [HF0.out rfl]; rfl
          go_wp2
          rw [← HQ.out]
          refine ⟨0, rfl, by rw [HN.out]; exact Lns.S_zero _, Nat.zero_le _, ?_, HE3.out.2⟩
          rw [HN.out]
          have hE5 := HE3.out.1
          exact ⟨hE5.bc, hE5.fl, hE5.sh.congr fun i hi => (setL_none L 4 0 _ (by simp) i).symm, hE5.gl⟩
        · have y6 : ((j : Int) == 0) = false := by simp only [beq_eq_false_iff_ne]; omega
          have y7 : (0 : Int) < (j : Int) := by omega
          have HN : Hid (fr c n R = frP c n) := by
            show _ = _
            rw [← HF.out (by omega), HFR.out]
            rfl
          go_wp2
          go_roundg (NL - (j + 1))
          case measure => omega
          case rel => exact ⟨j + 1, rfl, by omega, by go_num, HE3, fun _ => by rw [HPR.out.1]; exact HN.out⟩
    · have z1 : ¬ (j : Int) < (NL : Int) := by omega
      have HN : Hid (frP c n = 0) := by
        show _ = _
        rw [← HF.out (by omega)]
        exact fr_end (by rw [Lns.S_big (by rw [HNL.out]; omega), bs_size]; exact Nat.le_refl _)
      go_wp2
      rw [← HQ.out]
      refine ⟨0, rfl, by rw [HN.out]; exact Lns.S_zero _, Nat.zero_le _, ?_, HR.out.2⟩
      rw [HN.out]
      have hE5 := HR.out.1
      exact ⟨hE5.bc, hE5.fl, hE5.sh.congr fun i hi => (setL_none L 4 0 _ (by simp) i).symm, hE5.gl⟩
def MlP (c : Nat → Int) (n : Nat) (w : World) (ev : Ending) (w' : World) : Prop := ∃ T g, ev = .returned (.tuple #[.pointer (some ⟨T, 0, none⟩), .int .i64 0]) ∧ w.heap.size ≤ T ∧ w.heap.size ≤ g ∧ Sh w' T g n (mkA c n) ∧ Up w.heap.size w w'
set_option maxRecDepth 100000 in
theorem mlex_any {w : World} {b off n cap : Nat} {c : Nat → Int} (hC : Ch c n) (h : BC w (some ⟨b, off, none⟩) n c) (h0 : 0 < n) (hn : n ≤ 40000) (hcap : n ≤ cap) (hbig : cap ≤ 9223372036854775807) (hG : GlM w) (hA : ∀ e, e ≤ n → AnOk (tr c e) e) :
    Calls Tryd.prog 17 #[.slice (some ⟨b, off, none⟩) n cap] w (MlP c n w) := by
  have ct := new_ok n (by omega) w
  obtain ⟨Q, hQ⟩ : ∃ Q, MlP c n w = Q := ⟨_, rfl⟩
  have HQ : Hid (MlP c n w = Q) := hQ
  rw [hQ]
  obtain ⟨b', off', eq', hc0⟩ := h 0 h0
  injection eq' with eq'
  injection eq' with e1 e2 _
  subst e1 e2
  have hbl := World.block_lt_of_cell? w _ hc0
  have hgl := World.block_lt_of_cell? w _ (hG.2.2 0 (by decide)).1
  have HH : Hid (BC w (some ⟨b, off, none⟩) n c ∧ Ch c n ∧ GlM w ∧ ∀ e, e ≤ n → AnOk (tr c e) e) := ⟨h, hC, hG, hA⟩
  clear hQ h hC hG hA hc0
  go_enter Tryd.func17, Tryd.ntmps17
  go_wp2_with fail
  refine ct.mono ?_
  rintro e w1 ⟨T, gs, rfl, hT, hgs, hS, hU⟩
  clear ct
  have hTl := hS.lt
  have hgl2 := hS.row.lt
  have hbox : (w1.alloc (.cells #[.pointer (some ⟨T, 0, none⟩), .slice (some ⟨b, off, none⟩) n cap, .int .u8 0, .int .i64 (0 : Nat), .bool true, .map none] 68)).heap[w1.heap.size]? = some (.cells #[.pointer (some ⟨T, 0, none⟩), .slice (some ⟨b, off, none⟩) n cap, .int .u8 0, .int .i64 (0 : Nat), .bool true, .map none] 68) := heap_alloc_new _ _
  have hs : Sta b n cap w1.heap.size T gs c := ⟨HH.out.2.1, hn, hcap, hbig, by omega, by omega, by have := hU.2; omega, by omega, by omega, by have := hU.2; omega⟩
  have hE : En (w1.alloc (.cells #[.pointer (some ⟨T, 0, none⟩), .slice (some ⟨b, off, none⟩) n cap, .int .u8 0, .int .i64 (0 : Nat), .bool true, .map none] 68)) b off n cap w1.heap.size T gs c (fun _ => 1) 0 0 true (.map none) :=
    ⟨(HH.out.1.stay hU.1).stay (below_alloc w1 _), ⟨hbox⟩, hS.stay (below_alloc w1 _), (HH.out.2.2.1.stay hU.1).stay (below_alloc w1 _)⟩
  have hU2 := hU.alloc (.cells #[.pointer (some ⟨T, 0, none⟩), .slice (some ⟨b, off, none⟩) n cap, .int .u8 0, .int .i64 (0 : Nat), .bool true, .map none] 68)
  obtain ⟨W, hW⟩ : ∃ W, w1.alloc (.cells #[.pointer (some ⟨T, 0, none⟩), .slice (some ⟨b, off, none⟩) n cap, .int .u8 0, .int .i64 (0 : Nat), .bool true, .map none] 68) = W := ⟨_, rfl⟩
  rw [hW] at hE hU2
  rw [show ((0 : Nat) : Int) = 0 from rfl] at hW
  obtain ⟨B, hB⟩ : ∃ B, w1.heap.size = B := ⟨_, rfl⟩
  have hBw : w.heap.size ≤ B := by rw [← hB]; exact hU.2
  have ctN := Lns.new_any (bs c n) (.slice (some ⟨b, off, none⟩) n cap) W (by rw [bs_size]; exact hn) hE.gl.2 (Or.inr ⟨b, off, cap, by rw [bs_size], by rw [bs_size]; exact h0, by rw [bs_size]; exact hcap, bs_by HH.out.2.1.1 hE.bc⟩)
  rw [hB] at hs hE
  have HS : Hid (Sta b n cap B T gs c ∧ w.heap.size ≤ T ∧ w.heap.size ≤ gs) := ⟨hs, hT, hgs⟩
  have HE : Hid (En W b off n cap B T gs c (fun _ => 1) 0 0 true (.map none) ∧ Up w.heap.size w W) := ⟨hE, hU2⟩
  have HB : Hid (w1.heap.size = B) := hB
  have HW : Hid (w1.alloc (.cells #[.pointer (some ⟨T, 0, none⟩), .slice (some ⟨b, off, none⟩) n cap, .int .u8 0, .int .i64 0, .bool true, .map none] 68) = W) := hW
  clear hbox hs hE hS hU hU2 hT hgs hTl hgl2 hbl hgl hB hW
  go_wp2_with fail
  rw [HW.out]
  refine ctN.mono ?_
  rintro e w2 ⟨K, v, rfl, hI, hb2⟩
  have hE2 := HE.out.1.stay hb2
  have ctF := front_any HS.out.1 hE2 h0 hI
  have HU2 : Hid (Up w.heap.size w w2) := HE.out.2.stay hb2
  rw [HB.out]
  clear ctN hI hb2 hE2
  go_wp2_with fail
  refine ctF.mono ?_
  rintro e w3 ⟨r, rfl, hr1, hr2, hE3, hI3, hC3⟩
  have HU3 : Hid (Up w.heap.size w w3) := hC3.up HU2.out hBw HS.out.2.2
  have HE3 : Hid (En w3 b off n cap B T gs c (setL (fun _ => 1) 4 0 ((frP c n : Nat) : Int)) 0 0 true (.map none) ∧ Idx w3 v (bs c n) K ∧ S (bs c n) r = frP c n) := ⟨hE3, hI3, hr1⟩
  have hnl := Lns.nL_le (bs c n)
  rw [bs_size] at hnl
  obtain ⟨NL, hNL⟩ : ∃ NL, nL (bs c n) = NL := ⟨_, rfl⟩
  have HNL : Hid (nL (bs c n) = NL) := hNL
  rw [hNL] at hr2 hnl
  clear ctF hr1 hE3 hI3 hC3 hNL
  go_wp2_with fail
  go_loopg [8] (NL - r) (fun q iv wr => ∃ (j : Nat) (m : Ms) (L' : Nat → Int) (mv : Value), q = NL - j ∧ j ≤ NL ∧ m.k ≤ 40000 ∧ iv = .int .i64 j ∧ Hid (En wr b off n cap B T gs c L' m.s m.k m.fr mv ∧ Idx wr v (bs c n) K ∧ Up w.heap.size w wr) ∧ Hid (mk c n (S (bs c n) j) m L' = mkA c n))
  case atStart => exact ⟨r, ⟨0, 0, true⟩, _, _, rfl, hr2, Nat.zero_le _, rfl, ⟨HE3.out.1, HE3.out.2.1, HU3.out⟩, by show mk c n (S (bs c n) r) ⟨0, 0, true⟩ _ = mkA c n; rw [HE3.out.2.2]; rfl⟩
  case round =>
    obtain ⟨j, m, L', mv, hq, hj, hk, rfl, HR, HM⟩ := hrel
    have ctL := Lns.lines_any (bs c n) K v wr HR.out.2.1
    rw [HNL.out] at ctL
    by_cases hlt : j < NL
    · have z1 : (j : Int) < (NL : Int) := by omega
      have hjn : j < nL (bs c n) := by rw [HNL.out]; exact hlt
      have ctE := ends_at hn hjn HR.out.2.1
      have hSn := S_next HH.out.2.1.1 hjn
      have hSl := Lns.S_lt hjn
      rw [bs_size] at hSl
      have hSm := lnE_le c hSl
      have hm1 := mk_one (c := c) hSl m L'
      rw [HM.out] at hm1
      rw [← hSn] at hSm hm1
      obtain ⟨P, hP⟩ : ∃ P, S (bs c n) j = P := ⟨_, rfl⟩
      obtain ⟨R, hR⟩ : ∃ R, S (bs c n) (j + 1) = R := ⟨_, rfl⟩
      rw [hP, hR] at ctE hSm hm1
      rw [hP] at hSl
      have HX : Hid (mk c n (S (bs c n) (j + 1)) (stM m (ln c P R) (R - P)) (lnL L' m c P R) = mkA c n) := by show _ = _; rw [hR]; exact hm1.symm
      clear hP hR hSn hm1
      go_wp2_with fail
      refine ctL.mono ?_
      rintro e w4 ⟨rfl, hw⟩
      subst w4
      clear ctL
      go_wp2_with fail
      refine ctE.mono ?_
      rintro e w4 ⟨rfl, hb4⟩
      have hE4 := HR.out.1.stay hb4
      have hI4 := HR.out.2.1.stay hb4
      have ct5 := line_any m HS.out.1 hE4 hk P R hSm.1 hSm.2 (HH.out.2.2.2 R hSm.2)
      have HE4 : Hid (En w4 b off n cap B T gs c L' m.s m.k m.fr mv ∧ Idx w4 v (bs c n) K ∧ Up w.heap.size w w4) := ⟨hE4, hI4, HR.out.2.2.stay hb4⟩
      clear ctE hb4 hE4 hI4
      go_wp2_with fail
      refine ct5.mono ?_
      rintro e w5 ⟨rfl, mv5, hE5, hC5⟩
      have hI5 := idx_chg HE4.out.2.1 (Or.inr ⟨_, HE4.out.1.fl.cells.1⟩) (HE4.out.1.sh.row.cell h0) hC5
      have HE5 : Hid (En w5 b off n cap B T gs c (lnL L' m c P R) (stM m (ln c P R) (R - P)).s (stM m (ln c P R) (R - P)).k (stM m (ln c P R) (R - P)).fr mv5 ∧ Idx w5 v (bs c n) K ∧ Up w.heap.size w w5) := ⟨hE5, hI5, hC5.up HE4.out.2.2 hBw HS.out.2.2⟩
      have HK : Hid ((stM m (ln c P R) (R - P)).k ≤ 40000) := stM_k m _ _ 40000 hk (by omega)
      clear ct5 hE5 hC5 hI5
      go_wp2
      go_roundg (NL - (j + 1))
      case measure => omega
      case rel => exact ⟨j + 1, _, _, mv5, rfl, by omega, HK.out, by go_num, HE5, HX⟩
    · have z1 : ¬ (j : Int) < (NL : Int) := by omega
      have HF : Hid (L' = mkA c n) := by
        show _ = _
        rw [← HM.out, mk_end]
        rw [Lns.S_big (by rw [HNL.out]; omega), bs_size]
        exact Nat.le_refl _
      go_wp2_with fail
      refine ctL.mono ?_
      rintro e w4 ⟨rfl, hw⟩
      subst w4
      clear ctL
      go_wp2
      rw [← HQ.out]
      refine ⟨T, gs, ?_, HS.out.2.1, HS.out.2.2, ?_, HR.out.2.2⟩
      · rfl
      · rw [← HF.out]; exact HR.out.1.sh
end Go.Proofs.YtodjfeheagnnpaaDoor
