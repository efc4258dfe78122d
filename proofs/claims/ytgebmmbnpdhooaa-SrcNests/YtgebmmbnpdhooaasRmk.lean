/- src: remarks. -/
import Derived.Test.YtgebmmbnpdhooaasEn
namespace Go.Proofs.Ytgebmmbnpdhooaa
set_option linter.unusedVariables false
open Go.RowKit Go.ChangeShapes
section
variable {w0 w : World} {S b off n cap B T gs gq i : Nat} {F : Fm} {c L : Nat → Int}
set_option maxHeartbeats 4000000 in
theorem lineRemark_any (hs : Sta S b n cap B T gs gq F c) (h : En w0 S w b off n cap B T gs gq F c L i) {a E : Nat} (ha : i + F.line.length = a) (han : a ≤ n) (hE : fs (oc [10] c) n a = E) :
    Calls Try.prog 32 #[.pointer (some ⟨B, 0, none⟩)] w (SP w0 S b off n cap B T gs gq F c (setL (setL L 3 (i : Int) (a : Int)) 1 (a : Int) (E : Int)) E) := by
  obtain ⟨x0, x1, x2, x3, x4, x5, x6, x7, x8⟩ := h.cells
  have hsz : (strOfNums F.line).size = F.line.length := strOfNums_size _
  have hn := hs.n6
  have c1 := flay_any hs h 3 F.line.length a ha (by omega)
  obtain ⟨M, hM⟩ : ∃ M, strOfNums F.line = M := ⟨_, rfl⟩
  obtain ⟨m, hm⟩ : ∃ m, F.line.length = m := ⟨_, rfl⟩
  rw [hM] at x0 hsz
  rw [hm] at hsz c1
  obtain ⟨L1, hL1⟩ : ∃ L1, setL L 3 (i : Int) (a : Int) = L1 := ⟨_, rfl⟩
  rw [hL1] at c1 ⊢
  have hge := fs_ge (oc [10] c) n a
  have hle := fs_le (oc [10] c) (n := n) (i := a) han
  rw [hE] at hge hle
  obtain ⟨ad, had⟩ : ∃ ad, (if cap = a then some (⟨b, off, none⟩ : Addr) else some ⟨b, off + a, none⟩) = ad := ⟨_, rfl⟩
  have HI : Hid (∀ w1 w2, En w0 S w1 b off n cap B T gs gq F c L1 a → Below w1.heap.size w1 w2 → Calls Try.prog 38 #[.slice ad (n - a) (cap - a), .int .u8 10] w2 fun e w' => e = .returned (.int .i64 (if E < n then (E : Int) - a else -1)) ∧ w' = w2) := fun w1 w2 h1 hb => by
    have hfr := (BC.from h1.bc a han hs.nc).stay hb
    rw [had] at hfr
    have := idxB_any (cap := cap - a) (hs.ch.from a han) hfr (by rw [← had]; split <;> simp) 10 (by decide)
    rw [ix_bh han, hE] at this
    exact this
  obtain ⟨Q, hQ⟩ : ∃ Q, SP w0 S b off n cap B T gs gq F c (setL L1 1 (a : Int) (E : Int)) E = Q := ⟨_, rfl⟩
  rw [hQ]
  have HQ : Hid (SP w0 S b off n cap B T gs gq F c (setL L1 1 (a : Int) (E : Int)) E = Q) := hQ
  have HS : Hid (Sta S b n cap B T gs gq F c) := hs
  clear hs h hQ hE hM hm ha hL1 x1 x2 x3 x4 x5 x6 x7 x8
  go_enter Try.func32, Try.ntmps32
  go_wp2_with fail
  refine c1.mono ?_
  rintro ev w1 ⟨rfl, h1⟩
  have c2 := rest_any HS.out h1 han had
  have HE1 : Hid (En w0 S w1 b off n cap B T gs gq F c L1 a) := h1
  clear c1 h1 x0
  go_wp2_with fail
  refine c2.mono ?_
  rintro ev w2 ⟨rfl, hb2⟩
  have c3 := HI.out w1 w2 HE1.out hb2
  have HE2 : Hid (En w0 S w2 b off n cap B T gs gq F c L1 a) := HE1.out.stay hb2
  clear hb2 c2
  by_cases hlt : E < n
  · rw [if_pos hlt] at c3
    obtain ⟨m2, hm2⟩ : ∃ m2 : Nat, a + m2 = E := ⟨E - a, by omega⟩
    rw [show (E : Int) - (a : Int) = (m2 : Int) by omega] at c3
    have c4 := flay_any HS.out HE2.out 1 m2 E hm2 (by omega)
    have z0 : ¬ (m2 : Int) < 0 := by omega
    clear hm2 hge hle hlt
    go_wp2_with fail
    refine c3.mono ?_
    rintro ev w3 ⟨rfl, hw⟩
    subst w3
    clear c3
    go_wp2_with fail
    refine c4.mono ?_
    rintro ev w3 ⟨rfl, h3⟩
    go_wp2
    go_end0
    rw [← HQ.out]
    exact ⟨rfl, h3⟩
  · rw [if_neg hlt] at c3
    obtain ⟨m2, hm2⟩ : ∃ m2 : Nat, n - a = m2 := ⟨_, rfl⟩
    have c5 := rest_any HS.out HE2.out han had
    rw [hm2] at c5
    have HL : Hid (a + m2 = E ∧ E ≤ n) := ⟨by omega, by omega⟩
    clear hm2 hge hle hlt
    go_wp2_with fail
    refine c3.mono ?_
    rintro ev w3 ⟨rfl, hw⟩
    subst w3
    clear c3
    go_wp2_with fail
    refine c5.mono ?_
    rintro ev w3 ⟨rfl, hb3⟩
    have c4 := flay_any HS.out (HE2.out.stay hb3) 1 m2 E HL.out.1 (by have := HL.out; have := HS.out.n6; omega)
    clear c5 hb3
    go_wp2_with fail
    refine c4.mono ?_
    rintro ev w4 ⟨rfl, h3⟩
    go_wp2
    go_end0
    rw [← HQ.out]
    exact ⟨rfl, h3⟩
/-- What is left of a remark. -/
def RL (w0 : World) (S b off n cap B T gs gq : Nat) (F : Fm) (c A : Nat → Int) (E d i : Nat) (w : World) : Prop := ∃ L, En w0 S w b off n cap B T gs gq F c L i ∧ pt L (rm F c n d i).2 i (rm F c n d i).1 = A ∧ (rm F c n d i).1 = E
set_option maxRecDepth 100000 in
set_option maxHeartbeats 16000000 in
theorem remark_any (hs : Sta S b n cap B T gs gq F c) (h : En w0 S w b off n cap B T gs gq F c L i) {a : Nat} (ha : i + F.opn.length = a) (han : a ≤ n) (ho1 : 1 ≤ F.opn.length) (hs1 : 1 ≤ F.sht.length) :
    Calls Try.prog 33 #[.pointer (some ⟨B, 0, none⟩)] w (SP w0 S b off n cap B T gs gq F c (pt (setL L 3 (i : Int) (a : Int)) (rm F c n 1 a).2 a (rm F c n 1 a).1) (rm F c n 1 a).1) := by
  obtain ⟨x0, x1, x2, x3, x4, x5, x6, x7, x8⟩ := h.cells
  have hso : (strOfNums F.opn).size = F.opn.length := strOfNums_size _
  have hss : (strOfNums F.sht).size = F.sht.length := strOfNums_size _
  have hn := hs.n6
  have c1 := flay_any hs h 3 F.opn.length a ha (by omega)
  have HM : Hid (1 ≤ F.opn.length ∧ 1 ≤ F.sht.length ∧ F.opn ≠ [] ∧ F.sht ≠ []) := ⟨ho1, hs1, by intro e; rw [e] at ho1; exact absurd ho1 (by decide), by intro e; rw [e] at hs1; exact absurd hs1 (by decide)⟩
  obtain ⟨Mo, hMo⟩ : ∃ M, strOfNums F.opn = M := ⟨_, rfl⟩
  obtain ⟨mo, hmo⟩ : ∃ m, F.opn.length = m := ⟨_, rfl⟩
  obtain ⟨Ms, hMs⟩ : ∃ M, strOfNums F.sht = M := ⟨_, rfl⟩
  obtain ⟨ms, hms⟩ : ∃ m, F.sht.length = m := ⟨_, rfl⟩
  have HMo : Hid (strOfNums F.opn = Mo ∧ F.opn.length = mo ∧ 1 ≤ mo ∧ mo ≤ 2) := ⟨hMo, hmo, by omega, by have := hs.gd.o2; omega⟩
  have HMs : Hid (strOfNums F.sht = Ms ∧ F.sht.length = ms ∧ 1 ≤ ms ∧ ms ≤ 2) := ⟨hMs, hms, by omega, by have := hs.gd.s2; omega⟩
  rw [hMo] at x2 hso
  rw [hMs] at hss
  rw [hmo] at hso c1
  rw [hms] at hss
  obtain ⟨L1, hL1⟩ : ∃ L1, setL L 3 (i : Int) (a : Int) = L1 := ⟨_, rfl⟩
  rw [hL1] at c1 ⊢
  obtain ⟨A, hA⟩ : ∃ A, pt L1 (rm F c n 1 a).2 a (rm F c n 1 a).1 = A := ⟨_, rfl⟩
  obtain ⟨E, hE⟩ : ∃ E, (rm F c n 1 a).1 = E := ⟨_, rfl⟩
  have HAE : Hid (pt L1 (rm F c n 1 a).2 a (rm F c n 1 a).1 = A ∧ (rm F c n 1 a).1 = E) := ⟨hA, hE⟩
  rw [hA, hE]
  obtain ⟨Q, hQ⟩ : ∃ Q, SP w0 S b off n cap B T gs gq F c A E = Q := ⟨_, rfl⟩
  rw [hQ]
  have HQ : Hid (SP w0 S b off n cap B T gs gq F c A E = Q) := hQ
  have HS : Hid (Sta S b n cap B T gs gq F c) := hs
  have HR : Hid (∀ d i, i ≤ n → i ≤ (rm F c n d i).1 ∧ (rm F c n d i).1 ≤ n) := fun d i hi => rm_le hs.ch hs.gd ho1 hs1 hi
  have HOL : Hid (∀ i, oc F.sht c i = true → i + ms ≤ n) := fun i hi => by have := oc_len hs.ch.2 F.sht hs.gd.sb i HM.out.2.2.2 hi; omega
  have HOO : Hid (∀ i, oc F.opn c i = true → i + mo ≤ n) := fun i hi => by have := oc_len hs.ch.2 F.opn hs.gd.ob i HM.out.2.2.1 hi; omega
  have CS : Hid (∀ (wr : World) (L' : Nat → Int) (i' : Nat), i' ≤ n → En w0 S wr b off n cap B T gs gq F c L' i' → Calls Try.prog 30 #[.pointer (some ⟨B, 0, none⟩), .string Ms] wr fun ev w' => ev = .returned (.bool (oc F.sht c i')) ∧ Below wr.heap.size wr w') := fun wr L' i' hi' h' => by
    have := begins_any hs h' hi' F.sht hs.gd.sb HM.out.2.2.2
    rw [hMs] at this
    exact this
  have CO : Hid (∀ (wr : World) (L' : Nat → Int) (i' : Nat), i' ≤ n → En w0 S wr b off n cap B T gs gq F c L' i' → Calls Try.prog 30 #[.pointer (some ⟨B, 0, none⟩), .string Mo] wr fun ev w' => ev = .returned (.bool (oc F.opn c i')) ∧ Below wr.heap.size wr w') := fun wr L' i' hi' h' => by
    have := begins_any hs h' hi' F.opn hs.gd.ob HM.out.2.2.1
    rw [hMo] at this
    exact this
  have XC : Hid (∀ (wr : World) (L' : Nat → Int) (i' : Nat), En w0 S wr b off n cap B T gs gq F c L' i' → wr.cell? ⟨B, 2, none⟩ = some (.string Mo) ∧ wr.cell? ⟨B, 3, none⟩ = some (.string Ms) ∧ wr.cell? ⟨B, 4, none⟩ = some (.bool F.nst) ∧ wr.cell? ⟨B, 7, none⟩ = some (.slice (some ⟨b, off, none⟩) n cap) ∧ wr.cell? ⟨B, 8, none⟩ = some (.int .i64 i')) := fun wr L' i' h' => by
    obtain ⟨x0, x1, x2, x3, x4, x5, x6, x7, x8⟩ := h'.cells
    rw [hMo] at x2
    rw [hMs] at x3
    exact ⟨x2, x3, x4, x7, x8⟩
  obtain ⟨ns, hns⟩ : ∃ ns, F.nst = ns := ⟨_, rfl⟩
  rw [hns] at XC
  have HNS : Hid (F.nst = ns) := hns
  clear hs h hQ hA hE hMo hmo hMs hms ha hL1 x0 x1 x3 x4 x5 x6 x7 x8 ho1 hs1 hns
  go_enter Try.func33, Try.ntmps33
  go_wp2_with fail
  refine c1.mono ?_
  rintro ev w1 ⟨rfl, h1⟩
  have HE1 : Hid (En w0 S w1 b off n cap B T gs gq F c L1 a) := h1
  clear c1 h1 x2
  go_wp2_with fail
  go_loopg [2] (n - a) (fun q tv wr => ∃ d i' : Nat, q = n - i' ∧ i' ≤ n ∧ d ≤ 32 ∧ tv = .int .i64 d ∧ Hid (RL w0 S b off n cap B T gs gq F c A E d i' wr))
  case atStart => exact ⟨1, a, rfl, han, by omega, by go_num, ⟨L1, HE1.out, HAE.out⟩⟩
  case round =>
    obtain ⟨d, i', hq, hi', hd, rfl, HX⟩ := hrel
    obtain ⟨L', hE', hA', hEE⟩ := HX.out
    have HB : Hid (En w0 S wr b off n cap B T gs gq F c L' i') := hE'
    obtain ⟨x2, x3, x4, x7, x8⟩ := XC.out _ _ _ hE'
    clear HX HE1 HAE
    by_cases hz : d = 0 ∨ n ≤ i'
    · rw [rm_end hz] at hA' hEE
      dsimp only at hA' hEE
      rw [pt_none _ _ (Nat.le_refl _)] at hA'
      have HF : Hid (L' = A ∧ i' = E) := ⟨hA', hEE⟩
      clear hA' hEE hE'
      have HFIN : Hid (∀ k, SP w0 S b off n cap B T gs gq F c A E (.returned (.tuple #[])) (wr.drewN k)) := fun k => by
        rw [← HF.out.1, ← HF.out.2]
        exact ⟨rfl, HB.out.stay (below_drewN (Below.refl _ _) k)⟩
      rcases Nat.eq_zero_or_pos d with hd0 | hd0
      · subst hd0
        clear hz
        go_wp2_with fail
        go_quiet (fail)
        go_wp2
        go_end0
        rw [← HQ.out]
        exact HFIN.out _
      · have z1 : (0 : Int) < (d : Int) := by omega
        have z2 : ¬ (i' : Int) < (n : Int) := by omega
        clear hz
        go_wp2_with fail
        go_quiet (fail)
        go_wp2
        go_end0
        rw [← HQ.out]
        exact HFIN.out _
    · have hd0 : d ≠ 0 := fun e => hz (Or.inl e)
      have hlt : i' < n := by omega
      have z1 : (0 : Int) < (d : Int) := by omega
      have z2 : (i' : Int) < (n : Int) := by omega
      clear hz
      have HD : Hid (∀ k, En w0 S (wr.drewN k) b off n cap B T gs gq F c L' i') := fun k => HB.out.stay (below_drewN (Below.refl _ _) k)
      have cs0 := fun k => CS.out _ _ _ hi' (HD.out k)
      cases hc : oc F.sht c i' with
      | true =>
        rw [hc] at cs0
        rw [rm_sht HM.out.1 HM.out.2.1 hd0 hlt hc] at hA' hEE
        have hol := HOL.out i' hc
        obtain ⟨e, he⟩ : ∃ e, i' + ms = e := ⟨_, rfl⟩
        rw [HMs.out.2.1, he] at hA' hEE
        have hr := HR.out (d - 1) e (by omega)
        rw [pt_ahd _ _ _ (by omega) hr.1] at hA'
        have HN : Hid (pt (setL L' 3 (i' : Int) (e : Int)) (rm F c n (d - 1) e).2 e (rm F c n (d - 1) e).1 = A ∧ (rm F c n (d - 1) e).1 = E) := ⟨hA', hEE⟩
        have HEM : Hid (i' + ms = e ∧ e ≤ n ∧ 1 ≤ ms) := ⟨he, by omega, HMs.out.2.2.1⟩
        obtain ⟨d1, hd1⟩ : ∃ d1, d - 1 = d1 := ⟨_, rfl⟩
        rw [hd1] at HN
        have zd : (d : Int) - 1 = (d1 : Int) := by omega
        have hd2 : d1 ≤ 32 := by omega
        clear hA' hEE hE' hc hol he hr hd1
        have hd0 := Nat.pos_of_ne_zero hd0
        go_wp2_with fail
        go_quiet (fail)
        go_wp2_with fail
        refine (cs0 _).mono ?_
        rintro ev w2 ⟨rfl, hb2⟩
        have hE2 := (HD.out _).stay hb2
        have HE2 : Hid (En w0 S w2 b off n cap B T gs gq F c L' i') := hE2
        obtain ⟨y2, y3, y4, y7, y8⟩ := XC.out _ _ _ hE2
        have c4 := flay_any HS.out hE2 3 ms e HEM.out.1 (by have := HEM.out; omega)
        clear hb2 hE2 cs0 x2 x3 x4 x7 x8 HD
        go_wp2_with fail
        refine c4.mono ?_
        rintro ev w3 ⟨rfl, h3⟩
        have HE3 : Hid (En w0 S w3 b off n cap B T gs gq F c (setL L' 3 (i' : Int) (e : Int)) e) := h3
        clear c4 h3 y2 y3 y4 y7 y8
        go_wp2
        go_roundg (n - e)
        case measure => have := HEM.out; omega
        case rel => exact ⟨d1, e, rfl, HEM.out.2.1, hd2, rfl, ⟨_, HE3.out, HN.out⟩⟩
      | false =>
        rw [hc] at cs0
        cases hnn : (!F.nst || !oc F.opn c i') with
        | true =>
          rw [rm_pro hd0 hlt hc hnn] at hA' hEE
          obtain ⟨e, he⟩ : ∃ e, i' + 1 = e := ⟨_, rfl⟩
          rw [he] at hA' hEE
          have hr := HR.out d e (by omega)
          rw [pt_ahd _ _ _ (by omega) hr.1] at hA'
          have HN : Hid (pt (setL L' 1 (i' : Int) (e : Int)) (rm F c n d e).2 e (rm F c n d e).1 = A ∧ (rm F c n d e).1 = E) := ⟨hA', hEE⟩
          have HEM : Hid (i' + 1 = e ∧ e ≤ n) := ⟨he, by omega⟩
          have HNN : Hid ((!ns || !oc F.opn c i') = true) := by rw [← HNS.out]; exact hnn
          clear hA' hEE hE' hc he hr hnn
          have hd0 := Nat.pos_of_ne_zero hd0
          go_wp2_with fail
          go_quiet (fail)
          go_wp2_with fail
          refine (cs0 _).mono ?_
          rintro ev w2 ⟨rfl, hb2⟩
          have hE2 := (HD.out _).stay hb2
          have HE2 : Hid (En w0 S w2 b off n cap B T gs gq F c L' i') := hE2
          obtain ⟨y2, y3, y4, y7, y8⟩ := XC.out _ _ _ hE2
          have co := CO.out _ _ _ hi' hE2
          have c4 := fun w3 (hb3 : Below w2.heap.size w2 w3) => flay_any HS.out (HE2.out.stay hb3) 1 1 e HEM.out.1 (by have := HEM.out; omega)
          have HC4 : Hid (∀ w3 (hb3 : Below w2.heap.size w2 w3), Calls Try.prog 35 #[.pointer (some ⟨B, 0, none⟩), .int .u8 1, .int .i64 1] w3 (SP w0 S b off n cap B T gs gq F c (setL L' 1 (i' : Int) (e : Int)) e)) := c4
          clear hb2 hE2 cs0 x2 x3 x4 x7 x8 HD c4
          cases ns with
          | false =>
            have c5 := HC4.out w2 (Below.refl _ _)
            clear co
            go_wp2_with fail
            refine c5.mono ?_
            rintro ev w3 ⟨rfl, h3⟩
            have HE3 : Hid (En w0 S w3 b off n cap B T gs gq F c (setL L' 1 (i' : Int) (e : Int)) e) := h3
            clear c5 h3 y2 y3 y4 y7 y8
            go_wp2
            go_roundg (n - e)
            case measure => have := HEM.out; omega
            case rel => exact ⟨d, e, rfl, HEM.out.2, hd, rfl, ⟨_, HE3.out, HN.out⟩⟩
          | true =>
            have h1 := HNN.out
            rw [Bool.not_true, Bool.false_or] at h1
            have h2 : oc F.opn c i' = false := by revert h1; cases oc F.opn c i' <;> simp
            rw [h2] at co
            clear h1 h2
            go_wp2_with fail
            refine co.mono ?_
            rintro ev w3 ⟨rfl, hb3⟩
            have c5 := HC4.out w3 hb3
            clear co hb3 y2 y3 y4 y7 y8
            go_wp2_with fail
            refine c5.mono ?_
            rintro ev w4 ⟨rfl, h3⟩
            have HE3 : Hid (En w0 S w4 b off n cap B T gs gq F c (setL L' 1 (i' : Int) (e : Int)) e) := h3
            clear c5 h3
            go_wp2
            go_roundg (n - e)
            case measure => have := HEM.out; omega
            case rel => exact ⟨d, e, rfl, HEM.out.2, hd, rfl, ⟨_, HE3.out, HN.out⟩⟩
        | false =>
          have hns2 : ns = true := by
            rw [HNS.out] at hnn
            revert hnn
            cases ns <;> simp
          have hop : oc F.opn c i' = true := by
            revert hnn
            cases oc F.opn c i' <;> simp
          subst hns2
          have hoo := HOO.out i' hop
          by_cases hd32 : d = 32
          · subst hd32
            rw [rm_opq hlt hc hnn] at hA' hEE
            dsimp only at hA' hEE
            rw [pt_one] at hA'
            have HN : Hid (pt (setL L' 6 (i' : Int) (n : Int)) (rm F c n 32 n).2 n (rm F c n 32 n).1 = A ∧ (rm F c n 32 n).1 = E) := by
              rw [rm_end (Or.inr (Nat.le_refl _))]
              dsimp only
              rw [pt_none _ _ (Nat.le_refl _)]
              exact ⟨hA', hEE⟩
            obtain ⟨m2, hm2⟩ : ∃ m2, n - i' = m2 := ⟨_, rfl⟩
            have HEM : Hid (i' + m2 = n ∧ 1 ≤ m2) := ⟨by omega, by omega⟩
            obtain ⟨ad, had⟩ : ∃ ad, (if cap = i' then some (⟨b, off, none⟩ : Addr) else some ⟨b, off + i', none⟩) = ad := ⟨_, rfl⟩
            have HRS : Hid (∀ w3, En w0 S w3 b off n cap B T gs gq F c L' i' → Calls Try.prog 37 #[.pointer (some ⟨B, 0, none⟩)] w3 fun ev w' => ev = .returned (.slice ad m2 (cap - i')) ∧ Below w3.heap.size w3 w') := fun w3 h3 => by
              have := rest_any HS.out h3 hi' had
              rw [hm2] at this
              exact this
            clear hA' hEE hE' hc hnn hm2 had hoo
            go_wp2_with fail
            go_quiet (fail)
            go_wp2_with fail
            refine (cs0 _).mono ?_
            rintro ev w2 ⟨rfl, hb2⟩
            have hE2 := (HD.out _).stay hb2
            have HE2 : Hid (En w0 S w2 b off n cap B T gs gq F c L' i') := hE2
            obtain ⟨y2, y3, y4, y7, y8⟩ := XC.out _ _ _ hE2
            have co := CO.out _ _ _ hi' hE2
            rw [hop] at co
            clear hb2 hE2 cs0 x2 x3 x4 x7 x8 HD hop
            go_wp2_with fail
            refine co.mono ?_
            rintro ev w3 ⟨rfl, hb3⟩
            have cr := HRS.out w3 (HE2.out.stay hb3)
            have HE3 : Hid (En w0 S w3 b off n cap B T gs gq F c L' i') := HE2.out.stay hb3
            clear co hb3 y2 y3 y4 y7 y8
            go_wp2_with fail
            refine cr.mono ?_
            rintro ev w4 ⟨rfl, hb4⟩
            have c5 := flay_any HS.out (HE3.out.stay hb4) 6 m2 n HEM.out.1 (by omega)
            clear cr hb4
            go_wp2_with fail
            refine c5.mono ?_
            rintro ev w5 ⟨rfl, h5⟩
            have HE5 : Hid (En w0 S w5 b off n cap B T gs gq F c (setL L' 6 (i' : Int) (n : Int)) n) := h5
            clear c5 h5
            go_wp2
            go_roundg (n - n)
            case measure => have := HEM.out; omega
            case rel => exact ⟨32, n, rfl, Nat.le_refl _, by omega, rfl, ⟨_, HE5.out, HN.out⟩⟩
          · rw [rm_opn HM.out.1 HM.out.2.1 hd0 hd32 hlt hc hnn] at hA' hEE
            obtain ⟨e, he⟩ : ∃ e, i' + mo = e := ⟨_, rfl⟩
            rw [HMo.out.2.1, he] at hA' hEE
            have hr := HR.out (d + 1) e (by omega)
            rw [pt_ahd _ _ _ (by omega) hr.1] at hA'
            have HN : Hid (pt (setL L' 3 (i' : Int) (e : Int)) (rm F c n (d + 1) e).2 e (rm F c n (d + 1) e).1 = A ∧ (rm F c n (d + 1) e).1 = E) := ⟨hA', hEE⟩
            have HEM : Hid (i' + mo = e ∧ e ≤ n ∧ 1 ≤ mo) := ⟨he, by omega, HMo.out.2.2.1⟩
            obtain ⟨d1, hd1⟩ : ∃ d1, d + 1 = d1 := ⟨_, rfl⟩
            rw [hd1] at HN
            have zd : (d : Int) + 1 = (d1 : Int) := by omega
            have z32 : ((d : Int) == 32) = false := by simp; omega
            have hd2 : d1 ≤ 32 := by omega
            clear hA' hEE hE' hc he hr hd1 hnn hoo hd32
            have hd0 := Nat.pos_of_ne_zero hd0
            go_wp2_with fail
            go_quiet (fail)
            go_wp2_with fail
            refine (cs0 _).mono ?_
            rintro ev w2 ⟨rfl, hb2⟩
            have hE2 := (HD.out _).stay hb2
            have HE2 : Hid (En w0 S w2 b off n cap B T gs gq F c L' i') := hE2
            obtain ⟨y2, y3, y4, y7, y8⟩ := XC.out _ _ _ hE2
            have co := CO.out _ _ _ hi' hE2
            rw [hop] at co
            clear hb2 hE2 cs0 x2 x3 x4 x7 x8 HD hop
            go_wp2_with fail
            refine co.mono ?_
            rintro ev w3 ⟨rfl, hb3⟩
            have HE3 : Hid (En w0 S w3 b off n cap B T gs gq F c L' i') := HE2.out.stay hb3
            clear co hb3 y2 y3 y4 y7 y8
            obtain ⟨y2, y3, y4, y7, y8⟩ := XC.out _ _ _ HE3.out
            have c5 := flay_any HS.out HE3.out 3 mo e HEM.out.1 (by have := HEM.out; omega)
            go_wp2_with fail
            refine c5.mono ?_
            rintro ev w5 ⟨rfl, h5⟩
            have HE5 : Hid (En w0 S w5 b off n cap B T gs gq F c (setL L' 3 (i' : Int) (e : Int)) e) := h5
            clear c5 h5 y2 y3 y4 y7 y8
            go_wp2
            go_roundg (n - e)
            case measure => have := HEM.out; omega
            case rel => exact ⟨d1, e, rfl, HEM.out.2.1, hd2, rfl, ⟨_, HE5.out, HN.out⟩⟩
end
end Go.Proofs.Ytgebmmbnpdhooaa
