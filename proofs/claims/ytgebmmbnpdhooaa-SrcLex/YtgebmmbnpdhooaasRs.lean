/- The reference: Src. -/
import Derived.Test.YtgebmmbnpdhooaasRq
import Derived.Test.YtgebmmbnpdhooaasRn
import Derived.Test.YtgebmmbnpdhooaasThg
import Derived.Test.YtgebmmbnpdhooaalRef
namespace Go.Proofs.Ytgebmmbnpdhooaa
set_option linter.unusedVariables false
open Go.RowKit Go.ChangeShapes
theorem fam_oth {f : Int} (hf : 4 ≤ f ∧ f ≤ 8) (h6 : f ≠ 6) (h7 : f ≠ 7) : (fam f).opn = [47, 42] ∧ (fam f).sht = [42, 47] ∧ (fam f).nst = (f == 8) := by
  have h : f = 4 ∨ f = 5 ∨ f = 8 := by omega
  rcases h with rfl | rfl | rfl <;> exact ⟨rfl, rfl, rfl⟩
theorem fam_67 {f : Int} (h : f = 6 ∨ f = 7) : (fam f).opn = [] := by
  rcases h with rfl | rfl <;> rfl
theorem gdr_one (x : Int) (hx : 0 ≤ x ∧ x < 256) (h10 : x ≠ 10) (h92 : x ≠ 92) {q : Qt} (hq : GdQ q) {t : List Int} (hm : q.mark = x :: t) (ht : ∀ (c : Nat → Int) (k : Nat), oc (q.mark ++ q.mark) c k = true → oc q.mark c k = true) (hd : q.dbl = true → q.mark.length = 1) (hi : q.inn = 7 ∨ q.inn = 5) : GdR q (q.inn == 7) := by
  refine ⟨hq, fun c k h => ?_, hd, ht, ?_⟩
  · have h1 : (c k == x) = false := by
      rcases h with h | h
      · rw [h]; simp; exact fun e => h10 e.symm
      · rw [h]; simp; exact fun e => h92 e.symm
    rw [hm]
    refine ⟨?_, ?_⟩
    · show ((c k == x) && oc t c (k + 1)) = false
      rw [h1]; rfl
    · show ((c k == x) && oc (t ++ x :: t) c (k + 1)) = false
      rw [h1]; rfl
  · rcases hi with h | h
    · rw [h]; rfl
    · rw [h]; rfl
theorem oc_pre : ∀ (t u : List Int) (c : Nat → Int) (k : Nat), oc (t ++ u) c k = true → oc t c k = true := by
  intro t
  induction t with
  | nil => intro u c k h; rfl
  | cons x t ih =>
    intro u c k h
    have h' : ((c k == x) && oc (t ++ u) c (k + 1)) = true := h
    rw [Bool.and_eq_true] at h'
    show ((c k == x) && oc t c (k + 1)) = true
    rw [h'.1, ih u c (k + 1) h'.2]
    rfl
theorem fam_cases' {f : Int} (hf : 4 ≤ f ∧ f ≤ 8) : f = 4 ∨ f = 5 ∨ f = 6 ∨ f = 7 ∨ f = 8 := by omega
theorem gdr_fam {f : Int} (hf : 4 ≤ f ∧ f ≤ 8) {q : Qt} (hq : q ∈ (fam f).qs) : GdR q (q.inn == 7) := by
  have hg := (gd_fam f).qs q hq
  have hp : ∀ (c : Nat → Int) (k : Nat), oc (q.mark ++ q.mark) c k = true → oc q.mark c k = true := fun c k => oc_pre q.mark q.mark c k
  have h : (q.mark = [34] ∨ q.mark = [39] ∨ q.mark = [96] ∨ q.mark = [34, 34, 34] ∨ q.mark = [39, 39, 39]) ∧ (q.dbl = true → q.mark.length = 1) ∧ (q.inn = 7 ∨ q.inn = 5) := by
    rcases fam_cases' hf with rfl | rfl | rfl | rfl | rfl <;> simp only [fam, qD, qS] at hq <;> simp at hq
    · rcases hq with rfl | rfl <;> decide
    · rcases hq with rfl | rfl | rfl <;> decide
    · rcases hq with rfl | rfl | rfl | rfl <;> decide
    · rcases hq with rfl | rfl <;> decide
    · rcases hq with rfl | rfl <;> decide
  obtain ⟨hm, hd, hi⟩ := h
  rcases hm with hm | hm | hm | hm | hm
  · exact gdr_one 34 (by decide) (by decide) (by decide) hg hm hp hd hi
  · exact gdr_one 39 (by decide) (by decide) (by decide) hg hm hp hd hi
  · exact gdr_one 96 (by decide) (by decide) (by decide) hg hm hp hd hi
  · exact gdr_one 34 (by decide) (by decide) (by decide) hg hm hp hd hi
  · exact gdr_one 39 (by decide) (by decide) (by decide) hg hm hp hd hi
/-- One step of the reference: the labels from a place on are Code till then. -/
structure Sk (F : Fm) (c : Nat → Int) (n i : Nat) (L A : Nat → Int) : Prop where
  four : ∀ j, i ≤ j → j < n → L j = 4
  all : ∀ j, j < n → pt L (lx F c n i) i n j = A j
theorem Sk.step {F : Fm} (hF : GdF F) {c : Nat → Int} {n : Nat} (hC : Ch c n) {i : Nat} (hi : i < n) {L A L' : Nat → Int} (h : Sk F c n i L A) (he : ∀ j, j < n → L' j = pt L (nx F c n i).2 i (nx F c n i).1 j) : Sk F c n (nx F c n i).1 L' A := by
  have hle := nx_le hF hC hi
  refine ⟨fun j h1 h2 => ?_, fun j hj => ?_⟩
  · rw [he j h2]
    unfold pt
    rw [if_neg (by omega)]
    exact h.four j (by omega) h2
  · have h1 := h.all j hj
    rw [pt_lx hF hC hi] at h1
    rw [← h1]
    unfold pt
    by_cases h2 : (nx F c n i).1 ≤ j ∧ j < n
    · rw [if_pos h2, if_pos h2]
    · rw [if_neg h2, if_neg h2]
      have := he j hj
      unfold pt at this
      exact this
theorem tq_lab {q : Qt} (hq : GdQ q) {c : Nat → Int} {n i : Nat} (hC : Ch c n) (hE : i + q.mark.length ≤ n) {L : Nat → Int} (h4 : ∀ j, i ≤ j → j < n → L j = 4) (j : Nat) (hj : j < n) : pt L (fun _ => q.inn) (i + q.mark.length) (lnE q c n (i + q.mark.length)) j = pt L (tqR c n i (some q)).2 i (tqR c n i (some q)).1 j := by
  have h5 := txR_le hq hC hE
  have h6 := lnE_le hq c hE
  show pt L (fun _ => q.inn) (i + q.mark.length) (lnE q c n (i + q.mark.length)) j = pt L (ahd 4 (i + q.mark.length) (txR q c n (i + q.mark.length))).2 i (txR q c n (i + q.mark.length)).1 j
  unfold pt
  by_cases h1 : i ≤ j ∧ j < (txR q c n (i + q.mark.length)).1
  · rw [if_pos h1]
    show _ = if j < i + q.mark.length then 4 else (if j < lnE q c n (i + q.mark.length) then q.inn else 4)
    by_cases h2 : j < i + q.mark.length
    · rw [if_pos h2, if_neg (by omega)]
      exact h4 j h1.1 hj
    · rw [if_neg h2]
      by_cases h3 : j < lnE q c n (i + q.mark.length)
      · rw [if_pos h3, if_pos (by omega)]
      · rw [if_neg h3, if_neg (by omega)]
        exact h4 j h1.1 hj
  · rw [if_neg h1, if_neg (by omega)]
/-- What Src answers. -/
def SsP (F : Fm) (c : Nat → Int) (n : Nat) (w : World) (ev : Ending) (w' : World) : Prop := ∃ g, ev = .returned (.tuple #[.slice (some ⟨g, 0, none⟩) n n, .bool true]) ∧ w.heap.size ≤ g ∧ LR w' g n (lxA F c n) ∧ Up w.heap.size w w'
theorem rsrc_no {f : Int} (hf : (0 ≤ f ∧ f < 4) ∨ 8 < f) (s : ByteArray) (w : World) : Calls Try.prog 13 #[.int .u8 f, .string s] w fun ev w' => ev = .returned (.tuple #[.slice none 0 0, .bool false]) ∧ w' = w := by
  by_cases h4 : f < 4
  · clear hf
    go_enter Try.func13, Try.ntmps13
    go_wp2
    refine bodyPost_ret (v := .tuple #[.slice none 0 0, .bool false]) (by simp [results, Try.results13, go_sem]) rfl ?_
    exact ⟨rfl, rfl⟩
  · have h8 : 8 < f := by omega
    clear hf
    go_enter Try.func13, Try.ntmps13
    go_wp2
    refine bodyPost_ret (v := .tuple #[.slice none 0 0, .bool false]) (by simp [results, Try.results13, go_sem]) rfl ?_
    exact ⟨rfl, rfl⟩
set_option maxRecDepth 100000 in
set_option maxHeartbeats 16000000 in
theorem rsrc_any {s : ByteArray} {c : Nat → Int} {n : Nat} (hs : SC s c n) (hn : n ≤ 65536) {f : Int} (hf : 4 ≤ f ∧ f ≤ 8) (w : World) : Calls Try.prog 13 #[.int .u8 f, .string s] w (SsP (fam f) c n w) := by
  have ca := rall_any n hn 4 w
  have hsz := hs.1
  have hgd := gd_fam f
  have z4 : ¬ f < 4 := by omega
  have z8 : ¬ 8 < f := by omega
  have HSC : Hid (SC s c n) := hs
  have HF0 : Hid (4 ≤ f ∧ f ≤ 8) := hf
  have HO : Hid (f ≠ 6 → f ≠ 7 → (fam f).opn = [47, 42] ∧ (fam f).sht = [42, 47] ∧ (fam f).nst = (f == 8)) := fam_oth hf
  have H67 : Hid (f = 6 ∨ f = 7 → (fam f).opn = []) := fam_67
  have HN : Hid (∀ i, i < n → ∀ w, Calls Try.prog 22 #[.int .u8 f, .string s, .int .i64 i] w fun e w' => e = .returned (.int .i64 (ntN (fam f) c i : Nat)) ∧ w' = w) := fun i hi w => rnote_any hs hn i hi hf w
  have HQU : Hid (∀ w, Calls Try.prog 26 #[.int .u8 f] w (QP (fam f) w)) := fun w => rquo_any w hf
  have HGR : Hid (∀ q, q ∈ (fam f).qs → GdR q (q.inn == 7)) := fun q hq => gdr_fam hf hq
  obtain ⟨F, hF⟩ : ∃ F, fam f = F := ⟨_, rfl⟩
  rw [hF] at hgd HO H67 HN HQU HGR ⊢
  have HGD : Hid (GdF F) := hgd
  obtain ⟨Q, hQ⟩ : ∃ Q, SsP F c n w = Q := ⟨_, rfl⟩
  rw [hQ]
  have HQ : Hid (SsP F c n w = Q) := hQ
  clear hs hf hF hQ hgd
  go_enter Try.func13, Try.ntmps13
  go_wp2_with fail
  refine ca.mono ?_
  rintro ev w1 ⟨g, rfl, hg, hR, hU⟩
  have HG : Hid (w.heap.size ≤ g) := hg
  have HI : Hid (LR w1 g n (fun _ => 4) ∧ Up w.heap.size w w1) := ⟨hR, hU⟩
  obtain ⟨A, hA⟩ : ∃ A, pt (fun _ => (4 : Int)) (lx F c n 0) 0 n = A := ⟨_, rfl⟩
  have HA : Hid (Sk F c n 0 (fun _ => 4) A ∧ ∀ j, j < n → A j = lxA F c n j) := ⟨⟨fun _ _ _ => rfl, fun j _ => by rw [hA]⟩, fun j hj => by
    rw [← hA]
    unfold pt lxA
    rw [if_pos ⟨Nat.zero_le _, hj⟩]⟩
  clear ca hg hR hU hA
  go_wp2_with fail
  go_loopg [7] n (fun q iv wr => ∃ i, q = n - i ∧ i ≤ n ∧ iv = .int .i64 (i : Nat) ∧ Hid (∃ L, LR wr g n L ∧ Up w.heap.size w wr ∧ Sk F c n i L A))
  case atStart => exact ⟨0, rfl, Nat.zero_le _, by go_num, ⟨_, HI.out.1, HI.out.2, HA.out.1⟩⟩
  case round =>
    obtain ⟨i, hq, hi, rfl, HX⟩ := hrel
    obtain ⟨L, hL, hUp, hSk⟩ := HX.out
    have HB : Hid (LR wr g n L ∧ Up w.heap.size w wr ∧ Sk F c n i L A) := ⟨hL, hUp, hSk⟩
    clear HX HI hL hUp hSk
    by_cases hlt : i < n
    · have z1 : (i : Int) < (n : Int) := by omega
      have cn := HN.out i hlt wr
      have hle := nx_le HGD.out HSC.out.2.1 hlt
      have HLE : Hid (i < (nx F c n i).1 ∧ (nx F c n i).1 ≤ n) := hle
      clear hle
      cases hnt : ntB F c i with
      | true =>
        have e0 : ntN F c i = F.line.length := by unfold ntN; rw [if_pos hnt]
        have hll := HGD.out.l1
        have hll2 := HGD.out.l2
        have hol : oc F.line c i = true := by revert hnt; unfold ntB; cases oc F.line c i <;> simp
        have hln := oc_len HSC.out.2.1.2 F.line HGD.out.lb i (by intro e; rw [e] at hll; exact absurd hll (by decide)) hol
        have hge := fs_ge (oc [10] c) n (i + F.line.length)
        have hnx := nx_nt (L := L) (n := n) hnt hge
        obtain ⟨m, hm⟩ : ∃ m, F.line.length = m := ⟨_, rfl⟩
        rw [hm] at e0 hll hll2 hln hge hnx
        rw [e0] at cn
        obtain ⟨a, ha⟩ : ∃ a, i + m = a := ⟨_, rfl⟩
        rw [ha] at hln hge hnx
        obtain ⟨E, hE⟩ : ∃ E, fs (oc [10] c) n a = E := ⟨_, rfl⟩
        rw [hE] at hge hnx
        have hEn : E ≤ n := by rw [← hE]; exact fs_le _ hln
        have cp := rput_any HB.out.1 hn 3 i a hln
        have HST : Hid (∀ L', L' = setL (setL L 3 (i : Int) (a : Int)) 1 (a : Int) (E : Int) → Sk F c n E L' A) := fun L' e => by
          have := HB.out.2.2.step HGD.out HSC.out.2.1 hlt (L' := L') (fun j _ => by rw [e, hnx.1])
          rw [hnx.2] at this
          exact this
        have HAE : Hid (i + m = a ∧ a ≤ E ∧ E ≤ n ∧ i < a) := ⟨ha, hge, hEn, by omega⟩
        have HFS : Hid (fs (oc [10] c) n a = E) := hE
        have ze : IntKind.i64.wrap ((i : Int) + (m : Int)) = (a : Int) := by rw [Go.IntWalk.i64_in _ (by omega)]; omega
        have zm : (0 : Int) < (m : Int) := by omega
        have han : a ≤ n := hln
        clear e0 hol hln hge hnx hm ha hE hEn hnt hll hll2
        go_wp2_with fail
        refine cn.mono ?_
        rintro ev w2 ⟨rfl, hw⟩
        subst w2
        clear cn
        go_wp2_with fail
        refine cp.mono ?_
        rintro ev w3 ⟨rfl, h3, h4, h5⟩
        have HE3 : Hid (LR w3 g n (setL (setL L 3 (i : Int) (a : Int)) 1 (a : Int) (a : Int)) ∧ Up w.heap.size w w3) := ⟨h3.congr fun j _ => (setL_none _ _ _ _ (Int.le_refl _) j).symm, HB.out.2.1.grown h4 (fun k e => by rw [← Option.some.inj e]; exact HG.out)⟩
        clear cp h3 h4 h5
        go_wp2_with fail
        clear ze
        obtain ⟨wT, rfl⟩ : ∃ wT, wT = wr := ⟨_, rfl⟩
        go_loopg [7] (n - a) (fun q iv wx => ∃ k, q = n - k ∧ a ≤ k ∧ k ≤ n ∧ iv = .int .i64 (k : Nat) ∧ Hid (LR wx g n (setL (setL L 3 (i : Int) (a : Int)) 1 (a : Int) (k : Int)) ∧ Up w.heap.size w wx ∧ fs (oc [10] c) n k = E))
        case atStart => exact ⟨a, rfl, Nat.le_refl _, han, by go_num, ⟨HE3.out.1, HE3.out.2, HFS.out⟩⟩
        case round =>
          obtain ⟨k, hq2, hka, hkn, rfl, HK⟩ := hrel
          by_cases hkl : k < n
          · have x1 : (k : Int) < (n : Int) := by omega
            have x2 : (0 : Int) ≤ (k : Int) := by omega
            have x3 : k < s.size := by omega
            have x4 : ¬ s.size ≤ k := by omega
            have hx := HSC.out.2.2.1 k x3
            obtain ⟨x, hcx⟩ : ∃ x, c k = x := ⟨_, rfl⟩
            rw [hcx] at hx
            by_cases h10 : x = 10
            · subst h10
              have hfs := HK.out.2.2
              rw [fs_yes (by rw [oc1, hcx]; rfl)] at hfs
              have HE4 : Hid (∃ L', LR wr g n L' ∧ Up w.heap.size w wr ∧ Sk F c n k L' A) := by
                have h1 := HK.out
                rw [hfs] at h1 ⊢
                exact ⟨_, h1.1, h1.2.1, HST.out _ rfl⟩
              clear hcx hfs HK
              go_wp2
              go_roundg (n - k)
              case measure => have := HAE.out; omega
              case rel => exact ⟨k, rfl, by omega, rfl, HE4.out⟩
            · have k10 : (x != 10) = true := by simpa using h10
              have hfs := HK.out.2.2
              rw [fs_no hkl (by rw [oc1, hcx]; simpa using h10)] at hfs
              obtain ⟨e, he⟩ : ∃ e, k + 1 = e := ⟨_, rfl⟩
              rw [he] at hfs
              have hcell := HK.out.1.cell hkl
              have hfz := HK.out.1.frozen k
              have HE5 : Hid (LR (wr.setCell ⟨g, k, none⟩ (.int .u8 1)) g n (setL (setL L 3 (i : Int) (a : Int)) 1 (a : Int) (e : Int)) ∧ Up w.heap.size w (wr.setCell ⟨g, k, none⟩ (.int .u8 1)) ∧ fs (oc [10] c) n e = E) := by
                refine ⟨(HK.out.1.set k 1).congr fun j _ => ?_, HK.out.2.1.setCell HG.out _, hfs⟩
                rw [setL_snoc _ _ _ _ (by omega), ← he]
                rfl
              have ze : IntKind.i64.wrap ((k : Int) + 1) = (e : Int) := by rw [Go.IntWalk.i64_in _ (by omega)]; omega
              have HEK : Hid (k + 1 = e ∧ e ≤ n) := ⟨he, by omega⟩
              clear hcx hfs he h10 HK
              go_wp2
              go_roundg (n - e)
              case measure => have := HEK.out; omega
              case rel => exact ⟨e, rfl, by have := HEK.out; omega, HEK.out.2, rfl, HE5.out⟩
          · have x1 : ¬ (k : Int) < (n : Int) := by omega
            have hfs := HK.out.2.2
            rw [fs_end _ (by omega)] at hfs
            have HE4 : Hid (∃ L', LR wr g n L' ∧ Up w.heap.size w wr ∧ Sk F c n k L' A) := by
              have h1 := HK.out
              rw [hfs] at h1 ⊢
              exact ⟨_, h1.1, h1.2.1, HST.out _ rfl⟩
            clear hfs HK
            go_wp2
            go_roundg (n - k)
            case measure => have := HAE.out; omega
            case rel => exact ⟨k, rfl, by omega, rfl, HE4.out⟩
      | false =>
        have e0 : ntN F c i = 0 := by unfold ntN; rw [if_neg (by rw [hnt]; exact Bool.false_ne_true)]
        rw [e0] at cn
        have HNT : Hid (ntB F c i = false) := hnt
        clear e0 hnt
        go_wp2_with fail
        refine cn.mono ?_
        rintro ev w2 ⟨rfl, hw⟩
        subst w2
        clear cn
        by_cases h6 : f = 6
        · have k6 : (f != 6) = false := by simpa using h6
          have HNX : Hid (nx F c n i = tqR c n i (fq F.qs c i)) := nx_tq HNT.out (by unfold opB; rw [H67.out (Or.inl h6)]; rfl)
          clear h6
          have cq := HQU.out wr
          go_wp2_with fail
          refine cq.mono ?_
          rintro ev w3 ⟨gq, rfl, hgq, hRQ, hbq⟩
          have HB3 : Hid (LR w3 g n L ∧ Up w.heap.size w w3 ∧ RQ w3 gq F.qs) := ⟨HB.out.1.stay hbq, HB.out.2.1.stay hbq, hRQ⟩
          obtain ⟨m, hm⟩ : ∃ m, F.qs.length = m := ⟨_, rfl⟩
          rw [hm]
          have HM : Hid (F.qs.length = m) := hm
          have hm4 : m ≤ 4 := by have := HGD.out.q4; omega
          have HGQ : Hid (gq ≠ g) := by have h1 := HB.out.1.lt; intro e; omega
          clear cq hgq hRQ hbq hm
          go_wp2_with fail
          obtain ⟨wT, rfl⟩ : ∃ wT, wT = wr := ⟨_, rfl⟩
          go_loopg [10] m (fun qq kv wx => ∃ k, qq = m - k ∧ k ≤ m ∧ kv = .int .i64 (k : Nat) ∧ wx = w3 ∧ Hid (fq F.qs c i = fq (F.qs.drop k) c i))
          case atStart => exact ⟨0, by omega, Nat.zero_le _, by go_num, rfl, rfl⟩
          case round =>
            obtain ⟨k, hqq, hk, rfl, rfl, HX⟩ := hrel
            by_cases hkm : k < m
            · obtain ⟨q, hq'⟩ : ∃ q, F.qs[k]? = some q := ⟨F.qs[k]'(by rw [HM.out]; exact hkm), List.getElem?_eq_getElem _⟩
              have hmem := List.mem_of_getElem? hq'
              have hgq := HGD.out.qs q hmem
              have hgr := HGR.out q hmem
              have hdr : F.qs.drop k = q :: F.qs.drop (k + 1) := by
                obtain ⟨hk', e⟩ := List.getElem?_eq_some_iff.1 hq'
                rw [← e]
                exact List.drop_eq_getElem_cons hk'
              have hfq := HX.out
              rw [hdr, fq_cons] at hfq
              obtain ⟨y0, y1, y2, y3, y4⟩ := HB3.out.2.2 k q hq'
              have co := rat_any HSC.out (by omega) i (by omega) _ q.mark hgq.byt rfl (by have := hgq.few; omega) hgq.ne wr
              have x1 : (k : Int) < (m : Int) := by omega
              have x2 : (0 : Int) ≤ (k : Int) := by omega
              have x3 : ¬ (k : Int) < 0 := by omega
              have x4 : ((k : Int) == (m : Int)) = false := by simp; omega
              have hmz : (strOfNums q.mark).size = q.mark.length := strOfNums_size _
              cases hr : oc q.mark c i with
              | true =>
                rw [hr] at co hfq
                rw [if_pos rfl] at hfq
                have hol := oc_len HSC.out.2.1.2 q.mark hgq.byt i hgq.ne hr
                have hlab := tq_lab hgq HSC.out.2.1 hol HB.out.2.2.four
                rw [← hfq, ← HNX.out] at hlab
                have hE : (txR q c n (i + q.mark.length)).1 = (nx F c n i).1 := by
                  rw [HNX.out, hfq]
                  rfl
                have cqd := fun (w5 : World) (h5 : LR w5 g n L) => rquoted_any h5 HSC.out hn hgr (a := i + q.mark.length) hol
                have HST : Hid (Sk F c n (nx F c n i).1 (pt L (fun _ => q.inn) (i + q.mark.length) (lnE q c n (i + q.mark.length))) A) := HB.out.2.2.step HGD.out HSC.out.2.1 hlt (fun j hj => hlab j hj)
                obtain ⟨e, he⟩ : ∃ e, (nx F c n i).1 = e := ⟨_, rfl⟩
                rw [hE, he] at cqd
                rw [he] at HST HLE
                obtain ⟨mz, hmm⟩ : ∃ mz, q.mark.length = mz := ⟨_, rfl⟩
                obtain ⟨a, ha⟩ : ∃ a, i + mz = a := ⟨_, rfl⟩
                rw [hmm, ha] at cqd HST
                obtain ⟨L5, hL5⟩ : ∃ L5, pt L (fun _ => q.inn) a (lnE q c n a) = L5 := ⟨_, rfl⟩
                rw [hL5] at cqd HST
                unfold rqv at cqd
                have ze : IntKind.i64.wrap ((i : Int) + (mz : Int)) = (a : Int) := by rw [Go.IntWalk.i64_in _ (by have := hgq.few; omega)]; omega
                obtain ⟨M, hM⟩ : ∃ M, strOfNums q.mark = M := ⟨_, rfl⟩
                obtain ⟨es, hes⟩ : ∃ x, q.esc = x := ⟨_, rfl⟩
                obtain ⟨db, hdb⟩ : ∃ x, q.dbl = x := ⟨_, rfl⟩
                obtain ⟨lg, hlg⟩ : ∃ x, q.lng = x := ⟨_, rfl⟩
                obtain ⟨rw', hrw⟩ : ∃ x, (q.inn == 7) = x := ⟨_, rfl⟩
                rw [hM] at co y0 hmz
                rw [hmm] at hmz
                rw [hM, hes, hdb, hlg, hrw] at cqd
                rw [hes] at y1
                rw [hdb] at y2
                rw [hlg] at y3
                rw [hrw] at y4
                have HCQ : Hid (∀ (w5 : World), LR w5 g n L → Calls Try.prog 27 #[.slice (some ⟨g, 0, none⟩) n n, .string s, .int .i64 a, .agg #[.string M, .bool es, .bool db, .bool lg, .bool rw']] w5 (RPq w5 g n L5 e)) := cqd
                have HSQ : Hid (∀ w5 : World, (∀ b, b < wr.heap.size → b ≠ g → w5.heap[b]? = wr.heap[b]?) → w5.cell? ⟨gq, k * 5, none⟩ = some (.string M) ∧ w5.cell? ⟨gq, k * 5 + 1, none⟩ = some (.bool es) ∧ w5.cell? ⟨gq, k * 5 + 2, none⟩ = some (.bool db) ∧ w5.cell? ⟨gq, k * 5 + 3, none⟩ = some (.bool lg) ∧ w5.cell? ⟨gq, k * 5 + 4, none⟩ = some (.bool rw')) := fun w5 h5 => by
                  have hgl := World.block_lt_of_cell? wr _ y0
                  have e1 : ∀ j, w5.cell? ⟨gq, j, none⟩ = wr.cell? ⟨gq, j, none⟩ := fun j => by simp only [World.cell?, h5 gq hgl HGQ.out]
                  rw [e1, e1, e1, e1, e1]
                  exact ⟨y0, y1, y2, y3, y4⟩
                clear hfq hol hlab hE he hmm ha hL5 hM hes hdb hlg hrw hgr hgq hmem hdr hq' hr cqd HX
                go_wp2_with fail
                refine co.mono ?_
                rintro ev w4 ⟨rfl, hw⟩
                subst w4
                clear co
                go_wp2_with fail
                go_upto_region 21 with fail
                refine wp_region_held_drew (S := fun w' => w'.cell? ⟨gq, k * 5, none⟩ = some (.string M) ∧ w'.cell? ⟨gq, k * 5 + 1, none⟩ = some (.bool es) ∧ w'.cell? ⟨gq, k * 5 + 2, none⟩ = some (.bool db) ∧ w'.cell? ⟨gq, k * 5 + 3, none⟩ = some (.bool lg) ∧ w'.cell? ⟨gq, k * 5 + 4, none⟩ = some (.bool rw')) (by kernel_rfl) ⟨y0, y1, y2, y3, y4⟩ (fun hHeld => ?_)
                clear hHeld
                refine takeH (i := 0) (v := ?_) (d := (some 96)) rfl (by kernel_rfl) (by kernel_rfl) (by kernel_rfl) rfl (fun _ _ _ h => h) (Or.inl ⟨by kernel_rfl, ?_⟩) (by first | assumption | trivial) ?_; rotate_left
                · (intro w hSw; (try dsimp only at hSw); first | (go_simp; done) | (go_simp; with_reducible rfl))
                (try simp only [Act.put, List.setIfInBounds_toArray, List.set_cons_zero, List.set_cons_succ])
                refine takeH (i := 1) (v := ?_) (d := (some 97)) rfl (by kernel_rfl) (by kernel_rfl) (by kernel_rfl) rfl (fun _ _ _ h => h) (Or.inl ⟨by kernel_rfl, ?_⟩) (by first | assumption | trivial) ?_; rotate_left
                · (intro w hSw; (try dsimp only at hSw); first | (go_simp; done) | (go_simp; with_reducible rfl))
                (try simp only [Act.put, List.setIfInBounds_toArray, List.set_cons_zero, List.set_cons_succ])
                refine takeH (i := 2) (v := ?_) (d := (some 98)) rfl (by kernel_rfl) (by kernel_rfl) (by kernel_rfl) rfl (fun _ _ _ h => h) (Or.inl ⟨by kernel_rfl, ?_⟩) (by first | assumption | trivial) ?_; rotate_left
                · (intro w hSw; (try dsimp only at hSw); first | (go_simp; done) | (go_simp; with_reducible rfl))
                (try simp only [Act.put, List.setIfInBounds_toArray, List.set_cons_zero, List.set_cons_succ])
                refine takeH (i := 3) (v := ?_) (d := (some 99)) rfl (by kernel_rfl) (by kernel_rfl) (by kernel_rfl) rfl (fun _ _ _ h => h) (Or.inl ⟨by kernel_rfl, ?_⟩) (by first | assumption | trivial) ?_; rotate_left
                · (intro w hSw; (try dsimp only at hSw); first | (go_simp; done) | (go_simp; with_reducible rfl))
                (try simp only [Act.put, List.setIfInBounds_toArray, List.set_cons_zero, List.set_cons_succ])
                refine takeH (i := 4) (v := ?_) (d := (some 100)) rfl (by kernel_rfl) (by kernel_rfl) (by kernel_rfl) rfl (fun _ _ _ h => h) (Or.inl ⟨by kernel_rfl, ?_⟩) (by first | assumption | trivial) ?_; rotate_left
                · (intro w hSw; (try dsimp only at hSw); first | (go_simp; done) | (go_simp; with_reducible rfl))
                (try simp only [Act.put, List.setIfInBounds_toArray, List.set_cons_zero, List.set_cons_succ])
                refine takeH (i := 5) (v := ?_) (d := (some 101)) rfl (by kernel_rfl) (by kernel_rfl) (by kernel_rfl) rfl (fun _ _ _ h => h) (Or.inl ⟨by kernel_rfl, ?_⟩) (by first | assumption | trivial) ?_; rotate_left
                · (intro w hSw; (try dsimp only at hSw); first | (go_simp; done) | (go_simp; with_reducible rfl))
                (try simp only [Act.put, List.setIfInBounds_toArray, List.set_cons_zero, List.set_cons_succ])
                refine takeH (i := 6) (v := ?_) (d := (some 102)) rfl (by kernel_rfl) (by kernel_rfl) (by kernel_rfl) rfl (fun _ _ _ h => h) (Or.inl ⟨by kernel_rfl, ?_⟩) (by first | assumption | trivial) ?_; rotate_left
                · (intro w hSw; (try dsimp only at hSw); first | (go_simp; done) | (go_simp; with_reducible rfl))
                (try simp only [Act.put, List.setIfInBounds_toArray, List.set_cons_zero, List.set_cons_succ])
                refine takeH (i := 7) (v := ?_) (d := (some 103)) rfl (by kernel_rfl) (by kernel_rfl) (by kernel_rfl) rfl (fun _ _ _ h => h) (Or.inl ⟨by kernel_rfl, ?_⟩) (by first | assumption | trivial) ?_; rotate_left
                · (intro w hSw; (try dsimp only at hSw); first | (go_simp; done) | (go_simp; with_reducible rfl))
                (try simp only [Act.put, List.setIfInBounds_toArray, List.set_cons_zero, List.set_cons_succ])
                refine takeH (i := 8) (v := ?_) (d := (some 104)) rfl (by kernel_rfl) (by kernel_rfl) (by kernel_rfl) rfl (fun _ _ _ h => h) (Or.inl ⟨by kernel_rfl, ?_⟩) (by first | assumption | trivial) ?_; rotate_left
                · (intro w hSw; (try dsimp only at hSw); first | (go_simp; done) | (go_simp; with_reducible rfl))
                (try simp only [Act.put, List.setIfInBounds_toArray, List.set_cons_zero, List.set_cons_succ])
                refine takeH (i := 9) (v := ?_) (d := (some 105)) rfl (by kernel_rfl) (by kernel_rfl) (by kernel_rfl) rfl (fun _ _ _ h => h) (Or.inl ⟨by kernel_rfl, ?_⟩) (by first | assumption | trivial) ?_; rotate_left
                · (intro w hSw; (try dsimp only at hSw); first | (go_simp; done) | (go_simp; with_reducible rfl))
                (try simp only [Act.put, List.setIfInBounds_toArray, List.set_cons_zero, List.set_cons_succ])
                refine takeH (i := 10) (v := ?_) (d := (some 106)) rfl (by kernel_rfl) (by kernel_rfl) (by kernel_rfl) rfl (fun _ _ _ h => h) (Or.inl ⟨by kernel_rfl, ?_⟩) (by first | assumption | trivial) ?_; rotate_left
                · (intro w hSw; (try dsimp only at hSw); first | (go_simp; done) | (go_simp; with_reducible rfl))
                (try simp only [Act.put, List.setIfInBounds_toArray, List.set_cons_zero, List.set_cons_succ])
                refine takeH (i := 11) (v := ?_) (d := (some 107)) rfl (by kernel_rfl) (by kernel_rfl) (by kernel_rfl) rfl (fun _ _ _ h => h) (Or.inl ⟨by kernel_rfl, ?_⟩) (by first | assumption | trivial) ?_; rotate_left
                · (intro w hSw; (try dsimp only at hSw); first | (go_simp; done) | (go_simp; with_reducible rfl))
                (try simp only [Act.put, List.setIfInBounds_toArray, List.set_cons_zero, List.set_cons_succ])
                refine takeH (i := 12) (v := ?_) (d := (some 108)) rfl (by kernel_rfl) (by kernel_rfl) (by kernel_rfl) rfl (fun _ _ _ h => h) (Or.inl ⟨by kernel_rfl, ?_⟩) (by first | assumption | trivial) ?_; rotate_left
                · (intro w hSw; (try dsimp only at hSw); first | (go_simp; done) | (go_simp; with_reducible rfl))
                (try simp only [Act.put, List.setIfInBounds_toArray, List.set_cons_zero, List.set_cons_succ])
                refine takeH (i := 13) (v := ?_) (d := (some 109)) rfl (by kernel_rfl) (by kernel_rfl) (by kernel_rfl) rfl (fun _ _ _ h => h) (Or.inl ⟨by kernel_rfl, ?_⟩) (by first | assumption | trivial) ?_; rotate_left
                · (intro w hSw; (try dsimp only at hSw); first | (go_simp; done) | (go_simp; with_reducible rfl))
                (try simp only [Act.put, List.setIfInBounds_toArray, List.set_cons_zero, List.set_cons_succ])
                have cc := HCQ.out wr.drew HB3.out.1.drew
                refine wpAnyH_ready (rs := [14]) (by kernel_rfl) (by simp) (AllReadyH.cons rfl (fun K hK => ?_) AllReadyH.nil)
                go_simp
                refine cc.mono ?_
                rintro ev w5 ⟨rfl, h3, h4, h5⟩
                have HE5 : Hid (∃ L', LR w5 g n L' ∧ Up w.heap.size w w5 ∧ Sk F c n e L' A) := ⟨_, h3, HB3.out.2.1.drew.grown h4 (fun k e => by rw [← Option.some.inj e]; exact HG.out), HST.out⟩
                have hS5 := HSQ.out w5 (fun b hb hne => h4.block b hb (fun e => hne (Option.some.inj e)))
                clear cc h3 h4 h5
                refine hK.out _ _ hS5 (fun hHeld => ?_)
                clear hK K hHeld
                (try simp only [Act.put, List.setIfInBounds_toArray, List.set_cons_zero, List.set_cons_succ])
                refine takeH (i := 15) (v := ?_) (d := (some 7)) rfl (by kernel_rfl) (by kernel_rfl) (by kernel_rfl) rfl (fun _ _ _ h => h) (Or.inl ⟨by kernel_rfl, ?_⟩) (by first | assumption | trivial) ?_; rotate_left
                · (intro w hSw; (try dsimp only at hSw); first | (go_simp; done) | (go_simp; with_reducible rfl))
                (try simp only [Act.put, List.setIfInBounds_toArray, List.set_cons_zero, List.set_cons_succ])
                refine wpAnyH_done (by kernel_rfl) ?_ _
                go_wp2
                go_roundg (n - e)
                case measure => have := HLE.out; omega
                case rel => exact ⟨e, rfl, HLE.out.2, rfl, HE5.out⟩
              | false =>
                rw [hr] at co hfq
                rw [if_neg Bool.false_ne_true] at hfq
                obtain ⟨k1, hk1⟩ : ∃ k1, k + 1 = k1 := ⟨_, rfl⟩
                rw [hk1] at hfq
                have HF : Hid (fq F.qs c i = fq (F.qs.drop k1) c i) := hfq
                have ze : IntKind.i64.wrap ((k : Int) + 1) = (k1 : Int) := by rw [Go.IntWalk.i64_in _ (by omega)]; omega
                have hk1m : k1 ≤ m ∧ k < k1 := by omega
                obtain ⟨M, hM⟩ : ∃ M, strOfNums q.mark = M := ⟨_, rfl⟩
                rw [hM] at co y0
                clear hfq hdr hq' hM hr hgq hgr hmem HX hk1 hmz
                go_wp2_with fail
                refine co.mono ?_
                rintro ev w4 ⟨rfl, hw⟩
                subst w4
                clear co
                go_wp2
                go_roundg (m - k1)
                case measure => omega
                case rel => exact ⟨k1, rfl, hk1m.1, rfl, rfl, HF.out⟩
            · have x1 : ¬ (k : Int) < (m : Int) := by omega
              have x4 : ((k : Int) == (m : Int)) = true := by simp; omega
              have hfq := HX.out
              rw [List.drop_eq_nil_of_le (by rw [HM.out]; omega)] at hfq
              have hnx := HNX.out
              rw [hfq] at hnx
              obtain ⟨e, he⟩ : ∃ e, i + 1 = e := ⟨_, rfl⟩
              have hnx2 : nx F c n i = (e, fun _ => 4) := by rw [hnx, ← he]; rfl
              have ze : IntKind.i64.wrap ((i : Int) + 1) = (e : Int) := by rw [Go.IntWalk.i64_in _ (by omega)]; omega
              have HE5 : Hid (∃ L', LR wr g n L' ∧ Up w.heap.size w wr ∧ Sk F c n e L' A) := by
                have h1 := HB.out.2.2.step HGD.out HSC.out.2.1 hlt (L' := L) (fun j hj => by
                  rw [hnx2]
                  unfold pt
                  dsimp only
                  by_cases h2 : i ≤ j ∧ j < e
                  · rw [if_pos h2]
                    exact HB.out.2.2.four j h2.1 hj
                  · rw [if_neg h2])
                rw [hnx2] at h1
                exact ⟨L, HB3.out.1, HB3.out.2.1, h1⟩
              have HEE : Hid (i + 1 = e ∧ e ≤ n) := ⟨he, by omega⟩
              clear hfq hnx hnx2 he HX
              go_wp2
              go_roundg (n - e)
              case measure => have := HEE.out; omega
              case rel => exact ⟨e, rfl, HEE.out.2, rfl, HE5.out⟩
        · have k6 : (f != 6) = true := by simpa using h6
          by_cases h7 : f = 7
          · have k7 : (f != 7) = false := by simpa using h7
            have HNX : Hid (nx F c n i = tqR c n i (fq F.qs c i)) := nx_tq HNT.out (by unfold opB; rw [H67.out (Or.inr h7)]; rfl)
            clear h6 h7
            have cq := HQU.out wr
            go_wp2_with fail
            refine cq.mono ?_
            rintro ev w3 ⟨gq, rfl, hgq, hRQ, hbq⟩
            have HB3 : Hid (LR w3 g n L ∧ Up w.heap.size w w3 ∧ RQ w3 gq F.qs) := ⟨HB.out.1.stay hbq, HB.out.2.1.stay hbq, hRQ⟩
            obtain ⟨m, hm⟩ : ∃ m, F.qs.length = m := ⟨_, rfl⟩
            rw [hm]
            have HM : Hid (F.qs.length = m) := hm
            have hm4 : m ≤ 4 := by have := HGD.out.q4; omega
            have HGQ : Hid (gq ≠ g) := by have h1 := HB.out.1.lt; intro e; omega
            clear cq hgq hRQ hbq hm
            go_wp2_with fail
            obtain ⟨wT, rfl⟩ : ∃ wT, wT = wr := ⟨_, rfl⟩
            go_loopg [10] m (fun qq kv wx => ∃ k, qq = m - k ∧ k ≤ m ∧ kv = .int .i64 (k : Nat) ∧ wx = w3 ∧ Hid (fq F.qs c i = fq (F.qs.drop k) c i))
            case atStart => exact ⟨0, by omega, Nat.zero_le _, by go_num, rfl, rfl⟩
            case round =>
              obtain ⟨k, hqq, hk, rfl, rfl, HX⟩ := hrel
              by_cases hkm : k < m
              · obtain ⟨q, hq'⟩ : ∃ q, F.qs[k]? = some q := ⟨F.qs[k]'(by rw [HM.out]; exact hkm), List.getElem?_eq_getElem _⟩
                have hmem := List.mem_of_getElem? hq'
                have hgq := HGD.out.qs q hmem
                have hgr := HGR.out q hmem
                have hdr : F.qs.drop k = q :: F.qs.drop (k + 1) := by
                  obtain ⟨hk', e⟩ := List.getElem?_eq_some_iff.1 hq'
                  rw [← e]
                  exact List.drop_eq_getElem_cons hk'
                have hfq := HX.out
                rw [hdr, fq_cons] at hfq
                obtain ⟨y0, y1, y2, y3, y4⟩ := HB3.out.2.2 k q hq'
                have co := rat_any HSC.out (by omega) i (by omega) _ q.mark hgq.byt rfl (by have := hgq.few; omega) hgq.ne wr
                have x1 : (k : Int) < (m : Int) := by omega
                have x2 : (0 : Int) ≤ (k : Int) := by omega
                have x3 : ¬ (k : Int) < 0 := by omega
                have x4 : ((k : Int) == (m : Int)) = false := by simp; omega
                have hmz : (strOfNums q.mark).size = q.mark.length := strOfNums_size _
                cases hr : oc q.mark c i with
                | true =>
                  rw [hr] at co hfq
                  rw [if_pos rfl] at hfq
                  have hol := oc_len HSC.out.2.1.2 q.mark hgq.byt i hgq.ne hr
                  have hlab := tq_lab hgq HSC.out.2.1 hol HB.out.2.2.four
                  rw [← hfq, ← HNX.out] at hlab
                  have hE : (txR q c n (i + q.mark.length)).1 = (nx F c n i).1 := by
                    rw [HNX.out, hfq]
                    rfl
                  have cqd := fun (w5 : World) (h5 : LR w5 g n L) => rquoted_any h5 HSC.out hn hgr (a := i + q.mark.length) hol
                  have HST : Hid (Sk F c n (nx F c n i).1 (pt L (fun _ => q.inn) (i + q.mark.length) (lnE q c n (i + q.mark.length))) A) := HB.out.2.2.step HGD.out HSC.out.2.1 hlt (fun j hj => hlab j hj)
                  obtain ⟨e, he⟩ : ∃ e, (nx F c n i).1 = e := ⟨_, rfl⟩
                  rw [hE, he] at cqd
                  rw [he] at HST HLE
                  obtain ⟨mz, hmm⟩ : ∃ mz, q.mark.length = mz := ⟨_, rfl⟩
                  obtain ⟨a, ha⟩ : ∃ a, i + mz = a := ⟨_, rfl⟩
                  rw [hmm, ha] at cqd HST
                  obtain ⟨L5, hL5⟩ : ∃ L5, pt L (fun _ => q.inn) a (lnE q c n a) = L5 := ⟨_, rfl⟩
                  rw [hL5] at cqd HST
                  unfold rqv at cqd
                  have ze : IntKind.i64.wrap ((i : Int) + (mz : Int)) = (a : Int) := by rw [Go.IntWalk.i64_in _ (by have := hgq.few; omega)]; omega
                  obtain ⟨M, hM⟩ : ∃ M, strOfNums q.mark = M := ⟨_, rfl⟩
                  obtain ⟨es, hes⟩ : ∃ x, q.esc = x := ⟨_, rfl⟩
                  obtain ⟨db, hdb⟩ : ∃ x, q.dbl = x := ⟨_, rfl⟩
                  obtain ⟨lg, hlg⟩ : ∃ x, q.lng = x := ⟨_, rfl⟩
                  obtain ⟨rw', hrw⟩ : ∃ x, (q.inn == 7) = x := ⟨_, rfl⟩
                  rw [hM] at co y0 hmz
                  rw [hmm] at hmz
                  rw [hM, hes, hdb, hlg, hrw] at cqd
                  rw [hes] at y1
                  rw [hdb] at y2
                  rw [hlg] at y3
                  rw [hrw] at y4
                  have HCQ : Hid (∀ (w5 : World), LR w5 g n L → Calls Try.prog 27 #[.slice (some ⟨g, 0, none⟩) n n, .string s, .int .i64 a, .agg #[.string M, .bool es, .bool db, .bool lg, .bool rw']] w5 (RPq w5 g n L5 e)) := cqd
                  have HSQ : Hid (∀ w5 : World, (∀ b, b < wr.heap.size → b ≠ g → w5.heap[b]? = wr.heap[b]?) → w5.cell? ⟨gq, k * 5, none⟩ = some (.string M) ∧ w5.cell? ⟨gq, k * 5 + 1, none⟩ = some (.bool es) ∧ w5.cell? ⟨gq, k * 5 + 2, none⟩ = some (.bool db) ∧ w5.cell? ⟨gq, k * 5 + 3, none⟩ = some (.bool lg) ∧ w5.cell? ⟨gq, k * 5 + 4, none⟩ = some (.bool rw')) := fun w5 h5 => by
                    have hgl := World.block_lt_of_cell? wr _ y0
                    have e1 : ∀ j, w5.cell? ⟨gq, j, none⟩ = wr.cell? ⟨gq, j, none⟩ := fun j => by simp only [World.cell?, h5 gq hgl HGQ.out]
                    rw [e1, e1, e1, e1, e1]
                    exact ⟨y0, y1, y2, y3, y4⟩
                  clear hfq hol hlab hE he hmm ha hL5 hM hes hdb hlg hrw hgr hgq hmem hdr hq' hr cqd HX
                  go_wp2_with fail
                  refine co.mono ?_
                  rintro ev w4 ⟨rfl, hw⟩
                  subst w4
                  clear co
                  go_wp2_with fail
                  go_upto_region 21 with fail
                  refine wp_region_held_drew (S := fun w' => w'.cell? ⟨gq, k * 5, none⟩ = some (.string M) ∧ w'.cell? ⟨gq, k * 5 + 1, none⟩ = some (.bool es) ∧ w'.cell? ⟨gq, k * 5 + 2, none⟩ = some (.bool db) ∧ w'.cell? ⟨gq, k * 5 + 3, none⟩ = some (.bool lg) ∧ w'.cell? ⟨gq, k * 5 + 4, none⟩ = some (.bool rw')) (by kernel_rfl) ⟨y0, y1, y2, y3, y4⟩ (fun hHeld => ?_)
                  clear hHeld
                  refine takeH (i := 0) (v := ?_) (d := (some 96)) rfl (by kernel_rfl) (by kernel_rfl) (by kernel_rfl) rfl (fun _ _ _ h => h) (Or.inl ⟨by kernel_rfl, ?_⟩) (by first | assumption | trivial) ?_; rotate_left
                  · (intro w hSw; (try dsimp only at hSw); first | (go_simp; done) | (go_simp; with_reducible rfl))
                  (try simp only [Act.put, List.setIfInBounds_toArray, List.set_cons_zero, List.set_cons_succ])
                  refine takeH (i := 1) (v := ?_) (d := (some 97)) rfl (by kernel_rfl) (by kernel_rfl) (by kernel_rfl) rfl (fun _ _ _ h => h) (Or.inl ⟨by kernel_rfl, ?_⟩) (by first | assumption | trivial) ?_; rotate_left
                  · (intro w hSw; (try dsimp only at hSw); first | (go_simp; done) | (go_simp; with_reducible rfl))
                  (try simp only [Act.put, List.setIfInBounds_toArray, List.set_cons_zero, List.set_cons_succ])
                  refine takeH (i := 2) (v := ?_) (d := (some 98)) rfl (by kernel_rfl) (by kernel_rfl) (by kernel_rfl) rfl (fun _ _ _ h => h) (Or.inl ⟨by kernel_rfl, ?_⟩) (by first | assumption | trivial) ?_; rotate_left
                  · (intro w hSw; (try dsimp only at hSw); first | (go_simp; done) | (go_simp; with_reducible rfl))
                  (try simp only [Act.put, List.setIfInBounds_toArray, List.set_cons_zero, List.set_cons_succ])
                  refine takeH (i := 3) (v := ?_) (d := (some 99)) rfl (by kernel_rfl) (by kernel_rfl) (by kernel_rfl) rfl (fun _ _ _ h => h) (Or.inl ⟨by kernel_rfl, ?_⟩) (by first | assumption | trivial) ?_; rotate_left
                  · (intro w hSw; (try dsimp only at hSw); first | (go_simp; done) | (go_simp; with_reducible rfl))
                  (try simp only [Act.put, List.setIfInBounds_toArray, List.set_cons_zero, List.set_cons_succ])
                  refine takeH (i := 4) (v := ?_) (d := (some 100)) rfl (by kernel_rfl) (by kernel_rfl) (by kernel_rfl) rfl (fun _ _ _ h => h) (Or.inl ⟨by kernel_rfl, ?_⟩) (by first | assumption | trivial) ?_; rotate_left
                  · (intro w hSw; (try dsimp only at hSw); first | (go_simp; done) | (go_simp; with_reducible rfl))
                  (try simp only [Act.put, List.setIfInBounds_toArray, List.set_cons_zero, List.set_cons_succ])
                  refine takeH (i := 5) (v := ?_) (d := (some 101)) rfl (by kernel_rfl) (by kernel_rfl) (by kernel_rfl) rfl (fun _ _ _ h => h) (Or.inl ⟨by kernel_rfl, ?_⟩) (by first | assumption | trivial) ?_; rotate_left
                  · (intro w hSw; (try dsimp only at hSw); first | (go_simp; done) | (go_simp; with_reducible rfl))
                  (try simp only [Act.put, List.setIfInBounds_toArray, List.set_cons_zero, List.set_cons_succ])
                  refine takeH (i := 6) (v := ?_) (d := (some 102)) rfl (by kernel_rfl) (by kernel_rfl) (by kernel_rfl) rfl (fun _ _ _ h => h) (Or.inl ⟨by kernel_rfl, ?_⟩) (by first | assumption | trivial) ?_; rotate_left
                  · (intro w hSw; (try dsimp only at hSw); first | (go_simp; done) | (go_simp; with_reducible rfl))
                  (try simp only [Act.put, List.setIfInBounds_toArray, List.set_cons_zero, List.set_cons_succ])
                  refine takeH (i := 7) (v := ?_) (d := (some 103)) rfl (by kernel_rfl) (by kernel_rfl) (by kernel_rfl) rfl (fun _ _ _ h => h) (Or.inl ⟨by kernel_rfl, ?_⟩) (by first | assumption | trivial) ?_; rotate_left
                  · (intro w hSw; (try dsimp only at hSw); first | (go_simp; done) | (go_simp; with_reducible rfl))
                  (try simp only [Act.put, List.setIfInBounds_toArray, List.set_cons_zero, List.set_cons_succ])
                  refine takeH (i := 8) (v := ?_) (d := (some 104)) rfl (by kernel_rfl) (by kernel_rfl) (by kernel_rfl) rfl (fun _ _ _ h => h) (Or.inl ⟨by kernel_rfl, ?_⟩) (by first | assumption | trivial) ?_; rotate_left
                  · (intro w hSw; (try dsimp only at hSw); first | (go_simp; done) | (go_simp; with_reducible rfl))
                  (try simp only [Act.put, List.setIfInBounds_toArray, List.set_cons_zero, List.set_cons_succ])
                  refine takeH (i := 9) (v := ?_) (d := (some 105)) rfl (by kernel_rfl) (by kernel_rfl) (by kernel_rfl) rfl (fun _ _ _ h => h) (Or.inl ⟨by kernel_rfl, ?_⟩) (by first | assumption | trivial) ?_; rotate_left
                  · (intro w hSw; (try dsimp only at hSw); first | (go_simp; done) | (go_simp; with_reducible rfl))
                  (try simp only [Act.put, List.setIfInBounds_toArray, List.set_cons_zero, List.set_cons_succ])
                  refine takeH (i := 10) (v := ?_) (d := (some 106)) rfl (by kernel_rfl) (by kernel_rfl) (by kernel_rfl) rfl (fun _ _ _ h => h) (Or.inl ⟨by kernel_rfl, ?_⟩) (by first | assumption | trivial) ?_; rotate_left
                  · (intro w hSw; (try dsimp only at hSw); first | (go_simp; done) | (go_simp; with_reducible rfl))
                  (try simp only [Act.put, List.setIfInBounds_toArray, List.set_cons_zero, List.set_cons_succ])
                  refine takeH (i := 11) (v := ?_) (d := (some 107)) rfl (by kernel_rfl) (by kernel_rfl) (by kernel_rfl) rfl (fun _ _ _ h => h) (Or.inl ⟨by kernel_rfl, ?_⟩) (by first | assumption | trivial) ?_; rotate_left
                  · (intro w hSw; (try dsimp only at hSw); first | (go_simp; done) | (go_simp; with_reducible rfl))
                  (try simp only [Act.put, List.setIfInBounds_toArray, List.set_cons_zero, List.set_cons_succ])
                  refine takeH (i := 12) (v := ?_) (d := (some 108)) rfl (by kernel_rfl) (by kernel_rfl) (by kernel_rfl) rfl (fun _ _ _ h => h) (Or.inl ⟨by kernel_rfl, ?_⟩) (by first | assumption | trivial) ?_; rotate_left
                  · (intro w hSw; (try dsimp only at hSw); first | (go_simp; done) | (go_simp; with_reducible rfl))
                  (try simp only [Act.put, List.setIfInBounds_toArray, List.set_cons_zero, List.set_cons_succ])
                  refine takeH (i := 13) (v := ?_) (d := (some 109)) rfl (by kernel_rfl) (by kernel_rfl) (by kernel_rfl) rfl (fun _ _ _ h => h) (Or.inl ⟨by kernel_rfl, ?_⟩) (by first | assumption | trivial) ?_; rotate_left
                  · (intro w hSw; (try dsimp only at hSw); first | (go_simp; done) | (go_simp; with_reducible rfl))
                  (try simp only [Act.put, List.setIfInBounds_toArray, List.set_cons_zero, List.set_cons_succ])
                  have cc := HCQ.out wr.drew HB3.out.1.drew
                  refine wpAnyH_ready (rs := [14]) (by kernel_rfl) (by simp) (AllReadyH.cons rfl (fun K hK => ?_) AllReadyH.nil)
                  go_simp
                  refine cc.mono ?_
                  rintro ev w5 ⟨rfl, h3, h4, h5⟩
                  have HE5 : Hid (∃ L', LR w5 g n L' ∧ Up w.heap.size w w5 ∧ Sk F c n e L' A) := ⟨_, h3, HB3.out.2.1.drew.grown h4 (fun k e => by rw [← Option.some.inj e]; exact HG.out), HST.out⟩
                  have hS5 := HSQ.out w5 (fun b hb hne => h4.block b hb (fun e => hne (Option.some.inj e)))
                  clear cc h3 h4 h5
                  refine hK.out _ _ hS5 (fun hHeld => ?_)
                  clear hK K hHeld
                  (try simp only [Act.put, List.setIfInBounds_toArray, List.set_cons_zero, List.set_cons_succ])
                  refine takeH (i := 15) (v := ?_) (d := (some 7)) rfl (by kernel_rfl) (by kernel_rfl) (by kernel_rfl) rfl (fun _ _ _ h => h) (Or.inl ⟨by kernel_rfl, ?_⟩) (by first | assumption | trivial) ?_; rotate_left
                  · (intro w hSw; (try dsimp only at hSw); first | (go_simp; done) | (go_simp; with_reducible rfl))
                  (try simp only [Act.put, List.setIfInBounds_toArray, List.set_cons_zero, List.set_cons_succ])
                  refine wpAnyH_done (by kernel_rfl) ?_ _
                  go_wp2
                  go_roundg (n - e)
                  case measure => have := HLE.out; omega
                  case rel => exact ⟨e, rfl, HLE.out.2, rfl, HE5.out⟩
                | false =>
                  rw [hr] at co hfq
                  rw [if_neg Bool.false_ne_true] at hfq
                  obtain ⟨k1, hk1⟩ : ∃ k1, k + 1 = k1 := ⟨_, rfl⟩
                  rw [hk1] at hfq
                  have HF : Hid (fq F.qs c i = fq (F.qs.drop k1) c i) := hfq
                  have ze : IntKind.i64.wrap ((k : Int) + 1) = (k1 : Int) := by rw [Go.IntWalk.i64_in _ (by omega)]; omega
                  have hk1m : k1 ≤ m ∧ k < k1 := by omega
                  obtain ⟨M, hM⟩ : ∃ M, strOfNums q.mark = M := ⟨_, rfl⟩
                  rw [hM] at co y0
                  clear hfq hdr hq' hM hr hgq hgr hmem HX hk1 hmz
                  go_wp2_with fail
                  refine co.mono ?_
                  rintro ev w4 ⟨rfl, hw⟩
                  subst w4
                  clear co
                  go_wp2
                  go_roundg (m - k1)
                  case measure => omega
                  case rel => exact ⟨k1, rfl, hk1m.1, rfl, rfl, HF.out⟩
              · have x1 : ¬ (k : Int) < (m : Int) := by omega
                have x4 : ((k : Int) == (m : Int)) = true := by simp; omega
                have hfq := HX.out
                rw [List.drop_eq_nil_of_le (by rw [HM.out]; omega)] at hfq
                have hnx := HNX.out
                rw [hfq] at hnx
                obtain ⟨e, he⟩ : ∃ e, i + 1 = e := ⟨_, rfl⟩
                have hnx2 : nx F c n i = (e, fun _ => 4) := by rw [hnx, ← he]; rfl
                have ze : IntKind.i64.wrap ((i : Int) + 1) = (e : Int) := by rw [Go.IntWalk.i64_in _ (by omega)]; omega
                have HE5 : Hid (∃ L', LR wr g n L' ∧ Up w.heap.size w wr ∧ Sk F c n e L' A) := by
                  have h1 := HB.out.2.2.step HGD.out HSC.out.2.1 hlt (L' := L) (fun j hj => by
                    rw [hnx2]
                    unfold pt
                    dsimp only
                    by_cases h2 : i ≤ j ∧ j < e
                    · rw [if_pos h2]
                      exact HB.out.2.2.four j h2.1 hj
                    · rw [if_neg h2])
                  rw [hnx2] at h1
                  exact ⟨L, HB3.out.1, HB3.out.2.1, h1⟩
                have HEE : Hid (i + 1 = e ∧ e ≤ n) := ⟨he, by omega⟩
                clear hfq hnx hnx2 he HX
                go_wp2
                go_roundg (n - e)
                case measure => have := HEE.out; omega
                case rel => exact ⟨e, rfl, HEE.out.2, rfl, HE5.out⟩
          · have k7 : (f != 7) = true := by simpa using h7
            have hfo := HO.out h6 h7
            have co := rat_any HSC.out (by omega) i (by omega) ⟨#[47, 42]⟩ [47, 42] (byt_lit _ rfl) (by kernel_rfl) (by decide) (by decide) wr
            clear h6 h7
            cases hoc : oc [47, 42] c i with
            | true =>
              have hop : opB F c i = true := by unfold opB; rw [hfo.1, hoc]; rfl
              have hol : i + 2 ≤ n := oc_len HSC.out.2.1.2 [47, 42] (byt_lit _ rfl) i (by decide) hoc
              have hge := (rm_le (d := 1) HSC.out.2.1 HGD.out (by rw [hfo.1]; decide) (by rw [hfo.2.1]; decide) (i := i + 2) hol).1
              have hnx := nx_op (L := L) (n := n) HNT.out hop (by rw [hfo.1]; exact hge)
              rw [hfo.1] at hnx
              obtain ⟨ns, hns⟩ : ∃ ns, (f == 8) = ns := ⟨_, rfl⟩
              have cb := rblock_any HB.out.1 HSC.out hn HGD.out hfo.1 hfo.2.1 (hfo.2.2.trans hns) (i := i) rfl hol
              have hnx1 : (rm F c n 1 (i + 2)).1 = (nx F c n i).1 := hnx.2.symm
              have hnx2 : pt (setL L 3 (i : Int) ((i + 2 : Nat) : Int)) (rm F c n 1 (i + 2)).2 (i + 2) (rm F c n 1 (i + 2)).1 = pt L (nx F c n i).2 i (nx F c n i).1 := hnx.1.symm
              rw [hnx2, hnx1] at cb
              rw [hoc] at co
              have HST : Hid (∀ L', L' = pt L (nx F c n i).2 i (nx F c n i).1 → Sk F c n (nx F c n i).1 L' A) := fun L' e => HB.out.2.2.step HGD.out HSC.out.2.1 hlt (fun j _ => by rw [e])
              obtain ⟨e, he⟩ : ∃ e, (nx F c n i).1 = e := ⟨_, rfl⟩
              rw [he] at cb HLE HST
              clear hnx hnx1 hnx2 hge hol hop hoc hfo he
              go_wp2_with fail
              refine co.mono ?_
              rintro ev w2 ⟨rfl, hw⟩
              subst w2
              clear co
              go_wp2_with fail
              refine cb.mono ?_
              rintro ev w3 ⟨rfl, h3, h4, h5⟩
              have HE3 : Hid (∃ L', LR w3 g n L' ∧ Up w.heap.size w w3 ∧ Sk F c n e L' A) := ⟨_, h3, HB.out.2.1.grown h4 (fun k e => by rw [← Option.some.inj e]; exact HG.out), HST.out _ rfl⟩
              clear cb h3 h4 h5
              go_wp2
              go_roundg (n - e)
              case measure => have := HLE.out; omega
              case rel => exact ⟨e, rfl, HLE.out.2, rfl, HE3.out⟩
            | false =>
              have HNX : Hid (nx F c n i = tqR c n i (fq F.qs c i)) := nx_tq HNT.out (by unfold opB; rw [hfo.1, hoc]; rfl)
              rw [hoc] at co
              clear hoc hfo
              go_wp2_with fail
              refine co.mono ?_
              rintro ev w2 ⟨rfl, hw⟩
              subst w2
              clear co
              have cq := HQU.out wr
              go_wp2_with fail
              refine cq.mono ?_
              rintro ev w3 ⟨gq, rfl, hgq, hRQ, hbq⟩
              have HB3 : Hid (LR w3 g n L ∧ Up w.heap.size w w3 ∧ RQ w3 gq F.qs) := ⟨HB.out.1.stay hbq, HB.out.2.1.stay hbq, hRQ⟩
              obtain ⟨m, hm⟩ : ∃ m, F.qs.length = m := ⟨_, rfl⟩
              rw [hm]
              have HM : Hid (F.qs.length = m) := hm
              have hm4 : m ≤ 4 := by have := HGD.out.q4; omega
              have HGQ : Hid (gq ≠ g) := by have h1 := HB.out.1.lt; intro e; omega
              clear cq hgq hRQ hbq hm
              go_wp2_with fail
              obtain ⟨wT, rfl⟩ : ∃ wT, wT = wr := ⟨_, rfl⟩
              go_loopg [10] m (fun qq kv wx => ∃ k, qq = m - k ∧ k ≤ m ∧ kv = .int .i64 (k : Nat) ∧ wx = w3 ∧ Hid (fq F.qs c i = fq (F.qs.drop k) c i))
              case atStart => exact ⟨0, by omega, Nat.zero_le _, by go_num, rfl, rfl⟩
              case round =>
                obtain ⟨k, hqq, hk, rfl, rfl, HX⟩ := hrel
                by_cases hkm : k < m
                · obtain ⟨q, hq'⟩ : ∃ q, F.qs[k]? = some q := ⟨F.qs[k]'(by rw [HM.out]; exact hkm), List.getElem?_eq_getElem _⟩
                  have hmem := List.mem_of_getElem? hq'
                  have hgq := HGD.out.qs q hmem
                  have hgr := HGR.out q hmem
                  have hdr : F.qs.drop k = q :: F.qs.drop (k + 1) := by
                    obtain ⟨hk', e⟩ := List.getElem?_eq_some_iff.1 hq'
                    rw [← e]
                    exact List.drop_eq_getElem_cons hk'
                  have hfq := HX.out
                  rw [hdr, fq_cons] at hfq
                  obtain ⟨y0, y1, y2, y3, y4⟩ := HB3.out.2.2 k q hq'
                  have co := rat_any HSC.out (by omega) i (by omega) _ q.mark hgq.byt rfl (by have := hgq.few; omega) hgq.ne wr
                  have x1 : (k : Int) < (m : Int) := by omega
                  have x2 : (0 : Int) ≤ (k : Int) := by omega
                  have x3 : ¬ (k : Int) < 0 := by omega
                  have x4 : ((k : Int) == (m : Int)) = false := by simp; omega
                  have hmz : (strOfNums q.mark).size = q.mark.length := strOfNums_size _
                  cases hr : oc q.mark c i with
                  | true =>
                    rw [hr] at co hfq
                    rw [if_pos rfl] at hfq
                    have hol := oc_len HSC.out.2.1.2 q.mark hgq.byt i hgq.ne hr
                    have hlab := tq_lab hgq HSC.out.2.1 hol HB.out.2.2.four
                    rw [← hfq, ← HNX.out] at hlab
                    have hE : (txR q c n (i + q.mark.length)).1 = (nx F c n i).1 := by
                      rw [HNX.out, hfq]
                      rfl
                    have cqd := fun (w5 : World) (h5 : LR w5 g n L) => rquoted_any h5 HSC.out hn hgr (a := i + q.mark.length) hol
                    have HST : Hid (Sk F c n (nx F c n i).1 (pt L (fun _ => q.inn) (i + q.mark.length) (lnE q c n (i + q.mark.length))) A) := HB.out.2.2.step HGD.out HSC.out.2.1 hlt (fun j hj => hlab j hj)
                    obtain ⟨e, he⟩ : ∃ e, (nx F c n i).1 = e := ⟨_, rfl⟩
                    rw [hE, he] at cqd
                    rw [he] at HST HLE
                    obtain ⟨mz, hmm⟩ : ∃ mz, q.mark.length = mz := ⟨_, rfl⟩
                    obtain ⟨a, ha⟩ : ∃ a, i + mz = a := ⟨_, rfl⟩
                    rw [hmm, ha] at cqd HST
                    obtain ⟨L5, hL5⟩ : ∃ L5, pt L (fun _ => q.inn) a (lnE q c n a) = L5 := ⟨_, rfl⟩
                    rw [hL5] at cqd HST
                    unfold rqv at cqd
                    have ze : IntKind.i64.wrap ((i : Int) + (mz : Int)) = (a : Int) := by rw [Go.IntWalk.i64_in _ (by have := hgq.few; omega)]; omega
                    obtain ⟨M, hM⟩ : ∃ M, strOfNums q.mark = M := ⟨_, rfl⟩
                    obtain ⟨es, hes⟩ : ∃ x, q.esc = x := ⟨_, rfl⟩
                    obtain ⟨db, hdb⟩ : ∃ x, q.dbl = x := ⟨_, rfl⟩
                    obtain ⟨lg, hlg⟩ : ∃ x, q.lng = x := ⟨_, rfl⟩
                    obtain ⟨rw', hrw⟩ : ∃ x, (q.inn == 7) = x := ⟨_, rfl⟩
                    rw [hM] at co y0 hmz
                    rw [hmm] at hmz
                    rw [hM, hes, hdb, hlg, hrw] at cqd
                    rw [hes] at y1
                    rw [hdb] at y2
                    rw [hlg] at y3
                    rw [hrw] at y4
                    have HCQ : Hid (∀ (w5 : World), LR w5 g n L → Calls Try.prog 27 #[.slice (some ⟨g, 0, none⟩) n n, .string s, .int .i64 a, .agg #[.string M, .bool es, .bool db, .bool lg, .bool rw']] w5 (RPq w5 g n L5 e)) := cqd
                    have HSQ : Hid (∀ w5 : World, (∀ b, b < wr.heap.size → b ≠ g → w5.heap[b]? = wr.heap[b]?) → w5.cell? ⟨gq, k * 5, none⟩ = some (.string M) ∧ w5.cell? ⟨gq, k * 5 + 1, none⟩ = some (.bool es) ∧ w5.cell? ⟨gq, k * 5 + 2, none⟩ = some (.bool db) ∧ w5.cell? ⟨gq, k * 5 + 3, none⟩ = some (.bool lg) ∧ w5.cell? ⟨gq, k * 5 + 4, none⟩ = some (.bool rw')) := fun w5 h5 => by
                      have hgl := World.block_lt_of_cell? wr _ y0
                      have e1 : ∀ j, w5.cell? ⟨gq, j, none⟩ = wr.cell? ⟨gq, j, none⟩ := fun j => by simp only [World.cell?, h5 gq hgl HGQ.out]
                      rw [e1, e1, e1, e1, e1]
                      exact ⟨y0, y1, y2, y3, y4⟩
                    clear hfq hol hlab hE he hmm ha hL5 hM hes hdb hlg hrw hgr hgq hmem hdr hq' hr cqd HX
                    go_wp2_with fail
                    refine co.mono ?_
                    rintro ev w4 ⟨rfl, hw⟩
                    subst w4
                    clear co
                    go_wp2_with fail
                    go_upto_region 21 with fail
                    refine wp_region_held_drew (S := fun w' => w'.cell? ⟨gq, k * 5, none⟩ = some (.string M) ∧ w'.cell? ⟨gq, k * 5 + 1, none⟩ = some (.bool es) ∧ w'.cell? ⟨gq, k * 5 + 2, none⟩ = some (.bool db) ∧ w'.cell? ⟨gq, k * 5 + 3, none⟩ = some (.bool lg) ∧ w'.cell? ⟨gq, k * 5 + 4, none⟩ = some (.bool rw')) (by kernel_rfl) ⟨y0, y1, y2, y3, y4⟩ (fun hHeld => ?_)
                    clear hHeld
                    refine takeH (i := 0) (v := ?_) (d := (some 96)) rfl (by kernel_rfl) (by kernel_rfl) (by kernel_rfl) rfl (fun _ _ _ h => h) (Or.inl ⟨by kernel_rfl, ?_⟩) (by first | assumption | trivial) ?_; rotate_left
                    · (intro w hSw; (try dsimp only at hSw); first | (go_simp; done) | (go_simp; with_reducible rfl))
                    (try simp only [Act.put, List.setIfInBounds_toArray, List.set_cons_zero, List.set_cons_succ])
                    refine takeH (i := 1) (v := ?_) (d := (some 97)) rfl (by kernel_rfl) (by kernel_rfl) (by kernel_rfl) rfl (fun _ _ _ h => h) (Or.inl ⟨by kernel_rfl, ?_⟩) (by first | assumption | trivial) ?_; rotate_left
                    · (intro w hSw; (try dsimp only at hSw); first | (go_simp; done) | (go_simp; with_reducible rfl))
                    (try simp only [Act.put, List.setIfInBounds_toArray, List.set_cons_zero, List.set_cons_succ])
                    refine takeH (i := 2) (v := ?_) (d := (some 98)) rfl (by kernel_rfl) (by kernel_rfl) (by kernel_rfl) rfl (fun _ _ _ h => h) (Or.inl ⟨by kernel_rfl, ?_⟩) (by first | assumption | trivial) ?_; rotate_left
                    · (intro w hSw; (try dsimp only at hSw); first | (go_simp; done) | (go_simp; with_reducible rfl))
                    (try simp only [Act.put, List.setIfInBounds_toArray, List.set_cons_zero, List.set_cons_succ])
                    refine takeH (i := 3) (v := ?_) (d := (some 99)) rfl (by kernel_rfl) (by kernel_rfl) (by kernel_rfl) rfl (fun _ _ _ h => h) (Or.inl ⟨by kernel_rfl, ?_⟩) (by first | assumption | trivial) ?_; rotate_left
                    · (intro w hSw; (try dsimp only at hSw); first | (go_simp; done) | (go_simp; with_reducible rfl))
                    (try simp only [Act.put, List.setIfInBounds_toArray, List.set_cons_zero, List.set_cons_succ])
                    refine takeH (i := 4) (v := ?_) (d := (some 100)) rfl (by kernel_rfl) (by kernel_rfl) (by kernel_rfl) rfl (fun _ _ _ h => h) (Or.inl ⟨by kernel_rfl, ?_⟩) (by first | assumption | trivial) ?_; rotate_left
                    · (intro w hSw; (try dsimp only at hSw); first | (go_simp; done) | (go_simp; with_reducible rfl))
                    (try simp only [Act.put, List.setIfInBounds_toArray, List.set_cons_zero, List.set_cons_succ])
                    refine takeH (i := 5) (v := ?_) (d := (some 101)) rfl (by kernel_rfl) (by kernel_rfl) (by kernel_rfl) rfl (fun _ _ _ h => h) (Or.inl ⟨by kernel_rfl, ?_⟩) (by first | assumption | trivial) ?_; rotate_left
                    · (intro w hSw; (try dsimp only at hSw); first | (go_simp; done) | (go_simp; with_reducible rfl))
                    (try simp only [Act.put, List.setIfInBounds_toArray, List.set_cons_zero, List.set_cons_succ])
                    refine takeH (i := 6) (v := ?_) (d := (some 102)) rfl (by kernel_rfl) (by kernel_rfl) (by kernel_rfl) rfl (fun _ _ _ h => h) (Or.inl ⟨by kernel_rfl, ?_⟩) (by first | assumption | trivial) ?_; rotate_left
                    · (intro w hSw; (try dsimp only at hSw); first | (go_simp; done) | (go_simp; with_reducible rfl))
                    (try simp only [Act.put, List.setIfInBounds_toArray, List.set_cons_zero, List.set_cons_succ])
                    refine takeH (i := 7) (v := ?_) (d := (some 103)) rfl (by kernel_rfl) (by kernel_rfl) (by kernel_rfl) rfl (fun _ _ _ h => h) (Or.inl ⟨by kernel_rfl, ?_⟩) (by first | assumption | trivial) ?_; rotate_left
                    · (intro w hSw; (try dsimp only at hSw); first | (go_simp; done) | (go_simp; with_reducible rfl))
                    (try simp only [Act.put, List.setIfInBounds_toArray, List.set_cons_zero, List.set_cons_succ])
                    refine takeH (i := 8) (v := ?_) (d := (some 104)) rfl (by kernel_rfl) (by kernel_rfl) (by kernel_rfl) rfl (fun _ _ _ h => h) (Or.inl ⟨by kernel_rfl, ?_⟩) (by first | assumption | trivial) ?_; rotate_left
                    · (intro w hSw; (try dsimp only at hSw); first | (go_simp; done) | (go_simp; with_reducible rfl))
                    (try simp only [Act.put, List.setIfInBounds_toArray, List.set_cons_zero, List.set_cons_succ])
                    refine takeH (i := 9) (v := ?_) (d := (some 105)) rfl (by kernel_rfl) (by kernel_rfl) (by kernel_rfl) rfl (fun _ _ _ h => h) (Or.inl ⟨by kernel_rfl, ?_⟩) (by first | assumption | trivial) ?_; rotate_left
                    · (intro w hSw; (try dsimp only at hSw); first | (go_simp; done) | (go_simp; with_reducible rfl))
                    (try simp only [Act.put, List.setIfInBounds_toArray, List.set_cons_zero, List.set_cons_succ])
                    refine takeH (i := 10) (v := ?_) (d := (some 106)) rfl (by kernel_rfl) (by kernel_rfl) (by kernel_rfl) rfl (fun _ _ _ h => h) (Or.inl ⟨by kernel_rfl, ?_⟩) (by first | assumption | trivial) ?_; rotate_left
                    · (intro w hSw; (try dsimp only at hSw); first | (go_simp; done) | (go_simp; with_reducible rfl))
                    (try simp only [Act.put, List.setIfInBounds_toArray, List.set_cons_zero, List.set_cons_succ])
                    refine takeH (i := 11) (v := ?_) (d := (some 107)) rfl (by kernel_rfl) (by kernel_rfl) (by kernel_rfl) rfl (fun _ _ _ h => h) (Or.inl ⟨by kernel_rfl, ?_⟩) (by first | assumption | trivial) ?_; rotate_left
                    · (intro w hSw; (try dsimp only at hSw); first | (go_simp; done) | (go_simp; with_reducible rfl))
                    (try simp only [Act.put, List.setIfInBounds_toArray, List.set_cons_zero, List.set_cons_succ])
                    refine takeH (i := 12) (v := ?_) (d := (some 108)) rfl (by kernel_rfl) (by kernel_rfl) (by kernel_rfl) rfl (fun _ _ _ h => h) (Or.inl ⟨by kernel_rfl, ?_⟩) (by first | assumption | trivial) ?_; rotate_left
                    · (intro w hSw; (try dsimp only at hSw); first | (go_simp; done) | (go_simp; with_reducible rfl))
                    (try simp only [Act.put, List.setIfInBounds_toArray, List.set_cons_zero, List.set_cons_succ])
                    refine takeH (i := 13) (v := ?_) (d := (some 109)) rfl (by kernel_rfl) (by kernel_rfl) (by kernel_rfl) rfl (fun _ _ _ h => h) (Or.inl ⟨by kernel_rfl, ?_⟩) (by first | assumption | trivial) ?_; rotate_left
                    · (intro w hSw; (try dsimp only at hSw); first | (go_simp; done) | (go_simp; with_reducible rfl))
                    (try simp only [Act.put, List.setIfInBounds_toArray, List.set_cons_zero, List.set_cons_succ])
                    have cc := HCQ.out wr.drew HB3.out.1.drew
                    refine wpAnyH_ready (rs := [14]) (by kernel_rfl) (by simp) (AllReadyH.cons rfl (fun K hK => ?_) AllReadyH.nil)
                    go_simp
                    refine cc.mono ?_
                    rintro ev w5 ⟨rfl, h3, h4, h5⟩
                    have HE5 : Hid (∃ L', LR w5 g n L' ∧ Up w.heap.size w w5 ∧ Sk F c n e L' A) := ⟨_, h3, HB3.out.2.1.drew.grown h4 (fun k e => by rw [← Option.some.inj e]; exact HG.out), HST.out⟩
                    have hS5 := HSQ.out w5 (fun b hb hne => h4.block b hb (fun e => hne (Option.some.inj e)))
                    clear cc h3 h4 h5
                    refine hK.out _ _ hS5 (fun hHeld => ?_)
                    clear hK K hHeld
                    (try simp only [Act.put, List.setIfInBounds_toArray, List.set_cons_zero, List.set_cons_succ])
                    refine takeH (i := 15) (v := ?_) (d := (some 7)) rfl (by kernel_rfl) (by kernel_rfl) (by kernel_rfl) rfl (fun _ _ _ h => h) (Or.inl ⟨by kernel_rfl, ?_⟩) (by first | assumption | trivial) ?_; rotate_left
                    · (intro w hSw; (try dsimp only at hSw); first | (go_simp; done) | (go_simp; with_reducible rfl))
                    (try simp only [Act.put, List.setIfInBounds_toArray, List.set_cons_zero, List.set_cons_succ])
                    refine wpAnyH_done (by kernel_rfl) ?_ _
                    go_wp2
                    go_roundg (n - e)
                    case measure => have := HLE.out; omega
                    case rel => exact ⟨e, rfl, HLE.out.2, rfl, HE5.out⟩
                  | false =>
                    rw [hr] at co hfq
                    rw [if_neg Bool.false_ne_true] at hfq
                    obtain ⟨k1, hk1⟩ : ∃ k1, k + 1 = k1 := ⟨_, rfl⟩
                    rw [hk1] at hfq
                    have HF : Hid (fq F.qs c i = fq (F.qs.drop k1) c i) := hfq
                    have ze : IntKind.i64.wrap ((k : Int) + 1) = (k1 : Int) := by rw [Go.IntWalk.i64_in _ (by omega)]; omega
                    have hk1m : k1 ≤ m ∧ k < k1 := by omega
                    obtain ⟨M, hM⟩ : ∃ M, strOfNums q.mark = M := ⟨_, rfl⟩
                    rw [hM] at co y0
                    clear hfq hdr hq' hM hr hgq hgr hmem HX hk1 hmz
                    go_wp2_with fail
                    refine co.mono ?_
                    rintro ev w4 ⟨rfl, hw⟩
                    subst w4
                    clear co
                    go_wp2
                    go_roundg (m - k1)
                    case measure => omega
                    case rel => exact ⟨k1, rfl, hk1m.1, rfl, rfl, HF.out⟩
                · have x1 : ¬ (k : Int) < (m : Int) := by omega
                  have x4 : ((k : Int) == (m : Int)) = true := by simp; omega
                  have hfq := HX.out
                  rw [List.drop_eq_nil_of_le (by rw [HM.out]; omega)] at hfq
                  have hnx := HNX.out
                  rw [hfq] at hnx
                  obtain ⟨e, he⟩ : ∃ e, i + 1 = e := ⟨_, rfl⟩
                  have hnx2 : nx F c n i = (e, fun _ => 4) := by rw [hnx, ← he]; rfl
                  have ze : IntKind.i64.wrap ((i : Int) + 1) = (e : Int) := by rw [Go.IntWalk.i64_in _ (by omega)]; omega
                  have HE5 : Hid (∃ L', LR wr g n L' ∧ Up w.heap.size w wr ∧ Sk F c n e L' A) := by
                    have h1 := HB.out.2.2.step HGD.out HSC.out.2.1 hlt (L' := L) (fun j hj => by
                      rw [hnx2]
                      unfold pt
                      dsimp only
                      by_cases h2 : i ≤ j ∧ j < e
                      · rw [if_pos h2]
                        exact HB.out.2.2.four j h2.1 hj
                      · rw [if_neg h2])
                    rw [hnx2] at h1
                    exact ⟨L, HB3.out.1, HB3.out.2.1, h1⟩
                  have HEE : Hid (i + 1 = e ∧ e ≤ n) := ⟨he, by omega⟩
                  clear hfq hnx hnx2 he HX
                  go_wp2
                  go_roundg (n - e)
                  case measure => have := HEE.out; omega
                  case rel => exact ⟨e, rfl, HEE.out.2, rfl, HE5.out⟩
    · have z1 : ¬ (i : Int) < (n : Int) := by omega
      have HF : Hid (SsP F c n w (.returned (.tuple #[.slice (some ⟨g, 0, none⟩) n n, .bool true])) wr) := ⟨g, rfl, HG.out, HB.out.1.congr fun j hj => by
        have h1 := HB.out.2.2.all j hj
        rw [pt_none _ _ (by omega)] at h1
        rw [h1]
        exact HA.out.2 j hj, HB.out.2.1⟩
      go_wp2
      rw [← HQ.out]
      exact HF.out
end Go.Proofs.Ytgebmmbnpdhooaa
