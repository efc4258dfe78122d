/- src: whatever there is. -/
import Derived.Test.YtgebmmbnpdhooaasTxt
namespace Go.Proofs.Ytgebmmbnpdhooaa
set_option linter.unusedVariables false
open Go.RowKit Go.ChangeShapes
section
variable {w0 w : World} {S b off n cap B T gs gq i : Nat} {F : Fm} {c L : Nat → Int}
theorem nx_nt (h : ntB F c i = true) (hE : i + F.line.length ≤ fs (oc [10] c) n (i + F.line.length)) : pt L (nx F c n i).2 i (nx F c n i).1 = setL (setL L 3 (i : Int) ((i + F.line.length : Nat) : Int)) 1 ((i + F.line.length : Nat) : Int) ((fs (oc [10] c) n (i + F.line.length) : Nat) : Int) ∧ (nx F c n i).1 = fs (oc [10] c) n (i + F.line.length) := by
  unfold nx
  rw [if_pos h]
  refine ⟨?_, rfl⟩
  rw [pt_ahd _ _ _ (by omega) hE, pt_one]
theorem nx_op (h : ntB F c i = false) (h1 : opB F c i = true) (hE : i + F.opn.length ≤ (rm F c n 1 (i + F.opn.length)).1) : pt L (nx F c n i).2 i (nx F c n i).1 = pt (setL L 3 (i : Int) ((i + F.opn.length : Nat) : Int)) (rm F c n 1 (i + F.opn.length)).2 (i + F.opn.length) (rm F c n 1 (i + F.opn.length)).1 ∧ (nx F c n i).1 = (rm F c n 1 (i + F.opn.length)).1 := by
  unfold nx
  rw [if_neg (by rw [h]; exact Bool.false_ne_true), if_pos h1]
  refine ⟨?_, rfl⟩
  rw [pt_ahd _ _ _ (by omega) hE]
theorem nx_tq (h : ntB F c i = false) (h1 : opB F c i = false) : nx F c n i = tqR c n i (fq F.qs c i) := by
  unfold nx
  rw [if_neg (by rw [h]; exact Bool.false_ne_true), if_neg (by rw [h1]; exact Bool.false_ne_true)]
theorem tq_some {q : Qt} (hE : i + q.mark.length ≤ (txR q c n (i + q.mark.length)).1) : pt L (tqR c n i (some q)).2 i (tqR c n i (some q)).1 = pt (setL L 4 (i : Int) ((i + q.mark.length : Nat) : Int)) (txR q c n (i + q.mark.length)).2 (i + q.mark.length) (txR q c n (i + q.mark.length)).1 ∧ (tqR c n i (some q)).1 = (txR q c n (i + q.mark.length)).1 := by
  refine ⟨?_, rfl⟩
  show pt L (ahd 4 (i + q.mark.length) (txR q c n (i + q.mark.length))).2 i (ahd 4 (i + q.mark.length) (txR q c n (i + q.mark.length))).1 = _
  rw [pt_ahd _ _ _ (by omega) hE]
/-- The strings' marks, one behind the other. -/
theorem fq_cons (q : Qt) (l : List Qt) (c : Nat → Int) (i : Nat) : fq (q :: l) c i = if oc q.mark c i = true then some q else fq l c i := by
  unfold fq
  rw [List.find?_cons]
  cases oc q.mark c i <;> rfl
/-- What it leaves. -/
def TP (w0 : World) (S b off n cap B T gs gq : Nat) (F : Fm) (c L : Nat → Int) (i : Nat) : Ending → World → Prop := SP w0 S b off n cap B T gs gq F c (pt L (nx F c n i).2 i (nx F c n i).1) (nx F c n i).1
/-- From the strings on. -/
def TqP (w0 : World) (S b off n cap B T gs gq : Nat) (F : Fm) (c L : Nat → Int) (i : Nat) : Ending → World → Prop := SP w0 S b off n cap B T gs gq F c (pt L (tqR c n i (fq F.qs c i)).2 i (tqR c n i (fq F.qs c i)).1) (tqR c n i (fq F.qs c i)).1
/-- The strings' marks empty or not. -/
theorem str_ne {t : List Int} (ht : Byt t) (h : t ≠ []) : ((strOfNums t).toList == []) = false := by
  have := nums_beq ht (t := []) (fun x hx => by cases hx)
  have e : (strOfNums []).toList = [] := by kernel_rfl
  rw [e] at this
  rw [this]
  cases t with
  | nil => exact absurd rfl h
  | cons a l => rfl
set_option maxRecDepth 100000 in
set_option maxHeartbeats 16000000 in
theorem thing_any (hs : Sta S b n cap B T gs gq F c) (h : En w0 S w b off n cap B T gs gq F c L i) (hlt : i < n) :
    Calls Try.prog 20 #[.pointer (some ⟨B, 0, none⟩)] w (TP w0 S b off n cap B T gs gq F c L i) := by
  have hi : i ≤ n := by omega
  obtain ⟨Q, hQ⟩ : ∃ Q, TP w0 S b off n cap B T gs gq F c L i = Q := ⟨_, rfl⟩
  rw [hQ]
  have HQ : Hid (TP w0 S b off n cap B T gs gq F c L i = Q) := hQ
  have HS : Hid (Sta S b n cap B T gs gq F c) := hs
  have HL : Hid (F.line ≠ []) := by have := hs.gd.l1; intro e; rw [e] at this; exact absurd this (by decide)
  have cb := begins_any hs h hi F.line hs.gd.lb HL.out
  obtain ⟨x0, x1, x2, x3, x4, x5, x6, x7, x8⟩ := h.cells
  have HE0 : Hid (En w0 S w b off n cap B T gs gq F c L i) := h
  obtain ⟨Ml, hMl⟩ : ∃ M, strOfNums F.line = M := ⟨_, rfl⟩
  rw [hMl] at cb x0
  clear hQ hMl hs h x1 x2 x3 x4 x5 x6 x7 x8
  have HREST : Hid (∀ (w1 : World), En w0 S w1 b off n cap B T gs gq F c L i → ntB F c i = false → True) := fun _ _ _ => trivial
  clear HREST
  cases hol : oc F.line c i with
  | true =>
    rw [hol] at cb
    cases hfr : frB F c i with
    | true =>
      have hnt : ntB F c i = true := by unfold ntB; rw [hol, hfr]; rfl
      have hl := oc_len HS.out.ch.2 F.line HS.out.gd.lb i HL.out hol
      have hge := fs_ge (oc [10] c) n (i + F.line.length)
      have hnx := nx_nt (L := L) hnt hge
      have HC : Hid (∀ w3, En w0 S w3 b off n cap B T gs gq F c L i → Calls Try.prog 32 #[.pointer (some ⟨B, 0, none⟩)] w3 (TP w0 S b off n cap B T gs gq F c L i)) := fun w3 h3 => by
        have := lineRemark_any HS.out h3 rfl hl rfl
        unfold TP
        rw [hnx.1, hnx.2]
        exact this
      clear hnt hl hge hnx hol
      go_enter Try.func20, Try.ntmps20
      go_wp2_with fail
      refine cb.mono ?_
      rintro ev w1 ⟨rfl, hb1⟩
      have hE1 := HE0.out.stay hb1
      have HE1 : Hid (En w0 S w1 b off n cap B T gs gq F c L i) := hE1
      have cf := free_any HS.out hE1 hi
      rw [hfr] at cf
      clear cb hb1 hE1 x0
      go_wp2_with fail
      refine cf.mono ?_
      rintro ev w2 ⟨rfl, hb2⟩
      have cc := HC.out w2 (HE1.out.stay hb2)
      clear cf hb2
      go_wp2_with fail
      refine cc.mono ?_
      intro ev w4 h4
      have h4' := h4.1
      subst h4'
      go_wp2
      refine bodyPost_ret (v := .tuple #[]) (by simp [results, Try.results20, go_sem]) rfl ?_
      rw [← HQ.out]
      exact h4
    | false =>
      have hnt : ntB F c i = false := by unfold ntB; rw [hol, hfr]; rfl
      clear hol
      go_enter Try.func20, Try.ntmps20
      go_wp2_with fail
      refine cb.mono ?_
      rintro ev w1 ⟨rfl, hb1⟩
      have hE1 := HE0.out.stay hb1
      have HE1 : Hid (En w0 S w1 b off n cap B T gs gq F c L i) := hE1
      have cf := free_any HS.out hE1 hi
      rw [hfr] at cf
      clear cb hb1 hE1 x0
      go_wp2_with fail
      refine cf.mono ?_
      rintro ev w2 ⟨rfl, hb2⟩
      have HEN : Hid (En w0 S w2 b off n cap B T gs gq F c L i) := HE1.out.stay hb2
      clear cf hb2 hfr
      obtain ⟨x0, x1, x2, x3, x4, x5, x6, x7, x8⟩ := HEN.out.cells
      clear x0 x1 x3 x4 x5 x6 x7 x8 HE0
      by_cases hon : F.opn = []
      · have hop : opB F c i = false := by unfold opB; rw [hon]; rfl
        have HNX : Hid (nx F c n i = tqR c n i (fq F.qs c i)) := nx_tq hnt hop
        have e0 : strOfNums ([] : List Int) = ⟨#[]⟩ := by kernel_rfl
        rw [hon, e0] at x2
        have HE : Hid (En w0 S w2 b off n cap B T gs gq F c L i) := HEN.out
        clear hop hnt hon e0 HEN
        go_upto_region 4 with fail
        clear x2
        obtain ⟨x0, x1, x2, x3, x4, x5, x6, x7, x8⟩ := HE.out.cells
        obtain ⟨m, hm⟩ : ∃ m, F.qs.length = m := ⟨_, rfl⟩
        rw [hm] at x5
        have HM : Hid (F.qs.length = m) := hm
        have hm4 : m ≤ 4 := by have := HS.out.gd.q4; omega
        clear hm x0 x1 x2 x3 x4 x6 x7 x8
        go_wp2_with fail
        clear x5
        go_loopg [40] m (fun qq tv wr => ∃ k : Nat, qq = m - k ∧ k ≤ m ∧ tv = .int .i64 k ∧ Hid (En w0 S wr b off n cap B T gs gq F c L i ∧ fq F.qs c i = fq (F.qs.drop k) c i))
        case atStart => exact ⟨0, by omega, by omega, by go_num, ⟨HE.out, rfl⟩⟩
        case round =>
          obtain ⟨k, hqq, hk, rfl, HX⟩ := hrel
          have HE2 : Hid (En w0 S wr b off n cap B T gs gq F c L i) := HX.out.1
          by_cases hkm : k < m
          · obtain ⟨q, hq⟩ : ∃ q, F.qs[k]? = some q := ⟨F.qs[k]'(by rw [HM.out]; exact hkm), List.getElem?_eq_getElem _⟩
            have hgq := HS.out.gd.qs q (List.mem_of_getElem? hq)
            have hdr : F.qs.drop k = q :: F.qs.drop (k + 1) := by
              obtain ⟨hk', e⟩ := List.getElem?_eq_some_iff.1 hq
              rw [← e]
              exact List.drop_eq_getElem_cons hk'
            have hfq := HX.out.2
            rw [hdr, fq_cons] at hfq
            obtain ⟨y0, y1, y2, y3, y4⟩ := HE2.out.qr k q hq
            obtain ⟨V, hV⟩ : ∃ V, wr.alloc (.cells #[.string (strOfNums q.mark), .int .u8 q.inn, .bool q.esc, .bool q.dbl, .bool q.lng] 72) = V := ⟨_, rfl⟩
            have hbV : Below wr.heap.size wr V := by rw [← hV]; exact below_alloc wr _
            have hEV := HE2.out.stay hbV
            have HEV : Hid (En w0 S V b off n cap B T gs gq F c L i) := hEV
            have cb := begins_any HS.out hEV hi q.mark hgq.byt hgq.ne
            obtain ⟨BX, hBX⟩ : ∃ BX, wr.heap.size = BX := ⟨_, rfl⟩
            have hqb : QB BX (strOfNums q.mark) q.inn q.esc q.dbl q.lng V := by rw [← hBX]; exact qcells hV
            have HQB : Hid (QB BX (strOfNums q.mark) q.inn q.esc q.dbl q.lng V) := hqb
            obtain ⟨v0, v1, v2, v3, v4⟩ := hqb
            have z1 : (k : Int) < (m : Int) := by omega
            have z2 : (0 : Int) ≤ (k : Int) := by omega
            have z3 : ¬ (k : Int) < 0 := by omega
            have HGQ : Hid (GdQ q) := hgq
            cases hr : oc q.mark c i with
            | true =>
              rw [hr] at cb hfq
              rw [if_pos rfl] at hfq
              have hol := oc_len HS.out.ch.2 q.mark hgq.byt i hgq.ne hr
              have h5 := txR_le hgq HS.out.ch (a := i + q.mark.length) hol
              have h6 := lnE_le hgq c (n := n) (k := i + q.mark.length) hol
              have htq := tq_some (L := L) (q := q) (c := c) (n := n) (i := i) (by omega)
              rw [← hfq, ← HNX.out] at htq
              have HF : Hid (pt L (nx F c n i).2 i (nx F c n i).1 = pt (setL L 4 (i : Int) ((i + q.mark.length : Nat) : Int)) (txR q c n (i + q.mark.length)).2 (i + q.mark.length) (txR q c n (i + q.mark.length)).1 ∧ (nx F c n i).1 = (txR q c n (i + q.mark.length)).1) := htq
              have HT : Hid (∀ w3, En w0 S w3 b off n cap B T gs gq F c L i → Calls Try.prog 34 #[.pointer (some ⟨B, 0, none⟩), .agg #[.string (strOfNums q.mark), .int .u8 q.inn, .bool q.esc, .bool q.dbl, .bool q.lng]] w3 (TP w0 S b off n cap B T gs gq F c L i)) := fun w3 h3 => by
                have := text_any HS.out h3 hgq rfl hol
                unfold TP
                rw [htq.1, htq.2]
                exact this
              obtain ⟨M, hM⟩ : ∃ M, strOfNums q.mark = M := ⟨_, rfl⟩
              obtain ⟨inn, hin⟩ : ∃ x, q.inn = x := ⟨_, rfl⟩
              obtain ⟨esc, hes⟩ : ∃ x, q.esc = x := ⟨_, rfl⟩
              obtain ⟨dbl, hdb⟩ : ∃ x, q.dbl = x := ⟨_, rfl⟩
              obtain ⟨lng, hln⟩ : ∃ x, q.lng = x := ⟨_, rfl⟩
              rw [hM] at cb y0 v0
              rw [hin] at y1 v1
              rw [hes] at y2 v2
              rw [hdb] at y3 v3
              rw [hln] at y4 v4
              rw [hM, hin, hes, hdb, hln] at HQB HT hV
              clear hfq hol h5 h6 htq hdr hq hM hin hes hdb hln hr hgq hEV hbV HX HF
              go_wp2_with fail
              refine cb.mono ?_
              rintro ev w3 ⟨rfl, hb3⟩
              have ctx := HT.out w3 (HEV.out.stay hb3)
              obtain ⟨u0, u1, u2, u3, u4⟩ := HQB.out.stay hb3
              clear cb hb3 v0 v1 v2 v3 v4 y0 y1 y2 y3 y4 hV
              go_wp2_with fail
              refine ctx.mono ?_
              intro ev w4 h4
              have h4' := h4.1
              subst h4'
              go_wp2
              refine bodyPost_ret (v := .tuple #[]) (by simp [results, Try.results20, go_sem]) rfl ?_
              rw [← HQ.out]
              exact h4
            | false =>
              rw [hr] at cb hfq
              rw [if_neg Bool.false_ne_true] at hfq
              have HF : Hid (fq F.qs c i = fq (F.qs.drop (k + 1)) c i) := hfq
              obtain ⟨M, hM⟩ : ∃ M, strOfNums q.mark = M := ⟨_, rfl⟩
              obtain ⟨inn, hin⟩ : ∃ x, q.inn = x := ⟨_, rfl⟩
              obtain ⟨esc, hes⟩ : ∃ x, q.esc = x := ⟨_, rfl⟩
              obtain ⟨dbl, hdb⟩ : ∃ x, q.dbl = x := ⟨_, rfl⟩
              obtain ⟨lng, hln⟩ : ∃ x, q.lng = x := ⟨_, rfl⟩
              rw [hM] at cb y0 v0
              rw [hin] at y1 v1
              rw [hes] at y2 v2
              rw [hdb] at y3 v3
              rw [hln] at y4 v4
              rw [hM, hin, hes, hdb, hln] at HQB hV
              clear hfq hdr hq hM hin hes hdb hln hr hgq hEV hbV HX
              go_wp2_with fail
              refine cb.mono ?_
              rintro ev w3 ⟨rfl, hb3⟩
              have HE3 : Hid (En w0 S w3 b off n cap B T gs gq F c L i) := HEV.out.stay hb3
              clear cb hb3 v0 v1 v2 v3 v4 y0 y1 y2 y3 y4 hV
              go_wp2
              go_roundg (m - (k + 1))
              case measure => omega
              case rel => exact ⟨k + 1, rfl, by omega, by go_num, ⟨HE3.out, HF.out⟩⟩
          · have hkk : k = m := by omega
            have hfq := HX.out.2
            rw [List.drop_eq_nil_of_le (by rw [HM.out]; omega)] at hfq
            have hnx := HNX.out
            rw [hfq] at hnx
            have z1 : ¬ (k : Int) < (m : Int) := by omega
            have c9 := flay_any HS.out HE2.out 4 1 (i + 1) rfl (by have := HS.out.n6; omega)
            have HF : Hid (nx F c n i = (i + 1, fun _ => 4)) := hnx
            clear hfq hnx hkk HX
            go_wp2_with fail
            refine c9.mono ?_
            rintro ev w3 ⟨rfl, h3⟩
            go_wp2
            go_end0
            rw [← HQ.out]
            unfold TP
            rw [HF.out]
            refine ⟨rfl, ?_⟩
            dsimp only
            rw [pt_one]
            exact h3
      · have hne := str_ne HS.out.gd.ob hon
        have cb2 := begins_any HS.out HEN.out hi F.opn HS.out.gd.ob hon
        have h1 := HS.out.gd.os hon
        obtain ⟨Mo, hMo⟩ : ∃ M, strOfNums F.opn = M := ⟨_, rfl⟩
        rw [hMo] at cb2 x2 hne
        cases hoo : oc F.opn c i with
        | true =>
          have hop : opB F c i = true := by unfold opB; rw [hoo]; revert hon; cases F.opn <;> simp
          have hl := oc_len HS.out.ch.2 F.opn HS.out.gd.ob i hon hoo
          have hge := (rm_le (d := 1) HS.out.ch HS.out.gd h1.1 h1.2 hl).1
          have hnx := nx_op (L := L) hnt hop hge
          have HC : Hid (∀ w3, En w0 S w3 b off n cap B T gs gq F c L i → Calls Try.prog 33 #[.pointer (some ⟨B, 0, none⟩)] w3 (TP w0 S b off n cap B T gs gq F c L i)) := fun w3 h3 => by
            have := remark_any HS.out h3 rfl hl h1.1 h1.2
            unfold TP
            rw [hnx.1, hnx.2]
            exact this
          rw [hoo] at cb2
          clear hnx hge hl hop hoo h1 hnt hMo hon
          go_wp2_with fail
          refine cb2.mono ?_
          rintro ev w3 ⟨rfl, hb3⟩
          have cc := HC.out w3 (HEN.out.stay hb3)
          clear cb2 hb3 x2
          go_wp2_with fail
          refine cc.mono ?_
          intro ev w4 h4
          have h4' := h4.1
          subst h4'
          go_wp2
          refine bodyPost_ret (v := .tuple #[]) (by simp [results, Try.results20, go_sem]) rfl ?_
          rw [← HQ.out]
          exact h4
        | false =>
          have hop : opB F c i = false := by unfold opB; rw [hoo]; simp
          have HNX : Hid (nx F c n i = tqR c n i (fq F.qs c i)) := nx_tq hnt hop
          rw [hoo] at cb2
          clear hop hoo h1 hnt hMo hon
          go_wp2_with fail
          refine cb2.mono ?_
          rintro ev w3 ⟨rfl, hb3⟩
          have HE : Hid (En w0 S w3 b off n cap B T gs gq F c L i) := HEN.out.stay hb3
          clear cb2 hb3 x2 HEN
          go_upto_region 4 with fail
          obtain ⟨x0, x1, x2, x3, x4, x5, x6, x7, x8⟩ := HE.out.cells
          obtain ⟨m, hm⟩ : ∃ m, F.qs.length = m := ⟨_, rfl⟩
          rw [hm] at x5
          have HM : Hid (F.qs.length = m) := hm
          have hm4 : m ≤ 4 := by have := HS.out.gd.q4; omega
          clear hm x0 x1 x2 x3 x4 x6 x7 x8
          go_wp2_with fail
          clear x5
          go_loopg [40] m (fun qq tv wr => ∃ k : Nat, qq = m - k ∧ k ≤ m ∧ tv = .int .i64 k ∧ Hid (En w0 S wr b off n cap B T gs gq F c L i ∧ fq F.qs c i = fq (F.qs.drop k) c i))
          case atStart => exact ⟨0, by omega, by omega, by go_num, ⟨HE.out, rfl⟩⟩
          case round =>
            obtain ⟨k, hqq, hk, rfl, HX⟩ := hrel
            have HE2 : Hid (En w0 S wr b off n cap B T gs gq F c L i) := HX.out.1
            by_cases hkm : k < m
            · obtain ⟨q, hq⟩ : ∃ q, F.qs[k]? = some q := ⟨F.qs[k]'(by rw [HM.out]; exact hkm), List.getElem?_eq_getElem _⟩
              have hgq := HS.out.gd.qs q (List.mem_of_getElem? hq)
              have hdr : F.qs.drop k = q :: F.qs.drop (k + 1) := by
                obtain ⟨hk', e⟩ := List.getElem?_eq_some_iff.1 hq
                rw [← e]
                exact List.drop_eq_getElem_cons hk'
              have hfq := HX.out.2
              rw [hdr, fq_cons] at hfq
              obtain ⟨y0, y1, y2, y3, y4⟩ := HE2.out.qr k q hq
              obtain ⟨V, hV⟩ : ∃ V, wr.alloc (.cells #[.string (strOfNums q.mark), .int .u8 q.inn, .bool q.esc, .bool q.dbl, .bool q.lng] 72) = V := ⟨_, rfl⟩
              have hbV : Below wr.heap.size wr V := by rw [← hV]; exact below_alloc wr _
              have hEV := HE2.out.stay hbV
              have HEV : Hid (En w0 S V b off n cap B T gs gq F c L i) := hEV
              have cb := begins_any HS.out hEV hi q.mark hgq.byt hgq.ne
              obtain ⟨BX, hBX⟩ : ∃ BX, wr.heap.size = BX := ⟨_, rfl⟩
              have hqb : QB BX (strOfNums q.mark) q.inn q.esc q.dbl q.lng V := by rw [← hBX]; exact qcells hV
              have HQB : Hid (QB BX (strOfNums q.mark) q.inn q.esc q.dbl q.lng V) := hqb
              obtain ⟨v0, v1, v2, v3, v4⟩ := hqb
              have z1 : (k : Int) < (m : Int) := by omega
              have z2 : (0 : Int) ≤ (k : Int) := by omega
              have z3 : ¬ (k : Int) < 0 := by omega
              have HGQ : Hid (GdQ q) := hgq
              cases hr : oc q.mark c i with
              | true =>
                rw [hr] at cb hfq
                rw [if_pos rfl] at hfq
                have hol := oc_len HS.out.ch.2 q.mark hgq.byt i hgq.ne hr
                have h5 := txR_le hgq HS.out.ch (a := i + q.mark.length) hol
                have h6 := lnE_le hgq c (n := n) (k := i + q.mark.length) hol
                have htq := tq_some (L := L) (q := q) (c := c) (n := n) (i := i) (by omega)
                rw [← hfq, ← HNX.out] at htq
                have HF : Hid (pt L (nx F c n i).2 i (nx F c n i).1 = pt (setL L 4 (i : Int) ((i + q.mark.length : Nat) : Int)) (txR q c n (i + q.mark.length)).2 (i + q.mark.length) (txR q c n (i + q.mark.length)).1 ∧ (nx F c n i).1 = (txR q c n (i + q.mark.length)).1) := htq
                have HT : Hid (∀ w3, En w0 S w3 b off n cap B T gs gq F c L i → Calls Try.prog 34 #[.pointer (some ⟨B, 0, none⟩), .agg #[.string (strOfNums q.mark), .int .u8 q.inn, .bool q.esc, .bool q.dbl, .bool q.lng]] w3 (TP w0 S b off n cap B T gs gq F c L i)) := fun w3 h3 => by
                  have := text_any HS.out h3 hgq rfl hol
                  unfold TP
                  rw [htq.1, htq.2]
                  exact this
                obtain ⟨M, hM⟩ : ∃ M, strOfNums q.mark = M := ⟨_, rfl⟩
                obtain ⟨inn, hin⟩ : ∃ x, q.inn = x := ⟨_, rfl⟩
                obtain ⟨esc, hes⟩ : ∃ x, q.esc = x := ⟨_, rfl⟩
                obtain ⟨dbl, hdb⟩ : ∃ x, q.dbl = x := ⟨_, rfl⟩
                obtain ⟨lng, hln⟩ : ∃ x, q.lng = x := ⟨_, rfl⟩
                rw [hM] at cb y0 v0
                rw [hin] at y1 v1
                rw [hes] at y2 v2
                rw [hdb] at y3 v3
                rw [hln] at y4 v4
                rw [hM, hin, hes, hdb, hln] at HQB HT hV
                clear hfq hol h5 h6 htq hdr hq hM hin hes hdb hln hr hgq hEV hbV HX HF
                go_wp2_with fail
                refine cb.mono ?_
                rintro ev w3 ⟨rfl, hb3⟩
                have ctx := HT.out w3 (HEV.out.stay hb3)
                obtain ⟨u0, u1, u2, u3, u4⟩ := HQB.out.stay hb3
                clear cb hb3 v0 v1 v2 v3 v4 y0 y1 y2 y3 y4 hV
                go_wp2_with fail
                refine ctx.mono ?_
                intro ev w4 h4
                have h4' := h4.1
                subst h4'
                go_wp2
                refine bodyPost_ret (v := .tuple #[]) (by simp [results, Try.results20, go_sem]) rfl ?_
                rw [← HQ.out]
                exact h4
              | false =>
                rw [hr] at cb hfq
                rw [if_neg Bool.false_ne_true] at hfq
                have HF : Hid (fq F.qs c i = fq (F.qs.drop (k + 1)) c i) := hfq
                obtain ⟨M, hM⟩ : ∃ M, strOfNums q.mark = M := ⟨_, rfl⟩
                obtain ⟨inn, hin⟩ : ∃ x, q.inn = x := ⟨_, rfl⟩
                obtain ⟨esc, hes⟩ : ∃ x, q.esc = x := ⟨_, rfl⟩
                obtain ⟨dbl, hdb⟩ : ∃ x, q.dbl = x := ⟨_, rfl⟩
                obtain ⟨lng, hln⟩ : ∃ x, q.lng = x := ⟨_, rfl⟩
                rw [hM] at cb y0 v0
                rw [hin] at y1 v1
                rw [hes] at y2 v2
                rw [hdb] at y3 v3
                rw [hln] at y4 v4
                rw [hM, hin, hes, hdb, hln] at HQB hV
                clear hfq hdr hq hM hin hes hdb hln hr hgq hEV hbV HX
                go_wp2_with fail
                refine cb.mono ?_
                rintro ev w3 ⟨rfl, hb3⟩
                have HE3 : Hid (En w0 S w3 b off n cap B T gs gq F c L i) := HEV.out.stay hb3
                clear cb hb3 v0 v1 v2 v3 v4 y0 y1 y2 y3 y4 hV
                go_wp2
                go_roundg (m - (k + 1))
                case measure => omega
                case rel => exact ⟨k + 1, rfl, by omega, by go_num, ⟨HE3.out, HF.out⟩⟩
            · have hkk : k = m := by omega
              have hfq := HX.out.2
              rw [List.drop_eq_nil_of_le (by rw [HM.out]; omega)] at hfq
              have hnx := HNX.out
              rw [hfq] at hnx
              have z1 : ¬ (k : Int) < (m : Int) := by omega
              have c9 := flay_any HS.out HE2.out 4 1 (i + 1) rfl (by have := HS.out.n6; omega)
              have HF : Hid (nx F c n i = (i + 1, fun _ => 4)) := hnx
              clear hfq hnx hkk HX
              go_wp2_with fail
              refine c9.mono ?_
              rintro ev w3 ⟨rfl, h3⟩
              go_wp2
              go_end0
              rw [← HQ.out]
              unfold TP
              rw [HF.out]
              refine ⟨rfl, ?_⟩
              dsimp only
              rw [pt_one]
              exact h3
  | false =>
    rw [hol] at cb
    have hnt : ntB F c i = false := by unfold ntB; rw [hol]; rfl
    clear hol
    go_enter Try.func20, Try.ntmps20
    go_wp2_with fail
    refine cb.mono ?_
    rintro ev w2 ⟨rfl, hb2⟩
    have HEN : Hid (En w0 S w2 b off n cap B T gs gq F c L i) := HE0.out.stay hb2
    clear cb hb2 x0
    obtain ⟨x0, x1, x2, x3, x4, x5, x6, x7, x8⟩ := HEN.out.cells
    clear x0 x1 x3 x4 x5 x6 x7 x8 HE0
    by_cases hon : F.opn = []
    · have hop : opB F c i = false := by unfold opB; rw [hon]; rfl
      have HNX : Hid (nx F c n i = tqR c n i (fq F.qs c i)) := nx_tq hnt hop
      have e0 : strOfNums ([] : List Int) = ⟨#[]⟩ := by kernel_rfl
      rw [hon, e0] at x2
      have HE : Hid (En w0 S w2 b off n cap B T gs gq F c L i) := HEN.out
      clear hop hnt hon e0 HEN
      go_upto_region 4 with fail
      clear x2
      obtain ⟨x0, x1, x2, x3, x4, x5, x6, x7, x8⟩ := HE.out.cells
      obtain ⟨m, hm⟩ : ∃ m, F.qs.length = m := ⟨_, rfl⟩
      rw [hm] at x5
      have HM : Hid (F.qs.length = m) := hm
      have hm4 : m ≤ 4 := by have := HS.out.gd.q4; omega
      clear hm x0 x1 x2 x3 x4 x6 x7 x8
      go_wp2_with fail
      clear x5
      go_loopg [40] m (fun qq tv wr => ∃ k : Nat, qq = m - k ∧ k ≤ m ∧ tv = .int .i64 k ∧ Hid (En w0 S wr b off n cap B T gs gq F c L i ∧ fq F.qs c i = fq (F.qs.drop k) c i))
      case atStart => exact ⟨0, by omega, by omega, by go_num, ⟨HE.out, rfl⟩⟩
      case round =>
        obtain ⟨k, hqq, hk, rfl, HX⟩ := hrel
        have HE2 : Hid (En w0 S wr b off n cap B T gs gq F c L i) := HX.out.1
        by_cases hkm : k < m
        · obtain ⟨q, hq⟩ : ∃ q, F.qs[k]? = some q := ⟨F.qs[k]'(by rw [HM.out]; exact hkm), List.getElem?_eq_getElem _⟩
          have hgq := HS.out.gd.qs q (List.mem_of_getElem? hq)
          have hdr : F.qs.drop k = q :: F.qs.drop (k + 1) := by
            obtain ⟨hk', e⟩ := List.getElem?_eq_some_iff.1 hq
            rw [← e]
            exact List.drop_eq_getElem_cons hk'
          have hfq := HX.out.2
          rw [hdr, fq_cons] at hfq
          obtain ⟨y0, y1, y2, y3, y4⟩ := HE2.out.qr k q hq
          obtain ⟨V, hV⟩ : ∃ V, wr.alloc (.cells #[.string (strOfNums q.mark), .int .u8 q.inn, .bool q.esc, .bool q.dbl, .bool q.lng] 72) = V := ⟨_, rfl⟩
          have hbV : Below wr.heap.size wr V := by rw [← hV]; exact below_alloc wr _
          have hEV := HE2.out.stay hbV
          have HEV : Hid (En w0 S V b off n cap B T gs gq F c L i) := hEV
          have cb := begins_any HS.out hEV hi q.mark hgq.byt hgq.ne
          obtain ⟨BX, hBX⟩ : ∃ BX, wr.heap.size = BX := ⟨_, rfl⟩
          have hqb : QB BX (strOfNums q.mark) q.inn q.esc q.dbl q.lng V := by rw [← hBX]; exact qcells hV
          have HQB : Hid (QB BX (strOfNums q.mark) q.inn q.esc q.dbl q.lng V) := hqb
          obtain ⟨v0, v1, v2, v3, v4⟩ := hqb
          have z1 : (k : Int) < (m : Int) := by omega
          have z2 : (0 : Int) ≤ (k : Int) := by omega
          have z3 : ¬ (k : Int) < 0 := by omega
          have HGQ : Hid (GdQ q) := hgq
          cases hr : oc q.mark c i with
          | true =>
            rw [hr] at cb hfq
            rw [if_pos rfl] at hfq
            have hol := oc_len HS.out.ch.2 q.mark hgq.byt i hgq.ne hr
            have h5 := txR_le hgq HS.out.ch (a := i + q.mark.length) hol
            have h6 := lnE_le hgq c (n := n) (k := i + q.mark.length) hol
            have htq := tq_some (L := L) (q := q) (c := c) (n := n) (i := i) (by omega)
            rw [← hfq, ← HNX.out] at htq
            have HF : Hid (pt L (nx F c n i).2 i (nx F c n i).1 = pt (setL L 4 (i : Int) ((i + q.mark.length : Nat) : Int)) (txR q c n (i + q.mark.length)).2 (i + q.mark.length) (txR q c n (i + q.mark.length)).1 ∧ (nx F c n i).1 = (txR q c n (i + q.mark.length)).1) := htq
            have HT : Hid (∀ w3, En w0 S w3 b off n cap B T gs gq F c L i → Calls Try.prog 34 #[.pointer (some ⟨B, 0, none⟩), .agg #[.string (strOfNums q.mark), .int .u8 q.inn, .bool q.esc, .bool q.dbl, .bool q.lng]] w3 (TP w0 S b off n cap B T gs gq F c L i)) := fun w3 h3 => by
              have := text_any HS.out h3 hgq rfl hol
              unfold TP
              rw [htq.1, htq.2]
              exact this
            obtain ⟨M, hM⟩ : ∃ M, strOfNums q.mark = M := ⟨_, rfl⟩
            obtain ⟨inn, hin⟩ : ∃ x, q.inn = x := ⟨_, rfl⟩
            obtain ⟨esc, hes⟩ : ∃ x, q.esc = x := ⟨_, rfl⟩
            obtain ⟨dbl, hdb⟩ : ∃ x, q.dbl = x := ⟨_, rfl⟩
            obtain ⟨lng, hln⟩ : ∃ x, q.lng = x := ⟨_, rfl⟩
            rw [hM] at cb y0 v0
            rw [hin] at y1 v1
            rw [hes] at y2 v2
            rw [hdb] at y3 v3
            rw [hln] at y4 v4
            rw [hM, hin, hes, hdb, hln] at HQB HT hV
            clear hfq hol h5 h6 htq hdr hq hM hin hes hdb hln hr hgq hEV hbV HX HF
            go_wp2_with fail
            refine cb.mono ?_
            rintro ev w3 ⟨rfl, hb3⟩
            have ctx := HT.out w3 (HEV.out.stay hb3)
            obtain ⟨u0, u1, u2, u3, u4⟩ := HQB.out.stay hb3
            clear cb hb3 v0 v1 v2 v3 v4 y0 y1 y2 y3 y4 hV
            go_wp2_with fail
            refine ctx.mono ?_
            intro ev w4 h4
            have h4' := h4.1
            subst h4'
            go_wp2
            refine bodyPost_ret (v := .tuple #[]) (by simp [results, Try.results20, go_sem]) rfl ?_
            rw [← HQ.out]
            exact h4
          | false =>
            rw [hr] at cb hfq
            rw [if_neg Bool.false_ne_true] at hfq
            have HF : Hid (fq F.qs c i = fq (F.qs.drop (k + 1)) c i) := hfq
            obtain ⟨M, hM⟩ : ∃ M, strOfNums q.mark = M := ⟨_, rfl⟩
            obtain ⟨inn, hin⟩ : ∃ x, q.inn = x := ⟨_, rfl⟩
            obtain ⟨esc, hes⟩ : ∃ x, q.esc = x := ⟨_, rfl⟩
            obtain ⟨dbl, hdb⟩ : ∃ x, q.dbl = x := ⟨_, rfl⟩
            obtain ⟨lng, hln⟩ : ∃ x, q.lng = x := ⟨_, rfl⟩
            rw [hM] at cb y0 v0
            rw [hin] at y1 v1
            rw [hes] at y2 v2
            rw [hdb] at y3 v3
            rw [hln] at y4 v4
            rw [hM, hin, hes, hdb, hln] at HQB hV
            clear hfq hdr hq hM hin hes hdb hln hr hgq hEV hbV HX
            go_wp2_with fail
            refine cb.mono ?_
            rintro ev w3 ⟨rfl, hb3⟩
            have HE3 : Hid (En w0 S w3 b off n cap B T gs gq F c L i) := HEV.out.stay hb3
            clear cb hb3 v0 v1 v2 v3 v4 y0 y1 y2 y3 y4 hV
            go_wp2
            go_roundg (m - (k + 1))
            case measure => omega
            case rel => exact ⟨k + 1, rfl, by omega, by go_num, ⟨HE3.out, HF.out⟩⟩
        · have hkk : k = m := by omega
          have hfq := HX.out.2
          rw [List.drop_eq_nil_of_le (by rw [HM.out]; omega)] at hfq
          have hnx := HNX.out
          rw [hfq] at hnx
          have z1 : ¬ (k : Int) < (m : Int) := by omega
          have c9 := flay_any HS.out HE2.out 4 1 (i + 1) rfl (by have := HS.out.n6; omega)
          have HF : Hid (nx F c n i = (i + 1, fun _ => 4)) := hnx
          clear hfq hnx hkk HX
          go_wp2_with fail
          refine c9.mono ?_
          rintro ev w3 ⟨rfl, h3⟩
          go_wp2
          go_end0
          rw [← HQ.out]
          unfold TP
          rw [HF.out]
          refine ⟨rfl, ?_⟩
          dsimp only
          rw [pt_one]
          exact h3
    · have hne := str_ne HS.out.gd.ob hon
      have cb2 := begins_any HS.out HEN.out hi F.opn HS.out.gd.ob hon
      have h1 := HS.out.gd.os hon
      obtain ⟨Mo, hMo⟩ : ∃ M, strOfNums F.opn = M := ⟨_, rfl⟩
      rw [hMo] at cb2 x2 hne
      cases hoo : oc F.opn c i with
      | true =>
        have hop : opB F c i = true := by unfold opB; rw [hoo]; revert hon; cases F.opn <;> simp
        have hl := oc_len HS.out.ch.2 F.opn HS.out.gd.ob i hon hoo
        have hge := (rm_le (d := 1) HS.out.ch HS.out.gd h1.1 h1.2 hl).1
        have hnx := nx_op (L := L) hnt hop hge
        have HC : Hid (∀ w3, En w0 S w3 b off n cap B T gs gq F c L i → Calls Try.prog 33 #[.pointer (some ⟨B, 0, none⟩)] w3 (TP w0 S b off n cap B T gs gq F c L i)) := fun w3 h3 => by
          have := remark_any HS.out h3 rfl hl h1.1 h1.2
          unfold TP
          rw [hnx.1, hnx.2]
          exact this
        rw [hoo] at cb2
        clear hnx hge hl hop hoo h1 hnt hMo hon
        go_wp2_with fail
        refine cb2.mono ?_
        rintro ev w3 ⟨rfl, hb3⟩
        have cc := HC.out w3 (HEN.out.stay hb3)
        clear cb2 hb3 x2
        go_wp2_with fail
        refine cc.mono ?_
        intro ev w4 h4
        have h4' := h4.1
        subst h4'
        go_wp2
        refine bodyPost_ret (v := .tuple #[]) (by simp [results, Try.results20, go_sem]) rfl ?_
        rw [← HQ.out]
        exact h4
      | false =>
        have hop : opB F c i = false := by unfold opB; rw [hoo]; simp
        have HNX : Hid (nx F c n i = tqR c n i (fq F.qs c i)) := nx_tq hnt hop
        rw [hoo] at cb2
        clear hop hoo h1 hnt hMo hon
        go_wp2_with fail
        refine cb2.mono ?_
        rintro ev w3 ⟨rfl, hb3⟩
        have HE : Hid (En w0 S w3 b off n cap B T gs gq F c L i) := HEN.out.stay hb3
        clear cb2 hb3 x2 HEN
        go_upto_region 4 with fail
        obtain ⟨x0, x1, x2, x3, x4, x5, x6, x7, x8⟩ := HE.out.cells
        obtain ⟨m, hm⟩ : ∃ m, F.qs.length = m := ⟨_, rfl⟩
        rw [hm] at x5
        have HM : Hid (F.qs.length = m) := hm
        have hm4 : m ≤ 4 := by have := HS.out.gd.q4; omega
        clear hm x0 x1 x2 x3 x4 x6 x7 x8
        go_wp2_with fail
        clear x5
        go_loopg [40] m (fun qq tv wr => ∃ k : Nat, qq = m - k ∧ k ≤ m ∧ tv = .int .i64 k ∧ Hid (En w0 S wr b off n cap B T gs gq F c L i ∧ fq F.qs c i = fq (F.qs.drop k) c i))
        case atStart => exact ⟨0, by omega, by omega, by go_num, ⟨HE.out, rfl⟩⟩
        case round =>
          obtain ⟨k, hqq, hk, rfl, HX⟩ := hrel
          have HE2 : Hid (En w0 S wr b off n cap B T gs gq F c L i) := HX.out.1
          by_cases hkm : k < m
          · obtain ⟨q, hq⟩ : ∃ q, F.qs[k]? = some q := ⟨F.qs[k]'(by rw [HM.out]; exact hkm), List.getElem?_eq_getElem _⟩
            have hgq := HS.out.gd.qs q (List.mem_of_getElem? hq)
            have hdr : F.qs.drop k = q :: F.qs.drop (k + 1) := by
              obtain ⟨hk', e⟩ := List.getElem?_eq_some_iff.1 hq
              rw [← e]
              exact List.drop_eq_getElem_cons hk'
            have hfq := HX.out.2
            rw [hdr, fq_cons] at hfq
            obtain ⟨y0, y1, y2, y3, y4⟩ := HE2.out.qr k q hq
            obtain ⟨V, hV⟩ : ∃ V, wr.alloc (.cells #[.string (strOfNums q.mark), .int .u8 q.inn, .bool q.esc, .bool q.dbl, .bool q.lng] 72) = V := ⟨_, rfl⟩
            have hbV : Below wr.heap.size wr V := by rw [← hV]; exact below_alloc wr _
            have hEV := HE2.out.stay hbV
            have HEV : Hid (En w0 S V b off n cap B T gs gq F c L i) := hEV
            have cb := begins_any HS.out hEV hi q.mark hgq.byt hgq.ne
            obtain ⟨BX, hBX⟩ : ∃ BX, wr.heap.size = BX := ⟨_, rfl⟩
            have hqb : QB BX (strOfNums q.mark) q.inn q.esc q.dbl q.lng V := by rw [← hBX]; exact qcells hV
            have HQB : Hid (QB BX (strOfNums q.mark) q.inn q.esc q.dbl q.lng V) := hqb
            obtain ⟨v0, v1, v2, v3, v4⟩ := hqb
            have z1 : (k : Int) < (m : Int) := by omega
            have z2 : (0 : Int) ≤ (k : Int) := by omega
            have z3 : ¬ (k : Int) < 0 := by omega
            have HGQ : Hid (GdQ q) := hgq
            cases hr : oc q.mark c i with
            | true =>
              rw [hr] at cb hfq
              rw [if_pos rfl] at hfq
              have hol := oc_len HS.out.ch.2 q.mark hgq.byt i hgq.ne hr
              have h5 := txR_le hgq HS.out.ch (a := i + q.mark.length) hol
              have h6 := lnE_le hgq c (n := n) (k := i + q.mark.length) hol
              have htq := tq_some (L := L) (q := q) (c := c) (n := n) (i := i) (by omega)
              rw [← hfq, ← HNX.out] at htq
              have HF : Hid (pt L (nx F c n i).2 i (nx F c n i).1 = pt (setL L 4 (i : Int) ((i + q.mark.length : Nat) : Int)) (txR q c n (i + q.mark.length)).2 (i + q.mark.length) (txR q c n (i + q.mark.length)).1 ∧ (nx F c n i).1 = (txR q c n (i + q.mark.length)).1) := htq
              have HT : Hid (∀ w3, En w0 S w3 b off n cap B T gs gq F c L i → Calls Try.prog 34 #[.pointer (some ⟨B, 0, none⟩), .agg #[.string (strOfNums q.mark), .int .u8 q.inn, .bool q.esc, .bool q.dbl, .bool q.lng]] w3 (TP w0 S b off n cap B T gs gq F c L i)) := fun w3 h3 => by
                have := text_any HS.out h3 hgq rfl hol
                unfold TP
                rw [htq.1, htq.2]
                exact this
              obtain ⟨M, hM⟩ : ∃ M, strOfNums q.mark = M := ⟨_, rfl⟩
              obtain ⟨inn, hin⟩ : ∃ x, q.inn = x := ⟨_, rfl⟩
              obtain ⟨esc, hes⟩ : ∃ x, q.esc = x := ⟨_, rfl⟩
              obtain ⟨dbl, hdb⟩ : ∃ x, q.dbl = x := ⟨_, rfl⟩
              obtain ⟨lng, hln⟩ : ∃ x, q.lng = x := ⟨_, rfl⟩
              rw [hM] at cb y0 v0
              rw [hin] at y1 v1
              rw [hes] at y2 v2
              rw [hdb] at y3 v3
              rw [hln] at y4 v4
              rw [hM, hin, hes, hdb, hln] at HQB HT hV
              clear hfq hol h5 h6 htq hdr hq hM hin hes hdb hln hr hgq hEV hbV HX HF
              go_wp2_with fail
              refine cb.mono ?_
              rintro ev w3 ⟨rfl, hb3⟩
              have ctx := HT.out w3 (HEV.out.stay hb3)
              obtain ⟨u0, u1, u2, u3, u4⟩ := HQB.out.stay hb3
              clear cb hb3 v0 v1 v2 v3 v4 y0 y1 y2 y3 y4 hV
              go_wp2_with fail
              refine ctx.mono ?_
              intro ev w4 h4
              have h4' := h4.1
              subst h4'
              go_wp2
              refine bodyPost_ret (v := .tuple #[]) (by simp [results, Try.results20, go_sem]) rfl ?_
              rw [← HQ.out]
              exact h4
            | false =>
              rw [hr] at cb hfq
              rw [if_neg Bool.false_ne_true] at hfq
              have HF : Hid (fq F.qs c i = fq (F.qs.drop (k + 1)) c i) := hfq
              obtain ⟨M, hM⟩ : ∃ M, strOfNums q.mark = M := ⟨_, rfl⟩
              obtain ⟨inn, hin⟩ : ∃ x, q.inn = x := ⟨_, rfl⟩
              obtain ⟨esc, hes⟩ : ∃ x, q.esc = x := ⟨_, rfl⟩
              obtain ⟨dbl, hdb⟩ : ∃ x, q.dbl = x := ⟨_, rfl⟩
              obtain ⟨lng, hln⟩ : ∃ x, q.lng = x := ⟨_, rfl⟩
              rw [hM] at cb y0 v0
              rw [hin] at y1 v1
              rw [hes] at y2 v2
              rw [hdb] at y3 v3
              rw [hln] at y4 v4
              rw [hM, hin, hes, hdb, hln] at HQB hV
              clear hfq hdr hq hM hin hes hdb hln hr hgq hEV hbV HX
              go_wp2_with fail
              refine cb.mono ?_
              rintro ev w3 ⟨rfl, hb3⟩
              have HE3 : Hid (En w0 S w3 b off n cap B T gs gq F c L i) := HEV.out.stay hb3
              clear cb hb3 v0 v1 v2 v3 v4 y0 y1 y2 y3 y4 hV
              go_wp2
              go_roundg (m - (k + 1))
              case measure => omega
              case rel => exact ⟨k + 1, rfl, by omega, by go_num, ⟨HE3.out, HF.out⟩⟩
          · have hkk : k = m := by omega
            have hfq := HX.out.2
            rw [List.drop_eq_nil_of_le (by rw [HM.out]; omega)] at hfq
            have hnx := HNX.out
            rw [hfq] at hnx
            have z1 : ¬ (k : Int) < (m : Int) := by omega
            have c9 := flay_any HS.out HE2.out 4 1 (i + 1) rfl (by have := HS.out.n6; omega)
            have HF : Hid (nx F c n i = (i + 1, fun _ => 4)) := hnx
            clear hfq hnx hkk HX
            go_wp2_with fail
            refine c9.mono ?_
            rintro ev w3 ⟨rfl, h3⟩
            go_wp2
            go_end0
            rw [← HQ.out]
            unfold TP
            rw [HF.out]
            refine ⟨rfl, ?_⟩
            dsimp only
            rw [pt_one]
            exact h3
end
end Go.Proofs.Ytgebmmbnpdhooaa
