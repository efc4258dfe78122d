/- The reference: strings. -/
import Derived.Test.YtgebmmbnpdhooaasRb
namespace Go.Proofs.Ytgebmmbnpdhooaa
set_option linter.unusedVariables false
open Go.RowKit Go.ChangeShapes
theorem byt_app' {t : List Int} (h : Byt t) : Byt (t ++ t) := fun x hx => by
  rcases List.mem_append.1 hx with h1 | h1
  · exact h x h1
  · exact h x h1
/-- What the reference's strings ask besides. -/
structure GdR (q : Qt) (raw : Bool) : Prop where
  gd : GdQ q
  hd : ∀ (c : Nat → Int) (k : Nat), c k = 10 ∨ c k = 92 → oc q.mark c k = false ∧ oc (q.mark ++ q.mark) c k = false
  one : q.dbl = true → q.mark.length = 1
  two : ∀ (c : Nat → Int) (k : Nat), oc (q.mark ++ q.mark) c k = true → oc q.mark c k = true
  inn : q.inn = if raw = true then 7 else 5
def rqv (q : Qt) (raw : Bool) : Value := .agg #[.string (strOfNums q.mark), .bool q.esc, .bool q.dbl, .bool q.lng, .bool raw]
theorem lnE_step {q : Qt} (hq : GdQ q) {c : Nat → Int} {n k e : Nat} (h : k < n) (h1 : enB q c k = false) (he : min (k + tkN q c k) n = e) : lnE q c n k = lnE q c n e := by rw [lnE_no hq h h1, he]
/-- What is left of a string, in the reference. -/
def RS (w0 : World) (g n : Nat) (q : Qt) (c A : Nat → Int) (E i : Nat) (wr : World) : Prop := ∃ L, LR wr g n L ∧ w0.grownBy wr (some g) ∧ w0.heap.size ≤ wr.heap.size ∧ pt L (fun _ => q.inn) i (lnE q c n i) = A ∧ lnE q c n i = E
def RPq (w : World) (g n : Nat) (A : Nat → Int) (E : Nat) (ev : Ending) (w' : World) : Prop := ev = .returned (.int .i64 (E : Nat)) ∧ LR w' g n A ∧ w.grownBy w' (some g) ∧ w.heap.size ≤ w'.heap.size
theorem pt_more (L : Nat → Int) (x : Int) {i e E : Nat} (h1 : i ≤ e) (h2 : e ≤ E) : pt L (fun _ => x) i E = pt (setL L x (i : Int) (e : Int)) (fun _ => x) e E := by
  have := pt_ahd L x (i := i) (a := e) (E, fun _ => x) h1 h2
  rw [← this]
  funext j
  unfold pt ahd
  dsimp only
  by_cases h3 : i ≤ j ∧ j < E
  · rw [if_pos h3, if_pos h3]
    split <;> rfl
  · rw [if_neg h3, if_neg h3]
set_option maxRecDepth 100000 in
set_option maxHeartbeats 16000000 in
theorem rquoted_any {w : World} {g n : Nat} {L : Nat → Int} (hR : LR w g n L) {s : ByteArray} {c : Nat → Int} (hs : SC s c n) (hn : n ≤ 65536) {q : Qt} {raw : Bool} (hq : GdR q raw) {a : Nat} (han : a ≤ n) :
    Calls Try.prog 27 #[.slice (some ⟨g, 0, none⟩) n n, .string s, .int .i64 a, rqv q raw] w (RPq w g n (pt L (fun _ => q.inn) a (lnE q c n a)) (txR q c n a).1) := by
  obtain ⟨W, hW⟩ : ∃ W, w.alloc (.cells #[.string (strOfNums q.mark), .bool q.esc, .bool q.dbl, .bool q.lng, .bool raw] 68) = W := ⟨_, rfl⟩
  have hbW : Below w.heap.size w W := by rw [← hW]; exact below_alloc w _
  obtain ⟨BX, hBX⟩ : ∃ BX, w.heap.size = BX := ⟨_, rfl⟩
  have hcl := qcells hW
  rw [hBX] at hcl
  have hgl : g < BX := by rw [← hBX]; exact hR.lt
  have HW : Hid (LR W g n L ∧ w.grownBy W (some g) ∧ w.heap.size ≤ W.heap.size) := ⟨hR.stay hbW, grown_of hbW _, hbW.size⟩
  have hsz := hs.1
  have hC := hs.2.1
  have hat := hs.2.2.1
  have hfew := hq.gd.few
  have hmz : (strOfNums q.mark).size = q.mark.length := strOfNums_size _
  have CM : Hid (∀ (wr : World) (k : Nat), k ≤ n → Calls Try.prog 24 #[.string s, .int .i64 k, .string (strOfNums q.mark)] wr fun ev w' => ev = .returned (.bool (oc q.mark c k)) ∧ w' = wr) := fun wr k hk => rat_any hs (by omega) k (by omega) _ q.mark hq.gd.byt rfl (by omega) hq.gd.ne wr
  have CP : Hid (∀ (wr : World) (k : Nat), k ≤ n → Calls Try.prog 24 #[.string s, .int .i64 k, .string (strOfNums q.mark ++ strOfNums q.mark)] wr fun ev w' => ev = .returned (.bool (oc (q.mark ++ q.mark) c k)) ∧ w' = wr) := fun wr k hk => by
    refine rat_any hs (by omega) k (by omega) _ (q.mark ++ q.mark) (byt_app' hq.gd.byt) (nums_app _ _) (by rw [List.length_append]; omega) (fun e => hq.gd.ne (List.append_eq_nil_iff.1 e).1) wr
  have HX : Hid (∀ k, k ≤ n → (txR q c n k).1 = if oc q.mark c (lnE q c n k) = true then lnE q c n k + q.mark.length else lnE q c n k) := fun k _ => rfl
  have HLE : Hid (∀ k, k ≤ n → k ≤ lnE q c n k ∧ lnE q c n k ≤ n) := fun k hk => lnE_le hq.gd c hk
  obtain ⟨E, hE⟩ : ∃ E, lnE q c n a = E := ⟨_, rfl⟩
  obtain ⟨A, hA⟩ : ∃ A, pt L (fun _ => q.inn) a (lnE q c n a) = A := ⟨_, rfl⟩
  have HA : Hid (pt L (fun _ => q.inn) a (lnE q c n a) = A ∧ lnE q c n a = E) := ⟨hA, hE⟩
  have hX1 : (txR q c n a).1 = if oc q.mark c E = true then E + q.mark.length else E := by rw [HX.out a han, hE]
  rw [hA, hX1]
  have HQD : Hid (GdR q raw) := hq
  obtain ⟨wh, hwh⟩ : ∃ x, q.inn = x := ⟨_, rfl⟩
  have hwi := hq.inn
  rw [hwh] at hwi
  have HWH : Hid (q.inn = wh) := hwh
  obtain ⟨Q, hQ⟩ : ∃ Q, RPq w g n A (if oc q.mark c E = true then E + q.mark.length else E) = Q := ⟨_, rfl⟩
  rw [hQ]
  have HQ : Hid (RPq w g n A (if oc q.mark c E = true then E + q.mark.length else E) = Q) := hQ
  obtain ⟨M, hM⟩ : ∃ M, strOfNums q.mark = M := ⟨_, rfl⟩
  obtain ⟨mz, hmz2⟩ : ∃ m, q.mark.length = m := ⟨_, rfl⟩
  obtain ⟨es, hes⟩ : ∃ x, q.esc = x := ⟨_, rfl⟩
  obtain ⟨db, hdb⟩ : ∃ x, q.dbl = x := ⟨_, rfl⟩
  obtain ⟨lg, hlg⟩ : ∃ x, q.lng = x := ⟨_, rfl⟩
  unfold rqv
  rw [hM, hes, hdb, hlg]
  rw [hM, hes, hdb, hlg] at hW hcl
  rw [hM] at CM CP hmz
  rw [hmz2] at hmz hfew HX HQ
  have HF : Hid (q.esc = es ∧ q.dbl = db ∧ q.lng = lg ∧ q.mark.length = mz ∧ mz ≤ 3) := ⟨hes, hdb, hlg, hmz2, hfew⟩
  have HAT : Hid (∀ i (h : i < s.size), ((s[i]'h).toNat : Int) = c i) := hat
  have HCH : Hid (Ch c n) := hC
  have hadd : ¬ 9223372036854775807 < M.size + M.size := by omega
  have HCL : Hid (W.cell? ⟨BX, 0, none⟩ = some (.string M) ∧ W.cell? ⟨BX, 1, none⟩ = some (.bool es) ∧ W.cell? ⟨BX, 2, none⟩ = some (.bool db) ∧ W.cell? ⟨BX, 3, none⟩ = some (.bool lg) ∧ W.cell? ⟨BX, 4, none⟩ = some (.bool raw)) := hcl
  obtain ⟨v0, v1, v2, v3, v4⟩ := hcl
  clear hR hs hC hat hq hA hE hQ hwh hM hmz2 hes hdb hlg hX1 hbW
  cases raw with
  | true =>
    rw [if_pos rfl] at hwi
    subst hwi
    go_enter Try.func27, Try.ntmps27
    go_wp2_with fail
    clear hW v0 v1 v2 v3 v4
    go_loopg [2] (n - a) (fun qq iv wr => ∃ i' : Nat, qq = n - i' ∧ i' ≤ n ∧ iv = .int .i64 i' ∧ Hid (RS w g n q c A E i' wr) ∧ Hid (wr.heap[BX]? = W.heap[BX]?))
    case atStart => exact ⟨a, rfl, han, by go_num, ⟨L, HW.out.1, HW.out.2.1, HW.out.2.2, HA.out⟩, rfl⟩
    case round =>
      obtain ⟨i', hqq, hi', rfl, HXX, HBW⟩ := hrel
      obtain ⟨L', hL', hg', hz', hA', hEE⟩ := HXX.out
      have HB : Hid (LR wr g n L' ∧ w.grownBy wr (some g) ∧ w.heap.size ≤ wr.heap.size) := ⟨hL', hg', hz'⟩
      have hce : ∀ k, wr.cell? ⟨BX, k, none⟩ = W.cell? ⟨BX, k, none⟩ := fun k => by simp only [World.cell?, HBW.out]
      obtain ⟨v0, v1, v2, v3, v4⟩ : wr.cell? ⟨BX, 0, none⟩ = some (.string M) ∧ wr.cell? ⟨BX, 1, none⟩ = some (.bool es) ∧ wr.cell? ⟨BX, 2, none⟩ = some (.bool db) ∧ wr.cell? ⟨BX, 3, none⟩ = some (.bool lg) ∧ wr.cell? ⟨BX, 4, none⟩ = some (.bool true) := by
        rw [hce, hce, hce, hce, hce]
        exact HCL.out
      have HBL : Hid (BX < wr.heap.size) := World.block_lt_of_cell? wr _ v0
      clear HXX hL' hg' hz' hce
      by_cases hlt : i' < n
      · have z2 : (i' : Int) < (n : Int) := by omega
        have z3 : (0 : Int) ≤ (i' : Int) := by omega
        have z4 : i' < s.size := by omega
        have z5 : ¬ s.size ≤ i' := by omega
        have hx := HAT.out i' z4
        have cM := CM.out wr i' hi'
        have cP := CP.out wr i' hi'
        have hdl := HF.out
        obtain ⟨x, hcx⟩ : ∃ x, c i' = x := ⟨_, rfl⟩
        rw [hcx] at hx
        by_cases hnl : x = 10 ∧ lg = false
        · obtain ⟨rfl, rfl⟩ := hnl
          have hen : enB q c i' = true := by unfold enB; rw [hcx, hdl.2.2.1]; rfl
          have hoc := (HQD.out.hd c i' (Or.inl hcx)).1
          rw [lnE_yes hen] at hA' hEE
          rw [pt_none _ _ (Nat.le_refl _)] at hA'
          have hAA : L' = A := hA'
          have HFN : Hid (RPq w g n A (if oc q.mark c E = true then E + mz else E) (.returned (.int .i64 (i' : Nat))) wr) := by
            show RPq w g n A _ _ wr
            rw [← hEE, hoc, if_neg Bool.false_ne_true]
            exact ⟨rfl, hAA ▸ HB.out.1, HB.out.2.1, HB.out.2.2⟩
          clear hA' hEE hen hoc hcx hdl cM cP hAA
          go_wp2
          rw [← HQ.out]
          exact HFN.out
        · have hnl2 : (!lg && x == 10) = false := by
            cases lg with
            | true => rfl
            | false =>
              have : (x == 10) = false := by simpa using fun e => hnl ⟨e, rfl⟩
              rw [this]
              rfl
          have hen1 : (c i' == 10 && !q.lng) = false := by rw [hcx, hdl.2.2.1, Bool.and_comm]; exact hnl2
          by_cases he92 : es = true ∧ x = 92 ∧ (lg = true ∨ c (i' + 1) ≠ 10)
          · obtain ⟨rfl, rfl, hll⟩ := he92
            have hh := HQD.out.hd c i' (Or.inr hcx)
            have hen : enB q c i' = false := by unfold enB; rw [hen1, hh.1]; rfl
            have hpr : prB q c i' = false := by unfold prB; rw [hh.2]; simp
            have hes : esB q c i' = true := by
              unfold esB
              rw [hdl.1, hcx, hdl.2.2.1]
              rcases hll with h | h
              · rw [h]; rfl
              · have : (c (i' + 1) == 10) = false := by simpa using h
                rw [this]
                simp
            have htk : tkN q c i' = 2 := by unfold tkN; rw [if_neg (by rw [hpr]; exact Bool.false_ne_true), if_pos hes]
            by_cases hn1 : i' + 1 < n
            · have z6 : (i' : Int) + 1 < (n : Int) := by omega
              have z7 : i' + 1 < s.size := by omega
              have hx1 := HAT.out (i' + 1) z7
              have z8 : (0 : Int) ≤ (i' : Int) + 1 := by omega
              obtain ⟨x1, hcx1⟩ : ∃ x, c (i' + 1) = x := ⟨_, rfl⟩
              rw [hcx1] at hx1 hll
              obtain ⟨e, he⟩ : ∃ e, i' + 2 = e := ⟨_, rfl⟩
              have hst := lnE_step HQD.out.gd hlt hen (e := e) (by rw [htk]; omega)
              rw [hst, HWH.out] at hA'
              rw [hst] at hEE
              have hle := HLE.out e (by omega)
              rw [pt_more L' 7 (i := i') (e := e) (by omega) hle.1] at hA'
              have HN : Hid (pt (setL L' 7 (i' : Int) (e : Int)) (fun _ => q.inn) e (lnE q c n e) = A ∧ lnE q c n e = E) := ⟨by rw [HWH.out]; exact hA', hEE⟩
              have HEM : Hid (i' + 2 = e ∧ e ≤ n) := ⟨he, by omega⟩
              have ze : IntKind.i64.wrap ((i' : Int) + 2) = (e : Int) := by rw [Go.IntWalk.i64_in _ (by omega)]; omega
              have c5 := rput_any HB.out.1 hn 7 i' e HEM.out.2
              clear hst hle hA' hEE he
              clear hen hpr hes htk hh hen1 hcx hdl cM cP hcx1 hnl
              cases lg with
              | true =>
                go_wp2_with fail
                refine c5.mono ?_
                rintro ev w5 ⟨rfl, h3, h4, h5⟩
                have HE5 : Hid (LR w5 g n (setL L' 7 (i' : Int) (e : Int)) ∧ w.grownBy w5 (some g) ∧ w.heap.size ≤ w5.heap.size) := ⟨h3, grown_step HB.out.2.1 h4, Nat.le_trans HB.out.2.2 (Nat.le_of_eq h5.symm)⟩
                have HC5 : Hid (w5.heap[BX]? = wr.heap[BX]?) := h4.block BX (by have := HBL.out; omega) (fun e => by have := Option.some.inj e; omega)
                clear c5 h3 h4 h5
                go_wp2
                go_roundg (n - e)
                case measure => have := HEM.out; omega
                case rel => exact ⟨e, rfl, HEM.out.2, rfl, ⟨_, HE5.out.1, HE5.out.2.1, HE5.out.2.2, HN.out⟩, HC5.out.trans HBW.out⟩
              | false =>
                have k10 : (x1 != 10) = true := by
                  rcases hll with h | h
                  · cases h
                  · simpa using h
                go_wp2_with fail
                refine c5.mono ?_
                rintro ev w5 ⟨rfl, h3, h4, h5⟩
                have HE5 : Hid (LR w5 g n (setL L' 7 (i' : Int) (e : Int)) ∧ w.grownBy w5 (some g) ∧ w.heap.size ≤ w5.heap.size) := ⟨h3, grown_step HB.out.2.1 h4, Nat.le_trans HB.out.2.2 (Nat.le_of_eq h5.symm)⟩
                have HC5 : Hid (w5.heap[BX]? = wr.heap[BX]?) := h4.block BX (by have := HBL.out; omega) (fun e => by have := Option.some.inj e; omega)
                clear c5 h3 h4 h5
                go_wp2
                go_roundg (n - e)
                case measure => have := HEM.out; omega
                case rel => exact ⟨e, rfl, HEM.out.2, rfl, ⟨_, HE5.out.1, HE5.out.2.1, HE5.out.2.2, HN.out⟩, HC5.out.trans HBW.out⟩
            · have z6 : ¬ (i' : Int) + 1 < (n : Int) := by omega
              have hin : i' + 1 = n := by omega
              have hoc := hh.1
              have hop := hh.2
              rw [hoc] at cM
              rw [hop] at cP
              obtain ⟨e, he⟩ : ∃ e, i' + 1 = e := ⟨_, rfl⟩
              have hst := lnE_step HQD.out.gd hlt hen (e := e) (by rw [htk]; omega)
              rw [hst, HWH.out] at hA'
              rw [hst] at hEE
              have hle := HLE.out e (by omega)
              rw [pt_more L' 7 (i := i') (e := e) (by omega) hle.1] at hA'
              have HN : Hid (pt (setL L' 7 (i' : Int) (e : Int)) (fun _ => q.inn) e (lnE q c n e) = A ∧ lnE q c n e = E) := ⟨by rw [HWH.out]; exact hA', hEE⟩
              have HEM : Hid (i' + 1 = e ∧ e ≤ n) := ⟨he, by omega⟩
              have ze : IntKind.i64.wrap ((i' : Int) + 1) = (e : Int) := by rw [Go.IntWalk.i64_in _ (by omega)]; omega
              have c5 := rput_any HB.out.1 hn 7 i' e HEM.out.2
              clear hst hle hA' hEE he
              have z9 : ¬ (e : Int) < (n : Int) := by have := HEM.out; omega
              clear hen hpr hes htk hh hen1 hcx hdl hin hoc hop hnl hll
              cases db with
              | true =>
                cases lg with
                | true =>
                  go_wp2_with fail
                  refine cP.mono ?_
                  rintro ev w2 ⟨rfl, hw⟩
                  subst w2
                  go_wp2_with fail
                  refine cM.mono ?_
                  rintro ev w2 ⟨rfl, hw⟩
                  subst w2
                  clear cM cP
                  go_wp2_with fail
                  refine c5.mono ?_
                  rintro ev w5 ⟨rfl, h3, h4, h5⟩
                  have HE5 : Hid (LR w5 g n (setL L' 7 (i' : Int) (e : Int)) ∧ w.grownBy w5 (some g) ∧ w.heap.size ≤ w5.heap.size) := ⟨h3, grown_step HB.out.2.1 h4, Nat.le_trans HB.out.2.2 (Nat.le_of_eq h5.symm)⟩
                  have HC5 : Hid (w5.heap[BX]? = wr.heap[BX]?) := h4.block BX (by have := HBL.out; omega) (fun e => by have := Option.some.inj e; omega)
                  clear c5 h3 h4 h5
                  go_wp2
                  go_roundg (n - e)
                  case measure => have := HEM.out; omega
                  case rel => exact ⟨e, rfl, HEM.out.2, rfl, ⟨_, HE5.out.1, HE5.out.2.1, HE5.out.2.2, HN.out⟩, HC5.out.trans HBW.out⟩
                | false =>
                  go_wp2_with fail
                  refine cP.mono ?_
                  rintro ev w2 ⟨rfl, hw⟩
                  subst w2
                  go_wp2_with fail
                  refine cM.mono ?_
                  rintro ev w2 ⟨rfl, hw⟩
                  subst w2
                  clear cM cP
                  go_wp2_with fail
                  refine c5.mono ?_
                  rintro ev w5 ⟨rfl, h3, h4, h5⟩
                  have HE5 : Hid (LR w5 g n (setL L' 7 (i' : Int) (e : Int)) ∧ w.grownBy w5 (some g) ∧ w.heap.size ≤ w5.heap.size) := ⟨h3, grown_step HB.out.2.1 h4, Nat.le_trans HB.out.2.2 (Nat.le_of_eq h5.symm)⟩
                  have HC5 : Hid (w5.heap[BX]? = wr.heap[BX]?) := h4.block BX (by have := HBL.out; omega) (fun e => by have := Option.some.inj e; omega)
                  clear c5 h3 h4 h5
                  go_wp2
                  go_roundg (n - e)
                  case measure => have := HEM.out; omega
                  case rel => exact ⟨e, rfl, HEM.out.2, rfl, ⟨_, HE5.out.1, HE5.out.2.1, HE5.out.2.2, HN.out⟩, HC5.out.trans HBW.out⟩
              | false =>
                cases lg with
                | true =>
                  clear cP
                  go_wp2_with fail
                  refine cM.mono ?_
                  rintro ev w2 ⟨rfl, hw⟩
                  subst w2
                  clear cM
                  go_wp2_with fail
                  refine c5.mono ?_
                  rintro ev w5 ⟨rfl, h3, h4, h5⟩
                  have HE5 : Hid (LR w5 g n (setL L' 7 (i' : Int) (e : Int)) ∧ w.grownBy w5 (some g) ∧ w.heap.size ≤ w5.heap.size) := ⟨h3, grown_step HB.out.2.1 h4, Nat.le_trans HB.out.2.2 (Nat.le_of_eq h5.symm)⟩
                  have HC5 : Hid (w5.heap[BX]? = wr.heap[BX]?) := h4.block BX (by have := HBL.out; omega) (fun e => by have := Option.some.inj e; omega)
                  clear c5 h3 h4 h5
                  go_wp2
                  go_roundg (n - e)
                  case measure => have := HEM.out; omega
                  case rel => exact ⟨e, rfl, HEM.out.2, rfl, ⟨_, HE5.out.1, HE5.out.2.1, HE5.out.2.2, HN.out⟩, HC5.out.trans HBW.out⟩
                | false =>
                  clear cP
                  go_wp2_with fail
                  refine cM.mono ?_
                  rintro ev w2 ⟨rfl, hw⟩
                  subst w2
                  clear cM
                  go_wp2_with fail
                  refine c5.mono ?_
                  rintro ev w5 ⟨rfl, h3, h4, h5⟩
                  have HE5 : Hid (LR w5 g n (setL L' 7 (i' : Int) (e : Int)) ∧ w.grownBy w5 (some g) ∧ w.heap.size ≤ w5.heap.size) := ⟨h3, grown_step HB.out.2.1 h4, Nat.le_trans HB.out.2.2 (Nat.le_of_eq h5.symm)⟩
                  have HC5 : Hid (w5.heap[BX]? = wr.heap[BX]?) := h4.block BX (by have := HBL.out; omega) (fun e => by have := Option.some.inj e; omega)
                  clear c5 h3 h4 h5
                  go_wp2
                  go_roundg (n - e)
                  case measure => have := HEM.out; omega
                  case rel => exact ⟨e, rfl, HEM.out.2, rfl, ⟨_, HE5.out.1, HE5.out.2.1, HE5.out.2.2, HN.out⟩, HC5.out.trans HBW.out⟩
          · have hes : esB q c i' = false := by
              cases h : esB q c i' with
              | false => rfl
              | true =>
                unfold esB at h
                rw [hdl.1, hcx, hdl.2.2.1] at h
                simp only [Bool.and_eq_true, beq_iff_eq, Bool.or_eq_true, Bool.not_eq_true', beq_eq_false_iff_ne, ne_eq] at h
                exact absurd ⟨h.1.1, h.1.2, h.2⟩ he92
            have HE2 : Hid (¬ (es = true ∧ x = 92 ∧ (lg = true ∨ c (i' + 1) ≠ 10))) := he92
            have HCX : Hid (c i' = x) := hcx
            have HEN : Hid (enB q c i' = (oc q.mark c i' && !prB q c i') ∧ esB q c i' = false) := ⟨by unfold enB; rw [hen1]; rfl, hes⟩
            clear hen1 hes he92
            obtain ⟨p2, hp2⟩ : ∃ p2, oc (q.mark ++ q.mark) c i' = p2 := ⟨_, rfl⟩
            obtain ⟨p1, hp1⟩ : ∃ p1, oc q.mark c i' = p1 := ⟨_, rfl⟩
            rw [hp2] at cP
            rw [hp1] at cM
            have HPP : Hid (oc (q.mark ++ q.mark) c i' = p2 ∧ oc q.mark c i' = p1) := ⟨hp2, hp1⟩
            clear hp2 hp1
            have HES : Hid (es = false ∨ (es = true ∧ (x == 92) = false) ∨ (es = true ∧ x = 92 ∧ lg = false ∧ i' + 1 < n ∧ c (i' + 1) = 10)) := by
              cases es with
              | false => exact Or.inl rfl
              | true =>
                by_cases h92 : x = 92
                · have h3 : lg = false ∧ c (i' + 1) = 10 := by
                    cases lg with
                    | true => exact absurd ⟨rfl, h92, Or.inl rfl⟩ HE2.out
                    | false =>
                      refine ⟨rfl, Classical.byContradiction fun h => HE2.out ⟨rfl, h92, Or.inr h⟩⟩
                  refine Or.inr (Or.inr ⟨rfl, h92, h3.1, ?_, h3.2⟩)
                  rcases Nat.lt_or_ge (i' + 1) n with h4 | h4
                  · exact h4
                  · have := HCH.out.2 _ h4
                    rw [h3.2] at this
                    cases this
                · exact Or.inr (Or.inl ⟨rfl, by simpa using h92⟩)
            clear HE2
            by_cases hpair : db = true ∧ p2 = true
            · obtain ⟨rfl, rfl⟩ := hpair
              have hpr : prB q c i' = true := by unfold prB; rw [hdl.2.1, HPP.out.1]; rfl
              have hen : enB q c i' = false := by rw [HEN.out.1, hpr]; simp
              have hmz1 : mz = 1 := by rw [← hdl.2.2.2.1]; exact HQD.out.one hdl.2.1
              have htk : tkN q c i' = 2 := by unfold tkN; rw [if_pos hpr, hdl.2.2.2.1, hmz1]
              have hle2 : i' + 2 ≤ n := by
                have h1 := HPP.out.1
                have h2 := oc_len HCH.out.2 (q.mark ++ q.mark) (byt_app' HQD.out.gd.byt) i' (fun e => HQD.out.gd.ne (List.append_eq_nil_iff.1 e).1) h1
                rw [List.length_append, hdl.2.2.2.1, hmz1] at h2
                omega
              obtain ⟨e, he⟩ : ∃ e, i' + 2 = e := ⟨_, rfl⟩
              have hst := lnE_step HQD.out.gd hlt hen (e := e) (by rw [htk]; omega)
              rw [hst, HWH.out] at hA'
              rw [hst] at hEE
              have hle := HLE.out e (by omega)
              rw [pt_more L' 7 (i := i') (e := e) (by omega) hle.1] at hA'
              have HN : Hid (pt (setL L' 7 (i' : Int) (e : Int)) (fun _ => q.inn) e (lnE q c n e) = A ∧ lnE q c n e = E) := ⟨by rw [HWH.out]; exact hA', hEE⟩
              have HEM : Hid (i' + 2 = e ∧ e ≤ n) := ⟨he, by omega⟩
              have ze : IntKind.i64.wrap ((i' : Int) + 2) = (e : Int) := by rw [Go.IntWalk.i64_in _ (by omega)]; omega
              have c5 := rput_any HB.out.1 hn 7 i' e HEM.out.2
              clear hst hle hA' hEE he
              clear hpr hen hmz1 htk hle2 hcx hdl cM HCX HEN HPP hnl
              have hno : (es = false ∨ (es = true ∧ (x == 92) = false) ∨ (es = true ∧ x = 92 ∧ lg = false ∧ i' + 1 < n ∧ c (i' + 1) = 10)) := HES.out
              clear HES
              rcases hno with rfl | ⟨rfl, k92⟩ | ⟨rfl, rfl, rfl, hn1, hc1⟩
              · cases lg with
                | true =>
                  go_wp2_with fail
                  refine cP.mono ?_
                  rintro ev w2 ⟨rfl, hw⟩
                  subst w2
                  clear cP
                  go_wp2_with fail
                  refine c5.mono ?_
                  rintro ev w5 ⟨rfl, h3, h4, h5⟩
                  have HE5 : Hid (LR w5 g n (setL L' 7 (i' : Int) (e : Int)) ∧ w.grownBy w5 (some g) ∧ w.heap.size ≤ w5.heap.size) := ⟨h3, grown_step HB.out.2.1 h4, Nat.le_trans HB.out.2.2 (Nat.le_of_eq h5.symm)⟩
                  have HC5 : Hid (w5.heap[BX]? = wr.heap[BX]?) := h4.block BX (by have := HBL.out; omega) (fun e => by have := Option.some.inj e; omega)
                  clear c5 h3 h4 h5
                  go_wp2
                  go_roundg (n - e)
                  case measure => have := HEM.out; omega
                  case rel => exact ⟨e, rfl, HEM.out.2, rfl, ⟨_, HE5.out.1, HE5.out.2.1, HE5.out.2.2, HN.out⟩, HC5.out.trans HBW.out⟩
                | false =>
                  have k10 : (x == 10) = false := by simpa using hnl2
                  go_wp2_with fail
                  refine cP.mono ?_
                  rintro ev w2 ⟨rfl, hw⟩
                  subst w2
                  clear cP
                  go_wp2_with fail
                  refine c5.mono ?_
                  rintro ev w5 ⟨rfl, h3, h4, h5⟩
                  have HE5 : Hid (LR w5 g n (setL L' 7 (i' : Int) (e : Int)) ∧ w.grownBy w5 (some g) ∧ w.heap.size ≤ w5.heap.size) := ⟨h3, grown_step HB.out.2.1 h4, Nat.le_trans HB.out.2.2 (Nat.le_of_eq h5.symm)⟩
                  have HC5 : Hid (w5.heap[BX]? = wr.heap[BX]?) := h4.block BX (by have := HBL.out; omega) (fun e => by have := Option.some.inj e; omega)
                  clear c5 h3 h4 h5
                  go_wp2
                  go_roundg (n - e)
                  case measure => have := HEM.out; omega
                  case rel => exact ⟨e, rfl, HEM.out.2, rfl, ⟨_, HE5.out.1, HE5.out.2.1, HE5.out.2.2, HN.out⟩, HC5.out.trans HBW.out⟩
              · cases lg with
                | true =>
                  go_wp2_with fail
                  refine cP.mono ?_
                  rintro ev w2 ⟨rfl, hw⟩
                  subst w2
                  clear cP
                  go_wp2_with fail
                  refine c5.mono ?_
                  rintro ev w5 ⟨rfl, h3, h4, h5⟩
                  have HE5 : Hid (LR w5 g n (setL L' 7 (i' : Int) (e : Int)) ∧ w.grownBy w5 (some g) ∧ w.heap.size ≤ w5.heap.size) := ⟨h3, grown_step HB.out.2.1 h4, Nat.le_trans HB.out.2.2 (Nat.le_of_eq h5.symm)⟩
                  have HC5 : Hid (w5.heap[BX]? = wr.heap[BX]?) := h4.block BX (by have := HBL.out; omega) (fun e => by have := Option.some.inj e; omega)
                  clear c5 h3 h4 h5
                  go_wp2
                  go_roundg (n - e)
                  case measure => have := HEM.out; omega
                  case rel => exact ⟨e, rfl, HEM.out.2, rfl, ⟨_, HE5.out.1, HE5.out.2.1, HE5.out.2.2, HN.out⟩, HC5.out.trans HBW.out⟩
                | false =>
                  have k10 : (x == 10) = false := by simpa using hnl2
                  go_wp2_with fail
                  refine cP.mono ?_
                  rintro ev w2 ⟨rfl, hw⟩
                  subst w2
                  clear cP
                  go_wp2_with fail
                  refine c5.mono ?_
                  rintro ev w5 ⟨rfl, h3, h4, h5⟩
                  have HE5 : Hid (LR w5 g n (setL L' 7 (i' : Int) (e : Int)) ∧ w.grownBy w5 (some g) ∧ w.heap.size ≤ w5.heap.size) := ⟨h3, grown_step HB.out.2.1 h4, Nat.le_trans HB.out.2.2 (Nat.le_of_eq h5.symm)⟩
                  have HC5 : Hid (w5.heap[BX]? = wr.heap[BX]?) := h4.block BX (by have := HBL.out; omega) (fun e => by have := Option.some.inj e; omega)
                  clear c5 h3 h4 h5
                  go_wp2
                  go_roundg (n - e)
                  case measure => have := HEM.out; omega
                  case rel => exact ⟨e, rfl, HEM.out.2, rfl, ⟨_, HE5.out.1, HE5.out.2.1, HE5.out.2.2, HN.out⟩, HC5.out.trans HBW.out⟩
              · have z6 : (i' : Int) + 1 < (n : Int) := by omega
                have z7 : i' + 1 < s.size := by omega
                have hx1 := HAT.out (i' + 1) z7
                rw [hc1] at hx1
                have z8 : (0 : Int) ≤ (i' : Int) + 1 := by omega
                clear hc1
                go_wp2_with fail
                refine cP.mono ?_
                rintro ev w2 ⟨rfl, hw⟩
                subst w2
                clear cP
                go_wp2_with fail
                refine c5.mono ?_
                rintro ev w5 ⟨rfl, h3, h4, h5⟩
                have HE5 : Hid (LR w5 g n (setL L' 7 (i' : Int) (e : Int)) ∧ w.grownBy w5 (some g) ∧ w.heap.size ≤ w5.heap.size) := ⟨h3, grown_step HB.out.2.1 h4, Nat.le_trans HB.out.2.2 (Nat.le_of_eq h5.symm)⟩
                have HC5 : Hid (w5.heap[BX]? = wr.heap[BX]?) := h4.block BX (by have := HBL.out; omega) (fun e => by have := Option.some.inj e; omega)
                clear c5 h3 h4 h5
                go_wp2
                go_roundg (n - e)
                case measure => have := HEM.out; omega
                case rel => exact ⟨e, rfl, HEM.out.2, rfl, ⟨_, HE5.out.1, HE5.out.2.1, HE5.out.2.2, HN.out⟩, HC5.out.trans HBW.out⟩
            · obtain ⟨pp, hpp⟩ : ∃ pp, (db && p2) = pp := ⟨_, rfl⟩
              have hppf : (db && p2) = false := by
                cases db <;> cases p2 <;> first | rfl | exact absurd ⟨rfl, rfl⟩ hpair
              have hpr : prB q c i' = false := by unfold prB; rw [hdl.2.1, HPP.out.1]; exact hppf
              have hen : enB q c i' = p1 := by rw [HEN.out.1, hpr, HPP.out.2]; simp
              cases p1 with
              | true =>
                rw [lnE_yes hen] at hA' hEE
                rw [pt_none _ _ (Nat.le_refl _)] at hA'
                have hAA : L' = A := hA'
                have hoc := HPP.out.2
                obtain ⟨e, he⟩ : ∃ e, i' + mz = e := ⟨_, rfl⟩
                have ze : IntKind.i64.wrap ((i' : Int) + (mz : Int)) = (e : Int) := by rw [Go.IntWalk.i64_in _ (by have := hdl.2.2.2.2; omega)]; omega
                have HFN : Hid (RPq w g n A (if oc q.mark c E = true then E + mz else E) (.returned (.int .i64 (e : Nat))) wr) := by
                  show RPq w g n A _ _ wr
                  rw [← hEE, hoc, if_pos rfl, he]
                  exact ⟨rfl, hAA ▸ HB.out.1, HB.out.2.1, HB.out.2.2⟩
                clear hA' hEE hen hcx hdl hAA hoc he hpr HCX HEN HPP hnl hpp
                have hno : (es = false ∨ (es = true ∧ (x == 92) = false) ∨ (es = true ∧ x = 92 ∧ lg = false ∧ i' + 1 < n ∧ c (i' + 1) = 10)) := HES.out
                clear HES
                rcases hno with rfl | ⟨rfl, k92⟩ | ⟨rfl, rfl, rfl, hn1, hc1⟩
                · cases lg with
                  | true =>
                    cases db with
                    | true =>
                      have e2 : p2 = false := by simpa using hppf
                      subst e2
                      go_wp2_with fail
                      refine cP.mono ?_
                      rintro ev w2 ⟨rfl, hw⟩
                      subst w2
                      clear cP
                      go_wp2_with fail
                      refine cM.mono ?_
                      rintro ev w2 ⟨rfl, hw⟩
                      subst w2
                      clear cM
                      go_wp2
                      rw [← HQ.out]
                      exact HFN.out
                    | false =>
                      clear cP
                      go_wp2_with fail
                      refine cM.mono ?_
                      rintro ev w2 ⟨rfl, hw⟩
                      subst w2
                      clear cM
                      go_wp2
                      rw [← HQ.out]
                      exact HFN.out
                  | false =>
                    have k10 : (x == 10) = false := by simpa using hnl2
                    cases db with
                    | true =>
                      have e2 : p2 = false := by simpa using hppf
                      subst e2
                      go_wp2_with fail
                      refine cP.mono ?_
                      rintro ev w2 ⟨rfl, hw⟩
                      subst w2
                      clear cP
                      go_wp2_with fail
                      refine cM.mono ?_
                      rintro ev w2 ⟨rfl, hw⟩
                      subst w2
                      clear cM
                      go_wp2
                      rw [← HQ.out]
                      exact HFN.out
                    | false =>
                      clear cP
                      go_wp2_with fail
                      refine cM.mono ?_
                      rintro ev w2 ⟨rfl, hw⟩
                      subst w2
                      clear cM
                      go_wp2
                      rw [← HQ.out]
                      exact HFN.out
                · cases lg with
                  | true =>
                    cases db with
                    | true =>
                      have e2 : p2 = false := by simpa using hppf
                      subst e2
                      go_wp2_with fail
                      refine cP.mono ?_
                      rintro ev w2 ⟨rfl, hw⟩
                      subst w2
                      clear cP
                      go_wp2_with fail
                      refine cM.mono ?_
                      rintro ev w2 ⟨rfl, hw⟩
                      subst w2
                      clear cM
                      go_wp2
                      rw [← HQ.out]
                      exact HFN.out
                    | false =>
                      clear cP
                      go_wp2_with fail
                      refine cM.mono ?_
                      rintro ev w2 ⟨rfl, hw⟩
                      subst w2
                      clear cM
                      go_wp2
                      rw [← HQ.out]
                      exact HFN.out
                  | false =>
                    have k10 : (x == 10) = false := by simpa using hnl2
                    cases db with
                    | true =>
                      have e2 : p2 = false := by simpa using hppf
                      subst e2
                      go_wp2_with fail
                      refine cP.mono ?_
                      rintro ev w2 ⟨rfl, hw⟩
                      subst w2
                      clear cP
                      go_wp2_with fail
                      refine cM.mono ?_
                      rintro ev w2 ⟨rfl, hw⟩
                      subst w2
                      clear cM
                      go_wp2
                      rw [← HQ.out]
                      exact HFN.out
                    | false =>
                      clear cP
                      go_wp2_with fail
                      refine cM.mono ?_
                      rintro ev w2 ⟨rfl, hw⟩
                      subst w2
                      clear cM
                      go_wp2
                      rw [← HQ.out]
                      exact HFN.out
                · have z6 : (i' : Int) + 1 < (n : Int) := by omega
                  have z7 : i' + 1 < s.size := by omega
                  have hx1 := HAT.out (i' + 1) z7
                  rw [hc1] at hx1
                  have z8 : (0 : Int) ≤ (i' : Int) + 1 := by omega
                  clear hc1
                  cases db with
                  | true =>
                    have e2 : p2 = false := by simpa using hppf
                    subst e2
                    go_wp2_with fail
                    refine cP.mono ?_
                    rintro ev w2 ⟨rfl, hw⟩
                    subst w2
                    clear cP
                    go_wp2_with fail
                    refine cM.mono ?_
                    rintro ev w2 ⟨rfl, hw⟩
                    subst w2
                    clear cM
                    go_wp2
                    rw [← HQ.out]
                    exact HFN.out
                  | false =>
                    clear cP
                    go_wp2_with fail
                    refine cM.mono ?_
                    rintro ev w2 ⟨rfl, hw⟩
                    subst w2
                    clear cM
                    go_wp2
                    rw [← HQ.out]
                    exact HFN.out
              | false =>
                have htk : tkN q c i' = 1 := by unfold tkN; rw [if_neg (by rw [hpr]; exact Bool.false_ne_true), if_neg (by rw [HEN.out.2]; exact Bool.false_ne_true)]
                obtain ⟨e, he⟩ : ∃ e, i' + 1 = e := ⟨_, rfl⟩
                have hst := lnE_step HQD.out.gd hlt hen (e := e) (by rw [htk]; omega)
                rw [hst, HWH.out] at hA'
                rw [hst] at hEE
                have hle := HLE.out e (by omega)
                rw [pt_more L' 7 (i := i') (e := e) (by omega) hle.1] at hA'
                have HN : Hid (pt (setL L' 7 (i' : Int) (e : Int)) (fun _ => q.inn) e (lnE q c n e) = A ∧ lnE q c n e = E) := ⟨by rw [HWH.out]; exact hA', hEE⟩
                have HEM : Hid (i' + 1 = e ∧ e ≤ n) := ⟨he, by omega⟩
                have ze : IntKind.i64.wrap ((i' : Int) + 1) = (e : Int) := by rw [Go.IntWalk.i64_in _ (by omega)]; omega
                have c5 := rput_any HB.out.1 hn 7 i' e HEM.out.2
                clear hst hle hA' hEE he
                clear hen hcx hdl hpr htk HCX HEN HPP hnl hpp
                have hno : (es = false ∨ (es = true ∧ (x == 92) = false) ∨ (es = true ∧ x = 92 ∧ lg = false ∧ i' + 1 < n ∧ c (i' + 1) = 10)) := HES.out
                clear HES
                rcases hno with rfl | ⟨rfl, k92⟩ | ⟨rfl, rfl, rfl, hn1, hc1⟩
                · cases lg with
                  | true =>
                    cases db with
                    | true =>
                      have e2 : p2 = false := by simpa using hppf
                      subst e2
                      go_wp2_with fail
                      refine cP.mono ?_
                      rintro ev w2 ⟨rfl, hw⟩
                      subst w2
                      clear cP
                      go_wp2_with fail
                      refine cM.mono ?_
                      rintro ev w2 ⟨rfl, hw⟩
                      subst w2
                      clear cM
                      go_wp2_with fail
                      refine c5.mono ?_
                      rintro ev w5 ⟨rfl, h3, h4, h5⟩
                      have HE5 : Hid (LR w5 g n (setL L' 7 (i' : Int) (e : Int)) ∧ w.grownBy w5 (some g) ∧ w.heap.size ≤ w5.heap.size) := ⟨h3, grown_step HB.out.2.1 h4, Nat.le_trans HB.out.2.2 (Nat.le_of_eq h5.symm)⟩
                      have HC5 : Hid (w5.heap[BX]? = wr.heap[BX]?) := h4.block BX (by have := HBL.out; omega) (fun e => by have := Option.some.inj e; omega)
                      clear c5 h3 h4 h5
                      go_wp2
                      go_roundg (n - e)
                      case measure => have := HEM.out; omega
                      case rel => exact ⟨e, rfl, HEM.out.2, rfl, ⟨_, HE5.out.1, HE5.out.2.1, HE5.out.2.2, HN.out⟩, HC5.out.trans HBW.out⟩
                    | false =>
                      clear cP
                      go_wp2_with fail
                      refine cM.mono ?_
                      rintro ev w2 ⟨rfl, hw⟩
                      subst w2
                      clear cM
                      go_wp2_with fail
                      refine c5.mono ?_
                      rintro ev w5 ⟨rfl, h3, h4, h5⟩
                      have HE5 : Hid (LR w5 g n (setL L' 7 (i' : Int) (e : Int)) ∧ w.grownBy w5 (some g) ∧ w.heap.size ≤ w5.heap.size) := ⟨h3, grown_step HB.out.2.1 h4, Nat.le_trans HB.out.2.2 (Nat.le_of_eq h5.symm)⟩
                      have HC5 : Hid (w5.heap[BX]? = wr.heap[BX]?) := h4.block BX (by have := HBL.out; omega) (fun e => by have := Option.some.inj e; omega)
                      clear c5 h3 h4 h5
                      go_wp2
                      go_roundg (n - e)
                      case measure => have := HEM.out; omega
                      case rel => exact ⟨e, rfl, HEM.out.2, rfl, ⟨_, HE5.out.1, HE5.out.2.1, HE5.out.2.2, HN.out⟩, HC5.out.trans HBW.out⟩
                  | false =>
                    have k10 : (x == 10) = false := by simpa using hnl2
                    cases db with
                    | true =>
                      have e2 : p2 = false := by simpa using hppf
                      subst e2
                      go_wp2_with fail
                      refine cP.mono ?_
                      rintro ev w2 ⟨rfl, hw⟩
                      subst w2
                      clear cP
                      go_wp2_with fail
                      refine cM.mono ?_
                      rintro ev w2 ⟨rfl, hw⟩
                      subst w2
                      clear cM
                      go_wp2_with fail
                      refine c5.mono ?_
                      rintro ev w5 ⟨rfl, h3, h4, h5⟩
                      have HE5 : Hid (LR w5 g n (setL L' 7 (i' : Int) (e : Int)) ∧ w.grownBy w5 (some g) ∧ w.heap.size ≤ w5.heap.size) := ⟨h3, grown_step HB.out.2.1 h4, Nat.le_trans HB.out.2.2 (Nat.le_of_eq h5.symm)⟩
                      have HC5 : Hid (w5.heap[BX]? = wr.heap[BX]?) := h4.block BX (by have := HBL.out; omega) (fun e => by have := Option.some.inj e; omega)
                      clear c5 h3 h4 h5
                      go_wp2
                      go_roundg (n - e)
                      case measure => have := HEM.out; omega
                      case rel => exact ⟨e, rfl, HEM.out.2, rfl, ⟨_, HE5.out.1, HE5.out.2.1, HE5.out.2.2, HN.out⟩, HC5.out.trans HBW.out⟩
                    | false =>
                      clear cP
                      go_wp2_with fail
                      refine cM.mono ?_
                      rintro ev w2 ⟨rfl, hw⟩
                      subst w2
                      clear cM
                      go_wp2_with fail
                      refine c5.mono ?_
                      rintro ev w5 ⟨rfl, h3, h4, h5⟩
                      have HE5 : Hid (LR w5 g n (setL L' 7 (i' : Int) (e : Int)) ∧ w.grownBy w5 (some g) ∧ w.heap.size ≤ w5.heap.size) := ⟨h3, grown_step HB.out.2.1 h4, Nat.le_trans HB.out.2.2 (Nat.le_of_eq h5.symm)⟩
                      have HC5 : Hid (w5.heap[BX]? = wr.heap[BX]?) := h4.block BX (by have := HBL.out; omega) (fun e => by have := Option.some.inj e; omega)
                      clear c5 h3 h4 h5
                      go_wp2
                      go_roundg (n - e)
                      case measure => have := HEM.out; omega
                      case rel => exact ⟨e, rfl, HEM.out.2, rfl, ⟨_, HE5.out.1, HE5.out.2.1, HE5.out.2.2, HN.out⟩, HC5.out.trans HBW.out⟩
                · cases lg with
                  | true =>
                    cases db with
                    | true =>
                      have e2 : p2 = false := by simpa using hppf
                      subst e2
                      go_wp2_with fail
                      refine cP.mono ?_
                      rintro ev w2 ⟨rfl, hw⟩
                      subst w2
                      clear cP
                      go_wp2_with fail
                      refine cM.mono ?_
                      rintro ev w2 ⟨rfl, hw⟩
                      subst w2
                      clear cM
                      go_wp2_with fail
                      refine c5.mono ?_
                      rintro ev w5 ⟨rfl, h3, h4, h5⟩
                      have HE5 : Hid (LR w5 g n (setL L' 7 (i' : Int) (e : Int)) ∧ w.grownBy w5 (some g) ∧ w.heap.size ≤ w5.heap.size) := ⟨h3, grown_step HB.out.2.1 h4, Nat.le_trans HB.out.2.2 (Nat.le_of_eq h5.symm)⟩
                      have HC5 : Hid (w5.heap[BX]? = wr.heap[BX]?) := h4.block BX (by have := HBL.out; omega) (fun e => by have := Option.some.inj e; omega)
                      clear c5 h3 h4 h5
                      go_wp2
                      go_roundg (n - e)
                      case measure => have := HEM.out; omega
                      case rel => exact ⟨e, rfl, HEM.out.2, rfl, ⟨_, HE5.out.1, HE5.out.2.1, HE5.out.2.2, HN.out⟩, HC5.out.trans HBW.out⟩
                    | false =>
                      clear cP
                      go_wp2_with fail
                      refine cM.mono ?_
                      rintro ev w2 ⟨rfl, hw⟩
                      subst w2
                      clear cM
                      go_wp2_with fail
                      refine c5.mono ?_
                      rintro ev w5 ⟨rfl, h3, h4, h5⟩
                      have HE5 : Hid (LR w5 g n (setL L' 7 (i' : Int) (e : Int)) ∧ w.grownBy w5 (some g) ∧ w.heap.size ≤ w5.heap.size) := ⟨h3, grown_step HB.out.2.1 h4, Nat.le_trans HB.out.2.2 (Nat.le_of_eq h5.symm)⟩
                      have HC5 : Hid (w5.heap[BX]? = wr.heap[BX]?) := h4.block BX (by have := HBL.out; omega) (fun e => by have := Option.some.inj e; omega)
                      clear c5 h3 h4 h5
                      go_wp2
                      go_roundg (n - e)
                      case measure => have := HEM.out; omega
                      case rel => exact ⟨e, rfl, HEM.out.2, rfl, ⟨_, HE5.out.1, HE5.out.2.1, HE5.out.2.2, HN.out⟩, HC5.out.trans HBW.out⟩
                  | false =>
                    have k10 : (x == 10) = false := by simpa using hnl2
                    cases db with
                    | true =>
                      have e2 : p2 = false := by simpa using hppf
                      subst e2
                      go_wp2_with fail
                      refine cP.mono ?_
                      rintro ev w2 ⟨rfl, hw⟩
                      subst w2
                      clear cP
                      go_wp2_with fail
                      refine cM.mono ?_
                      rintro ev w2 ⟨rfl, hw⟩
                      subst w2
                      clear cM
                      go_wp2_with fail
                      refine c5.mono ?_
                      rintro ev w5 ⟨rfl, h3, h4, h5⟩
                      have HE5 : Hid (LR w5 g n (setL L' 7 (i' : Int) (e : Int)) ∧ w.grownBy w5 (some g) ∧ w.heap.size ≤ w5.heap.size) := ⟨h3, grown_step HB.out.2.1 h4, Nat.le_trans HB.out.2.2 (Nat.le_of_eq h5.symm)⟩
                      have HC5 : Hid (w5.heap[BX]? = wr.heap[BX]?) := h4.block BX (by have := HBL.out; omega) (fun e => by have := Option.some.inj e; omega)
                      clear c5 h3 h4 h5
                      go_wp2
                      go_roundg (n - e)
                      case measure => have := HEM.out; omega
                      case rel => exact ⟨e, rfl, HEM.out.2, rfl, ⟨_, HE5.out.1, HE5.out.2.1, HE5.out.2.2, HN.out⟩, HC5.out.trans HBW.out⟩
                    | false =>
                      clear cP
                      go_wp2_with fail
                      refine cM.mono ?_
                      rintro ev w2 ⟨rfl, hw⟩
                      subst w2
                      clear cM
                      go_wp2_with fail
                      refine c5.mono ?_
                      rintro ev w5 ⟨rfl, h3, h4, h5⟩
                      have HE5 : Hid (LR w5 g n (setL L' 7 (i' : Int) (e : Int)) ∧ w.grownBy w5 (some g) ∧ w.heap.size ≤ w5.heap.size) := ⟨h3, grown_step HB.out.2.1 h4, Nat.le_trans HB.out.2.2 (Nat.le_of_eq h5.symm)⟩
                      have HC5 : Hid (w5.heap[BX]? = wr.heap[BX]?) := h4.block BX (by have := HBL.out; omega) (fun e => by have := Option.some.inj e; omega)
                      clear c5 h3 h4 h5
                      go_wp2
                      go_roundg (n - e)
                      case measure => have := HEM.out; omega
                      case rel => exact ⟨e, rfl, HEM.out.2, rfl, ⟨_, HE5.out.1, HE5.out.2.1, HE5.out.2.2, HN.out⟩, HC5.out.trans HBW.out⟩
                · have z6 : (i' : Int) + 1 < (n : Int) := by omega
                  have z7 : i' + 1 < s.size := by omega
                  have hx1 := HAT.out (i' + 1) z7
                  rw [hc1] at hx1
                  have z8 : (0 : Int) ≤ (i' : Int) + 1 := by omega
                  clear hc1
                  have z9 : (e : Int) < (n : Int) := by have := HEM.out; omega
                  have z10 : e < s.size := by have := HEM.out; omega
                  have z11 : ¬ s.size ≤ e := by omega
                  have z12 : (0 : Int) ≤ (e : Int) := by omega
                  have hx2 : ((s[e]'z10).toNat : Int) = 10 := by have h := HEM.out.1; subst h; exact hx1
                  cases db with
                  | true =>
                    have e2 : p2 = false := by simpa using hppf
                    subst e2
                    go_wp2_with fail
                    refine cP.mono ?_
                    rintro ev w2 ⟨rfl, hw⟩
                    subst w2
                    clear cP
                    go_wp2_with fail
                    refine cM.mono ?_
                    rintro ev w2 ⟨rfl, hw⟩
                    subst w2
                    clear cM
                    go_wp2_with fail
                    refine c5.mono ?_
                    rintro ev w5 ⟨rfl, h3, h4, h5⟩
                    have HE5 : Hid (LR w5 g n (setL L' 7 (i' : Int) (e : Int)) ∧ w.grownBy w5 (some g) ∧ w.heap.size ≤ w5.heap.size) := ⟨h3, grown_step HB.out.2.1 h4, Nat.le_trans HB.out.2.2 (Nat.le_of_eq h5.symm)⟩
                    have HC5 : Hid (w5.heap[BX]? = wr.heap[BX]?) := h4.block BX (by have := HBL.out; omega) (fun e => by have := Option.some.inj e; omega)
                    clear c5 h3 h4 h5
                    go_wp2
                    go_roundg (n - e)
                    case measure => have := HEM.out; omega
                    case rel => exact ⟨e, rfl, HEM.out.2, rfl, ⟨_, HE5.out.1, HE5.out.2.1, HE5.out.2.2, HN.out⟩, HC5.out.trans HBW.out⟩
                  | false =>
                    clear cP
                    go_wp2_with fail
                    refine cM.mono ?_
                    rintro ev w2 ⟨rfl, hw⟩
                    subst w2
                    clear cM
                    go_wp2_with fail
                    refine c5.mono ?_
                    rintro ev w5 ⟨rfl, h3, h4, h5⟩
                    have HE5 : Hid (LR w5 g n (setL L' 7 (i' : Int) (e : Int)) ∧ w.grownBy w5 (some g) ∧ w.heap.size ≤ w5.heap.size) := ⟨h3, grown_step HB.out.2.1 h4, Nat.le_trans HB.out.2.2 (Nat.le_of_eq h5.symm)⟩
                    have HC5 : Hid (w5.heap[BX]? = wr.heap[BX]?) := h4.block BX (by have := HBL.out; omega) (fun e => by have := Option.some.inj e; omega)
                    clear c5 h3 h4 h5
                    go_wp2
                    go_roundg (n - e)
                    case measure => have := HEM.out; omega
                    case rel => exact ⟨e, rfl, HEM.out.2, rfl, ⟨_, HE5.out.1, HE5.out.2.1, HE5.out.2.2, HN.out⟩, HC5.out.trans HBW.out⟩
      · have z2 : ¬ (i' : Int) < (n : Int) := by omega
        have hin : i' = n := by omega
        rw [lnE_end q c (by omega)] at hA' hEE
        rw [pt_none _ _ (Nat.le_refl _)] at hA'
        have hAA : L' = A := hA'
        have hoc : oc q.mark c n = false := by
          cases h : oc q.mark c n with
          | false => rfl
          | true =>
            have := oc_len HCH.out.2 q.mark HQD.out.gd.byt n HQD.out.gd.ne h
            have := HQD.out.gd.pos
            omega
        have HFN : Hid (RPq w g n A (if oc q.mark c E = true then E + mz else E) (.returned (.int .i64 (n : Nat))) wr) := by
          show RPq w g n A _ _ wr
          rw [← hEE, hin, hoc, if_neg Bool.false_ne_true]
          exact ⟨rfl, hAA ▸ HB.out.1, HB.out.2.1, HB.out.2.2⟩
        clear hA' hEE hAA hoc hin
        go_wp2
        rw [← HQ.out]
        exact HFN.out
  | false =>
    rw [if_neg Bool.false_ne_true] at hwi
    subst hwi
    go_enter Try.func27, Try.ntmps27
    go_wp2_with fail
    clear hW v0 v1 v2 v3 v4
    go_loopg [2] (n - a) (fun qq iv wr => ∃ i' : Nat, qq = n - i' ∧ i' ≤ n ∧ iv = .int .i64 i' ∧ Hid (RS w g n q c A E i' wr) ∧ Hid (wr.heap[BX]? = W.heap[BX]?))
    case atStart => exact ⟨a, rfl, han, by go_num, ⟨L, HW.out.1, HW.out.2.1, HW.out.2.2, HA.out⟩, rfl⟩
    case round =>
      obtain ⟨i', hqq, hi', rfl, HXX, HBW⟩ := hrel
      obtain ⟨L', hL', hg', hz', hA', hEE⟩ := HXX.out
      have HB : Hid (LR wr g n L' ∧ w.grownBy wr (some g) ∧ w.heap.size ≤ wr.heap.size) := ⟨hL', hg', hz'⟩
      have hce : ∀ k, wr.cell? ⟨BX, k, none⟩ = W.cell? ⟨BX, k, none⟩ := fun k => by simp only [World.cell?, HBW.out]
      obtain ⟨v0, v1, v2, v3, v4⟩ : wr.cell? ⟨BX, 0, none⟩ = some (.string M) ∧ wr.cell? ⟨BX, 1, none⟩ = some (.bool es) ∧ wr.cell? ⟨BX, 2, none⟩ = some (.bool db) ∧ wr.cell? ⟨BX, 3, none⟩ = some (.bool lg) ∧ wr.cell? ⟨BX, 4, none⟩ = some (.bool false) := by
        rw [hce, hce, hce, hce, hce]
        exact HCL.out
      have HBL : Hid (BX < wr.heap.size) := World.block_lt_of_cell? wr _ v0
      clear HXX hL' hg' hz' hce
      by_cases hlt : i' < n
      · have z2 : (i' : Int) < (n : Int) := by omega
        have z3 : (0 : Int) ≤ (i' : Int) := by omega
        have z4 : i' < s.size := by omega
        have z5 : ¬ s.size ≤ i' := by omega
        have hx := HAT.out i' z4
        have cM := CM.out wr i' hi'
        have cP := CP.out wr i' hi'
        have hdl := HF.out
        obtain ⟨x, hcx⟩ : ∃ x, c i' = x := ⟨_, rfl⟩
        rw [hcx] at hx
        by_cases hnl : x = 10 ∧ lg = false
        · obtain ⟨rfl, rfl⟩ := hnl
          have hen : enB q c i' = true := by unfold enB; rw [hcx, hdl.2.2.1]; rfl
          have hoc := (HQD.out.hd c i' (Or.inl hcx)).1
          rw [lnE_yes hen] at hA' hEE
          rw [pt_none _ _ (Nat.le_refl _)] at hA'
          have hAA : L' = A := hA'
          have HFN : Hid (RPq w g n A (if oc q.mark c E = true then E + mz else E) (.returned (.int .i64 (i' : Nat))) wr) := by
            show RPq w g n A _ _ wr
            rw [← hEE, hoc, if_neg Bool.false_ne_true]
            exact ⟨rfl, hAA ▸ HB.out.1, HB.out.2.1, HB.out.2.2⟩
          clear hA' hEE hen hoc hcx hdl cM cP hAA
          go_wp2
          rw [← HQ.out]
          exact HFN.out
        · have hnl2 : (!lg && x == 10) = false := by
            cases lg with
            | true => rfl
            | false =>
              have : (x == 10) = false := by simpa using fun e => hnl ⟨e, rfl⟩
              rw [this]
              rfl
          have hen1 : (c i' == 10 && !q.lng) = false := by rw [hcx, hdl.2.2.1, Bool.and_comm]; exact hnl2
          by_cases he92 : es = true ∧ x = 92 ∧ (lg = true ∨ c (i' + 1) ≠ 10)
          · obtain ⟨rfl, rfl, hll⟩ := he92
            have hh := HQD.out.hd c i' (Or.inr hcx)
            have hen : enB q c i' = false := by unfold enB; rw [hen1, hh.1]; rfl
            have hpr : prB q c i' = false := by unfold prB; rw [hh.2]; simp
            have hes : esB q c i' = true := by
              unfold esB
              rw [hdl.1, hcx, hdl.2.2.1]
              rcases hll with h | h
              · rw [h]; rfl
              · have : (c (i' + 1) == 10) = false := by simpa using h
                rw [this]
                simp
            have htk : tkN q c i' = 2 := by unfold tkN; rw [if_neg (by rw [hpr]; exact Bool.false_ne_true), if_pos hes]
            by_cases hn1 : i' + 1 < n
            · have z6 : (i' : Int) + 1 < (n : Int) := by omega
              have z7 : i' + 1 < s.size := by omega
              have hx1 := HAT.out (i' + 1) z7
              have z8 : (0 : Int) ≤ (i' : Int) + 1 := by omega
              obtain ⟨x1, hcx1⟩ : ∃ x, c (i' + 1) = x := ⟨_, rfl⟩
              rw [hcx1] at hx1 hll
              obtain ⟨e, he⟩ : ∃ e, i' + 2 = e := ⟨_, rfl⟩
              have hst := lnE_step HQD.out.gd hlt hen (e := e) (by rw [htk]; omega)
              rw [hst, HWH.out] at hA'
              rw [hst] at hEE
              have hle := HLE.out e (by omega)
              rw [pt_more L' 5 (i := i') (e := e) (by omega) hle.1] at hA'
              have HN : Hid (pt (setL L' 5 (i' : Int) (e : Int)) (fun _ => q.inn) e (lnE q c n e) = A ∧ lnE q c n e = E) := ⟨by rw [HWH.out]; exact hA', hEE⟩
              have HEM : Hid (i' + 2 = e ∧ e ≤ n) := ⟨he, by omega⟩
              have ze : IntKind.i64.wrap ((i' : Int) + 2) = (e : Int) := by rw [Go.IntWalk.i64_in _ (by omega)]; omega
              have c5 := rput_any HB.out.1 hn 5 i' e HEM.out.2
              clear hst hle hA' hEE he
              clear hen hpr hes htk hh hen1 hcx hdl cM cP hcx1 hnl
              cases lg with
              | true =>
                go_wp2_with fail
                refine c5.mono ?_
                rintro ev w5 ⟨rfl, h3, h4, h5⟩
                have HE5 : Hid (LR w5 g n (setL L' 5 (i' : Int) (e : Int)) ∧ w.grownBy w5 (some g) ∧ w.heap.size ≤ w5.heap.size) := ⟨h3, grown_step HB.out.2.1 h4, Nat.le_trans HB.out.2.2 (Nat.le_of_eq h5.symm)⟩
                have HC5 : Hid (w5.heap[BX]? = wr.heap[BX]?) := h4.block BX (by have := HBL.out; omega) (fun e => by have := Option.some.inj e; omega)
                clear c5 h3 h4 h5
                go_wp2
                go_roundg (n - e)
                case measure => have := HEM.out; omega
                case rel => exact ⟨e, rfl, HEM.out.2, rfl, ⟨_, HE5.out.1, HE5.out.2.1, HE5.out.2.2, HN.out⟩, HC5.out.trans HBW.out⟩
              | false =>
                have k10 : (x1 != 10) = true := by
                  rcases hll with h | h
                  · cases h
                  · simpa using h
                go_wp2_with fail
                refine c5.mono ?_
                rintro ev w5 ⟨rfl, h3, h4, h5⟩
                have HE5 : Hid (LR w5 g n (setL L' 5 (i' : Int) (e : Int)) ∧ w.grownBy w5 (some g) ∧ w.heap.size ≤ w5.heap.size) := ⟨h3, grown_step HB.out.2.1 h4, Nat.le_trans HB.out.2.2 (Nat.le_of_eq h5.symm)⟩
                have HC5 : Hid (w5.heap[BX]? = wr.heap[BX]?) := h4.block BX (by have := HBL.out; omega) (fun e => by have := Option.some.inj e; omega)
                clear c5 h3 h4 h5
                go_wp2
                go_roundg (n - e)
                case measure => have := HEM.out; omega
                case rel => exact ⟨e, rfl, HEM.out.2, rfl, ⟨_, HE5.out.1, HE5.out.2.1, HE5.out.2.2, HN.out⟩, HC5.out.trans HBW.out⟩
            · have z6 : ¬ (i' : Int) + 1 < (n : Int) := by omega
              have hin : i' + 1 = n := by omega
              have hoc := hh.1
              have hop := hh.2
              rw [hoc] at cM
              rw [hop] at cP
              obtain ⟨e, he⟩ : ∃ e, i' + 1 = e := ⟨_, rfl⟩
              have hst := lnE_step HQD.out.gd hlt hen (e := e) (by rw [htk]; omega)
              rw [hst, HWH.out] at hA'
              rw [hst] at hEE
              have hle := HLE.out e (by omega)
              rw [pt_more L' 5 (i := i') (e := e) (by omega) hle.1] at hA'
              have HN : Hid (pt (setL L' 5 (i' : Int) (e : Int)) (fun _ => q.inn) e (lnE q c n e) = A ∧ lnE q c n e = E) := ⟨by rw [HWH.out]; exact hA', hEE⟩
              have HEM : Hid (i' + 1 = e ∧ e ≤ n) := ⟨he, by omega⟩
              have ze : IntKind.i64.wrap ((i' : Int) + 1) = (e : Int) := by rw [Go.IntWalk.i64_in _ (by omega)]; omega
              have c5 := rput_any HB.out.1 hn 5 i' e HEM.out.2
              clear hst hle hA' hEE he
              have z9 : ¬ (e : Int) < (n : Int) := by have := HEM.out; omega
              clear hen hpr hes htk hh hen1 hcx hdl hin hoc hop hnl hll
              cases db with
              | true =>
                cases lg with
                | true =>
                  go_wp2_with fail
                  refine cP.mono ?_
                  rintro ev w2 ⟨rfl, hw⟩
                  subst w2
                  go_wp2_with fail
                  refine cM.mono ?_
                  rintro ev w2 ⟨rfl, hw⟩
                  subst w2
                  clear cM cP
                  go_wp2_with fail
                  refine c5.mono ?_
                  rintro ev w5 ⟨rfl, h3, h4, h5⟩
                  have HE5 : Hid (LR w5 g n (setL L' 5 (i' : Int) (e : Int)) ∧ w.grownBy w5 (some g) ∧ w.heap.size ≤ w5.heap.size) := ⟨h3, grown_step HB.out.2.1 h4, Nat.le_trans HB.out.2.2 (Nat.le_of_eq h5.symm)⟩
                  have HC5 : Hid (w5.heap[BX]? = wr.heap[BX]?) := h4.block BX (by have := HBL.out; omega) (fun e => by have := Option.some.inj e; omega)
                  clear c5 h3 h4 h5
                  go_wp2
                  go_roundg (n - e)
                  case measure => have := HEM.out; omega
                  case rel => exact ⟨e, rfl, HEM.out.2, rfl, ⟨_, HE5.out.1, HE5.out.2.1, HE5.out.2.2, HN.out⟩, HC5.out.trans HBW.out⟩
                | false =>
                  go_wp2_with fail
                  refine cP.mono ?_
                  rintro ev w2 ⟨rfl, hw⟩
                  subst w2
                  go_wp2_with fail
                  refine cM.mono ?_
                  rintro ev w2 ⟨rfl, hw⟩
                  subst w2
                  clear cM cP
                  go_wp2_with fail
                  refine c5.mono ?_
                  rintro ev w5 ⟨rfl, h3, h4, h5⟩
                  have HE5 : Hid (LR w5 g n (setL L' 5 (i' : Int) (e : Int)) ∧ w.grownBy w5 (some g) ∧ w.heap.size ≤ w5.heap.size) := ⟨h3, grown_step HB.out.2.1 h4, Nat.le_trans HB.out.2.2 (Nat.le_of_eq h5.symm)⟩
                  have HC5 : Hid (w5.heap[BX]? = wr.heap[BX]?) := h4.block BX (by have := HBL.out; omega) (fun e => by have := Option.some.inj e; omega)
                  clear c5 h3 h4 h5
                  go_wp2
                  go_roundg (n - e)
                  case measure => have := HEM.out; omega
                  case rel => exact ⟨e, rfl, HEM.out.2, rfl, ⟨_, HE5.out.1, HE5.out.2.1, HE5.out.2.2, HN.out⟩, HC5.out.trans HBW.out⟩
              | false =>
                cases lg with
                | true =>
                  clear cP
                  go_wp2_with fail
                  refine cM.mono ?_
                  rintro ev w2 ⟨rfl, hw⟩
                  subst w2
                  clear cM
                  go_wp2_with fail
                  refine c5.mono ?_
                  rintro ev w5 ⟨rfl, h3, h4, h5⟩
                  have HE5 : Hid (LR w5 g n (setL L' 5 (i' : Int) (e : Int)) ∧ w.grownBy w5 (some g) ∧ w.heap.size ≤ w5.heap.size) := ⟨h3, grown_step HB.out.2.1 h4, Nat.le_trans HB.out.2.2 (Nat.le_of_eq h5.symm)⟩
                  have HC5 : Hid (w5.heap[BX]? = wr.heap[BX]?) := h4.block BX (by have := HBL.out; omega) (fun e => by have := Option.some.inj e; omega)
                  clear c5 h3 h4 h5
                  go_wp2
                  go_roundg (n - e)
                  case measure => have := HEM.out; omega
                  case rel => exact ⟨e, rfl, HEM.out.2, rfl, ⟨_, HE5.out.1, HE5.out.2.1, HE5.out.2.2, HN.out⟩, HC5.out.trans HBW.out⟩
                | false =>
                  clear cP
                  go_wp2_with fail
                  refine cM.mono ?_
                  rintro ev w2 ⟨rfl, hw⟩
                  subst w2
                  clear cM
                  go_wp2_with fail
                  refine c5.mono ?_
                  rintro ev w5 ⟨rfl, h3, h4, h5⟩
                  have HE5 : Hid (LR w5 g n (setL L' 5 (i' : Int) (e : Int)) ∧ w.grownBy w5 (some g) ∧ w.heap.size ≤ w5.heap.size) := ⟨h3, grown_step HB.out.2.1 h4, Nat.le_trans HB.out.2.2 (Nat.le_of_eq h5.symm)⟩
                  have HC5 : Hid (w5.heap[BX]? = wr.heap[BX]?) := h4.block BX (by have := HBL.out; omega) (fun e => by have := Option.some.inj e; omega)
                  clear c5 h3 h4 h5
                  go_wp2
                  go_roundg (n - e)
                  case measure => have := HEM.out; omega
                  case rel => exact ⟨e, rfl, HEM.out.2, rfl, ⟨_, HE5.out.1, HE5.out.2.1, HE5.out.2.2, HN.out⟩, HC5.out.trans HBW.out⟩
          · have hes : esB q c i' = false := by
              cases h : esB q c i' with
              | false => rfl
              | true =>
                unfold esB at h
                rw [hdl.1, hcx, hdl.2.2.1] at h
                simp only [Bool.and_eq_true, beq_iff_eq, Bool.or_eq_true, Bool.not_eq_true', beq_eq_false_iff_ne, ne_eq] at h
                exact absurd ⟨h.1.1, h.1.2, h.2⟩ he92
            have HE2 : Hid (¬ (es = true ∧ x = 92 ∧ (lg = true ∨ c (i' + 1) ≠ 10))) := he92
            have HCX : Hid (c i' = x) := hcx
            have HEN : Hid (enB q c i' = (oc q.mark c i' && !prB q c i') ∧ esB q c i' = false) := ⟨by unfold enB; rw [hen1]; rfl, hes⟩
            clear hen1 hes he92
            obtain ⟨p2, hp2⟩ : ∃ p2, oc (q.mark ++ q.mark) c i' = p2 := ⟨_, rfl⟩
            obtain ⟨p1, hp1⟩ : ∃ p1, oc q.mark c i' = p1 := ⟨_, rfl⟩
            rw [hp2] at cP
            rw [hp1] at cM
            have HPP : Hid (oc (q.mark ++ q.mark) c i' = p2 ∧ oc q.mark c i' = p1) := ⟨hp2, hp1⟩
            clear hp2 hp1
            have HES : Hid (es = false ∨ (es = true ∧ (x == 92) = false) ∨ (es = true ∧ x = 92 ∧ lg = false ∧ i' + 1 < n ∧ c (i' + 1) = 10)) := by
              cases es with
              | false => exact Or.inl rfl
              | true =>
                by_cases h92 : x = 92
                · have h3 : lg = false ∧ c (i' + 1) = 10 := by
                    cases lg with
                    | true => exact absurd ⟨rfl, h92, Or.inl rfl⟩ HE2.out
                    | false =>
                      refine ⟨rfl, Classical.byContradiction fun h => HE2.out ⟨rfl, h92, Or.inr h⟩⟩
                  refine Or.inr (Or.inr ⟨rfl, h92, h3.1, ?_, h3.2⟩)
                  rcases Nat.lt_or_ge (i' + 1) n with h4 | h4
                  · exact h4
                  · have := HCH.out.2 _ h4
                    rw [h3.2] at this
                    cases this
                · exact Or.inr (Or.inl ⟨rfl, by simpa using h92⟩)
            clear HE2
            by_cases hpair : db = true ∧ p2 = true
            · obtain ⟨rfl, rfl⟩ := hpair
              have hpr : prB q c i' = true := by unfold prB; rw [hdl.2.1, HPP.out.1]; rfl
              have hen : enB q c i' = false := by rw [HEN.out.1, hpr]; simp
              have hmz1 : mz = 1 := by rw [← hdl.2.2.2.1]; exact HQD.out.one hdl.2.1
              have htk : tkN q c i' = 2 := by unfold tkN; rw [if_pos hpr, hdl.2.2.2.1, hmz1]
              have hle2 : i' + 2 ≤ n := by
                have h1 := HPP.out.1
                have h2 := oc_len HCH.out.2 (q.mark ++ q.mark) (byt_app' HQD.out.gd.byt) i' (fun e => HQD.out.gd.ne (List.append_eq_nil_iff.1 e).1) h1
                rw [List.length_append, hdl.2.2.2.1, hmz1] at h2
                omega
              obtain ⟨e, he⟩ : ∃ e, i' + 2 = e := ⟨_, rfl⟩
              have hst := lnE_step HQD.out.gd hlt hen (e := e) (by rw [htk]; omega)
              rw [hst, HWH.out] at hA'
              rw [hst] at hEE
              have hle := HLE.out e (by omega)
              rw [pt_more L' 5 (i := i') (e := e) (by omega) hle.1] at hA'
              have HN : Hid (pt (setL L' 5 (i' : Int) (e : Int)) (fun _ => q.inn) e (lnE q c n e) = A ∧ lnE q c n e = E) := ⟨by rw [HWH.out]; exact hA', hEE⟩
              have HEM : Hid (i' + 2 = e ∧ e ≤ n) := ⟨he, by omega⟩
              have ze : IntKind.i64.wrap ((i' : Int) + 2) = (e : Int) := by rw [Go.IntWalk.i64_in _ (by omega)]; omega
              have c5 := rput_any HB.out.1 hn 5 i' e HEM.out.2
              clear hst hle hA' hEE he
              clear hpr hen hmz1 htk hle2 hcx hdl cM HCX HEN HPP hnl
              have hno : (es = false ∨ (es = true ∧ (x == 92) = false) ∨ (es = true ∧ x = 92 ∧ lg = false ∧ i' + 1 < n ∧ c (i' + 1) = 10)) := HES.out
              clear HES
              rcases hno with rfl | ⟨rfl, k92⟩ | ⟨rfl, rfl, rfl, hn1, hc1⟩
              · cases lg with
                | true =>
                  go_wp2_with fail
                  refine cP.mono ?_
                  rintro ev w2 ⟨rfl, hw⟩
                  subst w2
                  clear cP
                  go_wp2_with fail
                  refine c5.mono ?_
                  rintro ev w5 ⟨rfl, h3, h4, h5⟩
                  have HE5 : Hid (LR w5 g n (setL L' 5 (i' : Int) (e : Int)) ∧ w.grownBy w5 (some g) ∧ w.heap.size ≤ w5.heap.size) := ⟨h3, grown_step HB.out.2.1 h4, Nat.le_trans HB.out.2.2 (Nat.le_of_eq h5.symm)⟩
                  have HC5 : Hid (w5.heap[BX]? = wr.heap[BX]?) := h4.block BX (by have := HBL.out; omega) (fun e => by have := Option.some.inj e; omega)
                  clear c5 h3 h4 h5
                  go_wp2
                  go_roundg (n - e)
                  case measure => have := HEM.out; omega
                  case rel => exact ⟨e, rfl, HEM.out.2, rfl, ⟨_, HE5.out.1, HE5.out.2.1, HE5.out.2.2, HN.out⟩, HC5.out.trans HBW.out⟩
                | false =>
                  have k10 : (x == 10) = false := by simpa using hnl2
                  go_wp2_with fail
                  refine cP.mono ?_
                  rintro ev w2 ⟨rfl, hw⟩
                  subst w2
                  clear cP
                  go_wp2_with fail
                  refine c5.mono ?_
                  rintro ev w5 ⟨rfl, h3, h4, h5⟩
                  have HE5 : Hid (LR w5 g n (setL L' 5 (i' : Int) (e : Int)) ∧ w.grownBy w5 (some g) ∧ w.heap.size ≤ w5.heap.size) := ⟨h3, grown_step HB.out.2.1 h4, Nat.le_trans HB.out.2.2 (Nat.le_of_eq h5.symm)⟩
                  have HC5 : Hid (w5.heap[BX]? = wr.heap[BX]?) := h4.block BX (by have := HBL.out; omega) (fun e => by have := Option.some.inj e; omega)
                  clear c5 h3 h4 h5
                  go_wp2
                  go_roundg (n - e)
                  case measure => have := HEM.out; omega
                  case rel => exact ⟨e, rfl, HEM.out.2, rfl, ⟨_, HE5.out.1, HE5.out.2.1, HE5.out.2.2, HN.out⟩, HC5.out.trans HBW.out⟩
              · cases lg with
                | true =>
                  go_wp2_with fail
                  refine cP.mono ?_
                  rintro ev w2 ⟨rfl, hw⟩
                  subst w2
                  clear cP
                  go_wp2_with fail
                  refine c5.mono ?_
                  rintro ev w5 ⟨rfl, h3, h4, h5⟩
                  have HE5 : Hid (LR w5 g n (setL L' 5 (i' : Int) (e : Int)) ∧ w.grownBy w5 (some g) ∧ w.heap.size ≤ w5.heap.size) := ⟨h3, grown_step HB.out.2.1 h4, Nat.le_trans HB.out.2.2 (Nat.le_of_eq h5.symm)⟩
                  have HC5 : Hid (w5.heap[BX]? = wr.heap[BX]?) := h4.block BX (by have := HBL.out; omega) (fun e => by have := Option.some.inj e; omega)
                  clear c5 h3 h4 h5
                  go_wp2
                  go_roundg (n - e)
                  case measure => have := HEM.out; omega
                  case rel => exact ⟨e, rfl, HEM.out.2, rfl, ⟨_, HE5.out.1, HE5.out.2.1, HE5.out.2.2, HN.out⟩, HC5.out.trans HBW.out⟩
                | false =>
                  have k10 : (x == 10) = false := by simpa using hnl2
                  go_wp2_with fail
                  refine cP.mono ?_
                  rintro ev w2 ⟨rfl, hw⟩
                  subst w2
                  clear cP
                  go_wp2_with fail
                  refine c5.mono ?_
                  rintro ev w5 ⟨rfl, h3, h4, h5⟩
                  have HE5 : Hid (LR w5 g n (setL L' 5 (i' : Int) (e : Int)) ∧ w.grownBy w5 (some g) ∧ w.heap.size ≤ w5.heap.size) := ⟨h3, grown_step HB.out.2.1 h4, Nat.le_trans HB.out.2.2 (Nat.le_of_eq h5.symm)⟩
                  have HC5 : Hid (w5.heap[BX]? = wr.heap[BX]?) := h4.block BX (by have := HBL.out; omega) (fun e => by have := Option.some.inj e; omega)
                  clear c5 h3 h4 h5
                  go_wp2
                  go_roundg (n - e)
                  case measure => have := HEM.out; omega
                  case rel => exact ⟨e, rfl, HEM.out.2, rfl, ⟨_, HE5.out.1, HE5.out.2.1, HE5.out.2.2, HN.out⟩, HC5.out.trans HBW.out⟩
              · have z6 : (i' : Int) + 1 < (n : Int) := by omega
                have z7 : i' + 1 < s.size := by omega
                have hx1 := HAT.out (i' + 1) z7
                rw [hc1] at hx1
                have z8 : (0 : Int) ≤ (i' : Int) + 1 := by omega
                clear hc1
                go_wp2_with fail
                refine cP.mono ?_
                rintro ev w2 ⟨rfl, hw⟩
                subst w2
                clear cP
                go_wp2_with fail
                refine c5.mono ?_
                rintro ev w5 ⟨rfl, h3, h4, h5⟩
                have HE5 : Hid (LR w5 g n (setL L' 5 (i' : Int) (e : Int)) ∧ w.grownBy w5 (some g) ∧ w.heap.size ≤ w5.heap.size) := ⟨h3, grown_step HB.out.2.1 h4, Nat.le_trans HB.out.2.2 (Nat.le_of_eq h5.symm)⟩
                have HC5 : Hid (w5.heap[BX]? = wr.heap[BX]?) := h4.block BX (by have := HBL.out; omega) (fun e => by have := Option.some.inj e; omega)
                clear c5 h3 h4 h5
                go_wp2
                go_roundg (n - e)
                case measure => have := HEM.out; omega
                case rel => exact ⟨e, rfl, HEM.out.2, rfl, ⟨_, HE5.out.1, HE5.out.2.1, HE5.out.2.2, HN.out⟩, HC5.out.trans HBW.out⟩
            · obtain ⟨pp, hpp⟩ : ∃ pp, (db && p2) = pp := ⟨_, rfl⟩
              have hppf : (db && p2) = false := by
                cases db <;> cases p2 <;> first | rfl | exact absurd ⟨rfl, rfl⟩ hpair
              have hpr : prB q c i' = false := by unfold prB; rw [hdl.2.1, HPP.out.1]; exact hppf
              have hen : enB q c i' = p1 := by rw [HEN.out.1, hpr, HPP.out.2]; simp
              cases p1 with
              | true =>
                rw [lnE_yes hen] at hA' hEE
                rw [pt_none _ _ (Nat.le_refl _)] at hA'
                have hAA : L' = A := hA'
                have hoc := HPP.out.2
                obtain ⟨e, he⟩ : ∃ e, i' + mz = e := ⟨_, rfl⟩
                have ze : IntKind.i64.wrap ((i' : Int) + (mz : Int)) = (e : Int) := by rw [Go.IntWalk.i64_in _ (by have := hdl.2.2.2.2; omega)]; omega
                have HFN : Hid (RPq w g n A (if oc q.mark c E = true then E + mz else E) (.returned (.int .i64 (e : Nat))) wr) := by
                  show RPq w g n A _ _ wr
                  rw [← hEE, hoc, if_pos rfl, he]
                  exact ⟨rfl, hAA ▸ HB.out.1, HB.out.2.1, HB.out.2.2⟩
                clear hA' hEE hen hcx hdl hAA hoc he hpr HCX HEN HPP hnl hpp
                have hno : (es = false ∨ (es = true ∧ (x == 92) = false) ∨ (es = true ∧ x = 92 ∧ lg = false ∧ i' + 1 < n ∧ c (i' + 1) = 10)) := HES.out
                clear HES
                rcases hno with rfl | ⟨rfl, k92⟩ | ⟨rfl, rfl, rfl, hn1, hc1⟩
                · cases lg with
                  | true =>
                    cases db with
                    | true =>
                      have e2 : p2 = false := by simpa using hppf
                      subst e2
                      go_wp2_with fail
                      refine cP.mono ?_
                      rintro ev w2 ⟨rfl, hw⟩
                      subst w2
                      clear cP
                      go_wp2_with fail
                      refine cM.mono ?_
                      rintro ev w2 ⟨rfl, hw⟩
                      subst w2
                      clear cM
                      go_wp2
                      rw [← HQ.out]
                      exact HFN.out
                    | false =>
                      clear cP
                      go_wp2_with fail
                      refine cM.mono ?_
                      rintro ev w2 ⟨rfl, hw⟩
                      subst w2
                      clear cM
                      go_wp2
                      rw [← HQ.out]
                      exact HFN.out
                  | false =>
                    have k10 : (x == 10) = false := by simpa using hnl2
                    cases db with
                    | true =>
                      have e2 : p2 = false := by simpa using hppf
                      subst e2
                      go_wp2_with fail
                      refine cP.mono ?_
                      rintro ev w2 ⟨rfl, hw⟩
                      subst w2
                      clear cP
                      go_wp2_with fail
                      refine cM.mono ?_
                      rintro ev w2 ⟨rfl, hw⟩
                      subst w2
                      clear cM
                      go_wp2
                      rw [← HQ.out]
                      exact HFN.out
                    | false =>
                      clear cP
                      go_wp2_with fail
                      refine cM.mono ?_
                      rintro ev w2 ⟨rfl, hw⟩
                      subst w2
                      clear cM
                      go_wp2
                      rw [← HQ.out]
                      exact HFN.out
                · cases lg with
                  | true =>
                    cases db with
                    | true =>
                      have e2 : p2 = false := by simpa using hppf
                      subst e2
                      go_wp2_with fail
                      refine cP.mono ?_
                      rintro ev w2 ⟨rfl, hw⟩
                      subst w2
                      clear cP
                      go_wp2_with fail
                      refine cM.mono ?_
                      rintro ev w2 ⟨rfl, hw⟩
                      subst w2
                      clear cM
                      go_wp2
                      rw [← HQ.out]
                      exact HFN.out
                    | false =>
                      clear cP
                      go_wp2_with fail
                      refine cM.mono ?_
                      rintro ev w2 ⟨rfl, hw⟩
                      subst w2
                      clear cM
                      go_wp2
                      rw [← HQ.out]
                      exact HFN.out
                  | false =>
                    have k10 : (x == 10) = false := by simpa using hnl2
                    cases db with
                    | true =>
                      have e2 : p2 = false := by simpa using hppf
                      subst e2
                      go_wp2_with fail
                      refine cP.mono ?_
                      rintro ev w2 ⟨rfl, hw⟩
                      subst w2
                      clear cP
                      go_wp2_with fail
                      refine cM.mono ?_
                      rintro ev w2 ⟨rfl, hw⟩
                      subst w2
                      clear cM
                      go_wp2
                      rw [← HQ.out]
                      exact HFN.out
                    | false =>
                      clear cP
                      go_wp2_with fail
                      refine cM.mono ?_
                      rintro ev w2 ⟨rfl, hw⟩
                      subst w2
                      clear cM
                      go_wp2
                      rw [← HQ.out]
                      exact HFN.out
                · have z6 : (i' : Int) + 1 < (n : Int) := by omega
                  have z7 : i' + 1 < s.size := by omega
                  have hx1 := HAT.out (i' + 1) z7
                  rw [hc1] at hx1
                  have z8 : (0 : Int) ≤ (i' : Int) + 1 := by omega
                  clear hc1
                  cases db with
                  | true =>
                    have e2 : p2 = false := by simpa using hppf
                    subst e2
                    go_wp2_with fail
                    refine cP.mono ?_
                    rintro ev w2 ⟨rfl, hw⟩
                    subst w2
                    clear cP
                    go_wp2_with fail
                    refine cM.mono ?_
                    rintro ev w2 ⟨rfl, hw⟩
                    subst w2
                    clear cM
                    go_wp2
                    rw [← HQ.out]
                    exact HFN.out
                  | false =>
                    clear cP
                    go_wp2_with fail
                    refine cM.mono ?_
                    rintro ev w2 ⟨rfl, hw⟩
                    subst w2
                    clear cM
                    go_wp2
                    rw [← HQ.out]
                    exact HFN.out
              | false =>
                have htk : tkN q c i' = 1 := by unfold tkN; rw [if_neg (by rw [hpr]; exact Bool.false_ne_true), if_neg (by rw [HEN.out.2]; exact Bool.false_ne_true)]
                obtain ⟨e, he⟩ : ∃ e, i' + 1 = e := ⟨_, rfl⟩
                have hst := lnE_step HQD.out.gd hlt hen (e := e) (by rw [htk]; omega)
                rw [hst, HWH.out] at hA'
                rw [hst] at hEE
                have hle := HLE.out e (by omega)
                rw [pt_more L' 5 (i := i') (e := e) (by omega) hle.1] at hA'
                have HN : Hid (pt (setL L' 5 (i' : Int) (e : Int)) (fun _ => q.inn) e (lnE q c n e) = A ∧ lnE q c n e = E) := ⟨by rw [HWH.out]; exact hA', hEE⟩
                have HEM : Hid (i' + 1 = e ∧ e ≤ n) := ⟨he, by omega⟩
                have ze : IntKind.i64.wrap ((i' : Int) + 1) = (e : Int) := by rw [Go.IntWalk.i64_in _ (by omega)]; omega
                have c5 := rput_any HB.out.1 hn 5 i' e HEM.out.2
                clear hst hle hA' hEE he
                clear hen hcx hdl hpr htk HCX HEN HPP hnl hpp
                have hno : (es = false ∨ (es = true ∧ (x == 92) = false) ∨ (es = true ∧ x = 92 ∧ lg = false ∧ i' + 1 < n ∧ c (i' + 1) = 10)) := HES.out
                clear HES
                rcases hno with rfl | ⟨rfl, k92⟩ | ⟨rfl, rfl, rfl, hn1, hc1⟩
                · cases lg with
                  | true =>
                    cases db with
                    | true =>
                      have e2 : p2 = false := by simpa using hppf
                      subst e2
                      go_wp2_with fail
                      refine cP.mono ?_
                      rintro ev w2 ⟨rfl, hw⟩
                      subst w2
                      clear cP
                      go_wp2_with fail
                      refine cM.mono ?_
                      rintro ev w2 ⟨rfl, hw⟩
                      subst w2
                      clear cM
                      go_wp2_with fail
                      refine c5.mono ?_
                      rintro ev w5 ⟨rfl, h3, h4, h5⟩
                      have HE5 : Hid (LR w5 g n (setL L' 5 (i' : Int) (e : Int)) ∧ w.grownBy w5 (some g) ∧ w.heap.size ≤ w5.heap.size) := ⟨h3, grown_step HB.out.2.1 h4, Nat.le_trans HB.out.2.2 (Nat.le_of_eq h5.symm)⟩
                      have HC5 : Hid (w5.heap[BX]? = wr.heap[BX]?) := h4.block BX (by have := HBL.out; omega) (fun e => by have := Option.some.inj e; omega)
                      clear c5 h3 h4 h5
                      go_wp2
                      go_roundg (n - e)
                      case measure => have := HEM.out; omega
                      case rel => exact ⟨e, rfl, HEM.out.2, rfl, ⟨_, HE5.out.1, HE5.out.2.1, HE5.out.2.2, HN.out⟩, HC5.out.trans HBW.out⟩
                    | false =>
                      clear cP
                      go_wp2_with fail
                      refine cM.mono ?_
                      rintro ev w2 ⟨rfl, hw⟩
                      subst w2
                      clear cM
                      go_wp2_with fail
                      refine c5.mono ?_
                      rintro ev w5 ⟨rfl, h3, h4, h5⟩
                      have HE5 : Hid (LR w5 g n (setL L' 5 (i' : Int) (e : Int)) ∧ w.grownBy w5 (some g) ∧ w.heap.size ≤ w5.heap.size) := ⟨h3, grown_step HB.out.2.1 h4, Nat.le_trans HB.out.2.2 (Nat.le_of_eq h5.symm)⟩
                      have HC5 : Hid (w5.heap[BX]? = wr.heap[BX]?) := h4.block BX (by have := HBL.out; omega) (fun e => by have := Option.some.inj e; omega)
                      clear c5 h3 h4 h5
                      go_wp2
                      go_roundg (n - e)
                      case measure => have := HEM.out; omega
                      case rel => exact ⟨e, rfl, HEM.out.2, rfl, ⟨_, HE5.out.1, HE5.out.2.1, HE5.out.2.2, HN.out⟩, HC5.out.trans HBW.out⟩
                  | false =>
                    have k10 : (x == 10) = false := by simpa using hnl2
                    cases db with
                    | true =>
                      have e2 : p2 = false := by simpa using hppf
                      subst e2
                      go_wp2_with fail
                      refine cP.mono ?_
                      rintro ev w2 ⟨rfl, hw⟩
                      subst w2
                      clear cP
                      go_wp2_with fail
                      refine cM.mono ?_
                      rintro ev w2 ⟨rfl, hw⟩
                      subst w2
                      clear cM
                      go_wp2_with fail
                      refine c5.mono ?_
                      rintro ev w5 ⟨rfl, h3, h4, h5⟩
                      have HE5 : Hid (LR w5 g n (setL L' 5 (i' : Int) (e : Int)) ∧ w.grownBy w5 (some g) ∧ w.heap.size ≤ w5.heap.size) := ⟨h3, grown_step HB.out.2.1 h4, Nat.le_trans HB.out.2.2 (Nat.le_of_eq h5.symm)⟩
                      have HC5 : Hid (w5.heap[BX]? = wr.heap[BX]?) := h4.block BX (by have := HBL.out; omega) (fun e => by have := Option.some.inj e; omega)
                      clear c5 h3 h4 h5
                      go_wp2
                      go_roundg (n - e)
                      case measure => have := HEM.out; omega
                      case rel => exact ⟨e, rfl, HEM.out.2, rfl, ⟨_, HE5.out.1, HE5.out.2.1, HE5.out.2.2, HN.out⟩, HC5.out.trans HBW.out⟩
                    | false =>
                      clear cP
                      go_wp2_with fail
                      refine cM.mono ?_
                      rintro ev w2 ⟨rfl, hw⟩
                      subst w2
                      clear cM
                      go_wp2_with fail
                      refine c5.mono ?_
                      rintro ev w5 ⟨rfl, h3, h4, h5⟩
                      have HE5 : Hid (LR w5 g n (setL L' 5 (i' : Int) (e : Int)) ∧ w.grownBy w5 (some g) ∧ w.heap.size ≤ w5.heap.size) := ⟨h3, grown_step HB.out.2.1 h4, Nat.le_trans HB.out.2.2 (Nat.le_of_eq h5.symm)⟩
                      have HC5 : Hid (w5.heap[BX]? = wr.heap[BX]?) := h4.block BX (by have := HBL.out; omega) (fun e => by have := Option.some.inj e; omega)
                      clear c5 h3 h4 h5
                      go_wp2
                      go_roundg (n - e)
                      case measure => have := HEM.out; omega
                      case rel => exact ⟨e, rfl, HEM.out.2, rfl, ⟨_, HE5.out.1, HE5.out.2.1, HE5.out.2.2, HN.out⟩, HC5.out.trans HBW.out⟩
                · cases lg with
                  | true =>
                    cases db with
                    | true =>
                      have e2 : p2 = false := by simpa using hppf
                      subst e2
                      go_wp2_with fail
                      refine cP.mono ?_
                      rintro ev w2 ⟨rfl, hw⟩
                      subst w2
                      clear cP
                      go_wp2_with fail
                      refine cM.mono ?_
                      rintro ev w2 ⟨rfl, hw⟩
                      subst w2
                      clear cM
                      go_wp2_with fail
                      refine c5.mono ?_
                      rintro ev w5 ⟨rfl, h3, h4, h5⟩
                      have HE5 : Hid (LR w5 g n (setL L' 5 (i' : Int) (e : Int)) ∧ w.grownBy w5 (some g) ∧ w.heap.size ≤ w5.heap.size) := ⟨h3, grown_step HB.out.2.1 h4, Nat.le_trans HB.out.2.2 (Nat.le_of_eq h5.symm)⟩
                      have HC5 : Hid (w5.heap[BX]? = wr.heap[BX]?) := h4.block BX (by have := HBL.out; omega) (fun e => by have := Option.some.inj e; omega)
                      clear c5 h3 h4 h5
                      go_wp2
                      go_roundg (n - e)
                      case measure => have := HEM.out; omega
                      case rel => exact ⟨e, rfl, HEM.out.2, rfl, ⟨_, HE5.out.1, HE5.out.2.1, HE5.out.2.2, HN.out⟩, HC5.out.trans HBW.out⟩
                    | false =>
                      clear cP
                      go_wp2_with fail
                      refine cM.mono ?_
                      rintro ev w2 ⟨rfl, hw⟩
                      subst w2
                      clear cM
                      go_wp2_with fail
                      refine c5.mono ?_
                      rintro ev w5 ⟨rfl, h3, h4, h5⟩
                      have HE5 : Hid (LR w5 g n (setL L' 5 (i' : Int) (e : Int)) ∧ w.grownBy w5 (some g) ∧ w.heap.size ≤ w5.heap.size) := ⟨h3, grown_step HB.out.2.1 h4, Nat.le_trans HB.out.2.2 (Nat.le_of_eq h5.symm)⟩
                      have HC5 : Hid (w5.heap[BX]? = wr.heap[BX]?) := h4.block BX (by have := HBL.out; omega) (fun e => by have := Option.some.inj e; omega)
                      clear c5 h3 h4 h5
                      go_wp2
                      go_roundg (n - e)
                      case measure => have := HEM.out; omega
                      case rel => exact ⟨e, rfl, HEM.out.2, rfl, ⟨_, HE5.out.1, HE5.out.2.1, HE5.out.2.2, HN.out⟩, HC5.out.trans HBW.out⟩
                  | false =>
                    have k10 : (x == 10) = false := by simpa using hnl2
                    cases db with
                    | true =>
                      have e2 : p2 = false := by simpa using hppf
                      subst e2
                      go_wp2_with fail
                      refine cP.mono ?_
                      rintro ev w2 ⟨rfl, hw⟩
                      subst w2
                      clear cP
                      go_wp2_with fail
                      refine cM.mono ?_
                      rintro ev w2 ⟨rfl, hw⟩
                      subst w2
                      clear cM
                      go_wp2_with fail
                      refine c5.mono ?_
                      rintro ev w5 ⟨rfl, h3, h4, h5⟩
                      have HE5 : Hid (LR w5 g n (setL L' 5 (i' : Int) (e : Int)) ∧ w.grownBy w5 (some g) ∧ w.heap.size ≤ w5.heap.size) := ⟨h3, grown_step HB.out.2.1 h4, Nat.le_trans HB.out.2.2 (Nat.le_of_eq h5.symm)⟩
                      have HC5 : Hid (w5.heap[BX]? = wr.heap[BX]?) := h4.block BX (by have := HBL.out; omega) (fun e => by have := Option.some.inj e; omega)
                      clear c5 h3 h4 h5
                      go_wp2
                      go_roundg (n - e)
                      case measure => have := HEM.out; omega
                      case rel => exact ⟨e, rfl, HEM.out.2, rfl, ⟨_, HE5.out.1, HE5.out.2.1, HE5.out.2.2, HN.out⟩, HC5.out.trans HBW.out⟩
                    | false =>
                      clear cP
                      go_wp2_with fail
                      refine cM.mono ?_
                      rintro ev w2 ⟨rfl, hw⟩
                      subst w2
                      clear cM
                      go_wp2_with fail
                      refine c5.mono ?_
                      rintro ev w5 ⟨rfl, h3, h4, h5⟩
                      have HE5 : Hid (LR w5 g n (setL L' 5 (i' : Int) (e : Int)) ∧ w.grownBy w5 (some g) ∧ w.heap.size ≤ w5.heap.size) := ⟨h3, grown_step HB.out.2.1 h4, Nat.le_trans HB.out.2.2 (Nat.le_of_eq h5.symm)⟩
                      have HC5 : Hid (w5.heap[BX]? = wr.heap[BX]?) := h4.block BX (by have := HBL.out; omega) (fun e => by have := Option.some.inj e; omega)
                      clear c5 h3 h4 h5
                      go_wp2
                      go_roundg (n - e)
                      case measure => have := HEM.out; omega
                      case rel => exact ⟨e, rfl, HEM.out.2, rfl, ⟨_, HE5.out.1, HE5.out.2.1, HE5.out.2.2, HN.out⟩, HC5.out.trans HBW.out⟩
                · have z6 : (i' : Int) + 1 < (n : Int) := by omega
                  have z7 : i' + 1 < s.size := by omega
                  have hx1 := HAT.out (i' + 1) z7
                  rw [hc1] at hx1
                  have z8 : (0 : Int) ≤ (i' : Int) + 1 := by omega
                  clear hc1
                  have z9 : (e : Int) < (n : Int) := by have := HEM.out; omega
                  have z10 : e < s.size := by have := HEM.out; omega
                  have z11 : ¬ s.size ≤ e := by omega
                  have z12 : (0 : Int) ≤ (e : Int) := by omega
                  have hx2 : ((s[e]'z10).toNat : Int) = 10 := by have h := HEM.out.1; subst h; exact hx1
                  cases db with
                  | true =>
                    have e2 : p2 = false := by simpa using hppf
                    subst e2
                    go_wp2_with fail
                    refine cP.mono ?_
                    rintro ev w2 ⟨rfl, hw⟩
                    subst w2
                    clear cP
                    go_wp2_with fail
                    refine cM.mono ?_
                    rintro ev w2 ⟨rfl, hw⟩
                    subst w2
                    clear cM
                    go_wp2_with fail
                    refine c5.mono ?_
                    rintro ev w5 ⟨rfl, h3, h4, h5⟩
                    have HE5 : Hid (LR w5 g n (setL L' 5 (i' : Int) (e : Int)) ∧ w.grownBy w5 (some g) ∧ w.heap.size ≤ w5.heap.size) := ⟨h3, grown_step HB.out.2.1 h4, Nat.le_trans HB.out.2.2 (Nat.le_of_eq h5.symm)⟩
                    have HC5 : Hid (w5.heap[BX]? = wr.heap[BX]?) := h4.block BX (by have := HBL.out; omega) (fun e => by have := Option.some.inj e; omega)
                    clear c5 h3 h4 h5
                    go_wp2
                    go_roundg (n - e)
                    case measure => have := HEM.out; omega
                    case rel => exact ⟨e, rfl, HEM.out.2, rfl, ⟨_, HE5.out.1, HE5.out.2.1, HE5.out.2.2, HN.out⟩, HC5.out.trans HBW.out⟩
                  | false =>
                    clear cP
                    go_wp2_with fail
                    refine cM.mono ?_
                    rintro ev w2 ⟨rfl, hw⟩
                    subst w2
                    clear cM
                    go_wp2_with fail
                    refine c5.mono ?_
                    rintro ev w5 ⟨rfl, h3, h4, h5⟩
                    have HE5 : Hid (LR w5 g n (setL L' 5 (i' : Int) (e : Int)) ∧ w.grownBy w5 (some g) ∧ w.heap.size ≤ w5.heap.size) := ⟨h3, grown_step HB.out.2.1 h4, Nat.le_trans HB.out.2.2 (Nat.le_of_eq h5.symm)⟩
                    have HC5 : Hid (w5.heap[BX]? = wr.heap[BX]?) := h4.block BX (by have := HBL.out; omega) (fun e => by have := Option.some.inj e; omega)
                    clear c5 h3 h4 h5
                    go_wp2
                    go_roundg (n - e)
                    case measure => have := HEM.out; omega
                    case rel => exact ⟨e, rfl, HEM.out.2, rfl, ⟨_, HE5.out.1, HE5.out.2.1, HE5.out.2.2, HN.out⟩, HC5.out.trans HBW.out⟩
      · have z2 : ¬ (i' : Int) < (n : Int) := by omega
        have hin : i' = n := by omega
        rw [lnE_end q c (by omega)] at hA' hEE
        rw [pt_none _ _ (Nat.le_refl _)] at hA'
        have hAA : L' = A := hA'
        have hoc : oc q.mark c n = false := by
          cases h : oc q.mark c n with
          | false => rfl
          | true =>
            have := oc_len HCH.out.2 q.mark HQD.out.gd.byt n HQD.out.gd.ne h
            have := HQD.out.gd.pos
            omega
        have HFN : Hid (RPq w g n A (if oc q.mark c E = true then E + mz else E) (.returned (.int .i64 (n : Nat))) wr) := by
          show RPq w g n A _ _ wr
          rw [← hEE, hin, hoc, if_neg Bool.false_ne_true]
          exact ⟨rfl, hAA ▸ HB.out.1, HB.out.2.1, HB.out.2.2⟩
        clear hA' hEE hAA hoc hin
        go_wp2
        rw [← HQ.out]
        exact HFN.out
end Go.Proofs.Ytgebmmbnpdhooaa
