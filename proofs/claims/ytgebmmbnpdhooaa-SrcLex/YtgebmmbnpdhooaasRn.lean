/- The reference: where remarks to the line's end begin; a format's strings. -/
import Derived.Test.YtgebmmbnpdhooaasRb
namespace Go.Proofs.Ytgebmmbnpdhooaa
set_option linter.unusedVariables false
open Go.RowKit Go.ChangeShapes
def ntN (F : Fm) (c : Nat → Int) (i : Nat) : Nat := if ntB F c i = true then F.line.length else 0
def qcr (q : Qt) : List Value := [.string (strOfNums q.mark), .bool q.esc, .bool q.dbl, .bool q.lng, .bool (q.inn == 7)]
def RQ (w : World) (g : Nat) (qs : List Qt) : Prop := ∀ (k : Nat) (q : Qt), qs[k]? = some q → w.cell? ⟨g, k * 5, none⟩ = some (.string (strOfNums q.mark)) ∧ w.cell? ⟨g, k * 5 + 1, none⟩ = some (.bool q.esc) ∧ w.cell? ⟨g, k * 5 + 2, none⟩ = some (.bool q.dbl) ∧ w.cell? ⟨g, k * 5 + 3, none⟩ = some (.bool q.lng) ∧ w.cell? ⟨g, k * 5 + 4, none⟩ = some (.bool (q.inn == 7))
theorem qcr_at (l : List Qt) : ∀ (k : Nat) (q : Qt), l[k]? = some q → ∀ j, j < 5 → (l.flatMap qcr)[k * 5 + j]? = (qcr q)[j]? := by
  induction l with
  | nil => intro k q h; simp at h
  | cons a l ih =>
    intro k q h j hj
    cases k with
    | zero =>
      simp only [List.getElem?_cons_zero, Option.some.injEq] at h
      subst h
      rw [List.flatMap_cons, List.getElem?_append_left (by show 0 * 5 + j < 5; omega)]
      rw [show 0 * 5 + j = j by omega]
    | succ k =>
      simp only [List.getElem?_cons_succ] at h
      rw [List.flatMap_cons, List.getElem?_append_right (by show 5 ≤ _; omega)]
      show (l.flatMap qcr)[(k + 1) * 5 + j - 5]? = _
      rw [show (k + 1) * 5 + j - 5 = k * 5 + j by omega]
      exact ih k q h j hj
theorem lit_rq (w : World) (l : List Qt) {A : Array Value} {T : Nat} {m : Nat × Nat} (h : (l.flatMap qcr).toArray = A) : RQ (w.alloc (.cells A T m)) w.heap.size l := fun k q hk => by
  subst h
  have h1 := heap_alloc_new w (.cells (l.flatMap qcr).toArray T m)
  have h2 := qcr_at l k q hk
  simp only [World.cell?, h1, List.getElem?_toArray]
  exact ⟨h2 0 (by decide), h2 1 (by decide), h2 2 (by decide), h2 3 (by decide), h2 4 (by decide)⟩
def QP (F : Fm) (w : World) (ev : Ending) (w' : World) : Prop := ∃ gq, ev = .returned (.slice (some ⟨gq, 0, none⟩) F.qs.length F.qs.length) ∧ w.heap.size ≤ gq ∧ RQ w' gq F.qs ∧ Below w.heap.size w w'
theorem rquo4 (w : World) : Calls Try.prog 26 #[.int .u8 4] w (QP (fam 4) w) := by
  obtain ⟨Q, hQ⟩ : ∃ Q, QP (fam 4) w = Q := ⟨_, rfl⟩
  rw [hQ]
  have HQ : Hid (QP (fam 4) w = Q) := hQ
  have HC : Hid (((fam 4).qs.flatMap qcr).toArray = #[.string ⟨#[34]⟩, .bool true, .bool false, .bool false, .bool false, .string ⟨#[39]⟩, .bool true, .bool false, .bool false, .bool false]) := by show _ = _; kernel_rfl
  have hcv := one_str w 96
  have e96 : strOfNums [96] = ⟨#[96]⟩ := by kernel_rfl
  rw [e96] at hcv
  have HR : Hid (∀ (V : World) (A : Array Value), ((fam 4).qs.flatMap qcr).toArray = A → w.heap.size ≤ V.heap.size → Below w.heap.size w V → QP (fam 4) w (.returned (.slice (some ⟨V.heap.size, 0, none⟩) 2 2)) (V.alloc (.cells A 68))) := fun V A hA h1 h2 => ⟨V.heap.size, rfl, h1, lit_rq V _ hA, h2.trans ((below_alloc V _).mono h1)⟩
  have HV := (Up.refl w).alloc (.cells #[.int .u8 96] 5)
  have HVV : Hid (Up w.heap.size w (w.alloc (.cells #[.int .u8 96] 5))) := HV
  clear hQ e96 HV
  obtain ⟨V, hV⟩ : ∃ V, w.alloc (.cells #[.int .u8 96] 5) = V := ⟨_, rfl⟩
  rw [hV] at hcv HVV
  go_enter Try.func26, Try.ntmps26
  go_wp2
  rw [← HQ.out]
  exact HR.out V _ HC.out HVV.out.2 HVV.out.1
theorem rquo5 (w : World) : Calls Try.prog 26 #[.int .u8 5] w (QP (fam 5) w) := by
  obtain ⟨Q, hQ⟩ : ∃ Q, QP (fam 5) w = Q := ⟨_, rfl⟩
  rw [hQ]
  have HQ : Hid (QP (fam 5) w = Q) := hQ
  have HC : Hid (((fam 5).qs.flatMap qcr).toArray = #[.string ⟨#[34]⟩, .bool true, .bool false, .bool false, .bool false, .string ⟨#[39]⟩, .bool true, .bool false, .bool false, .bool false, .string ⟨#[96]⟩, .bool false, .bool false, .bool true, .bool true]) := by show _ = _; kernel_rfl
  have hcv := one_str w 96
  have e96 : strOfNums [96] = ⟨#[96]⟩ := by kernel_rfl
  rw [e96] at hcv
  have HR : Hid (∀ (V : World) (A : Array Value), ((fam 5).qs.flatMap qcr).toArray = A → w.heap.size ≤ V.heap.size → Below w.heap.size w V → QP (fam 5) w (.returned (.slice (some ⟨V.heap.size, 0, none⟩) 3 3)) (V.alloc (.cells A 68))) := fun V A hA h1 h2 => ⟨V.heap.size, rfl, h1, lit_rq V _ hA, h2.trans ((below_alloc V _).mono h1)⟩
  have HV := (Up.refl w).alloc (.cells #[.int .u8 96] 5)
  have HVV : Hid (Up w.heap.size w (w.alloc (.cells #[.int .u8 96] 5))) := HV
  clear hQ e96 HV
  obtain ⟨V, hV⟩ : ∃ V, w.alloc (.cells #[.int .u8 96] 5) = V := ⟨_, rfl⟩
  rw [hV] at hcv HVV
  go_enter Try.func26, Try.ntmps26
  go_wp2
  rw [← HQ.out]
  exact HR.out V _ HC.out HVV.out.2 HVV.out.1
theorem rquo6 (w : World) : Calls Try.prog 26 #[.int .u8 6] w (QP (fam 6) w) := by
  obtain ⟨Q, hQ⟩ : ∃ Q, QP (fam 6) w = Q := ⟨_, rfl⟩
  rw [hQ]
  have HQ : Hid (QP (fam 6) w = Q) := hQ
  have HC : Hid (((fam 6).qs.flatMap qcr).toArray = #[.string ⟨#[34, 34, 34]⟩, .bool true, .bool false, .bool true, .bool false, .string ⟨#[39, 39, 39]⟩, .bool true, .bool false, .bool true, .bool false, .string ⟨#[34]⟩, .bool true, .bool false, .bool false, .bool false, .string ⟨#[39]⟩, .bool true, .bool false, .bool false, .bool false]) := by show _ = _; kernel_rfl
  have hcv := one_str w 96
  have e96 : strOfNums [96] = ⟨#[96]⟩ := by kernel_rfl
  rw [e96] at hcv
  have HR : Hid (∀ (V : World) (A : Array Value), ((fam 6).qs.flatMap qcr).toArray = A → w.heap.size ≤ V.heap.size → Below w.heap.size w V → QP (fam 6) w (.returned (.slice (some ⟨V.heap.size, 0, none⟩) 4 4)) (V.alloc (.cells A 68))) := fun V A hA h1 h2 => ⟨V.heap.size, rfl, h1, lit_rq V _ hA, h2.trans ((below_alloc V _).mono h1)⟩
  have HV := (Up.refl w).alloc (.cells #[.int .u8 96] 5)
  have HVV : Hid (Up w.heap.size w (w.alloc (.cells #[.int .u8 96] 5))) := HV
  clear hQ e96 HV
  obtain ⟨V, hV⟩ : ∃ V, w.alloc (.cells #[.int .u8 96] 5) = V := ⟨_, rfl⟩
  rw [hV] at hcv HVV
  go_enter Try.func26, Try.ntmps26
  go_wp2
  rw [← HQ.out]
  exact HR.out V _ HC.out HVV.out.2 HVV.out.1
theorem rquo7 (w : World) : Calls Try.prog 26 #[.int .u8 7] w (QP (fam 7) w) := by
  obtain ⟨Q, hQ⟩ : ∃ Q, QP (fam 7) w = Q := ⟨_, rfl⟩
  rw [hQ]
  have HQ : Hid (QP (fam 7) w = Q) := hQ
  have HC : Hid (((fam 7).qs.flatMap qcr).toArray = #[.string ⟨#[34]⟩, .bool true, .bool false, .bool true, .bool false, .string ⟨#[39]⟩, .bool false, .bool false, .bool true, .bool true]) := by show _ = _; kernel_rfl
  have hcv := one_str w 96
  have e96 : strOfNums [96] = ⟨#[96]⟩ := by kernel_rfl
  rw [e96] at hcv
  have HR : Hid (∀ (V : World) (A : Array Value), ((fam 7).qs.flatMap qcr).toArray = A → w.heap.size ≤ V.heap.size → Below w.heap.size w V → QP (fam 7) w (.returned (.slice (some ⟨V.heap.size, 0, none⟩) 2 2)) (V.alloc (.cells A 68))) := fun V A hA h1 h2 => ⟨V.heap.size, rfl, h1, lit_rq V _ hA, h2.trans ((below_alloc V _).mono h1)⟩
  have HV := (Up.refl w).alloc (.cells #[.int .u8 96] 5)
  have HVV : Hid (Up w.heap.size w (w.alloc (.cells #[.int .u8 96] 5))) := HV
  clear hQ e96 HV
  obtain ⟨V, hV⟩ : ∃ V, w.alloc (.cells #[.int .u8 96] 5) = V := ⟨_, rfl⟩
  rw [hV] at hcv HVV
  go_enter Try.func26, Try.ntmps26
  go_wp2
  rw [← HQ.out]
  exact HR.out V _ HC.out HVV.out.2 HVV.out.1
theorem rquo8 (w : World) : Calls Try.prog 26 #[.int .u8 8] w (QP (fam 8) w) := by
  obtain ⟨Q, hQ⟩ : ∃ Q, QP (fam 8) w = Q := ⟨_, rfl⟩
  rw [hQ]
  have HQ : Hid (QP (fam 8) w = Q) := hQ
  have HC : Hid (((fam 8).qs.flatMap qcr).toArray = #[.string ⟨#[39]⟩, .bool false, .bool true, .bool true, .bool false, .string ⟨#[34]⟩, .bool false, .bool true, .bool true, .bool true]) := by show _ = _; kernel_rfl
  have hcv := one_str w 96
  have e96 : strOfNums [96] = ⟨#[96]⟩ := by kernel_rfl
  rw [e96] at hcv
  have HR : Hid (∀ (V : World) (A : Array Value), ((fam 8).qs.flatMap qcr).toArray = A → w.heap.size ≤ V.heap.size → Below w.heap.size w V → QP (fam 8) w (.returned (.slice (some ⟨V.heap.size, 0, none⟩) 2 2)) (V.alloc (.cells A 68))) := fun V A hA h1 h2 => ⟨V.heap.size, rfl, h1, lit_rq V _ hA, h2.trans ((below_alloc V _).mono h1)⟩
  have HV := (Up.refl w).alloc (.cells #[.int .u8 96] 5)
  have HVV : Hid (Up w.heap.size w (w.alloc (.cells #[.int .u8 96] 5))) := HV
  clear hQ e96 HV
  obtain ⟨V, hV⟩ : ∃ V, w.alloc (.cells #[.int .u8 96] 5) = V := ⟨_, rfl⟩
  rw [hV] at hcv HVV
  go_enter Try.func26, Try.ntmps26
  go_wp2
  rw [← HQ.out]
  exact HR.out V _ HC.out HVV.out.2 HVV.out.1
theorem rquo_any (w : World) {f : Int} (hf : 4 ≤ f ∧ f ≤ 8) : Calls Try.prog 26 #[.int .u8 f] w (QP (fam f) w) := by
  have h : f = 4 ∨ f = 5 ∨ f = 6 ∨ f = 7 ∨ f = 8 := by omega
  rcases h with rfl | rfl | rfl | rfl | rfl
  · exact rquo4 w
  · exact rquo5 w
  · exact rquo6 w
  · exact rquo7 w
  · exact rquo8 w
theorem rnote4 {s : ByteArray} {c : Nat → Int} {n : Nat} (h : SC s c n) (hn : n ≤ 65536) (i : Nat) (hi : i < n) (w : World) : Calls Try.prog 22 #[.int .u8 4, .string s, .int .i64 i] w fun e w' => e = .returned (.int .i64 (ntN (fam 4) c i : Nat)) ∧ w' = w := by
  have ca := rat_any h (by omega) i (by omega) ⟨#[47, 47]⟩ [47, 47] (byt_lit _ rfl) (by kernel_rfl) (by decide) (by decide) w
  have e : ntN (fam 4) c i = if oc [47, 47] c i = true then 2 else 0 := by
    unfold ntN ntB frB
    rw [show (fam 4).line = [47, 47] from rfl, show (fam 4).apart = false from rfl]
    simp
  rw [e]
  cases ho : oc [47, 47] c i with
  | true =>
    rw [ho] at ca
    rw [if_pos rfl]
    clear h ho e
    go_enter Try.func22, Try.ntmps22
    go_wp2_with fail
    refine ca.mono ?_
    rintro ev w2 ⟨rfl, hw⟩
    subst w2
    go_wp2
    go_ret
    exact ⟨rfl, rfl⟩
  | false =>
    rw [ho] at ca
    rw [if_neg Bool.false_ne_true]
    clear h ho e
    go_enter Try.func22, Try.ntmps22
    go_wp2_with fail
    refine ca.mono ?_
    rintro ev w2 ⟨rfl, hw⟩
    subst w2
    go_wp2
    go_ret
    exact ⟨rfl, rfl⟩
theorem rnote5 {s : ByteArray} {c : Nat → Int} {n : Nat} (h : SC s c n) (hn : n ≤ 65536) (i : Nat) (hi : i < n) (w : World) : Calls Try.prog 22 #[.int .u8 5, .string s, .int .i64 i] w fun e w' => e = .returned (.int .i64 (ntN (fam 5) c i : Nat)) ∧ w' = w := by
  have ca := rat_any h (by omega) i (by omega) ⟨#[47, 47]⟩ [47, 47] (byt_lit _ rfl) (by kernel_rfl) (by decide) (by decide) w
  have e : ntN (fam 5) c i = if oc [47, 47] c i = true then 2 else 0 := by
    unfold ntN ntB frB
    rw [show (fam 5).line = [47, 47] from rfl, show (fam 5).apart = false from rfl]
    simp
  rw [e]
  cases ho : oc [47, 47] c i with
  | true =>
    rw [ho] at ca
    rw [if_pos rfl]
    clear h ho e
    go_enter Try.func22, Try.ntmps22
    go_wp2_with fail
    refine ca.mono ?_
    rintro ev w2 ⟨rfl, hw⟩
    subst w2
    go_wp2
    go_ret
    exact ⟨rfl, rfl⟩
  | false =>
    rw [ho] at ca
    rw [if_neg Bool.false_ne_true]
    clear h ho e
    go_enter Try.func22, Try.ntmps22
    go_wp2_with fail
    refine ca.mono ?_
    rintro ev w2 ⟨rfl, hw⟩
    subst w2
    go_wp2
    go_ret
    exact ⟨rfl, rfl⟩
theorem rnote8 {s : ByteArray} {c : Nat → Int} {n : Nat} (h : SC s c n) (hn : n ≤ 65536) (i : Nat) (hi : i < n) (w : World) : Calls Try.prog 22 #[.int .u8 8, .string s, .int .i64 i] w fun e w' => e = .returned (.int .i64 (ntN (fam 8) c i : Nat)) ∧ w' = w := by
  have ca := rat_any h (by omega) i (by omega) ⟨#[45, 45]⟩ [45, 45] (byt_lit _ rfl) (by kernel_rfl) (by decide) (by decide) w
  have e : ntN (fam 8) c i = if oc [45, 45] c i = true then 2 else 0 := by
    unfold ntN ntB frB
    rw [show (fam 8).line = [45, 45] from rfl, show (fam 8).apart = false from rfl]
    simp
  rw [e]
  cases ho : oc [45, 45] c i with
  | true =>
    rw [ho] at ca
    rw [if_pos rfl]
    clear h ho e
    go_enter Try.func22, Try.ntmps22
    go_wp2_with fail
    refine ca.mono ?_
    rintro ev w2 ⟨rfl, hw⟩
    subst w2
    go_wp2
    go_ret
    exact ⟨rfl, rfl⟩
  | false =>
    rw [ho] at ca
    rw [if_neg Bool.false_ne_true]
    clear h ho e
    go_enter Try.func22, Try.ntmps22
    go_wp2_with fail
    refine ca.mono ?_
    rintro ev w2 ⟨rfl, hw⟩
    subst w2
    go_wp2
    go_ret
    exact ⟨rfl, rfl⟩
theorem rnote6 {s : ByteArray} {c : Nat → Int} {n : Nat} (h : SC s c n) (hn : n ≤ 65536) (i : Nat) (hi : i < n) (w : World) : Calls Try.prog 22 #[.int .u8 6, .string s, .int .i64 i] w fun e w' => e = .returned (.int .i64 (ntN (fam 6) c i : Nat)) ∧ w' = w := by
  have ca := rat_any h (by omega) i (by omega) ⟨#[35]⟩ [35] (byt_lit _ rfl) (by kernel_rfl) (by decide) (by decide) w
  have e : ntN (fam 6) c i = if oc [35] c i = true then 1 else 0 := by
    unfold ntN ntB frB
    rw [show (fam 6).line = [35] from rfl, show (fam 6).apart = false from rfl]
    simp
  rw [e]
  cases ho : oc [35] c i with
  | true =>
    rw [ho] at ca
    rw [if_pos rfl]
    clear h ho e
    go_enter Try.func22, Try.ntmps22
    go_wp2_with fail
    refine ca.mono ?_
    rintro ev w2 ⟨rfl, hw⟩
    subst w2
    go_wp2
    go_ret
    exact ⟨rfl, rfl⟩
  | false =>
    rw [ho] at ca
    rw [if_neg Bool.false_ne_true]
    clear h ho e
    go_enter Try.func22, Try.ntmps22
    go_wp2_with fail
    refine ca.mono ?_
    rintro ev w2 ⟨rfl, hw⟩
    subst w2
    go_wp2
    go_ret
    exact ⟨rfl, rfl⟩
set_option maxHeartbeats 4000000 in
theorem rnote7 {s : ByteArray} {c : Nat → Int} {n : Nat} (h : SC s c n) (hn : n ≤ 65536) (i : Nat) (hi : i < n) (w : World) : Calls Try.prog 22 #[.int .u8 7, .string s, .int .i64 i] w fun e w' => e = .returned (.int .i64 (ntN (fam 7) c i : Nat)) ∧ w' = w := by
  have ca := rat_any h (by omega) i (by omega) ⟨#[35]⟩ [35] (byt_lit _ rfl) (by kernel_rfl) (by decide) (by decide) w
  have e : ntN (fam 7) c i = if oc [35] c i = true then (if (i == 0 || spB (c (i - 1))) = true then 1 else 0) else 0 := by
    unfold ntN ntB frB
    rw [show (fam 7).line = [35] from rfl, show (fam 7).apart = true from rfl]
    cases oc [35] c i <;> simp
  rw [e]
  cases ho : oc [35] c i with
  | false =>
    rw [ho] at ca
    rw [if_neg Bool.false_ne_true]
    clear h ho e
    go_enter Try.func22, Try.ntmps22
    go_wp2_with fail
    refine ca.mono ?_
    rintro ev w2 ⟨rfl, hw⟩
    subst w2
    go_wp2
    go_ret
    exact ⟨rfl, rfl⟩
  | true =>
    rw [ho] at ca
    rw [if_pos rfl]
    by_cases h0 : i = 0
    · subst h0
      rw [if_pos (show ((0 : Nat) == 0 || spB (c (0 - 1))) = true by simp)]
      clear h ho e
      go_enter Try.func22, Try.ntmps22
      go_wp2_with fail
      refine ca.mono ?_
      rintro ev w2 ⟨rfl, hw⟩
      subst w2
      go_wp2
      go_ret
      exact ⟨rfl, rfl⟩
    · obtain ⟨k, hK⟩ : ∃ k, i = k + 1 := ⟨i - 1, by omega⟩
      have hkl : k < s.size := by have := h.1; omega
      have hx := h.2.2.1 k hkl
      have z0 : ((i : Int) == 0) = false := by simpa using h0
      have k0 : (i == 0) = false := by simpa using h0
      have z1 : IntKind.i64.wrap ((i : Int) - 1) = (k : Int) := by rw [Go.IntWalk.i64_in _ (by omega)]; omega
      have z2 : (0 : Int) ≤ (k : Int) := by omega
      have z3 : (k : Int) < (s.size : Int) := by omega
      have z4 : ¬ s.size ≤ k := by omega
      rw [k0, show i - 1 = k by omega, Bool.false_or]
      obtain ⟨x, hcx⟩ : ∃ x, c k = x := ⟨_, rfl⟩
      rw [hcx] at hx ⊢
      clear h ho e hcx h0 k0
      by_cases q32 : x = 32
      · subst q32
        rw [if_pos (by rfl)]
        clear hK
        go_enter Try.func22, Try.ntmps22
        go_wp2_with fail
        refine ca.mono ?_
        rintro ev w2 ⟨rfl, hw⟩
        subst w2
        go_wp2
        go_ret
        exact ⟨rfl, rfl⟩
      have p32 : (x == 32) = false := by simpa using q32
      by_cases q9 : x = 9
      · subst q9
        rw [if_pos (by rfl)]
        clear hK
        go_enter Try.func22, Try.ntmps22
        go_wp2_with fail
        refine ca.mono ?_
        rintro ev w2 ⟨rfl, hw⟩
        subst w2
        go_wp2
        go_ret
        exact ⟨rfl, rfl⟩
      have p9 : (x == 9) = false := by simpa using q9
      by_cases q10 : x = 10
      · subst q10
        rw [if_pos (by rfl)]
        clear hK
        go_enter Try.func22, Try.ntmps22
        go_wp2_with fail
        refine ca.mono ?_
        rintro ev w2 ⟨rfl, hw⟩
        subst w2
        go_wp2
        go_ret
        exact ⟨rfl, rfl⟩
      have p10 : (x == 10) = false := by simpa using q10
      by_cases q13 : x = 13
      · subst q13
        rw [if_pos (by rfl)]
        clear hK
        go_enter Try.func22, Try.ntmps22
        go_wp2_with fail
        refine ca.mono ?_
        rintro ev w2 ⟨rfl, hw⟩
        subst w2
        go_wp2
        go_ret
        exact ⟨rfl, rfl⟩
      have p13 : (x == 13) = false := by simpa using q13
      by_cases q59 : x = 59
      · subst q59
        rw [if_pos (by rfl)]
        clear hK
        go_enter Try.func22, Try.ntmps22
        go_wp2_with fail
        refine ca.mono ?_
        rintro ev w2 ⟨rfl, hw⟩
        subst w2
        go_wp2
        go_ret
        exact ⟨rfl, rfl⟩
      have p59 : (x == 59) = false := by simpa using q59
      rw [if_neg (by unfold spB; rw [p32, p9, p13, p10, p59]; exact Bool.false_ne_true)]
      clear q32 q9 q10 q13 q59 hK
      go_enter Try.func22, Try.ntmps22
      go_wp2_with fail
      refine ca.mono ?_
      rintro ev w2 ⟨rfl, hw⟩
      subst w2
      go_wp2
      go_ret
      exact ⟨rfl, rfl⟩
theorem rnote_any {s : ByteArray} {c : Nat → Int} {n : Nat} (h : SC s c n) (hn : n ≤ 65536) (i : Nat) (hi : i < n) {f : Int} (hf : 4 ≤ f ∧ f ≤ 8) (w : World) : Calls Try.prog 22 #[.int .u8 f, .string s, .int .i64 i] w fun e w' => e = .returned (.int .i64 (ntN (fam f) c i : Nat)) ∧ w' = w := by
  have h5 : f = 4 ∨ f = 5 ∨ f = 6 ∨ f = 7 ∨ f = 8 := by omega
  rcases h5 with rfl | rfl | rfl | rfl | rfl
  · exact rnote4 h hn i hi w
  · exact rnote5 h hn i hi w
  · exact rnote6 h hn i hi w
  · exact rnote7 h hn i hi w
  · exact rnote8 h hn i hi w
end Go.Proofs.Ytgebmmbnpdhooaa
