/- HtmlGreat. -/
import Derived.Test.YtjieonldmckheaaDoorhGrtP
import Derived.Test.YtjieonldmckheaaDoorhBits
import Derived.Test.YtjieonldmckheaaDoorlSame
namespace Go.Proofs.YtjieonldmckheaaDoor
set_option linter.unusedVariables false
open Go.RowKit Go.ChangeShapes
def lwQ (x y : Int) : Bool := x == y || (decide (65 ≤ x) && decide (x ≤ 90) && y == x + 32) || (decide (65 ≤ y) && decide (y ≤ 90) && x == y + 32)
def leQ : List Int → List Int → Bool
  | [], [] => true
  | x :: l, y :: m => lwQ x y && leQ l m
  | _, _ => false
def peQ : List (List Int) → List (List Int) → Bool
  | [], [] => true
  | x :: l, y :: m => leQ x y && peQ l m
  | _, _ => false
theorem lwQ_is {x y : Int} (h : lwQ x y = true) : LwE x y := by
  simp only [lwQ, Bool.or_eq_true, Bool.and_eq_true, beq_iff_eq, decide_eq_true_eq] at h
  unfold LwE
  omega
theorem leQ_len : ∀ {l m : List Int}, leQ l m = true → l.length = m.length
  | [], [], _ => rfl
  | x :: l, y :: m, h => by
    have h' : lwQ x y = true ∧ leQ l m = true := by
      have : (lwQ x y && leQ l m) = true := h
      simpa using this
    rw [List.length_cons, List.length_cons, leQ_len h'.2]
  | [], _ :: _, h => by cases h
  | _ :: _, [], h => by cases h
theorem leQ_at : ∀ {l m : List Int}, leQ l m = true → CE (cL l) (cL m)
  | [], [], _ => fun i => Or.inl rfl
  | x :: l, y :: m, h => fun i => by
    have h' : lwQ x y = true ∧ leQ l m = true := by
      have : (lwQ x y && leQ l m) = true := h
      simpa using this
    cases i with
    | zero => exact lwQ_is h'.1
    | succ i => exact leQ_at h'.2 i
  | [], _ :: _, h => by cases h
  | _ :: _, [], h => by cases h
theorem leQ_app : ∀ {l m l' m' : List Int}, leQ l m = true → leQ l' m' = true → leQ (l ++ l') (m ++ m') = true
  | [], [], _, _, _, h => h
  | x :: l, y :: m, l', m', h, h2 => by
    have h' : lwQ x y = true ∧ leQ l m = true := by
      have : (lwQ x y && leQ l m) = true := h
      simpa using this
    show (lwQ x y && leQ (l ++ l') (m ++ m')) = true
    rw [h'.1, leQ_app h'.2 h2]
    rfl
  | [], _ :: _, _, _, h, _ => by cases h
  | _ :: _, [], _, _, h, _ => by cases h
theorem leQ_flat {α : Type} {f g : α → List Int} (h : ∀ x, leQ (f x) (g x) = true) : ∀ l : List α, leQ (l.flatMap f) (l.flatMap g) = true
  | [] => rfl
  | x :: l => by
    rw [List.flatMap_cons, List.flatMap_cons]
    exact leQ_app (h x) (leQ_flat h l)
theorem peQ_at : ∀ {l m : List (List Int)}, peQ l m = true → ∀ k : Nat, (∃ t u, l[k]? = some t ∧ m[k]? = some u ∧ leQ t u = true) ∨ (l[k]? = none ∧ m[k]? = none)
  | [], [], _, k => Or.inr ⟨rfl, rfl⟩
  | x :: l, y :: m, h, k => by
    have h' : leQ x y = true ∧ peQ l m = true := by
      have : (leQ x y && peQ l m) = true := h
      simpa using this
    cases k with
    | zero => exact Or.inl ⟨x, y, rfl, rfl, h'.1⟩
    | succ k => exact peQ_at h'.2 k
  | [], _ :: _, h, _ => by cases h
  | _ :: _, [], h, _ => by cases h
theorem bit_eq {P Q : List (List Int)} (h : peQ P Q = true) {r s : Nat → Int} {n : Nat} (hr : ∀ i, lwQ (r i) (s i) = true) (x : Nat) : leQ (bit P r n x) (bit Q s n x) = true := by
  unfold bit
  rcases peQ_at h x with ⟨t, u, h1, h2, h3⟩ | ⟨h1, h2⟩
  · rw [h1, h2]; exact h3
  · rw [h1, h2]
    dsimp only
    split
    · show (lwQ (r (x % n)) (s (x % n)) && true) = true
      rw [hr]
      rfl
    · rfl
theorem bit_91 {P : List (List Int)} (h : P.all (fun t => t.all (fun y => y != 91)) = true) {r : Nat → Int} {n : Nat} (hr : ∀ i, i < n → r i ≠ 91) (x : Nat) : ∀ y ∈ bit P r n x, y ≠ 91 := by
  intro y hy
  unfold bit at hy
  split at hy
  · rename_i t ht
    have h1 := List.all_eq_true.1 h t (List.mem_of_getElem? ht)
    have h2 := List.all_eq_true.1 h1 y hy
    simpa using h2
  · split at hy
    · rename_i h0
      rw [List.mem_singleton] at hy
      rw [hy]
      exact hr _ (Nat.mod_lt _ h0)
    · cases hy
theorem no91_of {l : List Int} (h : ∀ y ∈ l, y ≠ 91) : No91 (cL l) := fun i => by
  rcases Nat.lt_or_ge i l.length with h1 | h1
  · rw [cL_in (List.getElem?_eq_getElem h1)]
    exact h _ (List.getElem_mem h1)
  · rw [cL_out h1]
    decide
theorem lit_ps (w : World) (ps : List (List Int)) : PS (w.alloc (.cells ((ps.map fun t => Value.string (strOfNums t)).toArray) 9)) w.heap.size ps := fun k t ht => by
  have := heap_alloc_new w (.cells ((ps.map fun t => Value.string (strOfNums t)).toArray) 9)
  simp only [World.cell?, this]
  simp [ht]
def psA : List (List Int) := [[60, 98, 32], [60, 105, 62], [60, 47, 105, 62], [97, 108, 116, 61], [116, 105, 116, 108, 101, 61, 39, 120, 32, 121, 39], [99, 108, 97, 115, 115, 61, 113], [32], [10], [60, 33, 45, 45], [45, 45, 62], [60, 115, 99, 114, 105, 112, 116, 62], [60, 47, 115, 99, 114, 105, 112, 116, 62], [60, 116, 105, 116, 108, 101, 62], [60, 47, 116, 105, 116, 108, 101, 62], [119, 111, 114, 100], [62], [34]]
def psB : List (List Int) := [[60, 66, 32], [60, 73, 62], [60, 47, 73, 62], [65, 76, 84, 61], [84, 73, 84, 76, 69, 61, 39, 88, 32, 89, 39], [67, 76, 65, 83, 83, 61, 81], [32], [10], [60, 33, 45, 45], [45, 45, 62], [60, 83, 67, 82, 73, 80, 84, 62], [60, 47, 83, 67, 82, 73, 80, 84, 62], [60, 84, 73, 84, 76, 69, 62], [60, 47, 84, 73, 84, 76, 69, 62], [87, 79, 82, 68], [62], [34]]
theorem pslen {ps : List (List Int)} (h : ps.all (fun t => decide (t.length ≤ 100)) = true) : ∀ t ∈ ps, t.length ≤ 100 := fun t ht => by
  have := List.all_eq_true.1 h t ht
  simpa using this
theorem psbyt {ps : List (List Int)} (h : ps.all (fun t => t.all (fun x => decide (0 ≤ x) && decide (x < 256))) = true) : ∀ t ∈ ps, Byt t := fun t ht => byt_lit t (List.all_eq_true.1 h t ht)
set_option maxRecDepth 100000 in
set_option maxHeartbeats 1000000 in
theorem great_law {w : World} (hG : Glo w) {la : Option Addr} {ln lcap : Nat} {lc : Nat → Int} (hlC : Ch lc ln) (hl : BC w la ln lc) (hln : ln ≤ maxLen) :
    Calls Tryd.prog 8 #[.slice la ln lcap] w fun ev w' => ev = .returned (.bool true) ∧ Below w.heap.size w w' := by
  have ca := awake_any w hG
  have hcA := fun (w' : World) => Go.Lib.run_convert_bytes_const (P := Tryd.prog) w' 22 5 #[.int .u8 97] 1 1 Tryd.underlying22 Tryd.underlying5
  have hcB := fun (w' : World) => Go.Lib.run_convert_bytes_const (P := Tryd.prog) w' 22 5 #[.int .u8 65] 1 1 Tryd.underlying22 Tryd.underlying5
  have HH : Hid (Glo w ∧ Ch lc ln ∧ BC w la ln lc ∧ ln ≤ maxLen) := ⟨hG, hlC, hl, hln⟩
  clear hG hlC hl hln
  go_enter Tryd.func8, Tryd.ntmps8
  go_wp2_with fail
  refine ca.mono ?_
  rintro ev w1 ⟨rfl, hb1⟩
  have HB1 : Hid (Below w.heap.size w w1) := hb1
  clear ca hb1
  obtain ⟨W1, hW1⟩ : ∃ W1, w1.alloc (.cells #[.string ⟨#[60, 98, 32]⟩, .string ⟨#[60, 105, 62]⟩, .string ⟨#[60, 47, 105, 62]⟩, .string ⟨#[97, 108, 116, 61]⟩, .string ⟨#[116, 105, 116, 108, 101, 61, 39, 120, 32, 121, 39]⟩, .string ⟨#[99, 108, 97, 115, 115, 61, 113]⟩, .string ⟨#[32]⟩, .string ⟨#[10]⟩, .string ⟨#[60, 33, 45, 45]⟩, .string ⟨#[45, 45, 62]⟩, .string ⟨#[60, 115, 99, 114, 105, 112, 116, 62]⟩, .string ⟨#[60, 47, 115, 99, 114, 105, 112, 116, 62]⟩, .string ⟨#[60, 116, 105, 116, 108, 101, 62]⟩, .string ⟨#[60, 47, 116, 105, 116, 108, 101, 62]⟩, .string ⟨#[119, 111, 114, 100]⟩, .string ⟨#[62]⟩, .string ⟨#[34]⟩] 9) = W1 := ⟨_, rfl⟩
  have hp1 : PS W1 w1.heap.size psA := by rw [← hW1]; exact lit_ps w1 psA
  have hb1 : Below w1.heap.size w1 W1 := by rw [← hW1]; exact below_alloc w1 _
  obtain ⟨W2, hW2⟩ : ∃ W2, W1.alloc (.cells #[.string ⟨#[60, 66, 32]⟩, .string ⟨#[60, 73, 62]⟩, .string ⟨#[60, 47, 73, 62]⟩, .string ⟨#[65, 76, 84, 61]⟩, .string ⟨#[84, 73, 84, 76, 69, 61, 39, 88, 32, 89, 39]⟩, .string ⟨#[67, 76, 65, 83, 83, 61, 81]⟩, .string ⟨#[32]⟩, .string ⟨#[10]⟩, .string ⟨#[60, 33, 45, 45]⟩, .string ⟨#[45, 45, 62]⟩, .string ⟨#[60, 83, 67, 82, 73, 80, 84, 62]⟩, .string ⟨#[60, 47, 83, 67, 82, 73, 80, 84, 62]⟩, .string ⟨#[60, 84, 73, 84, 76, 69, 62]⟩, .string ⟨#[60, 47, 84, 73, 84, 76, 69, 62]⟩, .string ⟨#[87, 79, 82, 68]⟩, .string ⟨#[62]⟩, .string ⟨#[34]⟩] 9) = W2 := ⟨_, rfl⟩
  have hp2 : PS W2 W1.heap.size psB := by rw [← hW2]; exact lit_ps W1 psB
  have hb2 : Below W1.heap.size W1 W2 := by rw [← hW2]; exact below_alloc W1 _
  obtain ⟨W3, hW3⟩ : ∃ W3, W2.alloc (.cells #[.int .u8 97] 5 (1, 2)) = W3 := ⟨_, rfl⟩
  have hb3 : Below W2.heap.size W2 W3 := by rw [← hW3]; exact below_alloc W2 _
  have hl3 : BC W3 (some ⟨W2.heap.size, 0, none⟩) 1 (cL [97]) := by
    rw [← hW3]
    exact (lit_bc W2 [97] (1, 2)).congr fun i hi => by
      obtain rfl : i = 0 := by have : i < 1 := hi; omega
      rfl
  have HB3 : Hid (Below w.heap.size w W3) := by
    have h1 := HB1.out.trans (hb1.mono HB1.out.size)
    have h2 := h1.trans (hb2.mono h1.size)
    exact h2.trans (hb3.mono h2.size)
  have hb13 : Below W1.heap.size W1 W3 := hb2.trans (hb3.mono hb2.size)
  obtain ⟨SA, hSA⟩ : ∃ SA, bts psA (cL [97]) 1 (nl lc ln) = SA := ⟨_, rfl⟩
  obtain ⟨SB, hSB⟩ : ∃ SB, bts psB (cL [65]) 1 (nl lc ln) = SB := ⟨_, rfl⟩
  have cb : Calls Tryd.prog 10 #[.slice (some ⟨w1.heap.size, 0, none⟩) 17 17, .slice la ln lcap, .slice (some ⟨W2.heap.size, 0, none⟩) 1 1] W3 fun ev w' => ∃ v, ev = .returned v ∧ OB w' W3.heap.size v SA ∧ Below W3.heap.size W3 w' := by
    rw [← hSA]
    exact bits_any (pc := 17) (rcap := 1) (lcap := lcap) (hp1.stay hb13) (pslen (by decide)) (psbyt (by decide)) (by decide) HH.out.2.1 (HH.out.2.2.1.stay HB3.out) HH.out.2.2.2 (cL_ch (byt_lit [97] rfl) : Ch (cL [97]) 1) hl3 (by unfold maxLen; decide)
  have hnA : SA.length ≤ 6000 := by rw [← hSA]; exact bts_len (pslen (by decide)) _ _ _
  have hnB : SB.length ≤ 6000 := by rw [← hSB]; exact bts_len (pslen (by decide)) _ _ _
  have hleQ : leQ SA SB = true := by
    rw [← hSA, ← hSB]
    refine leQ_flat (fun x => bit_eq (by decide) (fun i => ?_) x) _
    cases i <;> rfl
  have hAB : SA.length = SB.length := leQ_len hleQ
  have HAB : Hid (lxA (cL SA) SA.length = lxA (cL SB) SB.length ∧ Ch (cL SA) SA.length ∧ Ch (cL SB) SB.length ∧ bts psB (cL [65]) 1 (nl lc ln) = SB) := by
    refine ⟨?_, ?_, ?_, hSB⟩
    · rw [hAB]
      refine lxA_eq (leQ_at hleQ) (no91_of ?_) (no91_of ?_) _
      · rw [← hSA]
        intro y hy
        obtain ⟨x, _, hx⟩ := List.mem_flatMap.1 hy
        exact bit_91 (by decide) (fun i hi => by obtain rfl : i = 0 := by omega
                                                 decide) x y hx
      · rw [← hSB]
        intro y hy
        obtain ⟨x, _, hx⟩ := List.mem_flatMap.1 hy
        exact bit_91 (by decide) (fun i hi => by obtain rfl : i = 0 := by omega
                                                 decide) x y hx
    · rw [← hSA]
      exact cL_ch (bts_byt (psbyt (by decide)) (cL_ch (byt_lit [97] rfl) : Ch (cL [97]) 1) _)
    · rw [← hSB]
      exact cL_ch (bts_byt (psbyt (by decide)) (cL_ch (byt_lit [65] rfl) : Ch (cL [65]) 1) _)
  have HP2 : Hid (PS W3 W1.heap.size psB) := hp2.stay hb3
  obtain ⟨na, hna⟩ : ∃ na, SA.length = na := ⟨_, rfl⟩
  have HNA : Hid (SA.length = na ∧ SB.length = na) := ⟨hna, by rw [← hAB]; exact hna⟩
  have hna6 : na ≤ 6000 := by omega
  clear hp1 hp2 hb1 hb2 hb3 hl3 hb13 hSA hSB hleQ hAB hnA hnB hna
  go_wp2_with fail
  refine cb.mono ?_
  rintro ev w4 ⟨v4, rfl, ho4, hb4⟩
  obtain ⟨ad4, cap4, rfl, hcp4⟩ := ho4.form
  have HB4 : Hid (Below w.heap.size w w4) := HB3.out.trans (hb4.mono HB3.out.size)
  have HP4 : Hid (PS w4 W1.heap.size psB) := HP2.out.stay hb4
  have HC4 : Hid (BC w4 ad4 na (cL SA)) := by
    have := ho4.bc
    rw [HNA.out.1] at this
    exact this
  rw [HNA.out.1] at hcp4 ⊢
  clear cb hb4 ho4 hW1 hW2 hW3 hcA
  go_wp2_with (at_builtin; refine app_ob rfl _ _ rfl w4.heap.size (.slice none 0 0) [] rfl (OB.nil _ _) ad4 na cap4 (cL SA) rfl HC4.out (by simp; omega) (Nat.le_refl _) ?_)
  intro v5 w5 ho5 hg5
  have hb5 : Below w4.heap.size w4 w5 := (Below.refl _ _).grown hg5 (Nat.le_refl _) (fun k hk => by cases hk)
  obtain ⟨ad5, cap5, rfl, hcp5⟩ := ho5.form
  have e5 : cl (cL SA) na = SA := by rw [← HNA.out.1]; exact cl_cL SA
  rw [e5] at ho5 hcp5
  rw [e5, HNA.out.1]
  rw [HNA.out.1] at ho5 hcp5
  have HC5 : Hid (BC w5 ad5 na (cL SA)) := by
    have : OB w5 w4.heap.size (.slice ad5 SA.length cap5) SA := by rw [HNA.out.1]; exact ho5
    have := this.bc
    rw [HNA.out.1] at this
    exact this
  have HB5 : Hid (Below w.heap.size w w5) := HB4.out.trans (hb5.mono HB4.out.size)
  have HP5 : Hid (PS w5 W1.heap.size psB) := HP4.out.stay hb5
  clear ho5 hg5 hb5 e5
  obtain ⟨W6, hW6⟩ : ∃ W6, w5.alloc (.cells #[.int .u8 65] 5 (1, 2)) = W6 := ⟨_, rfl⟩
  have hb6 : Below w5.heap.size w5 W6 := by rw [← hW6]; exact below_alloc w5 _
  have hl6 : BC W6 (some ⟨w5.heap.size, 0, none⟩) 1 (cL [65]) := by
    rw [← hW6]
    exact (lit_bc w5 [65] (1, 2)).congr fun i hi => by
      obtain rfl : i = 0 := by have : i < 1 := hi; omega
      rfl
  have HB6 : Hid (Below w.heap.size w W6) := HB5.out.trans (hb6.mono HB5.out.size)
  have HC6 : Hid (BC W6 ad5 na (cL SA)) := HC5.out.stay hb6
  have cb2 : Calls Tryd.prog 10 #[.slice (some ⟨W1.heap.size, 0, none⟩) 17 17, .slice la ln lcap, .slice (some ⟨w5.heap.size, 0, none⟩) 1 1] W6 fun ev w' => ∃ v, ev = .returned v ∧ OB w' W6.heap.size v SB ∧ Below W6.heap.size W6 w' := by
    rw [← HAB.out.2.2.2]
    exact bits_any (pc := 17) (rcap := 1) (lcap := lcap) (HP5.out.stay hb6) (pslen (by decide)) (psbyt (by decide)) (by decide) HH.out.2.1 (HH.out.2.2.1.stay HB6.out) HH.out.2.2.2 (cL_ch (byt_lit [65] rfl) : Ch (cL [65]) 1) hl6 (by unfold maxLen; decide)
  clear hb6 hl6
  go_wp2_with fail
  refine cb2.mono ?_
  rintro ev w7 ⟨v7, rfl, ho7, hb7⟩
  obtain ⟨ad7, cap7, rfl, hcp7⟩ := ho7.form
  have HB7 : Hid (Below w.heap.size w w7) := HB6.out.trans (hb7.mono HB6.out.size)
  have HC7 : Hid (BC w7 ad5 na (cL SA)) := HC6.out.stay hb7
  have HD7 : Hid (BC w7 ad7 na (cL SB)) := by
    have := ho7.bc
    rw [HNA.out.2] at this
    exact this
  rw [HNA.out.2] at hcp7 ⊢
  clear cb2 hb7 ho7 hW6 hcB
  go_wp2_with (at_builtin; refine app_ob rfl _ _ rfl w7.heap.size (.slice none 0 0) [] rfl (OB.nil _ _) ad7 na cap7 (cL SB) rfl HD7.out (by simp; omega) (Nat.le_refl _) ?_)
  intro v8 w8 ho8 hg8
  have hb8 : Below w7.heap.size w7 w8 := (Below.refl _ _).grown hg8 (Nat.le_refl _) (fun k hk => by cases hk)
  obtain ⟨ad8, cap8, rfl, hcp8⟩ := ho8.form
  have e8 : cl (cL SB) na = SB := by rw [← HNA.out.2]; exact cl_cL SB
  rw [e8] at ho8 hcp8
  rw [e8, HNA.out.2]
  rw [HNA.out.2] at ho8 hcp8
  have HD8 : Hid (BC w8 ad8 na (cL SB)) := by
    have : OB w8 w7.heap.size (.slice ad8 SB.length cap8) SB := by rw [HNA.out.2]; exact ho8
    have := this.bc
    rw [HNA.out.2] at this
    exact this
  have HB8 : Hid (Below w.heap.size w w8) := HB7.out.trans (hb8.mono HB7.out.size)
  have HC8 : Hid (BC w8 ad5 na (cL SA)) := HC7.out.stay hb8
  have HCH : Hid (Ch (cL SA) na ∧ Ch (cL SB) na) := by
    have h1 := HAB.out.2.1
    have h2 := HAB.out.2.2.1
    rw [HNA.out.1] at h1
    rw [HNA.out.2] at h2
    exact ⟨h1, h2⟩
  clear ho8 hg8 hb8 e8 hcp4 hcp7
  have cx := lex_any HCH.out.1 HC8.out (by omega) hcp5 (HH.out.1.stay HB8.out)
  go_wp2_with fail
  refine cx.mono ?_
  rintro ev w9 ⟨T1, g1, rfl, hT1, hg1, hS1, hU1⟩
  have HB9 : Hid (Below w.heap.size w w9) := HB8.out.trans (hU1.1.mono HB8.out.size)
  have HS9 : Hid (Sh w9 T1 g1 na (lxA (cL SA) na)) := hS1
  have HD9 : Hid (BC w9 ad8 na (cL SB)) := HD8.out.stay hU1.1
  clear cx hT1 hg1 hS1 hU1
  have cy := lex_any HCH.out.2 HD9.out (by omega) hcp8 (HH.out.1.stay HB9.out)
  go_wp2_with fail
  refine cy.mono ?_
  rintro ev wA ⟨T2, g2, rfl, hT2, hg2, hS2, hU2⟩
  have HBA : Hid (Below w.heap.size w wA) := HB9.out.trans (hU2.1.mono HB9.out.size)
  have HSA : Hid (Sh wA T1 g1 na (lxA (cL SA) na)) := HS9.out.stay hU2.1
  have HTA : Hid (Sh wA T2 g2 na (lxA (cL SA) na)) := by
    have := HAB.out.1
    rw [HNA.out.1, HNA.out.2] at this
    show Sh _ _ _ _ _
    rw [this]
    exact hS2
  clear cy hT2 hg2 hS2 hU2
  have cs1 := segs_any HSA.out (by omega)
  go_wp2_with fail
  refine cs1.mono ?_
  rintro ev wB ⟨u1, rfl, hR1, hUB⟩
  have HBB : Hid (Below w.heap.size w wB) := HBA.out.trans (hUB.1.mono HBA.out.size)
  have HR1 : Hid (SR wB wA.heap.size u1 (sg (lxA (cL SA) na) na)) := hR1
  have cs2 := segs_any (HTA.out.stay hUB.1) (by omega)
  clear cs1 hR1 hUB
  go_wp2_with fail
  refine cs2.mono ?_
  rintro ev wC ⟨u2, rfl, hR2, hUC⟩
  have HBC : Hid (Below w.heap.size w wC) := HBB.out.trans (hUC.1.mono HBB.out.size)
  have csm := same_any (HR1.out.stay hUC.1) hR2 (Nat.le_trans (sg_len _ _) (by omega))
  clear cs2 hR2 hUC
  go_wp2_with fail
  refine csm.mono ?_
  rintro ev wD ⟨rfl, hUD⟩
  have HBD : Hid (Below w.heap.size w wD) := HBC.out.trans (hUD.1.mono HBC.out.size)
  clear csm hUD
  go_wp2
  go_ret
  exact ⟨rfl, HBD.out⟩
end Go.Proofs.YtjieonldmckheaaDoor
