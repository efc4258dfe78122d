/- src: a format's family. -/
import Derived.Test.YtgebmmbnpdhooaasThg
namespace Go.Proofs.Ytgebmmbnpdhooaa
set_option linter.unusedVariables false
open Go.RowKit Go.ChangeShapes
/-- A family as a value. -/
def fv (F : Fm) (gq : Nat) : Value := .agg #[.string (strOfNums F.line), .bool F.apart, .string (strOfNums F.opn), .string (strOfNums F.sht), .bool F.nst, .slice (some ⟨gq, 0, none⟩) F.qs.length F.qs.length]
def FP (F : Fm) (w : World) (ev : Ending) (w' : World) : Prop := ∃ gq, ev = .returned (.tuple #[fv F gq, .bool true]) ∧ w.heap.size ≤ gq ∧ gq < w'.heap.size ∧ QR w' gq F.qs ∧ Below w.heap.size w w'
def qcs (q : Qt) : List Value := [.string (strOfNums q.mark), .int .u8 q.inn, .bool q.esc, .bool q.dbl, .bool q.lng]
theorem qcs_at (l : List Qt) : ∀ (k : Nat) (q : Qt), l[k]? = some q → ∀ j, j < 5 → (l.flatMap qcs)[k * 5 + j]? = (qcs q)[j]? := by
  induction l with
  | nil => intro k q h; simp at h
  | cons a l ih =>
    intro k q h j hj
    cases k with
    | zero =>
      simp only [List.getElem?_cons_zero, Option.some.injEq] at h
      subst h
      rw [List.flatMap_cons, List.getElem?_append_left (by show 0 * 5 + j < 5; omega)]
      rw [show 0 * 5 + j = j by omega]
    | succ k =>
      simp only [List.getElem?_cons_succ] at h
      rw [List.flatMap_cons, List.getElem?_append_right (by show 5 ≤ _; omega)]
      show (l.flatMap qcs)[(k + 1) * 5 + j - 5]? = _
      rw [show (k + 1) * 5 + j - 5 = k * 5 + j by omega]
      exact ih k q h j hj
theorem lit_qr (w : World) (l : List Qt) {A : Array Value} {T : Nat} {m : Nat × Nat} (h : (l.flatMap qcs).toArray = A) : QR (w.alloc (.cells A T m)) w.heap.size l := fun k q hk => by
  subst h
  have h1 := heap_alloc_new w (.cells (l.flatMap qcs).toArray T m)
  have h2 := qcs_at l k q hk
  simp only [World.cell?, h1, List.getElem?_toArray]
  exact ⟨h2 0 (by decide), h2 1 (by decide), h2 2 (by decide), h2 3 (by decide), h2 4 (by decide)⟩
theorem fam_no {w : World} {f : Int} (hf : f < 4 ∨ 8 < f) : Calls Try.prog 18 #[.int .u8 f] w fun ev w' => ∃ v : Value, (∃ a0 a1 a2 a3 a4 a5, v = .agg #[.string a0, .bool a1, .string a2, .string a3, .bool a4, .slice none a5 a5]) ∧ ev = .returned (.tuple #[v, .bool false]) ∧ Below w.heap.size w w' := by
  have k4 : (f == 4) = false := by simp; omega
  have k5 : (f == 5) = false := by simp; omega
  have k6 : (f == 6) = false := by simp; omega
  have k7 : (f == 7) = false := by simp; omega
  have k8 : (f == 8) = false := by simp; omega
  clear hf
  obtain ⟨Q, hQ⟩ : ∃ Q : Ending → World → Prop, (fun ev w' => ∃ v : Value, (∃ a0 a1 a2 a3 a4 a5, v = .agg #[.string a0, .bool a1, .string a2, .string a3, .bool a4, .slice none a5 a5]) ∧ ev = .returned (.tuple #[v, .bool false]) ∧ Below w.heap.size w w') = Q := ⟨_, rfl⟩
  rw [hQ]
  have HQ : Hid ((fun ev w' => ∃ v : Value, (∃ a0 a1 a2 a3 a4 a5, v = .agg #[.string a0, .bool a1, .string a2, .string a3, .bool a4, .slice none a5 a5]) ∧ ev = .returned (.tuple #[v, .bool false]) ∧ Below w.heap.size w w') = Q) := hQ
  clear hQ
  go_enter Try.func18, Try.ntmps18
  go_wp2
  refine bodyPost_ret (v := .tuple #[.agg #[.string ⟨#[]⟩, .bool false, .string ⟨#[]⟩, .string ⟨#[]⟩, .bool false, .slice none 0 0], .bool false]) (by simp [results, Try.results18, go_sem]) rfl ?_
  rw [← HQ.out]
  exact ⟨_, ⟨_, _, _, _, _, _, rfl⟩, rfl, (((Up.refl w).alloc _).alloc _).alloc _ |>.1⟩
theorem fam4 (w : World) : Calls Try.prog 18 #[.int .u8 4] w (FP (fam 4) w) := by
  obtain ⟨Q, hQ⟩ : ∃ Q, FP (fam 4) w = Q := ⟨_, rfl⟩
  rw [hQ]
  have HQ : Hid (FP (fam 4) w = Q) := hQ
  have HV : Hid (∀ gq, (Value.agg #[.string ⟨#[47, 47]⟩, .bool false, .string ⟨#[47, 42]⟩, .string ⟨#[42, 47]⟩, .bool false, .slice (some ⟨gq, 0, none⟩) 2 2]) = fv (fam 4) gq) := fun gq => by kernel_rfl
  have HC : Hid (((fam 4).qs.flatMap qcs).toArray = #[.string ⟨#[34]⟩, .int .u8 5, .bool true, .bool false, .bool false, .string ⟨#[39]⟩, .int .u8 5, .bool true, .bool false, .bool false]) := by show _ = _; kernel_rfl
  clear hQ
  go_enter Try.func18, Try.ntmps18
  go_wp2
  refine bodyPost_ret (v := .tuple #[.agg #[.string ⟨#[47, 47]⟩, .bool false, .string ⟨#[47, 42]⟩, .string ⟨#[42, 47]⟩, .bool false, .slice (some ⟨w.heap.size + 1 + 1 + 1, 0, none⟩) 2 2], .bool true]) (by simp [results, Try.results18, go_sem]) rfl ?_
  rw [← HQ.out]
  refine ⟨w.heap.size + 1 + 1 + 1, ?_, by omega, ?_, ?_, (((((Up.refl w).alloc _).alloc _).alloc _).alloc _).1⟩
  · rw [HV.out]
  · simp only [World.alloc, Array.size_push]
    omega
  · have e : ∀ (V : World) (A : Array Value) (g : Nat), V.heap.size = g → ((fam 4).qs.flatMap qcs).toArray = A → QR (V.alloc (.cells A 72)) g (fam 4).qs := fun V A g hg hA => by subst hg; exact lit_qr V _ hA
    exact e _ _ _ (by simp only [World.alloc, Array.size_push]) HC.out
theorem fam5 (w : World) : Calls Try.prog 18 #[.int .u8 5] w (FP (fam 5) w) := by
  obtain ⟨Q, hQ⟩ : ∃ Q, FP (fam 5) w = Q := ⟨_, rfl⟩
  rw [hQ]
  have HQ : Hid (FP (fam 5) w = Q) := hQ
  have HV : Hid (∀ gq, (Value.agg #[.string ⟨#[47, 47]⟩, .bool false, .string ⟨#[47, 42]⟩, .string ⟨#[42, 47]⟩, .bool false, .slice (some ⟨gq, 0, none⟩) 3 3]) = fv (fam 5) gq) := fun gq => by kernel_rfl
  have HC : Hid (((fam 5).qs.flatMap qcs).toArray = #[.string ⟨#[34]⟩, .int .u8 5, .bool true, .bool false, .bool false, .string ⟨#[39]⟩, .int .u8 5, .bool true, .bool false, .bool false, .string ⟨#[96]⟩, .int .u8 7, .bool false, .bool false, .bool true]) := by show _ = _; kernel_rfl
  clear hQ
  go_enter Try.func18, Try.ntmps18
  go_wp2
  refine bodyPost_ret (v := .tuple #[.agg #[.string ⟨#[47, 47]⟩, .bool false, .string ⟨#[47, 42]⟩, .string ⟨#[42, 47]⟩, .bool false, .slice (some ⟨w.heap.size + 1 + 1 + 1 + 1, 0, none⟩) 3 3], .bool true]) (by simp [results, Try.results18, go_sem]) rfl ?_
  rw [← HQ.out]
  refine ⟨w.heap.size + 1 + 1 + 1 + 1, ?_, by omega, ?_, ?_, ((((((Up.refl w).alloc _).alloc _).alloc _).alloc _).alloc _).1⟩
  · rw [HV.out]
  · simp only [World.alloc, Array.size_push]
    omega
  · have e : ∀ (V : World) (A : Array Value) (g : Nat), V.heap.size = g → ((fam 5).qs.flatMap qcs).toArray = A → QR (V.alloc (.cells A 72)) g (fam 5).qs := fun V A g hg hA => by subst hg; exact lit_qr V _ hA
    exact e _ _ _ (by simp only [World.alloc, Array.size_push]) HC.out
theorem fam6 (w : World) : Calls Try.prog 18 #[.int .u8 6] w (FP (fam 6) w) := by
  obtain ⟨Q, hQ⟩ : ∃ Q, FP (fam 6) w = Q := ⟨_, rfl⟩
  rw [hQ]
  have HQ : Hid (FP (fam 6) w = Q) := hQ
  have HV : Hid (∀ gq, (Value.agg #[.string ⟨#[35]⟩, .bool false, .string ⟨#[]⟩, .string ⟨#[]⟩, .bool false, .slice (some ⟨gq, 0, none⟩) 4 4]) = fv (fam 6) gq) := fun gq => by kernel_rfl
  have HC : Hid (((fam 6).qs.flatMap qcs).toArray = #[.string ⟨#[34, 34, 34]⟩, .int .u8 5, .bool true, .bool false, .bool true, .string ⟨#[39, 39, 39]⟩, .int .u8 5, .bool true, .bool false, .bool true, .string ⟨#[34]⟩, .int .u8 5, .bool true, .bool false, .bool false, .string ⟨#[39]⟩, .int .u8 5, .bool true, .bool false, .bool false]) := by show _ = _; kernel_rfl
  clear hQ
  go_enter Try.func18, Try.ntmps18
  go_wp2
  refine bodyPost_ret (v := .tuple #[.agg #[.string ⟨#[35]⟩, .bool false, .string ⟨#[]⟩, .string ⟨#[]⟩, .bool false, .slice (some ⟨w.heap.size + 1 + 1 + 1 + 1 + 1, 0, none⟩) 4 4], .bool true]) (by simp [results, Try.results18, go_sem]) rfl ?_
  rw [← HQ.out]
  refine ⟨w.heap.size + 1 + 1 + 1 + 1 + 1, ?_, by omega, ?_, ?_, (((((((Up.refl w).alloc _).alloc _).alloc _).alloc _).alloc _).alloc _).1⟩
  · rw [HV.out]
  · simp only [World.alloc, Array.size_push]
    omega
  · have e : ∀ (V : World) (A : Array Value) (g : Nat), V.heap.size = g → ((fam 6).qs.flatMap qcs).toArray = A → QR (V.alloc (.cells A 72)) g (fam 6).qs := fun V A g hg hA => by subst hg; exact lit_qr V _ hA
    exact e _ _ _ (by simp only [World.alloc, Array.size_push]) HC.out
theorem fam7 (w : World) : Calls Try.prog 18 #[.int .u8 7] w (FP (fam 7) w) := by
  obtain ⟨Q, hQ⟩ : ∃ Q, FP (fam 7) w = Q := ⟨_, rfl⟩
  rw [hQ]
  have HQ : Hid (FP (fam 7) w = Q) := hQ
  have HV : Hid (∀ gq, (Value.agg #[.string ⟨#[35]⟩, .bool true, .string ⟨#[]⟩, .string ⟨#[]⟩, .bool false, .slice (some ⟨gq, 0, none⟩) 2 2]) = fv (fam 7) gq) := fun gq => by kernel_rfl
  have HC : Hid (((fam 7).qs.flatMap qcs).toArray = #[.string ⟨#[34]⟩, .int .u8 5, .bool true, .bool false, .bool true, .string ⟨#[39]⟩, .int .u8 7, .bool false, .bool false, .bool true]) := by show _ = _; kernel_rfl
  clear hQ
  go_enter Try.func18, Try.ntmps18
  go_wp2
  refine bodyPost_ret (v := .tuple #[.agg #[.string ⟨#[35]⟩, .bool true, .string ⟨#[]⟩, .string ⟨#[]⟩, .bool false, .slice (some ⟨w.heap.size + 1 + 1 + 1, 0, none⟩) 2 2], .bool true]) (by simp [results, Try.results18, go_sem]) rfl ?_
  rw [← HQ.out]
  refine ⟨w.heap.size + 1 + 1 + 1, ?_, by omega, ?_, ?_, (((((Up.refl w).alloc _).alloc _).alloc _).alloc _).1⟩
  · rw [HV.out]
  · simp only [World.alloc, Array.size_push]
    omega
  · have e : ∀ (V : World) (A : Array Value) (g : Nat), V.heap.size = g → ((fam 7).qs.flatMap qcs).toArray = A → QR (V.alloc (.cells A 72)) g (fam 7).qs := fun V A g hg hA => by subst hg; exact lit_qr V _ hA
    exact e _ _ _ (by simp only [World.alloc, Array.size_push]) HC.out
theorem fam8 (w : World) : Calls Try.prog 18 #[.int .u8 8] w (FP (fam 8) w) := by
  obtain ⟨Q, hQ⟩ : ∃ Q, FP (fam 8) w = Q := ⟨_, rfl⟩
  rw [hQ]
  have HQ : Hid (FP (fam 8) w = Q) := hQ
  have HV : Hid (∀ gq, (Value.agg #[.string ⟨#[45, 45]⟩, .bool false, .string ⟨#[47, 42]⟩, .string ⟨#[42, 47]⟩, .bool true, .slice (some ⟨gq, 0, none⟩) 2 2]) = fv (fam 8) gq) := fun gq => by kernel_rfl
  have HC : Hid (((fam 8).qs.flatMap qcs).toArray = #[.string ⟨#[39]⟩, .int .u8 5, .bool false, .bool true, .bool true, .string ⟨#[34]⟩, .int .u8 7, .bool false, .bool true, .bool true]) := by show _ = _; kernel_rfl
  clear hQ
  go_enter Try.func18, Try.ntmps18
  go_wp2
  refine bodyPost_ret (v := .tuple #[.agg #[.string ⟨#[45, 45]⟩, .bool false, .string ⟨#[47, 42]⟩, .string ⟨#[42, 47]⟩, .bool true, .slice (some ⟨w.heap.size + 1 + 1 + 1, 0, none⟩) 2 2], .bool true]) (by simp [results, Try.results18, go_sem]) rfl ?_
  rw [← HQ.out]
  refine ⟨w.heap.size + 1 + 1 + 1, ?_, by omega, ?_, ?_, (((((Up.refl w).alloc _).alloc _).alloc _).alloc _).1⟩
  · rw [HV.out]
  · simp only [World.alloc, Array.size_push]
    omega
  · have e : ∀ (V : World) (A : Array Value) (g : Nat), V.heap.size = g → ((fam 8).qs.flatMap qcs).toArray = A → QR (V.alloc (.cells A 72)) g (fam 8).qs := fun V A g hg hA => by subst hg; exact lit_qr V _ hA
    exact e _ _ _ (by simp only [World.alloc, Array.size_push]) HC.out
end Go.Proofs.Ytgebmmbnpdhooaa
