/- The reference's SameNears, of rows wherever they lie. -/
import Derived.BigQuiet
import Derived.Test.YtfikkkodepfdkaaDoorpkE
import Derived.Test.YtfikkkodepfdkaaDoorpkB
import Derived.Test.YtfikkkodepfdkaaDoorpkC
namespace Go.Proofs.YtfikkkodepfdkaaDoor
set_option linter.unusedVariables false
open Go.RowKit Go.ChangeShapes
/-- Suggestions lie where a slice points. -/
def NL (w : World) (v : Value) (N : List Nr) : Prop := Srcs w v N.length 2 (nrC N)
theorem NL.stay {w w' : World} {v : Value} {N : List Nr} (h : NL w v N) (hb : Below w.heap.size w w') : NL w' v N := Srcs.stay h hb
theorem nrC_at (N : List Nr) (i : Nat) (x : Nr) (h : N[i]? = some x) : (nrC N)[i * 2]? = some (.string x.s) ∧ (nrC N)[i * 2 + 1]? = some (.int .i64 (x.d : Int)) := by
  induction N generalizing i with
  | nil => simp at h
  | cons y N ih =>
    have hc : nrC (y :: N) = .string y.s :: .int .i64 (y.d : Int) :: nrC N := rfl
    rw [hc]
    match i, h with
    | 0, h => simp at h; subst h; exact ⟨rfl, rfl⟩
    | i + 1, h =>
      have h' : N[i]? = some x := by simpa using h
      obtain ⟨a, b⟩ := ih i h'
      rw [show (i + 1) * 2 = i * 2 + 2 by omega]
      exact ⟨a, b⟩
theorem NL.form {w : World} {v : Value} {N : List Nr} (h : NL w v N) : ∃ ad c, v = .slice ad N.length c ∧ ∀ (i : Nat) (x : Nr), N[i]? = some x → ∃ b off, ad = some ⟨b, off, none⟩ ∧ w.cell? ⟨b, off + i * 2, none⟩ = some (.string x.s) ∧ w.cell? ⟨b, off + i * 2 + 1, none⟩ = some (.int .i64 (x.d : Int)) := by
  obtain ⟨hl, ⟨ad, c, rfl, h0⟩ | ⟨b, off, c, rfl, hc⟩⟩ := h
  · refine ⟨ad, c, by rw [h0], fun i x hx => ?_⟩
    have := List.eq_nil_of_length_eq_zero h0
    subst this
    simp at hx
  · refine ⟨_, c, rfl, fun i x hx => ?_⟩
    obtain ⟨h1, h2⟩ := nrC_at N i x hx
    exact ⟨b, off, rfl, hc _ _ h1, hc _ _ h2⟩
set_option maxRecDepth 100000 in
theorem sameN_any (N : List Nr) (v v' : Value) (w : World) (h : NL w v N) (h' : NL w v' N) (hL : N.length ≤ 5000) :
    Calls Tryd.prog 18 #[v, v'] w fun e w' => e = .returned (.bool true) ∧ Below w.heap.size w w' := by
  obtain ⟨ad, c, rfl, hc⟩ := h.form
  obtain ⟨ad', c', rfl, hc'⟩ := h'.form
  have HC : Hid (∀ (i : Nat) (x : Nr), N[i]? = some x → ∃ b off, ad = some ⟨b, off, none⟩ ∧ w.cell? ⟨b, off + i * 2, none⟩ = some (.string x.s) ∧ w.cell? ⟨b, off + i * 2 + 1, none⟩ = some (.int .i64 (x.d : Int))) := hc
  have HC' : Hid (∀ (i : Nat) (x : Nr), N[i]? = some x → ∃ b off, ad' = some ⟨b, off, none⟩ ∧ w.cell? ⟨b, off + i * 2, none⟩ = some (.string x.s) ∧ w.cell? ⟨b, off + i * 2 + 1, none⟩ = some (.int .i64 (x.d : Int))) := hc'
  clear hc hc' h h'
  generalize en : N.length = n at *
  have EN : Hid (N.length = n) := en
  clear en
  go_enter Tryd.func18, Tryd.ntmps18
  go_wp2
  go_loopg [5] n (fun g iv wr => ∃ i : Nat, i ≤ n ∧ g = n - i ∧ iv = .int .i64 i ∧ Hid (Up w.heap.size w wr))
  case atStart => exact ⟨0, Nat.zero_le _, rfl, rfl, Up.refl w⟩
  case round =>
    obtain ⟨i, hin, hg, rfl, HU⟩ := hrel
    have z0 : (0 : Int) ≤ (i : Int) := by omega
    by_cases hlt : i < n
    · have z1 : (i : Int) < (n : Int) := by omega
      obtain ⟨x, hx⟩ : ∃ x, N[i]? = some x := ⟨_, List.getElem?_eq_getElem (by rw [EN.out]; exact hlt)⟩
      obtain ⟨b, off, rfl, h1, h2⟩ := HC.out i x hx
      obtain ⟨b', off', rfl, h3, h4⟩ := HC'.out i x hx
      have k1 := cell_stay h1 HU.out.1
      have k2 := cell_stay h2 HU.out.1
      have k3 := cell_stay h3 HU.out.1
      have k4 := cell_stay h4 HU.out.1
      obtain ⟨xs, xd⟩ := x
      dsimp only at k1 k2 k3 k4
      clear hx h1 h2 h3 h4
      go_upto_region 6 with fail
      go_quiet (fail)
      go_wp2
      go_roundg (n - (i + 1))
      case measure => omega
      case rel => exact ⟨i + 1, by omega, rfl, by go_num, HU.out.drewN _⟩
    · obtain rfl : i = n := by omega
      have z1 : ¬ (i : Int) < (i : Int) := by omega
      go_wp2
      go_ret
      exact ⟨rfl, HU.out.1⟩
end Go.Proofs.YtfikkkodepfdkaaDoor
