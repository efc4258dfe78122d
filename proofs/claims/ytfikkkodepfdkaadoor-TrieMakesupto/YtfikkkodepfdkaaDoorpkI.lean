/- What a bound on the arguments' bulk says of texts in a row. -/
import Derived.Deep.Strs
import Derived.Test.YtfikkkodepfdkaaDoorRows
import Derived.Test.YtfikkkodepfdkaaDoorpkB
namespace Go.Proofs.YtfikkkodepfdkaaDoor
set_option linter.unusedVariables false
open Go.RowKit Go.ChangeShapes
theorem bulk_mem {H : Type} {d : DataW H} : ∀ {l : List (DataW H)}, d ∈ l → Rows.uptoBulk d ≤ Rows.uptoBulkAll l
  | [], h => by cases h
  | x :: r, h => by
    rw [Rows.uptoBulkAll]
    rcases List.mem_cons.1 h with rfl | h
    · omega
    · have := bulk_mem h; omega
theorem bulk_len {H : Type} : ∀ (l : List (DataW H)), (∀ d ∈ l, 1 ≤ Rows.uptoBulk d) → l.length ≤ Rows.uptoBulkAll l
  | [], _ => Nat.zero_le _
  | x :: r, h => by
    rw [Rows.uptoBulkAll]
    have := h x (List.mem_cons_self ..)
    have := bulk_len r (fun d hd => h d (List.mem_cons_of_mem _ hd))
    simp only [List.length_cons]
    omega
theorem bulk_str {H : Type} (b : List UInt8) : Rows.uptoBulk (DataW.lit (H := H) (.string b)) = b.length + 1 := by
  simp [Rows.uptoBulk]
theorem bulk_strs {H : Type} {len B : Nat} {Sx : Nat → ByteArray} {sp : List (DataW H)} (h : Rows.uptoBulk (DataW.slice ((List.range len).map fun i => .lit (.string (Sx i).data.toList)) sp) ≤ B) :
    len ≤ B ∧ ∀ s ∈ (List.range len).map Sx, s.size ≤ B := by
  simp only [Rows.uptoBulk] at h
  have h1 := bulk_len ((List.range len).map fun i => (DataW.lit (H := H) (.string (Sx i).data.toList))) (fun d hd => by
    obtain ⟨i, _, rfl⟩ := List.mem_map.1 hd
    rw [bulk_str]; omega)
  simp only [List.length_map, List.length_range] at h1
  refine ⟨by omega, fun s hs => ?_⟩
  obtain ⟨i, hi, rfl⟩ := List.mem_map.1 hs
  have h2 := bulk_mem (List.mem_map_of_mem (f := fun i => (DataW.lit (H := H) (.string (Sx i).data.toList))) hi)
  rw [bulk_str] at h2
  have h3 : (Sx i).size = (Sx i).data.toList.length := by simp
  omega
theorem addr_add (b off j : Nat) : (⟨b, off, none⟩ : Addr).add j = ⟨b, off + j, none⟩ := by
  unfold Addr.add; split <;> simp_all
theorem strs_tl {W : World} {a : Addr} {len cap m : Nat} {Sx : Nat → ByteArray} (hlm : len ≤ m) (hc : ∀ i, i < m → W.cell? (a.add i) = some (.string (Sx i)) ∧ (Sx i).size ≤ maxLen) : TL W (.slice (some a) len cap) ((List.range len).map Sx) := by
  refine ⟨some a, cap, by simp, fun j s hs => ?_⟩
  obtain ⟨hj, e⟩ := List.getElem?_eq_some_iff.1 hs
  have hj' : j < len := by simpa using hj
  obtain ⟨b, off, spot⟩ := a
  have h0 := (hc j (by omega)).1
  have hspot : spot = none := by simpa [Addr.add] using World.cell?_spot (hc 0 (by omega)).1
  subst hspot
  rw [addr_add] at h0
  refine ⟨b, off, rfl, ?_⟩
  rw [h0]
  simp at e
  rw [e]
end Go.Proofs.YtfikkkodepfdkaaDoor
