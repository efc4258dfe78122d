/- Rows of rows of bytes, as they come in. -/
import Derived.Deep.Slices
import Derived.ChangeSlices
import Derived.Test.YtfikkkodepfdkaaDoorRows
import Derived.Test.YtfikkkodepfdkaaDoorpkM
import Derived.Test.YtfikkkodepfdkaaDoorpkJ
namespace Go.Proofs.YtfikkkodepfdkaaDoor
set_option linter.unusedVariables false
open Go.RowKit Go.ChangeShapes
theorem u8_fit {x : Int} (h : (Lit.int .u8 x).wf = true) : ∃ n : Nat, x = (n : Int) ∧ n ≤ 255 := u8_nat h
theorem br_of {W : World} {a : Addr} {len cap : Nat} {zs : List Int} (hz : len ≤ zs.length) (hc : ∀ i, i < zs.length → W.cell? (a.add i) = some (.int .u8 (zs.getD i 0))) (hw : ∀ n ∈ zs, (Lit.int .u8 n).wf = true) :
    ∃ ns : List Nat, ns.length = len ∧ BR W (.slice (some a) len cap) ns := by
  have hl : ((zs.take len).map Int.toNat).length = len := by rw [List.length_map, List.length_take]; omega
  refine ⟨(zs.take len).map Int.toNat, hl, some a, cap, by rw [hl], fun j x hx => ?_⟩
  have hj : j < len := by
    have := (List.getElem?_eq_some_iff.1 hx).1
    rw [hl] at this
    exact this
  have hjz : j < zs.length := by omega
  obtain ⟨b, off, spot⟩ := a
  have hcj := hc j hjz
  have hspot : spot = none := by simpa [Addr.add] using World.cell?_spot (hc 0 (by omega))
  subst hspot
  obtain ⟨n, hn, hn2⟩ := u8_fit (hw _ (List.getElem_mem hjz))
  have hx2 : x = n := by
    rw [List.getElem?_map, List.getElem?_take, if_pos hj, List.getElem?_eq_getElem hjz, hn] at hx
    simpa using hx.symm
  subst hx2
  refine ⟨hn2, b, off, rfl, ?_⟩
  rw [addr_plus] at hcj
  rw [hcj, List.getD_eq_getElem?_getD, List.getElem?_eq_getElem hjz, hn]
  rfl
theorem br_trod {H : Type} {enc : TypeId × Value → H} {W : World} {base : Nat} {spare : Nat → Bool} {held : Bool} {fuel : Nat} {cs : List Value} {x : DataW H × List MemPlace} (h : DataW.trod enc Tryd.prog W base spare held fuel 43 cs = some x) :
    ∃ v ns, cs = [v] ∧ BR W v ns ∧ ns.length ≤ maxLen := by
  rcases open_ints Tryd.underlying43 Tryd.underlying5 (show Tryd.prog.cellsOf 5 = 1 by kernel_rfl) h with ⟨hcs, _⟩ | ⟨a, len, cap, zs, hcs, _, hl, hm, hz, _, hc, hwf⟩
  · exact ⟨_, [], hcs, ⟨none, 0, rfl, fun j x hx => by simp at hx⟩, Nat.zero_le _⟩
  · obtain ⟨ns, h1, h2⟩ := br_of (len := len) (cap := cap) (by rw [hz]; split <;> omega) hc hwf
    exact ⟨_, ns, hcs, h2, by omega⟩
theorem brr_trod {H : Type} {enc : TypeId × Value → H} {W : World} {base : Nat} {spare : Nat → Bool} {held : Bool} {fuel : Nat} {cs : List Value} {x : DataW H × List MemPlace} (h : DataW.trod enc Tryd.prog W base spare held fuel 42 cs = some x) :
    ∃ v Z, cs = [v] ∧ BRR W v Z ∧ Z.length ≤ maxLen := by
  rcases Go.Deep.open_slice Tryd.underlying42 h with ⟨hcs, _⟩ | ⟨a, len, cap, m, n, D, Pl, hcs, hb, hl, hm, hmm, _, he⟩
  · exact ⟨_, [], hcs, ⟨none, 0, rfl, fun j x hx => by simp at hx⟩, Nat.zero_le _⟩
  · have hlm : len ≤ m := by rw [hmm]; split <;> omega
    have hone : Tryd.prog.cellsOf 43 = 1 := by kernel_rfl
    have hrow : ∀ i, i < len → ∃ (u : Value) (ns : List Nat), W.cell? (a.add i) = some u ∧ BR W u ns ∧ ns.length ≤ maxLen := fun i hi => by
      obtain ⟨cs', h1, h2⟩ := he i (by omega)
      rw [hone, Nat.mul_one] at h1
      obtain ⟨v, ns, rfl, h3, h4⟩ := br_trod h2
      exact ⟨v, ns, cell_of_cells?_one h1, h3, h4⟩
    have hZ : ∃ Z : List (List Nat), Z.length = len ∧ ∀ (j : Nat) (zs : List Nat), Z[j]? = some zs → zs.length ≤ maxLen ∧ ∃ u, W.cell? (a.add j) = some u ∧ BR W u zs := by
      have key : ∀ k, k ≤ len → ∃ Z : List (List Nat), Z.length = k ∧ ∀ (j : Nat) (zs : List Nat), Z[j]? = some zs → zs.length ≤ maxLen ∧ ∃ u, W.cell? (a.add j) = some u ∧ BR W u zs := fun k => by
        induction k with
        | zero => exact fun _ => ⟨[], rfl, fun j zs hj => by simp at hj⟩
        | succ k ih =>
          intro hk
          obtain ⟨Z, h1, h2⟩ := ih (by omega)
          obtain ⟨u, ns, h3, h4, h5⟩ := hrow k (by omega)
          refine ⟨Z ++ [ns], by simp [h1], fun j zs hj => ?_⟩
          rcases Nat.lt_or_ge j k with hjk | hjk
          · rw [List.getElem?_append_left (by omega)] at hj
            exact h2 j zs hj
          · have hjl := (List.getElem?_eq_some_iff.1 hj).1
            rw [List.length_append, List.length_singleton] at hjl
            obtain rfl : j = k := by omega
            rw [List.getElem?_append_right (by omega), h1, Nat.sub_self] at hj
            obtain rfl : ns = zs := by simpa using hj
            exact ⟨h5, u, h3, h4⟩
      exact key len (Nat.le_refl _)
    obtain ⟨Z, hZl, hZ⟩ := hZ
    refine ⟨_, Z, hcs, ⟨some a, cap, by rw [hZl], fun j zs hj => ?_⟩, by omega⟩
    obtain ⟨h1, u, h2, h3⟩ := hZ j zs hj
    obtain ⟨u0, _, h00, _⟩ := hrow 0 (by have := (List.getElem?_eq_some_iff.1 hj).1; omega)
    obtain ⟨b, off, spot⟩ := a
    have hspot : spot = none := by simpa [Addr.add] using World.cell?_spot h00
    subst hspot
    rw [addr_plus] at h2
    exact ⟨h1, b, off, u, rfl, h2, h3⟩
end Go.Proofs.YtfikkkodepfdkaaDoor
