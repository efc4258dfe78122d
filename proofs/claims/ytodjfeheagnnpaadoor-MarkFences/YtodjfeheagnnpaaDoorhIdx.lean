/- html: bytes.Index; texts as bytes. -/
import Derived.Test.YtodjfeheagnnpaaDoorhShelfI
import Derived.Test.YtodjfeheagnnpaaDoorhAtt
import Derived.Lib.ConvBytes
namespace Go.Proofs.YtodjfeheagnnpaaDoor
set_option linter.unusedVariables false
open Go.RowKit Go.ChangeShapes
theorem idx_any {w : World} {ad p2 : Option Addr} {n cap m d : Nat} {c : Nat → Int} {t : List Int} {x : Int} (hC : Ch c n) (h1 : BC w ad n c) (h0 : ad ≠ none) (hcap : n ≤ cap) (hn : n ≤ 1000000000) (h2 : BC w p2 m (fun j => t.getD j 0)) (hm : t.length = m) (ht : Byt t) (ht0 : t ≠ []) (hm9 : m ≤ 1000000000) (hx : w.cell? ⟨1, 0, none⟩ = some (.int .i64 x)) :
    Calls Tryd.prog 62 #[.slice ad n cap, .slice p2 m d] w fun e w' => e = .returned (.int .i64 (ixI t c n)) ∧ Below w.heap.size w w' := by
  obtain ⟨a, rfl⟩ := Option.ne_none_iff_exists'.1 h0
  have hpos : 0 < m := by rw [← hm]; exact List.length_pos_iff.2 ht0
  obtain ⟨b2, o2, rfl, -⟩ := h2.at hpos
  have := Tryd.bytes_Index_at a ⟨b2, o2, none⟩ n cap m d (cl c n) t x w (cl_len c n) hm (fun y hy => by
    obtain ⟨j, hj, rfl⟩ := List.mem_map.1 hy
    exact hC.1 j (List.mem_range.1 hj)) ht (fun i hi => by rw [cl_getD c n i hi]; exact h1.add rfl i hi) (fun i hi => h2.add rfl i hi) hcap (by omega) (by omega) hx
  rw [index_ix hC t ht ht0] at this
  exact this.mono fun e w' ⟨h3, q, h4⟩ => ⟨h3, by rw [h4]; exact below_drewN (Below.refl _ _) q⟩
theorem ix_bh {t : List Int} {c : Nat → Int} {n i : Nat} (h : i ≤ n) : ixI t (fun j => c (i + j)) (n - i) = if fs (oc t c) n i < n then (fs (oc t c) n i : Int) - i else -1 := by
  have h1 : oc t (fun j => c (i + j)) = fun j => oc t c (i + j) := by
    funext j
    rw [oc_shift]
  unfold ixI
  rw [h1, fs_shift (oc t c) n i h]
  have h2 := fs_le (fun j => oc t c (i + j)) (n := n - i) (i := 0) (Nat.zero_le _)
  by_cases h3 : fs (fun j => oc t c (i + j)) (n - i) 0 < n - i
  · rw [if_pos h3, if_pos (by omega)]
    omega
  · rw [if_neg h3, if_neg (by omega)]
theorem conv_bc (w : World) (t : List Int) (ht : Byt t) : BC (Lib.bytesWorld w 5 (strOfNums t)) (some ⟨w.heap.size, 0, none⟩) t.length (fun j => t.getD j 0) := fun i hi => by
  refine ⟨_, _, rfl, ?_⟩
  rw [Nat.zero_add, Lib.bytesWorld_cell w 5 (strOfNums t) i (by rw [strOfNums_size]; exact hi), strOfNums_data]
  have hx := ht t[i] (List.getElem_mem hi)
  simp [List.getD, List.getElem?_eq_getElem hi]
  omega
theorem conv_below (w : World) (s : ByteArray) : Below w.heap.size w (Lib.bytesWorld w 5 s) :=
  ⟨rfl, rfl, rfl, by rw [Lib.bytesWorld_size]; omega, fun k hk => Lib.bytesWorld_at_old w 5 s k hk⟩
end Go.Proofs.YtodjfeheagnnpaaDoor
