/- Where a byte is; texts as bytes. -/
import Derived.Test.YtgebmmbnpdhooaaxShelfB
import Derived.Test.YtgebmmbnpdhooaasByt
import Derived.Lib.ConvBytes
namespace Go.Proofs.Ytgebmmbnpdhooaa
set_option linter.unusedVariables false
open Go.RowKit Go.ChangeShapes
theorem idxB_any {w : World} {ad : Option Addr} {n cap : Nat} {c : Nat → Int} (hC : Ch c n) (h1 : BC w ad n c) (h0 : ad ≠ none) (q : Int) (hq : 0 ≤ q ∧ q < 256) :
    Calls Try.prog 38 #[.slice ad n cap, .int .u8 q] w fun e w' => e = .returned (.int .i64 (ixI [q] c n)) ∧ w' = w := by
  obtain ⟨a, rfl⟩ := Option.ne_none_iff_exists'.1 h0
  have := Try.bytes_IndexByte_at a n cap (cl c n) q w (cl_len c n) (fun i hi => by rw [cl_getD c n i hi]; exact h1.add rfl i hi)
  rw [← Lib.index_one, show [(q.toNat.toUInt8)] = Lib.bytesOf [q] from rfl, index_ix hC [q] (fun x hx => by rw [List.mem_singleton] at hx; rw [hx]; exact hq) (by simp)] at this
  exact this
theorem ix_bh {t : List Int} {c : Nat → Int} {n i : Nat} (h : i ≤ n) : ixI t (fun j => c (i + j)) (n - i) = if fs (oc t c) n i < n then (fs (oc t c) n i : Int) - i else -1 := by
  have h1 : oc t (fun j => c (i + j)) = fun j => oc t c (i + j) := by
    funext j
    rw [oc_shift]
  unfold ixI
  rw [h1, fs_shift (oc t c) n i h]
  have h2 := fs_le (fun j => oc t c (i + j)) (n := n - i) (i := 0) (Nat.zero_le _)
  by_cases h3 : fs (fun j => oc t c (i + j)) (n - i) 0 < n - i
  · rw [if_pos h3, if_pos (by omega)]
    omega
  · rw [if_neg h3, if_neg (by omega)]
theorem conv_bc (w : World) (t : List Int) (ht : Byt t) : BC (Lib.bytesWorld w 5 (strOfNums t)) (some ⟨w.heap.size, 0, none⟩) t.length (fun j => t.getD j 0) := fun i hi => by
  refine ⟨_, _, rfl, ?_⟩
  rw [Nat.zero_add, Lib.bytesWorld_cell w 5 (strOfNums t) i (by rw [strOfNums_size]; exact hi), strOfNums_data]
  have hx := ht t[i] (List.getElem_mem hi)
  simp [List.getD, List.getElem?_eq_getElem hi]
  omega
theorem conv_below (w : World) (s : ByteArray) : Below w.heap.size w (Lib.bytesWorld w 5 s) :=
  ⟨rfl, rfl, rfl, by rw [Lib.bytesWorld_size]; omega, fun k hk => Lib.bytesWorld_at_old w 5 s k hk⟩
end Go.Proofs.Ytgebmmbnpdhooaa
