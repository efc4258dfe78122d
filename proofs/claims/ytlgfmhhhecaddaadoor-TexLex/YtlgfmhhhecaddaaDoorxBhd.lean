/- bytes.Index; tex: behind. -/
import Derived.Test.YtlgfmhhhecaddaaDoorhShelfI
import Derived.Test.YtlgfmhhhecaddaaDoorxCL
import Derived.Test.YtlgfmhhhecaddaaDoorxPure
namespace Go.Proofs.YtlgfmhhhecaddaaDoor
set_option linter.unusedVariables false
open Go.RowKit Go.ChangeShapes
theorem idx_any {w : World} {ad p2 : Option Addr} {n cap m d : Nat} {c : Nat → Int} {t : List Int} {x : Int} (hC : Ch c n) (h1 : BC w ad n c) (h0 : ad ≠ none) (hcap : n ≤ cap) (hn : n ≤ 1000000000) (h2 : BC w p2 m (fun j => t.getD j 0)) (hm : t.length = m) (ht : Byt t) (ht0 : t ≠ []) (hm9 : m ≤ 1000000000) (hx : w.cell? ⟨0, 0, none⟩ = some (.int .i64 x)) :
    Calls Tryd.prog 46 #[.slice ad n cap, .slice p2 m d] w fun e w' => e = .returned (.int .i64 (ixI t c n)) ∧ Below w.heap.size w w' := by
  obtain ⟨a, rfl⟩ := Option.ne_none_iff_exists'.1 h0
  have hpos : 0 < m := by rw [← hm]; exact List.length_pos_iff.2 ht0
  obtain ⟨b2, o2, rfl, -⟩ := h2.at hpos
  have := Tryd.bytes_Index_at a ⟨b2, o2, none⟩ n cap m d (cl c n) t x w (cl_len c n) hm (fun y hy => by
    obtain ⟨j, hj, rfl⟩ := List.mem_map.1 hy
    exact hC.1 j (List.mem_range.1 hj)) ht (fun i hi => by rw [cl_getD c n i hi]; exact h1.add rfl i hi) (fun i hi => h2.add rfl i hi) hcap (by omega) (by omega) hx
  rw [index_ix hC t ht ht0] at this
  exact this.mono fun e w' ⟨h3, q, h4⟩ => ⟨h3, by rw [h4]; exact below_drewN (Below.refl _ _) q⟩
set_option maxRecDepth 100000 in
theorem behind_any {w : World} {b off n cap : Nat} {c : Nat → Int} {x : Int} (hC : Ch c n) (h : BC w (some ⟨b, off, none⟩) n c) (hn : n ≤ 1000000) (hcap : n ≤ cap) (i : Nat) (hi : i ≤ n) (t : List Int) (ht : Byt t) (h0 : t ≠ []) (h9 : t.length ≤ 100) (hx : w.cell? ⟨0, 0, none⟩ = some (.int .i64 x)) :
    Calls Tryd.prog 36 #[.slice (some ⟨b, off, none⟩) n cap, .int .i64 i, .string (strOfNums t)] w fun ev w' => ev = .returned (.int .i64 (bh t c n i : Nat)) ∧ Below w.heap.size w w' := by
  have hcv := Lib.run_convert_string_bytes (P := Tryd.prog) w 9 22 5 (strOfNums t) Tryd.underlying9 Tryd.underlying22 Tryd.underlying5
  rw [strOfNums_size] at hcv
  have hb2 := conv_bc w t ht
  have hbw := conv_below w (strOfNums t)
  generalize Lib.bytesWorld w 5 (strOfNums t) = W at hcv hb2 hbw
  generalize grownCap w t.length 0 5 = gc at hcv
  obtain ⟨adk, hk⟩ : ∃ adk, (if cap = i then some (⟨b, off, none⟩ : Addr) else some ⟨b, off + i, none⟩) = adk := ⟨_, rfl⟩
  have hfr := BC.from (h.stay hbw) i hi hcap
  rw [hk] at hfr
  have hk0 : adk ≠ none := by rw [← hk]; split <;> simp
  have ct := idx_any (cap := cap - i) (d := gc) (hC.from i hi) hfr hk0 (by omega) (by omega) hb2 rfl ht h0 (by omega) (cell_stay hx hbw)
  rw [ix_bh hi] at ct
  have HBW : Hid (Below w.heap.size w W) := hbw
  have hle := fs_le (oc t c) hi
  have hge := fs_ge (oc t c) n i
  obtain ⟨R, hR⟩ : ∃ R, bh t c n i = R := ⟨_, rfl⟩
  rw [hR]
  unfold bh at hR
  have hsz : (strOfNums t).size = t.length := strOfNums_size t
  generalize fs (oc t c) n i = A at ct hle hge hR
  generalize strOfNums t = s at hcv hsz ⊢
  obtain ⟨m, hm⟩ : ∃ m, t.length = m := ⟨_, rfl⟩
  rw [hm] at hcv ct hR h9 hsz
  have z1 : (0 : Int) ≤ (i : Int) := by omega
  have z2 : (i : Int) ≤ (n : Int) := by omega
  clear hfr hb2 hk0 h hbw hm hC ht h0
  by_cases hA : A < n
  · rw [if_pos hA] at ct hR
    obtain ⟨D, hD⟩ : ∃ D : Nat, (A : Int) - i = (D : Int) := ⟨A - i, by omega⟩
    rw [hD] at ct
    have HR : Hid (R = i + D + m) := by show R = _; omega
    have q1 : ¬ (D : Int) < 0 := by omega
    have q2 : (D : Int) ≤ 1000000 := by omega
    have q3 : (m : Int) ≤ 100 := by omega
    clear hR hD hA
    go_enter Tryd.func36, Tryd.ntmps36
    go_wp2_with fail
    refine ct.mono ?_
    rintro e w1 ⟨rfl, hb1⟩
    have HB1 : Hid (Below w.heap.size w w1) := HBW.out.trans (hb1.mono HBW.out.size)
    clear ct hcv hk hb1
    go_wp2
    go_ret
    refine ⟨?_, HB1.out⟩
    rw [HR.out]
    go_num
  · rw [if_neg hA] at ct hR
    have HR : Hid (n = R) := hR
    clear hA hR
    go_enter Tryd.func36, Tryd.ntmps36
    go_wp2_with fail
    refine ct.mono ?_
    rintro e w1 ⟨rfl, hb1⟩
    have HB1 : Hid (Below w.heap.size w w1) := HBW.out.trans (hb1.mono HBW.out.size)
    clear ct hcv hk hb1
    go_wp2
    go_ret
    exact ⟨by rw [HR.out]; rfl, HB1.out⟩
end Go.Proofs.YtlgfmhhhecaddaaDoor
