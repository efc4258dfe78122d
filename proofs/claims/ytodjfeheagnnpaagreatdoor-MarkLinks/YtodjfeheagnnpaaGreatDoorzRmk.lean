/- The reference's Mark, of a line that begins with a link. -/
import Derived.Test.YtodjfeheagnnpaaGreatDoorzRb
import Derived.Test.YtodjfeheagnnpaaGreatDoormStb
namespace Go.Proofs.YtodjfeheagnnpaaGreatDoor
set_option linter.unusedVariables false
open Go.RowKit Go.ChangeShapes
open Lns (nL S bsl_own)
variable {s : ByteArray} {c : Nat → Int} {n : Nat}
theorem sc_bs (h : SC s c n) : s = bs c n := h.2.2.2
theorem one_line (hk : Lk c n) : nL (bs c n) = 1 ∧ Lns.line (bs c n) 0 = bs c n := by
  have h5 := hk.n5
  have hpos := Lns.nL_pos (s := bs c n) (by rw [bs_size]; omega)
  have hS0 := Lns.S_zero (bs c n)
  have hS1 := S_next hk.ch.1 hpos
  have hn : fs (fun j => c j == 10) n 0 = n := fs_is (Nat.zero_le _) (Nat.le_refl _) (fun k _ hk2 => by have := hk.nl k hk2; simpa using this) (fun hh => absurd hh (Nat.lt_irrefl _))
  have he : lnE c n 0 = n := by unfold lnE; rw [hn, if_neg (Nat.lt_irrefl _)]
  rw [hS0, he] at hS1
  have h1 : nL (bs c n) = 1 := by
    rcases Nat.lt_or_ge 1 (nL (bs c n)) with h | h
    · have := Lns.S_lt h
      rw [hS1, bs_size] at this
      exact absurd this (Nat.lt_irrefl _)
    · omega
  refine ⟨h1, ?_⟩
  unfold Lns.line
  rw [hS0, hS1]
  unfold Lns.sub
  have hsz : (bs c n).data.size = n := bs_size c n
  apply ByteArray.ext
  have e := Array.extract_size (xs := (bs c n).data)
  rw [hsz] at e
  exact e
theorem clk_byt (hC : Ch c n) : Byt (cl c n) := fun x hx => by
  obtain ⟨i, hi, rfl⟩ := List.mem_map.1 hx
  exact hC.1 i (List.mem_range.1 hi)
theorem cl_ne (hk : Lk c n) (u : List Int) (hu : u[0]? ≠ some 91) : (cl c n == u) = false := by
  rw [beq_eq_false_iff_ne]
  intro e
  apply hu
  rw [← e, cl_at c n 0 (by have := hk.n5; omega), hk.c0]
set_option maxRecDepth 100000 in
set_option maxHeartbeats 2000000 in
theorem rmark_lk (h : SC s c n) (hk : Lk c n) (w : World) :
    Calls Tryz.prog 12 #[.string s] w fun e w' => ∃ g, e = .returned (.slice (some ⟨g, 0, none⟩) n n) ∧ w.heap.size ≤ g ∧ LR w' g n (lkL (shP c n 4 1)) ∧ Up w.heap.size w w' := by
  have h5 := hk.n5
  have hnb := hk.nb
  have hsz := h.1
  have HH : Hid (SC s c n ∧ Lk c n) := ⟨h, hk⟩
  have t1 : (s.toList == [45, 45, 45]) = false := by
    rw [h.2.2.2, show ((strOfNums (cl c n)).toList == [45, 45, 45]) = (cl c n == [45, 45, 45]) from nums_is (clk_byt hk.ch) _ (byt_lit [45, 45, 45] rfl)]
    exact cl_ne hk _ (by decide)
  have t2 : (s.toList == []) = false := by
    rw [h.2.2.2, show ((strOfNums (cl c n)).toList == []) = (cl c n == []) from nums_is (clk_byt hk.ch) _ (byt_lit [] rfl)]
    exact cl_ne hk _ (by decide)
  obtain ⟨Z, hZ⟩ : ∃ Z, lkL (shP c n 4 1) = Z := ⟨_, rfl⟩
  have HZ : Hid (lkL (shP c n 4 1) = Z) := hZ
  rw [hZ]
  have ca := rall_any n (by omega) 1 w
  clear h hk hZ
  go_enter Tryz.func12, Tryz.ntmps12
  go_wp2_with fail
  refine ca.mono ?_
  rintro e w1 ⟨g, rfl, hg, hL1, hU1⟩
  have hcv := Lib.run_convert_string_bytes (P := Tryz.prog) w1 9 22 5 s Tryz.underlying9 Tryz.underlying22 Tryz.underlying5
  have hbw := conv_below w1 s
  have hbc := conv_bc w1 (cl c n) (clk_byt HH.out.2.ch)
  have hgc := grownCap_ge w1 n 0 5
  rw [← show s = strOfNums (cl c n) from HH.out.1.2.2.2, cl_len] at hbc
  rw [hsz] at hcv
  generalize Lib.bytesWorld w1 5 s = V at hcv hbc hbw
  generalize grownCap w1 n 0 5 = gc at hcv hgc
  have hbc2 : BC V (some ⟨w1.heap.size, 0, none⟩) n c := hbc.congr fun i hi => by
    have := cl_at c n i hi
    simp [this]
  have hsb : s = bs c n := HH.out.1.2.2.2
  have cl2 := Lns.rlines_any s (.slice (some ⟨w1.heap.size, 0, none⟩) n gc) V (by omega) (Or.inr ⟨w1.heap.size, 0, gc, by rw [hsz], by omega, by omega, by rw [hsb]; exact bs_by HH.out.2.ch.1 hbc2⟩)
  have hln := one_line HH.out.2
  rw [← hsb] at hln
  rw [hln.1] at cl2
  have HS1 : Hid (LR V g n (fun _ => 1) ∧ Up w.heap.size w V ∧ w.heap.size ≤ g ∧ g < V.heap.size) := ⟨hL1.stay hbw, hU1.stay hbw, hg, by have := hL1.lt; have := hbw.size; omega⟩
  have HLN : Hid (Lns.line s 0 = s) := hln.2
  clear ca hL1 hU1 hg hbw hbc hbc2 hsb hln
  go_wp2_with fail
  refine cl2.mono ?_
  rintro e w2 ⟨rv, rfl, hrow, hb2⟩
  obtain ⟨ra, rc, rfl⟩ := own_form hrow
  obtain ⟨gr, rfl, -, -⟩ := own_at (n := 1) hrow (by omega)
  have hcell : w2.cell? ⟨gr, 0, none⟩ = some (.string s) := by
    refine (World.ownsRow.cellAt hrow 0 (by omega)).trans ?_
    show some (Value.string (Lns.line s 0)) = some (.string s)
    rw [HLN.out]
  have HS2 : Hid (LR w2 g n (fun _ => 1) ∧ Up w.heap.size w w2 ∧ w.heap.size ≤ g ∧ w2.cell? ⟨gr, 0, none⟩ = some (.string s)) := ⟨HS1.out.1.stay hb2, HS1.out.2.1.stay hb2, HS1.out.2.2.1, hcell⟩
  have ct := rtrim_lk HH.out.1 HH.out.2 w2
  clear cl2 hrow hb2
  go_wp2_with fail
  refine ct.mono ?_
  rintro e w3 ⟨rfl, hw⟩
  subst w3
  have hex : s.extract 0 n = s := by
    have hsd : s.data.size = n := hsz
    apply ByteArray.ext
    rw [ByteArray.data_extract]
    have e := Array.extract_size (xs := s.data)
    rw [hsd] at e
    exact e
  have ci := rindent_lk HH.out.1 HH.out.2 w2
  have cf := rfence_lk HH.out.1 HH.out.2 w2
  have cr := rrefers_lk HH.out.1 HH.out.2 w2
  have cx := rtext_lk HH.out.1 HH.out.2 HS2.out.1
  rw [show lkM (fun _ => 1) (shP c n 4 1) = Z from HZ.out] at cx
  have z0 : (0 : Int) < 1 := by decide
  go_upto_region 14 with fail
  go_loopg [7, 8, 9, 10] 2 (fun q ov lv fv iv wr => (q = 2 ∧ ov = .string ⟨#[]⟩ ∧ lv = .int .u8 98 ∧ fv = .int .i64 0 ∧ iv = .int .i64 0 ∧ wr = w2) ∨ (q = 1 ∧ ov = .string ⟨#[]⟩ ∧ lv = .int .u8 0 ∧ fv = .int .i64 n ∧ iv = .int .i64 1 ∧ Hid (LR wr g n Z ∧ Up w.heap.size w wr)))
  case atStart => exact Or.inl ⟨rfl, rfl, rfl, rfl, rfl, rfl⟩
  case round =>
    rcases hrel with ⟨rfl, rfl, rfl, rfl, rfl, hw⟩ | ⟨rfl, rfl, rfl, rfl, rfl, HF⟩
    · subst wr
      go_wp2_with fail
      refine ct.mono ?_
      rintro e w3 ⟨rfl, hw⟩
      subst w3
      go_wp2_with fail
      refine ci.mono ?_
      rintro e w3 ⟨rfl, hw⟩
      subst w3
      go_wp2_with fail
      refine cf.mono ?_
      rintro e w3 ⟨rfl, hw⟩
      subst w3
      go_wp2_with fail
      refine cr.mono ?_
      rintro e w3 ⟨rfl, hw⟩
      subst w3
      go_wp2_with fail
      refine cx.mono ?_
      rintro e w3 ⟨rfl, hL3, hG3, hs3⟩
      have HF : Hid (LR w3 g n Z ∧ Up w.heap.size w w3) := ⟨hL3, HS2.out.2.1.grown hG3 (fun k hk => by have := HS2.out.2.2.1; have := Option.some.inj hk; omega)⟩
      clear hL3 hG3 hs3 cx cr cf ci ct
      go_wp2
      go_roundg 1
      case measure => omega
      case rel => exact Or.inr ⟨rfl, rfl, rfl, rfl, rfl, HF⟩
    · go_wp2
      go_ret
      exact ⟨g, rfl, HS2.out.2.2.1, HF.out⟩
end Go.Proofs.YtodjfeheagnnpaaGreatDoor
