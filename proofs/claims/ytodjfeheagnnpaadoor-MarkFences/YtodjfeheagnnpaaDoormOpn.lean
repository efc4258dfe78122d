/- mark: what a file keeps while it is gone through; opens. -/
import Derived.Test.YtodjfeheagnnpaaDoormLin
namespace Go.Proofs.YtodjfeheagnnpaaDoor
set_option linter.unusedVariables false
open Go.RowKit Go.ChangeShapes
/-- What a file keeps: its sheet, its bytes, the fence that is open, whether code may follow, rows of ticks. -/
structure Fl (w : World) (B T : Nat) (av : Value) (s : Int) (k : Nat) (fr : Bool) (mv : Value) : Prop where
  box : w.heap[B]? = some (.cells #[.pointer (some ⟨T, 0, none⟩), av, .int .u8 s, .int .i64 k, .bool fr, mv] 68)
theorem Fl.lt {w : World} {B T : Nat} {av : Value} {s : Int} {k : Nat} {fr : Bool} {mv : Value} (h : Fl w B T av s k fr mv) : B < w.heap.size := lt_of_heap h.box
theorem Fl.stay {w w' : World} {B T : Nat} {av : Value} {s : Int} {k : Nat} {fr : Bool} {mv : Value} (h : Fl w B T av s k fr mv) (hb : Below w.heap.size w w') : Fl w' B T av s k fr mv := ⟨blk_stay h.box hb⟩
theorem Fl.grown {w w' : World} {B T g : Nat} {av : Value} {s : Int} {k : Nat} {fr : Bool} {mv : Value} (h : Fl w B T av s k fr mv) (hb : w.grownBy w' (some g)) (hne : B ≠ g) : Fl w' B T av s k fr mv := ⟨(hb.block B h.lt (fun e => hne (Option.some.inj e))).trans h.box⟩
theorem Fl.cells {w : World} {B T : Nat} {av : Value} {s : Int} {k : Nat} {fr : Bool} {mv : Value} (h : Fl w B T av s k fr mv) :
    w.cell? ⟨B, 0, none⟩ = some (.pointer (some ⟨T, 0, none⟩)) ∧ w.cell? ⟨B, 1, none⟩ = some av ∧ w.cell? ⟨B, 2, none⟩ = some (.int .u8 s) ∧ w.cell? ⟨B, 3, none⟩ = some (.int .i64 k) ∧ w.cell? ⟨B, 4, none⟩ = some (.bool fr) ∧ w.cell? ⟨B, 5, none⟩ = some mv := by
  simp [World.cell?, h.box]
theorem Fl.free {w : World} {B T : Nat} {av : Value} {s : Int} {k : Nat} {fr : Bool} {mv : Value} (h : Fl w B T av s k fr mv) (i : Nat) : w.frozen? ⟨B, i, none⟩ = false := by
  simp [World.frozen?, h.box]
theorem Fl.setFr {w : World} {B T : Nat} {av : Value} {s : Int} {k : Nat} {fr : Bool} {mv : Value} (h : Fl w B T av s k fr mv) (f : Bool) : Fl (w.setCell ⟨B, 4, none⟩ (.bool f)) B T av s k f mv := ⟨heap_setCell_same _ _ _ _ _ _ h.box⟩
theorem Fl.setMv {w : World} {B T : Nat} {av : Value} {s : Int} {k : Nat} {fr : Bool} {mv : Value} (h : Fl w B T av s k fr mv) (m : Value) : Fl (w.setCell ⟨B, 5, none⟩ m) B T av s k fr m := ⟨heap_setCell_same _ _ _ _ _ _ h.box⟩
theorem Fl.setFence {w : World} {B T : Nat} {av : Value} {s : Int} {k : Nat} {fr : Bool} {mv : Value} (h : Fl w B T av s k fr mv) (s' : Int) (k' : Nat) : Fl ((w.setCell ⟨B, 2, none⟩ (.int .u8 s')).setCell ⟨B, 3, none⟩ (.int .i64 k')) B T av s' k' fr mv := ⟨heap_setCell_same _ _ _ _ _ _ (heap_setCell_same _ _ _ _ _ _ h.box)⟩
set_option maxRecDepth 100000 in
theorem opens_no {w : World} {b off n cap B T : Nat} {c : Nat → Int} {av : Value} {s0 : Int} {k0 : Nat} {fr : Bool} {mv : Value} (hC : Ch c n) (h : BC w (some ⟨b, off, none⟩) n c) (hn : n ≤ 1000000) (hcap : n ≤ cap) (hbig : cap ≤ 9223372036854775807) (hop : opOk c n = false) :
    Calls Tryd.prog 47 #[.pointer (some ⟨B, 0, none⟩), .slice (some ⟨b, off, none⟩) n cap] w fun e w' => e = .returned (.bool false) ∧ Below w.heap.size w w' := by
  have ct := body_at hC h hn hcap hbig
  have hch := bd_ch hC
  have hle := bdN_le c n
  obtain ⟨d, hd⟩ : ∃ d, bdC c n = d := ⟨_, rfl⟩
  obtain ⟨m, hm⟩ : ∃ m, bdN c n = m := ⟨_, rfl⟩
  have hop' : (decide (0 < m) && decide (3 ≤ rwP (d 0) d m) && (d 0 == 126 || (d 0 == 96 && no96 d m (rwP (d 0) d m)))) = false := by unfold opOk at hop; rw [hd, hm] at hop; exact hop
  rw [hd, hm] at ct hch
  rw [hm] at hle
  have HC : Hid (Ch d m) := hch
  have HO : Hid ((decide (0 < m) && decide (3 ≤ rwP (d 0) d m) && (d 0 == 126 || (d 0 == 96 && no96 d m (rwP (d 0) d m)))) = false) := hop'
  clear hd hm hop hop' hch hC h
  go_enter Tryd.func47, Tryd.ntmps47
  go_wp2_with fail
  refine ct.mono ?_
  rintro e w1 ⟨v, rfl, ⟨⟨ad, cap1, rfl, hbc, hc1, hc2, hadd⟩⟩, hb1⟩
  have HB1 : Hid (Below w.heap.size w w1) := hb1
  clear ct hb1 hadd
  by_cases hm0 : m = 0
  · subst hm0
    go_wp2
    go_ret
    exact ⟨rfl, HB1.out⟩
  · have z0 : ((m : Int) == 0) = false := by simp only [beq_eq_false_iff_ne]; omega
    have z1 : (0 : Int) < (m : Int) := by omega
    obtain ⟨b1, off1, rfl, hcell⟩ := hbc.at (by omega)
    have hc0 := hcell 0 (by omega)
    rw [Nat.add_zero] at hc0
    have ct2 := row_any (cap := cap1) hbc (by omega) (d 0)
    have hrl := rwP_le (d 0) d m
    obtain ⟨r, hr⟩ : ∃ r, rwP (d 0) d m = r := ⟨_, rfl⟩
    rw [hr] at ct2 hrl HO
    obtain ⟨x, hx⟩ : ∃ x, d 0 = x := ⟨_, rfl⟩
    rw [hx] at ct2 hc0 HO
    have HBC : Hid (BC w1 (some ⟨b1, off1, none⟩) m d) := hbc
    clear hcell hbc hr hx
    by_cases hr3 : r < 3
    · have z2 : (r : Int) < 3 := by omega
      go_wp2_with fail
      refine ct2.mono ?_
      rintro e w2 ⟨rfl, hw⟩
      subst w2
      go_wp2
      go_ret
      exact ⟨rfl, HB1.out⟩
    · have z2 : ¬ (r : Int) < 3 := by omega
      by_cases h126 : x = 126
      · have := HO.out
        rw [h126] at this
        simp at this
        omega
      · have y1 : (x != 126) = true := by simpa using h126
        by_cases h96 : x = 96
        · have ho := HO.out
          rw [h96] at ho
          have h96' : no96 d m r = false := by
            cases e : no96 d m r
            · rfl
            · rw [e] at ho; simp at ho; omega
          have hfs : fs (fun j => d j == 96) m r < m := by
            have h1 := fs_le (fun j => d j == 96) (n := m) (i := r) hrl
            unfold no96 at h96'
            have h2 : ¬ fs (fun j => d j == 96) m r = m := by simpa using h96'
            omega
          have hge := fs_ge (fun j => d j == 96) m r
          obtain ⟨ad2, had2⟩ : ∃ ad2, (if cap1 = r then some (⟨b1, off1, none⟩ : Addr) else some ⟨b1, off1 + r, none⟩) = ad2 := ⟨_, rfl⟩
          have hbc2 := BC.from HBC.out r hrl hc1
          rw [had2] at hbc2
          have ct3 := idxB_any (cap := cap1 - r) (HC.out.from r hrl) hbc2 (by rw [← had2]; split <;> simp) 96 (by omega)
          have hix : ixI [96] (fun j => d (r + j)) (m - r) = if fs (fun j => d j == 96) m r < m then (fs (fun j => d j == 96) m r : Int) - r else -1 := ix_one hrl
          rw [hix, if_pos hfs] at ct3
          obtain ⟨z, hz⟩ : ∃ z, ((fs (fun j => d j == 96) m r : Nat) : Int) - r = z := ⟨_, rfl⟩
          rw [hz] at ct3
          have z3 : (0 : Int) ≤ z := by omega
          have q1 : (0 : Int) ≤ (r : Int) := by omega
          have q2 : (r : Int) ≤ (m : Int) := by omega
          have q3 : (m : Int) ≤ (cap1 : Int) := by omega
          subst h96
          clear ho h96' hfs hge hix hz hbc2 h126
          go_wp2_with fail
          refine ct2.mono ?_
          rintro e w2 ⟨rfl, hw⟩
          subst w2
          go_wp2_with fail
          refine ct3.mono ?_
          rintro e w2 ⟨rfl, hw⟩
          subst w2
          go_wp2
          go_ret
          exact ⟨rfl, HB1.out⟩
        · have y2 : (x != 96) = true := by simpa using h96
          go_wp2_with fail
          refine ct2.mono ?_
          rintro e w2 ⟨rfl, hw⟩
          subst w2
          go_wp2
          go_ret
          exact ⟨rfl, HB1.out⟩
/-- A fence is open then. -/
def OpP (w : World) (B : Nat) (s : Int) (k : Nat) (e : Ending) (w' : World) : Prop := e = .returned (.bool true) ∧ ∃ w1, Below w.heap.size w w1 ∧ w' = (w1.setCell ⟨B, 2, none⟩ (.int .u8 s)).setCell ⟨B, 3, none⟩ (.int .i64 k)
set_option maxRecDepth 100000 in
theorem opens_yes {w : World} {b off n cap B T : Nat} {c : Nat → Int} {av : Value} {s0 : Int} {k0 : Nat} {fr : Bool} {mv : Value} (hC : Ch c n) (h : BC w (some ⟨b, off, none⟩) n c) (hn : n ≤ 1000000) (hcap : n ≤ cap) (hbig : cap ≤ 9223372036854775807) (hF : Fl w B T av s0 k0 fr mv) (hop : opOk c n = true) :
    Calls Tryd.prog 47 #[.pointer (some ⟨B, 0, none⟩), .slice (some ⟨b, off, none⟩) n cap] w (OpP w B (opS c n) (opK c n)) := by
  have ct := body_at hC h hn hcap hbig
  have hch := bd_ch hC
  have hle := bdN_le c n
  obtain ⟨d, hd⟩ : ∃ d, bdC c n = d := ⟨_, rfl⟩
  obtain ⟨m, hm⟩ : ∃ m, bdN c n = m := ⟨_, rfl⟩
  have hop' : (decide (0 < m) && decide (3 ≤ rwP (d 0) d m) && (d 0 == 126 || (d 0 == 96 && no96 d m (rwP (d 0) d m)))) = true := by unfold opOk at hop; rw [hd, hm] at hop; exact hop
  have hS : opS c n = d 0 := by unfold opS; rw [hd]
  have hK : opK c n = rwP (d 0) d m := by unfold opK; rw [hd, hm]
  rw [hS, hK]
  rw [hd, hm] at ct hch
  rw [hm] at hle
  have HC : Hid (Ch d m) := hch
  simp only [Bool.and_eq_true, decide_eq_true_eq, Bool.or_eq_true, beq_iff_eq] at hop'
  obtain ⟨⟨hm0, hr3⟩, hor⟩ := hop'
  have HO : Hid (d 0 = 126 ∨ (d 0 = 96 ∧ no96 d m (rwP (d 0) d m) = true)) := hor
  have HF : Hid (Fl w B T av s0 k0 fr mv) := hF
  have hrl := rwP_le (d 0) d m
  obtain ⟨r, hr⟩ : ∃ r, rwP (d 0) d m = r := ⟨_, rfl⟩
  rw [hr] at hrl HO hr3 ⊢
  obtain ⟨x, hx⟩ : ∃ x, d 0 = x := ⟨_, rfl⟩
  rw [hx] at HO hr ⊢
  have HX : Hid (d 0 = x ∧ rwP x d m = r) := ⟨hx, hr⟩
  obtain ⟨Q, hQ⟩ : ∃ Q, OpP w B x r = Q := ⟨_, rfl⟩
  have HQ : Hid (OpP w B x r = Q) := hQ
  rw [hQ]
  clear hd hm hop hch hC h hor hF hS hK hQ hr hx
  go_enter Tryd.func47, Tryd.ntmps47
  go_wp2_with fail
  refine ct.mono ?_
  rintro e w1 ⟨v, rfl, ⟨⟨ad, cap1, rfl, hbc, hc1, hc2, hadd⟩⟩, hb1⟩
  have HB1 : Hid (Below w.heap.size w w1) := hb1
  have hF1 := HF.out.stay hb1
  have f2 := hF1.free 2
  have f3 := hF1.free 3
  obtain ⟨-, -, x2, x3, -, -⟩ := hF1.cells
  have z0 : ((m : Int) == 0) = false := by simp only [beq_eq_false_iff_ne]; omega
  have z1 : (0 : Int) < (m : Int) := by omega
  obtain ⟨b1, off1, rfl, hcell⟩ := hbc.at (by omega)
  have hc0 := hcell 0 (by omega)
  rw [Nat.add_zero, HX.out.1] at hc0
  have ct2 := row_any (cap := cap1) hbc (by omega) x
  rw [HX.out.2] at ct2
  have HBC : Hid (BC w1 (some ⟨b1, off1, none⟩) m d) := hbc
  have z2 : ¬ (r : Int) < 3 := by omega
  clear ct hb1 hadd hF1 hcell hbc
  by_cases h126 : x = 126
  · subst h126
    go_wp2_with fail
    refine ct2.mono ?_
    rintro e w2 ⟨rfl, hw⟩
    subst w2
    go_wp2
    rw [← HQ.out]
    exact ⟨rfl, w1, HB1.out, rfl⟩
  · have y1 : (x != 126) = true := by simpa using h126
    have ho : x = 96 ∧ no96 d m r = true := by
      rcases HO.out with h1 | h1
      · exact absurd h1 h126
      · exact h1
    have hfs : ¬ fs (fun j => d j == 96) m r < m := by
      have := ho.2
      unfold no96 at this
      simp at this
      omega
    obtain ⟨ad2, had2⟩ : ∃ ad2, (if cap1 = r then some (⟨b1, off1, none⟩ : Addr) else some ⟨b1, off1 + r, none⟩) = ad2 := ⟨_, rfl⟩
    have hbc2 := BC.from HBC.out r hrl hc1
    rw [had2] at hbc2
    have ct3 := idxB_any (cap := cap1 - r) (HC.out.from r hrl) hbc2 (by rw [← had2]; split <;> simp) 96 (by omega)
    have hix : ixI [96] (fun j => d (r + j)) (m - r) = if fs (fun j => d j == 96) m r < m then (fs (fun j => d j == 96) m r : Int) - r else -1 := ix_one hrl
    rw [hix, if_neg hfs] at ct3
    have q1 : (0 : Int) ≤ (r : Int) := by omega
    have q2 : (r : Int) ≤ (m : Int) := by omega
    have q3 : (m : Int) ≤ (cap1 : Int) := by omega
    obtain ⟨rfl, -⟩ := ho
    clear hfs hix hbc2 h126
    go_wp2_with fail
    refine ct2.mono ?_
    rintro e w2 ⟨rfl, hw⟩
    subst w2
    go_wp2_with fail
    refine ct3.mono ?_
    rintro e w2 ⟨rfl, hw⟩
    subst w2
    go_wp2
    rw [← HQ.out]
    exact ⟨rfl, w1, HB1.out, rfl⟩
end Go.Proofs.YtodjfeheagnnpaaDoor
