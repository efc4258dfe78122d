/- html: Lex. -/
import Derived.Test.YtodjfeheagnnpaaDoorhThg
namespace Go.Proofs.YtodjfeheagnnpaaDoor
set_option linter.unusedVariables false
open Go.RowKit Go.ChangeShapes
theorem Glo.big {w : World} (h : Glo w) : 1 < w.heap.size := by
  obtain ⟨⟨m, hm⟩, _⟩ := h
  exact World.block_lt_of_cell? w _ hm
/-- What Lex answers. -/
def LxP (c : Nat → Int) (n : Nat) (w : World) (ev : Ending) (w' : World) : Prop := ∃ T g, ev = .returned (.tuple #[.pointer (some ⟨T, 0, none⟩), .int .i64 0]) ∧ w.heap.size ≤ T ∧ w.heap.size ≤ g ∧ Sh w' T g n (lxA c n) ∧ Up w.heap.size w w'
set_option maxRecDepth 100000 in
set_option maxHeartbeats 1000000 in
theorem lex_any {w : World} {ad : Option Addr} {n cap : Nat} {c : Nat → Int} (hC : Ch c n) (h : BC w ad n c) (hn : n ≤ 65536) (hcap : n ≤ cap) (hG : Glo w) :
    Calls Tryd.prog 19 #[.slice ad n cap] w (LxP c n w) := by
  have cn := new_ok n hn w
  have HH : Hid (Ch c n ∧ BC w ad n c ∧ Glo w) := ⟨hC, h, hG⟩
  obtain ⟨Q, hQ⟩ : ∃ Q, LxP c n w = Q := ⟨_, rfl⟩
  rw [hQ]
  have HQ : Hid (LxP c n w = Q) := hQ
  clear hC h hG hQ
  go_enter Tryd.func19, Tryd.ntmps19
  go_wp2_with fail
  refine cn.mono ?_
  rintro ev w1 ⟨T, g, rfl, hT, hg, hS, hU⟩
  have HS1 : Hid (Sh w1 T g n (fun _ => 1) ∧ Up w.heap.size w w1) := ⟨hS, hU⟩
  clear cn hS hU
  go_wp2
  go_loopg [6] n (fun q iv wr => ∃ k : Nat, k ≤ n ∧ q = n - k ∧ iv = .int .i64 k ∧ Hid (∃ L, Sh wr T g n L ∧ lx c n k L = lxA c n) ∧ Hid (Up w.heap.size w wr))
  case atStart => exact ⟨0, Nat.zero_le _, rfl, rfl, ⟨_, HS1.out.1, rfl⟩, HS1.out.2⟩
  case round =>
    obtain ⟨k, hk, hq, rfl, HL, HU⟩ := hrel
    by_cases hlt : k < n
    · have z1 : (k : Int) < (n : Int) := by omega
      obtain ⟨L, hS, hL⟩ := HL.out
      obtain ⟨b, off, rfl, hc0⟩ := HH.out.2.1.at (show 0 < n by omega)
      have hb := World.block_lt_of_cell? w _ (hc0 0 (by omega))
      dsimp only at hb
      have hbig := HH.out.2.2.big
      have ct := thing_any HH.out.1 (HH.out.2.1.stay HU.out.1) hn hcap hS (by omega) (HH.out.2.2.stay HU.out.1) (by omega) k hlt
      have hle := nxE_le HH.out.1 hlt
      have hone := lx_one HH.out.1 hlt L
      obtain ⟨E, hE⟩ : ∃ E, nxE c n k = E := ⟨_, rfl⟩
      rw [hE] at ct hle hone
      obtain ⟨M, hM⟩ : ∃ M, nxL L c n k = M := ⟨_, rfl⟩
      rw [hM] at ct hone
      have HL2 : Hid (lx c n E M = lxA c n) := by show _ = _; rw [← hone]; exact hL
      clear hS hL hc0 hE hM hone HL
      go_wp2_with fail
      refine ct.mono ?_
      rintro ev w2 ⟨rfl, h21, h22⟩
      have HE2 : Hid ((∃ L, Sh w2 T g n L ∧ lx c n E L = lxA c n) ∧ Up w.heap.size w w2) := ⟨⟨M, h21, HL2.out⟩, HU.out.grown h22 (fun j hj => by cases hj; exact hg)⟩
      clear ct h21 h22
      go_wp2
      go_roundg (n - E)
      case measure => omega
      case rel => exact ⟨E, hle.2, rfl, rfl, HE2.out.1, HE2.out.2⟩
    · obtain rfl : k = n := by omega
      have z1 : ¬ (k : Int) < (k : Int) := by omega
      go_wp2
      obtain ⟨L, hS, hL⟩ := HL.out
      rw [lx_end (Nat.le_refl _)] at hL
      rw [← HQ.out]
      refine ⟨T, g, rfl, hT, hg, ?_, HU.out⟩
      rw [← hL]
      exact hS
end Go.Proofs.YtodjfeheagnnpaaDoor
