/- TrimLeftFunc at the two tests; Check of any text. -/
import Derived.Test.YteeeekpeokgaeaaDoorPkYNiP2
import Derived.Test.YteeeekpeokgaeaaDoorPkKV2
import Derived.Test.YteeeekpeokgaeaaDoorPkChk2
import Derived.Shelf.Abstract
import Derived.Lib.OthersKept
import Derived.Lib.TrimU
import Derived.Deep.LoopGhost
namespace Go.Proofs.YteeeekpeokgaeaaDoor
set_option linter.unusedVariables false
open Go.RowKit Go.ChangeShapes Tns
/-- What indexFunc answers. -/
def ixR (q : Int → Bool) (s : ByteArray) : Int := if trF q s s.size 0 < s.size then (trF q s s.size 0 : Int) else -1
theorem q_rn {q : Int → Bool} (hq : q (-1) = q 65533) (s : ByteArray) (i : Nat) : q ((Utf8.decode s i).1 : Int) = q (rn s i) := by
  unfold rn kn
  split
  · rename_i h
    rw [h.1, hq]
    rfl
  · rfl
set_option maxHeartbeats 2000000 in
set_option maxRecDepth 1000000 in
theorem ixf_any (g : Nat) (q : Int → Bool) (s : ByteArray) (w : World) (hq : q (-1) = q 65533) (eg : ∀ args w, (callFunc g args).run Tryd.prog w = .ok (.enter g args) w)
    (hg : ∀ (w' : World) (R : Nat), R ≤ 1114111 → Calls Tryd.prog g #[.int .i32 (R : Int)] w' fun e w'' => e = .returned (.bool (q R)) ∧ Below w'.heap.size w' w'') :
    Calls Tryd.prog 43 #[.string s, .func (.func g) #[] #[], .bool false] w fun e w' => e = .returned (.int .i64 (ixR q s)) ∧ Below w.heap.size w w' := by
  have HQ : Hid (q (-1) = q 65533) := hq
  obtain ⟨A, hA⟩ : ∃ A, ixR q s = A := ⟨_, rfl⟩
  have HA : Hid (ixR q s = A) := hA
  rw [hA]
  clear hA hq
  go_enter Tryd.func43, Tryd.ntmps43
  go_wp2
  go_loopg [] s.size (fun gf wx => ∃ pos : Nat, wx.heap[w.heap.size]? = some (.stringIter s pos) ∧ Below w.heap.size w wx ∧ Hid (trF q s gf pos = trF q s s.size 0) ∧ s.size ≤ pos + gf ∧ pos ≤ s.size)
  case atStart => exact ⟨0, World.iter_heap w s 0, (Below.refl _ w).alloc (Nat.le_refl _) _, rfl, by omega, by omega⟩
  case round =>
    obtain ⟨pos, hit, hbw, HL, hfu, hle⟩ := hrel
    by_cases hps : pos < s.size
    · obtain ⟨g', rfl⟩ : ∃ g', gk = g' + 1 := ⟨gk - 1, by omega⟩
      have hnx : ∀ ty, (Instr.next (.pointer (some ⟨w.heap.size, 0, none⟩)) true ty).run Tryd.prog wr = _ := fun ty => Lib.run_next_any_at wr w.heap.size s pos ty hit hps
      have hwd := wd_pos s pos hps
      have hRle := Lib.rune_le s pos
      have HQR : Hid (q ((Utf8.decode s pos).1 : Int) = q (rn s pos)) := q_rn HQ.out s pos
      have HWK : Hid (wd s pos = (Utf8.decode s pos).2) := rfl
      obtain ⟨R, hR⟩ : ∃ R, (Utf8.decode s pos).1 = R := ⟨_, rfl⟩
      obtain ⟨K, hK⟩ : ∃ K, (Utf8.decode s pos).2 = K := ⟨_, rfl⟩
      rw [hR, hK] at hnx
      rw [hR] at HQR hRle
      rw [hK] at HWK
      rw [HWK.out] at hwd
      have hit2 := Lib.iterAt_heap wr w.heap.size s pos (pos + K) hit
      have hbw2 := Lib.below_iterAt hbw (k := w.heap.size) (Nat.le_refl _) s (pos + K)
      obtain ⟨W, hWd⟩ : ∃ W, wr.iterAt w.heap.size s (pos + K) = W := ⟨_, rfl⟩
      rw [hWd] at hnx hit2 hbw2
      have cS := hg W R hRle
      have HIT : Hid (W.heap[w.heap.size]? = some (.stringIter s (pos + K))) := hit2
      have HBW : Hid (Below w.heap.size w W) := hbw2
      obtain ⟨B, hB⟩ : ∃ B, q (R : Int) = B := ⟨_, rfl⟩
      have HB : Hid (q (rn s pos) = B) := HQR.out.symm.trans hB
      rw [hB] at cS
      have hSz : w.heap.size < W.heap.size := (Array.getElem?_eq_some_iff.1 hit2).1
      clear hR hK hB hit hit2 hbw hbw2 hWd
      cases B
      · have HE : Hid (A = (pos : Int)) := by
          show _ = _
          rw [← HA.out, ixR, ← HL.out, trF_no HB.out, if_pos hps]
        go_wp2_with (go_at_fn g; refine cS.mono ?_; rintro e W' ⟨rfl, hb'⟩)
        go_ret
        exact ⟨by rw [HE.out]; rfl, HBW.out.trans (hb'.mono (by have := HBW.out.size; exact this))⟩
      · have HL2 : Hid (trF q s g' (pos + K) = trF q s s.size 0) := by
          show _ = _
          rw [← HL.out, trF_on hps HB.out, HWK.out]
        go_wp2_with (go_at_fn g; refine cS.mono ?_; rintro e W' ⟨rfl, hb'⟩)
        have HI2 : Hid (W'.heap[w.heap.size]? = some (.stringIter s (pos + K))) := (hb'.block w.heap.size hSz).trans HIT.out
        have HB2 : Hid (Below w.heap.size w W') := HBW.out.trans (hb'.mono HBW.out.size)
        clear hb'
        go_wp2
        go_roundg g'
        case measure => omega
        case rel => exact ⟨pos + K, HI2.out, HB2.out, HL2, by omega, by omega⟩
    · have HE : Hid (A = -1) := by
        show _ = _
        rw [← HA.out, ixR, ← HL.out, trF_end (by omega), if_neg hps]
      have hnx : ∀ ty, (Instr.next (.pointer (some ⟨w.heap.size, 0, none⟩)) true ty).run Tryd.prog wr = _ := fun ty => Lib.run_next_end_at wr w.heap.size s pos ty hit hps
      go_wp2
      go_ret
      exact ⟨by rw [HE.out]; rfl, hbw⟩
theorem frm_all (s : ByteArray) : frm s s.size = ByteArray.empty := by
  apply ByteArray.ext
  unfold frm
  rw [ByteArray.data_extract]
  show s.data.extract s.data.size s.data.size = #[]
  exact Array.extract_empty_of_stop_le_start (Nat.le_refl _)
set_option maxHeartbeats 2000000 in
set_option maxRecDepth 1000000 in
theorem tlf_any (g : Nat) (q : Int → Bool) (s : ByteArray) (w : World) (hq : q (-1) = q 65533) (eg : ∀ args w, (callFunc g args).run Tryd.prog w = .ok (.enter g args) w)
    (hg : ∀ (w' : World) (R : Nat), R ≤ 1114111 → Calls Tryd.prog g #[.int .i32 (R : Int)] w' fun e w'' => e = .returned (.bool (q R)) ∧ Below w'.heap.size w' w'') :
    Calls Tryd.prog 31 #[.string s, .func (.func g) #[] #[]] w fun e w' => e = .returned (.string (frm s (trF q s s.size 0))) ∧ Below w.heap.size w w' := by
  have ci := ixf_any g q s w hq eg hg
  have hle := trF_le (q := q) (s := s) s.size 0 (Nat.zero_le _)
  obtain ⟨e, he⟩ : ∃ e, trF q s s.size 0 = e := ⟨_, rfl⟩
  unfold ixR at ci
  rw [he] at ci hle ⊢
  clear hg eg hq he
  by_cases h : e < s.size
  · rw [if_pos h] at ci
    have z0 : (0 : Int) ≤ (e : Int) := by omega
    have z1 : (e : Int) ≤ (s.size : Int) := by omega
    have z2 : ((e : Int) == -1) = false := beq_eq_false_iff_ne.2 (by omega)
    have HF : Hid (s.extract e s.size = frm s e) := rfl
    go_enter Tryd.func31, Tryd.ntmps31
    go_wp2_with fail
    refine ci.mono ?_
    rintro e1 W' ⟨rfl, hb'⟩
    clear ci
    go_wp2
    go_ret
    exact ⟨by first | rfl | (rw [← HF.out]) , hb'⟩
  · rw [if_neg h] at ci
    obtain rfl : e = s.size := by omega
    rw [frm_all]
    go_enter Tryd.func31, Tryd.ntmps31
    go_wp2_with fail
    refine ci.mono ?_
    rintro e1 W' ⟨rfl, hb'⟩
    clear ci
    go_wp2
    go_ret
    exact ⟨rfl, hb'⟩
set_option maxRecDepth 100000 in
theorem small_test (w : World) (R : Nat) (hR : R ≤ 1114111) : Calls Tryd.prog 32 #[.int .i32 (R : Int)] w fun e w' => e = .returned (.bool (smB R)) ∧ Below w.heap.size w w' := by
  unfold smB
  by_cases h1 : (97 : Int) ≤ (R : Int)
  · rw [show decide ((97 : Int) ≤ (R : Int)) = true from decide_eq_true h1, Bool.true_and]
    go_enter Tryd.func32, Tryd.ntmps32
    go_wp2
    go_ret
    exact ⟨rfl, Below.refl _ _⟩
  · rw [show decide ((97 : Int) ≤ (R : Int)) = false from decide_eq_false h1, Bool.false_and]
    go_enter Tryd.func32, Tryd.ntmps32
    go_wp2
    go_ret
    exact ⟨rfl, Below.refl _ _⟩
set_option maxRecDepth 100000 in
theorem ofw_test (w : World) (R : Nat) (hR : R ≤ 1114111) : Calls Tryd.prog 45 #[.int .i32 (R : Int)] w fun e w' => e = .returned (.bool (wsB R)) ∧ Below w.heap.size w w' := by
  have cl := letter_any (R : Int) (by unfold Fit; omega) w
  obtain ⟨B, hB⟩ : ∃ B, lB (R : Int) = B := ⟨_, rfl⟩
  unfold wsB
  rw [hB] at cl ⊢
  clear hB
  obtain ⟨E, hE⟩ : ∃ x, ((R : Int) == 39) = x := ⟨_, rfl⟩
  rw [hE]
  cases B <;> cases E <;>
  · go_enter Tryd.func45, Tryd.ntmps45
    go_wp2_with fail
    refine cl.mono ?_
    rintro e W' ⟨rfl, rfl⟩
    go_wp2
    go_ret
    exact ⟨rfl, Below.refl _ _⟩
theorem tl_small (s : ByteArray) (w : World) : Calls Tryd.prog 31 #[.string s, .func (.func 32) #[] #[]] w fun e w' => e = .returned (.string (frm s (low s 0))) ∧ Below w.heap.size w w' := by
  have h := tlf_any 32 smB s w (by decide) (by intro args w; exact Go.Proofs.enters_of Tryd.func32 (by kernel_rfl) rfl args w) (fun w' R hR => small_test w' R hR)
  rw [low_tr s.size 0 (Nat.zero_le _) (by omega)] at h
  exact h
theorem tl_word (s : ByteArray) (w : World) : Calls Tryd.prog 31 #[.string s, .func (.func 45) #[] #[]] w fun e w' => e = .returned (.string (frm s (we s))) ∧ Below w.heap.size w w' := by
  have h := tlf_any 45 wsB s w (by decide) (by intro args w; exact Go.Proofs.enters_of Tryd.func45 (by kernel_rfl) rfl args w) (fun w' R hR => ofw_test w' R hR)
  unfold we
  rw [weF_tr]
  exact h
set_option maxHeartbeats 1000000 in
set_option maxRecDepth 100000 in
/-- Check of any text. -/
theorem chk_any (s : ByteArray) (w : World) (hT : Tabs w) :
    Calls Tryd.prog 46 #[.string s] w fun e w' => e = .returned (.int .i64 (chk s)) ∧ Below w.heap.size w w' := by
  by_cases hn : s.size ≤ 5000
  · exact check_at s w hn hT
  · have hd : chk s = 3 := by
      unfold chk chkL
      rw [if_pos (by omega)]
    have h64 : (64 : Int) < (s.size : Int) := by omega
    rw [hd]
    clear hd hn
    go_enter Tryd.func46, Tryd.ntmps46
    go_wp2
    go_ret
    exact ⟨rfl, Below.refl _ _⟩
end Go.Proofs.YteeeekpeokgaeaaDoor
