/- The reference: Bytes, Text. -/
import Derived.Test.YteeeekpeokgaeaaDoorPkVKitB2
namespace Go.Proofs.YteeeekpeokgaeaaDoor.Tns
set_option linter.unusedVariables false
open Go.RowKit Go.ChangeShapes
/-- A rune's bytes as cells. -/
def bcells (r : Int) : List Value := (enc r).map fun x => .int .u8 x
set_option maxRecDepth 100000 in
set_option maxHeartbeats 1000000 in
theorem bytes_one (r : Int) (w : World) (h0 : 0 ≤ r) (h1 : r < 128) :
    Calls Tryd.prog 52 #[.int .i32 r] w fun e w' => ∃ v, e = .returned v ∧ w'.ownsRow w.heap.size 5 1 v (enc r).length (bcells r) ∧ Below w.heap.size w w' := by
  have a0 : ¬ r < 0 := by omega
  have a1 : ¬ 1114111 < r := by omega
  have a2 : ¬ 55296 ≤ r := by omega
  have he : enc r = _ := enc_one h0 h1
  unfold bcells
  rw [he]
  clear he
  go_enter Tryd.func52, Tryd.ntmps52
  go_wp2
  go_ret
  exact ⟨_, rfl, World.ownsRow_lit _ _ _ (Nat.le_refl _) (by unfold maxLen; simp) rfl, (Below.refl _ _).alloc (Nat.le_refl _) _⟩
set_option maxRecDepth 100000 in
set_option maxHeartbeats 1000000 in
theorem bytes_two (r : Int) (w : World) (h0 : 128 ≤ r) (h1 : r < 2048) :
    Calls Tryd.prog 52 #[.int .i32 r] w fun e w' => ∃ v, e = .returned v ∧ w'.ownsRow w.heap.size 5 1 v (enc r).length (bcells r) ∧ Below w.heap.size w w' := by
  have a0 : ¬ r < 0 := by omega
  have a1 : ¬ 1114111 < r := by omega
  have a2 : ¬ 55296 ≤ r := by omega
  have a3 : ¬ r < 128 := by omega
  have he : enc r = _ := enc_two h0 h1
  unfold bcells
  rw [he]
  clear he
  go_enter Tryd.func52, Tryd.ntmps52
  go_wp2
  go_ret
  exact ⟨_, rfl, World.ownsRow_lit _ _ _ (Nat.le_refl _) (by unfold maxLen; simp) rfl, (Below.refl _ _).alloc (Nat.le_refl _) _⟩
set_option maxRecDepth 100000 in
set_option maxHeartbeats 1000000 in
theorem bytes_three_a (r : Int) (w : World) (h0 : 2048 ≤ r) (h1 : r < 55296) (ho : okR r = true) :
    Calls Tryd.prog 52 #[.int .i32 r] w fun e w' => ∃ v, e = .returned v ∧ w'.ownsRow w.heap.size 5 1 v (enc r).length (bcells r) ∧ Below w.heap.size w w' := by
  have a0 : ¬ r < 0 := by omega
  have a1 : ¬ 1114111 < r := by omega
  have a2 : ¬ 55296 ≤ r := by omega
  have a3 : ¬ r < 128 := by omega
  have a4 : ¬ r < 2048 := by omega
  have a5 : r < 65536 := by omega
  have he : enc r = _ := enc_three h0 (by omega) ho
  unfold bcells
  rw [he]
  clear he
  go_enter Tryd.func52, Tryd.ntmps52
  go_wp2
  go_ret
  exact ⟨_, rfl, World.ownsRow_lit _ _ _ (Nat.le_refl _) (by unfold maxLen; simp) rfl, (Below.refl _ _).alloc (Nat.le_refl _) _⟩
set_option maxRecDepth 100000 in
set_option maxHeartbeats 1000000 in
theorem bytes_three_b (r : Int) (w : World) (h0 : 57343 < r) (h1 : r < 65536) (ho : okR r = true) :
    Calls Tryd.prog 52 #[.int .i32 r] w fun e w' => ∃ v, e = .returned v ∧ w'.ownsRow w.heap.size 5 1 v (enc r).length (bcells r) ∧ Below w.heap.size w w' := by
  have a0 : ¬ r < 0 := by omega
  have a1 : ¬ 1114111 < r := by omega
  have a2 : 55296 ≤ r := by omega
  have a3 : ¬ r ≤ 57343 := by omega
  have a4 : ¬ r < 128 := by omega
  have a5 : ¬ r < 2048 := by omega
  have he : enc r = _ := enc_three (by omega) h1 ho
  unfold bcells
  rw [he]
  clear he
  go_enter Tryd.func52, Tryd.ntmps52
  go_wp2
  go_ret
  exact ⟨_, rfl, World.ownsRow_lit _ _ _ (Nat.le_refl _) (by unfold maxLen; simp) rfl, (Below.refl _ _).alloc (Nat.le_refl _) _⟩
set_option maxRecDepth 100000 in
set_option maxHeartbeats 1000000 in
theorem bytes_four (r : Int) (w : World) (h0 : 65536 ≤ r) (h1 : r ≤ 1114111) (ho : okR r = true) :
    Calls Tryd.prog 52 #[.int .i32 r] w fun e w' => ∃ v, e = .returned v ∧ w'.ownsRow w.heap.size 5 1 v (enc r).length (bcells r) ∧ Below w.heap.size w w' := by
  have a0 : ¬ r < 0 := by omega
  have a1 : ¬ 1114111 < r := by omega
  have a2 : 55296 ≤ r := by omega
  have a3 : ¬ r ≤ 57343 := by omega
  have a4 : ¬ r < 128 := by omega
  have a5 : ¬ r < 2048 := by omega
  have a6 : ¬ r < 65536 := by omega
  have he : enc r = _ := enc_four h0 ho
  unfold bcells
  rw [he]
  clear he
  go_enter Tryd.func52, Tryd.ntmps52
  go_wp2
  go_ret
  exact ⟨_, rfl, World.ownsRow_lit _ _ _ (Nat.le_refl _) (by unfold maxLen; simp) rfl, (Below.refl _ _).alloc (Nat.le_refl _) _⟩
set_option maxRecDepth 100000 in
set_option maxHeartbeats 1000000 in
theorem bytes_no_a (r : Int) (w : World) (h0 : r < 0) (hb : okR r = false) :
    Calls Tryd.prog 52 #[.int .i32 r] w fun e w' => ∃ v, e = .returned v ∧ w'.ownsRow w.heap.size 5 1 v (enc r).length (bcells r) ∧ Below w.heap.size w w' := by
  unfold bcells
  rw [enc_bad r hb]
  clear hb
  go_enter Tryd.func52, Tryd.ntmps52
  go_wp2
  go_ret
  exact ⟨_, rfl, World.ownsRow_nil _ _ _ _, Below.refl _ _⟩
set_option maxRecDepth 100000 in
set_option maxHeartbeats 1000000 in
theorem bytes_no_b (r : Int) (w : World) (h0 : 1114111 < r) (hb : okR r = false) :
    Calls Tryd.prog 52 #[.int .i32 r] w fun e w' => ∃ v, e = .returned v ∧ w'.ownsRow w.heap.size 5 1 v (enc r).length (bcells r) ∧ Below w.heap.size w w' := by
  have a0 : ¬ r < 0 := by omega
  unfold bcells
  rw [enc_bad r hb]
  clear hb
  go_enter Tryd.func52, Tryd.ntmps52
  go_wp2
  go_ret
  exact ⟨_, rfl, World.ownsRow_nil _ _ _ _, Below.refl _ _⟩
set_option maxRecDepth 100000 in
set_option maxHeartbeats 1000000 in
theorem bytes_no_c (r : Int) (w : World) (h0 : 55296 ≤ r) (h1 : r ≤ 57343) (hb : okR r = false) :
    Calls Tryd.prog 52 #[.int .i32 r] w fun e w' => ∃ v, e = .returned v ∧ w'.ownsRow w.heap.size 5 1 v (enc r).length (bcells r) ∧ Below w.heap.size w w' := by
  have a0 : ¬ r < 0 := by omega
  have a1 : ¬ 1114111 < r := by omega
  unfold bcells
  rw [enc_bad r hb]
  clear hb
  go_enter Tryd.func52, Tryd.ntmps52
  go_wp2
  go_ret
  exact ⟨_, rfl, World.ownsRow_nil _ _ _ _, Below.refl _ _⟩
theorem bytes_any (r : Int) (w : World) :
    Calls Tryd.prog 52 #[.int .i32 r] w fun e w' => ∃ v, e = .returned v ∧ w'.ownsRow w.heap.size 5 1 v (enc r).length (bcells r) ∧ Below w.heap.size w w' := by
  cases ho : okR r
  · by_cases h0 : r < 0
    · exact bytes_no_a r w h0 ho
    by_cases h1 : 1114111 < r
    · exact bytes_no_b r w h1 ho
    have hn : ¬ (0 ≤ r ∧ (r < 55296 ∨ 57343 < r) ∧ r ≤ 1114111) := by rw [← okR_iff, ho]; simp
    exact bytes_no_c r w (by omega) (by omega) ho
  · have hv := (okR_iff r).1 ho
    by_cases h1 : r < 128
    · exact bytes_one r w (by omega) h1
    by_cases h2 : r < 2048
    · exact bytes_two r w (by omega) h2
    by_cases h3 : r < 55296
    · exact bytes_three_a r w (by omega) h3 ho
    by_cases h4 : r < 65536
    · exact bytes_three_b r w (by omega) h4 ho
    exact bytes_four r w (by omega) (by omega) ho
theorem rtext_zero (ad : Option Addr) (c : Nat) (w : World) :
    Calls Tryd.prog 40 #[.slice ad 0 c] w fun e w' => e = .returned (.string (strOfNums [])) ∧ w' = w := by
  have hcv := run_convert_bytes_nil w 22 5 Tryd.underlying22 Tryd.underlying5 0 0 9 Tryd.underlying9
  go_enter Tryd.func40, Tryd.ntmps40
  go_wp2
  go_loopg [3, 4] (0) (fun g l i wr => l = .slice none 0 0 ∧ i = .int .i64 0 ∧ wr = w)
  case atStart => exact ⟨rfl, rfl, rfl⟩
  case round =>
    obtain ⟨rfl, rfl, rfl⟩ := hrel
    go_wp2_with fail
    go_ret
    exact ⟨rfl, rfl⟩
set_option maxHeartbeats 1000000 in
theorem rtext_at (R : Nat → Int) (k b off cap : Nat) (w : World) (hk : k ≤ 5000) (hR : Rs w b off k R) :
    Calls Tryd.prog 40 #[.slice (some ⟨b, off, none⟩) k cap] w fun e w' => e = .returned (.string (strOfNums (txt R k))) ∧ Below w.heap.size w w' := by
  have HR : Hid (Rs w b off k R) := hR
  clear hR
  obtain ⟨i0, hi, hz0, hz1, hz2⟩ := info_parts info5
  go_enter Tryd.func40, Tryd.ntmps40
  go_wp2
  go_loopg [3, 4] k (fun g l i wr => ∃ j : Nat, j ≤ k ∧ g = k - j ∧ i = .int .i64 j ∧ Hid (wr.ownsRow w.heap.size 5 1 l (txt R j).length (cellsOf (txt R j))) ∧ Hid (Up w.heap.size w wr))
  case atStart => exact ⟨0, Nat.zero_le _, rfl, rfl, ⟨rfl, Or.inl ⟨rfl, rfl⟩⟩, Up.refl w⟩
  case round =>
    obtain ⟨j, hj, hg, rfl, HO, HU⟩ := hrel
    by_cases hlt : j < k
    · have z0 : (0 : Int) ≤ (j : Int) := by omega
      have z1 : (j : Int) < (k : Int) := by omega
      have hc := (HR.out.stay HU.out.1) j hlt
      have q1 := txt_le R j
      have q2 := enc_le (R j)
      go_wp2_with fail
      refine (bytes_any (R j) _).mono ?_
      rintro e w1 ⟨v, rfl, hown1, hb1⟩
      have HO1 : Hid (w1.ownsRow w.heap.size 5 1 u3 (txt R j).length (cellsOf (txt R j))) := own_stay HO.out hb1
      have HU1 : Hid (Up w.heap.size w w1) := HU.out.stay hb1
      have HV : Hid (w1.ownsRow wr.heap.size 5 1 v (enc (R j)).length (cellsOf (enc (R j)))) := hown1
      clear hb1 HO HU hown1 hc
      go_wp2_with (at_builtin; refine app_own rfl _ _ 22 rfl w.heap.size 5 i0 _ 1 1 Tryd.underlying22 hi hz0 hz1 hz2 rfl (by decide) _ _ _ rfl HO1.out _ v _ _ rfl HV.out (cellsOf_one _) ?c3 ?c4 ?c5 ?_)
      case c3 => unfold maxLen; omega
      case c4 => omega
      case c5 => exact HU1.out.2
      intro v' w2 hown2 hgr
      have HO2 : Hid (w2.ownsRow w.heap.size 5 1 v' (txt R (j + 1)).length (cellsOf (txt R (j + 1)))) := by
        show w2.ownsRow _ _ _ _ _ _
        rw [txt_succ, List.length_append, cellsOf, List.map_append]; exact hown2
      have HU2 : Hid (Up w.heap.size w w2) := HU1.out.grown hgr (own_base HO1.out)
      clear hown2 hgr HO1 HU1 HV
      go_wp2
      go_roundg (k - (j + 1))
      case measure => omega
      case rel => exact ⟨j + 1, by omega, rfl, by go_num, HO2, HU2⟩
    · obtain rfl : j = k := by omega
      have hcv := own_text HO.out
      go_wp2_with fail
      go_ret
      exact ⟨rfl, HU.out.1⟩
theorem rtext_any (R : Nat → Int) (k : Nat) (v : Value) (w : World) (hk : k ≤ 5000) (hR : RSl w v k R) :
    Calls Tryd.prog 40 #[v] w fun e w' => e = .returned (.string (strOfNums (txt R k))) ∧ Below w.heap.size w w' := by
  rcases hR with ⟨ad, c, rfl, rfl⟩ | ⟨b, off, c, rfl, h⟩
  · refine (rtext_zero ad c w).mono ?_
    rintro e w' ⟨rfl, rfl⟩
    exact ⟨rfl, Below.refl _ _⟩
  · exact rtext_at R k b off c w hk h
end Go.Proofs.YteeeekpeokgaeaaDoor.Tns
