/- The reference's Bytes, Text and Fold. -/
import Derived.Test.YtgijihfijoiafaaGreatDoorQPWSrtRRun
namespace Go.Proofs.YtgijihfijoiafaaGreatDoor
set_option linter.unusedVariables false
open Go.RowKit Go.ChangeShapes
/-- A rune's bytes as cells. -/
def bcells (r : Int) : List Value := (enc r).map fun x => .int .u8 x
set_option maxRecDepth 100000 in
set_option maxHeartbeats 1000000 in
theorem bytes_one (r : Int) (w : World) (h0 : 0 ≤ r) (h1 : r < 128) :
    Calls Tryz.prog 104 #[.int .i32 r] w fun e w' => ∃ v, e = .returned v ∧ w'.ownsRow w.heap.size 5 1 v (enc r).length (bcells r) ∧ Below w.heap.size w w' := by
  have a0 : ¬ r < 0 := by omega
  have a1 : ¬ 1114111 < r := by omega
  have a2 : ¬ 55296 ≤ r := by omega
  have he : enc r = _ := enc_one h0 h1
  unfold bcells
  rw [he]
  clear he
  go_enter Tryz.func104, Tryz.ntmps104
  go_wp2
  go_ret
  exact ⟨_, rfl, World.ownsRow_lit _ _ _ (Nat.le_refl _) (by unfold maxLen; simp) rfl, (Below.refl _ _).alloc (Nat.le_refl _) _⟩
set_option maxRecDepth 100000 in
set_option maxHeartbeats 1000000 in
theorem bytes_two (r : Int) (w : World) (h0 : 128 ≤ r) (h1 : r < 2048) :
    Calls Tryz.prog 104 #[.int .i32 r] w fun e w' => ∃ v, e = .returned v ∧ w'.ownsRow w.heap.size 5 1 v (enc r).length (bcells r) ∧ Below w.heap.size w w' := by
  have a0 : ¬ r < 0 := by omega
  have a1 : ¬ 1114111 < r := by omega
  have a2 : ¬ 55296 ≤ r := by omega
  have a3 : ¬ r < 128 := by omega
  have he : enc r = _ := enc_two h0 h1
  unfold bcells
  rw [he]
  clear he
  go_enter Tryz.func104, Tryz.ntmps104
  go_wp2
  go_ret
  exact ⟨_, rfl, World.ownsRow_lit _ _ _ (Nat.le_refl _) (by unfold maxLen; simp) rfl, (Below.refl _ _).alloc (Nat.le_refl _) _⟩
set_option maxRecDepth 100000 in
set_option maxHeartbeats 1000000 in
theorem bytes_three_a (r : Int) (w : World) (h0 : 2048 ≤ r) (h1 : r < 55296) (ho : okR r = true) :
    Calls Tryz.prog 104 #[.int .i32 r] w fun e w' => ∃ v, e = .returned v ∧ w'.ownsRow w.heap.size 5 1 v (enc r).length (bcells r) ∧ Below w.heap.size w w' := by
  have a0 : ¬ r < 0 := by omega
  have a1 : ¬ 1114111 < r := by omega
  have a2 : ¬ 55296 ≤ r := by omega
  have a3 : ¬ r < 128 := by omega
  have a4 : ¬ r < 2048 := by omega
  have a5 : r < 65536 := by omega
  have he : enc r = _ := enc_three h0 (by omega) ho
  unfold bcells
  rw [he]
  clear he
  go_enter Tryz.func104, Tryz.ntmps104
  go_wp2
  go_ret
  exact ⟨_, rfl, World.ownsRow_lit _ _ _ (Nat.le_refl _) (by unfold maxLen; simp) rfl, (Below.refl _ _).alloc (Nat.le_refl _) _⟩
set_option maxRecDepth 100000 in
set_option maxHeartbeats 1000000 in
theorem bytes_three_b (r : Int) (w : World) (h0 : 57343 < r) (h1 : r < 65536) (ho : okR r = true) :
    Calls Tryz.prog 104 #[.int .i32 r] w fun e w' => ∃ v, e = .returned v ∧ w'.ownsRow w.heap.size 5 1 v (enc r).length (bcells r) ∧ Below w.heap.size w w' := by
  have a0 : ¬ r < 0 := by omega
  have a1 : ¬ 1114111 < r := by omega
  have a2 : 55296 ≤ r := by omega
  have a3 : ¬ r ≤ 57343 := by omega
  have a4 : ¬ r < 128 := by omega
  have a5 : ¬ r < 2048 := by omega
  have he : enc r = _ := enc_three (by omega) h1 ho
  unfold bcells
  rw [he]
  clear he
  go_enter Tryz.func104, Tryz.ntmps104
  go_wp2
  go_ret
  exact ⟨_, rfl, World.ownsRow_lit _ _ _ (Nat.le_refl _) (by unfold maxLen; simp) rfl, (Below.refl _ _).alloc (Nat.le_refl _) _⟩
set_option maxRecDepth 100000 in
set_option maxHeartbeats 1000000 in
theorem bytes_four (r : Int) (w : World) (h0 : 65536 ≤ r) (h1 : r ≤ 1114111) (ho : okR r = true) :
    Calls Tryz.prog 104 #[.int .i32 r] w fun e w' => ∃ v, e = .returned v ∧ w'.ownsRow w.heap.size 5 1 v (enc r).length (bcells r) ∧ Below w.heap.size w w' := by
  have a0 : ¬ r < 0 := by omega
  have a1 : ¬ 1114111 < r := by omega
  have a2 : 55296 ≤ r := by omega
  have a3 : ¬ r ≤ 57343 := by omega
  have a4 : ¬ r < 128 := by omega
  have a5 : ¬ r < 2048 := by omega
  have a6 : ¬ r < 65536 := by omega
  have he : enc r = _ := enc_four h0 ho
  unfold bcells
  rw [he]
  clear he
  go_enter Tryz.func104, Tryz.ntmps104
  go_wp2
  go_ret
  exact ⟨_, rfl, World.ownsRow_lit _ _ _ (Nat.le_refl _) (by unfold maxLen; simp) rfl, (Below.refl _ _).alloc (Nat.le_refl _) _⟩
set_option maxRecDepth 100000 in
set_option maxHeartbeats 1000000 in
theorem bytes_no_a (r : Int) (w : World) (h0 : r < 0) (hb : okR r = false) :
    Calls Tryz.prog 104 #[.int .i32 r] w fun e w' => ∃ v, e = .returned v ∧ w'.ownsRow w.heap.size 5 1 v (enc r).length (bcells r) ∧ Below w.heap.size w w' := by
  unfold bcells
  rw [enc_bad r hb]
  clear hb
  go_enter Tryz.func104, Tryz.ntmps104
  go_wp2
  go_ret
  exact ⟨_, rfl, World.ownsRow_nil _ _ _ _, Below.refl _ _⟩
set_option maxRecDepth 100000 in
set_option maxHeartbeats 1000000 in
theorem bytes_no_b (r : Int) (w : World) (h0 : 1114111 < r) (hb : okR r = false) :
    Calls Tryz.prog 104 #[.int .i32 r] w fun e w' => ∃ v, e = .returned v ∧ w'.ownsRow w.heap.size 5 1 v (enc r).length (bcells r) ∧ Below w.heap.size w w' := by
  have a0 : ¬ r < 0 := by omega
  unfold bcells
  rw [enc_bad r hb]
  clear hb
  go_enter Tryz.func104, Tryz.ntmps104
  go_wp2
  go_ret
  exact ⟨_, rfl, World.ownsRow_nil _ _ _ _, Below.refl _ _⟩
set_option maxRecDepth 100000 in
set_option maxHeartbeats 1000000 in
theorem bytes_no_c (r : Int) (w : World) (h0 : 55296 ≤ r) (h1 : r ≤ 57343) (hb : okR r = false) :
    Calls Tryz.prog 104 #[.int .i32 r] w fun e w' => ∃ v, e = .returned v ∧ w'.ownsRow w.heap.size 5 1 v (enc r).length (bcells r) ∧ Below w.heap.size w w' := by
  have a0 : ¬ r < 0 := by omega
  have a1 : ¬ 1114111 < r := by omega
  unfold bcells
  rw [enc_bad r hb]
  clear hb
  go_enter Tryz.func104, Tryz.ntmps104
  go_wp2
  go_ret
  exact ⟨_, rfl, World.ownsRow_nil _ _ _ _, Below.refl _ _⟩
theorem bytes_any (r : Int) (w : World) :
    Calls Tryz.prog 104 #[.int .i32 r] w fun e w' => ∃ v, e = .returned v ∧ w'.ownsRow w.heap.size 5 1 v (enc r).length (bcells r) ∧ Below w.heap.size w w' := by
  cases ho : okR r
  · by_cases h0 : r < 0
    · exact bytes_no_a r w h0 ho
    by_cases h1 : 1114111 < r
    · exact bytes_no_b r w h1 ho
    have hn : ¬ (0 ≤ r ∧ (r < 55296 ∨ 57343 < r) ∧ r ≤ 1114111) := by rw [← okR_iff, ho]; simp
    exact bytes_no_c r w (by omega) (by omega) ho
  · have hv := (okR_iff r).1 ho
    by_cases h1 : r < 128
    · exact bytes_one r w (by omega) h1
    by_cases h2 : r < 2048
    · exact bytes_two r w (by omega) h2
    by_cases h3 : r < 55296
    · exact bytes_three_a r w (by omega) h3 ho
    by_cases h4 : r < 65536
    · exact bytes_three_b r w (by omega) h4 ho
    exact bytes_four r w (by omega) (by omega) ho
theorem rtext_zero (ad : Option Addr) (c : Nat) (w : World) :
    Calls Tryz.prog 63 #[.slice ad 0 c] w fun e w' => e = .returned (.string (strOfNums [])) ∧ w' = w := by
  have hcv := run_convert_bytes_nil w 27 5 Tryz.underlying27 Tryz.underlying5 0 0 9 Tryz.underlying9
  go_enter Tryz.func63, Tryz.ntmps63
  go_wp2
  go_loopg [3, 4] (0) (fun g l i wr => l = .slice none 0 0 ∧ i = .int .i64 0 ∧ wr = w)
  case atStart => exact ⟨rfl, rfl, rfl⟩
  case round =>
    obtain ⟨rfl, rfl, rfl⟩ := hrel
    go_wp2_with fail
    go_ret
    exact ⟨rfl, rfl⟩
set_option maxHeartbeats 1000000 in
theorem rtext_at (R : Nat → Int) (k b off cap : Nat) (w : World) (hk : k ≤ 5000) (hR : Rs w b off k R) :
    Calls Tryz.prog 63 #[.slice (some ⟨b, off, none⟩) k cap] w fun e w' => e = .returned (.string (strOfNums (txt R k))) ∧ Below w.heap.size w w' := by
  have HR : Hid (Rs w b off k R) := hR
  clear hR
  obtain ⟨i0, hi, hz0, hz1, hz2⟩ := info_parts info5
  go_enter Tryz.func63, Tryz.ntmps63
  go_wp2
  go_loopg [3, 4] k (fun g l i wr => ∃ j : Nat, j ≤ k ∧ g = k - j ∧ i = .int .i64 j ∧ Hid (wr.ownsRow w.heap.size 5 1 l (txt R j).length (cellsOf (txt R j))) ∧ Hid (Up w.heap.size w wr))
  case atStart => exact ⟨0, Nat.zero_le _, rfl, rfl, ⟨rfl, Or.inl ⟨rfl, rfl⟩⟩, Up.refl w⟩
  case round =>
    obtain ⟨j, hj, hg, rfl, HO, HU⟩ := hrel
    by_cases hlt : j < k
    · have z0 : (0 : Int) ≤ (j : Int) := by omega
      have z1 : (j : Int) < (k : Int) := by omega
      have hc := (HR.out.stay HU.out.1) j hlt
      have q1 := txt_le R j
      have q2 := enc_le (R j)
      go_wp2_with fail
      refine (bytes_any (R j) _).mono ?_
      rintro e w1 ⟨v, rfl, hown1, hb1⟩
      have HO1 : Hid (w1.ownsRow w.heap.size 5 1 u3 (txt R j).length (cellsOf (txt R j))) := own_stay HO.out hb1
      have HU1 : Hid (Up w.heap.size w w1) := HU.out.stay hb1
      have HV : Hid (w1.ownsRow wr.heap.size 5 1 v (enc (R j)).length (cellsOf (enc (R j)))) := hown1
      clear hb1 HO HU hown1 hc
      go_wp2_with (at_builtin; refine app_own rfl _ _ 27 rfl w.heap.size 5 i0 _ 1 1 Tryz.underlying27 hi hz0 hz1 hz2 rfl (by decide) _ _ _ rfl HO1.out _ v _ _ rfl HV.out (cellsOf_one _) ?c3 ?c4 ?c5 ?_)
      case c3 => unfold maxLen; omega
      case c4 => omega
      case c5 => exact HU1.out.2
      intro v' w2 hown2 hgr
      have HO2 : Hid (w2.ownsRow w.heap.size 5 1 v' (txt R (j + 1)).length (cellsOf (txt R (j + 1)))) := by
        show w2.ownsRow _ _ _ _ _ _
        rw [txt_succ, List.length_append, cellsOf, List.map_append]; exact hown2
      have HU2 : Hid (Up w.heap.size w w2) := HU1.out.grown hgr (own_base HO1.out)
      clear hown2 hgr HO1 HU1 HV
      go_wp2
      go_roundg (k - (j + 1))
      case measure => omega
      case rel => exact ⟨j + 1, by omega, rfl, by go_num, HO2, HU2⟩
    · obtain rfl : j = k := by omega
      have hcv := own_text HO.out
      go_wp2_with fail
      go_ret
      exact ⟨rfl, HU.out.1⟩
theorem rtext_any (R : Nat → Int) (k : Nat) (v : Value) (w : World) (hk : k ≤ 5000) (hR : RSl w v k R) :
    Calls Tryz.prog 63 #[v] w fun e w' => e = .returned (.string (strOfNums (txt R k))) ∧ Below w.heap.size w w' := by
  rcases hR with ⟨ad, c, rfl, rfl⟩ | ⟨b, off, c, rfl, h⟩
  · refine (rtext_zero ad c w).mono ?_
    rintro e w' ⟨rfl, rfl⟩
    exact ⟨rfl, Below.refl _ _⟩
  · exact rtext_at R k b off c w hk h
end Go.Proofs.YtgijihfijoiafaaGreatDoor
/- The reference's Fold. -/
namespace Go.Proofs.YtgijihfijoiafaaGreatDoor
set_option linter.unusedVariables false
open Go.RowKit Go.ChangeShapes
theorem wrL_map (L : List Int) : wrL 1 L = L.map dn := by
  apply List.ext_getElem
  · simp [wrL]
  · intro i h1 h2
    simp [wrL, wrt_one]
theorem dn_neg {x : Int} (h : x < 0) : enc (dn x) = [] := by
  have hg : gB x = false := (gB_no x).2 (by omega)
  rw [dn_id hg]
  exact enc_bad x (by unfold okR; simp; omega)
theorem flat_signs : ∀ L : List Int, ((L.filter fun x => !decide (x < 0)).map dn).flatMap enc = (L.map dn).flatMap enc
  | [] => rfl
  | x :: L => by
    have ih := flat_signs L
    by_cases h : x < 0
    · rw [List.filter_cons_of_neg (by simpa using h), ih, List.map_cons, List.flatMap_cons, dn_neg h, List.nil_append]
    · rw [List.filter_cons_of_pos (by simpa using h), List.map_cons, List.flatMap_cons, ih, List.map_cons, List.flatMap_cons]
theorem fld_tx (s : ByteArray) : fld s = tx (wrL 1 (rl s (kS s))) := by
  unfold fld tx sg
  rw [wrL_map, wrL_map, flat_signs]
theorem dn_great {x : Int} (h : gB x = true) : dn x = x + 32 := by unfold dn; rw [h]; rfl
theorem rtextL_any (L : List Int) (v : Value) (w : World) (hk : L.length ≤ 5000) (hR : RLs w v L) :
    Calls Tryz.prog 63 #[v] w fun e w' => e = .returned (.string (tx L)) ∧ Below w.heap.size w w' := by
  rw [← txt_tx]
  exact rtext_any _ _ v w hk hR
set_option maxHeartbeats 1000000 in
theorem rfold_any (s : ByteArray) (w : World) (hn : s.size ≤ 5000) :
    Calls Tryz.prog 35 #[.string s] w fun e w' => e = .returned (.string (fld s)) ∧ Below w.heap.size w w' := by
  have cs : Calls Tryz.prog 28 #[.string s] w fun e w' => ∃ v, e = .returned v ∧ w'.ownsRow w.heap.size 21 1 v (rl s (kS s)).length ((rl s (kS s)).map e32) ∧ Below w.heap.size w w' :=
    (rrunes_any s w (by omega)).mono fun e w' ⟨k', v, h1, h2, h3, h4⟩ => by
      obtain rfl := kS_is h2
      refine ⟨v, h1, ?_, h4⟩
      rw [← rcells_rl, show (rl s (kS s)).length = kS s by simp [rl]]
      exact h3
  have hk := (kS_ends s).le
  have hsl : (rl s (kS s)).length ≤ s.size := by rw [show (rl s (kS s)).length = kS s by simp [rl]]; exact hk
  rw [fld_tx]
  generalize rl s (kS s) = L at cs hsl ⊢
  have HZ : Hid (∀ j, j < L.length → gB (L.getD j 0) = true → ((mid 1 L j).map e32).set j (.int .i32 (L.getD j 0 + 32)) = (mid 1 L (j + 1)).map e32) := fun j h hg => by
    rw [← mid_set 1 L j h, List.map_set, wrt_one, dn_great hg]
  have HN : Hid (∀ j, j < L.length → gB (L.getD j 0) = false → (mid 1 L j).map e32 = (mid 1 L (j + 1)).map e32) := fun j h hg => by
    rw [← mid_set 1 L j h, wrt_one, dn_id hg]
    congr 1
    apply List.ext_getElem?
    intro i
    rw [List.getElem?_set]
    split
    · rename_i e
      subst e
      split
      · exact mid_at 1 L j h
      · rename_i hh
        exact absurd (by rw [mid_len 1 L j (by omega)]; exact h) hh
    · rfl
  have HA : Hid (∀ j, j < L.length → ((mid 1 L j).map e32)[j]? = some (.int .i32 (L.getD j 0))) := fun j h => by
    rw [List.getElem?_map, mid_at 1 L j h]; rfl
  have HE : Hid ((mid 1 L L.length).map e32 = (wrL 1 L).map e32 ∧ (wrL 1 L).length = L.length) := ⟨by rw [mid_all], wrL_len 1 L⟩
  rw [← mid_zero 1 L, mid_len 1 L 0 (Nat.zero_le _)] at cs
  generalize hM : (fun j => (mid 1 L j).map e32) = M
  have hM' : ∀ j, (mid 1 L j).map e32 = M j := fun j => by rw [← hM]
  simp only [hM'] at cs HZ HN HA HE
  clear hM hM'
  generalize hR : (fun j => L.getD j 0) = R
  have hR' : ∀ j, L.getD j 0 = R j := fun j => by rw [← hR]
  simp only [hR'] at HZ HN HA
  clear hR hR'
  generalize wrL 1 L = X at HE ⊢
  generalize L.length = N at hsl cs HZ HN HA HE ⊢
  go_enter Tryz.func35, Tryz.ntmps35
  go_wp2_with fail
  refine cs.mono ?_
  rintro e w1 ⟨v, rfl, hown, hb⟩
  have HU1 : Hid (Up w.heap.size w w1) := ⟨hb, hb.size⟩
  clear cs hb
  obtain ⟨hl, ⟨rfl, rfl⟩ | ⟨g, cap, cur, rfl, hg, hh, hnc, hcm, h3⟩⟩ := (⟨hown.1, hown.2⟩ : _ ∧ _)
  · have ct := rtextL_any X (.slice none 0 0) w1 (by rw [HE.out.2]; exact Nat.zero_le _) (Or.inl ⟨none, 0, rfl, HE.out.2⟩)
    clear hown hl HZ HA HE HN
    go_wp2
    go_loopg [4] (0) (fun m i wr => i = .int .i64 0 ∧ wr = w1)
    case atStart => exact ⟨rfl, rfl⟩
    case round =>
      obtain ⟨rfl, rfl⟩ := hrel
      go_wp2_with fail
      refine ct.mono ?_
      rintro e w2 ⟨rfl, hb2⟩
      have HU2 : Hid (Up w.heap.size w w2) := HU1.out.stay hb2
      clear hb2
      go_wp2
      go_ret
      exact ⟨rfl, HU2.out.1⟩
  · have HO : Hid (w1.ownsRow w.heap.size 21 1 (.slice (some ⟨g, 0, none⟩) N cap) N (M 0)) := hown
    clear hown hl hh hcm h3
    go_wp2
    go_loopg [4] N (fun m i wr => ∃ j : Nat, j ≤ N ∧ m = N - j ∧ i = .int .i64 j ∧ Hid (wr.ownsRow w.heap.size 21 1 (.slice (some ⟨g, 0, none⟩) N cap) N (M j)) ∧ Hid (Up w.heap.size w wr))
    case atStart => exact ⟨0, Nat.zero_le _, rfl, rfl, HO, HU1⟩
    case round =>
      obtain ⟨j, hj, hm, rfl, HO1, HU⟩ := hrel
      by_cases hlt : j < N
      · have z0 : (0 : Int) ≤ (j : Int) := by omega
        have z1 : (j : Int) < (N : Int) := by omega
        have hc : wr.cell? ⟨g, j, none⟩ = some (.int .i32 (R j)) := by rw [HO1.out.cellAt j (by omega)]; exact HA.out j hlt
        have hfz : wr.frozen? ⟨g, j, none⟩ = false := HO1.out.frozenAt j
        have cg := rgreat_any (R j) wr
        cases hq : gB (R j)
        · rw [hq] at cg
          have HS1 : Hid (wr.ownsRow w.heap.size 21 1 (.slice (some ⟨g, 0, none⟩) N cap) N (M (j + 1))) := by
            show wr.ownsRow _ _ _ _ _ _
            rw [← HN.out j hlt hq]; exact HO1.out
          clear hq HO1
          generalize R j = x at cg hc
          go_wp2_with fail
          refine cg.mono ?_
          rintro e w' ⟨rfl, hw⟩
          subst w'
          clear cg
          go_wp2
          go_roundg (N - (j + 1))
          case measure => omega
          case rel => exact ⟨j + 1, by omega, rfl, by go_num, HS1, HU⟩
        · rw [hq] at cg
          have hgr := (gB_iff (R j)).1 hq
          have hwr : IntKind.i32.wrap (R j + 32) = R j + 32 := Go.IntWalk.i32_in _ (by omega)
          have HS := HO1.out.stored j (.int .i32 (R j + 32))
          rw [HZ.out j hlt hq] at HS
          have HS1 : Hid _ := HS.1
          have HS2 : Hid (Up w.heap.size w (wr.setCell ⟨g, j, none⟩ (.int .i32 (R j + 32)))) := HU.out.grown HS.2 (fun k hk => by cases hk; exact hg)
          clear HS hq hgr
          generalize R j = x at cg hc hwr HS1 HS2
          obtain ⟨y, hy⟩ : ∃ y, x + 32 = y := ⟨_, rfl⟩
          rw [hy] at hwr HS1 HS2
          go_wp2_with fail
          refine cg.mono ?_
          rintro e w' ⟨rfl, hw⟩
          subst w'
          clear cg
          go_wp2
          go_roundg (N - (j + 1))
          case measure => omega
          case rel => exact ⟨j + 1, by omega, rfl, by go_num, HS1, HS2⟩
      · obtain rfl : j = N := by omega
        have hown := HO1.out
        rw [HE.out.1] at hown
        have ct := rtextL_any X (.slice (some ⟨g, 0, none⟩) j cap) wr (by rw [HE.out.2]; omega) (rls_of hown).1
        clear hown
        go_wp2_with fail
        refine ct.mono ?_
        rintro e w2 ⟨rfl, hb2⟩
        have HU2 : Hid (Up w.heap.size w w2) := HU.out.stay hb2
        clear hb2
        go_wp2
        go_ret
        exact ⟨rfl, HU2.out.1⟩
end Go.Proofs.YtgijihfijoiafaaGreatDoor
