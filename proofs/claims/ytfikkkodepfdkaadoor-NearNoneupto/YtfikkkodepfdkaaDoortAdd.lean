/- trie.step as one contract; trie.add. -/
import Derived.Test.YtfikkkodepfdkaaDoortStep
import Derived.Test.YtfikkkodepfdkaaDoortPure
namespace Go.Proofs.YtfikkkodepfdkaaDoor
set_option linter.unusedVariables false
open Go.RowKit Go.ChangeShapes
theorem step_any {w : World} {base T m : Nat} {vN : Value} {l : List Nd} (h : TrieM w base T m vN l) (hok : OkP (l.map Nd.p)) {i : Nat} (hi : i < l.length) (h63 : l.length ≤ 900000) (r : Int) (hb : base ≤ w.heap.size) :
    Calls Tryd.prog 47 #[.pointer (some ⟨T, 0, none⟩), .int .i64 (i : Int), .int .i32 r] w fun e w' => ∃ vN' l', e = .returned (.int .i64 ((stepP (l.map Nd.p) i r).2 : Int)) ∧
      TrieM w' base T m vN' l' ∧ l'.map Nd.p = (stepP (l.map Nd.p) i r).1 ∧ Went w w' (Foot T vN l) (Foot T vN' l') := by
  obtain ⟨⟨nr, nk, ⟨R0, K0, e0⟩⟩, hn⟩ : ∃ n, l[i]? = some n := ⟨_, List.getElem?_eq_getElem hi⟩
  have hm : (⟨R0, K0, e0⟩ : PN) ∈ l.map Nd.p := List.mem_map.2 ⟨_, List.mem_of_getElem? hn, rfl⟩
  obtain ⟨k1, k2, k3⟩ := hok _ hm
  rw [List.length_map] at k3
  dsimp only at k1 k2 k3
  have hp : (l.map Nd.p)[i]? = some ⟨R0, K0, e0⟩ := by rw [List.getElem?_map, hn]; rfl
  unfold stepP
  rw [hp]
  dsimp only
  by_cases hr : R0.getLast? = some r
  · rw [if_pos hr]
    obtain ⟨R, rfl⟩ : ∃ R, R0 = R ++ [r] := by
      rcases List.eq_nil_or_concat R0 with rfl | ⟨R, x, rfl⟩
      · cases hr
      · rw [List.concat_eq_append, List.getLast?_append] at hr
        simp at hr
        subst hr
        exact ⟨R, List.concat_eq_append ..⟩
    rcases List.eq_nil_or_concat K0 with rfl | ⟨K, c, rfl⟩
    · simp at k1
    · refine (step_old h hn (by omega) R r rfl K c (List.concat_eq_append ..) (by simpa using k1) (by simp at k3; omega)).mono ?_
      rintro e w' ⟨rfl, rfl⟩
      refine ⟨vN, l, ?_, h, rfl, Went.refl _ _⟩
      simp
  · rw [if_neg hr]
    refine (step_new h hn (by omega) r (by omega) (by omega) hr hb).mono ?_
    rintro e w' ⟨vN', rv, kv, rfl, hT, hW⟩
    refine ⟨vN', _, by rw [List.length_map], hT, ?_, hW⟩
    rw [List.map_append, List.map_set, List.length_map]
    rfl
theorem Went.of_below {w w' : World} {F : Nat → Prop} (h : Below w.heap.size w w') : Went w w' F F := ⟨h.os, h.tape, h.output, h.size, fun k hk _ => h.block k hk, fun k hk => Or.inl hk⟩
theorem rl_take (s : ByteArray) (k j : Nat) (hj : j < k) : (rl s k).take (j + 1) = (rl s k).take j ++ [rn s (pos s j)] := by
  rw [List.take_succ_eq_append_getElem (by simp [rl]; exact hj)]
  simp [rl]
set_option maxHeartbeats 1000000 in
set_option maxRecDepth 100000 in
theorem add_any {w0 w : World} {T m : Nat} {vN : Value} {l : List Nd} (h : TrieM w w0.heap.size T m vN l) (hT : Tabs w0) (hU : Up w0.heap.size w0 w) (hok : OkP (l.map Nd.p)) (h1 : 0 < l.length) (h2 : l.length ≤ 800000) (hm : m ≤ 100000) (s : ByteArray) (hs : s.size ≤ 64) :
    Calls Tryd.prog 27 #[.pointer (some ⟨T, 0, none⟩), .string s] w fun e w' => ∃ vN' l' k u, e = .returned u ∧ Ends s k ∧ k ≤ 64 ∧
      TrieM w' w0.heap.size T (m + 1) vN' l' ∧ l'.map Nd.p = addP (l.map Nd.p) (rl s k) ∧ Went w w' (Foot T vN l) (Foot T vN' l') := by
  have HT : Hid (Tabs w0) := hT
  have H : Hid (TrieM w w0.heap.size T m vN l) := h
  have HU : Hid (Up w0.heap.size w0 w) := hU
  have HOK : Hid (OkP (l.map Nd.p)) := hok
  clear hT h hU hok
  go_enter Tryd.func27, Tryd.ntmps27
  go_wp2_with fail
  refine (runes_any s w (by omega) (tabs_stay HT.out HU.out.1)).mono ?_
  rintro e w1 ⟨k, v, rfl, hEnds, hown, hb1⟩
  have hk64 : k ≤ 64 := by
    have := pos_ge s k hEnds.2
    have := hEnds.1
    omega
  have HE : Hid (Ends s k) := hEnds
  have HO : Hid (w1.ownsRow w.heap.size 21 1 v k (rcells s k)) := hown
  have HB : Hid (Below w.heap.size w w1) := hb1
  have H1 : Hid (TrieM w1 w0.heap.size T m vN l) := H.out.stay hb1
  obtain ⟨ad, cv, rfl⟩ : ∃ ad cv, v = .slice ad k cv := by
    obtain ⟨_, ⟨e, rfl⟩ | ⟨g, cap, _, e, _⟩⟩ := hown
    · exact ⟨_, _, e⟩
    · exact ⟨_, _, e⟩
  clear hown hb1 hEnds
  go_wp2
  go_loopg [4, 10] k (fun g at' ix wr => ∃ (j : Nat) (vM : Value) (l' : List Nd), j ≤ k ∧ g = k - j ∧ at' = .int .i64 ((walkP (l.map Nd.p) 0 ((rl s k).take j)).2 : Int) ∧ ix = .int .i64 j ∧ Hid (TrieM wr w0.heap.size T m vM l') ∧ Hid (l'.map Nd.p = (walkP (l.map Nd.p) 0 ((rl s k).take j)).1) ∧ Hid (Went w1 wr (Foot T vN l) (Foot T vM l')))
  case atStart => exact ⟨0, vN, l, Nat.zero_le _, rfl, rfl, rfl, H1, rfl, Went.refl _ _⟩
  case round =>
    obtain ⟨j, vM, l', hj, hg, rfl, rfl, HM, HP, HW⟩ := hrel
    obtain ⟨o1, o2, o3, o4⟩ := okP_walk HOK.out (i := 0) (by simpa using h1) ((rl s k).take j)
    rw [← HP.out] at o1
    rw [← HP.out, List.length_map] at o2
    have o5 : l'.length ≤ l.length + 64 := by
      rw [← HP.out, List.length_map, List.length_map, List.length_take] at o4
      omega
    have OK : Hid (OkP (l'.map Nd.p)) := o1
    have hbase : w0.heap.size ≤ wr.heap.size := Nat.le_trans HU.out.2 (Nat.le_trans HB.out.size HW.out.size)
    clear o1 o3 o4
    by_cases hlt : j < k
    · obtain ⟨g1, rfl⟩ : ∃ g1, ad = some ⟨g1, 0, none⟩ := by
        obtain ⟨g1, cap, e, _⟩ := HO.out.form (by omega)
        injection e with e1 _ _
        exact ⟨g1, e1⟩
      have hlo := HO.out.lt g1 rfl
      have hnot : ¬ Foot T vN l g1 := fun hF => by have := (H.out.lt g1 hF).2; omega
      have hc : wr.cell? ⟨g1, j, none⟩ = some (.int .i32 (rn s (pos s j))) := by
        rw [World.cell?_of_block (a := ⟨g1, j, none⟩) (HW.out.far g1 hlo.2 hnot), HO.out.cellAt j (by omega)]
        simp [rcells, hlt]
      have ct := step_any HM.out OK.out o2 (by omega) (rn s (pos s j)) hbase
      have HS : Hid (walkP (l.map Nd.p) 0 ((rl s k).take (j + 1)) = stepP (l'.map Nd.p) (walkP (l.map Nd.p) 0 ((rl s k).take j)).2 (rn s (pos s j))) := by
        show _ = _
        rw [rl_take s k j hlt, walkP_snoc, HP.out]
      clear hnot hlo
      generalize hat : (walkP (l.map Nd.p) 0 ((rl s k).take j)).2 = at' at *
      have z1 : ((j : Nat) : Int) < (k : Int) := by omega
      go_wp2_with fail
      refine ct.mono ?_
      rintro e w2 ⟨vM2, l2, rfl, hM2, hP2, hW2⟩
      go_wp2
      go_roundg (k - (j + 1))
      case measure => omega
      case rel =>
        refine ⟨j + 1, vM2, l2, by omega, rfl, ?_, by go_num, hM2, ?_, HW.out.trans hW2⟩
        · rw [HS.out]
        · show _ = _
          rw [HS.out]; exact hP2
    · obtain rfl : j = k := by omega
      have htake : (rl s j).take j = rl s j := List.take_of_length_le (by simp [rl])
      rw [htake] at HP o2 ⊢
      generalize hat : (walkP (l.map Nd.p) 0 (rl s j)).2 = at' at *
      obtain ⟨n, hn⟩ : ∃ n, l'[at']? = some n := ⟨_, List.getElem?_eq_getElem o2⟩
      obtain ⟨g, cap, rfl, -⟩ := HM.out.at hn
      obtain ⟨c0, c1, -, -, c4, f1, f2, -⟩ := HM.out.cells2 hn
      have f3 := f1 (at' * 3 + 2)
      have f4 := f2 0
      clear f1 f2
      obtain ⟨HM2, HW2⟩ := HM.out.putE hn true
      obtain ⟨HM3, HW3⟩ := HM2.putW (m + 1)
      have hne : g ≠ T := fun e => own_blk HM.out.nodes HM.out.blk (by decide) (by rw [← e]; rfl)
      have z1 : ((at' : Nat) : Int) < (l'.length : Int) := by omega
      have z2 : (0 : Int) ≤ (at' : Int) := by omega
      have HMM : Hid (TrieM _ _ _ _ _ _) := HM3
      have HWW : Hid (Went _ _ _ _) := (Went.of_below HB.out).trans (HW.out.trans (HW2.trans HW3))
      clear HM2 HM3 HW2 HW3
      have HX : Hid ((l'.set at' ⟨n.r, n.k, ⟨n.p.R, n.p.K, true⟩⟩).map Nd.p = addP (l.map Nd.p) (rl s j)) := by
        show _ = _
        unfold addP endP
        rw [hat, ← HP.out, List.getElem?_map, hn, List.map_set]
        rfl
      go_wp2
      go_end0
      exact ⟨_, _, j, _, rfl, HE, hk64, HMM, HX, HWW⟩
end Go.Proofs.YtfikkkodepfdkaaDoor
