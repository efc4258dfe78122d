/- near.within, near.enough, near.short. -/
import Derived.Test.YtfikkkodepfdkaaDoornWlk
import Derived.Test.YtfikkkodepfdkaaDoortSrt
namespace Go.Proofs.YtfikkkodepfdkaaDoor
set_option linter.unusedVariables false
open Go.RowKit Go.ChangeShapes
open Qns (dd far at_)
/-- Suggestions in a row of their own. -/
def ON (w : World) (b : Nat) (v : Value) (F : List Nr) : Prop := w.ownsRow b 47 2 v F.length (nrC F)
theorem ON.stay {w w' : World} {b : Nat} {v : Value} {F : List Nr} (h : ON w b v F) (hb : Below w.heap.size w w') : ON w' b v F := own_stay h hb
theorem fN_is (n : Nat) (h : n ≤ 64) : Qns.fN (n : Int) = n := by
  unfold Qns.fN
  omega
/-- What a search of words needs. -/
structure Tr (w : World) (tv : Value) (L : List ByteArray) : Prop where
  ex : ∃ P B, TrV w tv P ∧ NP L P B ∧ OkP P ∧ P.length ≤ 300000
  rise : (L.map rs).Pairwise (· < ·)
  len : L.length ≤ 5000
theorem Tr.stay {w w1 : World} {tv : Value} {L : List ByteArray} (h : Tr w tv L) (hu : Up w.heap.size w w1) : Tr w1 tv L := by
  obtain ⟨P, B, h1, h2, h3, h4⟩ := h.ex
  exact ⟨⟨P, B, h1.stay hu, h2, h3, h4⟩, h.rise, h.len⟩
/-- The words of a list that are near enough. -/
noncomputable def nearL (W : List Int) (f : Nat) (L : List ByteArray) : List Nr := witP W f (L.map rs)
theorem subW_len (D : List (List Int)) (p : List Int) : (subW D p).length ≤ D.length := List.length_filter_le _ _
set_option maxHeartbeats 2000000 in
set_option maxRecDepth 100000 in
theorem within_any {w : World} {tp : Option Addr} {vW : Value} {L : List ByteArray} {W : List Int} (hT : Tr w (.pointer tp) L) (hW : Qns.RSl w vW W.length (at_ W)) (hWl : W.length ≤ 64) (f : Nat) (hf : f ≤ 3) :
    Calls Tryd.prog 50 #[(.pointer tp), vW, .int .i64 (f : Int)] w fun e w' => ∃ v, e = .returned v ∧ ON w' w.heap.size v (nearL W f L) ∧ Up w.heap.size w w' := by
  obtain ⟨P, B, hV, hNP, hok, hPl⟩ := hT.ex
  have hD := hT.rise
  have hLl := hT.len
  have HWW : Hid (Qns.RSl w vW W.length (at_ W)) := hW
  have HCW : Hid (∀ (w1 : World) (S : Nat) (vf vb vl vq : Value), SR w w1 S (.pointer tp) vW f vf [] → w1.ownsRow w.heap.size 21 1 vb 0 [] → RowAt w1 W.length (rowN W []) (FS S vf vb) vl → Ahead w1 W [] (FS S vf vb) vq →
      Calls Tryd.prog 63 #[.pointer (some ⟨S, 0, none⟩), .int .i64 0, vb, vl, vq] w1 fun e w' => (∃ u, e = .returned u) ∧ WPost w w1 w' S (.pointer tp) vW f vf vb (nearL W f L) []) := fun w1 S vf vb vl vq h1 h2 h3 h4 => by
    have := walk_any hV hNP hD hok hPl hW hWl f hf 65 0 [] hNP.inv.b0 (by simp) w1 S vf vb vl vq [] h1 h2 h3 h4 (by
      have := subW_len (L.map rs) []
      rw [List.length_map] at this
      simp only [List.length_nil]
      omega)
    rw [List.nil_append, subW_nil] at this
    exact this
  obtain ⟨aw, cw, rfl⟩ := hW.form
  clear hV hNP hok hPl hD hLl hT hW
  obtain ⟨N, hN⟩ : ∃ N, nearL W f L = N := ⟨_, rfl⟩
  rw [hN] at HCW ⊢
  clear hN
  obtain ⟨k, hk⟩ : ∃ k, W.length = k := ⟨_, rfl⟩
  have HKW : Hid (W.length = k) := hk
  obtain ⟨w1, hw1⟩ : ∃ w1, w.alloc (.cells #[(.pointer tp), .slice aw k cw, .int .i64 (f : Int), .slice none 0 0] 112) = w1 := ⟨_, rfl⟩
  have HU1 : Hid (Up w.heap.size w w1) := by show Up _ _ _; rw [← hw1]; exact (Up.refl w).alloc _
  have HB1 : Hid (w1.heap[w.heap.size]? = some (.cells #[(.pointer tp), .slice aw k cw, .int .i64 (f : Int), .slice none 0 0] 112 (0, 0))) := by
    show _ = _
    rw [← hw1]
    exact Array.getElem?_push_size
  rw [hk] at HWW HCW hWl ⊢
  have hfk := fN_is k hWl
  have HW1E : Hid (w.alloc (.cells #[.pointer tp, .slice aw k cw, .int .i64 (f : Int), .slice none 0 0] 112) = w1) := hw1
  have c1 := root_any (.pointer tp) w1
  have c2 := Qns.first_any (k : Int) w1
  rw [hfk] at c2
  clear hk hfk hw1
  go_enter Tryd.func50, Tryd.ntmps50
  go_wp2_with fail
  rw [HW1E.out]
  refine c1.mono ?_
  rintro e wx ⟨rfl, hwx⟩
  subst wx
  go_wp2_with fail
  refine c2.mono ?_
  rintro e w2 ⟨rfl, hIs, hU2⟩
  have hb2 : Below w1.heap.size w1 w2 := hU2.1
  have hS1 : SR w w1 w.heap.size (.pointer tp) (.slice aw k cw) f (.slice none 0 0) [] := ⟨HU1.out, Nat.le_refl _, HB1.out, World.ownsRow_nil _ _ _ _⟩
  have hlt1 : w.heap.size < w1.heap.size := hS1.S_lt
  have hlt2 : w1.heap.size < w2.heap.size := World.block_lt_of_cell? w2 _ (hIs 0 (by omega))
  have c3 := HCW.out w2 w.heap.size (.slice none 0 0) (.slice none 0 0) (.slice (some ⟨w1.heap.size, 0, none⟩) (k + 1) (k + 1)) (.slice none 0 0) (hS1.stay hb2) (World.ownsRow_nil _ _ _ _)
    ⟨w1.heap.size, 0, k + 1, rfl, hIs.congr (fun j _ => (row_0 W j).symm), (fun hF => by
      rcases hF with e | e | e
      · omega
      · cases e
      · cases e), hlt2⟩ (Or.inl ⟨rfl, rfl⟩)
  clear hIs hU2 hb2 hS1 hlt1 hlt2 c1 c2
  go_wp2_with fail
  refine c3.mono ?_
  rintro e w3 ⟨⟨u, rfl⟩, hpost⟩
  obtain ⟨vf, hs, -, -⟩ := hpost
  have HS : Hid (SR w w3 w.heap.size (.pointer tp) (.slice aw k cw) f vf N) := hs
  have cc := hs.cells.2.2.2.1
  clear hs c3
  go_wp2
  go_ret
  exact ⟨vf, rfl, HS.out.fnd, HS.out.up⟩
/-- How far one goes: no further than is needed. -/
def EnF (W : List Int) (L : List ByteArray) (most k fs : Nat) : Prop := fs ≤ most ∧ (fs = most ∨ k ≤ (nearL W fs L).length)
def EnP (w w' : World) (W : List Int) (L : List ByteArray) (most k : Nat) (v : Value) : Prop := ∃ fs, EnF W L most k fs ∧ ON w' w.heap.size v (nearL W fs L)
theorem nearL_len (W : List Int) (f : Nat) (L : List ByteArray) : (nearL W f L).length ≤ L.length := by
  have := witP_len W f (L.map rs)
  rw [List.length_map] at this
  exact this
set_option maxHeartbeats 2000000 in
set_option maxRecDepth 100000 in
theorem enough_any {w : World} {tp : Option Addr} {vW : Value} {L : List ByteArray} {W : List Int} (hT : Tr w (.pointer tp) L) (hW : Qns.RSl w vW W.length (at_ W)) (hWl : W.length ≤ 64) (most k : Nat) (hm : most ≤ 3) (hk : k ≤ 32) :
    Calls Tryd.prog 33 #[(.pointer tp), vW, .int .i64 (most : Int), .int .i64 (k : Int)] w fun e w' => ∃ v, e = .returned v ∧ EnP w w' W L most k v ∧ Up w.heap.size w w' := by
  have HC : Hid (∀ w1 (f : Nat), f ≤ 3 → Up w.heap.size w w1 → Calls Tryd.prog 50 #[(.pointer tp), vW, .int .i64 (f : Int)] w1 fun e w' => ∃ v, e = .returned v ∧ ON w' w1.heap.size v (nearL W f L) ∧ Up w1.heap.size w1 w') := fun w1 f hf hu => within_any (hT.stay hu) (hW.stay hu.1 : Qns.RSl w1 vW W.length (at_ W)) hWl f hf
  have hLl := hT.len
  clear hT hW
  go_enter Tryd.func33, Tryd.ntmps33
  go_wp2
  go_loopg [9, 13] (most + 1) (fun g lv jv wx => ∃ (j : Nat) (l9 : Value), lv = l9 ∧ j ≤ most + 1 ∧ g = most + 1 - j ∧ jv = .int .i64 j ∧ Hid (Up w.heap.size w wx) ∧ Hid (0 < j → ON wx w.heap.size l9 (nearL W (j - 1) L)))
  case atStart => exact ⟨0, _, rfl, Nat.zero_le _, rfl, rfl, Up.refl w, fun h => absurd h (Nat.lt_irrefl _)⟩
  case round =>
    obtain ⟨j, l9, rfl, hjm, hg, rfl, HU, HO⟩ := hrel
    by_cases hlt : j < most + 1
    · have y1 : (j : Int) < (most : Int) + 1 := by omega
      have cw := HC.out wr j (by omega) HU.out
      go_wp2_with fail
      refine cw.mono ?_
      rintro e w1 ⟨v, rfl, ho, hu⟩
      obtain ⟨N, hN⟩ : ∃ N, (nearL W j L).length = N := ⟨_, rfl⟩
      have hNl := nearL_len W j L
      obtain ⟨av, cv, rfl⟩ : ∃ av cv, v = .slice av N cv := by rw [← hN]; exact own_slice ho
      have HN : Hid ((nearL W j L).length = N) := hN
      have HO1 : Hid (ON w1 w.heap.size (.slice av N cv) (nearL W j L)) := own_mono ho HU.out.2
      have HU1 : Hid (Up w.heap.size w w1) := HU.out.stay hu.1
      have hNL : N ≤ 5000 := by omega
      clear ho hu cw hN HO HU hNl
      by_cases hge : k ≤ N
      · have y2 : (k : Int) ≤ (N : Int) := by omega
        go_wp2
        go_ret
        exact ⟨_, rfl, ⟨j, ⟨by omega, Or.inr (by rw [HN.out]; exact hge)⟩, HO1.out⟩, HU1.out⟩
      · have y2 : ¬ (k : Int) ≤ (N : Int) := by omega
        go_wp2
        go_roundg (most + 1 - (j + 1))
        case measure => omega
        case rel => exact ⟨j + 1, _, rfl, by omega, rfl, by go_num, HU1, fun _ => HO1.out⟩
    · obtain rfl : j = most + 1 := by omega
      have y1 : ¬ ((most + 1 : Nat) : Int) < (most : Int) + 1 := by omega
      have ho := HO.out (by omega)
      have e1 : most + 1 - 1 = most := rfl
      rw [e1] at ho
      have HO1 : Hid (ON wr w.heap.size u9 (nearL W most L)) := ho
      clear ho HO
      go_wp2
      go_ret
      exact ⟨_, rfl, ⟨most, ⟨Nat.le_refl _, Or.inl rfl⟩, HO1.out⟩, HU.out⟩
/-- The signs of a short word. -/
theorem short_long (s : ByteArray) (w : World) (h : 256 < s.size) (h2 : s.size ≤ 2000000) :
    Calls Tryd.prog 32 #[.string s] w fun e w' => e = .returned (.tuple #[.slice none 0 0, .bool false]) ∧ w' = w := by
  have y1 : (256 : Int) < (s.size : Int) := by omega
  go_enter Tryd.func32, Tryd.ntmps32
  go_wp2
  go_ret2
  exact ⟨rfl, rfl⟩
theorem short_any (s : ByteArray) (w : World) (hT : Tabs w) (h : s.size ≤ 256) :
    Calls Tryd.prog 32 #[.string s] w fun e w' => ∃ v, e = .returned (.tuple #[v, .bool (decide ((rs s).length ≤ 64))]) ∧ w'.ownsRow w.heap.size 21 1 v (rs s).length ((rs s).map i32c) ∧ Below w.heap.size w w' := by
  have y1 : ¬ (256 : Int) < (s.size : Int) := by omega
  have c1 := runes_any s w (by omega) hT
  obtain ⟨n, hn⟩ : ∃ n, (rs s).length = n := ⟨_, rfl⟩
  have HN : Hid ((rs s).length = n) := hn
  obtain ⟨bn, hbn⟩ : ∃ bn, decide (n ≤ 64) = bn := ⟨_, rfl⟩
  have z1 : decide ((n : Int) ≤ 64) = bn := by
    rw [← hbn]
    by_cases h : n ≤ 64
    · rw [decide_eq_true h, decide_eq_true (by omega)]
    · rw [decide_eq_false h, decide_eq_false (by omega)]
  have HZ : Hid (decide ((n : Int) ≤ 64) = bn) := z1
  rw [hn, hbn]
  clear hT hn hbn z1
  go_enter Tryd.func32, Tryd.ntmps32
  go_wp2_with fail
  refine c1.mono ?_
  rintro e w1 ⟨k, v, rfl, he, ho, hb⟩
  obtain rfl : k = kS s := (kS_is he).symm
  rw [rcells_rs, ← rs_len] at ho
  have hks := kS_le s
  rw [← rs_len, HN.out] at hks
  rw [HN.out] at ho
  have HO : Hid (w1.ownsRow w.heap.size 21 1 v n ((rs s).map i32c)) := ho
  obtain ⟨av, cv, rfl⟩ := own_slice ho
  have HB : Hid (Below w.heap.size w w1) := hb
  clear ho hb c1
  go_wp2
  go_ret2
  exact ⟨_, congrArg (fun b => Ending.returned (.tuple #[.slice av n cv, .bool b])) HZ.out, HO.out, HB.out⟩
end Go.Proofs.YtfikkkodepfdkaaDoor
