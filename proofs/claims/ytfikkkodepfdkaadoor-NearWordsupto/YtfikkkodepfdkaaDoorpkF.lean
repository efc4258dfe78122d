/- near.within, near.enough, near.short. The order of suggestions, in plain words. slices.SortFunc at suggestions. near.order: the preferred words' map, the closure, slices.SortFunc of suggestions. near.order: the sort; slices.Clone of suggestions. near.order, slices.Clone of suggestions, near.Words. A nil trie: it has a root alone, and no word. The law's Awake; tries that are made, and a nil one. -/
import Derived.Lib.Small
import Derived.Lib.Bytealg
import Derived.Sort.LotA
import Derived.Shelf.SlSortCmp.NoneTotal
import Derived.Shelf.SlSortCmp.WholeK
import Derived.Ground.SlsfProg
import Derived.Maps.OwnSet
import Derived.Maps.AppendAt
import Derived.StringKeys
import Derived.Laws.Cover1
import Derived.Deep.RegionHeld3
import Derived.Lib.OwnBridge
import Derived.Test.YtfikkkodepfdkaaDoorpkW
import Derived.Test.YtfikkkodepfdkaaDoorpkC
import Derived.Test.YtfikkkodepfdkaaDoorpkE
import Derived.Test.YtfikkkodepfdkaaDoorProg
import Derived.Test.YtfikkkodepfdkaaDoorpkA
import Derived.Test.YtfikkkodepfdkaaDoorpkB
namespace Go.Proofs.YtfikkkodepfdkaaDoor
set_option linter.unusedVariables false
open Go.RowKit Go.ChangeShapes
open Qns (dd far at_)
/-- Suggestions in a row of their own. -/
def ON (w : World) (b : Nat) (v : Value) (F : List Nr) : Prop := w.ownsRow b 47 2 v F.length (nrC F)
theorem ON.stay {w w' : World} {b : Nat} {v : Value} {F : List Nr} (h : ON w b v F) (hb : Below w.heap.size w w') : ON w' b v F := own_stay h hb
theorem fN_is (n : Nat) (h : n ≤ 64) : Qns.fN (n : Int) = n := by
  unfold Qns.fN
  omega
/-- What a search of words needs. -/
structure Tr (w : World) (tv : Value) (L : List ByteArray) : Prop where
  ex : ∃ P B, TrV w tv P ∧ NP L P B ∧ OkP P ∧ P.length ≤ 300000
  rise : (L.map rs).Pairwise (· < ·)
  len : L.length ≤ 5000
theorem Tr.stay {w w1 : World} {tv : Value} {L : List ByteArray} (h : Tr w tv L) (hu : Up w.heap.size w w1) : Tr w1 tv L := by
  obtain ⟨P, B, h1, h2, h3, h4⟩ := h.ex
  exact ⟨⟨P, B, h1.stay hu, h2, h3, h4⟩, h.rise, h.len⟩
/-- The words of a list that are near enough. -/
def nearL (W : List Int) (f : Nat) (L : List ByteArray) : List Nr := witP W f (L.map rs)
theorem subW_len (D : List (List Int)) (p : List Int) : (subW D p).length ≤ D.length := List.length_filter_le _ _
set_option maxHeartbeats 2000000 in
set_option maxRecDepth 100000 in
theorem within_any {w : World} {tp : Option Addr} {vW : Value} {L : List ByteArray} {W : List Int} (hT : Tr w (.pointer tp) L) (hW : Qns.RSl w vW W.length (at_ W)) (hWl : W.length ≤ 64) (f : Nat) (hf : f ≤ 3) :
    Calls Tryd.prog 50 #[(.pointer tp), vW, .int .i64 (f : Int)] w fun e w' => ∃ v, e = .returned v ∧ ON w' w.heap.size v (nearL W f L) ∧ Up w.heap.size w w' := by
  obtain ⟨P, B, hV, hNP, hok, hPl⟩ := hT.ex
  have hD := hT.rise
  have hLl := hT.len
  have HWW : Hid (Qns.RSl w vW W.length (at_ W)) := hW
  have HCW : Hid (∀ (w1 : World) (S : Nat) (vf vb vl vq : Value), SR w w1 S (.pointer tp) vW f vf [] → w1.ownsRow w.heap.size 21 1 vb 0 [] → RowAt w1 W.length (rowN W []) (FS S vf vb) vl → Ahead w1 W [] (FS S vf vb) vq →
      Calls Tryd.prog 63 #[.pointer (some ⟨S, 0, none⟩), .int .i64 0, vb, vl, vq] w1 fun e w' => (∃ u, e = .returned u) ∧ WPost w w1 w' S (.pointer tp) vW f vf vb (nearL W f L) []) := fun w1 S vf vb vl vq h1 h2 h3 h4 => by
    have := walk_any hV hNP hD hok hPl hW hWl f hf 65 0 [] hNP.inv.b0 (by simp) w1 S vf vb vl vq [] h1 h2 h3 h4 (by
      have := subW_len (L.map rs) []
      rw [List.length_map] at this
      simp only [List.length_nil]
      omega)
    rw [List.nil_append, subW_nil] at this
    exact this
  obtain ⟨aw, cw, rfl⟩ := hW.form
  clear hV hNP hok hPl hD hLl hT hW
  obtain ⟨N, hN⟩ : ∃ N, nearL W f L = N := ⟨_, rfl⟩
  rw [hN] at HCW ⊢
  clear hN
  obtain ⟨k, hk⟩ : ∃ k, W.length = k := ⟨_, rfl⟩
  have HKW : Hid (W.length = k) := hk
  obtain ⟨w1, hw1⟩ : ∃ w1, w.alloc (.cells #[(.pointer tp), .slice aw k cw, .int .i64 (f : Int), .slice none 0 0] 112) = w1 := ⟨_, rfl⟩
  have HU1 : Hid (Up w.heap.size w w1) := by show Up _ _ _; rw [← hw1]; exact (Up.refl w).alloc _
  have HB1 : Hid (w1.heap[w.heap.size]? = some (.cells #[(.pointer tp), .slice aw k cw, .int .i64 (f : Int), .slice none 0 0] 112 (0, 0))) := by
    show _ = _
    rw [← hw1]
    exact Array.getElem?_push_size
  rw [hk] at HWW HCW hWl ⊢
  have hfk := fN_is k hWl
  have HW1E : Hid (w.alloc (.cells #[.pointer tp, .slice aw k cw, .int .i64 (f : Int), .slice none 0 0] 112) = w1) := hw1
  have c1 := root_any (.pointer tp) w1
  have c2 := Qns.first_any (k : Int) w1
  rw [hfk] at c2
  clear hk hfk hw1
  go_enter Tryd.func50, Tryd.ntmps50
  go_wp2_with fail
  rw [HW1E.out]
  refine c1.mono ?_
  rintro e wx ⟨rfl, hwx⟩
  subst wx
  go_wp2_with fail
  refine c2.mono ?_
  rintro e w2 ⟨rfl, hIs, hU2⟩
  have hb2 : Below w1.heap.size w1 w2 := hU2.1
  have hS1 : SR w w1 w.heap.size (.pointer tp) (.slice aw k cw) f (.slice none 0 0) [] := ⟨HU1.out, Nat.le_refl _, HB1.out, World.ownsRow_nil _ _ _ _⟩
  have hlt1 : w.heap.size < w1.heap.size := hS1.S_lt
  have hlt2 : w1.heap.size < w2.heap.size := World.block_lt_of_cell? w2 _ (hIs 0 (by omega))
  have c3 := HCW.out w2 w.heap.size (.slice none 0 0) (.slice none 0 0) (.slice (some ⟨w1.heap.size, 0, none⟩) (k + 1) (k + 1)) (.slice none 0 0) (hS1.stay hb2) (World.ownsRow_nil _ _ _ _)
    ⟨w1.heap.size, 0, k + 1, rfl, hIs.congr (fun j _ => (row_0 W j).symm), (fun hF => by
      rcases hF with e | e | e
      · omega
      · cases e
      · cases e), hlt2⟩ (Or.inl ⟨rfl, rfl⟩)
  clear hIs hU2 hb2 hS1 hlt1 hlt2 c1 c2
  go_wp2_with fail
  refine c3.mono ?_
  rintro e w3 ⟨⟨u, rfl⟩, hpost⟩
  obtain ⟨vf, hs, -, -⟩ := hpost
  have HS : Hid (SR w w3 w.heap.size (.pointer tp) (.slice aw k cw) f vf N) := hs
  have cc := hs.cells.2.2.2.1
  clear hs c3
  go_wp2
  go_ret
  exact ⟨vf, rfl, HS.out.fnd, HS.out.up⟩
/-- How far one goes: no further than is needed. -/
def EnF (W : List Int) (L : List ByteArray) (most k fs : Nat) : Prop := fs ≤ most ∧ (fs = most ∨ k ≤ (nearL W fs L).length)
def EnP (w w' : World) (W : List Int) (L : List ByteArray) (most k : Nat) (v : Value) : Prop := ∃ fs, EnF W L most k fs ∧ ON w' w.heap.size v (nearL W fs L)
theorem nearL_len (W : List Int) (f : Nat) (L : List ByteArray) : (nearL W f L).length ≤ L.length := by
  have := witP_len W f (L.map rs)
  rw [List.length_map] at this
  exact this
set_option maxHeartbeats 2000000 in
set_option maxRecDepth 100000 in
theorem enough_any {w : World} {tp : Option Addr} {vW : Value} {L : List ByteArray} {W : List Int} (hT : Tr w (.pointer tp) L) (hW : Qns.RSl w vW W.length (at_ W)) (hWl : W.length ≤ 64) (most k : Nat) (hm : most ≤ 3) (hk : k ≤ 32) :
    Calls Tryd.prog 33 #[(.pointer tp), vW, .int .i64 (most : Int), .int .i64 (k : Int)] w fun e w' => ∃ v, e = .returned v ∧ EnP w w' W L most k v ∧ Up w.heap.size w w' := by
  have HC : Hid (∀ w1 (f : Nat), f ≤ 3 → Up w.heap.size w w1 → Calls Tryd.prog 50 #[(.pointer tp), vW, .int .i64 (f : Int)] w1 fun e w' => ∃ v, e = .returned v ∧ ON w' w1.heap.size v (nearL W f L) ∧ Up w1.heap.size w1 w') := fun w1 f hf hu => within_any (hT.stay hu) (hW.stay hu.1 : Qns.RSl w1 vW W.length (at_ W)) hWl f hf
  have hLl := hT.len
  clear hT hW
  go_enter Tryd.func33, Tryd.ntmps33
  go_wp2
  go_loopg [9, 13] (most + 1) (fun g lv jv wx => ∃ (j : Nat) (l9 : Value), lv = l9 ∧ j ≤ most + 1 ∧ g = most + 1 - j ∧ jv = .int .i64 j ∧ Hid (Up w.heap.size w wx) ∧ Hid (0 < j → ON wx w.heap.size l9 (nearL W (j - 1) L)))
  case atStart => exact ⟨0, _, rfl, Nat.zero_le _, rfl, rfl, Up.refl w, fun h => absurd h (Nat.lt_irrefl _)⟩
  case round =>
    obtain ⟨j, l9, rfl, hjm, hg, rfl, HU, HO⟩ := hrel
    by_cases hlt : j < most + 1
    · have y1 : (j : Int) < (most : Int) + 1 := by omega
      have cw := HC.out wr j (by omega) HU.out
      go_wp2_with fail
      refine cw.mono ?_
      rintro e w1 ⟨v, rfl, ho, hu⟩
      obtain ⟨N, hN⟩ : ∃ N, (nearL W j L).length = N := ⟨_, rfl⟩
      have hNl := nearL_len W j L
      obtain ⟨av, cv, rfl⟩ : ∃ av cv, v = .slice av N cv := by rw [← hN]; exact own_slice ho
      have HN : Hid ((nearL W j L).length = N) := hN
      have HO1 : Hid (ON w1 w.heap.size (.slice av N cv) (nearL W j L)) := own_mono ho HU.out.2
      have HU1 : Hid (Up w.heap.size w w1) := HU.out.stay hu.1
      have hNL : N ≤ 5000 := by omega
      clear ho hu cw hN HO HU hNl
      by_cases hge : k ≤ N
      · have y2 : (k : Int) ≤ (N : Int) := by omega
        go_wp2
        go_ret
        exact ⟨_, rfl, ⟨j, ⟨by omega, Or.inr (by rw [HN.out]; exact hge)⟩, HO1.out⟩, HU1.out⟩
      · have y2 : ¬ (k : Int) ≤ (N : Int) := by omega
        go_wp2
        go_roundg (most + 1 - (j + 1))
        case measure => omega
        case rel => exact ⟨j + 1, _, rfl, by omega, rfl, by go_num, HU1, fun _ => HO1.out⟩
    · obtain rfl : j = most + 1 := by omega
      have y1 : ¬ ((most + 1 : Nat) : Int) < (most : Int) + 1 := by omega
      have ho := HO.out (by omega)
      have e1 : most + 1 - 1 = most := rfl
      rw [e1] at ho
      have HO1 : Hid (ON wr w.heap.size u9 (nearL W most L)) := ho
      clear ho HO
      go_wp2
      go_ret
      exact ⟨_, rfl, ⟨most, ⟨Nat.le_refl _, Or.inl rfl⟩, HO1.out⟩, HU.out⟩
/-- The signs of a short word. -/
theorem short_long (s : ByteArray) (w : World) (h : 256 < s.size) (h2 : s.size ≤ 2000000) :
    Calls Tryd.prog 32 #[.string s] w fun e w' => e = .returned (.tuple #[.slice none 0 0, .bool false]) ∧ w' = w := by
  have y1 : (256 : Int) < (s.size : Int) := by omega
  go_enter Tryd.func32, Tryd.ntmps32
  go_wp2
  go_ret2
  exact ⟨rfl, rfl⟩
theorem short_any (s : ByteArray) (w : World) (hT : Tabs w) (h : s.size ≤ 256) :
    Calls Tryd.prog 32 #[.string s] w fun e w' => ∃ v, e = .returned (.tuple #[v, .bool (decide ((rs s).length ≤ 64))]) ∧ w'.ownsRow w.heap.size 21 1 v (rs s).length ((rs s).map i32c) ∧ Below w.heap.size w w' := by
  have y1 : ¬ (256 : Int) < (s.size : Int) := by omega
  have c1 := runes_any s w (by omega) hT
  obtain ⟨n, hn⟩ : ∃ n, (rs s).length = n := ⟨_, rfl⟩
  have HN : Hid ((rs s).length = n) := hn
  obtain ⟨bn, hbn⟩ : ∃ bn, decide (n ≤ 64) = bn := ⟨_, rfl⟩
  have z1 : decide ((n : Int) ≤ 64) = bn := by
    rw [← hbn]
    by_cases h : n ≤ 64
    · rw [decide_eq_true h, decide_eq_true (by omega)]
    · rw [decide_eq_false h, decide_eq_false (by omega)]
  have HZ : Hid (decide ((n : Int) ≤ 64) = bn) := z1
  rw [hn, hbn]
  clear hT hn hbn z1
  go_enter Tryd.func32, Tryd.ntmps32
  go_wp2_with fail
  refine c1.mono ?_
  rintro e w1 ⟨k, v, rfl, he, ho, hb⟩
  obtain rfl : k = kS s := (kS_is he).symm
  rw [rcells_rs, ← rs_len] at ho
  have hks := kS_le s
  rw [← rs_len, HN.out] at hks
  rw [HN.out] at ho
  have HO : Hid (w1.ownsRow w.heap.size 21 1 v n ((rs s).map i32c)) := ho
  obtain ⟨av, cv, rfl⟩ := own_slice ho
  have HB : Hid (Below w.heap.size w w1) := hb
  clear ho hb c1
  go_wp2
  go_ret2
  exact ⟨_, congrArg (fun b => Ending.returned (.tuple #[.slice av n cv, .bool b])) HZ.out, HO.out, HB.out⟩
end Go.Proofs.YtfikkkodepfdkaaDoor
namespace Go.Proofs.YtfikkkodepfdkaaDoor
set_option linter.unusedVariables false
open Qns (dd far at_)
/-- Preferred words stand ahead. -/
def rk (Pf : List ByteArray) (s : ByteArray) : Int :=
  haveI : ∀ (s : ByteArray) (L : List ByteArray), Decidable (s ∈ L) := memDec
  if s ∈ Pf then -1 else 0
/-- One suggestion stands ahead of another. -/
def LtN (Pf : List ByteArray) (x y : Nr) : Prop := x.d < y.d ∨ (x.d = y.d ∧ (rk Pf x.s < rk Pf y.s ∨ (rk Pf x.s = rk Pf y.s ∧ lw x.s y.s = true)))
theorem lw_irr (s : ByteArray) : lw s s = false := Sort.swo_ltStr.irrefl _
theorem lw_tr {a b c : ByteArray} (h : lw a b = true) (k : lw b c = true) : lw a c = true := Sort.swo_ltStr.trans _ _ _ h k
theorem lw_ntr {a b c : ByteArray} (h : lw a b = false) (k : lw b c = false) : lw a c = false := Sort.swo_ltStr.ntrans _ _ _ h k
theorem lw_tot {a b : ByteArray} (h : lw a b = false) (k : lw b a = false) : a = b := by
  have h1 : ¬ a.data.toList < b.data.toList := by simpa [lw, Sort.ltStr] using h
  have h2 : ¬ b.data.toList < a.data.toList := by simpa [lw, Sort.ltStr] using k
  have h3 : a.data.toList = b.data.toList := List.le_antisymm (List.not_lt.1 h2) (List.not_lt.1 h1)
  apply ByteArray.ext
  exact Array.ext' h3
theorem ltN_irr (Pf : List ByteArray) (x : Nr) : ¬ LtN Pf x x := by
  rintro (h | ⟨_, h | ⟨_, h⟩⟩)
  · omega
  · omega
  · rw [lw_irr] at h; cases h
theorem ltN_tr {Pf : List ByteArray} {x y z : Nr} (h : LtN Pf x y) (k : LtN Pf y z) : LtN Pf x z := by
  rcases h with h | ⟨h, h2⟩
  · rcases k with k | ⟨k, _⟩
    · exact Or.inl (by omega)
    · exact Or.inl (by omega)
  · rcases k with k | ⟨k, k2⟩
    · exact Or.inl (by omega)
    · refine Or.inr ⟨by omega, ?_⟩
      rcases h2 with h2 | ⟨h2, h3⟩
      · rcases k2 with k2 | ⟨k2, _⟩
        · exact Or.inl (by omega)
        · exact Or.inl (by omega)
      · rcases k2 with k2 | ⟨k2, k3⟩
        · exact Or.inl (by omega)
        · exact Or.inr ⟨by omega, lw_tr h3 k3⟩
theorem ltN_not {Pf : List ByteArray} {x y : Nr} : ¬ LtN Pf x y ↔ (y.d < x.d ∨ (y.d = x.d ∧ (rk Pf y.s < rk Pf x.s ∨ (rk Pf y.s = rk Pf x.s ∧ lw x.s y.s = false)))) := by
  unfold LtN
  constructor
  · intro h
    rcases Nat.lt_trichotomy x.d y.d with e | e | e
    · exact absurd (Or.inl e) h
    · refine Or.inr ⟨e.symm, ?_⟩
      rcases Int.lt_trichotomy (rk Pf x.s) (rk Pf y.s) with f | f | f
      · exact absurd (Or.inr ⟨e, Or.inl f⟩) h
      · refine Or.inr ⟨f.symm, ?_⟩
        cases hl : lw x.s y.s with
        | false => rfl
        | true => exact absurd (Or.inr ⟨e, Or.inr ⟨f, hl⟩⟩) h
      · exact Or.inl f
    · exact Or.inl e
  · rintro (h | ⟨h, h2 | ⟨h2, h3⟩⟩) (k | ⟨k, k2 | ⟨k2, k3⟩⟩)
    all_goals first | omega | (rw [h3] at k3; cases k3)
theorem ltN_ntr {Pf : List ByteArray} {x y z : Nr} (h : ¬ LtN Pf x y) (k : ¬ LtN Pf y z) : ¬ LtN Pf x z := by
  rw [ltN_not] at h k ⊢
  rcases h with h | ⟨h, h2⟩
  · rcases k with k | ⟨k, _⟩
    · exact Or.inl (by omega)
    · exact Or.inl (by omega)
  · rcases k with k | ⟨k, k2⟩
    · exact Or.inl (by omega)
    · refine Or.inr ⟨by omega, ?_⟩
      rcases h2 with h2 | ⟨h2, h3⟩
      · rcases k2 with k2 | ⟨k2, _⟩
        · exact Or.inl (by omega)
        · exact Or.inl (by omega)
      · rcases k2 with k2 | ⟨k2, k3⟩
        · exact Or.inl (by omega)
        · exact Or.inr ⟨by omega, lw_ntr h3 k3⟩
/-- Of two words one stands ahead. -/
theorem ltN_tot {Pf : List ByteArray} {x y : Nr} (hne : x.s ≠ y.s) (h : ¬ LtN Pf y x) : LtN Pf x y := by
  rw [ltN_not] at h
  rcases h with h | ⟨h, h2 | ⟨h2, h3⟩⟩
  · exact Or.inl h
  · exact Or.inr ⟨h, Or.inl h2⟩
  · refine Or.inr ⟨h, Or.inr ⟨h2, ?_⟩⟩
    cases hl : lw x.s y.s with
    | true => rfl
    | false => exact absurd (lw_tot hl h3) hne
/-- The number that the comparison tells. -/
def cN (Pf : List ByteArray) (x y : Nr) : Int :=
  if Lib.compareInt x.d y.d ≠ 0 then Lib.compareInt x.d y.d else if Lib.compareInt (rk Pf x.s) (rk Pf y.s) ≠ 0 then Lib.compareInt (rk Pf x.s) (rk Pf y.s) else Lib.compareBytes x.s.data.toList y.s.data.toList
theorem cb_lt : ∀ (a b : List UInt8), Lib.compareBytes a b < 0 ↔ a < b
  | [], [] => by simp [Lib.compareBytes]
  | [], _ :: _ => by simp [Lib.compareBytes]
  | _ :: _, [] => by simp [Lib.compareBytes]
  | x :: a, y :: b => by
    rw [List.cons_lt_cons_iff]
    unfold Lib.compareBytes
    by_cases h : x < y
    · rw [if_pos h]
      simp [h]
    · rw [if_neg h]
      by_cases k : y < x
      · rw [if_pos k]
        have : x ≠ y := fun e => by subst e; exact absurd k h
        simp [h, this]
      · rw [if_neg k, cb_lt a b]
        have e : x = y := UInt8.le_antisymm (UInt8.not_lt.1 k) (UInt8.not_lt.1 h)
        simp [e]
theorem ci_lt (x y : Int) : Lib.compareInt x y < 0 ↔ x < y := by
  unfold Lib.compareInt
  by_cases h : x < y
  · simp [h]
  · rw [if_neg h]
    split <;> omega
theorem ci_ne (x y : Int) : Lib.compareInt x y ≠ 0 ↔ x ≠ y := by
  unfold Lib.compareInt
  by_cases h : x < y
  · rw [if_pos h]
    simp
    omega
  · rw [if_neg h]
    split
    · simp
      omega
    · simp
      omega
theorem cN_lt (Pf : List ByteArray) (x y : Nr) : cN Pf x y < 0 ↔ LtN Pf x y := by
  unfold cN LtN
  by_cases h : Lib.compareInt x.d y.d ≠ 0
  · rw [if_pos h, ci_lt]
    rw [ci_ne] at h
    constructor
    · intro k
      exact Or.inl (by omega)
    · rintro (k | ⟨k, _⟩)
      · omega
      · omega
  · rw [if_neg h]
    rw [ci_ne] at h
    have hd : x.d = y.d := by omega
    by_cases h2 : Lib.compareInt (rk Pf x.s) (rk Pf y.s) ≠ 0
    · rw [if_pos h2, ci_lt]
      rw [ci_ne] at h2
      constructor
      · intro k
        exact Or.inr ⟨hd, Or.inl k⟩
      · rintro (k | ⟨_, k | ⟨k, _⟩⟩)
        · omega
        · exact k
        · exact absurd k h2
    · rw [if_neg h2, cb_lt]
      rw [ci_ne] at h2
      have hr : rk Pf x.s = rk Pf y.s := by omega
      have hl : lw x.s y.s = true ↔ x.s.data.toList < y.s.data.toList := by simp [lw, Sort.ltStr]
      rw [← hl]
      constructor
      · intro k
        exact Or.inr ⟨hd, Or.inr ⟨hr, k⟩⟩
      · rintro (k | ⟨_, k | ⟨_, k⟩⟩)
        · omega
        · omega
        · exact k
/-- Lists that rise by such an order and have the same members are the same. -/
theorem strict_ext (Pf : List ByteArray) : ∀ (A C : List Nr), A.Pairwise (LtN Pf) → C.Pairwise (LtN Pf) → (∀ x, x ∈ A ↔ x ∈ C) → A = C
  | [], [], _, _, _ => rfl
  | [], c :: C, _, _, h => absurd ((h c).2 (List.mem_cons_self ..)) List.not_mem_nil
  | a :: A, [], _, _, h => absurd ((h a).1 (List.mem_cons_self ..)) List.not_mem_nil
  | a :: A, c :: C, hA, hC, h => by
    rw [List.pairwise_cons] at hA hC
    have e : a = c := by
      rcases List.mem_cons.1 ((h a).1 (List.mem_cons_self ..)) with e | e
      · exact e
      · rcases List.mem_cons.1 ((h c).2 (List.mem_cons_self ..)) with e' | e'
        · exact e'.symm
        · exact absurd (ltN_tr (hA.1 c e') (hC.1 a e)) (ltN_irr Pf a)
    subst e
    rw [strict_ext Pf A C hA.2 hC.2 fun x => ?_]
    constructor
    · intro hx
      rcases List.mem_cons.1 ((h x).1 (List.mem_cons_of_mem _ hx)) with e | e
      · exact absurd (hA.1 x hx) (by rw [e]; exact ltN_irr Pf a)
      · exact e
    · intro hx
      rcases List.mem_cons.1 ((h x).2 (List.mem_cons_of_mem _ hx)) with e | e
      · exact absurd (hC.1 x hx) (by rw [e]; exact ltN_irr Pf a)
      · exact e
/-- Sorted, none twice: it rises. -/
theorem strict_of {Pf : List ByteArray} {ys : List Nr} (h : ys.Pairwise fun x y => ¬ LtN Pf y x) (hn : (ys.map Nr.s).Nodup) : ys.Pairwise (LtN Pf) := by
  unfold List.Nodup at hn
  rw [List.pairwise_map] at hn
  exact (h.and hn).imp fun ⟨h1, h2⟩ => ltN_tot h2 h1
/-- One suggestion stands ahead of another: as a test. -/
def ltB (Pf : List ByteArray) (x y : Nr) : Bool := decide (x.d < y.d) || (decide (x.d = y.d) && (decide (rk Pf x.s < rk Pf y.s) || (decide (rk Pf x.s = rk Pf y.s) && lw x.s y.s)))
theorem ltB_iff {Pf : List ByteArray} {x y : Nr} : ltB Pf x y = true ↔ LtN Pf x y := by
  unfold ltB LtN
  simp
theorem ltB_no {Pf : List ByteArray} {x y : Nr} : ltB Pf x y = false ↔ ¬ LtN Pf x y := by rw [← ltB_iff, Bool.not_eq_true]
/-- Put in its place. -/
def insN (p : Nr → Bool) (out : List Nr) (x : Nr) : List Nr := out.takeWhile p ++ x :: out.dropWhile p
/-- The document's list, word by word. -/
def nearsG (Pf : List ByteArray) (W : List Int) (most : Nat) : List Nr → List ByteArray → List Nr
  | out, [] => out
  | out, s :: L => nearsG Pf W most (if far W (rs s) ≤ most then insN (fun y => ltB Pf y ⟨s, far W (rs s)⟩) out ⟨s, far W (rs s)⟩ else out) L
open Classical in
theorem insN_strict {Pf : List ByteArray} {out : List Nr} {x : Nr} (h : out.Pairwise (LtN Pf)) (hx : ∀ y ∈ out, y.s ≠ x.s) : (insN (fun y => ltB Pf y x) out x).Pairwise (LtN Pf) ∧ ∀ y, y ∈ insN (fun y => ltB Pf y x) out x ↔ y = x ∨ y ∈ out := by
  induction out with
  | nil => simp [insN]
  | cons a out ih =>
    rw [List.pairwise_cons] at h
    obtain ⟨i1, i2⟩ := ih h.2 (fun y hy => hx y (List.mem_cons_of_mem _ hy))
    by_cases e : LtN Pf a x
    · have hi : insN (fun y => ltB Pf y x) (a :: out) x = a :: insN (fun y => ltB Pf y x) out x := by
        unfold insN
        rw [List.takeWhile_cons_of_pos (p := fun y => ltB Pf y x) (ltB_iff.2 e), List.dropWhile_cons_of_pos (p := fun y => ltB Pf y x) (ltB_iff.2 e)]
        rfl
      rw [hi]
      refine ⟨?_, fun y => ?_⟩
      · rw [List.pairwise_cons]
        refine ⟨fun y hy => ?_, i1⟩
        rcases (i2 y).1 hy with rfl | hy
        · exact e
        · exact h.1 y hy
      · rw [List.mem_cons, i2, List.mem_cons]
        constructor
        · rintro (h | h | h)
          · exact Or.inr (Or.inl h)
          · exact Or.inl h
          · exact Or.inr (Or.inr h)
        · rintro (h | h | h)
          · exact Or.inr (Or.inl h)
          · exact Or.inl h
          · exact Or.inr (Or.inr h)
    · have hi : insN (fun y => ltB Pf y x) (a :: out) x = x :: a :: out := by
        unfold insN
        rw [List.takeWhile_cons_of_neg (p := fun y => ltB Pf y x) (fun hh => e (ltB_iff.1 hh)), List.dropWhile_cons_of_neg (p := fun y => ltB Pf y x) (fun hh => e (ltB_iff.1 hh))]
        rfl
      rw [hi]
      have hxa : LtN Pf x a := ltN_tot (fun e' => hx a (List.mem_cons_self ..) e'.symm) e
      refine ⟨?_, fun y => by rw [List.mem_cons]⟩
      rw [List.pairwise_cons]
      refine ⟨fun y hy => ?_, ?_⟩
      · rcases List.mem_cons.1 hy with rfl | hy
        · exact hxa
        · exact ltN_tr hxa (h.1 y hy)
      · rw [List.pairwise_cons]
        exact h
theorem nearsG_is (Pf : List ByteArray) (W : List Int) (most : Nat) : ∀ (L : List ByteArray) (out : List Nr), out.Pairwise (LtN Pf) → L.Nodup → (∀ y ∈ out, y.s ∉ L) →
    (nearsG Pf W most out L).Pairwise (LtN Pf) ∧ ∀ y, y ∈ nearsG Pf W most out L ↔ y ∈ out ∨ ∃ s ∈ L, far W (rs s) ≤ most ∧ y = ⟨s, far W (rs s)⟩
  | [], out, h, _, _ => ⟨h, fun y => by simp [nearsG]⟩
  | s :: L, out, h, hn, ho => by
    rw [List.nodup_cons] at hn
    unfold nearsG
    by_cases hd : far W (rs s) ≤ most
    · rw [if_pos hd]
      obtain ⟨i1, i2⟩ := insN_strict (x := ⟨s, far W (rs s)⟩) h (fun y hy e => ho y hy (by rw [e]; exact List.mem_cons_self ..))
      obtain ⟨g1, g2⟩ := nearsG_is Pf W most L _ i1 hn.2 (fun y hy hm => by
        rcases (i2 y).1 hy with rfl | hy
        · exact hn.1 hm
        · exact ho y hy (List.mem_cons_of_mem _ hm))
      refine ⟨g1, fun y => ?_⟩
      rw [g2, i2]
      constructor
      · rintro ((rfl | h) | ⟨t, h1, h2⟩)
        · exact Or.inr ⟨s, List.mem_cons_self .., hd, rfl⟩
        · exact Or.inl h
        · exact Or.inr ⟨t, List.mem_cons_of_mem _ h1, h2⟩
      · rintro (h | ⟨t, h1, h2, h3⟩)
        · exact Or.inl (Or.inr h)
        · rcases List.mem_cons.1 h1 with rfl | h1
          · exact Or.inl (Or.inl h3)
          · exact Or.inr ⟨t, h1, h2, h3⟩
    · rw [if_neg hd]
      obtain ⟨g1, g2⟩ := nearsG_is Pf W most L out h hn.2 (fun y hy hm => ho y hy (List.mem_cons_of_mem _ hm))
      refine ⟨g1, fun y => ?_⟩
      rw [g2]
      constructor
      · rintro (h | ⟨t, h1, h2⟩)
        · exact Or.inl h
        · exact Or.inr ⟨t, List.mem_cons_of_mem _ h1, h2⟩
      · rintro (h | ⟨t, h1, h2, h3⟩)
        · exact Or.inl h
        · rcases List.mem_cons.1 h1 with rfl | h1
          · exact absurd h2 hd
          · exact Or.inr ⟨t, h1, h2, h3⟩
def nearsP (Pf : List ByteArray) (W : List Int) (most : Nat) (L : List ByteArray) : List Nr := nearsG Pf W most [] L
theorem nearsP_is (Pf : List ByteArray) (W : List Int) (most : Nat) {L : List ByteArray} (hn : L.Nodup) : (nearsP Pf W most L).Pairwise (LtN Pf) ∧ ∀ y, y ∈ nearsP Pf W most L ↔ ∃ s ∈ L, far W (rs s) ≤ most ∧ y = ⟨s, far W (rs s)⟩ := by
  obtain ⟨h1, h2⟩ := nearsG_is Pf W most L [] List.Pairwise.nil hn (fun y hy => by cases hy)
  exact ⟨h1, fun y => by rw [nearsP, h2]; simp⟩
open Classical in
theorem nearsG_len (Pf : List ByteArray) (W : List Int) (most : Nat) : ∀ (L : List ByteArray) (out : List Nr), (nearsG Pf W most out L).length ≤ out.length + L.length
  | [], out => by simp [nearsG]
  | s :: L, out => by
    unfold nearsG
    have h := nearsG_len Pf W most L
    split
    · refine Nat.le_trans (h _) ?_
      have : (insN (fun y => ltB Pf y ⟨s, far W (rs s)⟩) out ⟨s, far W (rs s)⟩).length = out.length + 1 := by
        unfold insN
        have e := congrArg List.length (List.takeWhile_append_dropWhile (p := fun y => ltB Pf y ⟨s, far W (rs s)⟩) (l := out))
        rw [List.length_append] at e
        rw [List.length_append, List.length_cons]
        omega
      rw [this, List.length_cons]
      omega
    · refine Nat.le_trans (h _) ?_
      rw [List.length_cons]
      omega
/-- What rises has its nearest first. -/
theorem cut_near (f : Nat) : ∀ (R : List Nr), R.Pairwise (fun x y => x.d ≤ y.d) → R = R.filter (fun x => decide (x.d ≤ f)) ++ R.filter (fun x => !decide (x.d ≤ f))
  | [], _ => rfl
  | a :: R, h => by
    rw [List.pairwise_cons] at h
    by_cases e : a.d ≤ f
    · rw [List.filter_cons_of_pos (by simpa using e), List.filter_cons_of_neg (by simpa using e), List.cons_append, ← cut_near f R h.2]
    · have hnone : (a :: R).filter (fun x => decide (x.d ≤ f)) = [] := by
        rw [List.filter_eq_nil_iff]
        intro y hy
        rcases List.mem_cons.1 hy with rfl | hy
        · simpa using e
        · have := h.1 y hy
          simp
          omega
      rw [hnone, List.nil_append, List.filter_eq_self.2]
      intro y hy
      rcases List.mem_cons.1 hy with rfl | hy
      · simpa using e
      · have := h.1 y hy
        simp
        omega
/-- The words that a search tells are the list's. -/
theorem wit_mem {L : List ByteArray} (hg : ∀ s ∈ L, GoodX s) (W : List Int) (f : Nat) (y : Nr) : y ∈ witP W f (L.map rs) ↔ ∃ s ∈ L, far W (rs s) ≤ f ∧ y = ⟨s, far W (rs s)⟩ := by
  unfold witP
  rw [List.mem_map]
  constructor
  · rintro ⟨u, hu, rfl⟩
    obtain ⟨h1, h2⟩ := List.mem_filter.1 hu
    obtain ⟨s, hs, rfl⟩ := List.mem_map.1 h1
    refine ⟨s, hs, by simpa using h2, ?_⟩
    unfold nrOf tx
    rw [rs_back (hg s hs).2.2.1]
  · rintro ⟨s, hs, h1, rfl⟩
    refine ⟨rs s, List.mem_filter.2 ⟨List.mem_map_of_mem hs, by simpa using h1⟩, ?_⟩
    unfold nrOf tx
    rw [rs_back (hg s hs).2.2.1]
theorem wit_nodup {L : List ByteArray} (hg : ∀ s ∈ L, GoodX s) (hr : (L.map rs).Pairwise (· < ·)) (W : List Int) (f : Nat) : ((witP W f (L.map rs)).map Nr.s).Nodup := by
  unfold witP List.Nodup
  rw [List.map_map, List.pairwise_map]
  have h1 : ((L.map rs).filter fun u => decide (far W u ≤ f)).Pairwise (· < ·) := hr.sublist List.filter_sublist
  refine List.Pairwise.imp_of_mem ?_ h1
  intro a b ha hb hab e
  obtain ⟨s, hs, rfl⟩ := List.mem_map.1 (List.mem_filter.1 ha).1
  obtain ⟨t, ht, rfl⟩ := List.mem_map.1 (List.mem_filter.1 hb).1
  have e' : tx (rs s) = tx (rs t) := e
  unfold tx at e'
  rw [rs_back (hg s hs).2.2.1, rs_back (hg t ht).2.2.1] at e'
  subst e'
  exact List.lt_irrefl _ hab
theorem nodup_of {L : List ByteArray} (hr : (L.map rs).Pairwise (· < ·)) : L.Nodup := by
  unfold List.Nodup
  rw [List.pairwise_map] at hr
  refine hr.imp ?_
  intro a b h e
  subst e
  exact List.lt_irrefl _ h
/-- The first ones are the same, however far one went, if one went far enough. -/
theorem near_same {L : List ByteArray} (hg : ∀ s ∈ L, GoodX s) (hr : (L.map rs).Pairwise (· < ·)) (Pf : List ByteArray) (W : List Int) (most k fs : Nat) (hf : fs ≤ most ∧ (fs = most ∨ k ≤ (witP W fs (L.map rs)).length)) {ys : List Nr} (hp : ys.Perm (witP W fs (L.map rs))) (hs : ys.Pairwise fun x y => ¬ LtN Pf y x) :
    ys.take k = (nearsP Pf W most L).take k := by
  have hst : ys.Pairwise (LtN Pf) := strict_of hs ((hp.map Nr.s).nodup_iff.2 (wit_nodup hg hr W fs))
  obtain ⟨g1, g2⟩ := nearsP_is Pf W most (nodup_of hr)
  have hsame : ys = (nearsP Pf W most L).filter (fun x => decide (x.d ≤ fs)) := by
    refine strict_ext Pf _ _ hst (g1.sublist List.filter_sublist) (fun x => ?_)
    rw [hp.mem_iff, wit_mem hg, List.mem_filter, g2]
    constructor
    · rintro ⟨s, h1, h2, rfl⟩
      exact ⟨⟨s, h1, by have := hf.1; omega, rfl⟩, by simpa using h2⟩
    · rintro ⟨⟨s, h1, h2, rfl⟩, h3⟩
      exact ⟨s, h1, by simpa using h3, rfl⟩
  have hcut := cut_near fs (nearsP Pf W most L) (g1.imp fun h => by
    rcases h with h | ⟨h, _⟩
    · omega
    · omega)
  rcases hf.2 with e | e
  · subst e
    have : (nearsP Pf W fs L).filter (fun x => decide (x.d ≤ fs)) = nearsP Pf W fs L := by
      rw [List.filter_eq_self]
      intro x hx
      obtain ⟨s, _, h2, rfl⟩ := (g2 x).1 hx
      simpa using h2
    rw [hsame, this]
  · rw [← hp.length_eq] at e
    rw [hcut, ← hsame, List.take_append_of_le_length e]
end Go.Proofs.YtfikkkodepfdkaaDoor
namespace Go.Proofs
open Go.Shelf
def Tryd.sortF_ren : Go.Shelf.Ren := ⟨fun | 6 => 51 | 15 => 66 | 14 => 65 | 28 => 83 | 29 => 84 | 20 => 75 | 21 => 76 | 22 => 77 | 23 => 78 | 24 => 79 | 25 => 80 | 26 => 81 | 27 => 82 | 46 => 88 | 47 => 89 | 48 => 90 | 49 => 91 | 50 => 92 | 57 => 93 | n => n, fun | 22 => 34 | 24 => 47 | 25 => 102 | 3 => 3 | 39 => 105 | 0 => 0 | 53 => 107 | 55 => 135 | 4 => 4 | 46 => 128 | 45 => 127 | 50 => 88 | 5 => 5 | 9 => 9 | 66 => 138 | 70 => 142 | 76 => 144 | 77 => 145 | n => n, fun | n => n⟩
theorem Tryd.sortF : Go.Proofs.SlLaysF0.n6 Tryd.prog Tryd.sortF_ren := {
  mixed := by kernel_rfl
  f6 := ⟨Tryd.f51.name, by decide, Tryd.func51.trans (congrArg some (by kernel_rfl))⟩
  f14 := ⟨Tryd.f65.name, by decide, Tryd.func65.trans (congrArg some (by kernel_rfl))⟩
  f15 := Tryd.func66.trans (congrArg some (by kernel_rfl))
  f20 := ⟨Tryd.f75.name, by decide, Tryd.func75.trans (congrArg some (by kernel_rfl))⟩
  f21 := ⟨Tryd.f76.name, by decide, Tryd.func76.trans (congrArg some (by kernel_rfl))⟩
  f22 := ⟨Tryd.f77.name, by decide, Tryd.func77.trans (congrArg some (by kernel_rfl))⟩
  f23 := ⟨Tryd.f78.name, by decide, Tryd.func78.trans (congrArg some (by kernel_rfl))⟩
  f24 := ⟨Tryd.f79.name, by decide, Tryd.func79.trans (congrArg some (by kernel_rfl))⟩
  f25 := ⟨Tryd.f80.name, by decide, Tryd.func80.trans (congrArg some (by kernel_rfl))⟩
  f26 := ⟨Tryd.f81.name, by decide, Tryd.func81.trans (congrArg some (by kernel_rfl))⟩
  f27 := ⟨Tryd.f82.name, by decide, Tryd.func82.trans (congrArg some (by kernel_rfl))⟩
  f28 := Tryd.func83.trans (congrArg some (by kernel_rfl))
  f29 := Tryd.func84.trans (congrArg some (by kernel_rfl))
  f46 := ⟨Tryd.f88.name, by decide, Tryd.func88.trans (congrArg some (by kernel_rfl))⟩
  f47 := Tryd.func89.trans (congrArg some (by kernel_rfl))
  f48 := Tryd.func90.trans (congrArg some (by kernel_rfl))
  f49 := ⟨Tryd.f91.name, by decide, Tryd.func91.trans (congrArg some (by kernel_rfl))⟩
  f50 := ⟨Tryd.f92.name, by decide, Tryd.func92.trans (congrArg some (by kernel_rfl))⟩
  f57 := ⟨Tryd.f93.name, by decide, Tryd.func93.trans (congrArg some (by kernel_rfl))⟩
  t0 := Tryd.underlying0
  a0 := Tryd.isAgg0
  z0 := Tryd.sizeOf0
  v0 := Tryd.zeroValue0
  t3 := Tryd.underlying3
  a3 := Tryd.isAgg3
  z3 := Tryd.sizeOf3
  v3 := Tryd.zeroValue3
  t4 := Tryd.underlying4
  a4 := Tryd.isAgg4
  z4 := Tryd.sizeOf4
  v4 := Tryd.zeroValue4
  t5 := Tryd.underlying5
  a5 := Tryd.isAgg5
  z5 := Tryd.sizeOf5
  v5 := Tryd.zeroValue5
  t9 := Tryd.underlying9
  a9 := Tryd.isAgg9
  z9 := Tryd.sizeOf9
  v9 := Tryd.zeroValue9
  t22 := Tryd.underlying34
  a22 := Tryd.isAgg34
  z22 := Tryd.sizeOf34
  v22 := Tryd.zeroValue34
  t25 := Tryd.underlying102
  a25 := Tryd.isAgg102
  z25 := Tryd.sizeOf102
  v25 := Tryd.zeroValue102
  t39 := Tryd.underlying105
  a39 := Tryd.isAgg105
  z39 := Tryd.sizeOf105
  v39 := Tryd.zeroValue105
  t45 := Tryd.underlying127
  a45 := Tryd.isAgg127
  z45 := Tryd.sizeOf127
  v45 := Tryd.zeroValue127
  t46 := Tryd.underlying128
  a46 := Tryd.isAgg128
  z46 := Tryd.sizeOf128
  v46 := Tryd.zeroValue128
  t50 := Tryd.underlying88
  a50 := Tryd.isAgg88
  z50 := Tryd.sizeOf88
  v50 := Tryd.zeroValue88
  t53 := Tryd.underlying107
  a53 := Tryd.isAgg107
  z53 := Tryd.sizeOf107
  v53 := Tryd.zeroValue107
  t55 := Tryd.underlying135
  a55 := Tryd.isAgg135
  z55 := Tryd.sizeOf135
  v55 := Tryd.zeroValue135
  t66 := Tryd.underlying138
  a66 := Tryd.isAgg138
  z66 := Tryd.sizeOf138
  v66 := Tryd.zeroValue138
  t70 := Tryd.underlying142
  a70 := Tryd.isAgg142
  z70 := Tryd.sizeOf142
  v70 := Tryd.zeroValue142
  t76 := Tryd.underlying144
  a76 := Tryd.isAgg144
  z76 := Tryd.sizeOf144
  v76 := Tryd.zeroValue144
  t77 := Tryd.underlying145
  a77 := Tryd.isAgg145
  z77 := Tryd.sizeOf145
  v77 := Tryd.zeroValue145 }
end Go.Proofs
namespace Go.Proofs.YtfikkkodepfdkaaDoor
set_option linter.unusedVariables false
open Go.RowKit Go.ChangeShapes Go.Maps Go.Sort Go.Shelf Go.Lib
open Qns (dd far at_)
theorem lawS : Keyed Tryd.prog 9 := string_keyed Tryd.underlying9
theorem str_inj {s t : ByteArray} (h : (Lit.string s.data.toList) = .string t.data.toList) : s = t := by
  injection h with h
  have : s.data = t.data := Array.toList_inj.1 h
  cases s; cases t; simp_all
theorem keyS (s : ByteArray) (hs : s.size ≤ 9223372036854775807) : keyOf Tryd.prog 9 (.string s) = some (.string s.data.toList) := by
  exact WideMaps.keyOf_string_mk Tryd.underlying9 hs
theorem key_ne {s t : ByteArray} (h : s ≠ t) : (Lit.string s.data.toList) ≠ .string t.data.toList := fun e => h (str_inj e)
theorem zeroI (w : World) : (zeroValue 3).run Tryd.prog w = .ok (.int .i64 0) w := by kernel_rfl
set_option maxRecDepth 100000 in
theorem plainI (x : Int) (h : x = 0 ∨ x = -1) : plainElem (H := Unit) Tryd.prog 3 (.int .i64 x) = some (.lit (.int .i64 x), []) := by
  unfold plainElem
  rw [Tryd.underlying3]
  rcases h with rfl | rfl <;> first | rfl | simp
set_option maxRecDepth 100000 in
theorem plainI_inv {v : Value} {x : Int} {ps : List MemPlace} (h : plainElem (H := Unit) Tryd.prog 3 v = some (.lit (.int .i64 x), ps)) : v = .int .i64 x := by
  unfold plainElem at h
  rw [Tryd.underlying3] at h
  cases v <;> simp at h
  obtain ⟨⟨rfl, _⟩, h2⟩ := h
  simp_all
/-- The preferred words' ranks in a map. -/
def BagR (w : World) (b n : Nat) (L : List ByteArray) : Prop := ∃ D : DataW Unit, w.ownsMap Tryd.prog 9 (plainElem Tryd.prog 3) b n D ∧ (∀ s : ByteArray, D.atKey (.string s.data.toList) (.lit (.int .i64 0)) = .lit (.int .i64 (rk L s)))
theorem BagR.lt {w : World} {b n : Nat} {L : List ByteArray} (h : BagR w b n L) : b < w.heap.size := by obtain ⟨D, h, _⟩ := h; exact h.lt
theorem BagR.block {w w' : World} {b n : Nat} {L : List ByteArray} (h : BagR w b n L) (e : w'.heap[b]? = w.heap[b]?) : BagR w' b n L := by
  obtain ⟨D, ⟨es, clock, hb, r⟩, hs⟩ := h
  exact ⟨D, ⟨es, clock, e.trans hb, r⟩, hs⟩
theorem BagR.stay {w w' : World} {b n : Nat} {L : List ByteArray} (h : BagR w b n L) (hb : Below w.heap.size w w') : BagR w' b n L := h.block (hb.block b h.lt)
theorem BagR.made (w : World) : BagR (w.alloc (.map #[] 0)) w.heap.size 0 [] := ⟨.map [], World.ownsMap_made w _ _ _, fun s => by
  rw [Maps.atKey_of_not_has (by simp [Maps.has])]
  simp [rk]⟩
theorem BagR.look {w : World} {b n : Nat} {L : List ByteArray} (h : BagR w b n L) (s : ByteArray) (hs : s.size ≤ 9223372036854775807) : (Instr.lookup 97 (.map (some b)) (.string s) false).run Tryd.prog w = .ok (.int .i64 (rk L s)) w := by
  obtain ⟨D, hown, h1⟩ := h
  obtain ⟨v, ps, hrun, hv⟩ := hown.lookup lawS Tryd.underlying97 (zeroI w) (plainI 0 (Or.inl rfl)) (keyS s hs)
  rw [h1 s] at hv
  rw [hrun, plainI_inv hv]
theorem BagR.put {w : World} {b n : Nat} {L : List ByteArray} (h : BagR w b n L) (s : ByteArray) (hs : s.size ≤ 9223372036854775807) (hn : n < 1000000) :
    ∃ w', (Instr.mapUpdate 97 (.map (some b)) (.string s) (.int .i64 (-1))).run Tryd.prog w = .ok () w' ∧ BagR w' b (n + 1) (L ++ [s]) ∧ w.grownBy w' (some b) := by
  obtain ⟨D, hown, h1⟩ := h
  obtain ⟨w', hrun, r1, r2⟩ := hown.update lawS Tryd.underlying97 (by unfold maxLen; omega) (keyS s hs) (plainI (-1) (Or.inr rfl))
  refine ⟨w', hrun, ⟨_, r1, fun t => ?_⟩, r2⟩
  have hM := hown.isMap
  have hK : WideAt.IsKeyLit (.string s.data.toList) := by first | trivial | exact WideAt.IsKeyLit.string _ | decide
  by_cases e : t = s
  · subst e
    rw [Maps.atKey_put_same hM hK]
    simp [rk]
  · rw [Maps.atKey_put_other (key_ne e), h1 t]
    unfold rk
    by_cases h : t ∈ L
    · rw [if_pos h, if_pos (List.mem_append_left _ h)]
    · rw [if_neg h, if_neg (by simp [h, e])]
/-- The comparison. -/
theorem or_any (a b c : Int) (B : Nat) (w : World) (h0 : w.cell? ⟨B, 0, none⟩ = some (.int .i64 a)) (h1 : w.cell? ⟨B, 1, none⟩ = some (.int .i64 b)) (h2 : w.cell? ⟨B, 2, none⟩ = some (.int .i64 c)) :
    Calls Tryd.prog 53 #[.slice (some ⟨B, 0, none⟩) 3 3] w fun e w' => e = .returned (.int .i64 (if a ≠ 0 then a else if b ≠ 0 then b else c)) ∧ w' = w := by
  obtain ⟨z, hz⟩ : ∃ z, (if a ≠ 0 then a else if b ≠ 0 then b else c) = z := ⟨_, rfl⟩
  rw [hz]
  have HZ : Hid ((if a ≠ 0 then a else if b ≠ 0 then b else c) = z) := hz
  have HC : Hid (w.cell? ⟨B, 0, none⟩ = some (.int .i64 a) ∧ w.cell? ⟨B, 1, none⟩ = some (.int .i64 b) ∧ w.cell? ⟨B, 2, none⟩ = some (.int .i64 c)) := ⟨h0, h1, h2⟩
  clear hz h0 h1 h2
  go_enter Tryd.func53, Tryd.ntmps53
  go_wp2
  go_loopg [8] 3 (fun g jv wx => ∃ j : Nat, j ≤ 3 ∧ g = 3 - j ∧ jv = .int .i64 j ∧ wx = w ∧ Hid ((1 ≤ j → a = 0) ∧ (2 ≤ j → b = 0) ∧ (3 ≤ j → c = 0)))
  case atStart => exact ⟨0, by omega, rfl, rfl, rfl, ⟨fun h => by omega, fun h => by omega, fun h => by omega⟩⟩
  case round =>
    obtain ⟨j, hj, hg, rfl, hw, HJ⟩ := hrel
    subst wr
    have y0 : (0 : Int) ≤ (j : Int) := by omega
    by_cases hlt : j < 3
    · have y1 : (j : Int) < 3 := by omega
      obtain ⟨x, hx, hxz⟩ : ∃ x, w.cell? ⟨B, j, none⟩ = some (.int .i64 x) ∧ ((x ≠ 0 → x = z) ∧ (x = 0 → (1 ≤ j + 1 → a = 0) ∧ (2 ≤ j + 1 → b = 0) ∧ (3 ≤ j + 1 → c = 0))) := by
        obtain ⟨d0, d1, d2⟩ := HC.out
        obtain ⟨j0, j1, j2⟩ := HJ.out
        have hz := HZ.out
        match j, hlt with
        | 0, _ => exact ⟨a, d0, fun h => by rw [if_pos h] at hz; exact hz, fun h => ⟨fun _ => h, fun h2 => by omega, fun h2 => by omega⟩⟩
        | 1, _ =>
          have ha := j0 (by omega)
          exact ⟨b, d1, fun h => by rw [if_neg (by simp [ha]), if_pos h] at hz; exact hz, fun h => ⟨fun _ => ha, fun _ => h, fun h2 => by omega⟩⟩
        | 2, _ =>
          have ha := j0 (by omega)
          have hb := j1 (by omega)
          exact ⟨c, d2, fun h => by rw [if_neg (by simp [ha]), if_neg (by simp [hb])] at hz; exact hz, fun h => ⟨fun _ => ha, fun _ => hb, fun _ => h⟩⟩
      have HX : Hid ((x ≠ 0 → x = z) ∧ (x = 0 → (1 ≤ j + 1 → a = 0) ∧ (2 ≤ j + 1 → b = 0) ∧ (3 ≤ j + 1 → c = 0))) := hxz
      clear hxz
      by_cases hx0 : x = 0
      · have hq := HX.out.2 hx0
        subst hx0
        have HQ : Hid ((1 ≤ j + 1 → a = 0) ∧ (2 ≤ j + 1 → b = 0) ∧ (3 ≤ j + 1 → c = 0)) := hq
        clear hq HX
        go_wp2
        go_roundg (3 - (j + 1))
        case measure => omega
        case rel => exact ⟨j + 1, by omega, rfl, by go_num, rfl, HQ⟩
      · have e := HX.out.1 hx0
        have HE : Hid (x = z) := e
        clear e HX
        go_wp2
        go_ret
        exact ⟨congrArg (fun q => Ending.returned (Value.int .i64 q)) HE.out, rfl⟩
    · obtain rfl : j = 3 := by omega
      have e : z = 0 := by
        obtain ⟨j0, j1, j2⟩ := HJ.out
        have hz := HZ.out
        rw [if_neg (by simp [j0 (by omega)]), if_neg (by simp [j1 (by omega)]), j2 (by omega)] at hz
        exact hz.symm
      have HE : Hid (z = 0) := e
      clear e
      go_wp2
      go_ret
      exact ⟨congrArg (fun q => Ending.returned (Value.int .i64 q)) HE.out.symm, rfl⟩
theorem grow_below {B : Nat} {w0 w : World} {os : Array Obj} (h : Below B w0 w) (hB : B ≤ w.heap.size) : Below B w0 (grow w os) :=
  ⟨h.os, h.tape, h.output, by have := h.size; simp [grow]; omega, fun k hk => by
    rw [← h.block k hk]
    simp only [grow]
    exact Array.getElem?_append_left (by omega)⟩
/-- The world has but grown, and drawn. -/
def Gr (W w' : World) : Prop := ∃ q os', w' = grow (W.drewN q) os'
theorem Gr.refl (W : World) : Gr W W := ⟨0, #[], by rw [grow_empty]; rfl⟩
theorem Gr.alloc {W w : World} (h : Gr W w) (o : Obj) : Gr W (w.alloc o) := by
  obtain ⟨q, os, rfl⟩ := h
  exact ⟨q, os ++ #[o], by rw [alloc_eq_grow, grow_grow]⟩
theorem Gr.drew {W w : World} (h : Gr W w) : Gr W w.drew := by
  obtain ⟨q, os, rfl⟩ := h
  exact ⟨q + 1, os, rfl⟩
theorem Gr.below {W w : World} (h : Gr W w) : Below W.heap.size W w := by
  obtain ⟨q, os, rfl⟩ := h
  refine grow_below ?_ (Nat.le_refl _)
  exact ⟨rfl, rfl, rfl, Nat.le_refl _, fun _ _ => rfl⟩
set_option maxHeartbeats 4000000 in
set_option maxRecDepth 100000 in
theorem clos_any (Pf : List ByteArray) (x y : Nr) (hx : x.s.size ≤ 9223372036854775807) (hy : y.s.size ≤ 9223372036854775807) (R m n : Nat) (W : World) (hR : W.cell? ⟨R, 0, none⟩ = some (.map (some m))) (hM : BagR W m n Pf) :
    Calls Tryd.prog 52 #[.agg #[.string x.s, .int .i64 (x.d : Int)], .agg #[.string y.s, .int .i64 (y.d : Int)], .pointer (some ⟨R, 0, none⟩)] W fun e w' => e = .returned (.int .i64 (cN Pf x y)) ∧ Gr W w' := by
  obtain ⟨xs, xd⟩ := x
  obtain ⟨ys, yd⟩ := y
  dsimp only at hx hy ⊢
  have HM : Hid (BagR W m n Pf) := hM
  have HR : Hid (W.cell? ⟨R, 0, none⟩ = some (.map (some m))) := hR
  obtain ⟨a, ha⟩ : ∃ a, Lib.compareInt (xd : Int) (yd : Int) = a := ⟨_, rfl⟩
  obtain ⟨rx, hrx⟩ : ∃ r, rk Pf xs = r := ⟨_, rfl⟩
  obtain ⟨ry, hry⟩ : ∃ r, rk Pf ys = r := ⟨_, rfl⟩
  obtain ⟨b, hb⟩ : ∃ b, Lib.compareInt rx ry = b := ⟨_, rfl⟩
  obtain ⟨c, hc⟩ : ∃ c, Lib.compareBytes xs.data.toList ys.data.toList = c := ⟨_, rfl⟩
  have hz : cN Pf ⟨xs, xd⟩ ⟨ys, yd⟩ = if a ≠ 0 then a else if b ≠ 0 then b else c := by
    unfold cN
    dsimp only
    rw [ha, hrx, hry, hb, hc]
  rw [hz]
  have c1 := fun w => Tryd.cmp_Compare_int (xd : Int) (yd : Int) w
  have c2 := fun w => Tryd.cmp_Compare_int rx ry w
  have c3 := fun w => Tryd.strings_Compare xs ys w
  rw [ha] at c1
  rw [hb] at c2
  rw [hc] at c3
  have C1 : Hid (∀ w, Calls Tryd.prog 54 #[.int .i64 (xd : Int), .int .i64 (yd : Int)] w fun e w' => e = .returned (.int .i64 a) ∧ w' = w) := c1
  have C2 : Hid (∀ w, Calls Tryd.prog 54 #[.int .i64 rx, .int .i64 ry] w fun e w' => e = .returned (.int .i64 b) ∧ w' = w) := c2
  have C3 : Hid (∀ w, Calls Tryd.prog 55 #[.string xs, .string ys] w fun e w' => e = .returned (.int .i64 c) ∧ w' = w) := c3
  have HLK : Hid (∀ w, Gr W w → w.cell? ⟨R, 0, none⟩ = some (.map (some m)) ∧ (Instr.lookup 97 (.map (some m)) (.string xs) false).run Tryd.prog w = .ok (.int .i64 rx) w ∧ (Instr.lookup 97 (.map (some m)) (.string ys) false).run Tryd.prog w = .ok (.int .i64 ry) w) := fun w hg => by
    have hb := hg.below
    have hM2 := HM.out.stay hb
    refine ⟨cell_stay HR.out hb, ?_, ?_⟩
    · rw [hM2.look xs hx, hrx]
    · rw [hM2.look ys hy, hry]
  obtain ⟨z, hzz⟩ : ∃ z, (if a ≠ 0 then a else if b ≠ 0 then b else c) = z := ⟨_, rfl⟩
  rw [hzz]
  have HZ : Hid ((if a ≠ 0 then a else if b ≠ 0 then b else c) = z) := hzz
  obtain ⟨W1, hW1⟩ : ∃ W1, (W.alloc (.cells #[.string xs, .int .i64 (xd : Int)] 47)).alloc (.cells #[.string ys, .int .i64 (yd : Int)] 47) = W1 := ⟨_, rfl⟩
  have HG1 : Hid (Gr W W1) := by show Gr _ _; rw [← hW1]; exact ((Gr.refl W).alloc _).alloc _
  have HX1 : Hid (W1.cell? ⟨W.heap.size, 0, none⟩ = some (.string xs) ∧ W1.cell? ⟨W.heap.size, 1, none⟩ = some (.int .i64 (xd : Int)) ∧ W1.cell? ⟨W.heap.size + 1, 0, none⟩ = some (.string ys) ∧ W1.cell? ⟨W.heap.size + 1, 1, none⟩ = some (.int .i64 (yd : Int))) := by
    have h1 : W1.heap[W.heap.size]? = some (.cells #[.string xs, .int .i64 (xd : Int)] 47 (0, 0)) := by
      rw [← hW1]
      exact (heap_alloc_old _ _ (by simp)).trans (Array.getElem?_push_size)
    have h2 : W1.heap[W.heap.size + 1]? = some (.cells #[.string ys, .int .i64 (yd : Int)] 47 (0, 0)) := by
      rw [← hW1]
      have := heap_alloc_new (W.alloc (.cells #[.string xs, .int .i64 (xd : Int)] 47)) (.cells #[.string ys, .int .i64 (yd : Int)] 47)
      simpa using this
    refine ⟨?_, ?_, ?_, ?_⟩
    · rw [cell_of_row W1 _ 0 _ _ _ h1]; rfl
    · rw [cell_of_row W1 _ 1 _ _ _ h1]; rfl
    · rw [cell_of_row W1 _ 0 _ _ _ h2]; rfl
    · rw [cell_of_row W1 _ 1 _ _ _ h2]; rfl
  clear hz hzz ha hrx hry hb hc c1 c2 c3 hR hM hx hy
  go_enter Tryd.func52, Tryd.ntmps52
  go_upto_region 1 with fail
  refine wp_region_held_drew (S := fun w' => Gr W w' ∧ Up W1.heap.size W1 w') (by kernel_rfl) ⟨HG1.out.drew, (Up.refl W1).drew⟩ (fun hHeld => ?_)
  (try dsimp only at hHeld)
  obtain ⟨x0, hx0⟩ : ∃ x0, W1.drew = x0 := ⟨_, rfl⟩
  rw [hx0] at hHeld ⊢
  clear hx0
  refine takeH (i := 0) (v := ?_) (d := (some 6)) rfl (by kernel_rfl) (by kernel_rfl) (by kernel_rfl) rfl (fun _ _ _ h => h) (Or.inl ⟨by kernel_rfl, ?_⟩) (by first | assumption | trivial) ?_; rotate_left
  · (intro w hSw; (try dsimp only at hSw); first | (go_simp; done) | (go_simp; with_reducible rfl))
  (try simp only [Act.put, List.setIfInBounds_toArray, List.set_cons_zero, List.set_cons_succ])
  refine takeH (i := 1) (v := ?_) (d := (some 7)) rfl (by kernel_rfl) (by kernel_rfl) (by kernel_rfl) rfl (fun _ _ _ h => h) (Or.inl ⟨by kernel_rfl, ?_⟩) (by first | assumption | trivial) ?_; rotate_left
  · (intro w hSw; (try dsimp only at hSw); have cc := cell_stay HX1.out.2.1 hSw.2.1; first | (go_simp; done) | (go_simp; with_reducible rfl))
  (try simp only [Act.put, List.setIfInBounds_toArray, List.set_cons_zero, List.set_cons_succ])
  refine takeH (i := 2) (v := ?_) (d := (some 8)) rfl (by kernel_rfl) (by kernel_rfl) (by kernel_rfl) rfl (fun _ _ _ h => h) (Or.inl ⟨by kernel_rfl, ?_⟩) (by first | assumption | trivial) ?_; rotate_left
  · (intro w hSw; (try dsimp only at hSw); first | (go_simp; done) | (go_simp; with_reducible rfl))
  (try simp only [Act.put, List.setIfInBounds_toArray, List.set_cons_zero, List.set_cons_succ])
  refine takeH (i := 3) (v := ?_) (d := (some 9)) rfl (by kernel_rfl) (by kernel_rfl) (by kernel_rfl) rfl (fun _ _ _ h => h) (Or.inl ⟨by kernel_rfl, ?_⟩) (by first | assumption | trivial) ?_; rotate_left
  · (intro w hSw; (try dsimp only at hSw); have cc := cell_stay HX1.out.2.2.2 hSw.2.1; first | (go_simp; done) | (go_simp; with_reducible rfl))
  (try simp only [Act.put, List.setIfInBounds_toArray, List.set_cons_zero, List.set_cons_succ])
  refine takeH (i := 5) (v := ?_) (d := (some 11)) rfl (by kernel_rfl) (by kernel_rfl) (by kernel_rfl) rfl (fun _ _ _ h => h) (Or.inl ⟨by kernel_rfl, ?_⟩) (by first | assumption | trivial) ?_; rotate_left
  · (intro w hSw; (try dsimp only at hSw); have cc := (HLK.out w hSw.1).1; first | (go_simp; done) | (go_simp; with_reducible rfl))
  (try simp only [Act.put, List.setIfInBounds_toArray, List.set_cons_zero, List.set_cons_succ])
  refine takeH (i := 6) (v := ?_) (d := (some 12)) rfl (by kernel_rfl) (by kernel_rfl) (by kernel_rfl) rfl (fun _ _ _ h => h) (Or.inl ⟨by kernel_rfl, ?_⟩) (by first | assumption | trivial) ?_; rotate_left
  · (intro w hSw; (try dsimp only at hSw); first | (go_simp; done) | (go_simp; with_reducible rfl))
  (try simp only [Act.put, List.setIfInBounds_toArray, List.set_cons_zero, List.set_cons_succ])
  refine takeH (i := 7) (v := ?_) (d := (some 13)) rfl (by kernel_rfl) (by kernel_rfl) (by kernel_rfl) rfl (fun _ _ _ h => h) (Or.inl ⟨by kernel_rfl, ?_⟩) (by first | assumption | trivial) ?_; rotate_left
  · (intro w hSw; (try dsimp only at hSw); have cc := cell_stay HX1.out.1 hSw.2.1; first | (go_simp; done) | (go_simp; with_reducible rfl))
  (try simp only [Act.put, List.setIfInBounds_toArray, List.set_cons_zero, List.set_cons_succ])
  refine takeH (i := 8) (v := ?_) (d := (some 14)) rfl (by kernel_rfl) (by kernel_rfl) (by kernel_rfl) rfl (fun _ _ _ h => h) (Or.inl ⟨by kernel_rfl, ?_⟩) (by first | assumption | trivial) ?_; rotate_left
  · (intro w hSw; (try dsimp only at hSw); have cc := (HLK.out w hSw.1).2.1; first | (go_simp; done) | (go_simp; with_reducible rfl))
  (try simp only [Act.put, List.setIfInBounds_toArray, List.set_cons_zero, List.set_cons_succ])
  refine takeH (i := 9) (v := ?_) (d := (some 15)) rfl (by kernel_rfl) (by kernel_rfl) (by kernel_rfl) rfl (fun _ _ _ h => h) (Or.inl ⟨by kernel_rfl, ?_⟩) (by first | assumption | trivial) ?_; rotate_left
  · (intro w hSw; (try dsimp only at hSw); have cc := (HLK.out w hSw.1).1; first | (go_simp; done) | (go_simp; with_reducible rfl))
  (try simp only [Act.put, List.setIfInBounds_toArray, List.set_cons_zero, List.set_cons_succ])
  refine takeH (i := 10) (v := ?_) (d := (some 16)) rfl (by kernel_rfl) (by kernel_rfl) (by kernel_rfl) rfl (fun _ _ _ h => h) (Or.inl ⟨by kernel_rfl, ?_⟩) (by first | assumption | trivial) ?_; rotate_left
  · (intro w hSw; (try dsimp only at hSw); first | (go_simp; done) | (go_simp; with_reducible rfl))
  (try simp only [Act.put, List.setIfInBounds_toArray, List.set_cons_zero, List.set_cons_succ])
  refine takeH (i := 11) (v := ?_) (d := (some 17)) rfl (by kernel_rfl) (by kernel_rfl) (by kernel_rfl) rfl (fun _ _ _ h => h) (Or.inl ⟨by kernel_rfl, ?_⟩) (by first | assumption | trivial) ?_; rotate_left
  · (intro w hSw; (try dsimp only at hSw); have cc := cell_stay HX1.out.2.2.1 hSw.2.1; first | (go_simp; done) | (go_simp; with_reducible rfl))
  (try simp only [Act.put, List.setIfInBounds_toArray, List.set_cons_zero, List.set_cons_succ])
  refine takeH (i := 12) (v := ?_) (d := (some 18)) rfl (by kernel_rfl) (by kernel_rfl) (by kernel_rfl) rfl (fun _ _ _ h => h) (Or.inl ⟨by kernel_rfl, ?_⟩) (by first | assumption | trivial) ?_; rotate_left
  · (intro w hSw; (try dsimp only at hSw); have cc := (HLK.out w hSw.1).2.2; first | (go_simp; done) | (go_simp; with_reducible rfl))
  (try simp only [Act.put, List.setIfInBounds_toArray, List.set_cons_zero, List.set_cons_succ])
  refine takeH (i := 14) (v := ?_) (d := (some 20)) rfl (by kernel_rfl) (by kernel_rfl) (by kernel_rfl) rfl (fun _ _ _ h => h) (Or.inl ⟨by kernel_rfl, ?_⟩) (by first | assumption | trivial) ?_; rotate_left
  · (intro w hSw; (try dsimp only at hSw); first | (go_simp; done) | (go_simp; with_reducible rfl))
  (try simp only [Act.put, List.setIfInBounds_toArray, List.set_cons_zero, List.set_cons_succ])
  refine takeH (i := 15) (v := ?_) (d := (some 21)) rfl (by kernel_rfl) (by kernel_rfl) (by kernel_rfl) rfl (fun _ _ _ h => h) (Or.inl ⟨by kernel_rfl, ?_⟩) (by first | assumption | trivial) ?_; rotate_left
  · (intro w hSw; (try dsimp only at hSw); have cc := cell_stay HX1.out.1 hSw.2.1; first | (go_simp; done) | (go_simp; with_reducible rfl))
  (try simp only [Act.put, List.setIfInBounds_toArray, List.set_cons_zero, List.set_cons_succ])
  refine takeH (i := 16) (v := ?_) (d := (some 22)) rfl (by kernel_rfl) (by kernel_rfl) (by kernel_rfl) rfl (fun _ _ _ h => h) (Or.inl ⟨by kernel_rfl, ?_⟩) (by first | assumption | trivial) ?_; rotate_left
  · (intro w hSw; (try dsimp only at hSw); first | (go_simp; done) | (go_simp; with_reducible rfl))
  (try simp only [Act.put, List.setIfInBounds_toArray, List.set_cons_zero, List.set_cons_succ])
  refine takeH (i := 17) (v := ?_) (d := (some 23)) rfl (by kernel_rfl) (by kernel_rfl) (by kernel_rfl) rfl (fun _ _ _ h => h) (Or.inl ⟨by kernel_rfl, ?_⟩) (by first | assumption | trivial) ?_; rotate_left
  · (intro w hSw; (try dsimp only at hSw); have cc := cell_stay HX1.out.2.2.1 hSw.2.1; first | (go_simp; done) | (go_simp; with_reducible rfl))
  (try simp only [Act.put, List.setIfInBounds_toArray, List.set_cons_zero, List.set_cons_succ])
  refine wpAnyH_ready (rs := [4]) (by kernel_rfl) (by simp) (AllReadyH.cons rfl (fun K hK => ?_) AllReadyH.nil)
  go_simp
  refine (C1.out _).mono ?_
  rintro e x1 ⟨rfl, hx1⟩
  subst x1
  go_wp2_with fail
  refine hK.out _ _ hHeld (fun hHeld' => ?_)
  clear hK K hHeld'
  (try simp only [Act.put, List.setIfInBounds_toArray, List.set_cons_zero, List.set_cons_succ])
  refine wpAnyH_ready (rs := [13]) (by kernel_rfl) (by simp) (AllReadyH.cons rfl (fun K hK => ?_) AllReadyH.nil)
  go_simp
  refine (C2.out _).mono ?_
  rintro e x2 ⟨rfl, hx2⟩
  subst x2
  go_wp2_with fail
  refine hK.out _ _ hHeld (fun hHeld' => ?_)
  clear hK K hHeld'
  (try simp only [Act.put, List.setIfInBounds_toArray, List.set_cons_zero, List.set_cons_succ])
  refine wpAnyH_ready (rs := [18]) (by kernel_rfl) (by simp) (AllReadyH.cons rfl (fun K hK => ?_) AllReadyH.nil)
  go_simp
  refine (C3.out _).mono ?_
  rintro e x3 ⟨rfl, hx3⟩
  subst x3
  go_wp2_with fail
  refine hK.out _ _ hHeld (fun hHeld' => ?_)
  clear hK K hHeld'
  (try simp only [Act.put, List.setIfInBounds_toArray, List.set_cons_zero, List.set_cons_succ])
  refine wpAnyH_ready (rs := [19]) (by kernel_rfl) (by simp) (AllReadyH.cons rfl (fun K hK => ?_) AllReadyH.nil)
  rw [if_pos (by kernel_rfl)]
  go_simp
  refine hK.out _ _ (⟨hHeld.1.alloc _, hHeld.2.alloc _⟩) (fun hHeld' => ?_)
  clear hK K hHeld
  have hHeld := hHeld'
  clear hHeld'
  (try dsimp only at hHeld)
  (try simp only [Act.put, List.setIfInBounds_toArray, List.set_cons_zero, List.set_cons_succ])
  have hblk := heap_alloc_new x0 (.cells #[.int .i64 a, .int .i64 b, .int .i64 c] 3)
  have d0 : (x0.alloc (.cells #[.int .i64 a, .int .i64 b, .int .i64 c] 3)).cell? ⟨x0.heap.size, 0, none⟩ = some (.int .i64 a) := by rw [cell_of_row _ _ 0 _ _ _ hblk]; rfl
  have d1 : (x0.alloc (.cells #[.int .i64 a, .int .i64 b, .int .i64 c] 3)).cell? ⟨x0.heap.size, 1, none⟩ = some (.int .i64 b) := by rw [cell_of_row _ _ 1 _ _ _ hblk]; rfl
  have d2 : (x0.alloc (.cells #[.int .i64 a, .int .i64 b, .int .i64 c] 3)).cell? ⟨x0.heap.size, 2, none⟩ = some (.int .i64 c) := by rw [cell_of_row _ _ 2 _ _ _ hblk]; rfl
  have cO := or_any a b c x0.heap.size (x0.alloc (.cells #[.int .i64 a, .int .i64 b, .int .i64 c] 3)) d0 d1 d2
  rw [HZ.out] at cO
  clear d0 d1 d2 hblk
  refine wpAnyH_ready (rs := [20]) (by kernel_rfl) (by simp) (AllReadyH.cons rfl (fun K hK => ?_) AllReadyH.nil)
  go_simp
  refine cO.mono ?_
  rintro e x4 ⟨rfl, hx4⟩
  subst x4
  go_wp2_with fail
  refine hK.out _ _ hHeld (fun hHeld' => ?_)
  clear hK K hHeld'
  (try simp only [Act.put, List.setIfInBounds_toArray, List.set_cons_zero, List.set_cons_succ])
  refine takeH (i := 21) (v := ?_) (d := (some 5)) rfl (by kernel_rfl) (by kernel_rfl) (by kernel_rfl) rfl (fun _ _ _ h => h) (Or.inl ⟨by kernel_rfl, ?_⟩) (by first | assumption | trivial) ?_; rotate_left
  · (intro w hSw; (try dsimp only at hSw); first | (go_simp; done) | (go_simp; with_reducible rfl))
  (try simp only [Act.put, List.setIfInBounds_toArray, List.set_cons_zero, List.set_cons_succ])
  refine wpAnyH_done (by kernel_rfl) ?_ _
  have HG : Hid (Gr W (x0.alloc (.cells #[.int .i64 a, .int .i64 b, .int .i64 c] 3))) := hHeld.1
  clear hHeld cO
  go_wp2
  go_ret
  exact ⟨rfl, HG.out⟩
/-- Suggestions as cells. -/
def nenc (x : Nr) : List Value := [.string x.s, .int .i64 (x.d : Int)]
theorem nr_inh : Nonempty Nr := ⟨⟨⟨#[]⟩, 0⟩⟩
def cPf (Pf : List ByteArray) (x y : Nr) : Int := cN Pf x y
theorem lt_cN (Pf : List ByteArray) (x y : Nr) : Proofs.ltOf (cN Pf) x y = true ↔ LtN Pf x y := by
  show decide (cN Pf x y < 0) = true ↔ _
  rw [decide_eq_true_iff, cN_lt]
theorem ltf_cN (Pf : List ByteArray) (x y : Nr) : Proofs.ltOf (cN Pf) x y = false ↔ ¬ LtN Pf x y := by
  rw [← lt_cN, Bool.not_eq_true]
theorem swo_cN (Pf : List ByteArray) : SWO (Proofs.ltOf (cN Pf)) where
  irrefl x := by rw [ltf_cN]; exact ltN_irr Pf x
  trans x y z h1 h2 := by rw [lt_cN] at *; exact ltN_tr h1 h2
  ntrans x y z h1 h2 := by rw [ltf_cN] at *; exact ltN_ntr h1 h2
end Go.Proofs.YtfikkkodepfdkaaDoor
namespace Go.Proofs.YtfikkkodepfdkaaDoor
set_option linter.unusedVariables false
open Go.RowKit Go.ChangeShapes Go.Maps Go.Sort Go.Shelf Go.Lib
open Qns (dd far at_)
/-- Suggestions whose words are none too long for a machine. -/
structure Ns where
  x : Nr
  h : x.s.size ≤ 9223372036854775807
def nencS (x : Ns) : List Value := nenc x.1
def vals (xs : List Ns) : List Nr := xs.map fun x => x.1
theorem vals_len (xs : List Ns) : (vals xs).length = xs.length := by simp [vals]
theorem nflat_cells (I : Inhabited Ns) : ∀ (xs : List Ns) (j : Nat), j < xs.length * 2 → (nrC (vals xs))[j]? = some ((nencS xs[j / 2]!)[j % 2]!)
  | [], j, h => by simp at h
  | x :: xs, j, h => by
    match j, h with
    | 0, _ => rfl
    | 1, _ => rfl
    | j + 2, h =>
      have h1 : (j + 2) / 2 = j / 2 + 1 := by omega
      have h2 : (j + 2) % 2 = j % 2 := by omega
      have ih := nflat_cells I xs j (by simp at h; omega)
      rw [h1, h2]
      show (nrC (vals xs))[j]? = _
      rw [ih]
      simp
theorem nflat_toList (I : Inhabited Ns) (xs : List Ns) : (flatK nencS 2 xs.toArray).toList = nrC (vals xs) := by
  apply List.ext_getElem?
  intro j
  by_cases h : j < xs.length * 2
  · rw [nflat_cells I xs j h, Array.getElem?_toList]
    have hs : j < (flatK nencS 2 xs.toArray).size := by simp; omega
    rw [Array.getElem?_eq_getElem hs]
    have := get_flatK nencS 2 xs.toArray j (by simpa using h)
    rw [getElem!_pos (flatK nencS 2 xs.toArray) j hs] at this
    rw [this]
    simp
  · rw [List.getElem?_eq_none (by simp; omega), List.getElem?_eq_none (by rw [nrC_len, vals_len]; omega)]
theorem enterO (args : Array Value) (w : World) : (callFunc 52 args).run Tryd.prog w = .ok (.enter 52 args) w := Proofs.enters_of Tryd.func52 (by kernel_rfl) rfl args w
open Go.Sort in
theorem putRowV_size {α : Type} [Inhabited α] (enc : α → Value) (w : World) (q g : Nat) (d : Array α) : (putRow enc (Sort.ahead w q) g 0 d).heap.size = w.heap.size := by
  simp [putRow, mapBlock, Sort.ahead]
/-- Suggestions, sorted. -/
def SortedN (Pf : List ByteArray) (ys : List Nr) : Prop := ys.Pairwise fun x y => ¬ LtN Pf y x
theorem swo_cS (Pf : List ByteArray) : SWO (Proofs.ltOf fun (x y : Ns) => cN Pf x.1 y.1) where
  irrefl x := (ltf_cN Pf x.1 x.1).2 (ltN_irr Pf x.1)
  trans x y z h1 h2 := (lt_cN Pf x.1 z.1).2 (ltN_tr ((lt_cN Pf x.1 y.1).1 h1) ((lt_cN Pf y.1 z.1).1 h2))
  ntrans x y z h1 h2 := (ltf_cN Pf x.1 z.1).2 (ltN_ntr ((ltf_cN Pf x.1 y.1).1 h1) ((ltf_cN Pf y.1 z.1).1 h2))
theorem sortS_any (I : Inhabited Ns) (Pf : List ByteArray) (xs : List Ns) (base : Nat) (v : Value) (w : World) (hn : xs.length ≤ 100000) (h : w.ownsRow base 47 2 v xs.length (nrC (vals xs))) (R m n : Nat) (hR : w.cell? ⟨R, 0, none⟩ = some (.map (some m))) (hM : BagR w m n Pf) (hRv : v.ownBlock ≠ some R) (hmv : v.ownBlock ≠ some m) :
    Calls Tryd.prog 51 #[v, .func (.func 52) #[] #[.pointer (some ⟨R, 0, none⟩)]] w fun e w' => e = .returned (.tuple #[]) ∧ ∃ ys, ys.Perm xs ∧ SortedN Pf (vals ys) ∧ w'.ownsRow base 47 2 v xs.length (nrC (vals ys)) ∧ (∀ B w0, Below B w0 w → B ≤ base → B ≤ w.heap.size → Below B w0 w') := by
  obtain ⟨h1, ⟨rfl, h2⟩ | ⟨g, cap, cur, rfl, hg, hh, hnc, hcm, hcs, htk⟩⟩ := h
  · have hz : xs = [] := List.eq_nil_of_length_eq_zero h2
    subst hz
    refine Calls.mono (show Calls Tryd.prog 51 _ _ _ from AnyF.slices_SortFunc_none Tryd.sortF none 0 _ w) ?_
    rintro e w' ⟨rfl, rfl⟩
    exact ⟨rfl, [], List.Perm.refl _, List.Pairwise.nil, World.ownsRow_nil _ _ _ _, fun B w0 hb _ _ => hb⟩
  · have hgl := lt_of_heap hh
    have hgR : R ≠ g := fun e => hRv (by rw [e]; rfl)
    have hgm : m ≠ g := fun e => hmv (by rw [e]; rfl)
    have hH : HoldsK nencS 2 w g 0 xs.toArray := by
      intro j hj
      have hj' : j < xs.length * 2 := by simpa using hj
      refine ⟨?_, by simp [World.frozen?, hh]⟩
      have e1 : (cur.toList.take (xs.length * 2))[j]? = (nrC (vals xs))[j]? := by rw [htk]
      rw [List.getElem?_take, if_pos hj', Array.getElem?_toList] at e1
      have e2 : (flatK nencS 2 xs.toArray).toList[j]? = (nrC (vals xs))[j]? := by rw [nflat_toList I]
      rw [Array.getElem?_toList, Array.getElem?_eq_getElem hj] at e2
      simp only [World.cell?, hh, Nat.zero_add]
      simp only [Option.isSome_none, Bool.false_eq_true, if_false]
      rw [e1, ← e2, getElem!_pos (flatK nencS 2 xs.toArray) j hj]
      rfl
    have hother : ∀ (q : Nat) (d' : Array Ns) (os : Array Obj) (k : Nat), k < w.heap.size → k ≠ g → (sortWorldK nencS 2 w g 0 q d' os).heap[k]? = w.heap[k]? := fun q d' os k hk hkg => by
      show ((putRow id (Sort.ahead w q) g 0 (flatK nencS 2 d')).heap ++ os)[k]? = _
      rw [Array.getElem?_append_left (by rw [putRowV_size id w q g _]; exact hk)]
      simp [putRow, mapBlock, Sort.ahead, Array.getElem?_modify, hkg.symm]
    have hcon := AnyQ.slices_SortFunc Tryd.sortF 2 Tryd.isAgg47 Tryd.sizeOf47 nencS (fun _ => rfl) (fun x v hv => by simp [nencS, nenc] at hv; rcases hv with rfl | rfl <;> rfl) (fun x y => cN Pf x.1 y.1) (swo_cS Pf) 52 #[.pointer (some ⟨R, 0, none⟩)] g 0 cap xs.toArray w enterO (fun q os dk hs x y => by
      refine Calls.mono (clos_any Pf x.1 y.1 x.2 y.2 R m n (sortWorldK nencS 2 w g 0 q dk os) ?_ (hM.block (hother q dk os m hM.lt hgm))) ?_
      · exact (World.cell?_of_block (hother q dk os R (World.block_lt_of_cell? w _ hR) hgR)).trans hR
      · rintro e w' ⟨rfl, hG⟩
        exact ⟨rfl, hG⟩) hH hgl (by simp; omega)
    change Calls Tryd.prog 51 _ _ _ at hcon
    simp only [List.size_toArray] at hcon
    refine hcon.mono ?_
    rintro e w' ⟨rfl, d', q, os, hp, hs, rfl⟩
    have hds : d'.size = xs.length := by simpa using hp.1
    have hpm : d'.toList.Perm xs := by
      have := hp.2.2
      rw [← hds, Array.extract_size, hds] at this
      simpa using this
    have hps : (putRow id (Sort.ahead w q) g 0 (flatK nencS 2 d')).heap.size = w.heap.size := putRowV_size id w q g _
    have hgrow : ∀ k, k < w.heap.size → (sortWorldK nencS 2 w g 0 q d' os).heap[k]? = (putRow id (Sort.ahead w q) g 0 (flatK nencS 2 d')).heap[k]? := fun k hk => by
      show ((putRow id (Sort.ahead w q) g 0 (flatK nencS 2 d')).heap ++ os)[k]? = _
      exact Array.getElem?_append_left (by rw [hps]; exact hk)
    refine ⟨rfl, d'.toList, hpm, ?_, ?_, ?_⟩
    · unfold SortedN
      rw [List.pairwise_iff_getElem]
      intro i j hi hj hij
      have := hs i j (Nat.zero_le _) hij (by rw [← hds]; simpa [vals] using hj)
      have hi' : i < d'.size := by simpa [vals] using hi
      have hj' : j < d'.size := by simpa [vals] using hj
      rw [getElem!_pos d' i hi', getElem!_pos d' j hj'] at this
      have this := (ltf_cN Pf _ _).1 this
      simpa [vals] using this
    · refine ⟨by rw [nrC_len, vals_len]; simp [hds], .inr ⟨g, cap, putCells id 0 (flatK nencS 2 d') cur, rfl, hg, ?_, hnc, hcm, by simpa [putCells] using hcs, ?_⟩⟩
      · rw [hgrow g hgl]
        simp [putRow, mapBlock, Sort.ahead, Array.getElem?_modify, hh, onCells]
      · apply List.ext_getElem?
        intro j
        rw [List.getElem?_take, Array.getElem?_toList]
        by_cases hj : j < xs.length * 2
        · have hjc : j < cur.size := by omega
          have hjf : j < (flatK nencS 2 d').size := by simp [hds]; omega
          have e2 : (flatK nencS 2 d').toList[j]? = (nrC (vals d'.toList))[j]? := by rw [← nflat_toList I]
          rw [Array.getElem?_toList, Array.getElem?_eq_getElem hjf] at e2
          simp only [if_pos hj, putCells, Array.getElem?_mapIdx, Array.getElem?_eq_getElem hjc, Option.map_some]
          rw [if_pos (by omega), ← e2]
          simp only [id, Nat.sub_zero]
          rw [getElem!_pos (flatK nencS 2 d') j hjf]
        · rw [if_neg hj, List.getElem?_eq_none (by rw [nrC_len, vals_len]; simp [hds]; omega)]
    · intro B w0 hb h1 h2
      exact grow_below (Lib.below_putRow hb (by omega)) (by show B ≤ (putRow id (Sort.ahead w q) g 0 (flatK nencS 2 d')).heap.size; rw [putRowV_size]; exact h2)
theorem sortN_any (Pf : List ByteArray) (xs : List Nr) (hxs : ∀ x ∈ xs, x.s.size ≤ 9223372036854775807) (base : Nat) (v : Value) (w : World) (hn : xs.length ≤ 100000) (h : ON w base v xs) (R m n : Nat) (hR : w.cell? ⟨R, 0, none⟩ = some (.map (some m))) (hM : BagR w m n Pf) (hRv : v.ownBlock ≠ some R) (hmv : v.ownBlock ≠ some m) :
    Calls Tryd.prog 51 #[v, .func (.func 52) #[] #[.pointer (some ⟨R, 0, none⟩)]] w fun e w' => e = .returned (.tuple #[]) ∧ ∃ ys, (ys.Perm xs ∧ SortedN Pf ys) ∧ ON w' base v ys ∧ (∀ B w0, Below B w0 w → B ≤ base → B ≤ w.heap.size → Below B w0 w') := by
  have hv : vals (xs.attach.map fun x => (⟨x.1, hxs x.1 x.2⟩ : Ns)) = xs := by
    unfold vals
    rw [List.map_map]
    exact List.attach_map_subtype_val xs
  have hl : (xs.attach.map fun x => (⟨x.1, hxs x.1 x.2⟩ : Ns)).length = xs.length := by simp
  refine (sortS_any ⟨⟨⟨⟨#[]⟩, 0⟩, by decide⟩⟩ Pf (xs.attach.map fun x => (⟨x.1, hxs x.1 x.2⟩ : Ns)) base v w (by omega) (by rw [hl, hv]; exact h) R m n hR hM hRv hmv).mono ?_
  rintro e w' ⟨rfl, ys, h1, h2, h3, h4⟩
  have hp : (vals ys).Perm xs := by
    rw [← hv]
    exact h1.map _
  refine ⟨rfl, vals ys, ⟨hp, h2⟩, ?_, h4⟩
  show w'.ownsRow _ _ _ _ _ _
  rw [hp.length_eq]
  rw [hl] at h3
  exact h3
end Go.Proofs.YtfikkkodepfdkaaDoor
namespace Go.Proofs.YtfikkkodepfdkaaDoor
set_option linter.unusedVariables false
open Go.RowKit Go.ChangeShapes
open Qns (dd far at_)
/-- What order leaves. -/
def OrP (w w' : World) (b : Nat) (v : Value) (F : List Nr) (Pf : List ByteArray) : Prop := ∃ ys, (ys.Perm F ∧ SortedN Pf ys) ∧ ON w' b v ys ∧ (∀ B w0, Below B w0 w → B ≤ b → Below B w0 w')
theorem went_set1 (w : World) (bs : Nat) {w' : World} (h : w.grownBy w' (some bs)) : Went w w' (· = bs) (· = bs) := ⟨h.os, h.tape, h.output, h.size, fun k hk hn => h.block k hk (fun e => hn (Option.some.inj e)), fun k hk => Or.inl hk⟩
set_option maxHeartbeats 4000000 in
set_option maxRecDepth 100000 in
theorem order_any {w : World} {b : Nat} {v : Value} {F : List Nr} (hF : ON w b v F) (hbw : b ≤ w.heap.size) (hsz : ∀ x ∈ F, x.s.size ≤ 9223372036854775807) (hn : F.length ≤ 5000) {vp : Value} {Pf : List ByteArray} (hP : TL w vp Pf) (hPl : Pf.length ≤ 100) (hPs : ∀ s ∈ Pf, s.size ≤ 2000000) :
    Calls Tryd.prog 34 #[v, vp] w fun e w' => (∃ u, e = .returned u) ∧ OrP w w' b v F Pf := by
  have HF : Hid (ON w b v F) := hF
  obtain ⟨ap, cp, rfl, hc⟩ := hP
  have HC : Hid (∀ (j : Nat) (s : ByteArray), Pf[j]? = some s → ∃ b off, ap = some ⟨b, off, none⟩ ∧ w.cell? ⟨b, off + j, none⟩ = some (.string s)) := hc
  have HPS : Hid (∀ s ∈ Pf, s.size ≤ 2000000) := hPs
  have HSZ : Hid (∀ x ∈ F, x.s.size ≤ 9223372036854775807) := hsz
  obtain ⟨np, hnp⟩ : ∃ np, Pf.length = np := ⟨_, rfl⟩
  have HNP : Hid (Pf.length = np) := hnp
  rw [hnp] at hPl ⊢
  clear hF hc hPs hsz hnp
  have hmm : (Instr.makeMap 97 (some (.int .i64 (np : Int)))).run Tryd.prog w = .ok (.map (some w.heap.size)) (w.alloc (.map #[] 0)) := by
    have h0 : ¬ (np : Int) < 0 := by omega
    first | rfl | (simp [Instr.makeMap]; done) | (simp [Instr.makeMap, h0]; done) | (simp [Instr.makeMap, h0, go_sem]; done) | (unfold Instr.makeMap; simp [h0, go_sem])
  obtain ⟨w2, hw2⟩ : ∃ x, (w.alloc (.map #[] 0)).alloc (.cells #[.map (some w.heap.size)] 97) = x := ⟨_, rfl⟩
  have HU2 : Hid (Up w.heap.size w w2) := by show Up _ _ _; rw [← hw2]; exact ((Up.refl w).alloc _).alloc _
  have HM2 : Hid (BagR w2 w.heap.size 0 []) := by
    show BagR _ _ _ _
    rw [← hw2]
    exact (BagR.made w).stay ((Below.refl _ _).alloc (Nat.le_refl _) _)
  have HR2 : Hid (w2.cell? ⟨w.heap.size + 1, 0, none⟩ = some (.map (some w.heap.size))) := by
    show _ = _
    rw [← hw2]
    have := heap_alloc_new (w.alloc (.map #[] 0)) (.cells #[.map (some w.heap.size)] 97)
    have hs : (w.alloc (.map #[] 0)).heap.size = w.heap.size + 1 := by simp
    rw [hs] at this
    rw [cell_of_row _ _ 0 _ _ _ this]
    rfl
  have HW2E : Hid ((w.alloc (.map #[] 0)).alloc (.cells #[.map (some w.heap.size)] 97) = w2) := hw2
  clear hw2
  go_enter Tryd.func34, Tryd.ntmps34
  go_wp2
  clear hmm
  rw [HW2E.out]
  go_loopg [12] np (fun g jv wx => ∃ j : Nat, j ≤ np ∧ g = np - j ∧ jv = .int .i64 j ∧ Hid (BagR wx w.heap.size j (Pf.take j)) ∧ Hid (Went w2 wx (· = w.heap.size) (· = w.heap.size)))
  case atStart => exact ⟨0, Nat.zero_le _, rfl, rfl, HM2, Went.refl _ _⟩
  case round =>
    obtain ⟨j, hjn, hg, rfl, HMX, HWX⟩ := hrel
    have y0 : (0 : Int) ≤ (j : Int) := by omega
    have hcx : wr.cell? ⟨w.heap.size + 1, 0, none⟩ = some (.map (some w.heap.size)) := (World.cell?_of_block (HWX.out.far _ (World.block_lt_of_cell? w2 _ HR2.out) (by show ¬ w.heap.size + 1 = w.heap.size; omega))).trans HR2.out
    by_cases hlt : j < np
    · have y1 : (j : Int) < (np : Int) := by omega
      obtain ⟨s, hs⟩ : ∃ s, Pf[j]? = some s := ⟨_, List.getElem?_eq_getElem (by rw [HNP.out]; exact hlt)⟩
      obtain ⟨pb, po, rfl, hcs⟩ := HC.out j s hs
      have hcw : wr.cell? ⟨pb, po + j, none⟩ = some (.string s) := by
        have h2 := cell_stay hcs HU2.out.1
        exact (World.cell?_of_block (HWX.out.far _ (World.block_lt_of_cell? w2 _ h2) (by
          have := World.block_lt_of_cell? w _ hcs
          show ¬ pb = w.heap.size
          have h3 : pb < w.heap.size := this
          omega))).trans h2
      obtain ⟨w3, hrun, hbg, hgr⟩ := HMX.out.put s (by have := HPS.out s (List.mem_of_getElem? hs); omega) (by omega)
      have HM3 : Hid (BagR w3 w.heap.size (j + 1) (Pf.take (j + 1))) := by
        show BagR _ _ _ _
        rw [List.take_add_one, hs]
        exact hbg
      have HW3 : Hid (Went w2 w3 (· = w.heap.size) (· = w.heap.size)) := HWX.out.trans (went_set1 wr w.heap.size hgr)
      clear hs hcs hbg hgr HMX HWX
      go_wp2
      go_roundg (np - (j + 1))
      case measure => omega
      case rel => exact ⟨j + 1, by omega, rfl, by go_num, HM3, HW3⟩
    · obtain rfl : j = np := by omega
      have y1 : ¬ (j : Int) < (j : Int) := by omega
      have hM := HMX.out
      rw [List.take_of_length_le (by rw [HNP.out]; exact Nat.le_refl _)] at hM
      have hvb := HF.out.lt
      have hFx : ON wr b v F := own_of_blocks HF.out (fun k hk => by
        have h1 := (hvb k hk).2
        rw [HWX.out.far k (Nat.lt_of_lt_of_le h1 HU2.out.2) (by show ¬ k = w.heap.size; omega)]
        exact HU2.out.1.block k h1)
      have hcS := sortN_any Pf F HSZ.out b v wr (by omega) hFx (w.heap.size + 1) w.heap.size j hcx hM (fun e => by have := (hvb _ e).2; omega) (fun e => by have := (hvb _ e).2; omega)
      have HBL : Hid (∀ B w0, Below B w0 w → B ≤ b → Below B w0 wr ∧ B ≤ wr.heap.size) := fun B w0 h1 h2 => by
        have h3 : Below B w0 w2 := h1.trans (HU2.out.1.mono (by omega))
        have h4 : Below B w2 wr := HWX.out.below (by have := HU2.out.2; omega) (fun k hk => by have : k = w.heap.size := hk; omega)
        exact ⟨h3.trans h4, by have := h3.trans h4; have h5 := HU2.out.2; have h6 := HWX.out.size; omega⟩
      clear hM hvb hFx HMX HWX hcx
      go_wp2_with fail
      refine hcS.mono ?_
      rintro e w5 ⟨rfl, ys, hys, hon, hbl⟩
      have HP5 : Hid (OrP w w5 b v F Pf) := ⟨ys, hys, hon, fun B w0 h1 h2 => by
        obtain ⟨h3, h4⟩ := HBL.out B w0 h1 h2
        exact hbl B w0 h3 h2 h4⟩
      clear hys hon hbl hcS
      go_wp2
      go_end0
      exact ⟨⟨_, rfl⟩, HP5.out⟩
theorem one_nr (F : List Nr) : ∀ u ∈ nrC F, u.oneCell' = true := by
  intro u hu
  unfold nrC at hu
  obtain ⟨x, _, hx⟩ := List.mem_flatMap.1 hu
  simp at hx
  rcases hx with rfl | rfl <;> rfl
set_option maxRecDepth 100000 in
theorem cloneN {w : World} {ad : Option Addr} {m c : Nat} (F : List Nr) (hm : F.length = m) (h : Srcs w (.slice ad m c) m 2 (nrC F)) (hL : m ≤ 5000) :
    Calls Tryd.prog 35 #[.slice ad m c] w fun e w' => ∃ v', e = .returned v' ∧ w'.ownsRow w.heap.size 47 2 v' m (nrC F) ∧ Below w.heap.size w w' := by
  obtain ⟨i0, hi, hz0, hz1, hz2⟩ := info_parts infoNr
  have H : Hid (Srcs w (.slice ad m c) m 2 (nrC F)) := h
  have HMF : Hid (F.length = m) := hm
  have hnil := fun a l c => run_eql_slice_nil (P := Tryd.prog) w 34 47 a l c Tryd.underlying34
  clear hm
  cases ad with
  | none =>
    have hm0 : m = 0 := by
      obtain ⟨_, ⟨_, _, _, h0⟩ | ⟨_, _, _, e, _⟩⟩ := h
      · exact h0
      · cases e
    subst hm0
    have hF0 : F = [] := List.eq_nil_of_length_eq_zero HMF.out
    clear h H
    go_enter Tryd.func35, Tryd.ntmps35
    go_wp2
    go_ret
    exact ⟨_, rfl, by rw [hF0]; exact World.ownsRow_nil _ _ _ _, Below.refl _ _⟩
  | some a =>
    clear h
    go_enter Tryd.func35, Tryd.ntmps35
    go_wp2_with (at_builtin; refine app_src rfl _ _ 34 rfl w.heap.size 47 i0 _ 2 24 Tryd.underlying34 hi hz0 hz1 hz2 rfl (by decide) _ _ [] rfl (World.ownsRow_made w #[] 0 (Nat.le_refl _) (by unfold maxLen; omega) rfl) _ m (nrC F) rfl (H.out.stay ((Below.refl _ _).alloc (Nat.le_refl _) _)) (one_nr F) (by unfold maxLen; omega) (by omega) (by simp) ?_)
    intro v' w' ho hg
    have HB : Hid (Below w.heap.size w w') := by
      refine ⟨hg.os, hg.tape, hg.output, ?_, fun q hq => ?_⟩
      · have := hg.size
        simp at this
        omega
      · rw [hg.block q (by simp; omega) (by simp [Value.ownBlock]; omega)]
        exact (World.grownBy_alloc w _ none).block q hq (by simp)
    have HO : Hid (w'.ownsRow w.heap.size 47 2 v' m (nrC F)) := by
      have h3 : w'.ownsRow w.heap.size 47 2 v' m (nrC F) := by simpa using ho
      exact h3
    clear ho hg H
    go_wp2
    go_ret
    exact ⟨_, rfl, HO, HB⟩
theorem nrC_take (F : List Nr) (k : Nat) : (nrC F).take (k * 2) = nrC (F.take k) := by
  induction F generalizing k with
  | nil => simp [nrC]
  | cons x F ih =>
    cases k with
    | zero => simp [nrC]
    | succ k =>
      rw [List.take_succ_cons]
      show (_ :: _ :: nrC F).take _ = _ :: _ :: nrC (F.take k)
      rw [show (k + 1) * 2 = k * 2 + 1 + 1 by omega, List.take_succ_cons, List.take_succ_cons, ih]
/-- The beginning of a row. -/
theorem srcs_take {w : World} {b : Nat} {ad : Option Addr} {n c z : Nat} {F : List Nr} (h : ON w b (.slice ad n c) F) (hn : F.length = n) (hz : z ≤ n) : Srcs w (.slice ad z c) z 2 (nrC (F.take z)) ∧ (F.take z).length = z ∧ n ≤ c := by
  have hl : (F.take z).length = z := by rw [List.length_take]; omega
  refine ⟨⟨by rw [nrC_len, hl], ?_⟩, hl, ?_⟩
  · have h0 := h
    obtain ⟨h1, ⟨e, h2⟩ | ⟨g, cap, cur, e, hg, hh, h3⟩⟩ := h
    · have : z = 0 := by omega
      subst this
      exact Or.inl ⟨ad, c, rfl, rfl⟩
    · injection e with e1 e2 e3
      subst e1
      refine Or.inr ⟨g, 0, c, rfl, fun j u hu => ?_⟩
      have hc := World.ownsRow.cells h0 rfl j u (by
        rw [← nrC_take, List.getElem?_take] at hu
        split at hu
        · exact hu
        · cases hu)
      rw [addr_plus] at hc
      exact hc
  · obtain ⟨h1, ⟨e, h2⟩ | ⟨g, cap, cur, e, hg, hh, h3, _⟩⟩ := h
    · injection e with e1 e2 e3
      omega
    · injection e with e1 e2 e3
      omega
/-- Numbers that are refused. -/
theorem words_bad (tv : Value) (s : ByteArray) (most k : Int) (vp : Value) (w : World) (h : most < 0 ∨ 3 < most ∨ k < 0 ∨ 32 < k) :
    Calls Tryd.prog 16 #[tv, .string s, .int .i64 most, .int .i64 k, vp] w fun e w' => e = .returned (.tuple #[.slice none 0 0, .int .i64 2]) ∧ w' = w := by
  by_cases h1 : most < 0
  · clear h
    go_enter Tryd.func16, Tryd.ntmps16
    go_wp2
    go_ret2
    exact ⟨rfl, rfl⟩
  by_cases h2 : 3 < most
  · clear h
    go_enter Tryd.func16, Tryd.ntmps16
    go_wp2
    go_ret2
    exact ⟨rfl, rfl⟩
  by_cases h3 : k < 0
  · clear h
    go_enter Tryd.func16, Tryd.ntmps16
    go_wp2
    go_ret2
    exact ⟨rfl, rfl⟩
  have h4 : 32 < k := by omega
  clear h
  go_enter Tryd.func16, Tryd.ntmps16
  go_wp2
  go_ret2
  exact ⟨rfl, rfl⟩
/-- A word that is too long. -/
theorem words_long (tv : Value) (s : ByteArray) (most k : Nat) (vp : Value) (w : World) (hT : Tabs w) (hm : most ≤ 3) (hk : k ≤ 32) (hs : s.size ≤ 2000000) (h : 64 < (rs s).length) :
    Calls Tryd.prog 16 #[tv, .string s, .int .i64 (most : Int), .int .i64 (k : Int), vp] w fun e w' => e = .returned (.tuple #[.slice none 0 0, .int .i64 3]) ∧ Below w.heap.size w w' := by
  have y1 : ¬ (most : Int) < 0 := by omega
  have y2 : ¬ (3 : Int) < (most : Int) := by omega
  have y3 : ¬ (k : Int) < 0 := by omega
  have y4 : ¬ (32 : Int) < (k : Int) := by omega
  by_cases h2 : 256 < s.size
  · have c1 := short_long s w h2 hs
    clear hT h
    go_enter Tryd.func16, Tryd.ntmps16
    go_wp2_with fail
    refine c1.mono ?_
    rintro e w1 ⟨rfl, rfl⟩
    go_wp2
    go_ret2
    exact ⟨rfl, Below.refl _ _⟩
  · have c1 := short_any s w hT (by omega)
    have hd : decide ((rs s).length ≤ 64) = false := decide_eq_false (by omega)
    rw [hd] at c1
    clear hT h hd
    go_enter Tryd.func16, Tryd.ntmps16
    go_wp2_with fail
    refine c1.mono ?_
    rintro e w1 ⟨v, rfl, -, hb⟩
    have HB : Hid (Below w.heap.size w w1) := hb
    clear hb c1
    go_wp2
    go_ret2
    exact ⟨rfl, HB.out⟩
/-- What near.Words tells. -/
def WdP (w w' : World) (v : Value) (N : List Nr) : Prop := ON w' w.heap.size v N ∧ Below w.heap.size w w'
set_option maxHeartbeats 4000000 in
set_option maxRecDepth 100000 in
theorem words_any {tp : Option Addr} {s : ByteArray} {most k : Nat} {vp : Value} {w : World} {L Pf : List ByteArray} (hT : Tabs w) (hV : Tr w (.pointer tp) L) (hP : TL w vp Pf) (hPl : Pf.length ≤ 100) (hPs : ∀ s ∈ Pf, s.size ≤ 2000000) (hm : most ≤ 3) (hk : k ≤ 32) (hs : s.size ≤ 2000000) (h : (rs s).length ≤ 64) :
    Calls Tryd.prog 16 #[(.pointer tp), .string s, .int .i64 (most : Int), .int .i64 (k : Int), vp] w fun e w' => ∃ v, e = .returned (.tuple #[v, .int .i64 0]) ∧ WdP w w' v ((nearsP Pf (rs s) most L).take k) := by
  have y1 : ¬ (most : Int) < 0 := by omega
  have y2 : ¬ (3 : Int) < (most : Int) := by omega
  have y3 : ¬ (k : Int) < 0 := by omega
  have y4 : ¬ (32 : Int) < (k : Int) := by omega
  have hs2 : s.size ≤ 256 := by
    have h1 := kS_ends s
    have h2 : s.size ≤ 4 * kS s := by
      have key : ∀ k, (∀ j, j < k → pos s j < s.size) → pos s k ≤ 4 * k := fun k => by
        induction k with
        | zero => intro _; exact Nat.le_refl _
        | succ k ih =>
          intro hj
          have h3 := ih (fun j hj' => hj j (by omega))
          have h4 := (wd_pos s (pos s k) (hj k (by omega))).2.2
          show pos s k + wd s (pos s k) ≤ _
          omega
      rw [← h1.1]
      exact key _ h1.2
    rw [← rs_len] at h2
    omega
  have c1 := short_any s w hT hs2
  have hd : decide ((rs s).length ≤ 64) = true := decide_eq_true h
  rw [hd] at c1
  have HV : Hid (Tr w (.pointer tp) L) := hV
  have HP : Hid (TL w vp Pf) := hP
  have HPS : Hid (∀ s ∈ Pf, s.size ≤ 2000000) := hPs
  obtain ⟨W, hW⟩ : ∃ W, rs s = W := ⟨_, rfl⟩
  rw [hW] at c1 h ⊢
  obtain ⟨X, hX⟩ : ∃ X, (nearsP Pf W most L).take k = X := ⟨_, rfl⟩
  rw [hX]
  have HX : Hid ((nearsP Pf W most L).take k = X) := hX
  clear hT hV hP hPs hd hW hX
  go_enter Tryd.func16, Tryd.ntmps16
  go_wp2_with fail
  refine c1.mono ?_
  rintro e w1 ⟨vW, rfl, hoW, hb1⟩
  have HU1 : Hid (Up w.heap.size w w1) := (Up.refl w).stay hb1
  have hR : Qns.RSl w1 vW W.length (at_ W) := by
    have h0 := hoW
    obtain ⟨hl, ⟨e, h1⟩ | ⟨g, cap, cur, e, hg, hh, h3⟩⟩ := hoW
    · exact Or.inl ⟨none, 0, e, h1⟩
    · subst e
      refine Or.inr ⟨g, 0, cap, rfl, fun q hq => ?_⟩
      rw [Nat.zero_add, h0.cellAt q (by omega), List.getElem?_map]
      unfold at_
      rw [List.getD_eq_getElem?_getD, List.getElem?_eq_getElem hq]
      rfl
  have c2 := enough_any (HV.out.stay HU1.out) hR h most k hm hk
  clear hoW hb1 hR c1
  go_wp2_with fail
  refine c2.mono ?_
  rintro e w2 ⟨v2, rfl, hen, hU2⟩
  obtain ⟨fs, hfs, hon⟩ := hen
  have HFS : Hid (EnF W L most k fs) := hfs
  have HU2 : Hid (Up w.heap.size w w2) := HU1.out.stay hU2.1
  have HON : Hid (ON w2 w1.heap.size v2 (nearL W fs L)) := hon
  obtain ⟨N, hN⟩ : ∃ N, nearL W fs L = N := ⟨_, rfl⟩
  have hNl := nearL_len W fs L
  have hLl := HV.out.len
  obtain ⟨P, B, -, hNP, -, -⟩ := HV.out.ex
  have HGD : Hid (∀ s ∈ L, GoodX s) := hNP.good
  have hsz : ∀ x ∈ N, x.s.size ≤ 9223372036854775807 := fun x hx => by
    rw [← hN] at hx
    obtain ⟨t, ht, _, rfl⟩ := (wit_mem HGD.out W fs x).1 hx
    have := (HGD.out t ht).2.1
    show t.size ≤ _
    omega
  rw [hN] at hNl hon
  have c3 := order_any hon (by exact hU2.2) hsz (by omega) (HP.out.stay HU2.out.1) hPl HPS.out
  have hU12 := hU2.2
  have HU12 : Hid (w1.heap.size ≤ w2.heap.size) := hU12
  have HNN : Hid (nearL W fs L = N) := hN
  clear hfs hon hU2 hN hsz hNP c2 HON
  go_wp2_with fail
  refine c3.mono ?_
  rintro e w3 ⟨⟨u, rfl⟩, ys, ⟨hp, hso⟩, hon, hbl⟩
  have HB3 : Hid (Below w.heap.size w w3) := hbl _ _ HU2.out.1 HU1.out.2
  have hyl : ys.length ≤ 5000 := by rw [hp.length_eq]; omega
  have HSM : Hid (ys.take k = X) := by
    show _ = _
    rw [← HX.out]
    rw [← HNN.out] at hp
    exact near_same HGD.out HV.out.rise Pf W most k fs HFS.out hp hso
  obtain ⟨n, hn⟩ : ∃ n, ys.length = n := ⟨_, rfl⟩
  obtain ⟨av, cv, rfl⟩ : ∃ av cv, v2 = .slice av n cv := by rw [← hn]; exact own_slice hon
  obtain ⟨z, hz⟩ : ∃ z, min k n = z := ⟨_, rfl⟩
  have hzn : z ≤ n := by omega
  have z1 : min (k : Int) (n : Int) = (z : Int) := by omega
  obtain ⟨hsr, htl, hnc⟩ := srcs_take hon hn hzn
  have c4 := cloneN (ys.take z) htl hsr (by omega)
  have HTK : Hid (ys.take z = X) := by
    show _ = _
    rw [← HSM.out, ← hz]
    by_cases hkn : k ≤ n
    · rw [Nat.min_eq_left hkn]
    · rw [Nat.min_eq_right (by omega), List.take_of_length_le (by omega), List.take_of_length_le (by omega)]
  have HTL : Hid ((ys.take z).length = z) := htl
  have z2 : (z : Int) ≤ (cv : Int) := by omega
  have z3 : (0 : Int) ≤ (z : Int) := by omega
  rw [hn] at hyl
  have HU13 : Hid (Below w.heap.size w w3 ∧ w.heap.size ≤ w3.heap.size) := ⟨HB3.out, HB3.out.size⟩
  clear hp hso hon hbl hn hz hsr htl c3
  go_wp2_with fail
  refine c4.mono ?_
  rintro e w4 ⟨v4, rfl, ho4, hb4⟩
  have HW4 : Hid (WdP w w4 v4 X) := by
    refine ⟨?_, HU13.out.1.trans (hb4.mono HU13.out.2)⟩
    show w4.ownsRow _ _ _ _ _ _
    rw [← HTK.out, HTL.out]
    exact own_mono ho4 HU13.out.2
  clear ho4 hb4 c4
  go_wp2
  go_ret2
  exact ⟨v4, rfl, HW4.out⟩
end Go.Proofs.YtfikkkodepfdkaaDoor
namespace Go.Proofs.YtfikkkodepfdkaaDoor
set_option linter.unusedVariables false
open Go.RowKit Go.ChangeShapes
set_option maxHeartbeats 1000000 in
set_option maxRecDepth 100000 in
theorem kids_gen {w : World} {tp : Option Addr} {base : Nat} {i : Nat} {n : Nd} (h0 : w.ownsRow base 21 1 n.r n.p.R.length (n.p.R.map i32c)) (h1 : w.ownsRow base 3 1 n.k n.p.K.length (n.p.K.map i64c)) (c1 : Calls Tryd.prog 29 #[.pointer tp, .int .i64 (i : Int)] w fun e w' => e = .returned (.agg #[n.r, n.k, .bool n.p.e]) ∧ Below w.heap.size w w') (hR : n.p.R.length ≤ 1000000) (hKl : n.p.K.length ≤ 1000000) :
    Calls Tryd.prog 21 #[.pointer tp, .int .i64 (i : Int)] w fun e w' => ∃ vr vk, e = .returned (.tuple #[vr, vk]) ∧ w'.ownsRow w.heap.size 21 1 vr n.p.R.length (n.p.R.map i32c) ∧ w'.ownsRow w.heap.size 3 1 vk n.p.K.length (n.p.K.map i64c) ∧ Below w.heap.size w w' := by
  obtain ⟨nr, nk, p⟩ := n
  dsimp only at hR hKl h0 h1 c1 ⊢
  obtain ⟨ar, cr, er⟩ := own_slice h0
  obtain ⟨ak, ck, ek⟩ := own_slice h1
  subst er ek
  have H0 : Hid (w.ownsRow base 21 1 (.slice ar p.R.length cr) p.R.length (p.R.map i32c)) := h0
  have H1 : Hid (w.ownsRow base 3 1 (.slice ak p.K.length ck) p.K.length (p.K.map i64c)) := h1
  clear h0 h1
  go_enter Tryd.func21, Tryd.ntmps21
  go_wp2_with fail
  refine c1.mono ?_
  rintro e w1 ⟨rfl, hb1⟩
  have HB1 : Hid (Below w.heap.size w w1) := hb1
  clear hb1 c1
  go_upto_region 2 with fail
  have hU1 : Up w.heap.size w (w1.alloc (.cells #[.slice ar p.R.length cr, .slice ak p.K.length ck, .bool p.e] 70)) := ((Up.refl w).stay HB1.out).alloc _
  have hblk := heap_alloc_new w1 (.cells #[.slice ar p.R.length cr, .slice ak p.K.length ck, .bool p.e] 70)
  generalize w1.heap.size = B at *
  generalize w1.alloc (.cells #[.slice ar p.R.length cr, .slice ak p.K.length ck, .bool p.e] 70) = w2 at *
  have b0 : w2.cell? ⟨B, 0, none⟩ = some (.slice ar p.R.length cr) := by rw [cell_of_row w2 B 0 _ _ _ hblk]; rfl
  have b1 : w2.cell? ⟨B, 1, none⟩ = some (.slice ak p.K.length ck) := by rw [cell_of_row w2 B 1 _ _ _ hblk]; rfl
  have HU1 : Hid (Up w.heap.size w w2) := hU1
  have HRR : Hid (w2.ownsRow base 21 1 (.slice ar p.R.length cr) p.R.length (p.R.map i32c)) := own_stay H0.out hU1.1
  have HKK : Hid (w2.ownsRow base 3 1 (.slice ak p.K.length ck) p.K.length (p.K.map i64c)) := own_stay H1.out hU1.1
  clear hU1 hblk HB1
  refine wp_region_held_drew (S := fun w' => Up w2.heap.size w2 w') (by kernel_rfl) (Up.refl w2).drew (fun hHeld => ?_)
  (try dsimp only at hHeld)
  obtain ⟨x0, hx0⟩ : ∃ x0, w2.drew = x0 := ⟨_, rfl⟩
  rw [hx0] at hHeld ⊢
  clear hx0
  refine takeH (i := 0) (v := ?_) (d := (some 10)) rfl (by kernel_rfl) (by kernel_rfl) (by kernel_rfl) rfl (fun _ _ _ h => h) (Or.inl ⟨by kernel_rfl, ?_⟩) (by assumption) ?_; rotate_left
  · (intro w hSw; (try dsimp only at hSw); first | (go_simp; done) | (go_simp; with_reducible rfl))
  (try simp only [Act.put, List.setIfInBounds_toArray, List.set_cons_zero, List.set_cons_succ])
  refine takeH (i := 1) (v := ?_) (d := (some 11)) rfl (by kernel_rfl) (by kernel_rfl) (by kernel_rfl) rfl (fun _ _ _ h => h) (Or.inl ⟨by kernel_rfl, ?_⟩) (by assumption) ?_; rotate_left
  · (intro w hSw; (try dsimp only at hSw); have b0 := cell_stay b0 hSw.1; first | (go_simp; done) | (go_simp; with_reducible rfl))
  (try simp only [Act.put, List.setIfInBounds_toArray, List.set_cons_zero, List.set_cons_succ])
  refine takeH (i := 3) (v := ?_) (d := (some 13)) rfl (by kernel_rfl) (by kernel_rfl) (by kernel_rfl) rfl (fun _ _ _ h => h) (Or.inl ⟨by kernel_rfl, ?_⟩) (by assumption) ?_; rotate_left
  · (intro w hSw; (try dsimp only at hSw); first | (go_simp; done) | (go_simp; with_reducible rfl))
  (try simp only [Act.put, List.setIfInBounds_toArray, List.set_cons_zero, List.set_cons_succ])
  refine takeH (i := 4) (v := ?_) (d := (some 14)) rfl (by kernel_rfl) (by kernel_rfl) (by kernel_rfl) rfl (fun _ _ _ h => h) (Or.inl ⟨by kernel_rfl, ?_⟩) (by assumption) ?_; rotate_left
  · (intro w hSw; (try dsimp only at hSw); have b1 := cell_stay b1 hSw.1; first | (go_simp; done) | (go_simp; with_reducible rfl))
  (try simp only [Act.put, List.setIfInBounds_toArray, List.set_cons_zero, List.set_cons_succ])
  refine wpAnyH_ready (rs := [2]) (by kernel_rfl) (by simp) (AllReadyH.cons rfl (fun K hK => ?_) AllReadyH.nil)
  go_simp
  refine (cloneR p.R (own_stay HRR.out hHeld.1) hR).mono ?_
  have XS0 : Hid (w2.heap.size ≤ x0.heap.size) := hHeld.2
  rintro e x1 ⟨vr, rfl, hor, hb⟩
  go_wp2_with fail
  refine hK.out _ _ (hHeld.stay hb : Up w2.heap.size w2 x1) (fun hHeld' => ?_)
  have Hhor : Hid (x1.ownsRow x0.heap.size 21 1 vr p.R.length (p.R.map i32c)) := hor
  have HBxx1 : Hid (Below x0.heap.size x0 x1) := hb
  clear hK K hHeld hb hor
  have hHeld := hHeld'
  clear hHeld'
  (try dsimp only at hHeld)
  (try simp only [Act.put, List.setIfInBounds_toArray, List.set_cons_zero, List.set_cons_succ])
  refine wpAnyH_ready (rs := [5]) (by kernel_rfl) (by simp) (AllReadyH.cons rfl (fun K hK => ?_) AllReadyH.nil)
  go_simp
  refine (cloneK p.K (own_stay HKK.out hHeld.1) hKl).mono ?_
  have XS1 : Hid (w2.heap.size ≤ x1.heap.size) := hHeld.2
  rintro e x2 ⟨vk, rfl, hok, hb⟩
  go_wp2_with fail
  refine hK.out _ _ (hHeld.stay hb : Up w2.heap.size w2 x2) (fun hHeld' => ?_)
  have Hhok : Hid (x2.ownsRow x1.heap.size 3 1 vk p.K.length (p.K.map i64c)) := hok
  have HBxx2 : Hid (Below x1.heap.size x1 x2) := hb
  clear hK K hHeld hb hok
  have hHeld := hHeld'
  clear hHeld'
  (try dsimp only at hHeld)
  (try simp only [Act.put, List.setIfInBounds_toArray, List.set_cons_zero, List.set_cons_succ])
  refine takeH (i := 6) (v := ?_) (d := (some 4)) rfl (by kernel_rfl) (by kernel_rfl) (by kernel_rfl) rfl (fun _ _ _ h => h) (Or.inl ⟨by kernel_rfl, ?_⟩) (by assumption) ?_; rotate_left
  · (intro w hSw; (try dsimp only at hSw); first | (go_simp; done) | (go_simp; with_reducible rfl))
  (try simp only [Act.put, List.setIfInBounds_toArray, List.set_cons_zero, List.set_cons_succ])
  refine takeH (i := 7) (v := ?_) (d := (some 5)) rfl (by kernel_rfl) (by kernel_rfl) (by kernel_rfl) rfl (fun _ _ _ h => h) (Or.inl ⟨by kernel_rfl, ?_⟩) (by assumption) ?_; rotate_left
  · (intro w hSw; (try dsimp only at hSw); first | (go_simp; done) | (go_simp; with_reducible rfl))
  (try simp only [Act.put, List.setIfInBounds_toArray, List.set_cons_zero, List.set_cons_succ])
  refine wpAnyH_done (by kernel_rfl) ?_ _
  have HU9 : Hid (Up w2.heap.size w2 x2) := hHeld
  clear hHeld
  go_wp2
  go_ret2
  have q1 := HU1.out.2
  refine ⟨vr, vk, rfl, ?_, ?_, HU1.out.1.trans (HU9.out.1.mono HU1.out.2)⟩
  · exact own_mono (own_stay Hhor.out HBxx2.out) (Nat.le_trans HU1.out.2 XS0.out)
  · exact own_mono Hhok.out (Nat.le_trans HU1.out.2 XS1.out)
theorem node_nil (i : Nat) (w : World) : Calls Tryd.prog 29 #[.pointer none, .int .i64 (i : Int)] w fun e w' => e = .returned (.agg #[.slice none 0 0, .slice none 0 0, .bool false]) ∧ Below w.heap.size w w' := by
  go_enter Tryd.func29, Tryd.ntmps29
  go_wp2
  refine bodyPost_ret (v := .agg #[.slice none 0 0, .slice none 0 0, .bool false]) (by simp [results, Tryd.results29, go_sem]) rfl ?_
  exact ⟨rfl, (Below.refl _ _).alloc (Nat.le_refl _) _⟩
theorem kids_nil (i : Nat) (w : World) : Calls Tryd.prog 21 #[.pointer none, .int .i64 (i : Int)] w fun e w' => ∃ vr vk, e = .returned (.tuple #[vr, vk]) ∧ w'.ownsRow w.heap.size 21 1 vr 0 [] ∧ w'.ownsRow w.heap.size 3 1 vk 0 [] ∧ Below w.heap.size w w' :=
  kids_gen (base := 0) (n := ⟨.slice none 0 0, .slice none 0 0, pn0⟩) (World.ownsRow_nil _ _ _ _) (World.ownsRow_nil _ _ _ _) (node_nil i w) (by decide) (by decide)
set_option maxRecDepth 100000 in
theorem ends_nil (i : Nat) (w : World) : Calls Tryd.prog 72 #[.pointer none, .int .i64 (i : Int)] w fun e w' => e = .returned (.bool false) ∧ Below w.heap.size w w' := by
  have c1 := node_nil i w
  have hf : ∀ w : World, (Instr.field 70 (.agg #[.slice none 0 0, .slice none 0 0, .bool false]) 2).run Tryd.prog w = .ok (.bool false) w := fun w => by
    first | rfl | kernel_rfl | (simp [Instr.field, run_underlying Tryd.underlying70, part, go_sem]; done) | (simp [Instr.field, run_underlying Tryd.underlying70])
  go_enter Tryd.func72, Tryd.ntmps72
  go_wp2_with fail
  refine c1.mono ?_
  rintro e w1 ⟨rfl, hb⟩
  have HB : Hid (Below w.heap.size w w1) := hb
  clear c1 hb
  go_wp2
  go_ret
  exact ⟨rfl, HB.out⟩
end Go.Proofs.YtfikkkodepfdkaaDoor
namespace Go.Proofs.YtfikkkodepfdkaaDoor
set_option linter.unusedVariables false
open Go.RowKit Go.ChangeShapes
open Qns (dd far at_)
theorem tr_made {w : World} {base T m : Nat} {vN : Value} {l : List Nd} {L : List ByteArray} (h : TrieM w base T m vN l) (hl : l.map Nd.p = (makeP L).2) (hok : OkP (makeP L).2) (h3 : (makeP L).2.length ≤ 300000) (hz : (makeP L).1 = 0) (hLl : L.length ≤ 5000) : Tr w (.pointer (some ⟨T, 0, none⟩)) L := by
  obtain ⟨hg, hr⟩ := makeP_good hz
  obtain ⟨B, hB⟩ := NP.of hz hg
  refine ⟨⟨(makeP L).2, B, ?_, hB, hok, h3⟩, hr, hLl⟩
  rw [← hl]
  refine TrV.of h (by rw [hl]; exact hok) ?_
  have : (l.map Nd.p).length ≤ 300000 := by rw [hl]; exact h3
  rwa [List.length_map] at this
theorem tr_nil (w : World) : Tr w (.pointer none) [] := by
  have hz : (makeP []).1 = 0 := rfl
  obtain ⟨B, hB⟩ := NP.of (L := []) hz (fun s hs => by cases hs)
  refine ⟨⟨[pn0], B, ?_, hB, OkP0, by simp⟩, List.Pairwise.nil, by simp⟩
  intro w' _ i n hn
  have hi : i = 0 ∧ n = pn0 := by
    cases i with
    | zero => simp at hn; exact ⟨rfl, hn.symm⟩
    | succ i => simp at hn
  obtain ⟨rfl, rfl⟩ := hi
  exact ⟨ends_nil 0 w', kids_nil 0 w'⟩
def wCat : ByteArray := ⟨#[99, 97, 116]⟩
def wCot : ByteArray := ⟨#[99, 111, 116]⟩
def wDog : ByteArray := ⟨#[100, 111, 103]⟩
def wCut : ByteArray := ⟨#[99, 117, 116]⟩
theorem ends_wCat : Ends wCat 3 := by refine ⟨by kernel_rfl, ?_⟩; decide
theorem ends_wCot : Ends wCot 3 := by refine ⟨by kernel_rfl, ?_⟩; decide
theorem ends_wDog : Ends wDog 3 := by refine ⟨by kernel_rfl, ?_⟩; decide
theorem ends_wCut : Ends wCut 3 := by refine ⟨by kernel_rfl, ?_⟩; decide
theorem rs_wCat : rs wCat = [99, 97, 116] := by unfold rs; rw [kS_is ends_wCat]; kernel_rfl
theorem rs_wCot : rs wCot = [99, 111, 116] := by unfold rs; rw [kS_is ends_wCot]; kernel_rfl
theorem rs_wDog : rs wDog = [100, 111, 103] := by unfold rs; rw [kS_is ends_wDog]; kernel_rfl
theorem rs_wCut : rs wCut = [99, 117, 116] := by unfold rs; rw [kS_is ends_wCut]; kernel_rfl
theorem make_exN : (makeP [wCat, wCot, wDog]).1 = 0 := by
  have c1 : chkP 0 wCat ⟨#[]⟩ [99, 97, 116] = 0 := by kernel_rfl
  have c2 : chkP 1 wCot wCat [99, 111, 116] = 0 := by kernel_rfl
  have c3 : chkP 2 wDog wCot [100, 111, 103] = 0 := by kernel_rfl
  unfold makeP
  simp only [makeG, rs_wCat, rs_wCot, rs_wDog, Nat.zero_add, c1, c2, c3, if_true, Nat.reduceAdd]
theorem far_c1 : far [99, 117, 116] [99, 97, 116] = 1 := by kernel_rfl
theorem far_c2 : far [99, 117, 116] [99, 111, 116] = 1 := by kernel_rfl
theorem far_c3 : far [99, 117, 116] [100, 111, 103] = 3 := by kernel_rfl
theorem nodup_ex : [wCat, wCot, wDog].Nodup := by
  have := (makeP_good make_exN).2
  exact nodup_of this
theorem mem_ex (Pf : List ByteArray) (y : Nr) : y ∈ nearsP Pf (rs wCut) 1 [wCat, wCot, wDog] ↔ y = ⟨wCat, 1⟩ ∨ y = ⟨wCot, 1⟩ := by
  rw [(nearsP_is Pf (rs wCut) 1 nodup_ex).2 y, rs_wCut]
  constructor
  · rintro ⟨s, hs, h1, h2⟩
    simp only [List.mem_cons, List.not_mem_nil, or_false] at hs
    rcases hs with rfl | rfl | rfl
    · rw [rs_wCat, far_c1] at h2; exact Or.inl h2
    · rw [rs_wCot, far_c2] at h2; exact Or.inr h2
    · rw [rs_wDog, far_c3] at h1; omega
  · rintro (h | h)
    · exact ⟨wCat, by simp, by rw [rs_wCat, far_c1]; exact Nat.le_refl _, by rw [rs_wCat, far_c1]; exact h⟩
    · exact ⟨wCot, by simp, by rw [rs_wCot, far_c2]; exact Nat.le_refl _, by rw [rs_wCot, far_c2]; exact h⟩
theorem near_ex1 : (nearsP [] (rs wCut) 1 [wCat, wCot, wDog]).take 9 = [⟨wCat, 1⟩, ⟨wCot, 1⟩] := by
  have h : nearsP [] (rs wCut) 1 [wCat, wCot, wDog] = [⟨wCat, 1⟩, ⟨wCot, 1⟩] := by
    refine strict_ext [] _ _ (nearsP_is [] (rs wCut) 1 nodup_ex).1 ?_ (fun x => by rw [mem_ex]; simp)
    have hl : lw wCat wCot = true := by kernel_rfl
    simp only [List.pairwise_cons, List.mem_cons, List.not_mem_nil, or_false, forall_eq, List.Pairwise.nil, and_true, false_implies, implies_true]
    exact Or.inr ⟨rfl, Or.inr ⟨by simp [rk], hl⟩⟩
  rw [h]
  rfl
theorem near_ex2 : (nearsP [wCot] (rs wCut) 1 [wCat, wCot, wDog]).take 9 = [⟨wCot, 1⟩, ⟨wCat, 1⟩] := by
  have h : nearsP [wCot] (rs wCut) 1 [wCat, wCot, wDog] = [⟨wCot, 1⟩, ⟨wCat, 1⟩] := by
    refine strict_ext [wCot] _ _ (nearsP_is [wCot] (rs wCut) 1 nodup_ex).1 ?_ (fun x => by rw [mem_ex]; simp; exact or_comm)
    have hne : wCat ≠ wCot := by decide
    simp only [List.pairwise_cons, List.mem_cons, List.not_mem_nil, or_false, forall_eq, List.Pairwise.nil, and_true, false_implies, implies_true]
    exact Or.inr ⟨rfl, Or.inl (by simp [rk, hne])⟩
  rw [h]
  rfl
/-- Two suggestions in a row. -/
theorem on_two {w : World} {b : Nat} {v : Value} {x y : Nr} (h : ON w b v [x, y]) : ∃ g c, v = .slice (some ⟨g, 0, none⟩) 2 c ∧ w.cell? ⟨g, 0, none⟩ = some (.string x.s) := by
  have h0 : w.ownsRow b 47 2 v 2 [.string x.s, .int .i64 (x.d : Int), .string y.s, .int .i64 (y.d : Int)] := h
  obtain ⟨h1, ⟨e, h2⟩ | ⟨g, cap, cur, rfl, hg, hh, h3⟩⟩ := h
  · cases h2
  · refine ⟨g, cap, rfl, ?_⟩
    have := World.ownsRow.cells h0 rfl 0 (.string x.s) rfl
    rw [addr_plus] at this
    exact this
set_option maxHeartbeats 2000000 in
set_option maxRecDepth 100000 in
theorem awakeN_any (w : World) (hT : Tabs w) : Calls Tryd.prog 15 #[] w fun e w' => e = .returned (.bool true) ∧ Below w.heap.size w w' := by
  have HT : Hid (Tabs w) := hT
  clear hT
  have hb1 : Below w.heap.size w (w.alloc (.cells #[.string wCat, .string wCot, .string wDog] 9)) := (Below.refl _ _).alloc (Nat.le_refl _) _
  have HTL : TL (w.alloc (.cells #[.string wCat, .string wCot, .string wDog] 9)) (.slice (some ⟨w.heap.size, 0, none⟩) 3 3) [wCat, wCot, wDog] := by
    refine ⟨_, _, rfl, fun j s hs => ⟨w.heap.size, 0, rfl, ?_⟩⟩
    rw [Nat.zero_add, cell_of_row _ w.heap.size j _ _ _ (heap_alloc_new w _)]
    match j, hs with
    | 0, hs => simp at hs; subst hs; rfl
    | 1, hs => simp at hs; subst hs; rfl
    | 2, hs => simp at hs; subst hs; rfl
    | j + 3, hs => simp at hs
  have cm := make_any _ (tabs_stay HT.out hb1) _ _ HTL (by simp) (by intro s hs; simp only [List.mem_cons, List.not_mem_nil, or_false] at hs; rcases hs with rfl | rfl | rfl <;> decide)
  have c1 := fun (w2 : World) (tp : Option Addr) (h1 : Tabs w2) (h2 : Tr w2 (.pointer tp) [wCat, wCot, wDog]) => words_any (s := wCut) (most := 1) (k := 9) (vp := .slice none 0 0) (Pf := []) h1 h2 ⟨none, 0, rfl, fun j s hs => by simp at hs⟩ (by simp) (fun s hs => by cases hs) (by omega) (by omega) (by decide) (by rw [rs_wCut]; decide)
  have c2 := fun (w2 : World) (tp : Option Addr) (vp : Value) (h1 : Tabs w2) (h2 : Tr w2 (.pointer tp) [wCat, wCot, wDog]) (h3 : TL w2 vp [wCot]) => words_any (s := wCut) (most := 1) (k := 9) (vp := vp) (Pf := [wCot]) h1 h2 h3 (by simp) (fun s hs => by simp at hs; subst hs; decide) (by omega) (by omega) (by decide) (by rw [rs_wCut]; decide)
  have C1 : Hid (∀ (w2 : World) (tp : Option Addr), Tabs w2 → Tr w2 (.pointer tp) [wCat, wCot, wDog] → Calls Tryd.prog 16 #[.pointer tp, .string ⟨#[99, 117, 116]⟩, .int .i64 1, .int .i64 9, .slice none 0 0] w2 fun e w' => ∃ v, e = .returned (.tuple #[v, .int .i64 0]) ∧ WdP w2 w' v [⟨⟨#[99, 97, 116]⟩, 1⟩, ⟨⟨#[99, 111, 116]⟩, 1⟩]) := fun w2 tp h1 h2 => by
    have := c1 w2 tp h1 h2
    rw [near_ex1] at this
    exact this
  have C2 : Hid (∀ (w2 : World) (tp : Option Addr) (vp : Value), Tabs w2 → Tr w2 (.pointer tp) [wCat, wCot, wDog] → TL w2 vp [wCot] → Calls Tryd.prog 16 #[.pointer tp, .string ⟨#[99, 117, 116]⟩, .int .i64 1, .int .i64 9, vp] w2 fun e w' => ∃ v, e = .returned (.tuple #[v, .int .i64 0]) ∧ WdP w2 w' v [⟨⟨#[99, 111, 116]⟩, 1⟩, ⟨⟨#[99, 97, 116]⟩, 1⟩]) := fun w2 tp vp h1 h2 h3 => by
    have := c2 w2 tp vp h1 h2 h3
    rw [near_ex2] at this
    exact this
  clear c1 c2
  unfold wCat wCot wDog at cm
  go_enter Tryd.func15, Tryd.ntmps15
  go_wp2_with fail
  refine cm.mono ?_
  clear cm HTL
  unfold wCat wCot wDog at hb1
  have HU1 : Hid (Up w.heap.size w (w.alloc (.cells #[.string ⟨#[99, 97, 116]⟩, .string ⟨#[99, 111, 116]⟩, .string ⟨#[100, 111, 103]⟩] 9))) := (Up.refl w).alloc _
  generalize w.alloc (.cells #[.string ⟨#[99, 97, 116]⟩, .string ⟨#[99, 111, 116]⟩, .string ⟨#[100, 111, 103]⟩] 9) = w1 at *
  clear hb1
  rintro e w2 ⟨hb2, ⟨h, _⟩ | ⟨_, vN, l, rfl, hM, hP, hO, h3, _⟩⟩
  · exact absurd make_exN h
  · have HU2 : Hid (Up w.heap.size w w2) := HU1.out.stay hb2
    have hTr := tr_made hM hP hO h3 make_exN (by simp)
    generalize w1.heap.size + 1 = T at *
    have HTR : Hid (Tr w2 (.pointer (some ⟨T, 0, none⟩)) [wCat, wCot, wDog]) := hTr
    have d1 := C1.out w2 (some ⟨T, 0, none⟩) (tabs_stay HT.out HU2.out.1) hTr
    clear hM hP hO h3 hTr hb2
    go_wp2_with fail
    refine d1.mono ?_
    rintro e w3 ⟨v3, rfl, ho3, hb3⟩
    have HU3 : Hid (Up w.heap.size w w3) := HU2.out.stay hb3
    have HO3 : Hid (ON w3 w2.heap.size v3 [⟨⟨#[99, 97, 116]⟩, 1⟩, ⟨⟨#[99, 111, 116]⟩, 1⟩]) := ho3
    have HTR3 : Hid (Tr w3 (.pointer (some ⟨T, 0, none⟩)) [wCat, wCot, wDog]) := HTR.out.stay ((Up.refl w2).stay hb3)
    obtain ⟨g3, c3, rfl, -⟩ := on_two ho3
    obtain ⟨w4, hw4⟩ : ∃ x, w3.alloc (.cells #[.string ⟨#[99, 111, 116]⟩] 9) = x := ⟨_, rfl⟩
    have HUA : Hid (Up w3.heap.size w3 w4) := by show Up _ _ _; rw [← hw4]; exact (Up.refl w3).alloc _
    have hTL : TL w4 (.slice (some ⟨w3.heap.size, 0, none⟩) 1 1) [wCot] := by
      refine ⟨_, _, rfl, fun j s hs => ⟨w3.heap.size, 0, rfl, ?_⟩⟩
      rw [Nat.zero_add, ← hw4, cell_of_row _ w3.heap.size j _ _ _ (heap_alloc_new w3 _)]
      match j, hs with
      | 0, hs => simp at hs; subst hs; rfl
      | j + 1, hs => simp at hs
    have HU4 : Hid (Up w.heap.size w w4) := HU3.out.stay HUA.out.1
    have d2 := C2.out w4 (some ⟨T, 0, none⟩) (.slice (some ⟨w3.heap.size, 0, none⟩) 1 1) (tabs_stay HT.out HU4.out.1) (HTR3.out.stay HUA.out) hTL
    have HO4 : Hid (ON w4 w2.heap.size (.slice (some ⟨g3, 0, none⟩) 2 c3) [⟨⟨#[99, 97, 116]⟩, 1⟩, ⟨⟨#[99, 111, 116]⟩, 1⟩]) := HO3.out.stay HUA.out.1
    clear hTL ho3 hb3 d1 HO3
    go_wp2_with fail
    refine d2.mono ?_
    rintro e w5 ⟨v5, rfl, ho5, hb5⟩
    have HU5 : Hid (Up w.heap.size w w5) := HU4.out.stay hb5
    obtain ⟨g5, c5, rfl, hc5⟩ := on_two ho5
    obtain ⟨g3', c3', e3, hc3⟩ := on_two (HO4.out.stay hb5)
    injection e3 with e3 _ _
    injection e3 with e3
    injection e3 with e3 _ _
    subst e3
    clear ho5 hb5 d2 hw4
    go_wp2
    go_ret
    exact ⟨rfl, HU5.out.1⟩
end Go.Proofs.YtfikkkodepfdkaaDoor
