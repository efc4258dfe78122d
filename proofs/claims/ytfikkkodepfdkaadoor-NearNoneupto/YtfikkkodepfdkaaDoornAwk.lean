/- The law's Awake; tries that are made, and a nil one. -/
import Derived.Test.YtfikkkodepfdkaaDoornWords
import Derived.Test.YtfikkkodepfdkaaDoornKid
import Derived.Test.YtfikkkodepfdkaaDoortHas1
import Derived.Test.YtfikkkodepfdkaaDoortAwk
namespace Go.Proofs.YtfikkkodepfdkaaDoor
set_option linter.unusedVariables false
open Go.RowKit Go.ChangeShapes
open Qns (dd far at_)
theorem tr_made {w : World} {base T m : Nat} {vN : Value} {l : List Nd} {L : List ByteArray} (h : TrieM w base T m vN l) (hl : l.map Nd.p = (makeP L).2) (hok : OkP (makeP L).2) (h3 : (makeP L).2.length ≤ 300000) (hz : (makeP L).1 = 0) (hLl : L.length ≤ 5000) : Tr w (.pointer (some ⟨T, 0, none⟩)) L := by
  obtain ⟨hg, hr⟩ := makeP_good hz
  obtain ⟨B, hB⟩ := NP.of hz hg
  refine ⟨⟨(makeP L).2, B, ?_, hB, hok, h3⟩, hr, hLl⟩
  rw [← hl]
  refine TrV.of h (by rw [hl]; exact hok) ?_
  have : (l.map Nd.p).length ≤ 300000 := by rw [hl]; exact h3
  rwa [List.length_map] at this
theorem tr_nil (w : World) : Tr w (.pointer none) [] := by
  have hz : (makeP []).1 = 0 := rfl
  obtain ⟨B, hB⟩ := NP.of (L := []) hz (fun s hs => by cases hs)
  refine ⟨⟨[pn0], B, ?_, hB, OkP0, by simp⟩, List.Pairwise.nil, by simp⟩
  intro w' _ i n hn
  have hi : i = 0 ∧ n = pn0 := by
    cases i with
    | zero => simp at hn; exact ⟨rfl, hn.symm⟩
    | succ i => simp at hn
  obtain ⟨rfl, rfl⟩ := hi
  exact ⟨ends_nil 0 w', kids_nil 0 w'⟩
def wCat : ByteArray := ⟨#[99, 97, 116]⟩
def wCot : ByteArray := ⟨#[99, 111, 116]⟩
def wDog : ByteArray := ⟨#[100, 111, 103]⟩
def wCut : ByteArray := ⟨#[99, 117, 116]⟩
theorem ends_wCat : Ends wCat 3 := by refine ⟨by kernel_rfl, ?_⟩; decide
theorem ends_wCot : Ends wCot 3 := by refine ⟨by kernel_rfl, ?_⟩; decide
theorem ends_wDog : Ends wDog 3 := by refine ⟨by kernel_rfl, ?_⟩; decide
theorem ends_wCut : Ends wCut 3 := by refine ⟨by kernel_rfl, ?_⟩; decide
theorem rs_wCat : rs wCat = [99, 97, 116] := by unfold rs; rw [kS_is ends_wCat]; kernel_rfl
theorem rs_wCot : rs wCot = [99, 111, 116] := by unfold rs; rw [kS_is ends_wCot]; kernel_rfl
theorem rs_wDog : rs wDog = [100, 111, 103] := by unfold rs; rw [kS_is ends_wDog]; kernel_rfl
theorem rs_wCut : rs wCut = [99, 117, 116] := by unfold rs; rw [kS_is ends_wCut]; kernel_rfl
theorem make_exN : (makeP [wCat, wCot, wDog]).1 = 0 := by
  have c1 : chkP 0 wCat ⟨#[]⟩ [99, 97, 116] = 0 := by kernel_rfl
  have c2 : chkP 1 wCot wCat [99, 111, 116] = 0 := by kernel_rfl
  have c3 : chkP 2 wDog wCot [100, 111, 103] = 0 := by kernel_rfl
  unfold makeP
  simp only [makeG, rs_wCat, rs_wCot, rs_wDog, Nat.zero_add, c1, c2, c3, if_true, Nat.reduceAdd]
theorem far_c1 : far [99, 117, 116] [99, 97, 116] = 1 := by kernel_rfl
theorem far_c2 : far [99, 117, 116] [99, 111, 116] = 1 := by kernel_rfl
theorem far_c3 : far [99, 117, 116] [100, 111, 103] = 3 := by kernel_rfl
theorem nodup_ex : [wCat, wCot, wDog].Nodup := by
  have := (makeP_good make_exN).2
  exact nodup_of this
theorem mem_ex (Pf : List ByteArray) (y : Nr) : y ∈ nearsP Pf (rs wCut) 1 [wCat, wCot, wDog] ↔ y = ⟨wCat, 1⟩ ∨ y = ⟨wCot, 1⟩ := by
  rw [(nearsP_is Pf (rs wCut) 1 nodup_ex).2 y, rs_wCut]
  constructor
  · rintro ⟨s, hs, h1, h2⟩
    simp only [List.mem_cons, List.not_mem_nil, or_false] at hs
    rcases hs with rfl | rfl | rfl
    · rw [rs_wCat, far_c1] at h2; exact Or.inl h2
    · rw [rs_wCot, far_c2] at h2; exact Or.inr h2
    · rw [rs_wDog, far_c3] at h1; omega
  · rintro (h | h)
    · exact ⟨wCat, by simp, by rw [rs_wCat, far_c1]; exact Nat.le_refl _, by rw [rs_wCat, far_c1]; exact h⟩
    · exact ⟨wCot, by simp, by rw [rs_wCot, far_c2]; exact Nat.le_refl _, by rw [rs_wCot, far_c2]; exact h⟩
theorem near_ex1 : (nearsP [] (rs wCut) 1 [wCat, wCot, wDog]).take 9 = [⟨wCat, 1⟩, ⟨wCot, 1⟩] := by
  have h : nearsP [] (rs wCut) 1 [wCat, wCot, wDog] = [⟨wCat, 1⟩, ⟨wCot, 1⟩] := by
    refine strict_ext [] _ _ (nearsP_is [] (rs wCut) 1 nodup_ex).1 ?_ (fun x => by rw [mem_ex]; simp)
    have hl : lw wCat wCot = true := by kernel_rfl
    simp only [List.pairwise_cons, List.mem_cons, List.not_mem_nil, or_false, forall_eq, List.Pairwise.nil, and_true, false_implies, implies_true]
    exact Or.inr ⟨rfl, Or.inr ⟨by simp [rk], hl⟩⟩
  rw [h]
  rfl
theorem near_ex2 : (nearsP [wCot] (rs wCut) 1 [wCat, wCot, wDog]).take 9 = [⟨wCot, 1⟩, ⟨wCat, 1⟩] := by
  have h : nearsP [wCot] (rs wCut) 1 [wCat, wCot, wDog] = [⟨wCot, 1⟩, ⟨wCat, 1⟩] := by
    refine strict_ext [wCot] _ _ (nearsP_is [wCot] (rs wCut) 1 nodup_ex).1 ?_ (fun x => by rw [mem_ex]; simp; exact or_comm)
    have hne : wCat ≠ wCot := by decide
    simp only [List.pairwise_cons, List.mem_cons, List.not_mem_nil, or_false, forall_eq, List.Pairwise.nil, and_true, false_implies, implies_true]
    exact Or.inr ⟨rfl, Or.inl (by simp [rk, hne])⟩
  rw [h]
  rfl
/-- Two suggestions in a row. -/
theorem on_two {w : World} {b : Nat} {v : Value} {x y : Nr} (h : ON w b v [x, y]) : ∃ g c, v = .slice (some ⟨g, 0, none⟩) 2 c ∧ w.cell? ⟨g, 0, none⟩ = some (.string x.s) := by
  have h0 : w.ownsRow b 47 2 v 2 [.string x.s, .int .i64 (x.d : Int), .string y.s, .int .i64 (y.d : Int)] := h
  obtain ⟨h1, ⟨e, h2⟩ | ⟨g, cap, cur, rfl, hg, hh, h3⟩⟩ := h
  · cases h2
  · refine ⟨g, cap, rfl, ?_⟩
    have := World.ownsRow.cells h0 rfl 0 (.string x.s) rfl
    rw [addr_plus] at this
    exact this
set_option maxHeartbeats 2000000 in
set_option maxRecDepth 100000 in
theorem awakeN_any (w : World) (hT : Tabs w) : Calls Tryd.prog 15 #[] w fun e w' => e = .returned (.bool true) ∧ Below w.heap.size w w' := by
  have HT : Hid (Tabs w) := hT
  clear hT
  have hb1 : Below w.heap.size w (w.alloc (.cells #[.string wCat, .string wCot, .string wDog] 9)) := (Below.refl _ _).alloc (Nat.le_refl _) _
  have HTL : TL (w.alloc (.cells #[.string wCat, .string wCot, .string wDog] 9)) (.slice (some ⟨w.heap.size, 0, none⟩) 3 3) [wCat, wCot, wDog] := by
    refine ⟨_, _, rfl, fun j s hs => ⟨w.heap.size, 0, rfl, ?_⟩⟩
    rw [Nat.zero_add, cell_of_row _ w.heap.size j _ _ _ (heap_alloc_new w _)]
    match j, hs with
    | 0, hs => simp at hs; subst hs; rfl
    | 1, hs => simp at hs; subst hs; rfl
    | 2, hs => simp at hs; subst hs; rfl
    | j + 3, hs => simp at hs
  have cm := make_any _ (tabs_stay HT.out hb1) _ _ HTL (by simp) (by intro s hs; simp only [List.mem_cons, List.not_mem_nil, or_false] at hs; rcases hs with rfl | rfl | rfl <;> decide)
  have c1 := fun (w2 : World) (tp : Option Addr) (h1 : Tabs w2) (h2 : Tr w2 (.pointer tp) [wCat, wCot, wDog]) => words_any (s := wCut) (most := 1) (k := 9) (vp := .slice none 0 0) (Pf := []) h1 h2 ⟨none, 0, rfl, fun j s hs => by simp at hs⟩ (by simp) (fun s hs => by cases hs) (by omega) (by omega) (by decide) (by rw [rs_wCut]; decide)
  have c2 := fun (w2 : World) (tp : Option Addr) (vp : Value) (h1 : Tabs w2) (h2 : Tr w2 (.pointer tp) [wCat, wCot, wDog]) (h3 : TL w2 vp [wCot]) => words_any (s := wCut) (most := 1) (k := 9) (vp := vp) (Pf := [wCot]) h1 h2 h3 (by simp) (fun s hs => by simp at hs; subst hs; decide) (by omega) (by omega) (by decide) (by rw [rs_wCut]; decide)
  have C1 : Hid (∀ (w2 : World) (tp : Option Addr), Tabs w2 → Tr w2 (.pointer tp) [wCat, wCot, wDog] → Calls Tryd.prog 16 #[.pointer tp, .string ⟨#[99, 117, 116]⟩, .int .i64 1, .int .i64 9, .slice none 0 0] w2 fun e w' => ∃ v, e = .returned (.tuple #[v, .int .i64 0]) ∧ WdP w2 w' v [⟨⟨#[99, 97, 116]⟩, 1⟩, ⟨⟨#[99, 111, 116]⟩, 1⟩]) := fun w2 tp h1 h2 => by
    have := c1 w2 tp h1 h2
    rw [near_ex1] at this
    exact this
  have C2 : Hid (∀ (w2 : World) (tp : Option Addr) (vp : Value), Tabs w2 → Tr w2 (.pointer tp) [wCat, wCot, wDog] → TL w2 vp [wCot] → Calls Tryd.prog 16 #[.pointer tp, .string ⟨#[99, 117, 116]⟩, .int .i64 1, .int .i64 9, vp] w2 fun e w' => ∃ v, e = .returned (.tuple #[v, .int .i64 0]) ∧ WdP w2 w' v [⟨⟨#[99, 111, 116]⟩, 1⟩, ⟨⟨#[99, 97, 116]⟩, 1⟩]) := fun w2 tp vp h1 h2 h3 => by
    have := c2 w2 tp vp h1 h2 h3
    rw [near_ex2] at this
    exact this
  clear c1 c2
  unfold wCat wCot wDog at cm
  go_enter Tryd.func15, Tryd.ntmps15
  go_wp2_with fail
  refine cm.mono ?_
  clear cm HTL
  unfold wCat wCot wDog at hb1
  have HU1 : Hid (Up w.heap.size w (w.alloc (.cells #[.string ⟨#[99, 97, 116]⟩, .string ⟨#[99, 111, 116]⟩, .string ⟨#[100, 111, 103]⟩] 9))) := (Up.refl w).alloc _
  generalize w.alloc (.cells #[.string ⟨#[99, 97, 116]⟩, .string ⟨#[99, 111, 116]⟩, .string ⟨#[100, 111, 103]⟩] 9) = w1 at *
  clear hb1
  rintro e w2 ⟨hb2, ⟨h, _⟩ | ⟨_, vN, l, rfl, hM, hP, hO, h3, _⟩⟩
  · exact absurd make_exN h
  · have HU2 : Hid (Up w.heap.size w w2) := HU1.out.stay hb2
    have hTr := tr_made hM hP hO h3 make_exN (by simp)
    generalize w1.heap.size + 1 = T at *
    have HTR : Hid (Tr w2 (.pointer (some ⟨T, 0, none⟩)) [wCat, wCot, wDog]) := hTr
    have d1 := C1.out w2 (some ⟨T, 0, none⟩) (tabs_stay HT.out HU2.out.1) hTr
    clear hM hP hO h3 hTr hb2
    go_wp2_with fail
    refine d1.mono ?_
    rintro e w3 ⟨v3, rfl, ho3, hb3⟩
    have HU3 : Hid (Up w.heap.size w w3) := HU2.out.stay hb3
    have HO3 : Hid (ON w3 w2.heap.size v3 [⟨⟨#[99, 97, 116]⟩, 1⟩, ⟨⟨#[99, 111, 116]⟩, 1⟩]) := ho3
    have HTR3 : Hid (Tr w3 (.pointer (some ⟨T, 0, none⟩)) [wCat, wCot, wDog]) := HTR.out.stay ((Up.refl w2).stay hb3)
    obtain ⟨g3, c3, rfl, -⟩ := on_two ho3
    obtain ⟨w4, hw4⟩ : ∃ x, w3.alloc (.cells #[.string ⟨#[99, 111, 116]⟩] 9) = x := ⟨_, rfl⟩
    have HUA : Hid (Up w3.heap.size w3 w4) := by show Up _ _ _; rw [← hw4]; exact (Up.refl w3).alloc _
    have hTL : TL w4 (.slice (some ⟨w3.heap.size, 0, none⟩) 1 1) [wCot] := by
      refine ⟨_, _, rfl, fun j s hs => ⟨w3.heap.size, 0, rfl, ?_⟩⟩
      rw [Nat.zero_add, ← hw4, cell_of_row _ w3.heap.size j _ _ _ (heap_alloc_new w3 _)]
      match j, hs with
      | 0, hs => simp at hs; subst hs; rfl
      | j + 1, hs => simp at hs
    have HU4 : Hid (Up w.heap.size w w4) := HU3.out.stay HUA.out.1
    have d2 := C2.out w4 (some ⟨T, 0, none⟩) (.slice (some ⟨w3.heap.size, 0, none⟩) 1 1) (tabs_stay HT.out HU4.out.1) (HTR3.out.stay HUA.out) hTL
    have HO4 : Hid (ON w4 w2.heap.size (.slice (some ⟨g3, 0, none⟩) 2 c3) [⟨⟨#[99, 97, 116]⟩, 1⟩, ⟨⟨#[99, 111, 116]⟩, 1⟩]) := HO3.out.stay HUA.out.1
    clear hTL ho3 hb3 d1 HO3
    go_wp2_with fail
    refine d2.mono ?_
    rintro e w5 ⟨v5, rfl, ho5, hb5⟩
    have HU5 : Hid (Up w.heap.size w w5) := HU4.out.stay hb5
    obtain ⟨g5, c5, rfl, hc5⟩ := on_two ho5
    obtain ⟨g3', c3', e3, hc3⟩ := on_two (HO4.out.stay hb5)
    injection e3 with e3 _ _
    injection e3 with e3
    injection e3 with e3 _ _
    subst e3
    clear ho5 hb5 d2 hw4
    go_wp2
    go_ret
    exact ⟨rfl, HU5.out.1⟩
end Go.Proofs.YtfikkkodepfdkaaDoor
