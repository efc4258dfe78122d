/- The law's Awake. -/
import Derived.Test.YtfikkkodepfdkaaDoortHas
import Derived.Test.YtfikkkodepfdkaaDoortClone
namespace Go.Proofs.YtfikkkodepfdkaaDoor
set_option linter.unusedVariables false
open Go.RowKit Go.ChangeShapes
def wA : ByteArray := ⟨#[97]⟩
def wAB : ByteArray := ⟨#[97, 98]⟩
def wB : ByteArray := ⟨#[98]⟩
theorem ends_wA : Ends wA 1 := by refine ⟨by kernel_rfl, ?_⟩; decide
theorem ends_wAB : Ends wAB 2 := by refine ⟨by kernel_rfl, ?_⟩; decide
theorem ends_wB : Ends wB 1 := by refine ⟨by kernel_rfl, ?_⟩; decide
theorem rs_wA : rs wA = [97] := by unfold rs; rw [kS_is ends_wA]; kernel_rfl
theorem rs_wAB : rs wAB = [97, 98] := by unfold rs; rw [kS_is ends_wAB]; kernel_rfl
theorem rs_wB : rs wB = [98] := by unfold rs; rw [kS_is ends_wB]; kernel_rfl
def pEx : List PN := [⟨[97, 98], [1, 3], false⟩, ⟨[98], [2], true⟩, ⟨[], [], true⟩, ⟨[], [], true⟩]
theorem make_ex : makeP [wA, wAB, wB] = (0, pEx) := by
  have c1 : chkP 0 wA ⟨#[]⟩ [97] = 0 := by kernel_rfl
  have c2 : chkP 1 wAB wA [97, 98] = 0 := by kernel_rfl
  have c3 : chkP 2 wB wAB [98] = 0 := by kernel_rfl
  have c4 : addP (addP (addP [pn0] [97]) [97, 98]) [98] = pEx := by kernel_rfl
  unfold makeP
  simp only [makeG, rs_wA, rs_wAB, rs_wB, Nat.zero_add, c1, c2, c3, if_true, Nat.reduceAdd, c4]
theorem rise_ex : RiseP pEx := by
  intro n hn
  unfold pEx at hn
  simp only [List.mem_cons, List.not_mem_nil, or_false] at hn
  rcases hn with rfl | rfl | rfl | rfl <;> (unfold Up2; decide)
theorem has_ex : hasP pEx [97, 98] = true := by kernel_rfl
set_option maxHeartbeats 1000000 in
set_option maxRecDepth 100000 in
theorem awake_any (w : World) (hT : Tabs w) : Calls Tryd.prog 8 #[] w fun e w' => e = .returned (.bool true) ∧ Below w.heap.size w w' := by
  have HT : Hid (Tabs w) := hT
  clear hT
  have hb1 : Below w.heap.size w (w.alloc (.cells #[.string wA, .string wAB, .string wB] 9)) := (Below.refl _ _).alloc (Nat.le_refl _) _
  have HTL : TL (w.alloc (.cells #[.string wA, .string wAB, .string wB] 9)) (.slice (some ⟨w.heap.size, 0, none⟩) 3 3) [wA, wAB, wB] := by
    refine ⟨_, _, rfl, fun j s hs => ⟨w.heap.size, 0, rfl, ?_⟩⟩
    rw [Nat.zero_add, cell_of_row _ w.heap.size j _ _ _ (heap_alloc_new w _)]
    match j, hs with
    | 0, hs => simp at hs; subst hs; rfl
    | 1, hs => simp at hs; subst hs; rfl
    | 2, hs => simp at hs; subst hs; rfl
    | j + 3, hs => simp at hs
  have cm := make_any _ (tabs_stay HT.out hb1) _ _ HTL (by simp) (by intro s hs; simp only [List.mem_cons, List.not_mem_nil, or_false] at hs; rcases hs with rfl | rfl | rfl <;> decide)
  rw [make_ex] at cm
  unfold wA wAB wB at cm
  go_enter Tryd.func8, Tryd.ntmps8
  go_wp2_with fail
  refine cm.mono ?_
  clear cm HTL
  unfold wA wAB wB at hb1
  have HU1 : Hid (Up w.heap.size w (w.alloc (.cells #[.string ⟨#[97]⟩, .string ⟨#[97, 98]⟩, .string ⟨#[98]⟩] 9))) := (Up.refl w).alloc _
  generalize w.alloc (.cells #[.string ⟨#[97]⟩, .string ⟨#[97, 98]⟩, .string ⟨#[98]⟩] 9) = w1 at *
  clear hb1
  rintro e w2 ⟨hb2, ⟨h, _⟩ | ⟨_, vN, l, rfl, hM, hP, hO, _, _⟩⟩
  · exact absurd rfl h
  · have HU2 : Hid (Up w.heap.size w w2) := HU1.out.stay hb2
    have HM : Hid (TrieM w2 w1.heap.size (w1.heap.size + 1) 3 vN l) := hM
    have HP : Hid (l.map Nd.p = pEx) := hP
    have hlen : l.length = 4 := by
      have : (l.map Nd.p).length = 4 := by rw [hP]; rfl
      simpa using this
    obtain ⟨n, hn⟩ : ∃ n, l[0]? = some n := ⟨_, List.getElem?_eq_getElem (by omega)⟩
    have hnp : n.p = ⟨[97, 98], [1, 3], false⟩ := by
      have h3 : (l.map Nd.p)[0]? = some n.p := by rw [List.getElem?_map, hn]; rfl
      rw [hP] at h3
      exact (Option.some.inj h3).symm
    have ck := kids_any hM hn (by omega) (by rw [hnp]; decide) (by rw [hnp]; decide)
    rw [hnp] at ck
    have cr := root_any (.pointer (some ⟨w1.heap.size + 1, 0, none⟩)) w2
    have HLEN : Hid (l.length = 4) := hlen
    have HO : Hid (OkP pEx) := hO
    generalize hT : w1.heap.size + 1 = T at *
    clear hM hP hb2 hn hnp hlen hO hT
    go_wp2_with fail
    refine cr.mono ?_
    rintro e w3 ⟨rfl, hw3⟩
    subst w3
    clear cr
    go_wp2_with fail
    refine ck.mono ?_
    rintro e w3 ⟨vr, vk, rfl, hr, _, hb3⟩
    clear ck
    have HU3 : Hid (Up w.heap.size w w3) := HU2.out.stay hb3
    have HM3 : Hid (TrieM w3 w1.heap.size T 3 vN l) := HM.out.stay hb3
    obtain ⟨g, cv, rfl, _, _⟩ := hr.form (by decide)
    have hc := hr.cellAt 0 (by decide)
    have hc0 : w3.cell? ⟨g, 0, none⟩ = some (.int .i32 97) := hc
    have cs := size_any HM3.out (by rw [HLEN.out]; decide) (by rw [HLEN.out]; decide)
    rw [HLEN.out] at cs
    have ch := has_any HM3.out (tabs_stay HT.out HU3.out.1) (by rw [HP.out]; exact HO.out) (by rw [HP.out]; exact rise_ex) (by rw [HLEN.out]; decide) (by rw [HLEN.out]; decide) wAB (by decide)
    rw [HP.out, rs_wAB, has_ex, Bool.and_true] at ch
    rw [show decide (wAB.size ≤ 64) = true by decide] at ch
    unfold wAB at ch
    clear hb3 hr hc
    go_wp2_with fail
    refine cs.mono ?_
    rintro e w4 ⟨rfl, hw4⟩
    subst w4
    clear cs
    go_wp2_with fail
    refine ch.mono ?_
    rintro e w4 ⟨rfl, hb4⟩
    have HU4 : Hid (Up w.heap.size w w4) := HU3.out.stay hb4
    clear ch hb4
    go_wp2
    go_ret
    exact ⟨rfl, HU4.out.1⟩
end Go.Proofs.YtfikkkodepfdkaaDoor
