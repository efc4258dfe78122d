/- fold.Of. -/
import Derived.Test.YtakieogegfmepaaDoorAs
namespace Go.Proofs.YtakieogegfmepaaDoor
set_option linter.unusedVariables false
open Go.RowKit Go.ChangeShapes
/-- What Of tells, by how many letters there are. -/
theorem of_none {L : List Int} (h : L.countP gB = 0) : ofL L = 1 := by unfold ofL; rw [h]; rfl
theorem of_upper {L : List Int} (h : 1 < L.countP gB) (h2 : L.countP sB = 0) : ofL L = 3 := by
  unfold ofL
  rw [show (L.countP gB == 0) = false from beq_eq_false_iff_ne.2 (by omega), show decide (1 < L.countP gB) = true from decide_eq_true h, h2]; rfl
theorem of_many {L : List Int} (h : 1 < L.countP gB) (h2 : ¬ L.countP sB = 0) : ofL L = 0 := by
  unfold ofL
  rw [show (L.countP gB == 0) = false from beq_eq_false_iff_ne.2 (by omega), show decide (1 < L.countP gB) = true from decide_eq_true h, show (L.countP sB == 0) = false from beq_eq_false_iff_ne.2 h2, show (L.countP gB == 1) = false from beq_eq_false_iff_ne.2 (by omega)]; rfl
theorem of_one {L : List Int} (h : L.countP gB = 1) (b : Bool) (h2 : gB (L.getD 0 0) = b) : ofL L = bif b then 2 else 0 := by
  unfold ofL
  rw [h, h2]; cases b <;> rfl
def OfPost (s : ByteArray) (o : Int) (w : World) : Prop := Calls Tryd.prog 17 #[.string s] w fun e w' => e = .returned (.int .u8 o) ∧ Below w.heap.size w w'
/-- What signs hands back. -/
def SigPost (s : ByteArray) (L : List Int) (w : World) : Prop := Calls Tryd.prog 21 #[.string s] w fun e w' => ∃ v, e = .returned v ∧ w'.ownsRow w.heap.size 21 1 v L.length (L.map e32) ∧ Below w.heap.size w w'
theorem of_a (s : ByteArray) (L : List Int) (w : World) (cs : SigPost s L w) (hn : L.length ≤ 5000) (h : L.countP gB = 0) : OfPost s 1 w := by
  unfold SigPost at cs
  unfold OfPost
  go_enter Tryd.func17, Tryd.ntmps17
  go_wp2_with fail
  refine cs.mono ?_
  rintro e w1 ⟨v, rfl, hown, hb⟩
  have HB : Hid (Below w.heap.size w w1) := hb
  have cg := count_great_any L v w1 hn (rls_of hown).1
  rw [h] at cg
  clear cs hb hown h
  go_wp2_with fail
  refine cg.mono ?_
  rintro e w' ⟨rfl, rfl⟩
  go_wp2
  go_ret
  exact ⟨rfl, HB.out⟩
set_option maxHeartbeats 1000000 in
theorem of_b (s : ByteArray) (L : List Int) (w : World) (cs : SigPost s L w) (hn : L.length ≤ 5000) (hf : ∀ r, r ∈ L → Fit r) (h : 1 < L.countP gB) (h2 : L.countP sB = 0) : OfPost s 3 w := by
  unfold SigPost at cs
  unfold OfPost
  go_enter Tryd.func17, Tryd.ntmps17
  go_wp2_with fail
  refine cs.mono ?_
  rintro e w1 ⟨v, rfl, hown, hb⟩
  have HB : Hid (Below w.heap.size w w1) := hb
  have cg := count_great_any L v w1 hn (rls_of hown).1
  have cm := count_small_any L v w1 hn hf (rls_of hown).1
  rw [h2] at cm
  generalize L.countP gB = n at cg h
  have a1 : (1 : Int) < (n : Int) := by omega
  have a2 : ((n : Int) == 0) = false := by simp; omega
  clear cs hb hown h hf h2
  go_wp2_with fail
  refine cg.mono ?_
  rintro e w' ⟨rfl, rfl⟩
  go_wp2_with fail
  refine cm.mono ?_
  rintro e w' ⟨rfl, rfl⟩
  go_wp2
  go_ret
  exact ⟨rfl, HB.out⟩
set_option maxHeartbeats 1000000 in
theorem of_c (s : ByteArray) (L : List Int) (w : World) (cs : SigPost s L w) (hn : L.length ≤ 5000) (hf : ∀ r, r ∈ L → Fit r) (h : 1 < L.countP gB) (h2 : ¬ L.countP sB = 0) : OfPost s 0 w := by
  unfold SigPost at cs
  unfold OfPost
  go_enter Tryd.func17, Tryd.ntmps17
  go_wp2_with fail
  refine cs.mono ?_
  rintro e w1 ⟨v, rfl, hown, hb⟩
  have HB : Hid (Below w.heap.size w w1) := hb
  have cg := count_great_any L v w1 hn (rls_of hown).1
  have cm := count_small_any L v w1 hn hf (rls_of hown).1
  generalize L.countP gB = n at cg h
  generalize L.countP sB = m at cm h2
  have a1 : (1 : Int) < (n : Int) := by omega
  have a2 : ((n : Int) == 0) = false := by simp; omega
  have a3 : ((n : Int) == 1) = false := by simp; omega
  have a4 : ((m : Int) == 0) = false := by simp; omega
  clear cs hb hown h hf h2
  go_wp2_with fail
  refine cg.mono ?_
  rintro e w' ⟨rfl, rfl⟩
  go_wp2_with fail
  refine cm.mono ?_
  rintro e w' ⟨rfl, rfl⟩
  go_wp2
  go_ret
  exact ⟨rfl, HB.out⟩
set_option maxHeartbeats 1000000 in
theorem of_d (s : ByteArray) (L : List Int) (w : World) (cs : SigPost s L w) (hn : L.length ≤ 5000) (h : L.countP gB = 1) (b : Bool) (h2 : gB (L.getD 0 0) = b) : OfPost s (bif b then 2 else 0) w := by
  unfold SigPost at cs
  unfold OfPost
  have hp : 0 < L.length := Nat.lt_of_lt_of_le (by omega) (List.countP_le_length (p := gB))
  cases b
  all_goals
    go_enter Tryd.func17, Tryd.ntmps17
    go_wp2_with fail
    refine cs.mono ?_
    rintro e w1 ⟨v, rfl, hown, hb⟩
    have HB : Hid (Below w.heap.size w w1) := hb
    have cg := count_great_any L v w1 hn (rls_of hown).1
    rw [h] at cg
    have c0 := great_any (L.getD 0 0) w1
    rw [h2] at c0
    obtain ⟨g, cap, rfl, hc⟩ : ∃ g cap, v = .slice (some ⟨g, 0, none⟩) L.length cap ∧ w1.cell? ⟨g, 0, none⟩ = some (.int .i32 (L.getD 0 0)) := by
      have h0 := hown
      obtain ⟨hl, ⟨_, hz⟩ | ⟨g, cap, cur, rfl, _⟩⟩ := h0
      · omega
      · refine ⟨g, cap, rfl, ?_⟩
        rw [hown.cellAt 0 (by omega), List.getElem?_map]
        simp [List.getD, List.getElem?_eq_getElem hp]
    have z1 : (0 : Int) < (L.length : Int) := by omega
    clear cs hb hown h h2
    generalize L.getD 0 0 = r at c0 hc
    go_wp2_with fail
    refine cg.mono ?_
    rintro e w' ⟨rfl, rfl⟩
    go_wp2_with fail
    refine c0.mono ?_
    rintro e w' ⟨rfl, rfl⟩
    go_wp2
    go_ret
    exact ⟨rfl, HB.out⟩
theorem of_any (s : ByteArray) (k : Nat) (w : World) (hn : s.size ≤ 5000) (hT : Tabs w) (he : Ends s k) :
    Calls Tryd.prog 17 #[.string s] w fun e w' => e = .returned (.int .u8 (ofL (sg s k))) ∧ Below w.heap.size w w' := by
  have cs : SigPost s (sg s k) w :=
    (signs_any s w hn hT).mono fun e w' ⟨k', v, h1, h2, h3, h4⟩ => by
      obtain rfl : k' = k := h2.one he
      exact ⟨v, h1, h3, h4⟩
  have hk := he.le
  have hl := sg_len s k
  have hf : ∀ r, r ∈ sg s k → Fit r := fun r hr => ok_fit (sg_ok he r hr)
  show OfPost s _ w
  generalize sg s k = L at cs hl hf ⊢
  by_cases h0 : L.countP gB = 0
  · rw [of_none h0]; exact of_a s L w cs (by omega) h0
  by_cases h1 : L.countP gB = 1
  · rw [of_one h1 _ rfl]; exact of_d s L w cs (by omega) h1 _ rfl
  by_cases h2 : L.countP sB = 0
  · rw [of_upper (by omega) h2]; exact of_b s L w cs (by omega) hf (by omega) h2
  · rw [of_many (by omega) h2]; exact of_c s L w cs (by omega) hf (by omega) h2
end Go.Proofs.YtakieogegfmepaaDoor
