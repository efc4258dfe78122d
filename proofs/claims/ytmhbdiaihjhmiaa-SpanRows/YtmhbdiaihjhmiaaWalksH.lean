/- The contracts of Meet, Join and the reference's, each in one form for any two spans; and Awake returns true. -/
import Derived.Test.YtmhbdiaihjhmiaaWalksE
import Derived.Test.YtmhbdiaihjhmiaaWalksF
import Derived.Test.YtmhbdiaihjhmiaaWalksG
import Derived.Test.YtmhbdiaihjhmiaaWalksC
namespace Go.Proofs.Ytmhbdiaihjhmiaa
open Go.RowKit Go.ChangeShapes
theorem bcell {W w1 : World} (hb : Below W.heap.size W w1) : (∀ b o, b < W.heap.size → w1.cell? ⟨b, o, none⟩ = W.cell? ⟨b, o, none⟩) ∧ (∀ b o, b < W.heap.size → w1.frozen? ⟨b, o, none⟩ = W.frozen? ⟨b, o, none⟩) :=
  ⟨fun b o h => hb.cell (p := ⟨b, o, none⟩) h, fun b o h => hb.frozen (p := ⟨b, o, none⟩) h⟩
theorem meet_vals (a l b m : Int) (h : bothB a l b m = true) :
    meetB a l b m = decide ((if a < b then b else a) < (if b + m < a + l then b + m else a + l)) := by
  simp only [bothB] at h
  simp only [meetB, h, Bool.true_and]
  congr 1
  apply propext
  by_cases h3 : a < b <;> by_cases h4 : b + m < a + l <;> simp only [h3, h4, if_true, if_false] <;> constructor <;> intro _ <;> omega
theorem meet_no_vals (a l b m : Int) (h : bothB a l b m = false) : meetB a l b m = false ∧ meetAt a l b m = 0 ∧ meetLen a l b m = 0 := by
  have e : meetB a l b m = false := by simp only [bothB] at h; simp [meetB, h]
  exact ⟨e, by simp [meetAt, e], by simp [meetLen, e]⟩
theorem meet_off_vals (a l b m : Int) (e : meetB a l b m = false) : meetAt a l b m = 0 ∧ meetLen a l b m = 0 :=
  ⟨by simp [meetAt, e], by simp [meetLen, e]⟩
theorem meet_on_vals (a l b m : Int) (e : meetB a l b m = true) : meetAt a l b m = (if a < b then b else a) ∧ meetLen a l b m = (if b + m < a + l then b + m else a + l) - (if a < b then b else a) := by
  simp only [meetAt, meetLen, e, if_true]
  constructor
  · split <;> omega
  · split <;> split <;> omega
theorem join_no_vals (a l b m : Int) (h : bothB a l b m = false) : joinAt a l b m = 0 ∧ joinLen a l b m = 0 :=
  ⟨by simp [joinAt, h], by simp [joinLen, h]⟩
theorem join_on_vals (a l b m : Int) (h : bothB a l b m = true) : joinAt a l b m = (if b < a then b else a) ∧ joinLen a l b m = (if a + l < b + m then b + m else a + l) - (if b < a then b else a) := by
  simp only [joinAt, joinLen, h, if_true]
  constructor
  · split <;> omega
  · split <;> split <;> omega
theorem both_snd (a l b m : Int) (h : bothB a l b m = true) : sndB a l = true ∧ sndB b m = true := by simpa [bothB] using h
theorem meet_any (a l b m : Int) (w : World) :
    Calls Try.prog 14 #[.agg #[.int .i64 a, .int .i64 l], .agg #[.int .i64 b, .int .i64 m]] w fun e w' => e = .returned (.tuple #[.agg #[.int .i64 (meetAt a l b m), .int .i64 (meetLen a l b m)], .bool (meetB a l b m)]) ∧ Below w.heap.size w w' := by
  cases h : bothB a l b m
  · obtain ⟨e1, e2, e3⟩ := meet_no_vals a l b m h
    rw [e1, e2, e3]
    exact meet_no a l b m w h
  · obtain ⟨h1, h2⟩ := both_snd a l b m h
    obtain ⟨⟨q1, q2⟩, q3, q4⟩ := (snd_iff _ _).1 h1
    obtain ⟨⟨q5, q6⟩, q7, q8⟩ := (snd_iff _ _).1 h2
    have hv := meet_vals a l b m h
    cases e : meetB a l b m
    · obtain ⟨e2, e3⟩ := meet_off_vals a l b m e
      rw [e2, e3]
      rw [e] at hv
      have hv' := of_decide_eq_false hv.symm
      exact meet_off a l b m _ _ w h1 h2 rfl rfl (by omega)
    · obtain ⟨e2, e3⟩ := meet_on_vals a l b m e
      rw [e2, e3]
      rw [e] at hv
      have hv' := of_decide_eq_true hv.symm
      exact meet_mid a l b m _ _ w h1 h2 rfl rfl hv' (by split <;> omega) (by split <;> omega)
theorem refMeet_any (a l b m : Int) (w : World) :
    Calls Try.prog 15 #[.agg #[.int .i64 a, .int .i64 l], .agg #[.int .i64 b, .int .i64 m]] w fun e w' => e = .returned (.tuple #[.agg #[.int .i64 (meetAt a l b m), .int .i64 (meetLen a l b m)], .bool (meetB a l b m)]) ∧ Below w.heap.size w w' := by
  cases h : bothB a l b m
  · obtain ⟨e1, e2, e3⟩ := meet_no_vals a l b m h
    rw [e1, e2, e3]
    exact refMeet_no a l b m w h
  · obtain ⟨h1, h2⟩ := both_snd a l b m h
    have hv := meet_vals a l b m h
    cases e : meetB a l b m
    · obtain ⟨e2, e3⟩ := meet_off_vals a l b m e
      rw [e2, e3]
      rw [e] at hv
      have hv' := of_decide_eq_false hv.symm
      exact refMeet_off a l b m _ _ w h1 h2 rfl rfl (by omega)
    · obtain ⟨e2, e3⟩ := meet_on_vals a l b m e
      rw [e2, e3]
      rw [e] at hv
      have hv' := of_decide_eq_true hv.symm
      exact refMeet_mid a l b m _ _ w h1 h2 rfl rfl hv'
theorem join_any (a l b m : Int) (w : World) :
    Calls Try.prog 16 #[.agg #[.int .i64 a, .int .i64 l], .agg #[.int .i64 b, .int .i64 m]] w fun e w' => e = .returned (.tuple #[.agg #[.int .i64 (joinAt a l b m), .int .i64 (joinLen a l b m)], .int .i64 (errB (bothB a l b m))]) ∧ Below w.heap.size w w' := by
  cases h : bothB a l b m
  · obtain ⟨e2, e3⟩ := join_no_vals a l b m h
    rw [e2, e3]
    exact join_no a l b m w h
  · obtain ⟨h1, h2⟩ := both_snd a l b m h
    obtain ⟨⟨q1, q2⟩, q3, q4⟩ := (snd_iff _ _).1 h1
    obtain ⟨⟨q5, q6⟩, q7, q8⟩ := (snd_iff _ _).1 h2
    obtain ⟨e2, e3⟩ := join_on_vals a l b m h
    rw [e2, e3]
    exact join_mid a l b m _ _ w h1 h2 rfl rfl (by split <;> split <;> omega) (by split <;> omega) (by split <;> omega)
theorem refJoin_any (a l b m : Int) (w : World) :
    Calls Try.prog 17 #[.agg #[.int .i64 a, .int .i64 l], .agg #[.int .i64 b, .int .i64 m]] w fun e w' => e = .returned (.tuple #[.agg #[.int .i64 (joinAt a l b m), .int .i64 (joinLen a l b m)], .bool (bothB a l b m)]) ∧ Below w.heap.size w w' := by
  cases h : bothB a l b m
  · obtain ⟨e2, e3⟩ := join_no_vals a l b m h
    rw [e2, e3]
    exact refJoin_no a l b m w h
  · obtain ⟨h1, h2⟩ := both_snd a l b m h
    obtain ⟨⟨q1, q2⟩, q3, q4⟩ := (snd_iff _ _).1 h1
    obtain ⟨⟨q5, q6⟩, q7, q8⟩ := (snd_iff _ _).1 h2
    obtain ⟨e2, e3⟩ := join_on_vals a l b m h
    rw [e2, e3]
    exact refJoin_mid a l b m _ _ w h1 h2 rfl rfl (by split <;> split <;> omega)
set_option maxHeartbeats 400000 in
theorem awake_any (w : World) :
    Calls Try.prog 8 #[] w fun e w' => e = .returned (.bool true) ∧ Below w.heap.size w w' := by
  have m1 : meetAt 2 5 4 9 = 4 := by decide
  have m2 : meetLen 2 5 4 9 = 3 := by decide
  have m3 : meetB 2 5 4 9 = true := by decide
  have j1 : joinAt 2 5 4 9 = 2 := by decide
  have j2 : joinLen 2 5 4 9 = 11 := by decide
  have j3 : bothB 2 5 4 9 = true := by decide
  have j4 : errB true = 0 := by decide
  go_enter Try.func8, Try.ntmps8
  go_wp2_with fail
  refine (meet_any 2 5 4 9 _).mono ?_
  rintro e w1 ⟨rfl, hb1⟩
  go_wp2_with fail
  refine (join_any 2 5 4 9 _).mono ?_
  rintro e w2 ⟨rfl, hb2⟩
  have hz : w1.heap.size < w2.heap.size := by have := hb2.size; simp at this; omega
  have c0 : w2.cell? ⟨w1.heap.size, 0, none⟩ = some (.int .i64 4) := by rw [(bcell hb2).1 _ _ (by simp)]; go_simp
  have c1 : w2.cell? ⟨w1.heap.size, 1, none⟩ = some (.int .i64 3) := by rw [(bcell hb2).1 _ _ (by simp)]; go_simp
  go_wp2
  go_ret
  have hz1 := hb1.size
  exact ⟨rfl, ((hb1.alloc (by omega) _).trans (hb2.mono (by simp; omega))).alloc (by omega) _⟩
end Go.Proofs.Ytmhbdiaihjhmiaa
