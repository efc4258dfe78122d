/- utf.Next and the reference's, of bytes wherever they lie; In, sign. -/
import Derived.Test.YtkfgfbdalkifjaaDoorvRnx
import Derived.Test.YtkfgfbdalkifjaaDoorvRn
import Derived.Test.YtkfgfbdalkifjaaDoorvUn
namespace Go.Proofs.YtkfgfbdalkifjaaDoor
set_option linter.unusedVariables false
open Go.RowKit Go.ChangeShapes
theorem bc_by {w : World} {b off n : Nat} {c : Nat → Int} (hC : ∀ j, j < n → 0 ≤ c j ∧ c j < 256) (h : BC w (some ⟨b, off, none⟩) n c) : Lns.By w b off (strOfNums (cl c n)) := fun j hj => by
  have hj' : j < n := by rw [strOfNums_size, cl_len] at hj; exact hj
  obtain ⟨b', off', e, hc⟩ := h j hj'
  injection e with e
  injection e with e1 e2 _
  subst e1 e2
  rw [hc]
  have hs := (sc_list (m := cl c n) (cl_byt2 hC) rfl).2.2.1 j hj
  have hx : cL (cl c n) j = c j := cL_in (cl_at c n j hj')
  rw [hx] at hs
  rw [← hs]
  have hg : (strOfNums (cl c n)).get! j = (strOfNums (cl c n))[j]'hj := by
    show (strOfNums (cl c n)).data[j]! = (strOfNums (cl c n)).data[j]'hj
    exact getElem!_pos (strOfNums (cl c n)).data j hj
  rw [hg]
theorem rnx_any {w : World} {b off n cap : Nat} {c : Nat → Int} (hC : ∀ j, j < n → 0 ≤ c j ∧ c j < 256) (h : BC w (some ⟨b, off, none⟩) n c) (hn : 0 < n) :
    Calls Tryd.prog 39 #[.slice (some ⟨b, off, none⟩) n cap] w fun e w' => e = .returned (.tuple #[.int .i32 (nx c n).1, .int .i64 (nx c n).2]) ∧ Below w.heap.size w w' := by
  have hs : (strOfNums (cl c n)).size = n := by rw [strOfNums_size, cl_len]
  have := Lns.rnext_at (strOfNums (cl c n)) 0 b off cap w (by omega) (bc_by hC h)
  rw [Nat.add_zero, Nat.sub_zero, hs] at this
  exact this
theorem unx_any {w : World} {b off n cap : Nat} {c : Nat → Int} (hT : Lns.Tabs w) (hC : ∀ j, j < n → 0 ≤ c j ∧ c j < 256) (h : BC w (some ⟨b, off, none⟩) n c) (hn : 0 < n) :
    Calls Tryd.prog 37 #[.slice (some ⟨b, off, none⟩) n cap] w fun e w' => e = .returned (.tuple #[.int .i32 (nx c n).1, .int .i64 (nx c n).2]) ∧ Below w.heap.size w w' := by
  have hs : (strOfNums (cl c n)).size = n := by rw [strOfNums_size, cl_len]
  have := Lns.next_at (strOfNums (cl c n)) 0 b off cap w (by omega) hT (bc_by hC h)
  rw [Nat.add_zero, Nat.sub_zero, hs] at this
  exact this
/-- Does a span lie in so many bytes? -/
def inB (a m : Int) (n : Nat) : Bool := decide (0 ≤ a) && decide (0 ≤ m) && decide (a ≤ (n : Int)) && decide (m ≤ (n : Int) - a)
theorem rin_any (a m : Int) (n : Nat) (hn : n ≤ 9223372036854775807) (w : World) :
    Calls Tryd.prog 38 #[.agg #[.int .i64 a, .int .i64 m], .int .i64 n] w fun e w' => e = .returned (.bool (inB a m n)) ∧ Below w.heap.size w w' := by
  have hb : Below w.heap.size w (w.alloc (.cells #[.int .i64 a, .int .i64 m] 35)) := below_alloc w _
  unfold inB
  by_cases h1 : 0 ≤ a
  · by_cases h2 : 0 ≤ m
    · by_cases h3 : a ≤ (n : Int)
      · by_cases h4 : m ≤ (n : Int) - a
        · go_enter Tryd.func38, Tryd.ntmps38
          go_wp2
          go_ret
          exact ⟨by simp [h1, h2, h3, h4], hb⟩
        · go_enter Tryd.func38, Tryd.ntmps38
          go_wp2
          go_ret
          exact ⟨by simp [h4], hb⟩
      · go_enter Tryd.func38, Tryd.ntmps38
        go_wp2
        go_ret
        exact ⟨by simp []; omega, hb⟩
    · go_enter Tryd.func38, Tryd.ntmps38
      go_wp2
      go_ret
      exact ⟨by simp []; omega, hb⟩
  · go_enter Tryd.func38, Tryd.ntmps38
    go_wp2
    go_ret
    exact ⟨by simp []; omega, hb⟩
set_option maxRecDepth 100000 in
theorem rsign_any (X : Nat) (hX : X < 256) (w : World) : Calls Tryd.prog 40 #[.int .u8 (X : Nat)] w fun e w' => e = .returned (.bool (sgB (X : Int))) ∧ w' = w := by
  rcases (show (0 ≤ X ∧ X ≤ 32) ∨ (33 ≤ X ∧ X ≤ 47) ∨ (48 ≤ X ∧ X ≤ 57) ∨ (58 ≤ X ∧ X ≤ 64) ∨ (65 ≤ X ∧ X ≤ 90) ∨ (91 ≤ X ∧ X ≤ 96) ∨ (97 ≤ X ∧ X ≤ 122) ∨ (123 ≤ X ∧ X ≤ 126) ∨ (127 ≤ X ∧ X ≤ 255) by omega) with k | k | k | k | k | k | k | k | k
  · have t0 : ¬ (33 : Int) ≤ (X : Int) := by omega
    have t1 : (X : Int) ≤ 126 := by omega
    have t2 : ¬ (97 : Int) ≤ (X : Int) := by omega
    have t3 : (X : Int) ≤ 122 := by omega
    have t4 : ¬ (65 : Int) ≤ (X : Int) := by omega
    have t5 : (X : Int) ≤ 90 := by omega
    have t6 : ¬ (48 : Int) ≤ (X : Int) := by omega
    have t7 : (X : Int) ≤ 57 := by omega
    have hs : sgB (X : Int) = false := by unfold sgB; simp [t0, t1, t2, t3, t4, t5, t6, t7]
    rw [hs]
    clear hs k
    go_enter Tryd.func40, Tryd.ntmps40
    go_wp2
    go_ret
    exact ⟨rfl, rfl⟩
  · have t0 : (33 : Int) ≤ (X : Int) := by omega
    have t1 : (X : Int) ≤ 126 := by omega
    have t2 : ¬ (97 : Int) ≤ (X : Int) := by omega
    have t3 : (X : Int) ≤ 122 := by omega
    have t4 : ¬ (65 : Int) ≤ (X : Int) := by omega
    have t5 : (X : Int) ≤ 90 := by omega
    have t6 : ¬ (48 : Int) ≤ (X : Int) := by omega
    have t7 : (X : Int) ≤ 57 := by omega
    have hs : sgB (X : Int) = true := by unfold sgB; simp [t0, t1, t2, t3, t4, t5, t6, t7]
    rw [hs]
    clear hs k
    go_enter Tryd.func40, Tryd.ntmps40
    go_wp2
    go_ret
    exact ⟨rfl, rfl⟩
  · have t0 : (33 : Int) ≤ (X : Int) := by omega
    have t1 : (X : Int) ≤ 126 := by omega
    have t2 : ¬ (97 : Int) ≤ (X : Int) := by omega
    have t3 : (X : Int) ≤ 122 := by omega
    have t4 : ¬ (65 : Int) ≤ (X : Int) := by omega
    have t5 : (X : Int) ≤ 90 := by omega
    have t6 : (48 : Int) ≤ (X : Int) := by omega
    have t7 : (X : Int) ≤ 57 := by omega
    have hs : sgB (X : Int) = false := by unfold sgB; simp [t0, t1, t2, t3, t4, t5, t6, t7]
    rw [hs]
    clear hs k
    go_enter Tryd.func40, Tryd.ntmps40
    go_wp2
    go_ret
    exact ⟨rfl, rfl⟩
  · have t0 : (33 : Int) ≤ (X : Int) := by omega
    have t1 : (X : Int) ≤ 126 := by omega
    have t2 : ¬ (97 : Int) ≤ (X : Int) := by omega
    have t3 : (X : Int) ≤ 122 := by omega
    have t4 : ¬ (65 : Int) ≤ (X : Int) := by omega
    have t5 : (X : Int) ≤ 90 := by omega
    have t6 : (48 : Int) ≤ (X : Int) := by omega
    have t7 : ¬ (X : Int) ≤ 57 := by omega
    have hs : sgB (X : Int) = true := by unfold sgB; simp [t0, t1, t2, t3, t4, t5, t6, t7]
    rw [hs]
    clear hs k
    go_enter Tryd.func40, Tryd.ntmps40
    go_wp2
    go_ret
    exact ⟨rfl, rfl⟩
  · have t0 : (33 : Int) ≤ (X : Int) := by omega
    have t1 : (X : Int) ≤ 126 := by omega
    have t2 : ¬ (97 : Int) ≤ (X : Int) := by omega
    have t3 : (X : Int) ≤ 122 := by omega
    have t4 : (65 : Int) ≤ (X : Int) := by omega
    have t5 : (X : Int) ≤ 90 := by omega
    have t6 : (48 : Int) ≤ (X : Int) := by omega
    have t7 : ¬ (X : Int) ≤ 57 := by omega
    have hs : sgB (X : Int) = false := by unfold sgB; simp [t0, t1, t2, t3, t4, t5, t6, t7]
    rw [hs]
    clear hs k
    go_enter Tryd.func40, Tryd.ntmps40
    go_wp2
    go_ret
    exact ⟨rfl, rfl⟩
  · have t0 : (33 : Int) ≤ (X : Int) := by omega
    have t1 : (X : Int) ≤ 126 := by omega
    have t2 : ¬ (97 : Int) ≤ (X : Int) := by omega
    have t3 : (X : Int) ≤ 122 := by omega
    have t4 : (65 : Int) ≤ (X : Int) := by omega
    have t5 : ¬ (X : Int) ≤ 90 := by omega
    have t6 : (48 : Int) ≤ (X : Int) := by omega
    have t7 : ¬ (X : Int) ≤ 57 := by omega
    have hs : sgB (X : Int) = true := by unfold sgB; simp [t0, t1, t2, t3, t4, t5, t6, t7]
    rw [hs]
    clear hs k
    go_enter Tryd.func40, Tryd.ntmps40
    go_wp2
    go_ret
    exact ⟨rfl, rfl⟩
  · have t0 : (33 : Int) ≤ (X : Int) := by omega
    have t1 : (X : Int) ≤ 126 := by omega
    have t2 : (97 : Int) ≤ (X : Int) := by omega
    have t3 : (X : Int) ≤ 122 := by omega
    have t4 : (65 : Int) ≤ (X : Int) := by omega
    have t5 : ¬ (X : Int) ≤ 90 := by omega
    have t6 : (48 : Int) ≤ (X : Int) := by omega
    have t7 : ¬ (X : Int) ≤ 57 := by omega
    have hs : sgB (X : Int) = false := by unfold sgB; simp [t0, t1, t2, t3, t4, t5, t6, t7]
    rw [hs]
    clear hs k
    go_enter Tryd.func40, Tryd.ntmps40
    go_wp2
    go_ret
    exact ⟨rfl, rfl⟩
  · have t0 : (33 : Int) ≤ (X : Int) := by omega
    have t1 : (X : Int) ≤ 126 := by omega
    have t2 : (97 : Int) ≤ (X : Int) := by omega
    have t3 : ¬ (X : Int) ≤ 122 := by omega
    have t4 : (65 : Int) ≤ (X : Int) := by omega
    have t5 : ¬ (X : Int) ≤ 90 := by omega
    have t6 : (48 : Int) ≤ (X : Int) := by omega
    have t7 : ¬ (X : Int) ≤ 57 := by omega
    have hs : sgB (X : Int) = true := by unfold sgB; simp [t0, t1, t2, t3, t4, t5, t6, t7]
    rw [hs]
    clear hs k
    go_enter Tryd.func40, Tryd.ntmps40
    go_wp2
    go_ret
    exact ⟨rfl, rfl⟩
  · have t0 : (33 : Int) ≤ (X : Int) := by omega
    have t1 : ¬ (X : Int) ≤ 126 := by omega
    have t2 : (97 : Int) ≤ (X : Int) := by omega
    have t3 : ¬ (X : Int) ≤ 122 := by omega
    have t4 : (65 : Int) ≤ (X : Int) := by omega
    have t5 : ¬ (X : Int) ≤ 90 := by omega
    have t6 : (48 : Int) ≤ (X : Int) := by omega
    have t7 : ¬ (X : Int) ≤ 57 := by omega
    have hs : sgB (X : Int) = false := by unfold sgB; simp [t0, t1, t2, t3, t4, t5, t6, t7]
    rw [hs]
    clear hs k
    go_enter Tryd.func40, Tryd.ntmps40
    go_wp2
    go_ret
    exact ⟨rfl, rfl⟩
end Go.Proofs.YtkfgfbdalkifjaaDoor
