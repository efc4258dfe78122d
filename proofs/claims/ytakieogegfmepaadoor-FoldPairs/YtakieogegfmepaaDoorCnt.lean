/- fold.count. -/
import Derived.Test.YtakieogegfmepaaDoorKit
namespace Go.Proofs.YtakieogegfmepaaDoor
set_option linter.unusedVariables false
open Go.RowKit Go.ChangeShapes
/-- How many of the first ones. -/
theorem cnt_succ (p : Int → Bool) (L : List Int) (j : Nat) (h : j < L.length) : (L.take (j + 1)).countP p = (L.take j).countP p + (bif p (L.getD j 0) then 1 else 0) := by
  rw [← List.take_append_getElem h, List.countP_append]
  simp [List.getD, List.getElem?_eq_getElem h, List.countP_cons, List.countP_nil]
theorem cnt_le (p : Int → Bool) (L : List Int) (j : Nat) : (L.take j).countP p ≤ j := by
  refine Nat.le_trans List.countP_le_length ?_
  simp; omega
/-- Runes lie there as a list. -/
def RLs (w : World) (v : Value) (L : List Int) : Prop := RSl w v L.length fun i => L.getD i 0
theorem count_zero (g : Nat) (ad : Option Addr) (c : Nat) (w : World) :
    Calls Tryd.prog 22 #[.slice ad 0 c, .func (.func g) #[] #[]] w fun e w' => e = .returned (.int .i64 0) ∧ w' = w := by
  go_enter Tryd.func22, Tryd.ntmps22
  go_wp2
  go_loopg [5, 10] (0) (fun m n i wr => n = .int .i64 0 ∧ i = .int .i64 0 ∧ wr = w)
  case atStart => exact ⟨rfl, rfl, rfl⟩
  case round =>
    obtain ⟨rfl, rfl, rfl⟩ := hrel
    go_wp2_with fail
    go_ret
    exact ⟨rfl, rfl⟩
set_option maxHeartbeats 1000000 in
theorem count_great_at (L : List Int) (b off cap : Nat) (w : World) (hk : L.length ≤ 5000) (hR : Rs w b off L.length fun i => L.getD i 0) :
    Calls Tryd.prog 22 #[.slice (some ⟨b, off, none⟩) L.length cap, .func (.func 11) #[] #[]] w fun e w' => e = .returned (.int .i64 (L.countP gB : Nat)) ∧ w' = w := by
  have HR : Hid (Rs w b off L.length fun i => L.getD i 0) := hR
  clear hR
  have hall : L.countP gB = (L.take L.length).countP gB := by rw [List.take_length]
  rw [hall]
  have HS : Hid (∀ j, j < L.length → (L.take (j + 1)).countP gB = (L.take j).countP gB + (bif gB (L.getD j 0) then 1 else 0)) := fun j h => cnt_succ gB L j h
  have HL : Hid (∀ j, (L.take j).countP gB ≤ j) := fun j => cnt_le gB L j
  have H0 : Hid ((L.take 0).countP gB = 0) := by show _ = _; simp
  clear hall
  generalize hC : (fun j => (L.take j).countP gB) = C
  have hC' : ∀ j, (L.take j).countP gB = C j := fun j => by rw [← hC]
  simp only [hC'] at HS HL H0 ⊢
  clear hC hC'
  generalize hN : L.length = N at hk HR HS ⊢
  clear hN
  go_enter Tryd.func22, Tryd.ntmps22
  go_wp2
  go_loopg [5, 10] N (fun m n i wr => ∃ j : Nat, j ≤ N ∧ m = N - j ∧ n = .int .i64 (C j : Nat) ∧ i = .int .i64 j ∧ wr = w)
  case atStart => exact ⟨0, Nat.zero_le _, rfl, by rw [H0.out]; rfl, rfl, rfl⟩
  case round =>
    obtain ⟨j, hj, hm, rfl, rfl, rfl⟩ := hrel
    by_cases hlt : j < N
    · have z0 : (0 : Int) ≤ (j : Int) := by omega
      have z1 : (j : Int) < (N : Int) := by omega
      have hc : wr.cell? ⟨b, off + j, none⟩ = some (.int .i32 (L.getD j 0)) := HR.out j hlt
      have hs := HS.out j hlt
      have hl := HL.out j
      have cg := great_any (L.getD j 0) wr
      generalize L.getD j 0 = r at hc hs cg
      cases hb : gB r
      · rw [hb] at cg hs
        have hs' : Hid (C (j + 1) = C j) := hs
        clear hs hb
        go_wp2_with fail
        refine cg.mono ?_
        rintro e w' ⟨rfl, rfl⟩
        go_wp2
        go_roundg (N - (j + 1))
        case measure => omega
        case rel => exact ⟨j + 1, by omega, rfl, by rw [hs'.out], by go_num, rfl⟩
      · rw [hb] at cg hs
        have hs' : Hid (C (j + 1) = C j + 1) := hs
        clear hs hb
        go_wp2_with fail
        refine cg.mono ?_
        rintro e w' ⟨rfl, rfl⟩
        go_wp2
        go_roundg (N - (j + 1))
        case measure => omega
        case rel => exact ⟨j + 1, by omega, rfl, by rw [hs'.out]; go_num, by go_num, rfl⟩
    · obtain rfl : j = N := by omega
      go_wp2_with fail
      go_ret
      exact ⟨rfl, rfl⟩
theorem count_great_any (L : List Int) (v : Value) (w : World) (hk : L.length ≤ 5000) (hR : RLs w v L) :
    Calls Tryd.prog 22 #[v, .func (.func 11) #[] #[]] w fun e w' => e = .returned (.int .i64 (L.countP gB : Nat)) ∧ w' = w := by
  rcases hR with ⟨ad, c, rfl, hz⟩ | ⟨b, off, c, rfl, h⟩
  · obtain rfl : L = [] := List.eq_nil_of_length_eq_zero hz
    exact count_zero 11 ad c w
  · exact count_great_at L b off c w hk h
set_option maxHeartbeats 1000000 in
theorem count_small_at (L : List Int) (b off cap : Nat) (w : World) (hk : L.length ≤ 5000) (hf : ∀ r, r ∈ L → Fit r) (hR : Rs w b off L.length fun i => L.getD i 0) :
    Calls Tryd.prog 22 #[.slice (some ⟨b, off, none⟩) L.length cap, .func (.func 12) #[] #[]] w fun e w' => e = .returned (.int .i64 (L.countP sB : Nat)) ∧ w' = w := by
  have HR : Hid (Rs w b off L.length fun i => L.getD i 0) := hR
  clear hR
  have HF : Hid (∀ j, j < L.length → Fit (L.getD j 0)) := fun j h => hf _ (by simp [List.getD, List.getElem?_eq_getElem h])
  clear hf
  have hall : L.countP sB = (L.take L.length).countP sB := by rw [List.take_length]
  rw [hall]
  have HS : Hid (∀ j, j < L.length → (L.take (j + 1)).countP sB = (L.take j).countP sB + (bif sB (L.getD j 0) then 1 else 0)) := fun j h => cnt_succ sB L j h
  have HL : Hid (∀ j, (L.take j).countP sB ≤ j) := fun j => cnt_le sB L j
  have H0 : Hid ((L.take 0).countP sB = 0) := by show _ = _; simp
  clear hall
  generalize hC : (fun j => (L.take j).countP sB) = C
  have hC' : ∀ j, (L.take j).countP sB = C j := fun j => by rw [← hC]
  simp only [hC'] at HS HL H0 ⊢
  clear hC hC'
  generalize hN : L.length = N at hk HR HS HF ⊢
  clear hN
  go_enter Tryd.func22, Tryd.ntmps22
  go_wp2
  go_loopg [5, 10] N (fun m n i wr => ∃ j : Nat, j ≤ N ∧ m = N - j ∧ n = .int .i64 (C j : Nat) ∧ i = .int .i64 j ∧ wr = w)
  case atStart => exact ⟨0, Nat.zero_le _, rfl, by rw [H0.out]; rfl, rfl, rfl⟩
  case round =>
    obtain ⟨j, hj, hm, rfl, rfl, rfl⟩ := hrel
    by_cases hlt : j < N
    · have z0 : (0 : Int) ≤ (j : Int) := by omega
      have z1 : (j : Int) < (N : Int) := by omega
      have hc : wr.cell? ⟨b, off + j, none⟩ = some (.int .i32 (L.getD j 0)) := HR.out j hlt
      have hs := HS.out j hlt
      have hl := HL.out j
      have cg := small_any (L.getD j 0) (HF.out j hlt) wr
      generalize L.getD j 0 = r at hc hs cg
      cases hb : sB r
      · rw [hb] at cg hs
        have hs' : Hid (C (j + 1) = C j) := hs
        clear hs hb
        go_wp2_with fail
        refine cg.mono ?_
        rintro e w' ⟨rfl, rfl⟩
        go_wp2
        go_roundg (N - (j + 1))
        case measure => omega
        case rel => exact ⟨j + 1, by omega, rfl, by rw [hs'.out], by go_num, rfl⟩
      · rw [hb] at cg hs
        have hs' : Hid (C (j + 1) = C j + 1) := hs
        clear hs hb
        go_wp2_with fail
        refine cg.mono ?_
        rintro e w' ⟨rfl, rfl⟩
        go_wp2
        go_roundg (N - (j + 1))
        case measure => omega
        case rel => exact ⟨j + 1, by omega, rfl, by rw [hs'.out]; go_num, by go_num, rfl⟩
    · obtain rfl : j = N := by omega
      go_wp2_with fail
      go_ret
      exact ⟨rfl, rfl⟩
theorem count_small_any (L : List Int) (v : Value) (w : World) (hk : L.length ≤ 5000) (hf : ∀ r, r ∈ L → Fit r) (hR : RLs w v L) :
    Calls Tryd.prog 22 #[v, .func (.func 12) #[] #[]] w fun e w' => e = .returned (.int .i64 (L.countP sB : Nat)) ∧ w' = w := by
  rcases hR with ⟨ad, c, rfl, hz⟩ | ⟨b, off, c, rfl, h⟩
  · obtain rfl : L = [] := List.eq_nil_of_length_eq_zero hz
    exact count_zero 12 ad c w
  · exact count_small_at L b off c w hk hf h
end Go.Proofs.YtakieogegfmepaaDoor
