/- SpanAsks returns true for any span and any two numbers of Go's int, and writes nothing that was there. -/
import Derived.Test.YtmhbdiaihjhmiaaKit
namespace Go.Proofs.Ytmhbdiaihjhmiaa
open Go.RowKit Go.ChangeShapes
theorem has_S (S : World → Prop) (hS : ∀ w w', S w → Below w.heap.size w w' → S w') (a l p : Int) (w : World) (h : S w) :
    Calls Try.prog 13 #[.agg #[.int .i64 a, .int .i64 l], .int .i64 p] w fun e w' => e = .returned (.bool (hasB a l p)) ∧ S w' :=
  (has_any a l p w).mono fun _ _ ⟨he, hb⟩ => ⟨he, hS _ _ h hb⟩
theorem AskS_stay (w : World) (a l : Int) : ∀ v v', (fun w' => w'.cell? ⟨w.heap.size, 0, none⟩ = some (.int .i64 a) ∧ w'.cell? ⟨w.heap.size, 1, none⟩ = some (.int .i64 l) ∧ w.heap.size < w'.heap.size ∧ Up w.heap.size w w') v → Below v.heap.size v v' → (fun w' => w'.cell? ⟨w.heap.size, 0, none⟩ = some (.int .i64 a) ∧ w'.cell? ⟨w.heap.size, 1, none⟩ = some (.int .i64 l) ∧ w.heap.size < w'.heap.size ∧ Up w.heap.size w w') v' :=
  fun v v' h hb => by
    obtain ⟨h0, h1, h2, h3⟩ := h
    have L : Lies v w.heap.size a l := ⟨h0, h1, h2⟩
    obtain ⟨k0, k1, k2⟩ := L.stay hb
    exact ⟨k0, k1, k2, h3.stay hb⟩
theorem AskS_drew {w v : World} {a l : Int} (h : (fun w' => w'.cell? ⟨w.heap.size, 0, none⟩ = some (.int .i64 a) ∧ w'.cell? ⟨w.heap.size, 1, none⟩ = some (.int .i64 l) ∧ w.heap.size < w'.heap.size ∧ Up w.heap.size w w') v) : (fun w' => w'.cell? ⟨w.heap.size, 0, none⟩ = some (.int .i64 a) ∧ w'.cell? ⟨w.heap.size, 1, none⟩ = some (.int .i64 l) ∧ w.heap.size < w'.heap.size ∧ Up w.heap.size w w') v.drew := AskS_stay w a l v _ h ((Below.refl _ _).drew)
set_option maxHeartbeats 2000000 in
theorem asks_off (a l n p : Int) (w : World) (hn : n ≤ 9223372036854775807) (i : Bool) (hi : insB a l n = i) (hs : sndB a l = false) (hh : hasB a l p = false) :
    Calls Try.prog 3 #[.agg #[.int .i64 a, .int .i64 l], .int .i64 n, .int .i64 p] w fun e w' => e = .returned (.bool true) ∧ Below w.heap.size w w' := by
  have E0 : errB false = 2 := by decide
  have E1 : errB true = 0 := by decide
  cases i
  all_goals
    go_enter Try.func3, Try.ntmps3
    go_wp2_with fail
    refine (awake_any _).mono ?_
    rintro e w1 ⟨rfl, hb1⟩
    have g1 := (Up.refl w).step hb1
    have La1 : Lies w1 w.heap.size a l := Lies.fresh hb1
    clear hb1
    obtain ⟨ca0, ca1, ca2⟩ := id La1
    go_wp2_with fail
    refine (check_bel a l n _ hn).mono ?_
    rintro e w2 ⟨rfl, hb2⟩
    have g2 := g1.stay hb2
    have La2 : Lies w2 w.heap.size a l := La1.stay hb2
    clear hb2 g1 La1 ca0 ca1 ca2
    obtain ⟨ca0, ca1, ca2⟩ := id La2
    go_wp2_with fail
    refine (end2_any a l _).mono ?_
    rintro e w3 ⟨rfl, hb3⟩
    have g3 := g2.stay hb3
    have La3 : Lies w3 w.heap.size a l := La2.stay hb3
    clear hb3 g2 La2 ca0 ca1 ca2
    obtain ⟨ca0, ca1, ca2⟩ := id La3
    go_wp2_with fail
    refine (refIn_bel a l n _ hn).mono ?_
    rintro e w4 ⟨rfl, hb4⟩
    have g4 := g3.stay hb4
    have La4 : Lies w4 w.heap.size a l := La3.stay hb4
    clear hb4 g3 La3 ca0 ca1 ca2
    obtain ⟨ca0, ca1, ca2⟩ := id La4
    go_wp2_with fail
    refine (refSound_bel a l _).mono ?_
    rintro e w5 ⟨rfl, hb5⟩
    have g5 := g4.stay hb5
    have La5 : Lies w5 w.heap.size a l := La4.stay hb5
    clear hb5 g4 La4 ca0 ca1 ca2
    obtain ⟨ca0, ca1, ca2⟩ := id La5
    go_wp2_with fail
    refine (has_any a l p _).mono ?_
    rintro e w6 ⟨rfl, hb6⟩
    have g6 := g5.stay hb6
    have La6 : Lies w6 w.heap.size a l := La5.stay hb6
    clear hb6 g5 La5 ca0 ca1 ca2
    obtain ⟨ca0, ca1, ca2⟩ := id La6
    have G : Hid (Up w.heap.size w w6) := g6
    clear g6
    go_wp2
    go_ret
    exact ⟨rfl, G.out.1⟩
set_option maxHeartbeats 2000000 in
theorem asks_in (a l n p : Int) (w : World) (hn : n ≤ 9223372036854775807) (q1 : 0 ≤ a) (q2 : a ≤ 65536) (q3 : 0 ≤ l) (q4 : l ≤ 65536) (i : Bool) (hi : insB a l n = i) (hs : sndB a l = true) (h1 : a ≤ p) (h2 : p < a + l) (hh : hasB a l p = true) :
    Calls Try.prog 3 #[.agg #[.int .i64 a, .int .i64 l], .int .i64 n, .int .i64 p] w fun e w' => e = .returned (.bool true) ∧ Below w.heap.size w w' := by
  have E0 : errB false = 2 := by decide
  have E1 : errB true = 0 := by decide
  have hw : IntKind.i64.wrap (a + l) = a + l := Go.IntWalk.i64_in _ (by omega)
  cases i
  all_goals
    go_enter Try.func3, Try.ntmps3
    go_wp2_with fail
    refine (awake_any _).mono ?_
    rintro e w1 ⟨rfl, hb1⟩
    have g1 := (Up.refl w).step hb1
    have La1 : Lies w1 w.heap.size a l := Lies.fresh hb1
    clear hb1
    obtain ⟨ca0, ca1, ca2⟩ := id La1
    go_wp2_with fail
    refine (check_bel a l n _ hn).mono ?_
    rintro e w2 ⟨rfl, hb2⟩
    have g2 := g1.stay hb2
    have La2 : Lies w2 w.heap.size a l := La1.stay hb2
    clear hb2 g1 La1 ca0 ca1 ca2
    obtain ⟨ca0, ca1, ca2⟩ := id La2
    go_wp2_with fail
    refine (end2_any a l _).mono ?_
    rintro e w3 ⟨rfl, hb3⟩
    have g3 := g2.stay hb3
    have La3 : Lies w3 w.heap.size a l := La2.stay hb3
    clear hb3 g2 La2 ca0 ca1 ca2
    obtain ⟨ca0, ca1, ca2⟩ := id La3
    go_wp2_with fail
    refine (refIn_bel a l n _ hn).mono ?_
    rintro e w4 ⟨rfl, hb4⟩
    have g4 := g3.stay hb4
    have La4 : Lies w4 w.heap.size a l := La3.stay hb4
    clear hb4 g3 La3 ca0 ca1 ca2
    obtain ⟨ca0, ca1, ca2⟩ := id La4
    go_wp2_with fail
    refine (refSound_bel a l _).mono ?_
    rintro e w5 ⟨rfl, hb5⟩
    have g5 := g4.stay hb5
    have La5 : Lies w5 w.heap.size a l := La4.stay hb5
    clear hb5 g4 La4 ca0 ca1 ca2
    obtain ⟨ca0, ca1, ca2⟩ := id La5
    go_wp2_with fail
    have hS : (fun w' => w'.cell? ⟨w.heap.size, 0, none⟩ = some (.int .i64 a) ∧ w'.cell? ⟨w.heap.size, 1, none⟩ = some (.int .i64 l) ∧ w.heap.size < w'.heap.size ∧ Up w.heap.size w w') w5 := ⟨ca0, ca1, ca2, g5⟩
    go_region_held3 (fun w' => w'.cell? ⟨w.heap.size, 0, none⟩ = some (.int .i64 a) ∧ w'.cell? ⟨w.heap.size, 1, none⟩ = some (.int .i64 l) ∧ w.heap.size < w'.heap.size ∧ Up w.heap.size w w') (first | assumption | exact AskS_drew ‹_›) (first | (go_at_call 13; refine (has_S _ (AskS_stay w a l) a l p _ (by assumption)).mono ?_; rintro e w' ⟨rfl, hw'⟩))
    all_goals
      go_wp2
      go_ret
      exact ⟨rfl, (And.right (And.right (And.right hw'))).1⟩
set_option maxHeartbeats 2000000 in
theorem asks_behind (a l n p : Int) (w : World) (hn : n ≤ 9223372036854775807) (q1 : 0 ≤ a) (q2 : a ≤ 65536) (q3 : 0 ≤ l) (q4 : l ≤ 65536) (i : Bool) (hi : insB a l n = i) (hs : sndB a l = true) (h1 : a ≤ p) (h2 : a + l ≤ p) (hh : hasB a l p = false) :
    Calls Try.prog 3 #[.agg #[.int .i64 a, .int .i64 l], .int .i64 n, .int .i64 p] w fun e w' => e = .returned (.bool true) ∧ Below w.heap.size w w' := by
  have E0 : errB false = 2 := by decide
  have E1 : errB true = 0 := by decide
  have hw : IntKind.i64.wrap (a + l) = a + l := Go.IntWalk.i64_in _ (by omega)
  have d2 : decide (p < a + l) = false := by simpa using h2
  cases i
  all_goals
    go_enter Try.func3, Try.ntmps3
    go_wp2_with fail
    refine (awake_any _).mono ?_
    rintro e w1 ⟨rfl, hb1⟩
    have g1 := (Up.refl w).step hb1
    have La1 : Lies w1 w.heap.size a l := Lies.fresh hb1
    clear hb1
    obtain ⟨ca0, ca1, ca2⟩ := id La1
    go_wp2_with fail
    refine (check_bel a l n _ hn).mono ?_
    rintro e w2 ⟨rfl, hb2⟩
    have g2 := g1.stay hb2
    have La2 : Lies w2 w.heap.size a l := La1.stay hb2
    clear hb2 g1 La1 ca0 ca1 ca2
    obtain ⟨ca0, ca1, ca2⟩ := id La2
    go_wp2_with fail
    refine (end2_any a l _).mono ?_
    rintro e w3 ⟨rfl, hb3⟩
    have g3 := g2.stay hb3
    have La3 : Lies w3 w.heap.size a l := La2.stay hb3
    clear hb3 g2 La2 ca0 ca1 ca2
    obtain ⟨ca0, ca1, ca2⟩ := id La3
    go_wp2_with fail
    refine (refIn_bel a l n _ hn).mono ?_
    rintro e w4 ⟨rfl, hb4⟩
    have g4 := g3.stay hb4
    have La4 : Lies w4 w.heap.size a l := La3.stay hb4
    clear hb4 g3 La3 ca0 ca1 ca2
    obtain ⟨ca0, ca1, ca2⟩ := id La4
    go_wp2_with fail
    refine (refSound_bel a l _).mono ?_
    rintro e w5 ⟨rfl, hb5⟩
    have g5 := g4.stay hb5
    have La5 : Lies w5 w.heap.size a l := La4.stay hb5
    clear hb5 g4 La4 ca0 ca1 ca2
    obtain ⟨ca0, ca1, ca2⟩ := id La5
    go_wp2_with fail
    have hS : (fun w' => w'.cell? ⟨w.heap.size, 0, none⟩ = some (.int .i64 a) ∧ w'.cell? ⟨w.heap.size, 1, none⟩ = some (.int .i64 l) ∧ w.heap.size < w'.heap.size ∧ Up w.heap.size w w') w5 := ⟨ca0, ca1, ca2, g5⟩
    go_region_held3 (fun w' => w'.cell? ⟨w.heap.size, 0, none⟩ = some (.int .i64 a) ∧ w'.cell? ⟨w.heap.size, 1, none⟩ = some (.int .i64 l) ∧ w.heap.size < w'.heap.size ∧ Up w.heap.size w w') (first | assumption | exact AskS_drew ‹_›) (first | (go_at_call 13; refine (has_S _ (AskS_stay w a l) a l p _ (by assumption)).mono ?_; rintro e w' ⟨rfl, hw'⟩))
    all_goals
      go_wp2
      go_ret
      exact ⟨rfl, (And.right (And.right (And.right hw'))).1⟩
end Go.Proofs.Ytmhbdiaihjhmiaa
