/- Digits that a closure lays: the newest one ahead of the others. -/
import Derived.Test.YtkfgfbdalkifjaaDoorwBkP
import Derived.Test.YtkfgfbdalkifjaaDoorwApB
namespace Go.Proofs.YtkfgfbdalkifjaaDoor
set_option linter.unusedVariables false
open Go.RowKit Go.ChangeShapes
def RS (w : World) (v : Value) (l : List Int) : Prop := (l = [] ∧ v = .slice none 0 0) ∨ ∃ g cap, 0 < l.length ∧ v = .slice (some ⟨g, 0, none⟩) l.length cap ∧ l.length ≤ cap ∧ cap ≤ maxLen ∧ BC w (some ⟨g, 0, none⟩) l.length (cL l)
theorem RS.stay {w w' : World} {v : Value} {l : List Int} (h : RS w v l) (hb : Below w.heap.size w w') : RS w' v l := by
  rcases h with h | ⟨g, cap, h0, h1, h2, h3, h4⟩
  · exact Or.inl h
  · exact Or.inr ⟨g, cap, h0, h1, h2, h3, h4.stay hb⟩
theorem RS.form {w : World} {v : Value} {l : List Int} (h : RS w v l) : ∃ ad cap, v = .slice ad l.length cap := by
  rcases h with ⟨rfl, rfl⟩ | ⟨g, cap, h0, rfl, _⟩
  · exact ⟨_, _, rfl⟩
  · exact ⟨_, _, rfl⟩
theorem appR_wp {w : World} {o : Oper} {a : Act} {K : Act → World → Prop} {Q : Exit → Act → World → Prop} (s x : Operand)
    (ho : o.op = .call { callee := .builtin .append, args := #[s, x], argTypes := #[22, 22] })
    (A : Nat) (z : Int) (hs : a.eval s = .slice (some ⟨A, 0, none⟩) 1 1) (hz0 : BC w (some ⟨A, 0, none⟩) 1 (cL [z])) (v : Value) (l : List Int) (hx : a.eval x = v) (hr : RS w v l) (h63 : l.length ≤ 100000)
    (h : ∀ v' w', RS w' v' (z :: l) → Below w.heap.size w w' → K (a.put o.dst v') w') : o.wp Tryd.prog a w K Q := by
  rcases hr with ⟨rfl, rfl⟩ | ⟨g, cap, h0, rfl, h2, h3, h4⟩
  · obtain ⟨i, hi, hz, hsize, hby⟩ := info_parts info5
    have hrun : (Builtin.append_ #[22, 22] o.type #[.slice (some ⟨A, 0, none⟩) 1 1, .slice none 0 0]).run Tryd.prog w = .ok (.slice (some ⟨A, 0, none⟩) 1 1) w := by
      simp [Builtin.append_, run_underlying Tryd.underlying22, sizeOf, typeInfo, hi, Builtin.lenOf, Builtin.firstCells, storeCells]
    unfold Oper.wp
    simp [execOp, ho, resolve, invoke, builtin, hs, hx, hrun, Result.andThen]
    refine h _ _ (Or.inr ⟨A, 1, Nat.zero_lt_one, rfl, Nat.le_refl _, by unfold maxLen; omega, hz0⟩) (Below.refl _ _)
  · refine app1_wp s x ho A z hs hz0 g 0 l.length cap (cL l) hx h4 h0 h63 ?_
    intro g' cp' w' hb hc1 hc2 hB
    rw [cl_cL] at hb
    have e : (z :: l).length = 1 + l.length := by rw [List.length_cons, Nat.add_comm]
    exact h _ _ (Or.inr ⟨g', cp', by simp, by rw [e], by rw [e]; exact hc1, hc2, by rw [e]; exact hb⟩) hB
theorem appR {w : World} {ops : Array Oper} {rest : List Oper} {o : Oper} {a : Act} {Q : Exit → Act → World → Prop} (hgd : o.guard = none) (s x : Operand)
    (ho : o.op = .call { callee := .builtin .append, args := #[s, x], argTypes := #[22, 22] })
    (A : Nat) (z : Int) (hs : a.eval s = .slice (some ⟨A, 0, none⟩) 1 1) (hz0 : BC w (some ⟨A, 0, none⟩) 1 (cL [z])) (v : Value) (l : List Int) (hx : a.eval x = v) (hr : RS w v l) (h63 : l.length ≤ 100000)
    (h : ∀ v' w', RS w' v' (z :: l) → Below w.heap.size w w' → wpList Tryd.prog ops Q rest (a.put o.dst v') w') : wpList Tryd.prog ops Q (o :: rest) a w :=
  wpList_plain hgd fun _ hK => appR_wp s x ho A z hs hz0 v l hx hr h63 fun v' w' h2 h3 => hK _ _ (h v' w' h2 h3)
set_option maxRecDepth 100000 in
set_option maxHeartbeats 4000000 in
theorem bkdig_any {w : World} {p : Nat} {n b k : Nat} (hn : n ≤ 1114111) (hb : b = 10 ∨ b = 16) (hk : 1 ≤ k ∧ k ≤ 8) (hp : w.cell? ⟨p, 0, none⟩ = some (.int .u32 (n : Int))) :
    Calls Tryd.prog 24 #[.int .u32 (b : Int), .int .u32 (k : Int), .pointer (some ⟨p, 0, none⟩)] w fun e w' => ∃ L, DT b k n L ∧ e = .returned (.string (strOfNums L)) ∧ Below w.heap.size w w' := by
  have hB0 : (b : Int) ≠ 0 := by omega
  have hB1 : (0 : Int) < (b : Int) := by omega
  have hB2 : (b : Int) ≤ 16 := by omega
  have HK : Hid (1 ≤ k ∧ k ≤ 8) := hk
  have HN : Hid (n ≤ 1114111) := hn
  have HB : Hid (b = 10 ∨ b = 16) := hb
  clear hk hn
  go_enter Tryd.func24, Tryd.ntmps24
  go_wp2_with fail
  clear hp
  go_loopg [6, 7] 9 (fun q bv xv wr => ∃ l, q = 9 - l.length ∧ l.length ≤ 8 ∧ xv = .int .u32 ((n / b ^ l.length : Nat) : Int) ∧ Hid (Dg b n l ∧ (l.length ≤ k ∨ 0 < n / b ^ (l.length - 1))) ∧ Hid (RS wr bv l ∧ Up w.heap.size w wr))
  case atStart => exact ⟨[], rfl, by decide, by simp, ⟨Dg.none b n, Or.inl (Nat.zero_le _)⟩, Or.inl ⟨rfl, rfl⟩, Up.refl w⟩
  case round =>
    obtain ⟨l, hq, hl8, rfl, HD, HR⟩ := hrel
    obtain ⟨ad, cap, rfl⟩ := HR.out.1.form
    obtain ⟨y, hy⟩ : ∃ y, n / b ^ l.length = y := ⟨_, rfl⟩
    have HY : Hid (n / b ^ l.length = y) := hy
    have hyn : y ≤ 1114111 := by rw [← hy]; exact Nat.le_trans (Nat.div_le_self _ _) HN.out
    rw [hy]
    have hwl : IntKind.u32.wrap (l.length : Int) = (l.length : Int) := by unfold IntKind.wrap; simp [IntKind.bits, IntKind.signed]; omega
    have hyb : y % b < 16 := by have := Nat.mod_lt y (show 0 < b by omega); omega
    have hmod : (y : Int).tmod (b : Int) = ((y % b : Nat) : Int) := rfl
    have hquo : (y : Int).tdiv (b : Int) = ((y / b : Nat) : Int) := rfl
    by_cases hgo : 0 < y ∨ l.length < k
    · have hlt : l.length < 8 := by
        rcases hgo with h | h
        · have h1 := pow_less (m := 7) (b := b) (n := n) (j := l.length) (by omega) (by
            have h2 := HN.out
            rcases HB.out with rfl | rfl
            · exact Nat.lt_of_le_of_lt h2 (by decide)
            · exact Nat.lt_of_le_of_lt h2 (by decide)) (by rw [hy]; exact h)
          omega
        · have := HK.out
          omega
      have hdc : ((({ data := #[48, 49, 50, 51, 52, 53, 54, 55, 56, 57, 97, 98, 99, 100, 101, 102] } : ByteArray)[y % b]'hyb).toNat : Int) = dC (y % b) := by
        have key : ∀ d : Fin 16, ((({ data := #[48, 49, 50, 51, 52, 53, 54, 55, 56, 57, 97, 98, 99, 100, 101, 102] } : ByteArray)[d.1]'d.2).toNat : Int) = dC d.1 := by decide
        exact key ⟨y % b, hyb⟩
      by_cases hyp : (0 : Int) < (y : Int)
      · skip
        go_wp2_with (at_builtin; refine appR rfl _ _ rfl wr.heap.size _ rfl (lit_row wr _) _ l rfl (HR.out.1.stay (below_alloc wr _)) (by omega) ?_)
        intro v' w3 hr3 hb3
        have HR3 : Hid (RS w3 v' (dC (y % b) :: l) ∧ Up w.heap.size w w3) := ⟨by exact hr3, (HR.out.2.stay (below_alloc wr _)).stay (by rw [World.size_alloc]; exact hb3)⟩
        clear hr3 hb3 hdc
        go_wp2
        go_roundg (9 - (l.length + 1))
        case measure => omega
        case rel =>
          have hcong : n / b ^ (dC (y % b) :: l).length = y / b := by rw [List.length_cons, Nat.pow_succ, ← Nat.div_div_eq_div_mul, HY.out]
          have hD := HD.out.1.more (by omega) (by omega)
          rw [HY.out] at hD
          refine ⟨dC (y % b) :: l, by rw [List.length_cons], by rw [List.length_cons]; omega, ?_, ⟨hD, ?_⟩, HR3.out⟩
          · rw [hcong]
            have hle := Nat.div_le_self y b
            show Value.int .u32 (((y / b : Nat) : Int) % 4294967296) = _
            clear hcong
            obtain ⟨q, hq⟩ : ∃ q, y / b = q := ⟨_, rfl⟩
            rw [hq] at hle ⊢
            rw [Int.emod_eq_of_lt (Int.natCast_nonneg q) (by omega)]
          · rw [List.length_cons, Nat.add_sub_cancel, HY.out]
            omega
      · have hkl : (l.length : Int) < (k : Int) := by omega
        obtain rfl : y = 0 := by omega
        go_wp2_with (at_builtin; refine appR rfl _ _ rfl wr.heap.size _ rfl (lit_row wr _) _ l rfl (HR.out.1.stay (below_alloc wr _)) (by omega) ?_)
        intro v' w3 hr3 hb3
        have HR3 : Hid (RS w3 v' (dC (0 % b) :: l) ∧ Up w.heap.size w w3) := ⟨by rw [Nat.zero_mod]; exact hr3, (HR.out.2.stay (below_alloc wr _)).stay (by rw [World.size_alloc]; exact hb3)⟩
        clear hr3 hb3 hdc
        go_wp2
        go_roundg (9 - (l.length + 1))
        case measure => omega
        case rel =>
          have hcong : n / b ^ (dC (0 % b) :: l).length = 0 / b := by rw [List.length_cons, Nat.pow_succ, ← Nat.div_div_eq_div_mul, HY.out]
          have hD := HD.out.1.more (by omega) (by omega)
          rw [HY.out] at hD
          refine ⟨dC (0 % b) :: l, by rw [List.length_cons], by rw [List.length_cons]; omega, ?_, ⟨hD, ?_⟩, HR3.out⟩
          · rw [hcong]
            rw [Nat.zero_div]; rfl
          · rw [List.length_cons, Nat.add_sub_cancel, HY.out]
            omega
    · have hy0 : y = 0 := by omega
      subst hy0
      have hkl : ¬ ((l.length : Int) < (k : Int)) := by omega
      have hl0 : l ≠ [] := by
        intro e
        subst e
        have := HK.out
        simp at hkl
        omega
      have hbc : BC wr (some ⟨0, 0, none⟩) 0 (cL l) := fun i hi => by omega
      have hcv : (convert 22 9 (.slice ad l.length cap)).run Tryd.prog wr = .ok (.string (strOfNums l)) wr := by
        rcases HR.out.1 with ⟨e, _⟩ | ⟨g, c2, h0, e, h2, h3, h4⟩
        · exact absurd e hl0
        · injection e with e1 e2 e3
          subst e1 e3
          rw [str_bc h4, cl_cL]
      go_wp2
      go_ret
      exact ⟨l, ⟨HD.out.1.dig, HD.out.1.full (by have := HB.out; omega) HY.out, by omega, by have := HD.out.2; exact this⟩, rfl, HR.out.2.1⟩
end Go.Proofs.YtkfgfbdalkifjaaDoor
