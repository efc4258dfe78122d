/- FaultPeels: from the outside inwards. -/
import Derived.Test.YthdjadkdjljciaaDoordIsA
namespace Go.Proofs.YthdjadkdjljciaaDoor
set_option linter.unusedVariables false
open Go.RowKit Go.ChangeShapes
/-- Errors that say nothing. -/
def Oth (q : List Nd) : Prop := ∀ x ∈ q, x.o = true
theorem oth_hit : ∀ {q : List Nd} (l : List Nd), Oth q → hit (q ++ l) = hit l
  | [], _, _ => rfl
  | x :: q, l, h => by
    rw [List.cons_append, show hit (x :: (q ++ l)) = hit (q ++ l) by simp [hit, h x (by simp)]]
    exact oth_hit l fun y hy => h y (by simp [hy])
theorem oth_whS : ∀ {q : List Nd} (l : List Nd), Oth q → whS (q ++ l) = whS l
  | [], _, _ => rfl
  | x :: q, l, h => by
    rw [List.cons_append, show whS (x :: (q ++ l)) = whS (q ++ l) by simp [whS, h x (by simp)]]
    exact oth_whS l fun y hy => h y (by simp [hy])
theorem oth_whN : ∀ {q : List Nd} (l : List Nd), Oth q → whN (q ++ l) = whN l
  | [], _, _ => rfl
  | x :: q, l, h => by
    rw [List.cons_append, show whN (x :: (q ++ l)) = whN (q ++ l) by simp [whN, h x (by simp)]]
    exact oth_whN l fun y hy => h y (by simp [hy])
theorem oth_inn : ∀ {q : List Nd} (l : List Nd), Oth q → inn (q ++ l) = inn l
  | [], _, _ => rfl
  | x :: q, l, h => by
    rw [List.cons_append, show inn (x :: (q ++ l)) = inn (q ++ l) by simp [inn, h x (by simp)]]
    exact oth_inn l fun y hy => h y (by simp [hy])
theorem lie_app {w : World} {t : Option Int} : ∀ (q : List Nd) {l : List Nd}, Lie w (q ++ l) t → Lie w l t
  | [], _, h => h
  | x :: q, l, h => lie_app q (l := l) h.2
/-- Where the loop stands. -/
def Pld (w : World) (F : Nat → ByteArray × Int × Bool) (n k : Nat) (c : Int) (v : Value) : Prop :=
  ∃ q l T x, Oth q ∧ q.length ≤ k ∧ v = .iface T x ∧ val (q ++ l) (some c) = .iface T x ∧ l.length + k = n ∧ Mt F k l ∧ Lie w (q ++ l) (some c)
theorem Pld.stay {w w' : World} {F : Nat → ByteArray × Int × Bool} {n k : Nat} {c : Int} {v : Value} (h : Pld w F n k c v) (hb : Below w.heap.size w w') : Pld w' F n k c v := by
  obtain ⟨q, l, T, x, h0, hq, h1, h2, h3, h4, h5⟩ := h
  exact ⟨q, l, T, x, h0, hq, h1, h2, h3, h4, h5.stay hb⟩
theorem Pld.alloc {w : World} {F : Nat → ByteArray × Int × Bool} {n k : Nat} {c : Int} {v : Value} (h : Pld w F n k c v) (o : Obj) : Pld (w.alloc o) F n k c v := h.stay ((Below.refl _ _).alloc (Nat.le_refl _) o)
set_option maxHeartbeats 1000000 in
theorem peels_some (c : Int) (hc : (c == 0) = false) (a : Option Addr) (len cap : Nat) (F : Nat → ByteArray × Int × Bool) (w : World) (hl : len ≤ 40) (hg : Ety w) (h : Pls w a len F) :
    Calls Tryd.prog 5 #[.int .i64 c, .slice a len cap] w fun e w' => e = .returned (.bool true) ∧ Below w.heap.size w w' := by
  have HG : Hid (Ety w) := hg
  have HP : Hid (Pls w a len F) := h
  have c7 := awake_any w hg
  clear hg h
  go_enter Tryd.func5, Tryd.ntmps5
  go_wp2_with fail
  refine c7.mono ?_
  rintro e w1 ⟨rfl, hb1⟩
  have HU1 : Hid (Up w.heap.size w w1) := (Up.refl w).stay hb1
  have c8 := made_any c hc a len cap F w1 hl (HP.out.stay hb1)
  clear c7 hb1
  go_wp2_with fail
  refine c8.mono ?_
  rintro e w2 ⟨v, rfl, ⟨l, T, x, rfl, hv, hll, hm, hL⟩, hb2⟩
  have HD : Hid (Pld w2 F len 0 c (.iface T x)) := ⟨[], l, T, x, fun _ h => (by cases h), Nat.le_refl _, rfl, hv, hll, hm, hL⟩
  have HU2 : Hid (Up w.heap.size w w2) := HU1.out.stay hb2
  clear c8 hb2 HU1 hv hll hm hL
  go_wp2
  go_loopg [5, 28] len (fun g err i wr => ∃ k : Nat, k ≤ len ∧ g = len - k ∧ i = .int .i64 k ∧ Hid (Pld wr F len k c err) ∧ Hid (Up w.heap.size w wr))
  case atStart => exact ⟨0, Nat.zero_le _, rfl, rfl, HD, HU2⟩
  case round =>
    obtain ⟨k, hk, hgk, rfl, HD, HU⟩ := hrel
    obtain ⟨q, l, T, x, hoq, hqk, rfl, hv, hl2, hm2, hL⟩ := HD.out
    by_cases hlt : k < len
    · rcases (HP.out.stay HU.out.1) with h0 | ⟨b, off, rfl, hr⟩
      · omega
      obtain ⟨hb, c0, c1, c2⟩ := hr k hlt
      clear hr HD
      match l, hv, hl2, hm2, hL with
      | [], _, hl2, _, _ => simp at hl2; omega
      | ⟨true, b1, s2, m2⟩ :: l3, hv, hl2, hm2, hL =>
        rw [hm2.1 rfl] at c2
        generalize (F k).1 = s1 at c0
        generalize (F k).2.1 = m1 at c1
        have HD : Hid (Pld wr F len (k + 1) c (.iface T x)) := ⟨q ++ [⟨true, b1, s2, m2⟩], l3, T, x, fun y hy => by rcases List.mem_append.1 hy with h | h; exact hoq y h; simp at h; rw [h], by simp; omega, rfl, by rw [List.append_assoc]; exact hv, by simp at hl2; omega, hm2.2.2, by rw [List.append_assoc]; exact hL⟩
        clear hl2 hm2 hv hL hoq hqk
        go_wp2
        go_roundg (len - (k + 1))
        case measure => omega
        case rel => exact ⟨k + 1, by omega, rfl, by go_num, HD.out.alloc _, HU.out.alloc _⟩
      | ⟨false, b1, s1, m1⟩ :: l3, hv, hl2, hm2, hL =>
        rw [hm2.2.1 rfl] at c0 c1 c2
        simp only at c0 c1 c2
        have HV : Hid (val (q ++ ⟨false, b1, s1, m1⟩ :: l3) (some c) = .iface T x ∧ l3.length + (k + 1) = len ∧ Mt F (k + 1) l3) := ⟨hv, by simp at hl2; omega, hm2.2.2⟩
        have HL : Hid (Lie wr (q ++ ⟨false, b1, s1, m1⟩ :: l3) (some c)) := hL
        have hql : (q ++ ⟨false, b1, s1, m1⟩ :: l3).length ≤ 100 := by simp at hl2 ⊢; omega
        have HQ : Hid (Oth q ∧ (q ++ ⟨false, b1, s1, m1⟩ :: l3).length ≤ 100) := ⟨hoq, hql⟩
        have cw := where_any (q ++ ⟨false, b1, s1, m1⟩ :: l3) (some c) T x (wr.alloc (.cells #[.string s1, .int .i64 m1, .bool false] 36)) hv hql (hL.alloc _) ((HG.out.stay HU.out.1).alloc _)
        rw [oth_whS _ hoq, oth_whN _ hoq, oth_hit _ hoq] at cw
        simp only [whS, whN, hit, Option.isSome, Bool.false_eq_true, if_false] at cw
        clear hv hl2 hm2 hL hoq hqk hql
        have HUW : Hid (Up w.heap.size w (wr.alloc (.cells #[.string s1, .int .i64 m1, .bool false] 36))) := HU.out.alloc _
        have HLW : Hid (Lie (wr.alloc (.cells #[.string s1, .int .i64 m1, .bool false] 36)) (q ++ ⟨false, b1, s1, m1⟩ :: l3) (some c)) := HL.out.alloc _
        have q0 : (wr.alloc (.cells #[.string s1, .int .i64 m1, .bool false] 36)).cell? ⟨wr.heap.size, 0, none⟩ = some (.string s1) := by simp
        have q1 : (wr.alloc (.cells #[.string s1, .int .i64 m1, .bool false] 36)).cell? ⟨wr.heap.size, 1, none⟩ = some (.int .i64 m1) := by simp
        have Q : Hid ((wr.alloc (.cells #[.string s1, .int .i64 m1, .bool false] 36)).cell? ⟨wr.heap.size, 0, none⟩ = some (.string s1) ∧ (wr.alloc (.cells #[.string s1, .int .i64 m1, .bool false] 36)).cell? ⟨wr.heap.size, 1, none⟩ = some (.int .i64 m1)) := ⟨q0, q1⟩
        clear q0 q1
        go_wp2_with fail
        refine cw.mono ?_
        rintro e w3 ⟨rfl, hb3⟩
        have e0 := cell_stay Q.out.1 hb3
        have e1 := cell_stay Q.out.2 hb3
        have HU3 : Hid (Up w.heap.size w w3) := HUW.out.stay hb3
        have HL3 : Hid (Lie w3 (q ++ ⟨false, b1, s1, m1⟩ :: l3) (some c)) := HLW.out.stay hb3
        clear hb3 cw Q HUW HLW HL HU c0 c1 c2
        have ci := inner_some (q ++ ⟨false, b1, s1, m1⟩ :: l3) l3 b1 (some c) T x w3 HV.out.1 HQ.out.2 HL3.out (HG.out.stay HU3.out.1) (by rw [oth_hit _ HQ.out.1]; rfl) (by rw [oth_inn _ HQ.out.1]; rfl)
        rcases val_shape l3 (some c) with ⟨_, _, e⟩ | ⟨T', x', e⟩
        · cases e
        have HE : Hid (val l3 (some c) = .iface T' x') := e
        rw [e] at ci
        clear e
        go_wp2_with fail
        refine ci.mono ?_
        rintro e w4 ⟨rfl, hb4⟩
        have HU4 : Hid (Up w.heap.size w w4) := HU3.out.stay hb4
        have HL4 : Hid (Lie w4 l3 (some c)) := (lie_app q HL3.out).2.stay hb4
        clear hb4 ci HL3 HU3 e0 e1
        go_wp2
        go_roundg (len - (k + 1))
        case measure => omega
        case rel => exact ⟨k + 1, by omega, rfl, by go_num, ⟨[], l3, T', x', fun _ h => (by cases h), Nat.zero_le _, rfl, HE.out, HV.out.2.1, HV.out.2.2, HL4.out⟩, HU4⟩
    · obtain rfl : k = len := by omega
      obtain rfl : l = [] := List.eq_nil_of_length_eq_zero (by omega)
      have HV : Hid (val (q ++ []) (some c) = .iface T x) := hv
      have HL : Hid (Lie wr (q ++ []) (some c)) := hL
      have cw := where_any (q ++ []) (some c) T x wr hv (by simp; omega) hL (HG.out.stay HU.out.1)
      rw [oth_whS _ hoq, oth_whN _ hoq, oth_hit _ hoq] at cw
      simp only [whS, whN, hit, Option.isSome] at cw
      clear hv hl2 hm2 hL HD hoq hqk
      go_wp2_with fail
      refine cw.mono ?_
      rintro e w3 ⟨rfl, hb3⟩
      have HU3 : Hid (Up w.heap.size w w3) := HU.out.stay hb3
      have ci := Is_any (q ++ []) c c T x w3 HV.out (HL.out.stay hb3)
      rw [beq_self_eq_true] at ci
      clear hb3 cw HL HU
      go_wp2_with fail
      refine ci.mono ?_
      rintro e w4 ⟨rfl, hb4⟩
      have HU4 : Hid (Up w.heap.size w w4) := HU3.out.stay hb4
      clear hb4 ci HU3
      go_wp2
      go_ret
      exact ⟨rfl, HU4.out.1⟩
theorem peels_zero (a : Option Addr) (len cap : Nat) (w : World) (hl : len ≤ 40) (hg : Ety w) :
    Calls Tryd.prog 5 #[.int .i64 0, .slice a len cap] w fun e w' => e = .returned (.bool true) ∧ Below w.heap.size w w' := by
  have c7 := awake_any w hg
  clear hg
  go_enter Tryd.func5, Tryd.ntmps5
  go_wp2_with fail
  refine c7.mono ?_
  rintro e w1 ⟨rfl, hb1⟩
  go_wp2
  go_ret
  exact ⟨rfl, hb1⟩
theorem peels_many (c : Int) (a : Option Addr) (len cap : Nat) (w : World) (hl : 40 < len) (hg : Ety w) :
    Calls Tryd.prog 5 #[.int .i64 c, .slice a len cap] w fun e w' => e = .returned (.bool true) ∧ Below w.heap.size w w' := by
  have c7 := awake_any w hg
  clear hg
  go_enter Tryd.func5, Tryd.ntmps5
  go_wp2_with fail
  refine c7.mono ?_
  rintro e w1 ⟨rfl, hb1⟩
  go_wp2
  go_ret
  exact ⟨rfl, hb1⟩
theorem peels_all (c : Int) (a : Option Addr) (len cap : Nat) (F : Nat → ByteArray × Int × Bool) (w : World) (hg : Ety w) (h : Pls w a len F) :
    Calls Tryd.prog 5 #[.int .i64 c, .slice a len cap] w fun e w' => e = .returned (.bool true) ∧ Below w.heap.size w w' := by
  by_cases hl : len ≤ 40
  · by_cases hc : c = 0
    · subst hc; exact peels_zero a len cap w hl hg
    · exact peels_some c (by simpa using hc) a len cap F w hl hg h
  · exact peels_many c a len cap w (by omega) hg
end Go.Proofs.YthdjadkdjljciaaDoor
