/- Where, Inner; an error of a number in places; the chapter's example. -/
import Derived.Test.YthdjadkdjljciaaDoordFis
namespace Go.Proofs.YthdjadkdjljciaaDoor
set_option linter.unusedVariables false
open Go.RowKit Go.ChangeShapes

/-- What Where tells. -/
def whS : List Nd → ByteArray
  | [] => ⟨#[]⟩
  | x :: l => if x.o then whS l else x.s
def whN : List Nd → Int
  | [] => 0
  | x :: l => if x.o then whN l else x.n
/-- What lies behind the outermost of a list. -/
def inn : List Nd → Option (List Nd)
  | [] => none
  | x :: l => if x.o then inn l else some l
theorem hit_some {w : World} {t : Option Int} : ∀ {l : List Nd} {b : Nat}, hit l = some b → Lie w l t → ∃ l', inn l = some l' ∧ w.heap[b]? = some (.cells #[.string (whS l), .int .i64 (whN l), val l' t] 46 (0, 0)) ∧ Lie w l' t
  | x :: l, b, h, hl => by
    cases hx : x.o
    · simp [hit, hx] at h
      subst h
      exact ⟨l, by simp [inn, hx], by simp [whS, whN, hx]; exact (hl.1 hx).1, hl.2⟩
    · simp [hit, hx] at h
      simpa [inn, whS, whN, hx] using hit_some (l := l) h hl.2
theorem hit_none : ∀ {l : List Nd}, hit l = none → whS l = ⟨#[]⟩ ∧ whN l = 0 ∧ inn l = none
  | [], _ => ⟨rfl, rfl, rfl⟩
  | x :: l, h => by
    cases hx : x.o
    · simp [hit, hx] at h
    · simp [hit, hx] at h
      simpa [inn, whS, whN, hx] using hit_none (l := l) h
theorem outer_val (l0 : List Nd) (t : Option Int) (T0 : TypeId) (v0 : Value) (w : World) (hv : val l0 t = .iface T0 v0) (hl : l0.length ≤ 100) (h : Lie w l0 t) (hg : Ety w) :
    Calls Tryd.prog 20 #[.iface T0 v0] w fun e w' => e = .returned (ptr (hit l0)) ∧ Below w.heap.size w w' := by
  rw [← hv]; exact outer_any l0 t w hl h hg (by rw [hv]; exact fun e => by cases e)
theorem code_val (l0 : List Nd) (t : Option Int) (T0 : TypeId) (v0 : Value) (w : World) (hv : val l0 t = .iface T0 v0) (hl : l0.length ≤ 100) (h : Lie w l0 t) (hg : Ety w) :
    Calls Tryd.prog 9 #[.iface T0 v0] w fun e w' => e = .returned (.int .i64 (numb t)) ∧ Below w.heap.size w w' := by
  rw [← hv]; exact code_any l0 t w hl h hg (by rw [hv]; exact fun e => by cases e)
theorem fis_val (l0 : List Nd) (c n : Int) (T0 : TypeId) (v0 : Value) (w : World) (hv : val l0 (some c) = .iface T0 v0) (hl : l0.length ≤ 100) (h : Lie w l0 (some c)) :
    Calls Tryd.prog 10 #[.iface T0 v0, .int .i64 n] w fun e w' => e = .returned (.bool (c == n)) ∧ Below w.heap.size w w' := by
  rw [← hv]; exact fis_any l0 c n w hl h
theorem where_nil (w : World) :
    Calls Tryd.prog 11 #[.nilIface] w fun e w' => e = .returned (.tuple #[.string ⟨#[]⟩, .int .i64 0, .bool false]) ∧ Below w.heap.size w w' := by
  go_enter Tryd.func11, Tryd.ntmps11
  go_wp2_with fail
  refine (outer_nil w).mono ?_
  rintro e w1 ⟨rfl, hb⟩
  go_wp2
  go_ret3
  exact ⟨rfl, hb⟩
theorem where_any (l0 : List Nd) (t : Option Int) (T0 : TypeId) (v0 : Value) (w : World) (hv : val l0 t = .iface T0 v0) (hl : l0.length ≤ 100) (h : Lie w l0 t) (hg : Ety w) :
    Calls Tryd.prog 11 #[.iface T0 v0] w fun e w' => e = .returned (.tuple #[.string (whS l0), .int .i64 (whN l0), .bool (hit l0).isSome]) ∧ Below w.heap.size w w' := by
  have c := outer_val l0 t T0 v0 w hv hl h hg
  cases ho : hit l0 with
  | none =>
    obtain ⟨e1, e2, e3⟩ := hit_none ho
    rw [e1, e2]
    rw [ho] at c
    clear hv h hg e1 e2 e3 ho
    go_enter Tryd.func11, Tryd.ntmps11
    go_wp2_with fail
    refine c.mono ?_
    rintro e w1 ⟨rfl, hb⟩
    simp only [ptr]
    go_wp2
    go_ret3
    exact ⟨rfl, hb⟩
  | some b =>
    obtain ⟨l', _, hc, _⟩ := hit_some ho h
    rw [ho] at c
    generalize whS l0 = s at *
    generalize whN l0 = n at *
    have HC : Hid (w.heap[b]? = some (.cells #[.string s, .int .i64 n, val l' t] 46 (0, 0))) := hc
    clear hv h hg ho hc
    go_enter Tryd.func11, Tryd.ntmps11
    go_wp2_with fail
    refine c.mono ?_
    rintro e w1 ⟨rfl, hb⟩
    simp only [ptr]
    have hc := (hb.block b (lt_of_heap HC.out)).trans HC.out
    have c0 : w1.cell? ⟨b, 0, none⟩ = some (.string s) := by simp [World.cell?, hc]
    have c1 : w1.cell? ⟨b, 1, none⟩ = some (.int .i64 n) := by simp [World.cell?, hc]
    have HB : Hid (Below w.heap.size w w1) := hb
    clear hb hc HC c
    go_wp2
    go_quiet (fail)
    go_wp2
    go_ret3
    exact ⟨rfl, below_drewN HB.out nq⟩
theorem inner_nil (w : World) :
    Calls Tryd.prog 12 #[.nilIface] w fun e w' => e = .returned .nilIface ∧ Below w.heap.size w w' := by
  go_enter Tryd.func12, Tryd.ntmps12
  go_wp2_with fail
  refine (outer_nil w).mono ?_
  rintro e w1 ⟨rfl, hb⟩
  go_wp2
  go_ret
  exact ⟨rfl, hb⟩
theorem inner_none (l0 : List Nd) (t : Option Int) (T0 : TypeId) (v0 : Value) (w : World) (hv : val l0 t = .iface T0 v0) (hl : l0.length ≤ 100) (h : Lie w l0 t) (hg : Ety w) (ho : hit l0 = none) :
    Calls Tryd.prog 12 #[.iface T0 v0] w fun e w' => e = .returned (.iface T0 v0) ∧ Below w.heap.size w w' := by
  have c := outer_val l0 t T0 v0 w hv hl h hg
  rw [ho] at c
  clear hv h hg ho
  go_enter Tryd.func12, Tryd.ntmps12
  go_wp2_with fail
  refine c.mono ?_
  rintro e w1 ⟨rfl, hb⟩
  simp only [ptr]
  go_wp2
  go_ret
  exact ⟨rfl, hb⟩
theorem inner_some (l0 l' : List Nd) (b : Nat) (t : Option Int) (T0 : TypeId) (v0 : Value) (w : World) (hv : val l0 t = .iface T0 v0) (hl : l0.length ≤ 100) (h : Lie w l0 t) (hg : Ety w) (ho : hit l0 = some b) (hi : inn l0 = some l') :
    Calls Tryd.prog 12 #[.iface T0 v0] w fun e w' => e = .returned (val l' t) ∧ Below w.heap.size w w' := by
  have c := outer_val l0 t T0 v0 w hv hl h hg
  obtain ⟨l2, hi2, hc, _⟩ := hit_some ho h
  rw [hi] at hi2
  cases hi2
  rw [ho] at c
  generalize val l' t = x at *
  have HC : Hid (w.heap[b]? = some (.cells #[.string (whS l0), .int .i64 (whN l0), x] 46 (0, 0))) := hc
  clear hv h hg ho hc hi
  go_enter Tryd.func12, Tryd.ntmps12
  go_wp2_with fail
  refine c.mono ?_
  rintro e w1 ⟨rfl, hb⟩
  simp only [ptr]
  have hc := (hb.block b (lt_of_heap HC.out)).trans HC.out
  have c2 : w1.cell? ⟨b, 2, none⟩ = some x := by simp [World.cell?, hc]
  have HB : Hid (Below w.heap.size w w1) := hb
  clear hb hc HC c
  go_wp2
  go_ret
  exact ⟨rfl, HB.out⟩

/-- So many places lie there. -/
def Pls (w : World) (a : Option Addr) (n : Nat) (F : Nat → ByteArray × Int × Bool) : Prop :=
  n = 0 ∨ ∃ b off, a = some ⟨b, off, none⟩ ∧ ∀ i, i < n → b < w.heap.size ∧ w.cell? ⟨b, off + i * 3, none⟩ = some (.string (F i).1) ∧ w.cell? ⟨b, off + i * 3 + 1, none⟩ = some (.int .i64 (F i).2.1) ∧ w.cell? ⟨b, off + i * 3 + 2, none⟩ = some (.bool (F i).2.2)
theorem Pls.stay {w w' : World} {a : Option Addr} {n : Nat} {F : Nat → ByteArray × Int × Bool} (h : Pls w a n F) (hb : Below w.heap.size w w') : Pls w' a n F := by
  rcases h with h | ⟨b, off, rfl, h⟩
  · exact Or.inl h
  · exact Or.inr ⟨b, off, rfl, fun i hi => ⟨Nat.lt_of_lt_of_le (h i hi).1 hb.size, (hb.cell (p := ⟨b, off + i * 3, none⟩) (h i hi).1).trans (h i hi).2.1, (hb.cell (p := ⟨b, off + i * 3 + 1, none⟩) (h i hi).1).trans (h i hi).2.2.1, (hb.cell (p := ⟨b, off + i * 3 + 2, none⟩) (h i hi).1).trans (h i hi).2.2.2⟩⟩
theorem Pls.alloc {w : World} {a : Option Addr} {n : Nat} {F : Nat → ByteArray × Int × Bool} (h : Pls w a n F) (o : Obj) : Pls (w.alloc o) a n F := h.stay ((Below.refl _ _).alloc (Nat.le_refl _) o)
/-- These errors are those places', from one of them on. -/
def Mt (F : Nat → ByteArray × Int × Bool) : Nat → List Nd → Prop
  | _, [] => True
  | k, x :: l => (x.o = true → (F k).2.2 = true) ∧ (x.o = false → F k = (x.s, x.n, false)) ∧ Mt F (k + 1) l
theorem Lie.newV {w : World} {t : Option Int} {l : List Nd} {T : TypeId} {v : Value} (h : Lie w l t) (s : ByteArray) (n : Int) (hv : val l t = .iface T v) :
    Lie (w.alloc (.cells #[.string s, .int .i64 n, .iface T v] 46)) (⟨false, w.heap.size, s, n⟩ :: l) t := by
  have := Lie.new h s n
  rw [hv] at this
  exact this
/-- An error of a number is none of none: where the loop of made stands. -/
def Md (w : World) (F : Nat → ByteArray × Int × Bool) (n k : Nat) (c : Int) (v : Value) : Prop :=
  ∃ l T x, v = .iface T x ∧ val l (some c) = .iface T x ∧ l.length + k = n ∧ Mt F k l ∧ Lie w l (some c)
theorem made_zero (a : Option Addr) (n cap : Nat) (F : Nat → ByteArray × Int × Bool) (w : World) (hn : n ≤ 40) (h : Pls w a n F) :
    Calls Tryd.prog 8 #[.int .i64 0, .slice a n cap] w fun e w' => e = .returned .nilIface ∧ Below w.heap.size w w' := by
  have HP : Hid (Pls w a n F) := h
  clear h
  go_enter Tryd.func8, Tryd.ntmps8
  go_wp2_with (go_at_call 15; refine (of_nil _).mono ?_; rintro e w' ⟨rfl, hw'⟩; subst w')
  go_loopg [5, 6] n (fun g err i wr => ∃ k : Nat, k ≤ n ∧ g = k ∧ err = .nilIface ∧ i = .int .i64 ((k : Int) - 1) ∧ Hid (Up w.heap.size w wr))
  case atStart => exact ⟨n, Nat.le_refl _, rfl, rfl, by go_num, Up.refl w⟩
  case round =>
    obtain ⟨k, hk, hg, rfl, rfl, HU⟩ := hrel
    cases k with
    | zero =>
      go_wp2
      go_ret
      exact ⟨rfl, HU.out.1⟩
    | succ k =>
      have e1 : (((k + 1 : Nat) : Int) - 1) = (k : Int) := by omega
      rw [e1]
      clear e1
      rcases (HP.out.stay HU.out.1) with h0 | ⟨b, off, rfl, hr⟩
      · omega
      obtain ⟨hb, c0, c1, c2⟩ := hr k (by omega)
      clear hr
      generalize (F k).1 = s at *
      generalize (F k).2.1 = m at *
      cases ho : (F k).2.2
      · rw [ho] at c2
        go_wp2_with (go_at_call 14; refine (new_nil _ _ _).mono ?_; rintro e w' ⟨rfl, hw'⟩; subst w')
        go_roundg k
        case measure => omega
        case rel => exact ⟨k, by omega, rfl, rfl, rfl, HU.out.alloc _⟩
      · rw [ho] at c2
        go_wp2_with (go_at_call 14; refine (new_nil _ _ _).mono ?_; rintro e w' ⟨rfl, hw'⟩; subst w')
        go_roundg k
        case measure => omega
        case rel => exact ⟨k, by omega, rfl, rfl, rfl, HU.out.alloc _⟩
theorem made_any (c : Int) (hc : (c == 0) = false) (a : Option Addr) (n cap : Nat) (F : Nat → ByteArray × Int × Bool) (w : World) (hn : n ≤ 40) (h : Pls w a n F) :
    Calls Tryd.prog 8 #[.int .i64 c, .slice a n cap] w fun e w' => ∃ v, e = .returned v ∧ Md w' F n 0 c v ∧ Below w.heap.size w w' := by
  have HP : Hid (Pls w a n F) := h
  clear h
  have c15 := of_any c w hc
  clear hc
  go_enter Tryd.func8, Tryd.ntmps8
  go_wp2_with (go_at_call 15; refine c15.mono ?_; rintro e w' ⟨rfl, hw'⟩; subst w')
  clear c15
  go_loopg [5, 6] n (fun g err i wr => ∃ k : Nat, k ≤ n ∧ g = k ∧ i = .int .i64 ((k : Int) - 1) ∧ Hid (Md wr F n k c err) ∧ Hid (Up w.heap.size w wr))
  case atStart => exact ⟨n, Nat.le_refl _, rfl, by go_num, ⟨[], 27, .int .i64 c, rfl, rfl, by simp, trivial, trivial⟩, Up.refl w⟩
  case round =>
    obtain ⟨k, hk, hg, rfl, HM, HU⟩ := hrel
    obtain ⟨l, T, x, rfl, hv, hl, hm, hL⟩ := HM.out
    cases k with
    | zero =>
      clear hv hl hm hL
      go_wp2
      go_ret
      exact ⟨_, rfl, HM.out, HU.out.1⟩
    | succ k =>
      have e1 : (((k + 1 : Nat) : Int) - 1) = (k : Int) := by omega
      rw [e1]
      clear e1
      rcases (HP.out.stay HU.out.1) with h0 | ⟨b, off, rfl, hr⟩
      · omega
      obtain ⟨hb, c0, c1, c2⟩ := hr k (by omega)
      clear hr HM
      have HV : Hid (val l (some c) = .iface T x ∧ l.length + (k + 1) = n ∧ Mt F (k + 1) l ∧ Lie wr l (some c)) := ⟨hv, hl, hm, hL⟩
      clear hv hl hm hL
      obtain ⟨s, hs⟩ : ∃ s, s = (F k).1 := ⟨_, rfl⟩
      obtain ⟨m, hm⟩ : ∃ m, m = (F k).2.1 := ⟨_, rfl⟩
      rw [← hs] at c0
      rw [← hm] at c1
      have HS : Hid (s = (F k).1 ∧ m = (F k).2.1) := ⟨hs, hm⟩
      clear hs hm
      cases ho : (F k).2.2
      · rw [ho] at c2
        have HO : Hid ((F k).2.2 = false) := ho
        clear ho
        go_wp2_with (go_at_call 14; refine (new_any _ _ _ _ _).mono ?_; rintro e w' ⟨rfl, hw'⟩; subst w')
        go_roundg k
        case measure => omega
        case rel =>
          refine ⟨k, by omega, rfl, rfl, ?_, (HU.out.alloc _).alloc _⟩
          obtain ⟨hv, hl, hm, hL⟩ := HV.out
          refine ⟨⟨false, _, s, m⟩ :: l, _, _, rfl, rfl, by simp; omega, ⟨fun e => (by cases e), fun _ => ?_, hm⟩, ?_⟩
          · rw [HS.out.1, HS.out.2, ← HO.out]
          · have := (hL.alloc (.cells #[.string s, .int .i64 m, .bool false] 36)).newV s m hv
            simp only [World.size_alloc] at this
            exact this
      · rw [ho] at c2
        have HO : Hid ((F k).2.2 = true) := ho
        clear ho
        go_wp2_with fail
        go_roundg k
        case measure => omega
        case rel =>
          refine ⟨k, by omega, rfl, rfl, ?_, HU.out.alloc _⟩
          obtain ⟨hv, hl, hm, hL⟩ := HV.out
          exact ⟨⟨true, 0, ⟨#[]⟩, 0⟩ :: l, _, _, rfl, by rw [val, hv], by simp; omega, ⟨fun _ => HO.out, fun e => (by cases e), hm⟩, ⟨fun e => (by cases e), hL.alloc _⟩⟩
set_option maxHeartbeats 1000000 in
theorem awake_any (w : World) (hg : Ety w) :
    Calls Tryd.prog 7 #[] w fun e w' => e = .returned (.bool true) ∧ Below w.heap.size w w' := by
  have HG : Hid (Ety w) := hg
  clear hg
  obtain ⟨s, hs⟩ : ∃ s : ByteArray, s = { data := #[119, 111, 114, 100, 115] } := ⟨_, rfl⟩
  go_enter Tryd.func7, Tryd.ntmps7
  go_wp2_with fail
  refine (new_any _ _ _ _ _).mono ?_
  rintro e w1 ⟨rfl, hw1⟩
  subst w1
  rw [← hs]
  have HS : Hid (s = { data := #[119, 111, 114, 100, 115] }) := hs
  have HL : Hid (Lie (w.alloc (.cells #[.string s, .int .i64 3, .iface 27 (.int .i64 3)] 46)) [⟨false, w.heap.size, s, 3⟩] (some 3)) := Lie.new (l := []) (c := some 3) trivial s 3
  have HU : Hid (Up w.heap.size w (w.alloc (.cells #[.string s, .int .i64 3, .iface 27 (.int .i64 3)] 46))) := (Up.refl w).alloc _
  have HG1 : Hid (Ety (w.alloc (.cells #[.string s, .int .i64 3, .iface 27 (.int .i64 3)] 46))) := HG.out.alloc _
  generalize w.alloc (.cells #[.string s, .int .i64 3, .iface 27 (.int .i64 3)] 46) = w1 at *
  clear hs
  have ct := where_any [⟨false, w.heap.size, s, 3⟩] (some 3) 42 (.pointer (some ⟨w.heap.size, 0, none⟩)) w1 rfl (by simp) HL.out HG1.out
  go_wp2_with fail
  refine ct.mono ?_
  rintro e w2 ⟨rfl, hb2⟩
  have c9 := code_val [⟨false, w.heap.size, s, 3⟩] (some 3) 42 (.pointer (some ⟨w.heap.size, 0, none⟩)) w2 rfl (by simp) (HL.out.stay hb2) (HG1.out.stay hb2)
  have HU2 : Hid (Up w.heap.size w w2) := HU.out.stay hb2
  clear hb2 ct HL HU HG1 HG
  simp only [whS, whN, hit, Option.isSome, numb, Bool.false_eq_true, if_false] at *
  go_wp2_with fail
  refine c9.mono ?_
  rintro e w3 ⟨rfl, hb3⟩
  have HU3 : Hid (Up w.heap.size w w3) := HU2.out.stay hb3
  clear hb3 c9 HU2
  have hs := HS.out
  subst hs
  go_wp2
  go_ret
  exact ⟨rfl, HU3.out.1⟩
end Go.Proofs.YthdjadkdjljciaaDoor
