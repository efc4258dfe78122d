/- FaultWhere: the outermost list and line. -/
import Derived.Test.YthdjadkdjljciaaDoordMad
import Derived.Deep.RegionHeld3
namespace Go.Proofs.YthdjadkdjljciaaDoor
set_option linter.unusedVariables false
open Go.RowKit Go.ChangeShapes
theorem takeH {P : Program} {ops : Array Oper} {Q : Exit → Act → World → Prop} {md : Region.Mode} {S : World → Prop} {i : Nat} {oi : Oper} {v : Value} {d : Option Tmp} {fuel : Nat} {listed : Array Bool} {a : Act} {w : World} (hi : ops[i]? = some oi)
    (hs : Region.noSelect ops = true) (hf : Region.free md ops listed i = true) (hr : (Region.ready md ops listed).contains i = true) (hd : oi.dst = d)
    (hQ : ∀ c a w, Q (.panic c) (a.put d v) w → Q (.panic c) a w) (hy : YieldsIf P ops S oi v a) (hS : S w)
    (h : wpAnyH P md ops Q S fuel (listed.setIfInBounds i true) (a.put d v) w) : wpAnyH P md ops Q S (fuel + 1) listed a w := by
  subst hd
  exact wpAnyH_take hi hs hf hr hQ hy hS h
/-- A place that the call keeps for itself. -/
def Own3 (w : World) (b : Nat) (s : ByteArray) (n : Int) (o : Bool) : Prop := w.heap[b]? = some (.cells #[.string s, .int .i64 n, .bool o] 36 (0, 0))
theorem Own3.stay {w w' : World} {b : Nat} {s : ByteArray} {n : Int} {o : Bool} (h : Own3 w b s n o) (hb : Below w.heap.size w w') : Own3 w' b s n o := (hb.block b (lt_of_heap h)).trans h
theorem Own3.alloc {w : World} {b : Nat} {s : ByteArray} {n : Int} {o : Bool} (h : Own3 w b s n o) (x : Obj) : Own3 (w.alloc x) b s n o := h.stay ((Below.refl _ _).alloc (Nat.le_refl _) x)
theorem Own3.cells {w : World} {b : Nat} {s : ByteArray} {n : Int} {o : Bool} (h : Own3 w b s n o) : w.cell? ⟨b, 0, none⟩ = some (.string s) ∧ w.cell? ⟨b, 1, none⟩ = some (.int .i64 n) ∧ w.cell? ⟨b, 2, none⟩ = some (.bool o) ∧ w.frozen? ⟨b, 0, none⟩ = false ∧ w.frozen? ⟨b, 1, none⟩ = false ∧ w.frozen? ⟨b, 2, none⟩ = false := by
  unfold Own3 at h
  refine ⟨?_, ?_, ?_, ?_, ?_, ?_⟩ <;> simp [World.cell?, World.frozen?, h]
theorem Own3.new (w : World) (s : ByteArray) (n : Int) (o : Bool) : Own3 (w.alloc (.cells #[.string s, .int .i64 n, .bool o] 36)) w.heap.size s n o := by
  show (w.heap.push _)[w.heap.size]? = _
  rw [Array.getElem?_push_size]
theorem Own3.set {w : World} {b : Nat} {s : ByteArray} {n : Int} {o : Bool} (h : Own3 w b s n o) (s' : ByteArray) (n' : Int) (o' : Bool) : Own3 (((w.setCell ⟨b, 0, none⟩ (.string s')).setCell ⟨b, 1, none⟩ (.int .i64 n')).setCell ⟨b, 2, none⟩ (.bool o')) b s' n' o' := by
  unfold Own3 at h ⊢
  simp [World.setCell, Array.getElem?_modify, h]
/-- Where the loop stands: the list's rest; whether one was found, and which. -/
def Fnd (F : Nat → ByteArray × Int × Bool) (n k : Nat) (l : List Nd) (any : Bool) (s : ByteArray) (m : Int) : Prop :=
  ∃ l2, l2.length + k = n ∧ Mt F k l2 ∧ (any = false ∧ s = ⟨#[]⟩ ∧ m = 0 ∧ whS l2 = whS l ∧ whN l2 = whN l ∧ (hit l2).isSome = (hit l).isSome ∨ any = true ∧ s = whS l ∧ m = whN l ∧ (hit l).isSome = true)
/-- What the last sentence reads, and keeps. -/
def RS (W : World) (b : Nat) (s : ByteArray) (m : Int) (w' : World) : Prop := w'.cell? ⟨b, 0, none⟩ = some (.string s) ∧ w'.cell? ⟨b, 1, none⟩ = some (.int .i64 m) ∧ Up W.heap.size W w'
theorem RS.stay {W : World} {b : Nat} {s : ByteArray} {m : Int} {w w' : World} (h : RS W b s m w) (hb : Below w.heap.size w w') : RS W b s m w' := ⟨cell_stay h.1 hb, cell_stay h.2.1 hb, h.2.2.stay hb⟩
theorem RS.drew {W : World} {b : Nat} {s : ByteArray} {m : Int} {w : World} (h : RS W b s m w) : RS W b s m w.drew := ⟨h.1, h.2.1, h.2.2.drew⟩
theorem code_RS (W : World) (b : Nat) (s : ByteArray) (m : Int) (l : List Nd) (c : Int) (T : TypeId) (x : Value) (w : World) (hv : val l (some c) = .iface T x ∧ l.length ≤ 100) (h : Lie W l (some c)) (hg : Ety W) (hw : RS W b s m w) :
    Calls Tryd.prog 9 #[.iface T x] w fun e w' => e = .returned (.int .i64 c) ∧ RS W b s m w' :=
  (code_val l (some c) T x w hv.1 hv.2 (h.stay hw.2.2.1) (hg.stay hw.2.2.1)).mono fun e w' ⟨he, hb⟩ => ⟨he, hw.stay hb⟩
theorem inn_len : ∀ {l l' : List Nd}, inn l = some l' → l'.length ≤ l.length
  | x :: l, l', h => by
    cases hx : x.o
    · simp [inn, hx] at h
      subst h
      exact Nat.le_succ _
    · simp [inn, hx] at h
      exact Nat.le_succ_of_le (inn_len h)
theorem inner_ex (l : List Nd) (c : Int) (T : TypeId) (x : Value) (w : World) (hv : val l (some c) = .iface T x) (hl : l.length ≤ 100) (h : Lie w l (some c)) (hg : Ety w) :
    ∃ l' T' x', val l' (some c) = .iface T' x' ∧ l'.length ≤ 100 ∧ Lie w l' (some c) ∧ Calls Tryd.prog 12 #[.iface T x] w fun e w' => e = .returned (.iface T' x') ∧ Below w.heap.size w w' := by
  cases ho : hit l with
  | none => exact ⟨l, T, x, hv, hl, h, inner_none l (some c) T x w hv hl h hg ho⟩
  | some b =>
    obtain ⟨l', hi, _, hL⟩ := hit_some ho h
    rcases val_shape l' (some c) with ⟨_, _, e⟩ | ⟨T', x', e⟩
    · cases e
    · refine ⟨l', T', x', e, Nat.le_trans (inn_len hi) hl, hL, ?_⟩
      rw [← e]
      exact inner_some l l' b (some c) T x w hv hl h hg ho hi
set_option maxHeartbeats 1000000 in
theorem where_some (c : Int) (hc : (c == 0) = false) (a : Option Addr) (len cap : Nat) (F : Nat → ByteArray × Int × Bool) (w : World) (hl : len ≤ 40) (hg : Ety w) (h : Pls w a len F) :
    Calls Tryd.prog 4 #[.int .i64 c, .slice a len cap] w fun e w' => e = .returned (.bool true) ∧ Below w.heap.size w w' := by
  have HG : Hid (Ety w) := hg
  have HP : Hid (Pls w a len F) := h
  have c7 := awake_any w hg
  have hc2 : (c != 0) = true := by simp only [bne, hc, Bool.not_false]
  clear hg h
  go_enter Tryd.func4, Tryd.ntmps4
  go_wp2_with fail
  refine c7.mono ?_
  rintro e w1 ⟨rfl, hb1⟩
  have HU1 : Hid (Up w.heap.size w w1) := (Up.refl w).stay hb1
  have c8 := made_any c hc a len cap F w1 hl (HP.out.stay hb1)
  clear c7 hb1
  go_wp2_with fail
  refine c8.mono ?_
  rintro e w2 ⟨v, rfl, ⟨l, T, x, rfl, hv, hll, hm, hL⟩, hb2⟩
  have HV : Hid (val l (some c) = .iface T x ∧ l.length + 0 = len ∧ Mt F 0 l) := ⟨hv, hll, hm⟩
  have HL : Hid (Lie w2 l (some c)) := hL
  have HU2 : Hid (Up w.heap.size w w2) := HU1.out.stay hb2
  clear c8 hb2 HU1 hv hll hm hL
  have c11 := where_any l (some c) T x w2 HV.out.1 (by have := HV.out.2.1; omega) HL.out (HG.out.stay HU2.out.1)
  generalize hx1 : whS l = s0 at c11
  generalize hx2 : whN l = n0 at c11
  generalize hx3 : (hit l).isSome = o0 at c11
  have HX : Hid (whS l = s0 ∧ whN l = n0 ∧ (hit l).isSome = o0) := ⟨hx1, hx2, hx3⟩
  clear hx1 hx2 hx3
  go_wp2_with fail
  refine c11.mono ?_
  rintro e w3 ⟨rfl, hb3⟩
  have HU3 : Hid (Up w.heap.size w w3) := HU2.out.stay hb3
  have HL3 : Hid (Lie w3 l (some c)) := HL.out.stay hb3
  clear hb3 HU2 HL c11
  go_wp2
  go_loopg [10, 31] len (fun g any i wr => ∃ (k : Nat) (o : Bool) (s : ByteArray) (m : Int), k ≤ len ∧ g = len - k ∧ any = .bool o ∧ i = .int .i64 k ∧ Hid (Fnd F len k l o s m) ∧ Hid (Own3 wr w3.heap.size s m false) ∧ Hid (Up w3.heap.size w3 wr))
  case atStart => exact ⟨0, false, ⟨#[]⟩, 0, Nat.zero_le _, rfl, rfl, rfl, ⟨l, HV.out.2.1, HV.out.2.2, Or.inl ⟨rfl, rfl, rfl, rfl, rfl, rfl⟩⟩, Own3.new w3 _ _ _, (Up.refl w3).alloc _⟩
  case round =>
    obtain ⟨k, o, s, m, hk, hgk, rfl, rfl, HF, HO, HU⟩ := hrel
    by_cases hlt : k < len
    · obtain ⟨l2, hl2, hm2, hf⟩ := HF.out
      rcases ((HP.out.stay HU3.out.1).stay HU.out.1) with h0 | ⟨b, off, rfl, hr⟩
      · omega
      obtain ⟨hb, c0, c1, c2⟩ := hr k hlt
      clear hr HF
      match l2, hl2, hm2, hf with
      | [], hl2, _, _ => simp at hl2; omega
      | ⟨true, b1, s2, m2⟩ :: l3, hl2, hm2, hf =>
        rw [hm2.1 rfl] at c2
        generalize (F k).1 = s1 at c0
        generalize (F k).2.1 = m1 at c1
        have HF : Hid (Fnd F len (k + 1) l o s m) := ⟨l3, by simp at hl2; omega, hm2.2.2, hf⟩
        clear hl2 hm2 hf
        go_wp2
        go_roundg (len - (k + 1))
        case measure => omega
        case rel => exact ⟨k + 1, o, s, m, by omega, rfl, rfl, by go_num, HF, HO.out.alloc _, HU.out.alloc _⟩
      | ⟨false, b1, s1, m1⟩ :: l3, hl2, hm2, hf =>
        rw [hm2.2.1 rfl] at c0 c1 c2
        simp only at c0 c1 c2
        cases o with
        | false =>
          have HF : Hid (Fnd F len (k + 1) l true s1 m1) := by
            rcases hf with ⟨_, _, _, e1, e2, e3⟩ | ⟨e, _⟩
            · exact ⟨l3, by simp at hl2; omega, hm2.2.2, Or.inr ⟨rfl, e1, e2, e3.symm⟩⟩
            · cases e
          clear hl2 hm2 hf
          obtain ⟨d0, d1, d2, d3, d4, d5⟩ := (HO.out.alloc (.cells #[.string s1, .int .i64 m1, .bool false] 36)).cells
          go_wp2
          go_roundg (len - (k + 1))
          case measure => omega
          case rel => exact ⟨k + 1, true, s1, m1, by omega, rfl, rfl, by go_num, HF, (HO.out.alloc _).set _ _ _, (((HU.out.alloc _).setCell (Nat.le_refl _) _).setCell (Nat.le_refl _) _).setCell (Nat.le_refl _) _⟩
        | true =>
          have HF : Hid (Fnd F len (k + 1) l true s m) := by
            rcases hf with ⟨e, _⟩ | ⟨_, e1, e2, e3⟩
            · cases e
            · exact ⟨l3, by simp at hl2; omega, hm2.2.2, Or.inr ⟨rfl, e1, e2, e3⟩⟩
          clear hl2 hm2 hf
          go_wp2
          go_roundg (len - (k + 1))
          case measure => omega
          case rel => exact ⟨k + 1, true, s, m, by omega, rfl, rfl, by go_num, HF, HO.out.alloc _, HU.out.alloc _⟩
    · obtain rfl : k = len := by omega
      obtain ⟨l2, hl2, hm2, hf⟩ := HF.out
      obtain rfl : l2 = [] := List.eq_nil_of_length_eq_zero (by omega)
      have HE : Hid (o = o0 ∧ s = s0 ∧ m = n0) := by
        obtain ⟨x1, x2, x3⟩ := HX.out
        rcases hf with ⟨e0, e1, e2, e3, e4, e5⟩ | ⟨e0, e1, e2, e3⟩
        · refine ⟨?_, ?_, ?_⟩
          · rw [e0, ← x3, ← e5]; rfl
          · rw [e1, ← x1, ← e3]; rfl
          · rw [e2, ← x2, ← e4]; rfl
        · exact ⟨by rw [e0, ← x3, e3], by rw [e1, x1], by rw [e2, x2]⟩
      obtain ⟨rfl, rfl, rfl⟩ := HE.out
      clear hf hm2 hl2 HF HE
      have HL4 : Hid (Lie wr l (some c)) := HL3.out.stay HU.out.1
      have HU4 : Hid (Up w.heap.size w wr) := HU3.out.stay HU.out.1
      have HG4 : Hid (Ety wr) := HG.out.stay HU4.out.1
      have hin := inner_ex l c T x wr HV.out.1 (by have := HV.out.2.1; omega) HL4.out HG4.out
      obtain ⟨l', T', x', hv', hl', hL', c12⟩ := hin
      have HV5 : Hid (val l' (some c) = .iface T' x' ∧ l'.length ≤ 100) := ⟨hv', hl'⟩
      have HL5 : Hid (Lie wr l' (some c)) := hL'
      clear hv' hl' hL'
      go_wp2_with fail
      refine c12.mono ?_
      rintro e w5 ⟨rfl, hb5⟩
      clear c12
      have HL6 : Hid (Lie w5 l' (some c)) := HL5.out.stay hb5
      have HL7 : Hid (Lie w5 l (some c)) := HL4.out.stay hb5
      have HV7 : Hid (val l (some c) = .iface T x ∧ l.length ≤ 100) := ⟨HV.out.1, by have := HV.out.2.1; omega⟩
      have HG5 : Hid (Ety w5) := HG4.out.stay hb5
      have HU5 : Hid (Up w.heap.size w w5) := HU4.out.stay hb5
      obtain ⟨d0, d1, _, _, _, _⟩ := (HO.out.stay hb5).cells
      have hS : RS w5 w3.heap.size s m w5 := ⟨d0, d1, Up.refl _⟩
      clear hb5 d0 d1 HO HU HL4 HL5 HU4 HG4 HV hl HX HL3 HU3
      generalize w3.heap.size = wb at *
      go_wp2_with fail
      unfold RS at hS
      go_region_held3 (fun w' => w'.cell? ⟨wb, 0, none⟩ = some (.string s) ∧ w'.cell? ⟨wb, 1, none⟩ = some (.int .i64 m) ∧ Up w5.heap.size w5 w') (first | assumption | exact RS.drew ‹_›) (first | (go_at_call_of 9 x'; refine (code_RS w5 wb s m l' c T' x' _ HV5.out HL6.out HG5.out (by assumption)).mono ?_; rintro e w' ⟨rfl, hw'⟩) | (go_at_call_of 9 x; refine (code_RS w5 wb s m l c T x _ HV7.out HL7.out HG5.out (by assumption)).mono ?_; rintro e w' ⟨rfl, hw'⟩))
      go_wp2
      go_ret
      exact ⟨rfl, (HU5.out.stay hw'.2.2.1).1⟩
theorem nil_RS (W : World) (b : Nat) (s : ByteArray) (m : Int) (w : World) (hw : RS W b s m w) :
    Calls Tryd.prog 9 #[.nilIface] w fun e w' => e = .returned (.int .i64 0) ∧ RS W b s m w' :=
  (code_nil w).mono fun e w' ⟨he, hb⟩ => ⟨he, hw.stay hb⟩
set_option maxHeartbeats 1000000 in
theorem where_zero (a : Option Addr) (len cap : Nat) (F : Nat → ByteArray × Int × Bool) (w : World) (hl : len ≤ 40) (hg : Ety w) (h : Pls w a len F) :
    Calls Tryd.prog 4 #[.int .i64 0, .slice a len cap] w fun e w' => e = .returned (.bool true) ∧ Below w.heap.size w w' := by
  have HP : Hid (Pls w a len F) := h
  have c7 := awake_any w hg
  clear hg h
  go_enter Tryd.func4, Tryd.ntmps4
  go_wp2_with fail
  refine c7.mono ?_
  rintro e w1 ⟨rfl, hb1⟩
  have HU1 : Hid (Up w.heap.size w w1) := (Up.refl w).stay hb1
  have c8 := made_zero a len cap F w1 hl (HP.out.stay hb1)
  clear c7 hb1
  go_wp2_with fail
  refine c8.mono ?_
  rintro e w2 ⟨rfl, hb2⟩
  have HU2 : Hid (Up w.heap.size w w2) := HU1.out.stay hb2
  clear c8 hb2 HU1
  go_wp2_with fail
  refine (where_nil w2).mono ?_
  rintro e w3 ⟨rfl, hb3⟩
  have HU3 : Hid (Up w.heap.size w w3) := HU2.out.stay hb3
  clear hb3 HU2
  obtain ⟨s0, hs0⟩ : ∃ s0 : ByteArray, s0 = ⟨#[]⟩ := ⟨_, rfl⟩
  go_wp2
  rw [← hs0]
  clear hs0
  go_loopg [10, 31] len (fun g any i wr => ∃ (k : Nat), k ≤ len ∧ g = len - k ∧ any = .bool false ∧ i = .int .i64 k ∧ Hid (Own3 wr w3.heap.size s0 0 false) ∧ Hid (Up w3.heap.size w3 wr))
  case atStart => exact ⟨0, Nat.zero_le _, rfl, rfl, rfl, Own3.new w3 _ _ _, (Up.refl w3).alloc _⟩
  case round =>
    obtain ⟨k, hk, hgk, rfl, rfl, HO, HU⟩ := hrel
    by_cases hlt : k < len
    · rcases ((HP.out.stay HU3.out.1).stay HU.out.1) with h0 | ⟨b, off, rfl, hr⟩
      · omega
      obtain ⟨hb, c0, c1, c2⟩ := hr k hlt
      clear hr
      generalize (F k).1 = s1 at c0
      generalize (F k).2.1 = m1 at c1
      generalize (F k).2.2 = o1 at c2
      go_wp2
      go_roundg (len - (k + 1))
      case measure => omega
      case rel => exact ⟨k + 1, by omega, rfl, rfl, by go_num, HO.out.alloc _, HU.out.alloc _⟩
    · obtain rfl : k = len := by omega
      have HU4 : Hid (Up w.heap.size w wr) := HU3.out.stay HU.out.1
      go_wp2_with fail
      refine (inner_nil wr).mono ?_
      rintro e w5 ⟨rfl, hb5⟩
      have HU5 : Hid (Up w.heap.size w w5) := HU4.out.stay hb5
      obtain ⟨d0, d1, _, _, _, _⟩ := (HO.out.stay hb5).cells
      have hS : RS w5 w3.heap.size s0 0 w5 := ⟨d0, d1, Up.refl _⟩
      clear hb5 d0 d1 HO HU HU4 hl HU3
      generalize w3.heap.size = wb at *
      go_wp2_with fail
      unfold RS at hS
      go_region_held3 (fun w' => w'.cell? ⟨wb, 0, none⟩ = some (.string s0) ∧ w'.cell? ⟨wb, 1, none⟩ = some (.int .i64 0) ∧ Up w5.heap.size w5 w') (first | assumption | exact RS.drew ‹_›) (first | (go_at_call 9; refine (nil_RS w5 wb s0 0 _ (by assumption)).mono ?_; rintro e w' ⟨rfl, hw'⟩))
      go_wp2
      go_ret
      exact ⟨rfl, (HU5.out.stay hw'.2.2.1).1⟩
theorem where_many (c : Int) (a : Option Addr) (len cap : Nat) (w : World) (hl : 40 < len) (hg : Ety w) :
    Calls Tryd.prog 4 #[.int .i64 c, .slice a len cap] w fun e w' => e = .returned (.bool true) ∧ Below w.heap.size w w' := by
  have c7 := awake_any w hg
  clear hg
  go_enter Tryd.func4, Tryd.ntmps4
  go_wp2_with fail
  refine c7.mono ?_
  rintro e w1 ⟨rfl, hb1⟩
  go_wp2
  go_ret
  exact ⟨rfl, hb1⟩
theorem where_all (c : Int) (a : Option Addr) (len cap : Nat) (F : Nat → ByteArray × Int × Bool) (w : World) (hg : Ety w) (h : Pls w a len F) :
    Calls Tryd.prog 4 #[.int .i64 c, .slice a len cap] w fun e w' => e = .returned (.bool true) ∧ Below w.heap.size w w' := by
  by_cases hl : len ≤ 40
  · by_cases hc : c = 0
    · subst hc; exact where_zero a len cap F w hl hg h
    · exact where_some c (by simpa using hc) a len cap F w hl hg h
  · exact where_many c a len cap w (by omega) hg
end Go.Proofs.YthdjadkdjljciaaDoor
