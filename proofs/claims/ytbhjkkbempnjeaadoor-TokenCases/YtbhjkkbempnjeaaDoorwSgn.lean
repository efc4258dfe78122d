/- A sign by its number: strconv.ParseUint, decode.sign. -/
import Derived.Test.YtbhjkkbempnjeaaDoorwNum
import Derived.Test.YtbhjkkbempnjeaaDoorwShelf
import Derived.Test.YtbhjkkbempnjeaaDoorvKitB
namespace Go.Proofs.YtbhjkkbempnjeaaDoor
set_option linter.unusedVariables false
open Go.RowKit Go.ChangeShapes
/-- What the variables of strconv hold: some error, or none. -/
def Ers (w : World) : Prop := (∃ ev, w.cell? ⟨4, 0, none⟩ = some ev ∧ (ev = .nilIface ∨ ∃ te pe, ev = .iface te pe)) ∧ (∃ ev, w.cell? ⟨5, 0, none⟩ = some ev ∧ (ev = .nilIface ∨ ∃ te pe, ev = .iface te pe))
theorem Ers.stay {w w' : World} (h : Ers w) (hb : Below w.heap.size w w') : Ers w' := by
  obtain ⟨⟨e1, h1, k1⟩, ⟨e2, h2, k2⟩⟩ := h
  exact ⟨⟨e1, cell_stay h1 hb, k1⟩, ⟨e2, cell_stay h2 hb, k2⟩⟩
theorem below_trans {a w w' : World} (h1 : Below a.heap.size a w) (h2 : Below w.heap.size w w') : Below a.heap.size a w' := h1.trans (h2.mono h1.size)
theorem parse_yes {s : ByteArray} {B n : Int} {o : Option Int} (ci : ∀ w : World, Calls Tryd.prog 83 #[.string s, .int .i64 B, .int .i64 32] w fun e w' => PuQ o w e w') (ho : o = some n) (w : World) :
    Calls Tryd.prog 81 #[.string s, .int .i64 B, .int .i64 32] w fun e w' => e = .returned (.tuple #[.int .u64 n, .nilIface]) ∧ Below w.heap.size w w' := by
  subst ho
  go_enter Tryd.func81, Tryd.ntmps81
  go_wp2_with fail
  refine (ci _).mono ?_
  rintro e w1 ⟨hb, he⟩
  have he' : e = .returned (.tuple #[.int .u64 n, .nilIface]) := he
  subst he'
  clear he ci
  go_wp2
  refine bodyPost_ret (v := .tuple #[.int .u64 n, .nilIface]) (by simp [results, Tryd.results81, go_sem]) rfl ?_
  exact ⟨rfl, hb⟩
def ErrQ (w : World) (e : Ending) (w' : World) : Prop := Below w.heap.size w w' ∧ ∃ (v : Int) (te : TypeId) (pe : Value), e = .returned (.tuple #[.int .u64 v, .iface te pe])
theorem parse_no {s : ByteArray} {B : Int} {o : Option Int} (hs : s.size ≤ 100000) (ci : ∀ w : World, Calls Tryd.prog 83 #[.string s, .int .i64 B, .int .i64 32] w fun e w' => PuQ o w e w') (ho : o = none) (w : World) (hE : Ers w) :
    Calls Tryd.prog 81 #[.string s, .int .i64 B, .int .i64 32] w fun e w' => ErrQ w e w' := by
  subst ho
  have hq : ∀ (v : Int) (te : TypeId) (pe : Value) (w' : World), Below w.heap.size w w' → ErrQ w (.returned (.tuple #[.int .u64 v, .iface te pe])) w' := fun v te pe w' h => ⟨h, v, te, pe, rfl⟩
  obtain ⟨Q, hQ⟩ : ∃ Q, ErrQ w = Q := ⟨_, rfl⟩
  rw [hQ] at hq ⊢
  have HQ : Hid ((∀ (v : Int) (te : TypeId) (pe : Value) (w' : World), Below w.heap.size w w' → Q (.returned (.tuple #[.int .u64 v, .iface te pe])) w') ∧ Ers w ∧ s.size ≤ 100000) := ⟨hq, hE, hs⟩
  clear hQ hq hE hs
  go_enter Tryd.func81, Tryd.ntmps81
  go_wp2_with fail
  refine (ci _).mono ?_
  rintro e w1 ⟨hb, v, k, hk, he⟩
  subst he
  clear ci
  have HB : Hid (Below w.heap.size w w1) := hb
  have hE1 : Ers w1 := HQ.out.2.1.stay hb
  clear hb
  rcases hk with rfl | rfl
  · obtain ⟨-, ev, hc, hev⟩ := hE1
    have hl : s.size ≤ 281474976710656 := by have := HQ.out.2.2; omega
    have ct := fun fn => Tryd.strconv_toError_range fn s B 32 ev w1 hl hc hev
    clear hc hev hl
    go_wp2_with fail
    refine (ct _).mono ?_
    rintro e w2 ⟨N, rfl, -, -, hb2⟩
    clear ct
    have HB2 : Hid (Below w1.heap.size w1 w2) := hb2
    clear hb2
    go_wp2
    exact HQ.out.1 _ _ _ _ (below_trans HB.out HB2.out)
  · obtain ⟨⟨ev, hc, hev⟩, -⟩ := hE1
    have hl : s.size ≤ 281474976710656 := by have := HQ.out.2.2; omega
    have ct := fun fn => Tryd.strconv_toError_syntax fn s B 32 ev w1 hl hc hev
    clear hc hev hl
    go_wp2_with fail
    refine (ct _).mono ?_
    rintro e w2 ⟨N, rfl, -, -, hb2⟩
    clear ct
    have HB2 : Hid (Below w1.heap.size w1 w2) := hb2
    clear hb2
    go_wp2
    exact HQ.out.1 _ _ _ _ (below_trans HB.out HB2.out)
theorem okN_valid {n : Int} (h0 : n ≠ 0) (h1 : 0 ≤ n) (h2 : n ≤ 4294967295) : Lib.validRune (IntKind.i32.wrap n) = okN n := by
  rw [IntKind.wrap_i32]
  unfold Lib.validRune okN
  rw [Bool.eq_iff_iff]
  simp only [decide_eq_true_eq, Bool.and_eq_true, Bool.or_eq_true]
  omega
theorem sign_of {s : ByteArray} {B : Int} {m : List Int} (hB : B = 10 ∨ B = 16) (hs : s.size ≤ 100000) (ci : ∀ w : World, Calls Tryd.prog 83 #[.string s, .int .i64 B, .int .i64 32] w fun e w' => PuQ (pU B m) w e w') (w : World) (hE : Ers w) :
    Calls Tryd.prog 79 #[.string s, .int .i64 B] w fun e w' => e = .returned (sgn (num B m)) ∧ Below w.heap.size w w' := by
  cases ho : pU B m with
  | none =>
    have hno := pU_none hB ho
    rw [sgn_no hno]
    have cp := parse_no hs ci ho w hE
    clear ci ho hno hE hs hB
    go_enter Tryd.func79, Tryd.ntmps79
    go_wp2_with fail
    refine cp.mono ?_
    rintro e w1 ⟨hb, v, te, pe, he⟩
    subst he
    clear cp
    go_wp2
    refine bodyPost_ret (v := .tuple #[.int .i32 0, .bool false]) (by simp [results, Tryd.results79, go_sem]) rfl ?_
    exact ⟨rfl, hb⟩
  | some n =>
    have cp := parse_yes ci ho w
    have hle := pU_le hB ho
    obtain ⟨h1, h2⟩ := pU_some hB ho
    clear ci ho hs hE
    by_cases h0 : n = 0
    · subst h0
      rw [sgn_no (by rw [h1]; decide)]
      clear h1 h2 hle hB
      go_enter Tryd.func79, Tryd.ntmps79
      go_wp2_with fail
      refine cp.mono ?_
      rintro e w1 ⟨rfl, hb⟩
      clear cp
      go_wp2
      refine bodyPost_ret (v := .tuple #[.int .i32 0, .bool false]) (by simp [results, Tryd.results79, go_sem]) rfl ?_
      exact ⟨rfl, hb⟩
    · have hv := okN_valid h0 hle.1 hle.2
      have z0 : (n == 0) = false := beq_eq_false_iff_ne.2 h0
      obtain ⟨r, hr⟩ : ∃ r, IntKind.i32.wrap n = r := ⟨_, rfl⟩
      rw [hr] at hv
      have cv := fun w => Tryd.utf8_ValidRune r w
      cases hok : okN n with
      | true =>
        rw [hok] at hv
        have hr2 : r = n := by rw [← hr]; exact wrap_rune hle.1 (okN_le hok).2
        rw [sgn_yes (by rw [h1, hok]), h2 hok]
        have HR : Hid (r = n) := hr2
        rw [hv] at cv
        clear h1 h2 hle hB hv hok h0 hr2
        go_enter Tryd.func79, Tryd.ntmps79
        go_wp2_with fail
        refine cp.mono ?_
        rintro e w1 ⟨rfl, hb⟩
        clear cp
        have HB : Hid (Below w.heap.size w w1) := hb
        clear hb
        go_wp2_with (go_at_call 59; refine (cv _).mono ?_; rintro e w' ⟨rfl, rfl⟩)
        refine bodyPost_ret (v := .tuple #[.int .i32 r, .bool true]) (by simp [results, Tryd.results79, go_sem]) rfl ?_
        exact ⟨by rw [HR.out], HB.out⟩
      | false =>
        rw [hok] at hv
        rw [sgn_no (by rw [h1, hok])]
        rw [hv] at cv
        clear h1 h2 hle hB hv hok h0
        go_enter Tryd.func79, Tryd.ntmps79
        go_wp2_with fail
        refine cp.mono ?_
        rintro e w1 ⟨rfl, hb⟩
        clear cp
        have HB : Hid (Below w.heap.size w w1) := hb
        clear hb
        go_wp2_with (go_at_call 59; refine (cv _).mono ?_; rintro e w' ⟨rfl, rfl⟩)
        refine bodyPost_ret (v := .tuple #[.int .i32 0, .bool false]) (by simp [results, Tryd.results79, go_sem]) rfl ?_
        exact ⟨rfl, HB.out⟩
theorem sign10 {m : List Int} (hm : Byt m) (hn : m.length ≤ 100000) {s : ByteArray} (hs : strOfNums m = s) (w : World) (hE : Ers w) :
    Calls Tryd.prog 79 #[.string s, .int .i64 10] w fun e w' => e = .returned (sgn (num 10 m)) ∧ Below w.heap.size w w' :=
  sign_of (Or.inl rfl) (by rw [← hs, strOfNums_size]; exact hn) (fun w => iparse10 hm hn hs w) w hE
theorem sign16 {m : List Int} (hm : Byt m) (hn : m.length ≤ 100000) {s : ByteArray} (hs : strOfNums m = s) (w : World) (hE : Ers w) :
    Calls Tryd.prog 79 #[.string s, .int .i64 16] w fun e w' => e = .returned (sgn (num 16 m)) ∧ Below w.heap.size w w' :=
  sign_of (Or.inr rfl) (by rw [← hs, strOfNums_size]; exact hn) (fun w => iparse16 hm hn hs w) w hE
end Go.Proofs.YtbhjkkbempnjeaaDoor
