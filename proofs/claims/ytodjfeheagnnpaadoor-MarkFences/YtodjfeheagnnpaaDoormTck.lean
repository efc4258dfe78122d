/- mark: lastRows, ticks. -/
import Derived.Test.YtodjfeheagnnpaaDoormOpn
import Derived.Test.YtodjfeheagnnpaaDoormLexP
import Derived.Maps.OwnSet
import Derived.Maps.Keyed
namespace Go.Proofs.YtodjfeheagnnpaaDoor
set_option linter.unusedVariables false
open Go.RowKit Go.ChangeShapes Go.Maps
theorem lawI : Keyed Tryd.prog 3 := int_keyed Tryd.underlying3
theorem wfI (k : Nat) (h : k ≤ 1000000) : (Lit.int .i64 (k : Int)).wf = true := by
  simp only [Lit.wf]
  have e1 : IntKind.i64.min = -9223372036854775808 := by decide
  have e2 : IntKind.i64.max = 9223372036854775807 := by decide
  rw [e1, e2]
  simp
  omega
theorem keyI (k : Nat) (h : k ≤ 1000000) : keyOf Tryd.prog 3 (.int .i64 k) = some (.int .i64 k) := keyOf_int_mk Tryd.underlying3 (wfI k h)
theorem zeroI (w : World) : (zeroValue 3).run Tryd.prog w = .ok (.int .i64 0) w := by kernel_rfl
theorem key_neI {a b : Nat} (h : a ≠ b) : (Lit.int .i64 (a : Int)) ≠ .int .i64 (b : Int) := fun e => by
  injection e with _ e
  omega
/-- Numbers by numbers in a map. -/
def MI (w : World) (b n : Nat) (M : Nat → Nat) : Prop := ∃ D : DataW Unit, w.ownsMap Tryd.prog 3 (plainElem Tryd.prog 3) b n D ∧ ∀ k : Nat, k ≤ 1000000 → D.atKey (.int .i64 k) (.lit (.int .i64 0)) = .lit (.int .i64 (M k : Nat))
theorem MI.lt {w : World} {b n : Nat} {M : Nat → Nat} (h : MI w b n M) : b < w.heap.size := by obtain ⟨D, h, _⟩ := h; exact h.lt
theorem MI.block {w w' : World} {b n : Nat} {M : Nat → Nat} (h : MI w b n M) (e : w'.heap[b]? = w.heap[b]?) : MI w' b n M := by
  obtain ⟨D, ⟨es, clock, hb, r⟩, hs⟩ := h
  exact ⟨D, ⟨es, clock, e.trans hb, r⟩, hs⟩
theorem MI.stay {w w' : World} {b n : Nat} {M : Nat → Nat} (h : MI w b n M) (hb : Below w.heap.size w w') : MI w' b n M := h.block (hb.block b h.lt)
theorem MI.grown {w w' : World} {b n g : Nat} {M : Nat → Nat} (h : MI w b n M) (hb : w.grownBy w' (some g)) (hne : b ≠ g) : MI w' b n M := h.block (hb.block b h.lt (fun e => hne (Option.some.inj e)))
theorem MI.made (w : World) : MI (w.alloc (.map #[] 0)) w.heap.size 0 (fun _ => 0) := ⟨.map [], World.ownsMap_made w _ _ _, fun k _ => by
  rw [Maps.atKey_of_not_has (by simp [Maps.has])]
  rfl⟩
set_option maxRecDepth 100000 in
theorem MI.look {w : World} {b n : Nat} {M : Nat → Nat} (h : MI w b n M) (k : Nat) (hk : k ≤ 1000000) : (Instr.lookup 66 (.map (some b)) (.int .i64 k) false).run Tryd.prog w = .ok (.int .i64 (M k : Nat)) w := by
  obtain ⟨D, hown, h1⟩ := h
  obtain ⟨c, hrun, hat, -⟩ := hown.lookup_int lawI Tryd.underlying66 Tryd.underlying3 (zeroI w) (keyI k hk)
  rw [h1 k hk] at hat
  simp only [DataW.lit.injEq, Lit.int.injEq, true_and] at hat
  rw [hrun, ← hat]
theorem MI.put {w : World} {b n : Nat} {M : Nat → Nat} (h : MI w b n M) (k v : Nat) (hk : k ≤ 1000000) (hv : v ≤ 1000000) (hn : n < 1000000) :
    ∃ w', (Instr.mapUpdate 66 (.map (some b)) (.int .i64 k) (.int .i64 v)).run Tryd.prog w = .ok () w' ∧ MI w' b (n + 1) (fun j => if j = k then v else M j) ∧ w.grownBy w' (some b) := by
  obtain ⟨D, hown, h1⟩ := h
  obtain ⟨w', hrun, r1, r2⟩ := hown.update lawI Tryd.underlying66 (by unfold maxLen; omega) (keyI k hk) (plainElem_int Tryd.underlying3 (wfI v hv))
  refine ⟨w', hrun, ⟨_, r1, fun t ht => ?_⟩, r2⟩
  have hM := hown.isMap
  have hK : WideAt.IsKeyLit (.int .i64 (k : Int)) := by first | trivial | exact WideAt.IsKeyLit.int _ _ | decide
  by_cases e : t = k
  · subst e
    rw [Maps.atKey_put_same hM hK]
    simp only [if_true]
  · rw [Maps.atKey_put_other (key_neI e), h1 t ht]
    simp only [if_neg e]
/-- Where the last rows of ticks begin. -/
def LastP (c : Nat → Int) (n i0 at_ : Nat) (M : Nat → Nat) : Prop := (∀ k, M k ≤ n) ∧ ∀ p, i0 ≤ p → p < at_ → p < n → (p = i0 ∨ c (p - 1) ≠ 96) → c p = 96 → p ≤ M (rwP 96 (sf c p) (n - p))
theorem row_end {c : Nat → Int} {n p : Nat} (hC : Ch c n) (hp : p ≤ n) : c (p + rwP 96 (sf c p) (n - p)) ≠ 96 := by
  have hl := rwP_le 96 (sf c p) (n - p)
  rcases Nat.lt_or_ge (rwP 96 (sf c p) (n - p)) (n - p) with h | h
  · exact rwP_hit (s := 96) (c := sf c p) h
  · rw [hC.2 _ (by omega)]; decide
theorem row_zero {c : Nat → Int} {n p : Nat} (hp : p < n) (h : c p = 96) : 0 < rwP 96 (sf c p) (n - p) := tcK_pos hp h
theorem row_pos {c : Nat → Int} {n p : Nat} (h : 0 < rwP 96 (sf c p) (n - p)) : c p = 96 := rwP_in (s := 96) (c := sf c p) h
theorem last_run {c : Nat → Int} {n i0 at_ : Nat} {M : Nat → Nat} (hC : Ch c n) (h : LastP c n i0 at_ M) (hi : i0 ≤ at_) (ha : at_ < n) (hr : 0 < rwP 96 (sf c at_) (n - at_)) :
    LastP c n i0 (at_ + rwP 96 (sf c at_) (n - at_)) (fun j => if j = rwP 96 (sf c at_) (n - at_) then at_ else M j) := by
  refine ⟨fun k => ?_, fun p h1 h2 h3 h4 h5 => ?_⟩
  · show (if k = _ then at_ else M k) ≤ n
    split
    · omega
    · exact h.1 k
  · show p ≤ if rwP 96 (sf c p) (n - p) = _ then at_ else M _
    rcases Nat.lt_trichotomy p at_ with hp | hp | hp
    · split
      · omega
      · exact h.2 p h1 hp h3 h4 h5
    · subst hp
      rw [if_pos rfl]
      exact Nat.le_refl _
    · have h6 : c (p - 1) = 96 := by
        have := rwP_in (s := 96) (c := sf c at_) (n := n - at_) (i := p - 1 - at_) (by omega)
        unfold sf at this
        rw [show at_ + (p - 1 - at_) = p - 1 by omega] at this
        exact this
      rcases h4 with h4 | h4
      · omega
      · exact absurd h6 h4
theorem last_one {c : Nat → Int} {n i0 at_ : Nat} {M : Nat → Nat} (h : LastP c n i0 at_ M) (hr : c at_ ≠ 96) : LastP c n i0 (at_ + 1) M :=
  ⟨h.1, fun p h1 h2 h3 h4 h5 => by
    rcases Nat.lt_or_ge p at_ with hp | hp
    · exact h.2 p h1 hp h3 h4 h5
    · rw [show p = at_ by omega] at h5; exact absurd h5 hr⟩
theorem tk_none {K : Nat} {c : Nat → Int} {n i0 : Nat} {M : Nat → Nat} (hC : Ch c n) (hP : LastP c n i0 n M) (hK : 0 < K) : ∀ d p, n - p ≤ d → i0 < p → (c (p - 1) ≠ 96 ∨ c p ≠ 96) → M K < p → tk K c n p = none
  | 0, p, hd, _, _, _ => tk_end (by omega)
  | d + 1, p, hd, h0, ha, hM => by
    rcases Nat.lt_or_ge p n with hp | hp
    · have hne : rwP 96 (sf c p) (n - p) ≠ K := fun e => by
        have h96 : c p = 96 := row_pos (by rw [e]; exact hK)
        have h1 : c (p - 1) ≠ 96 := ha.resolve_right (fun h => h h96)
        have := hP.2 p (by omega) hp hp (Or.inr h1) h96
        rw [e] at this
        omega
      rw [tk_miss hp hne]
      refine tk_none hC hP hK d _ (by omega) (by omega) ?_ (by omega)
      rcases Nat.eq_zero_or_pos (rwP 96 (sf c p) (n - p)) with hz | hz
      · left
        rw [hz, show p + max 0 1 - 1 = p by omega]
        intro h96
        have := row_zero hp h96
        omega
      · right
        rw [show p + max (rwP 96 (sf c p) (n - p)) 1 = p + rwP 96 (sf c p) (n - p) by omega]
        exact row_end hC (by omega)
    · exact tk_end hp
set_option maxRecDepth 100000 in
theorem lastRows_any {w : World} {b off n cap : Nat} {c : Nat → Int} (hC : Ch c n) (h : BC w (some ⟨b, off, none⟩) n c) (hn : n ≤ 65536) (hcap : n ≤ cap) (i0 : Nat) (hi : i0 ≤ n) :
    Calls Tryd.prog 59 #[.slice (some ⟨b, off, none⟩) n cap, .int .i64 i0] w fun e w' => ∃ g N M, e = .returned (.map (some g)) ∧ w.heap.size ≤ g ∧ MI w' g N M ∧ LastP c n i0 n M ∧ Below w.heap.size w w' := by
  have HB : Hid (BC w (some ⟨b, off, none⟩) n c ∧ Ch c n) := ⟨h, hC⟩
  obtain ⟨Q, hQ⟩ : ∃ Q, (fun (e : Ending) (w' : World) => ∃ g N M, e = .returned (.map (some g)) ∧ w.heap.size ≤ g ∧ MI w' g N M ∧ LastP c n i0 n M ∧ Below w.heap.size w w') = Q := ⟨_, rfl⟩
  have HQ : Hid ((fun (e : Ending) (w' : World) => ∃ g N M, e = .returned (.map (some g)) ∧ w.heap.size ≤ g ∧ MI w' g N M ∧ LastP c n i0 n M ∧ Below w.heap.size w w') = Q) := hQ
  rw [hQ]
  clear h hC hQ
  have hmm := @run_makeMap Tryd.prog
  go_enter Tryd.func59, Tryd.ntmps59
  go_wp2
  go_loopg [6] (n + 1 - i0) (fun q iv wr => ∃ (p N : Nat) (M : Nat → Nat), q = n + 1 - p ∧ i0 ≤ p ∧ p ≤ n ∧ N ≤ p ∧ iv = .int .i64 p ∧ Hid (MI wr w.heap.size N M ∧ LastP c n i0 p M) ∧ Hid (Up w.heap.size w wr))
  case atStart => exact ⟨i0, 0, fun _ => 0, rfl, Nat.le_refl _, hi, Nat.zero_le _, rfl, ⟨MI.made w, fun _ => Nat.zero_le _, fun p h1 h2 => by omega⟩, (Up.refl w).alloc _⟩
  case round =>
    obtain ⟨p, N, M, hq, hp0, hpn, hN, rfl, HM, HU⟩ := hrel
    by_cases hlt : p < n
    · have z1 : (p : Int) < (n : Int) := by omega
      have z2 : (0 : Int) ≤ (p : Int) := by omega
      have z3 : (n : Int) ≤ (cap : Int) := by omega
      have z4 : (p : Int) ≤ (n : Int) := by omega
      have z5 : ¬ cap = p := by omega
      have hfr := BC.from (HB.out.1.stay (HU.out.1)) p (by omega) hcap
      rw [if_neg z5] at hfr
      have ct := row_any (cap := cap - p) hfr (by omega) 96
      obtain ⟨r, hr⟩ : ∃ r, rwP 96 (sf c p) (n - p) = r := ⟨_, rfl⟩
      have hrn := rwP_le 96 (sf c p) (n - p)
      rw [show (fun j => c (p + j)) = sf c p from rfl, hr] at ct
      rw [hr] at hrn
      have HR : Hid (rwP 96 (sf c p) (n - p) = r) := hr
      clear hfr hr
      rcases Nat.eq_zero_or_pos r with h0 | h0
      · subst h0
        have HL : Hid (LastP c n i0 (p + 1) M) := last_one HM.out.2 (fun h96 => by
          have := row_zero hlt h96
          rw [HR.out] at this
          omega)
        go_wp2_with fail
        refine ct.mono ?_
        rintro e w1 ⟨rfl, hw⟩
        subst w1
        go_wp2
        go_roundg (n + 1 - (p + 1))
        case measure => omega
        case rel => exact ⟨p + 1, N, M, rfl, by omega, hlt, by omega, by go_num, ⟨HM.out.1, HL.out⟩, HU⟩
      · have hx1 : ((r : Int) > 0) := by omega
        have z6 : (0 : Int) < (r : Int) := hx1
        obtain ⟨w2, hrun, hM2, hg2⟩ := HM.out.1.put r p (by omega) (by omega) (by omega)
        have hmax : max (r : Int) 1 = (r : Int) := by omega
        have HM2 : Hid (MI w2 w.heap.size (N + 1) (fun j => if j = r then p else M j) ∧ LastP c n i0 (p + r) (fun j => if j = r then p else M j)) := ⟨hM2, by
          have := last_run HB.out.2 HM.out.2 hp0 hlt (by rw [HR.out]; exact h0)
          rw [HR.out] at this
          exact this⟩
        have HU2 : Hid (Up w.heap.size w w2) := HU.out.grown hg2 (fun k hk => by cases hk; exact Nat.le_refl _)
        clear hM2 hg2 hx1
        go_wp2_with fail
        refine ct.mono ?_
        rintro e w1 ⟨rfl, hw⟩
        subst w1
        go_wp2
        go_roundg (n + 1 - (p + r))
        case measure => omega
        case rel => exact ⟨p + r, N + 1, _, rfl, by omega, by omega, by omega, by go_num, HM2.out, HU2⟩
    · have z1 : ¬ (p : Int) < (n : Int) := by omega
      have hpe : p = n := by omega
      go_wp2
      rw [← HQ.out]
      have hl := HM.out.2
      rw [hpe] at hl
      exact ⟨w.heap.size, N, M, rfl, Nat.le_refl _, HM.out.1, hl, HU.out.1⟩
end Go.Proofs.YtodjfeheagnnpaaDoor
