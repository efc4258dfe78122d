/- fold.Letter; mark: a link. -/
import Derived.Test.YtodjfeheagnnpaaDoormRA
import Derived.Test.YtodjfeheagnnpaaDoormLex
namespace Go.Proofs.YtodjfeheagnnpaaDoor
set_option linter.unusedVariables false
open Go.RowKit Go.ChangeShapes
theorem great_f (r : Int) (w : World) : Calls Tryd.prog 89 #[.int .i32 r] w fun e w' => e = .returned (.bool (grL r)) ∧ w' = w := by
  by_cases h1 : 65 ≤ r
  · by_cases h2 : r ≤ 90
    · have e : grL r = true := by unfold grL; rw [decide_eq_true h1, decide_eq_true h2]; rfl
      rw [e]
      go_enter Tryd.func89, Tryd.ntmps89
      go_wp2
      go_ret
      exact ⟨rfl, rfl⟩
    · by_cases h3 : 192 ≤ r
      · by_cases h4 : r ≤ 222
        · by_cases h5 : r = 215
          · subst h5
            go_enter Tryd.func89, Tryd.ntmps89
            go_wp2
            go_ret
            exact ⟨rfl, rfl⟩
          · have e : grL r = true := by unfold grL; rw [decide_eq_true h3, decide_eq_true h4, decide_eq_false h5]; simp
            have k : (r != 215) = true := by simpa using h5
            rw [e]
            clear h5
            go_enter Tryd.func89, Tryd.ntmps89
            go_wp2
            go_ret
            exact ⟨rfl, rfl⟩
        · have e : grL r = false := by unfold grL; rw [decide_eq_false h2, decide_eq_false h4]; simp
          rw [e]
          go_enter Tryd.func89, Tryd.ntmps89
          go_wp2
          go_ret
          exact ⟨rfl, rfl⟩
      · have e : grL r = false := by unfold grL; rw [decide_eq_false h2, decide_eq_false h3]; simp
        rw [e]
        go_enter Tryd.func89, Tryd.ntmps89
        go_wp2
        go_ret
        exact ⟨rfl, rfl⟩
  · have h3 : ¬ 192 ≤ r := by omega
    have e : grL r = false := by unfold grL; rw [decide_eq_false h1, decide_eq_false h3]; simp
    rw [e]
    go_enter Tryd.func89, Tryd.ntmps89
    go_wp2
    go_ret
    exact ⟨rfl, rfl⟩
theorem small_f (r : Int) (hr : -1 ≤ r ∧ r ≤ 1114111) (w : World) : Calls Tryd.prog 90 #[.int .i32 r] w fun e w' => e = .returned (.bool (grL (r - 32))) ∧ w' = w := by
  have c := great_f (r - 32) w
  go_enter Tryd.func90, Tryd.ntmps90
  go_wp2_with fail
  refine c.mono ?_
  rintro e w1 ⟨rfl, hw⟩
  subst w1
  go_wp2
  go_ret
  exact ⟨rfl, rfl⟩
theorem letter_f (r : Int) (hr : -1 ≤ r ∧ r ≤ 1114111) (w : World) : Calls Tryd.prog 87 #[.int .i32 r] w fun e w' => e = .returned (.bool (leL r)) ∧ w' = w := by
  have c1 := great_f r w
  have c2 := small_f r hr w
  unfold leL
  cases hg : grL r with
  | true =>
    rw [hg] at c1
    clear c2 hg
    go_enter Tryd.func87, Tryd.ntmps87
    go_wp2_with fail
    refine c1.mono ?_
    rintro e w1 ⟨rfl, hw⟩
    subst w1
    go_wp2
    go_ret
    exact ⟨rfl, rfl⟩
  | false =>
    rw [hg] at c1
    cases hs : grL (r - 32) with
    | true =>
      rw [hs] at c2
      clear hg hs
      go_enter Tryd.func87, Tryd.ntmps87
      go_wp2_with fail
      refine c1.mono ?_
      rintro e w1 ⟨rfl, hw⟩
      subst w1
      go_wp2_with fail
      refine c2.mono ?_
      rintro e w1 ⟨rfl, hw⟩
      subst w1
      go_wp2
      go_ret
      exact ⟨rfl, rfl⟩
    | false =>
      rw [hs] at c2
      clear hg hs
      rcases (show r = 223 ∨ (r ≠ 223 ∧ r < 255) ∨ (r ≠ 223 ∧ 255 ≤ r ∧ r ≤ 591) ∨ (r ≠ 223 ∧ 591 < r ∧ r < 880) ∨ (r ≠ 223 ∧ 880 ≤ r ∧ r ≤ 1327) ∨ (r ≠ 223 ∧ 1327 < r) by omega) with h | ⟨h0, h1⟩ | ⟨h0, h1, h2⟩ | ⟨h0, h1, h2⟩ | ⟨h0, h1, h2⟩ | ⟨h0, h1⟩
      · have e : (false || false || decide (r = 223) || (decide (255 ≤ r) && decide (r ≤ 591)) || (decide (880 ≤ r) && decide (r ≤ 1327))) = true := by rw [decide_eq_true h]; rfl
        have k0 : (r == 223) = true := by simpa using h
        rw [e]
        clear h e
        go_enter Tryd.func87, Tryd.ntmps87
        go_wp2_with fail
        refine c1.mono ?_
        rintro e w1 ⟨rfl, hw⟩
        subst w1
        go_wp2_with fail
        refine c2.mono ?_
        rintro e w1 ⟨rfl, hw⟩
        subst w1
        go_wp2
        go_ret
        exact ⟨by first | rfl | (simp; omega) | simp, rfl⟩
      · have e : (false || false || decide (r = 223) || (decide (255 ≤ r) && decide (r ≤ 591)) || (decide (880 ≤ r) && decide (r ≤ 1327))) = false := by simp [h0]; omega
        have k0 : (r == 223) = false := by simpa using h0
        have z1 : ¬ 255 ≤ r := by omega
        have z2 : ¬ 880 ≤ r := by omega
        rw [e]
        clear h0 e
        go_enter Tryd.func87, Tryd.ntmps87
        go_wp2_with fail
        refine c1.mono ?_
        rintro e w1 ⟨rfl, hw⟩
        subst w1
        go_wp2_with fail
        refine c2.mono ?_
        rintro e w1 ⟨rfl, hw⟩
        subst w1
        go_wp2
        go_ret
        exact ⟨by first | rfl | (simp; omega) | simp, rfl⟩
      · have e : (false || false || decide (r = 223) || (decide (255 ≤ r) && decide (r ≤ 591)) || (decide (880 ≤ r) && decide (r ≤ 1327))) = true := by simp [h0]; omega
        have k0 : (r == 223) = false := by simpa using h0
        have z1 : 255 ≤ r := by omega
        have z2 : r ≤ 591 := by omega
        rw [e]
        clear h0 e
        go_enter Tryd.func87, Tryd.ntmps87
        go_wp2_with fail
        refine c1.mono ?_
        rintro e w1 ⟨rfl, hw⟩
        subst w1
        go_wp2_with fail
        refine c2.mono ?_
        rintro e w1 ⟨rfl, hw⟩
        subst w1
        go_wp2
        go_ret
        exact ⟨by first | rfl | (simp; omega) | simp, rfl⟩
      · have e : (false || false || decide (r = 223) || (decide (255 ≤ r) && decide (r ≤ 591)) || (decide (880 ≤ r) && decide (r ≤ 1327))) = false := by simp [h0]; omega
        have k0 : (r == 223) = false := by simpa using h0
        have z1 : 255 ≤ r := by omega
        have z2 : ¬ r ≤ 591 := by omega
        have z3 : ¬ 880 ≤ r := by omega
        rw [e]
        clear h0 e
        go_enter Tryd.func87, Tryd.ntmps87
        go_wp2_with fail
        refine c1.mono ?_
        rintro e w1 ⟨rfl, hw⟩
        subst w1
        go_wp2_with fail
        refine c2.mono ?_
        rintro e w1 ⟨rfl, hw⟩
        subst w1
        go_wp2
        go_ret
        exact ⟨by first | rfl | (simp; omega) | simp, rfl⟩
      · have e : (false || false || decide (r = 223) || (decide (255 ≤ r) && decide (r ≤ 591)) || (decide (880 ≤ r) && decide (r ≤ 1327))) = true := by simp [h0]; omega
        have k0 : (r == 223) = false := by simpa using h0
        have z1 : 255 ≤ r := by omega
        have z2 : ¬ r ≤ 591 := by omega
        have z3 : 880 ≤ r := by omega
        have z4 : r ≤ 1327 := by omega
        rw [e]
        clear h0 e
        go_enter Tryd.func87, Tryd.ntmps87
        go_wp2_with fail
        refine c1.mono ?_
        rintro e w1 ⟨rfl, hw⟩
        subst w1
        go_wp2_with fail
        refine c2.mono ?_
        rintro e w1 ⟨rfl, hw⟩
        subst w1
        go_wp2
        go_ret
        exact ⟨by first | rfl | (simp; omega) | simp, rfl⟩
      · have e : (false || false || decide (r = 223) || (decide (255 ≤ r) && decide (r ≤ 591)) || (decide (880 ≤ r) && decide (r ≤ 1327))) = false := by simp [h0]; omega
        have k0 : (r == 223) = false := by simpa using h0
        have z1 : 255 ≤ r := by omega
        have z2 : ¬ r ≤ 591 := by omega
        have z3 : 880 ≤ r := by omega
        have z4 : ¬ r ≤ 1327 := by omega
        rw [e]
        clear h0 e
        go_enter Tryd.func87, Tryd.ntmps87
        go_wp2_with fail
        refine c1.mono ?_
        rintro e w1 ⟨rfl, hw⟩
        subst w1
        go_wp2_with fail
        refine c2.mono ?_
        rintro e w1 ⟨rfl, hw⟩
        subst w1
        go_wp2
        go_ret
        exact ⟨by first | rfl | (simp; omega) | simp, rfl⟩
/-- The first of such signs, as IndexAny tells it. -/
def iaV (c : Nat → Int) (n : Nat) : Int := if fs (fun j => anB (c j)) n 0 < n then (fs (fun j => anB (c j)) n 0 : Int) else -1
def IaOk : Prop := ∀ (w : World) (b off n cap : Nat) (c : Nat → Int), Ch c n → BC w (some ⟨b, off, none⟩) n c → n ≤ 65536 → n ≤ cap → cap ≤ 9223372036854775807 → GlM w →
    Calls Tryd.prog 88 #[.slice (some ⟨b, off, none⟩) n cap, .string ⟨#[32, 9, 13, 10, 60, 62]⟩] w fun e w' => e = .returned (.int .i64 (iaV c n)) ∧ Below w.heap.size w w'
theorem ia_sh (d : Nat → Int) {n p : Nat} (h : p ≤ n) : iaV (sf d p) (n - p) = if fs (fun j => anB (d j)) n p < n then (fs (fun j => anB (d j)) n p : Int) - (p : Int) else -1 := by
  have e := fs_sh (fun j => anB (d j)) p (n - p) 0
  rw [show p + (n - p) = n by omega, Nat.add_zero] at e
  have e2 : fs (fun j => anB (d j)) n p = p + fs (fun j => anB (sf d p j)) (n - p) 0 := e
  unfold iaV
  rw [e2]
  by_cases h1 : fs (fun j => anB (sf d p j)) (n - p) 0 < n - p
  · rw [if_pos h1, if_pos (by omega)]
    push_cast
    omega
  · rw [if_neg h1, if_neg (by omega)]
/-- What stands at a place, none at the end. -/
def rnE (s : ByteArray) (p : Nat) : Int := if p < s.size then rn s p else -1
def wdE (s : ByteArray) (p : Nat) : Nat := if p < s.size then wd s p else 0
theorem rnE_bd (s : ByteArray) (p : Nat) : -1 ≤ rnE s p ∧ rnE s p ≤ 1114111 := by
  unfold rnE
  by_cases h : p < s.size
  · rw [if_pos h]
    rcases rn_range s p h with h1 | h1
    · rw [h1]; decide
    · have := (okR_iff _).1 h1; omega
  · rw [if_neg h]; decide
theorem next_e {s : ByteArray} {w : World} {b off cap p : Nat} {ad : Option Addr} (hp : p ≤ s.size) (hcap : s.size ≤ cap) (ha : (if cap = p then some (⟨b, off, none⟩ : Addr) else some ⟨b, off + p, none⟩) = ad) (hT : Lns.Tabs w) (hb : Lns.By w b off s) :
    Calls Tryd.prog 55 #[.slice ad (s.size - p) (cap - p)] w fun e w' => e = .returned (.tuple #[.int .i32 (rnE s p), .int .i64 (wdE s p : Nat)]) ∧ Below w.heap.size w w' := by
  by_cases h : p < s.size
  · rw [if_neg (by omega)] at ha
    subst ha
    unfold rnE wdE
    rw [if_pos h, if_pos h]
    exact Lns.next_at s p b off (cap - p) w h hT hb
  · obtain rfl : p = s.size := by omega
    unfold rnE wdE
    rw [if_neg h, if_neg h, Nat.sub_self]
    have key : ∀ b' off', Calls Tryd.prog 55 #[.slice (some ⟨b', off', none⟩) 0 (cap - s.size)] w fun e w' => e = .returned (.tuple #[.int .i32 (-1), .int .i64 ((0 : Nat) : Int)]) ∧ Below w.heap.size w w' := fun b' off' => Lns.next_go ⟨#[]⟩ b' off' (cap - s.size) w hT (fun j hj => absurd hj (Nat.not_lt_zero _))
    by_cases h2 : cap = s.size
    · rw [if_pos h2] at ha; subst ha; exact key _ _
    · rw [if_neg h2] at ha; subst ha; exact key _ _
theorem le_oneE {s : ByteArray} {p : Nat} (hp : p ≤ s.size) (k : Nat) : le s p k = if leL (rnE s p) = true then le s (p + wdE s p) (k + 1) else (p, k) := by
  unfold rnE wdE
  by_cases h : p < s.size
  · rw [if_pos h, if_pos h]; exact le_one h k
  · rw [if_neg h, if_neg h, le_end (by omega)]; rfl
set_option maxRecDepth 100000 in
set_option maxHeartbeats 2000000 in
theorem link_ok (hIa : IaOk) {d : Nat → Int} {n : Nat} (hC : Ch d n) (hn : n ≤ 40000) : LnkOk d n := by
  intro w b off cap i hb hcap hbig hG hi h60
  have hcA := fun (w' : World) => Go.Lib.run_convert_bytes_const (P := Tryd.prog) w' 22 5 #[.int .u8 58] 1 1 Tryd.underlying22 Tryd.underlying5
  have HH : Hid (BC w (some ⟨b, off, none⟩) n d ∧ GlM w ∧ Ch d n ∧ IaOk) := ⟨hb, hG, hC, hIa⟩
  obtain ⟨Z, hZ⟩ : ∃ Z, ((lkP d n i : Nat) : Int) = Z := ⟨_, rfl⟩
  have HZ : Hid (((lkP d n i : Nat) : Int) = Z) := hZ
  rw [hZ]
  have z3 : (n : Int) ≤ (cap : Int) := by omega
  clear hb hG hC hIa h60 hZ
  go_enter Tryd.func83, Tryd.ntmps83
  go_wp2
  go_loopg [5, 6] (n - (i + 1)) (fun q pv kv wr => ∃ (p k : Nat), q = n - p ∧ p ≤ n ∧ k ≤ p ∧ pv = .int .i64 p ∧ kv = .int .i64 k ∧ Hid (le (bs d n) (i + 1) 0 = le (bs d n) p k) ∧ Hid (Below w.heap.size w wr))
  case atStart => exact ⟨i + 1, 0, rfl, by omega, Nat.zero_le _, by go_num, rfl, rfl, Below.refl _ _⟩
  case round =>
    obtain ⟨p, k, hq, hp, hkp, rfl, rfl, HL, HB⟩ := hrel
    have z1 : (0 : Int) ≤ (p : Int) := by omega
    have z2 : (p : Int) ≤ (n : Int) := by omega
    obtain ⟨ad, had⟩ : ∃ ad, (if cap = p then some (⟨b, off, none⟩ : Addr) else some ⟨b, off + p, none⟩) = ad := ⟨_, rfl⟩
    have hbw := HH.out.1.stay HB.out
    have cN := next_e (s := bs d n) (b := b) (off := off) (cap := cap) (p := p) (by rw [bs_size]; exact hp) (by rw [bs_size]; exact hcap) had (HH.out.2.1.stay HB.out).2 (bs_by HH.out.2.2.1.1 hbw)
    rw [bs_size] at cN
    have hl1 := le_oneE (s := bs d n) (p := p) (by rw [bs_size]; exact hp) k
    have hrb := rnE_bd (bs d n) p
    have hwb : leL (rnE (bs d n) p) = true → 1 ≤ wdE (bs d n) p ∧ p + wdE (bs d n) p ≤ n := fun h => by
      unfold wdE
      by_cases h1 : p < (bs d n).size
      · rw [if_pos h1]
        have := wd_pos (bs d n) p h1
        rw [bs_size] at this
        omega
      · unfold rnE at h
        rw [if_neg h1] at h
        exact absurd h (by decide)
    have HBC : Hid (BC wr ad (n - p) (sf d p)) := by
      have := BC.from (cap := cap) hbw p hp hcap
      rw [had] at this
      exact this
    obtain ⟨b', off', hbo⟩ : ∃ b' off', ad = some ⟨b', off', none⟩ := by
      rw [← had]
      split
      · exact ⟨_, _, rfl⟩
      · exact ⟨_, _, rfl⟩
    subst hbo
    obtain ⟨rr, hrr⟩ : ∃ rr, rnE (bs d n) p = rr := ⟨_, rfl⟩
    obtain ⟨ww, hww⟩ : ∃ ww, wdE (bs d n) p = ww := ⟨_, rfl⟩
    rw [hrr, hww] at cN hl1
    rw [hrr] at hrb
    rw [hrr, hww] at hwb
    have HL1 : Hid (le (bs d n) p k = if leL rr = true then le (bs d n) (p + ww) (k + 1) else (p, k)) := hl1
    clear hrr hww hl1 hbw
    go_wp2_with fail
    refine cN.mono ?_
    rintro e w1 ⟨rfl, hb1⟩
    have HB1 : Hid (Below w.heap.size w w1 ∧ Below wr.heap.size wr w1) := ⟨HB.out.trans (hb1.mono HB.out.size), hb1⟩
    have cT := letter_f rr hrb w1
    clear cN hb1
    cases hlr : leL rr with
    | true =>
      rw [hlr] at cT hwb
      have hw2 := hwb rfl
      have HN : Hid (le (bs d n) (i + 1) 0 = le (bs d n) (p + ww) (k + 1)) := by show _ = _; rw [HL.out, HL1.out, hlr]; rfl
      clear hlr hwb
      go_wp2_with fail
      refine cT.mono ?_
      rintro e w2 ⟨rfl, hw⟩
      subst w2
      clear cT
      go_wp2
      go_roundg (n - (p + ww))
      case measure => omega
      case rel => exact ⟨p + ww, k + 1, rfl, hw2.2, by omega, by go_num, by go_num, HN, HB1.out.1⟩
    | false =>
      rw [hlr] at cT
      have HP : Hid (lkQ d n i = p ∧ lkK d n i = k) := by
        have h1 : le (bs d n) (i + 1) 0 = (p, k) := by rw [HL.out, HL1.out, hlr]; rfl
        exact ⟨congrArg Prod.fst h1, congrArg Prod.snd h1⟩
      clear hlr hwb HL HL1
      go_wp2_with fail
      refine cT.mono ?_
      rintro e w2 ⟨rfl, hw⟩
      subst w2
      clear cT
      by_cases hk2 : k < 2
      · have k1 : (k : Int) < 2 := by omega
        have HF : Hid ((0 : Int) = Z) := by
          show _ = _
          rw [← HZ.out]
          unfold lkP
          rw [HP.out.2, decide_eq_false (by omega)]
          rfl
        go_wp2
        go_ret
        exact ⟨by rw [← HF.out]; rfl, HB1.out.1⟩
      · have k1 : ¬ (k : Int) < 2 := by omega
        obtain ⟨W, hW⟩ : ∃ W, w1.alloc (.cells #[.int .u8 58] 5 (1, 2)) = W := ⟨_, rfl⟩
        have hL1 : BC W (some ⟨w1.heap.size, 0, none⟩) 1 (fun j => [58].getD j 0) := by rw [← hW]; exact lit_bc w1 [58] (1, 2)
        have hBW : Below w1.heap.size w1 W := by rw [← hW]; exact below_alloc w1 _
        have hbW : BC W (some ⟨b', off', none⟩) (n - p) (sf d p) := (HBC.out.stay HB1.out.2).stay hBW
        have HBW : Hid (Below w.heap.size w W) := HB1.out.1.trans (hBW.mono HB1.out.1.size)
        have hCp : Ch (sf d p) (n - p) := HH.out.2.2.1.from p hp
        have cH := hasP_any (cap := cap - p) (d := 1) hCp hbW (by omega) hL1 rfl (byt1 58 (by omega))
        have hoc : oc [58] (sf d p) 0 = (d p == 58) := by rw [oc1]; rfl
        rw [hoc] at cH
        have HXX : Hid (BC W (some ⟨b', off', none⟩) (n - p) (sf d p) ∧ Ch (sf d p) (n - p)) := ⟨hbW, hCp⟩
        clear hL1 hBW hbW hCp hoc
        cases h58 : (d p == 58) with
        | false =>
          rw [h58] at cH
          have HF : Hid ((0 : Int) = Z) := by
            show _ = _
            rw [← HZ.out]
            unfold lkP
            rw [HP.out.1, h58]
            simp
          clear h58
          go_wp2_with fail
          refine cH.mono ?_
          rintro e w3 ⟨rfl, hw⟩
          subst w3
          clear cH
          go_wp2
          go_ret
          exact ⟨by rw [← HF.out]; rfl, HBW.out⟩
        | true =>
          rw [h58] at cH
          have HG3 : Hid (GlM W) := HH.out.2.1.stay HBW.out
          have cI := HH.out.2.2.2 W b' off' (n - p) (cap - p) (sf d p) HXX.out.2 HXX.out.1 (by omega) (by omega) (by omega) HG3.out
          rw [ia_sh d hp] at cI
          obtain ⟨J, hJ⟩ : ∃ J, fs (fun j => anB (d j)) n p = J := ⟨_, rfl⟩
          have hpJ : p ≤ J := by rw [← hJ]; exact fs_ge _ _ _
          rw [hJ] at cI
          have HJ : Hid (lkJ d n i = J) := by show _ = _; unfold lkJ; rw [HP.out.1]; exact hJ
          have HLP : Hid (lkP d n i = if (decide (J < n) && (d J == 62)) = true then J + 1 else 0) := by
            show _ = _
            unfold lkP
            rw [HP.out.1, HP.out.2, HJ.out, h58, decide_eq_true (show 2 ≤ k by omega)]
            simp
          clear h58 hJ
          go_wp2_with fail
          refine cH.mono ?_
          rintro e w3 ⟨rfl, hw⟩
          subst w3
          clear cH
          go_wp2_with fail
          refine cI.mono ?_
          rintro e w4 ⟨rfl, hb4⟩
          have HB4 : Hid (Below w.heap.size w w4) := HBW.out.trans (hb4.mono HBW.out.size)
          clear cI hb4
          by_cases hJn : J < n
          · rw [if_pos hJn]
            obtain ⟨q, hq⟩ : ∃ q, (J : Int) - (p : Int) = q := ⟨_, rfl⟩
            rw [hq]
            have k2 : ¬ q < 0 := by omega
            have k3 : (p : Int) + q = (J : Int) := by omega
            have k4 : (0 : Int) ≤ (J : Int) := by omega
            have k5 : (J : Int) < (n : Int) := by omega
            obtain ⟨b2, off2, eb, hcell⟩ := (HH.out.1.stay HB4.out) J hJn
            injection eb with eb
            injection eb with e1 e2 _
            subst e1 e2
            obtain ⟨x, hx⟩ : ∃ x, d J = x := ⟨_, rfl⟩
            rw [hx] at hcell
            have HX : Hid (d J = x) := hx
            clear hq hx
            by_cases h62 : x = 62
            · have HF : Hid ((J : Int) + 1 = Z) := by
                show _ = _
                rw [← HZ.out, HLP.out, HX.out, h62, decide_eq_true hJn]
                rfl
              have k6 : (x != 62) = false := by simpa using h62
              clear h62
              go_wp2
              go_ret
              exact ⟨by first | (rw [← HF.out]; rfl) | (rw [HF.out]; rfl) | rfl, HB4.out⟩
            · have HF : Hid ((0 : Int) = Z) := by
                show _ = _
                rw [← HZ.out, HLP.out, HX.out, show (x == 62) = false by simpa using h62]
                simp
              have k6 : (x != 62) = true := by simpa using h62
              clear h62
              go_wp2
              go_ret
              exact ⟨by rw [← HF.out]; rfl, HB4.out⟩
          · rw [if_neg hJn]
            have HF : Hid ((0 : Int) = Z) := by
              show _ = _
              rw [← HZ.out, HLP.out, decide_eq_false hJn]
              rfl
            go_wp2
            go_ret
            exact ⟨by rw [← HF.out]; rfl, HB4.out⟩
end Go.Proofs.YtodjfeheagnnpaaDoor
