/- The reference: listed words of a text. -/
import Derived.Test.YteeeekpeokgaeaaDoorPkYPure3
import Derived.Test.YteeeekpeokgaeaaDoorPkVRnx3
import Derived.Test.YteeeekpeokgaeaaDoorRFld
import Derived.Test.YteeeekpeokgaeaaDoorRChk
import Derived.Laws.AppendOwnNone
import Derived.Deep.RegionHeld3
import Derived.Deep.DeepCutAuto
import Derived.Deep.CutBlock
namespace Go.Proofs.YteeeekpeokgaeaaDoor
set_option linter.unusedVariables false
open Go.RowKit Go.ChangeShapes Tns
/-- Rows of texts. -/
def SS (w : World) (base : Nat) (v : Value) (L : List ByteArray) : Prop := w.ownsRow base 9 1 v L.length (L.map Value.string)
theorem wpo_append_none {P : Program} {w : World} {o : Oper} {a : Act} {K : Act → World → Prop} {Q : Exit → Act → World → Prop} (s x : Operand) (t : TypeId)
    (ho : o.op = .call { callee := .builtin .append, args := #[s, x], argTypes := #[t, t] })
    (base : Nat) (e : TypeId) (i : TypeInfo) (size : Nat) (ht : P.underlying t = some (.slice e)) (hi : P.info? e = some i)
    (v : Value) (n : Nat) (xs : List Value) (hs : a.eval s = v) (hown : w.ownsRow base e size v n xs) (hx : a.eval x = .slice none 0 0)
    (h : K (a.put o.dst v) w) : o.wp P a w K Q := by
  have hrun := run_append_owned_none (P := P) (w := w) base t o.type e i size ht hi v n xs hown
  unfold Oper.wp
  simp [execOp, ho, resolve, invoke, builtin, hs, hx, hrun, Result.andThen]
  exact h
/-- An own row behind another, in a drawn region. -/
theorem wpo_append_any {P : Program} {w : World} {o : Oper} {a : Act} {K : Act → World → Prop} {Q : Exit → Act → World → Prop} (s x : Operand) (t : TypeId)
    (ho : o.op = .call { callee := .builtin .append, args := #[s, x], argTypes := #[t, t] })
    (base : Nat) (e : TypeId) (i : TypeInfo) (z : Value) (size bytes : Nat) (ht : P.underlying t = some (.slice e)) (hi : P.info? e = some i) (hz : i.zero = some z)
    (hsize : i.size = size) (hby : i.bytes = bytes) (hzs : z.cells.size = size) (hsz : 0 < size)
    (v : Value) (n : Nat) (xs : List Value) (hs : a.eval s = v) (hown : w.ownsRow base e size v n xs)
    (base2 : Nat) (v2 : Value) (m : Nat) (news : List Value) (hx : a.eval x = v2) (hsrc : w.ownsRow base2 e size v2 m news) (h1 : ∀ u ∈ news, u.oneCell' = true)
    (h63 : n + m ≤ maxLen) (hbytes : (n + m) * bytes ≤ 140737488355328) (hbase : base ≤ w.heap.size)
    (h : ∀ v' w', w'.ownsRow base e size v' (n + m) (xs ++ news) → w.grownBy w' v.ownBlock → K (a.put o.dst v') w') : o.wp P a w K Q := by
  have hc := @World.ownsRow.cells _ _ _ _ _ _ _ hsrc
  obtain ⟨hl, ⟨rfl, rfl⟩ | ⟨g, cap, cur, rfl, hg, hh, h3⟩⟩ := hsrc
  · obtain rfl : news = [] := List.eq_nil_of_length_eq_zero (by simpa using hl)
    refine wpo_append_none s x t ho base e i size ht hi v n xs hs hown hx ?_
    exact h v w (by rw [List.append_nil]; exact hown) (World.grownBy.refl _ _)
  · exact wp_append_own w s x t ho base e i z size bytes ht hi hz hsize hby hzs hsz v n xs hs hown ⟨g, 0, none⟩ m cap news hx hl (hc rfl) h1 h63 hbytes hbase (fun v' w' h2 h3 _ => h v' w' h2 h3)
theorem ss_one (L : List ByteArray) : ∀ u ∈ L.map Value.string, u.oneCell' = true := by
  intro u hu
  obtain ⟨x, -, rfl⟩ := List.mem_map.1 hu
  rfl
theorem wsB_iff (r : Int) : wsB r = (lB r || (r == 39)) := rfl
theorem weF_on {t : ByteArray} {f p : Nat} (hp : p < t.size) (h : wsB (rn t p) = true) : weF t (f + 1) p = weF t f (p + wd t p) := by
  rw [weF, h, show decide (p < t.size) = true by simpa using hp]
  rfl
theorem weF_out {t : ByteArray} {f p : Nat} (h : ¬ p < t.size ∨ wsB (rn t p) = false) : weF t f p = p := by
  cases f with
  | zero => rfl
  | succ f =>
    unfold weF
    rcases h with h | h
    · rw [show decide (p < t.size) = false by simpa using h]
      rfl
    · rw [h, Bool.and_false]
      rfl
/-- How many signs the word has that a text begins with. -/
theorem weF_ex {t : ByteArray} {K : Nat} (he : Ends t K) : ∀ f j, j ≤ K → t.size ≤ pos t j + f → ∃ n, j ≤ n ∧ n ≤ K ∧ weF t f (pos t j) = pos t n ∧ (∀ i, j ≤ i → i < n → wsB (rn t (pos t i)) = true) ∧ (n = K ∨ wsB (rn t (pos t n)) = false)
  | 0, j, hj, hf => by
    have hk : j = K := by
      rcases Nat.lt_or_ge j K with h | h
      · have := he.2 j h; omega
      · omega
    exact ⟨j, Nat.le_refl _, hj, rfl, fun i h1 h2 => absurd h2 (by omega), Or.inl hk⟩
  | f + 1, j, hj, hf => by
    by_cases hk : j < K
    · have hp := he.2 j hk
      cases hw : wsB (rn t (pos t j))
      · exact ⟨j, Nat.le_refl _, hj, weF_out (Or.inr hw), fun i h1 h2 => absurd h2 (by omega), Or.inr hw⟩
      · have hwp := (wd_pos t (pos t j) hp).1
        obtain ⟨n, n1, n2, n3, n4, n5⟩ := weF_ex he f (j + 1) hk (by simp only [pos]; omega)
        refine ⟨n, by omega, n2, by rw [weF_on hp hw]; exact n3, fun i h1 h2 => ?_, n5⟩
        rcases Nat.eq_or_lt_of_le h1 with h3 | h3
        · subst h3; exact hw
        · exact n4 i h3 h2
    · obtain rfl : j = K := by omega
      have : pos t j = t.size := he.1
      exact ⟨j, Nat.le_refl _, Nat.le_refl _, weF_out (Or.inl (by omega)), fun i h1 h2 => absurd h2 (by omega), Or.inl rfl⟩
theorem we_ex {t : ByteArray} {K : Nat} (he : Ends t K) : ∃ n, n ≤ K ∧ we t = pos t n ∧ (∀ i, i < n → wsB (rn t (pos t i)) = true) ∧ (n = K ∨ wsB (rn t (pos t n)) = false) := by
  obtain ⟨n, -, n2, n3, n4, n5⟩ := weF_ex he t.size 0 (Nat.zero_le _) (by show t.size ≤ 0 + t.size; omega)
  exact ⟨n, n2, n3, fun i hi => n4 i (Nat.zero_le _) hi, n5⟩
theorem knF_no {f : Nat} {s t : ByteArray} (ht : frm s (sk s 0) = t) (h : ¬ chk (t.extract 0 (we t)) = 0) : knF (f + 1) s = [] := by
  rw [knF, ht, show decide (chk (t.extract 0 (we t)) = 0) = false from decide_eq_false h]
  exact cond_false _ _
theorem knF_yes {f : Nat} {s t : ByteArray} (ht : frm s (sk s 0) = t) (h : chk (t.extract 0 (we t)) = 0) : knF (f + 1) s = fld (t.extract 0 (we t)) :: knF f (frm t (we t)) := by
  rw [knF, ht, show decide (chk (t.extract 0 (we t)) = 0) = true from decide_eq_true h]
  exact cond_true _ _
theorem chk_empty {t : ByteArray} (h : t.size = 0) : ¬ chk t = 0 := by
  have hk : kS t = 0 := kS_is ⟨by show 0 = t.size; exact h.symm, fun j hj => absurd hj (Nat.not_lt_zero j)⟩
  unfold chk
  rw [hk, h]
  show ¬ chkL 0 [] = 0
  decide
theorem chk_le {t : ByteArray} (h : chk t = 0) : t.size ≤ 64 := by
  rcases Nat.lt_or_ge 64 t.size with h1 | h1
  · unfold chk chkL at h
    rw [if_pos h1] at h
    cases h
  · exact h1
theorem rchk_all (s : ByteArray) (w : World) (hs : s.size ≤ 100000) :
    Calls Tryd.prog 36 #[.string s] w fun e w' => e = .returned (.int .i64 (chk s)) ∧ Below w.heap.size w w' := by
  by_cases h64 : 64 < s.size
  · have hd : chk s = 3 := by unfold chk chkL; simp [h64]
    rw [hd]
    clear hd
    have h64' : (64 : Int) < (s.size : Int) := by omega
    go_enter Tryd.func36, Tryd.ntmps36
    go_wp2
    go_ret
    exact ⟨rfl, Below.refl _ _⟩
  · exact rcheck_any s w (by omega)
theorem knF_len : ∀ (f : Nat) (s : ByteArray), (knF f s).length ≤ f
  | 0, s => Nat.le_refl 0
  | f + 1, s => by
    by_cases h : chk ((frm s (sk s 0)).extract 0 (we (frm s (sk s 0)))) = 0
    · rw [knF_yes rfl h]
      exact Nat.succ_le_succ (knF_len f _)
    · rw [knF_no rfl h]
      exact Nat.zero_le _
set_option maxHeartbeats 8000000 in
set_option maxRecDepth 100000 in
theorem rkw_step (f : Nat) (IH : Hid (∀ (t : ByteArray) (w' : World), t.size < f → t.size ≤ 8000 → Calls Tryd.prog 21 #[.string t] w' fun e w'' => ∃ v, e = .returned v ∧ SS w'' w'.heap.size v (knF f t) ∧ Below w'.heap.size w' w'')) (s : ByteArray) (w : World) (h : s.size < f + 1) (hn : s.size ≤ 8000) (hf : f + 1 ≤ 9000) :
    Calls Tryd.prog 21 #[.string s] w fun e w' => ∃ v, e = .returned v ∧ SS w' w.heap.size v (knF (f + 1) s) ∧ Below w.heap.size w w' := by
    obtain ⟨i0, hi9, hz0, hz1, hz2⟩ := info_parts Lns.info9
    have hsk := sk_ge (s := s) s.size 0 (by omega)
    obtain ⟨T, hT⟩ : ∃ T, frm s (sk s 0) = T := ⟨_, rfl⟩
    have HTT : Hid (frm s (sk s 0) = T) := hT
    have hTs : T.size ≤ s.size := by rw [← hT, frm_size]; omega
    clear hT
    go_enter Tryd.func21, Tryd.ntmps21
    go_upto_block 0 with fail
    go_cut [0] (fun sv wx => sv = .string T ∧ wx = w)
    case first =>
      go_wp2_with fail
      go_loopg [0] s.size (fun q iv wr => ∃ i : Nat, i ≤ sk s 0 ∧ sk s i = sk s 0 ∧ q = s.size - i ∧ iv = .string (frm s i) ∧ wr = w)
      case atStart => exact ⟨0, Nat.zero_le _, rfl, rfl, by rw [frm_zero], rfl⟩
      case round =>
        obtain ⟨i, hi, hsi, hq, rfl, rfl⟩ := hrel
        obtain ⟨V, hV⟩ : ∃ V, frm s i = V := ⟨_, rfl⟩
        have hVs : V.size = s.size - i := by rw [← hV, frm_size]
        rw [hV]
        by_cases hlt : i < s.size
        · have hx : ∀ hh : 0 < V.size, (V[0]'hh).toNat = bt s i := fun hh => by
            have e1 := frm_bt (s := s) (i := i) (j := 0) (by omega)
            rw [hV, Nat.add_zero] at e1
            rw [← e1]
            show _ = (V.data[0]!).toNat
            rw [getElem!_pos V.data 0 hh]
            rfl
          have t0 : 0 < V.size := by omega
          have t1 : (0 : Int) < (V.size : Int) := by omega
          obtain ⟨x, hxx⟩ : ∃ x, bt s i = x := ⟨_, rfl⟩
          rw [hxx] at hx
          cases hb : blB x
          · have hsk2 : sk s 0 = i := by rw [← hsi]; exact sk_no (by rw [hxx]; exact hb)
            have HV : Hid (V = T) := by show V = T; rw [← HTT.out, hsk2, hV]
            have d1 : ((x : Int) == 32) = false := by unfold blB at hb; simp at hb; simp; omega
            have d2 : ((x : Int) == 9) = false := by unfold blB at hb; simp at hb; simp; omega
            have d3 : ((x : Int) == 44) = false := by unfold blB at hb; simp at hb; simp; omega
            clear hb hi hsi hlt hxx hsk2 hV
            go_wp2
            go_meet
            case rel => exact ⟨by rw [HV.out], rfl⟩
          · have hsk2 : sk s (i + 1) = sk s 0 := by rw [← hsi]; exact (sk_on hlt (by rw [hxx]; exact hb)).symm
            have hsk3 : i + 1 ≤ sk s 0 := by rw [← hsk2]; exact (sk_ge (s := s) (s.size - (i + 1)) (i + 1) (by omega)).1
            have hV2 : V.extract 1 V.size = frm s (i + 1) := by
              have e1 := frm_frm s i 1
              rw [hV] at e1
              exact e1
            rcases (show x = 32 ∨ x = 9 ∨ x = 44 by unfold blB at hb; simp at hb; omega) with rfl | rfl | rfl
            · clear hxx hb hV hVs
              go_wp2
              go_roundg (s.size - (i + 1))
              case measure => omega
              case rel => exact ⟨i + 1, hsk3, hsk2, rfl, by first | rfl | rw [hV2], rfl⟩
            · clear hxx hb hV hVs
              go_wp2
              go_roundg (s.size - (i + 1))
              case measure => omega
              case rel => exact ⟨i + 1, hsk3, hsk2, rfl, by first | rfl | rw [hV2], rfl⟩
            · clear hxx hb hV hVs
              go_wp2
              go_roundg (s.size - (i + 1))
              case measure => omega
              case rel => exact ⟨i + 1, hsk3, hsk2, rfl, by first | rfl | rw [hV2], rfl⟩
        · have t0 : V.size = 0 := by omega
          have t1 : ¬ (0 : Int) < (V.size : Int) := by omega
          have hsk2 : sk s 0 = i := by omega
          have HV : Hid (V = T) := by show V = T; rw [← HTT.out, hsk2, hV]
          clear hi hsi hlt hsk2 hV
          go_wp2
          go_meet
          case rel => exact ⟨by rw [HV.out], rfl⟩
    case rest =>
      obtain ⟨rfl, hwc⟩ := hcut
      have hwc := hwc.symm
      subst hwc
      have hcv := Lib.run_convert_string_bytes (P := Tryd.prog) w 9 22 5 T (u := .string) Tryd.underlying9 Tryd.underlying22 Tryd.underlying5
      have cu := Lns.runits_any T w.heap.size 0 (grownCap w T.size 0 5) (Lib.bytesWorld w 5 T) (by omega) (grownCap_ge w T.size 0 5) (by_conv w T)
      have HU0 : Hid (Up w.heap.size w (Lib.bytesWorld w 5 T)) := ⟨bw_below w 5 T, (bw_below w 5 T).size⟩
      generalize Lib.bytesWorld w 5 T = W1 at hcv cu HU0
      generalize grownCap w T.size 0 5 = cap at hcv cu
      have hTf : T.size ≤ f := by omega
      clear hsk
      go_wp2_with fail
      refine cu.mono ?_
      rintro e w1 ⟨K, v, rfl, he, hown, hb1⟩
      have HU1 : Hid (Up w.heap.size w w1) := HU0.out.stay hb1
      have HE : Hid (Ends T K) := he
      have hKs := he.le
      obtain ⟨n, n2, n3, n4, n5⟩ := we_ex he
      have HW : Hid (we T = pos T n ∧ (∀ i, i < n → wsB (rn T (pos T i)) = true) ∧ (n = K ∨ wsB (rn T (pos T n)) = false)) := ⟨n3, n4, n5⟩
      have HUs : Hid (0 < K → ∃ g c, v = .slice (some ⟨g, 0, none⟩) K c ∧ Lns.Us w1 g K T) := fun hK => by
        have hown0 := hown
        obtain ⟨hl, ⟨rfl, rfl⟩ | ⟨g, c, cur, rfl, _⟩⟩ := hown
        · omega
        · exact ⟨g, c, rfl, Lns.us_of hown0⟩
      obtain ⟨ga, gc, rfl⟩ : ∃ ga gc, v = .slice ga K gc := by
        obtain ⟨hl, ⟨rfl, rfl⟩ | ⟨g, c, cur, rfl, _⟩⟩ := hown
        · exact ⟨none, 0, rfl⟩
        · exact ⟨_, _, rfl⟩
      clear cu hcv HU0 hb1 he hown n3 n4 n5
      go_upto_block 2 with fail
      go_cut [4] (fun jv wx => jv = .int .i64 (n : Int) ∧ wx = w1)
      case first =>
        go_wp2_with fail
        go_loopg [4] n (fun q jv wr2 => ∃ j : Nat, j ≤ n ∧ q = n - j ∧ jv = .int .i64 (j : Int) ∧ wr2 = w1)
        case atStart => exact ⟨0, Nat.zero_le _, by omega, rfl, rfl⟩
        case round =>
          obtain ⟨j, hj, hqj, rfl, hwr⟩ := hrel
          subst hwr
          have z0 : (0 : Int) ≤ (j : Int) := by omega
          by_cases hjK : j < K
          · have z1 : (j : Int) < (K : Int) := by omega
            obtain ⟨g, c, eS, us⟩ := HUs.out (by omega)
            injection eS with eA eB eC
            subst eA eC
            obtain ⟨a0, a1, -, -⟩ := us j hjK
            have fit : Fit (rn T (pos T j)) := rl_fit HE.out j hjK
            have c1 := fun w9 => rletter_any (rn T (pos T j)) fit w9
            have hw1 : j < n → wsB (rn T (pos T j)) = true := fun hh => HW.out.2.1 j hh
            have hw2 : ¬ j < n → wsB (rn T (pos T j)) = false := fun hh => by
              obtain rfl : j = n := by omega
              rcases HW.out.2.2 with h5 | h5
              · omega
              · exact h5
            obtain ⟨r, hr⟩ : ∃ r, rn T (pos T j) = r := ⟨_, rfl⟩
            rw [hr] at a1 c1 hw1 hw2
            clear hr us fit eB
            by_cases hjn : j < n
            · have hw := hw1 hjn
              rw [wsB_iff] at hw
              cases hl : lB r
              · rw [hl] at c1 hw
                have y1 : (r == 39) = true := hw
                obtain rfl : r = 39 := by simpa using y1
                clear hw hl hw1 hw2 y1
                go_wp2_with fail
                refine (c1 _).mono ?_
                rintro e w2 ⟨rfl, hw2⟩
                subst w2
                clear c1
                go_wp2
                go_roundg (n - (j + 1))
                case measure => omega
                case rel => exact ⟨j + 1, by omega, rfl, by go_num, rfl⟩
              · rw [hl] at c1
                clear hw hl hw1 hw2
                go_wp2_with fail
                refine (c1 _).mono ?_
                rintro e w2 ⟨rfl, hw2⟩
                subst w2
                clear c1
                go_wp2
                go_roundg (n - (j + 1))
                case measure => omega
                case rel => exact ⟨j + 1, by omega, rfl, by go_num, rfl⟩
            · have hw := hw2 hjn
              rw [wsB_iff] at hw
              obtain rfl : j = n := by omega
              have hl : lB r = false := by cases hl : lB r <;> rw [hl] at hw <;> simp at hw ⊢
              rw [hl] at c1 hw
              have y1 : (r == 39) = false := hw
              clear hw hl hw1 hw2 hjn
              go_wp2_with fail
              refine (c1 _).mono ?_
              rintro e w2 ⟨rfl, hw2⟩
              subst w2
              clear c1
              go_wp2
              go_meet
              case rel => exact ⟨rfl, rfl⟩
          · obtain rfl : j = K := by omega
            obtain rfl : j = n := by omega
            have z1 : ¬ (j : Int) < (j : Int) := by omega
            go_wp2
            go_meet
            case rel => exact ⟨rfl, rfl⟩
      case rest =>
        obtain ⟨rfl, hwc⟩ := hcut
        have hwc := hwc.symm
        subst hwc
        have hpn : pos T n ≤ T.size := by
          have e1 := HE.out
          exact pos_le T n (fun j hj => e1.2 j (by omega))
        have hwe : we T = pos T n := HW.out.1
        go_upto_if 52 with fail
        go_cut [5] (fun ev wx => ev = .int .i64 ((pos T n : Nat) : Int) ∧ Hid (Up w1.heap.size w1 wx))
        case first =>
          by_cases hn0 : 0 < n
          · obtain ⟨m, rfl⟩ : ∃ m, n = m + 1 := ⟨n - 1, by omega⟩
            obtain ⟨g, c, eS, us⟩ := HUs.out (by omega)
            injection eS with eA eB eC
            subst eA eC
            obtain ⟨a0, -, a2, a3⟩ := us m (by omega)
            have hps : pos T (m + 1) = pos T m + wd T (pos T m) := rfl
            obtain ⟨pe, hpe⟩ : ∃ z, pos T (m + 1) = z := ⟨_, rfl⟩
            obtain ⟨pm, hpm⟩ : ∃ z, pos T m = z := ⟨_, rfl⟩
            obtain ⟨wm, hwm⟩ : ∃ z, wd T pm = z := ⟨_, rfl⟩
            rw [hpe] at hpn
            rw [hpe, hpm, hwm] at hps
            rw [hpm] at a2 a3
            rw [hwm] at a3
            have z1 : (0 : Int) < ((m + 1 : Nat) : Int) := by omega
            have z2 : IntKind.i64.wrap (((m + 1 : Nat) : Int) - 1) = (m : Int) := by rw [IntWalk.i64_in _ (by omega)]; omega
            have z3 : (0 : Int) ≤ (m : Int) := by omega
            have z4 : (m : Int) < (K : Int) := by omega
            have z6 : IntKind.i64.wrap (m : Int) = (m : Int) := IntWalk.i64_in _ (by omega)
            have z5 : IntKind.i64.wrap ((pm : Int) + (wm : Int)) = (pe : Int) := by rw [IntWalk.i64_in _ (by omega)]; omega
            have HPE : Hid (pos T (m + 1) = pe) := hpe
            clear hwe hps hpe hpm hwm us eB
            go_upto_region 9 with fail
            go_quiet (fail)
            have hbd := below_drewN (Below.refl w1.heap.size w1) nq
            have HUq : Hid (Up w1.heap.size w1 (w1.drewN nq)) := (Up.refl w1).stay hbd
            clear hbd
            go_wp2
            go_meet
            case rel => exact ⟨by rw [HPE.out], HUq⟩
          · obtain rfl : n = 0 := by omega
            clear hwe
            go_wp2
            go_meet
            case rel => exact ⟨rfl, Up.refl _⟩
        case rest =>
          obtain ⟨rfl, HUc⟩ := hcut
          obtain ⟨pe, hpe⟩ : ∃ z, pos T n = z := ⟨_, rfl⟩
          rw [hpe] at hpn hwe ⊢
          have z1 : (0 : Int) ≤ (pe : Int) := by omega
          have z2 : (pe : Int) ≤ (T.size : Int) := by omega
          have z3 : pe ≤ T.size := hpn
          have HU0 : Hid (Up w.heap.size w wc) := HU1.out.stay HUc.out.1
          have cc := rchk_all (T.extract 0 pe) wc (by rw [ByteArray.size_extract]; omega)
          obtain ⟨z, hz⟩ : ∃ z, chk (T.extract 0 pe) = z := ⟨_, rfl⟩
          rw [hz] at cc
          clear hpe HE HW HUs HUc HU1
          by_cases hz0 : z = 0
          · subst hz0
            have hpos : 0 < pe := by
              rcases Nat.eq_zero_or_pos pe with h0 | h0
              · exfalso
                refine chk_empty (t := T.extract 0 pe) (by rw [ByteArray.size_extract]; omega) hz
              · exact h0
            have hkn : knF (f + 1) s = fld (T.extract 0 pe) :: knF f (T.extract pe T.size) := by
              rw [knF_yes HTT.out (by rw [hwe]; exact hz), hwe]
              rfl
            have hrs : (T.extract pe T.size).size = T.size - pe := by rw [ByteArray.size_extract]; omega
            have CF : Hid (∀ w', Calls Tryd.prog 26 #[.string (T.extract 0 pe)] w' fun e w'' => e = .returned (.string (fld (T.extract 0 pe))) ∧ Below w'.heap.size w' w'') := fun w' => rfold_any (T.extract 0 pe) w' (by have := chk_le hz; omega)
            have CW : Hid (∀ w', Calls Tryd.prog 21 #[.string (T.extract pe T.size)] w' fun e w'' => ∃ v, e = .returned v ∧ SS w'' w'.heap.size v (knF f (T.extract pe T.size)) ∧ Below w'.heap.size w' w'') := fun w' => IH.out (T.extract pe T.size) w' (by omega) (by omega)
            have hlen := knF_len f (T.extract pe T.size)
            obtain ⟨Fd, hFd⟩ : ∃ F, fld (T.extract 0 pe) = F := ⟨_, rfl⟩
            obtain ⟨L, hL⟩ : ∃ L, knF f (T.extract pe T.size) = L := ⟨_, rfl⟩
            rw [hFd] at CF hkn
            rw [hL] at CW hkn hlen
            have HKN : Hid (knF (f + 1) s = Fd :: L) := hkn
            clear hkn hFd hL hrs hz hwe IH HTT
            go_wp2_with fail
            refine cc.mono ?_
            rintro e w3 ⟨rfl, hb3⟩
            have HU3 : Hid (Up w.heap.size w w3) := HU0.out.stay hb3
            clear cc hb3 HU0
            go_upto_region 12 with fail
            refine wp_region_held_drew (S := fun w' => Up w3.heap.size w3 w') (by kernel_rfl) (Up.drew (Up.refl w3)) (fun hHeld => ?_)
            (try dsimp only at hHeld)
            obtain ⟨x0, hx0⟩ : ∃ x0, w3.drew = x0 := ⟨_, rfl⟩
            rw [hx0] at hHeld ⊢
            clear hx0
            refine takeH (i := 0) (v := ?_) (d := (some 73)) rfl (by kernel_rfl) (by kernel_rfl) (by kernel_rfl) rfl (fun _ _ _ h => h) (Or.inl ⟨by kernel_rfl, ?_⟩) (by assumption) ?_; rotate_left
            · (intro w hSw; (try dsimp only at hSw); first | (go_simp; done) | (go_simp; with_reducible rfl))
            (try simp only [Act.put, List.setIfInBounds_toArray, List.set_cons_zero, List.set_cons_succ])
            refine takeH (i := 1) (v := ?_) (d := (some 74)) rfl (by kernel_rfl) (by kernel_rfl) (by kernel_rfl) rfl (fun _ _ _ h => h) (Or.inl ⟨by kernel_rfl, ?_⟩) (by assumption) ?_; rotate_left
            · (intro w hSw; (try dsimp only at hSw); first | (go_simp; done) | (go_simp; with_reducible rfl))
            (try simp only [Act.put, List.setIfInBounds_toArray, List.set_cons_zero, List.set_cons_succ])
            refine takeH (i := 2) (v := ?_) (d := (some 75)) rfl (by kernel_rfl) (by kernel_rfl) (by kernel_rfl) rfl (fun _ _ _ h => h) (Or.inl ⟨by kernel_rfl, ?_⟩) (by assumption) ?_; rotate_left
            · (intro w hSw; (try dsimp only at hSw); first | (go_simp; done) | (go_simp; with_reducible rfl))
            (try simp only [Act.put, List.setIfInBounds_toArray, List.set_cons_zero, List.set_cons_succ])
            refine takeH (i := 5) (v := ?_) (d := (some 78)) rfl (by kernel_rfl) (by kernel_rfl) (by kernel_rfl) rfl (fun _ _ _ h => h) (Or.inl ⟨by kernel_rfl, ?_⟩) (by assumption) ?_; rotate_left
            · (intro w hSw; (try dsimp only at hSw); first | (go_simp; done) | (go_simp; with_reducible rfl))
            (try simp only [Act.put, List.setIfInBounds_toArray, List.set_cons_zero, List.set_cons_succ])
            refine takeH (i := 6) (v := ?_) (d := (some 79)) rfl (by kernel_rfl) (by kernel_rfl) (by kernel_rfl) rfl (fun _ _ _ h => h) (Or.inl ⟨by kernel_rfl, ?_⟩) (by assumption) ?_; rotate_left
            · (intro w hSw; (try dsimp only at hSw); first | (go_simp; done) | (go_simp; with_reducible rfl))
            (try simp only [Act.put, List.setIfInBounds_toArray, List.set_cons_zero, List.set_cons_succ])
            refine takeH (i := 7) (v := ?_) (d := (some 80)) rfl (by kernel_rfl) (by kernel_rfl) (by kernel_rfl) rfl (fun _ _ _ h => h) (Or.inl ⟨by kernel_rfl, ?_⟩) (by assumption) ?_; rotate_left
            · (intro w hSw; (try dsimp only at hSw); first | (go_simp; done) | (go_simp; with_reducible rfl))
            (try simp only [Act.put, List.setIfInBounds_toArray, List.set_cons_zero, List.set_cons_succ])
            have HX0 : Hid (Up w3.heap.size w3 x0) := hHeld
            have cF := CF.out x0
            refine wpAnyH_ready (rs := [3]) (by kernel_rfl) (by simp) (AllReadyH.cons rfl (fun K hK => ?_) AllReadyH.nil)
            (try rw [if_pos (by kernel_rfl)])
            go_simp
            refine cF.mono ?_
            rintro ev w4 ⟨rfl, hb4⟩
            have HX4 : Hid (Up w3.heap.size w3 w4) := HX0.out.stay hb4
            clear cF hb4 hHeld HX0
            go_wp2_with fail
            refine hK.out _ _ HX4.out (fun hHeld => ?_)
            clear hK K
            (try dsimp only at hHeld)
            (try simp only [Act.put, List.setIfInBounds_toArray, List.set_cons_zero, List.set_cons_succ])
            have HU4 : Hid (Up w.heap.size w w4) := HU3.out.stay HX4.out.1
            refine wpAnyH_ready (rs := [4, 8]) (by kernel_rfl) (by simp) (AllReadyH.cons rfl (fun K hK => ?_) (AllReadyH.cons rfl (fun K hK => ?_) AllReadyH.nil))
            · (try rw [if_pos (by kernel_rfl)])
              go_simp
              have hl3 := World.ownsRow_lit (base := w3.heap.size) (e := 9) (size := 1) w4 #[.string Fd] 1 HX4.out.2 (by unfold maxLen; omega) rfl
              have hXl := HX4.out.alloc (.cells #[.string Fd] 9)
              obtain ⟨w5, hw5⟩ : ∃ x, w4.alloc (.cells #[.string Fd] 9) = x := ⟨_, rfl⟩
              rw [hw5] at hl3 hXl ⊢
              have HX5 : Hid (Up w3.heap.size w3 w5) := hXl
              have HL5 : Hid (w5.ownsRow w3.heap.size 9 1 _ 1 [.string Fd]) := hl3
              clear hl3 hXl hw5 hHeld
              refine hK.out _ _ HX5.out (fun hHeld => ?_)
              clear hK K
              (try dsimp only at hHeld)
              (try simp only [Act.put, List.setIfInBounds_toArray, List.set_cons_zero, List.set_cons_succ])
              have cW := CW.out w5
              refine wpAnyH_ready (rs := [8]) (by kernel_rfl) (by simp) (AllReadyH.cons rfl (fun K hK => ?_) AllReadyH.nil)
              (try rw [if_pos (by kernel_rfl)])
              go_simp
              refine cW.mono ?_
              rintro ev w6 ⟨v6, rfl, hS6, hb6⟩
              have HX6 : Hid (Up w3.heap.size w3 w6) := HX5.out.stay hb6
              have HLit3 : Hid (w6.ownsRow w3.heap.size 9 1 _ 1 [.string Fd]) := own_stay HL5.out hb6
              have HSr : Hid (SS w6 w5.heap.size v6 L) := hS6
              clear cW hb6 hHeld hS6 HL5
              go_wp2_with fail
              refine hK.out _ _ HX6.out (fun hHeld => ?_)
              clear hK K
              (try dsimp only at hHeld)
              (try simp only [Act.put, List.setIfInBounds_toArray, List.set_cons_zero, List.set_cons_succ])
              have HXl := HX6
              have HUl : Hid (Up w.heap.size w w6) := HU3.out.stay HX6.out.1
              have HLit : Hid (w6.ownsRow w.heap.size 9 1 _ 1 [.string Fd]) := Lns.own_mono HLit3.out HU3.out.2
              refine wpAnyH_ready (rs := [9]) (by kernel_rfl) (by simp) (AllReadyH.cons rfl (fun K hK => ?_) AllReadyH.nil)
              rw [if_pos (by kernel_rfl)]
              refine wpo_append_any (.tmp 77) (.tmp 81) 25 rfl w.heap.size 9 i0 _ 1 16 Tryd.underlying25 hi9 hz0 hz1 hz2 rfl (by decide) _ 1 [.string Fd] rfl HLit.out _ _ L.length (L.map Value.string) rfl HSr.out (ss_one L) (by unfold maxLen; omega) (by omega) HUl.out.2 ?_
              intro v' w7 hown2 hgr
              have HR : Hid (SS w7 w.heap.size v' (knF (f + 1) s) ∧ Below w.heap.size w w7) := by
                refine ⟨?_, (HUl.out.grown hgr (own_base HLit.out)).1⟩
                rw [HKN.out]
                unfold SS
                rw [List.length_cons, Nat.add_comm]
                exact hown2
              have HX7 : Hid (Up w3.heap.size w3 w7) := HXl.out.grown hgr (own_base HLit3.out)
              change K (Act.put _ (some 82) _) _
              clear hown2 hgr
              refine hK.out _ _ HX7.out (fun hHeld => ?_)
              clear hK K
              (try dsimp only at hHeld)
              (try simp only [Act.put, List.setIfInBounds_toArray, List.set_cons_zero, List.set_cons_succ])
              refine takeH (i := 10) (v := ?_) (d := (some 2)) rfl (by kernel_rfl) (by kernel_rfl) (by kernel_rfl) rfl (fun _ _ _ h => h) (Or.inl ⟨by kernel_rfl, ?_⟩) (by assumption) ?_; rotate_left
              · (intro w hSw; (try dsimp only at hSw); first | (go_simp; done) | (go_simp; with_reducible rfl))
              (try simp only [Act.put, List.setIfInBounds_toArray, List.set_cons_zero, List.set_cons_succ])
              refine wpAnyH_done (by kernel_rfl) ?_ _
              go_wp2
              go_ret
              exact ⟨_, rfl, HR.out.1, HR.out.2⟩
            · (try rw [if_pos (by kernel_rfl)])
              go_simp
              have cW := CW.out w4
              refine cW.mono ?_
              rintro ev w5 ⟨v5, rfl, hS5, hb5⟩
              have HX5 : Hid (Up w3.heap.size w3 w5) := HX4.out.stay hb5
              have HS5 : Hid (SS w5 w4.heap.size v5 L) := hS5
              clear cW hb5 hHeld hS5
              go_wp2_with fail
              refine hK.out _ _ HX5.out (fun hHeld => ?_)
              clear hK K
              (try dsimp only at hHeld)
              (try simp only [Act.put, List.setIfInBounds_toArray, List.set_cons_zero, List.set_cons_succ])
              refine wpAnyH_ready (rs := [4]) (by kernel_rfl) (by simp) (AllReadyH.cons rfl (fun K hK => ?_) AllReadyH.nil)
              (try rw [if_pos (by kernel_rfl)])
              go_simp
              have hl3 := World.ownsRow_lit (base := w3.heap.size) (e := 9) (size := 1) w5 #[.string Fd] 1 HX5.out.2 (by unfold maxLen; omega) rfl
              have hXl := HX5.out.alloc (.cells #[.string Fd] 9)
              obtain ⟨w6, hw6⟩ : ∃ x, w5.alloc (.cells #[.string Fd] 9) = x := ⟨_, rfl⟩
              rw [hw6] at hl3 hXl ⊢
              have HX6 : Hid (Up w3.heap.size w3 w6) := hXl
              have HLit3 : Hid (w6.ownsRow w3.heap.size 9 1 _ 1 [.string Fd]) := hl3
              have HSr : Hid (SS w6 w4.heap.size v5 L) := by
                show SS _ _ _ _
                rw [← hw6]
                exact World.ownsRow.alloc HS5.out _
              clear hl3 hXl hw6 hHeld HS5
              refine hK.out _ _ HX6.out (fun hHeld => ?_)
              clear hK K
              (try dsimp only at hHeld)
              (try simp only [Act.put, List.setIfInBounds_toArray, List.set_cons_zero, List.set_cons_succ])
              have HXl := HX6
              have HUl : Hid (Up w.heap.size w w6) := HU3.out.stay HX6.out.1
              have HLit : Hid (w6.ownsRow w.heap.size 9 1 _ 1 [.string Fd]) := Lns.own_mono HLit3.out HU3.out.2
              refine wpAnyH_ready (rs := [9]) (by kernel_rfl) (by simp) (AllReadyH.cons rfl (fun K hK => ?_) AllReadyH.nil)
              rw [if_pos (by kernel_rfl)]
              refine wpo_append_any (.tmp 77) (.tmp 81) 25 rfl w.heap.size 9 i0 _ 1 16 Tryd.underlying25 hi9 hz0 hz1 hz2 rfl (by decide) _ 1 [.string Fd] rfl HLit.out _ _ L.length (L.map Value.string) rfl HSr.out (ss_one L) (by unfold maxLen; omega) (by omega) HUl.out.2 ?_
              intro v' w7 hown2 hgr
              have HR : Hid (SS w7 w.heap.size v' (knF (f + 1) s) ∧ Below w.heap.size w w7) := by
                refine ⟨?_, (HUl.out.grown hgr (own_base HLit.out)).1⟩
                rw [HKN.out]
                unfold SS
                rw [List.length_cons, Nat.add_comm]
                exact hown2
              have HX7 : Hid (Up w3.heap.size w3 w7) := HXl.out.grown hgr (own_base HLit3.out)
              change K (Act.put _ (some 82) _) _
              clear hown2 hgr
              refine hK.out _ _ HX7.out (fun hHeld => ?_)
              clear hK K
              (try dsimp only at hHeld)
              (try simp only [Act.put, List.setIfInBounds_toArray, List.set_cons_zero, List.set_cons_succ])
              refine takeH (i := 10) (v := ?_) (d := (some 2)) rfl (by kernel_rfl) (by kernel_rfl) (by kernel_rfl) rfl (fun _ _ _ h => h) (Or.inl ⟨by kernel_rfl, ?_⟩) (by assumption) ?_; rotate_left
              · (intro w hSw; (try dsimp only at hSw); first | (go_simp; done) | (go_simp; with_reducible rfl))
              (try simp only [Act.put, List.setIfInBounds_toArray, List.set_cons_zero, List.set_cons_succ])
              refine wpAnyH_done (by kernel_rfl) ?_ _
              go_wp2
              go_ret
              exact ⟨_, rfl, HR.out.1, HR.out.2⟩
          · have hkn : knF (f + 1) s = [] := knF_no HTT.out (by rw [hwe, hz]; exact hz0)
            have y1 : (z != 0) = true := by simpa using hz0
            have y2 : (z == 0) = false := by simpa using hz0
            have HR : Hid (∀ W, SS W w.heap.size (.slice none 0 0) (knF (f + 1) s)) := by
              show ∀ W, SS W _ _ _
              intro W
              rw [hkn]
              exact World.ownsRow_nil _ _ _ _
            clear hkn hwe hz IH HTT
            go_wp2_with fail
            refine cc.mono ?_
            rintro e w3 ⟨rfl, hb3⟩
            have HU3 : Hid (Up w.heap.size w w3) := HU0.out.stay hb3
            clear cc hb3 HU0
            go_wp2
            go_ret
            exact ⟨_, rfl, HR.out _, HU3.out.1⟩
theorem rkw_any : ∀ (f : Nat) (s : ByteArray) (w : World), s.size < f → s.size ≤ 8000 → f ≤ 9000 →
    Calls Tryd.prog 21 #[.string s] w fun e w' => ∃ v, e = .returned v ∧ SS w' w.heap.size v (knF f s) ∧ Below w.heap.size w w'
  | 0, s, w, h, hn, hf => absurd h (Nat.not_lt_zero _)
  | f + 1, s, w, h, hn, hf => rkw_step f (fun t w' h1 h2 => rkw_any f t w' h1 h2 (by omega)) s w h hn hf
end Go.Proofs.YteeeekpeokgaeaaDoor
