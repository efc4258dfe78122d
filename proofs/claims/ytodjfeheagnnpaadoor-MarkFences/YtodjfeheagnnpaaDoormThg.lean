/- mark: shut, target, thing, text. -/
import Derived.Test.YtodjfeheagnnpaaDoormEn
namespace Go.Proofs.YtodjfeheagnnpaaDoor
set_option linter.unusedVariables false
open Go.RowKit Go.ChangeShapes Go.Maps
def shV (d : Nat → Int) (n i : Nat) : Nat := (shP d n i 0).getD 0
set_option maxRecDepth 100000 in
theorem shut_any {w : World} {b off n cap : Nat} {d : Nat → Int} (h : BC w (some ⟨b, off, none⟩) n d) (hn : n ≤ 65536) (i : Nat) (hi : i < n) (h40 : d i = 40) :
    Calls Tryd.prog 82 #[.slice (some ⟨b, off, none⟩) n cap, .int .i64 i] w fun e w' => e = .returned (.int .i64 (shV d n i : Nat)) ∧ w' = w := by
  have HB : Hid (BC w (some ⟨b, off, none⟩) n d) := h
  obtain ⟨V, hV⟩ : ∃ V, shV d n i = V := ⟨_, rfl⟩
  have HV : Hid ((shP d n i 0).getD 0 = V) := hV
  rw [hV]
  have HI : Hid (d i = 40) := h40
  clear h hV h40
  go_enter Tryd.func82, Tryd.ntmps82
  go_wp2
  go_loopg [1, 5] (n + 2 - i) (fun q iv ov wr => ∃ p o : Nat, q = n + 2 - p ∧ p ≤ n + 1 ∧ o ≤ 32 ∧ iv = .int .i64 p ∧ ov = .int .i64 o ∧ wr = w ∧ Hid ((1 ≤ o ∨ d p = 40) ∧ (shP d n p o).getD 0 = V))
  case atStart => exact ⟨i, 0, rfl, by omega, by omega, rfl, rfl, rfl, Or.inr HI.out, HV.out⟩
  case round =>
    obtain ⟨p, o, hq, hp, ho, rfl, rfl, rfl, HR⟩ := hrel
    by_cases hlt : p < n
    · have z1 : (p : Int) < (n : Int) := by omega
      have z2 : (0 : Int) ≤ (p : Int) := by omega
      obtain ⟨b', off', eq', hc⟩ := HB.out p hlt
      injection eq' with eq'
      injection eq' with e1 e2 _
      subst e1 e2
      obtain ⟨x, hx⟩ : ∃ x, d p = x := ⟨_, rfl⟩
      rw [hx] at hc
      have hs := sh_one hlt o (c := d)
      rw [hx] at hs
      have HS : Hid (shP d n p o = if x = 92 then shP d n (p + 2) o else if x = 40 then (if 32 < o + 1 then none else shP d n (p + 1) (o + 1)) else if x = 41 then (if o = 1 then some (p + 1) else shP d n (p + 1) (o - 1)) else shP d n (p + 1) o) := hs
      have HX : Hid (d p = x) := hx
      clear hs hx
      by_cases h92 : x = 92
      · subst h92
        have HN : Hid ((1 ≤ o ∨ d (p + 2) = 40) ∧ (shP d n (p + 2) o).getD 0 = V) := by
          have h1 := HS.out
          rw [if_pos rfl] at h1
          refine ⟨Or.inl ?_, by rw [← h1]; exact HR.out.2⟩
          rcases HR.out.1 with h2 | h2
          · exact h2
          · rw [HX.out] at h2; exact absurd h2 (by decide)
        go_wp2
        go_roundg (n + 2 - (p + 2))
        case measure => omega
        case rel => exact ⟨p + 2, o, rfl, by omega, ho, by go_num, rfl, rfl, HN.out⟩
      · have y1 : (x == 92) = false := by simpa using h92
        by_cases h40 : x = 40
        · subst h40
          have h1 := HS.out
          rw [if_neg h92, if_pos rfl] at h1
          by_cases h32 : 32 < o + 1
          · have y2 : (32 : Int) < (o : Int) + 1 := by omega
            rw [if_pos h32] at h1
            have HE : Hid (V = 0) := by show V = 0; rw [← HR.out.2, h1]; rfl
            clear h1
            go_wp2
            go_ret
            exact ⟨by rw [HE.out]; rfl, rfl⟩
          · have y2 : ¬ (32 : Int) < (o : Int) + 1 := by omega
            rw [if_neg h32] at h1
            have HN : Hid ((1 ≤ o + 1 ∨ d (p + 1) = 40) ∧ (shP d n (p + 1) (o + 1)).getD 0 = V) := ⟨Or.inl (by omega), by rw [← h1]; exact HR.out.2⟩
            clear h1
            go_wp2
            go_roundg (n + 2 - (p + 1))
            case measure => omega
            case rel => exact ⟨p + 1, o + 1, rfl, by omega, by omega, by go_num, by go_num, rfl, HN.out⟩
        · have y2 : (x == 40) = false := by simpa using h40
          have ho1 : 1 ≤ o := by
            rcases HR.out.1 with h2 | h2
            · exact h2
            · rw [HX.out] at h2; exact absurd h2 h40
          by_cases h41 : x = 41
          · subst h41
            have h1 := HS.out
            rw [if_neg h92, if_neg h40, if_pos rfl] at h1
            by_cases ho2 : o = 1
            · rw [if_pos ho2] at h1
              have HE : Hid (V = p + 1) := by show V = p + 1; rw [← HR.out.2, h1]; rfl
              have y3 : (((o : Int) - 1) == 0) = true := by rw [ho2]; rfl
              clear h1 ho2
              go_wp2
              go_ret
              exact ⟨by rw [HE.out]; go_num, rfl⟩
            · rw [if_neg ho2] at h1
              have y3 : (((o : Int) - 1) == 0) = false := by simp only [beq_eq_false_iff_ne]; omega
              have HN : Hid ((1 ≤ o - 1 ∨ d (p + 1) = 40) ∧ (shP d n (p + 1) (o - 1)).getD 0 = V) := ⟨Or.inl (by omega), by rw [← h1]; exact HR.out.2⟩
              clear h1
              go_wp2
              go_roundg (n + 2 - (p + 1))
              case measure => omega
              case rel => exact ⟨p + 1, o - 1, rfl, by omega, by omega, by go_num, by rw [show ((o - 1 : Nat) : Int) = (o : Int) - 1 by omega], rfl, HN.out⟩
          · have y3 : (x == 41) = false := by simpa using h41
            have h1 := HS.out
            rw [if_neg h92, if_neg h40, if_neg h41] at h1
            have HN : Hid ((1 ≤ o ∨ d (p + 1) = 40) ∧ (shP d n (p + 1) o).getD 0 = V) := ⟨Or.inl ho1, by rw [← h1]; exact HR.out.2⟩
            clear h1
            go_wp2
            go_roundg (n + 2 - (p + 1))
            case measure => omega
            case rel => exact ⟨p + 1, o, rfl, by omega, ho, by go_num, rfl, rfl, HN.out⟩
    · have z1 : ¬ (p : Int) < (n : Int) := by omega
      have HE : Hid (V = 0) := by show V = 0; rw [← HR.out.2, sh_end (by omega)]; rfl
      go_wp2
      go_ret
      exact ⟨by rw [HE.out]; rfl, rfl⟩
set_option maxRecDepth 100000 in
theorem target_any {w : World} {b off N cap B T gs : Nat} {c L : Nat → Int} {s : Int} {k : Nat} {fr : Bool} {mv : Value} (hs : Sta b N cap B T gs c) (hE : En w b off N cap B T gs c L s k fr mv) (n : Nat) (hn : n ≤ N) (i : Nat) (hi : i ≤ n) :
    Calls Tryd.prog 72 #[.pointer (some ⟨B, 0, none⟩), .slice (some ⟨b, off, none⟩) n cap, .int .i64 i] w (ThP w T gs N (taE (tr c n) n i) (taL L (tr c n) n i)) := by
  have hC := tr_ch hs.ch hn
  have hnc : n ≤ cap := Nat.le_trans hn hs.nc
  have hN := hs.n
  have hcA := fun (w' : World) => Go.Lib.run_convert_bytes_const (P := Tryd.prog) w' 22 5 #[.int .u8 40] 1 1 Tryd.underlying22 Tryd.underlying5
  obtain ⟨W, hW⟩ : ∃ W, w.alloc (.cells #[.int .u8 40] 5 (1, 2)) = W := ⟨_, rfl⟩
  have hL1 : BC W (some ⟨w.heap.size, 0, none⟩) 1 (fun j => [40].getD j 0) := by rw [← hW]; exact lit_bc w [40] (1, 2)
  have hBW : Below w.heap.size w W := by rw [← hW]; exact below_alloc w _
  have hEW := hE.stay hBW
  have hbc := hEW.bc.tr hn
  obtain ⟨x0, -, -, -, -, -⟩ := hEW.fl.cells
  obtain ⟨d, hd⟩ : ∃ d, tr c n = d := ⟨_, rfl⟩
  rw [hd] at hC hbc ⊢
  obtain ⟨adi, hadi⟩ : ∃ adi, (if cap = i then some (⟨b, off, none⟩ : Addr) else some ⟨b, off + i, none⟩) = adi := ⟨_, rfl⟩
  have hfr := BC.from hbc i hi hnc
  rw [hadi] at hfr
  have ct := hasP_any (cap := cap - i) (d := 1) (hC.from i hi) hfr (by omega) hL1 rfl (byt1 40 (by omega))
  rw [oc1, Nat.add_zero] at ct
  have HS : Hid (Sh W T gs N L) := hEW.sh
  have HG : Hid (w.grownBy W (some gs)) := grown_of hBW _
  have z1 : (0 : Int) ≤ (i : Int) := by omega
  have z2 : (i : Int) ≤ (n : Int) := by omega
  have z3 : (n : Int) ≤ (cap : Int) := by omega
  obtain ⟨Q, hQ⟩ : ∃ Q, ThP w T gs N (taE d n i) (taL L d n i) = Q := ⟨_, rfl⟩
  have HQ : Hid (ThP w T gs N (taE d n i) (taL L d n i) = Q) := hQ
  rw [hQ]
  have HB : Hid (BC W (some ⟨b, off, none⟩) n d ∧ Ch d n) := ⟨hbc, hC⟩
  clear hd hfr hL1 hbc hC hQ hE hEW hBW hs
  by_cases h40 : d i = 40
  · have hin : i < n := by
      rcases Nat.lt_or_ge i n with h1 | h1
      · exact h1
      · rw [HB.out.2.2 i h1] at h40; exact absurd h40 (by decide)
    obtain rfl : adi = some ⟨b, off + i, none⟩ := by rw [← hadi, if_neg (by omega)]
    rw [h40, show ((40 : Int) == 40) = true from rfl] at ct
    have ct2 := shut_any (cap := cap) HB.out.1 (by omega) i hin h40
    have HO : Hid (tgO d n i = shP d n i 0) := by show tgO d n i = _; unfold tgO; rw [if_pos h40]
    clear hadi h40
    cases hsh : shP d n i 0 with
    | none =>
      have hv : shV d n i = 0 := by unfold shV; rw [hsh]; rfl
      rw [hv] at ct2
      have HE : Hid (taE d n i = i ∧ taL L d n i = L) := by
        unfold taE taL
        rw [HO.out, hsh]
        exact ⟨rfl, rfl⟩
      clear hv hsh
      go_enter Tryd.func72, Tryd.ntmps72
      go_wp2_with fail
      refine ct.mono ?_
      rintro e w1 ⟨rfl, hw⟩
      subst w1
      go_wp2_with fail
      refine ct2.mono ?_
      rintro e w1 ⟨rfl, hw⟩
      subst w1
      go_wp2
      rw [← HQ.out]
      unfold ThP
      rw [HE.out.1, HE.out.2]
      exact ⟨rfl, HS.out, HG.out⟩
    | some q =>
      have hql := shG_le _ _ _ _ hsh
      have hv : shV d n i = q := by unfold shV; rw [hsh]; rfl
      rw [hv] at ct2
      have HE : Hid (taE d n i = q ∧ taL L d n i = setL L 2 (i : Int) ((q : Nat) : Int)) := by
        unfold taE taL
        rw [HO.out, hsh]
        exact ⟨rfl, rfl⟩
      have ct3 := set_any HS.out (by omega) 2 (i : Int) ((q : Nat) : Int)
      have y1 : ((q : Int) == 0) = false := by simp only [beq_eq_false_iff_ne]; omega
      clear hv hsh
      go_enter Tryd.func72, Tryd.ntmps72
      go_wp2_with fail
      refine ct.mono ?_
      rintro e w1 ⟨rfl, hw⟩
      subst w1
      go_wp2_with fail
      refine ct2.mono ?_
      rintro e w1 ⟨rfl, hw⟩
      subst w1
      go_wp2_with fail
      refine ct3.mono ?_
      rintro e w1 ⟨rfl, hS1, hg1, -⟩
      have HS1 : Hid (Sh w1 T gs N (setL L 2 (i : Int) ((q : Nat) : Int)) ∧ w.grownBy w1 (some gs)) := ⟨hS1, grown_trans HG.out hg1⟩
      clear ct ct2 ct3 hS1 hg1
      go_wp2
      rw [← HQ.out]
      unfold ThP
      rw [HE.out.1, HE.out.2]
      exact ⟨rfl, HS1.out.1, HS1.out.2⟩
  · have h40' : (d i == 40) = false := by simpa using h40
    rw [h40'] at ct
    have HE : Hid (taE d n i = i ∧ taL L d n i = L) := by
      unfold taE taL tgO
      rw [if_neg h40]
      exact ⟨rfl, rfl⟩
    clear h40 h40'
    go_enter Tryd.func72, Tryd.ntmps72
    go_wp2_with fail
    refine ct.mono ?_
    rintro e w1 ⟨rfl, hw⟩
    subst w1
    go_wp2
    rw [← HQ.out]
    unfold ThP
    rw [HE.out.1, HE.out.2]
    exact ⟨rfl, HS.out, HG.out⟩
/-- What a < begins is as it is told. -/
def AnOk (d : Nat → Int) (n : Nat) : Prop := ∀ (w : World) (b off N cap B T gs : Nat) (c L : Nat → Int) (s : Int) (k : Nat) (fr : Bool) (mv : Value) (i : Nat), Sta b N cap B T gs c → En w b off N cap B T gs c L s k fr mv → n ≤ N → tr c n = d → i < n → d i = 60 →
    Calls Tryd.prog 73 #[.pointer (some ⟨B, 0, none⟩), .slice (some ⟨b, off, none⟩) n cap, .int .i64 i] w (ThP w T gs N (anE d n i) (anL L d n i))
theorem an_none {d : Nat → Int} {n : Nat} (h : ∀ i, i < n → d i ≠ 60) : AnOk d n := fun _ _ _ _ _ _ _ _ _ _ _ _ _ _ i _ _ _ _ hi h60 => absurd h60 (h i hi)
set_option maxRecDepth 100000 in
theorem mthing_any {w : World} {b off N cap B T gs g NN : Nat} {c L : Nat → Int} {s : Int} {k : Nat} {fr : Bool} {Mp : Nat → Nat} (hs : Sta b N cap B T gs c) (hE : En w b off N cap B T gs c L s k fr (.map (some g))) (n i0 : Nat) (hn : n ≤ N) (hM : MI w g NN Mp) (hP : LastP (tr c n) n i0 n Mp) (hA : AnOk (tr c n) n) (i : Nat) (hi0 : i0 ≤ i) (hi : i < n) :
    Calls Tryd.prog 60 #[.pointer (some ⟨B, 0, none⟩), .slice (some ⟨b, off, none⟩) n cap, .int .i64 i] w (ThP w T gs N (txE (tr c n) n i) (txL L (tr c n) n i)) := by
  have hN := hs.n
  have z1 : (i : Int) < (n : Int) := by omega
  have z2 : (0 : Int) ≤ (i : Int) := by omega
  obtain ⟨b', off', eq', hc⟩ := (hE.bc.tr hn) i hi
  injection eq' with eq'
  injection eq' with e1 e2 _
  subst e1 e2
  obtain ⟨x, hx⟩ : ∃ x, tr c n i = x := ⟨_, rfl⟩
  rw [hx] at hc
  have HH : Hid (Sh w T gs N L ∧ tr c n i = x) := ⟨hE.sh, hx⟩
  have cK : x = 96 → Calls Tryd.prog 71 #[.pointer (some ⟨B, 0, none⟩), .slice (some ⟨b, off, none⟩) n cap, .int .i64 i] w (ThP w T gs N (tcE (tr c n) n i) (tcL L (tr c n) n i)) := fun h => ticks_any hs hE n i0 hn hM hP i hi0 hi (by rw [hx]; exact h)
  have cT := target_any hs hE n hn (i + 1) hi
  have cA : x = 60 → Calls Tryd.prog 73 #[.pointer (some ⟨B, 0, none⟩), .slice (some ⟨b, off, none⟩) n cap, .int .i64 i] w (ThP w T gs N (anE (tr c n) n i) (anL L (tr c n) n i)) := fun h => hA w b off N cap B T gs c L s k fr _ i hs hE hn rfl hi (by rw [hx]; exact h)
  have hXE : txE (tr c n) n i = if x = 92 then i + 2 else if x = 96 then tcE (tr c n) n i else if x = 93 then taE (tr c n) n (i + 1) else if x = 60 then anE (tr c n) n i else i + 1 := by unfold txE; rw [hx]
  have hXL : txL L (tr c n) n i = if x = 92 then L else if x = 96 then tcL L (tr c n) n i else if x = 93 then taL L (tr c n) n (i + 1) else if x = 60 then anL L (tr c n) n i else L := by unfold txL; rw [hx]
  rw [hXE, hXL]
  clear hs hE hM hP hA hx hXE hXL
  obtain ⟨E1, hE1⟩ : ∃ E1, tcE (tr c n) n i = E1 := ⟨_, rfl⟩
  obtain ⟨E2, hE2⟩ : ∃ E2, taE (tr c n) n (i + 1) = E2 := ⟨_, rfl⟩
  obtain ⟨E3, hE3⟩ : ∃ E3, anE (tr c n) n i = E3 := ⟨_, rfl⟩
  obtain ⟨L1, hL1⟩ : ∃ L1, tcL L (tr c n) n i = L1 := ⟨_, rfl⟩
  obtain ⟨L2, hL2⟩ : ∃ L2, taL L (tr c n) n (i + 1) = L2 := ⟨_, rfl⟩
  obtain ⟨L3, hL3⟩ : ∃ L3, anL L (tr c n) n i = L3 := ⟨_, rfl⟩
  rw [hE1, hL1] at cK ⊢
  rw [hE2, hL2] at cT ⊢
  rw [hE3, hL3] at cA ⊢
  clear hE1 hE2 hE3 hL1 hL2 hL3
  by_cases h92 : x = 92
  · subst h92
    rw [if_pos rfl, if_pos rfl]
    clear cK cT cA
    obtain ⟨Q, hQ⟩ : ∃ Q, ThP w T gs N (i + 2) L = Q := ⟨_, rfl⟩
    have HQ : Hid (ThP w T gs N (i + 2) L = Q) := hQ
    rw [hQ]
    clear hQ
    go_enter Tryd.func60, Tryd.ntmps60
    go_wp2
    rw [← HQ.out]
    exact ⟨by go_num, HH.out.1, grown_of (Below.refl _ _) _⟩
  rw [if_neg h92, if_neg h92]
  have y1 : (x == 92) = false := by simpa using h92
  by_cases h96 : x = 96
  · subst h96
    rw [if_pos rfl, if_pos rfl]
    have cK' := cK rfl
    clear cK cT cA
    obtain ⟨Q, hQ⟩ : ∃ Q, ThP w T gs N E1 L1 = Q := ⟨_, rfl⟩
    have HQ : Hid (ThP w T gs N E1 L1 = Q) := hQ
    rw [hQ]
    clear hQ
    go_enter Tryd.func60, Tryd.ntmps60
    go_wp2_with fail
    refine cK'.mono ?_
    rintro e w1 ⟨rfl, h1⟩
    have HT : Hid (Sh w1 T gs N L1 ∧ w.grownBy w1 (some gs)) := h1
    clear h1 cK'
    go_wp2
    rw [← HQ.out]
    exact ⟨rfl, HT.out⟩
  rw [if_neg h96, if_neg h96]
  have y2 : (x == 96) = false := by simpa using h96
  by_cases h93 : x = 93
  · subst h93
    rw [if_pos rfl, if_pos rfl]
    clear cK cA
    obtain ⟨Q, hQ⟩ : ∃ Q, ThP w T gs N E2 L2 = Q := ⟨_, rfl⟩
    have HQ : Hid (ThP w T gs N E2 L2 = Q) := hQ
    rw [hQ]
    rw [show ((i + 1 : Nat) : Int) = (i : Int) + 1 by omega] at cT
    clear hQ
    go_enter Tryd.func60, Tryd.ntmps60
    go_wp2_with fail
    refine cT.mono ?_
    rintro e w1 ⟨rfl, h1⟩
    have HT : Hid (Sh w1 T gs N L2 ∧ w.grownBy w1 (some gs)) := h1
    clear h1 cT
    go_wp2
    rw [← HQ.out]
    exact ⟨rfl, HT.out⟩
  rw [if_neg h93, if_neg h93]
  have y3 : (x == 93) = false := by simpa using h93
  by_cases h60 : x = 60
  · subst h60
    rw [if_pos rfl, if_pos rfl]
    have cA' := cA rfl
    clear cK cT cA
    obtain ⟨Q, hQ⟩ : ∃ Q, ThP w T gs N E3 L3 = Q := ⟨_, rfl⟩
    have HQ : Hid (ThP w T gs N E3 L3 = Q) := hQ
    rw [hQ]
    clear hQ
    go_enter Tryd.func60, Tryd.ntmps60
    go_wp2_with fail
    refine cA'.mono ?_
    rintro e w1 ⟨rfl, h1⟩
    have HT : Hid (Sh w1 T gs N L3 ∧ w.grownBy w1 (some gs)) := h1
    clear h1 cA'
    go_wp2
    rw [← HQ.out]
    exact ⟨rfl, HT.out⟩
  rw [if_neg h60, if_neg h60]
  have y4 : (x == 60) = false := by simpa using h60
  clear cK cT cA
  obtain ⟨Q, hQ⟩ : ∃ Q, ThP w T gs N (i + 1) L = Q := ⟨_, rfl⟩
  have HQ : Hid (ThP w T gs N (i + 1) L = Q) := hQ
  rw [hQ]
  clear hQ
  go_enter Tryd.func60, Tryd.ntmps60
  go_wp2
  rw [← HQ.out]
  exact ⟨by go_num, HH.out.1, grown_of (Below.refl _ _) _⟩
end Go.Proofs.YtodjfeheagnnpaaDoor
