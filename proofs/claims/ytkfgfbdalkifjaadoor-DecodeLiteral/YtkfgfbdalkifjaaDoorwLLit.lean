/- DecodeLiteral: out of what the program's Literal answers. -/
import Derived.Test.YtkfgfbdalkifjaaDoorvLLit
import Derived.Test.YtkfgfbdalkifjaaDoorwAwk
import Derived.Test.YtkfgfbdalkifjaaDoorwTxt
namespace Go.Proofs.YtkfgfbdalkifjaaDoor
set_option linter.unusedVariables false
open Go.RowKit Go.ChangeShapes
set_option maxRecDepth 100000 in
set_option maxHeartbeats 4000000 in
theorem literal_lawG (LO : LitOk) (TO : TxtOk) {w : World} (CA : Calls Tryd.prog 8 #[] w fun e w' => e = .returned (.bool true) ∧ Below w.heap.size w w') (hT : Lns.Tabs w) {ad : Option Addr} {n cap : Nat} {c : Nat → Int} (hC : Ch c n) (hb : BC w ad n c) (hcap : n ≤ cap) (hbig : cap ≤ 9223372036854775807)
    {A : Option Addr} {C : Nat} {l : List U3} {m : Nat} (hm : l.length = m) (hv : US w (.slice A m C) l) (hmm : m ≤ maxLen) (hnm : n ≤ maxLen) :
    Calls Tryd.prog 7 #[.slice ad n cap, .slice A m C] w fun ev w' => ev = .returned (.bool true) ∧ Below w.heap.size w w' := by
  have ca := CA
  have HH : Hid (Ch c n ∧ BC w ad n c ∧ US w (.slice A m C) l ∧ l.length = m ∧ Lns.Tabs w) := ⟨hC, hb, hv, hm, hT⟩
  have HO : Hid (LitOk ∧ TxtOk) := ⟨LO, TO⟩
  clear LO TO hT hC hb hv hm
  go_enter Tryd.func7, Tryd.ntmps7
  go_wp2_with fail
  refine ca.mono ?_
  rintro ev w1 ⟨rfl, hb1⟩
  have HU1 : Hid (Up w.heap.size w w1) := ⟨hb1, hb1.size⟩
  clear ca hb1
  by_cases h3 : (300 : Int) < (n : Int)
  · go_wp2
    go_ret
    exact ⟨rfl, HU1.out.1⟩
  · by_cases h1 : (100 : Int) < (m : Int)
    · go_wp2
      go_ret
      exact ⟨rfl, HU1.out.1⟩
    · have d3 : decide ((300 : Int) < (n : Int)) = false := decide_eq_false h3
      have d1 : decide ((100 : Int) < (m : Int)) = false := decide_eq_false h1
      go_wp2
      go_loopg [20] m (fun q iv wr => ∃ j : Nat, j ≤ m ∧ q = m - j ∧ iv = .int .i64 j ∧ Hid (∀ i x, l[i]? = some x → i < j → -1000 ≤ x.a ∧ x.a ≤ 1000 ∧ -1000 ≤ x.n ∧ x.n ≤ 1000) ∧ Hid (Up w.heap.size w wr))
      case atStart => exact ⟨0, Nat.zero_le _, rfl, rfl, fun i x _ h => absurd h (Nat.not_lt_zero _), HU1⟩
      case round =>
        obtain ⟨j, hj, hq, rfl, HB, HU⟩ := hrel
        by_cases hlt : j < m
        · have z0 : (0 : Int) ≤ (j : Int) := by omega
          have z1 : (j : Int) < (m : Int) := by omega
          obtain ⟨x, hx⟩ : ∃ x, l[j]? = some x := ⟨_, List.getElem?_eq_getElem (by rw [HH.out.2.2.2.1]; exact hlt)⟩
          obtain ⟨A2, C2, eA, -, hA⟩ := HH.out.2.2.1.stay HU.out.1
          injection eA with eA eA2 eA3
          subst eA
          clear eA2 eA3
          obtain ⟨b, off, rfl, hbl, a1, a2, a3⟩ := hA j x hx
          obtain ⟨xr, xa, xn⟩ := x
          dsimp only at a1 a2 a3
          have HX : Hid (l[j]? = some ⟨xr, xa, xn⟩) := hx
          have hu := HU.out.2
          clear hA hx
          by_cases g1 : xa < -1000
          · go_wp2
            go_ret
            exact ⟨rfl, (HU.out.alloc _).1⟩
          · by_cases g2 : 1000 < xa
            · go_wp2
              go_ret
              exact ⟨rfl, (HU.out.alloc _).1⟩
            · by_cases g3 : xn < -1000
              · go_wp2
                go_ret
                exact ⟨rfl, (HU.out.alloc _).1⟩
              · by_cases g4 : 1000 < xn
                · go_wp2
                  go_ret
                  exact ⟨rfl, (HU.out.alloc _).1⟩
                · have HB2 : Hid (∀ i x, l[i]? = some x → i < j + 1 → -1000 ≤ x.a ∧ x.a ≤ 1000 ∧ -1000 ≤ x.n ∧ x.n ≤ 1000) := fun i x hx hi => by
                    rcases Nat.lt_or_ge i j with h | h
                    · exact HB.out i x hx h
                    · obtain rfl : i = j := by omega
                      rw [HX.out] at hx
                      injection hx with hx
                      subst hx
                      dsimp only
                      omega
                  have HU2 : Hid (∀ o, Up w.heap.size w (wr.alloc o)) := fun o => HU.out.alloc o
                  clear HB HU
                  go_wp2
                  go_roundg (m - (j + 1))
                  case measure => omega
                  case rel => exact ⟨j + 1, by omega, rfl, by go_num, HB2, HU2.out _⟩
        · have z1 : ¬ (j : Int) < (m : Int) := by omega
          have hjm : j = m := by omega
          obtain ⟨S, hS⟩ : ∃ S, strOfNums (cl c n) = S := ⟨_, rfl⟩
          have hSz : S.size = n := by rw [← hS, strOfNums_size, cl_len]
          have hbw := HH.out.2.1.stay HU.out.1
          have hbs : Lns.BSl wr (.slice ad n cap) S := by
            rcases Nat.eq_zero_or_pos n with h0 | h0
            · exact Or.inl ⟨ad, cap, by rw [h0], by omega⟩
            · obtain ⟨b, off, rfl, -⟩ := hbw 0 h0
              have := bc_by HH.out.1.1 hbw
              rw [hS] at this
              exact Or.inr ⟨b, off, cap, by rw [hSz], by omega, by omega, this⟩
          have cU := Lns.unitsS_any S (.slice ad n cap) wr (by omega) (Lns.tabs_stay HH.out.2.2.2.2 HU.out.1) hbs
          have HLb : Hid (∀ u ∈ l, -1000000 ≤ u.a ∧ u.a ≤ 1000000 ∧ -1000000 ≤ u.n ∧ u.n ≤ 1000000) := fun u hu => by
            obtain ⟨i, hi, rfl⟩ := List.getElem_of_mem hu
            have := HB.out i _ (List.getElem?_eq_getElem hi) (by rw [hjm, ← HH.out.2.2.2.1]; exact hi)
            omega
          have HS : Hid (strOfNums (cl c n) = S) := hS
          clear hbw hbs hS HB
          go_wp2_with fail
          refine cU.mono ?_
          rintro ev w2 ⟨k, u, rfl, hk, hu, hb2⟩
          have HU2 : Hid (Up w.heap.size w w2) := HU.out.stay hb2
          have HUs : Hid (US w2 u (unS S k)) := unS_us hu
          have HK : Hid (Ends S k ∧ k ≤ 300) := ⟨hk, by have := hk.le; omega⟩
          clear cU hu hk hb2 HU hSz
          obtain ⟨g1, hg1⟩ : ∃ g, litB c n l = g := ⟨_, rfl⟩
          obtain ⟨g2, hg2⟩ : ∃ g, litB c n (unS S k) = g := ⟨_, rfl⟩
          obtain ⟨N, hN⟩ : ∃ N, strOfNums (tU l) = N := ⟨_, rfl⟩
          obtain ⟨X, hX⟩ : ∃ X, strOfNums (txt (fun i => rn S (pos S i)) k) = X := ⟨_, rfl⟩
          have hXb : Byt (txt (fun i => rn S (pos S i)) k) := by rw [← unS_txt]; exact tU_byt _
          have hEq : (X.toList == S.toList) = g2 := by
            rw [← hX, ← hg2, ← HS.out]
            rw [← HS.out] at hXb
            rw [lit_self HH.out.1.1 (by rw [HS.out]; exact HK.out.1), nums_beq hXb (cl_byt2 HH.out.1.1)]
            exact Bool.eq_iff_iff.2 ⟨fun h => by rw [beq_iff_eq] at h ⊢; exact h.symm, fun h => by rw [beq_iff_eq] at h ⊢; exact h.symm⟩
          have HG : Hid (g1 = g1) := rfl
          have hv2 : US w2 (.slice A m C) l := HH.out.2.2.1.stay HU2.out.1
          have hb2 : BC w2 ad n c := HH.out.2.1.stay HU2.out.1
          have C1 : Hid (∀ w', Up w2.heap.size w2 w' → Calls Tryd.prog 20 #[.slice ad n cap, .slice A m C] w' fun e w'' => e = .returned (.bool g1) ∧ Up w2.heap.size w2 w'') := fun w' hw' => by
            rw [← hg1]
            exact (HO.out.1 w' ad n cap c _ l HH.out.1 (hb2.stay hw'.1) hcap (by omega) hbig (hv2.stay hw'.1) (by rw [HH.out.2.2.2.1]; omega) HLb.out).mono fun e w'' he => ⟨he.1, hw'.stay he.2⟩
          have C2 : Hid (∀ w', Up w2.heap.size w2 w' → Calls Tryd.prog 21 #[.slice ad n cap, .slice A m C] w' fun e w'' => e = .returned (.bool g1) ∧ Up w2.heap.size w2 w'') := fun w' hw' => by
            rw [← hg1]
            exact (rlit_any HH.out.1.1 (hb2.stay hw'.1) hcap (by omega) hbig (hv2.stay hw'.1) (by rw [HH.out.2.2.2.1]; omega) HLb.out).mono fun e w'' he => ⟨he.1, hw'.stay he.2⟩
          have C3 : Hid (∀ w', Up w2.heap.size w2 w' → Calls Tryd.prog 18 #[.slice A m C] w' fun e w'' => e = .returned (.string N) ∧ Up w2.heap.size w2 w'') := fun w' hw' => by
            rw [← hN]
            exact (HO.out.2 w' _ l (hv2.stay hw'.1) (by rw [HH.out.2.2.2.1]; omega)).mono fun e w'' he => ⟨he.1, hw'.stay he.2⟩
          have C4 : Hid (∀ w', Up w2.heap.size w2 w' → Calls Tryd.prog 19 #[.slice A m C] w' fun e w'' => e = .returned (.string N) ∧ Up w2.heap.size w2 w'') := fun w' hw' => by
            rw [← hN]
            exact (rtextU_any (hv2.stay hw'.1) (by rw [HH.out.2.2.2.1]; omega)).mono fun e w'' he => ⟨he.1, hw'.stay he.2⟩
          have C5 : Hid (∀ w', Up w2.heap.size w2 w' → Calls Tryd.prog 20 #[.slice ad n cap, u] w' fun e w'' => e = .returned (.bool g2) ∧ Up w2.heap.size w2 w'') := fun w' hw' => by
            rw [← hg2]
            exact (HO.out.1 w' ad n cap c _ (unS S k) HH.out.1 (hb2.stay hw'.1) hcap (by omega) hbig (HUs.out.stay hw'.1) (by rw [unS_len]; have := HK.out.2; omega) (unS_bd HK.out.1 (by rw [← HS.out, strOfNums_size, cl_len]; omega))).mono fun e w'' he => ⟨he.1, hw'.stay he.2⟩
          have C6 : Hid (∀ w', Up w2.heap.size w2 w' → Calls Tryd.prog 26 #[.string S] w' fun e w'' => ∃ v', e = .returned v' ∧ w''.ownsRow w'.heap.size 21 1 v' k (Tns.rcells S k) ∧ Up w2.heap.size w2 w'') := fun w' hw' => by
            refine (Tns.runes_any S w' (by rw [← HS.out, strOfNums_size, cl_len]; omega) (Lns.tabs_stay (Lns.tabs_stay HH.out.2.2.2.2 HU2.out.1) hw'.1)).mono ?_
            rintro e w'' ⟨k', v', rfl, hk', ho, hb⟩
            obtain rfl := hk'.one HK.out.1
            exact ⟨v', rfl, ho, hw'.stay hb⟩
          have C7 : Hid (∀ w' B v', w'.ownsRow B 21 1 v' k (Tns.rcells S k) → Up w2.heap.size w2 w' → Calls Tryd.prog 25 #[v'] w' fun e w'' => e = .returned (.string X) ∧ Up w2.heap.size w2 w'') := fun w' B v' ho hw' => by
            rw [← hX]
            exact (again_any (by have := HK.out.2; omega) ho).mono fun e w'' he => ⟨he.1, hw'.stay he.2⟩
          have HCV : ∀ w', Up w2.heap.size w2 w' → (convert 22 9 (.slice ad n cap)).run Tryd.prog w' = .ok (.string S) w' := fun w' hw' => by
            have := str_bc (cap := cap) (hb2.stay hw'.1)
            rw [HS.out] at this
            exact this
          clear hg1 hg2 hN hX hXb hv2 hb2
          go_upto_region 12 with fail
          go_region_held3 (fun w' => Up w2.heap.size w2 w') (first | assumption | exact (Up.refl w2).drew | exact (Up.refl w2).drew.1 | exact (Up.refl w2).drew.2) (first | (go_at_call_of 20 u; refine (C5.out _ (by assumption)).mono ?_; rintro e w' ⟨rfl, hw'⟩) | (go_at_call 20; refine (C1.out _ (by first | assumption | exact (Up.refl w2).drew)).mono ?_; rintro e w' ⟨rfl, hw'⟩) | (go_at_call 21; refine (C2.out _ (by assumption)).mono ?_; rintro e w' ⟨rfl, hw'⟩) | (go_at_call 18; refine (C3.out _ (by assumption)).mono ?_; rintro e w' ⟨rfl, hw'⟩) | (go_at_call 19; refine (C4.out _ (by assumption)).mono ?_; rintro e w' ⟨rfl, hw'⟩) | (go_at_call 26; refine (C6.out _ (by assumption)).mono ?_; rintro e w' ⟨v', rfl, hO', hw'⟩) | (go_at_call 25; refine (C7.out _ _ _ (by assumption) (by assumption)).mono ?_; rintro e w' ⟨rfl, hw'⟩))
          all_goals
            go_wp2
            go_ret
            exact ⟨rfl, HU2.out.1.trans ((And.left ‹Up w2.heap.size w2 _›).mono HU2.out.2)⟩
theorem txt_ok : TxtOk := fun w v l h hn => text_any h hn
end Go.Proofs.YtkfgfbdalkifjaaDoor
