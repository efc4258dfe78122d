/- DecodeLiteral, over what the program's calls answer. -/
import Derived.Test.YtkfgfbdalkifjaaDoorvLt
import Derived.Test.YtkfgfbdalkifjaaDoorvF
namespace Go.Proofs.YtkfgfbdalkifjaaDoor
set_option linter.unusedVariables false
open Go.RowKit Go.ChangeShapes
/-- Literal answers as it should. -/
def LitOk : Prop := ∀ (w : World) (ad : Option Addr) (n cap : Nat) (c : Nat → Int) (v : Value) (l : List U3), Ch c n → BC w ad n c → n ≤ cap → n ≤ 100000 → cap ≤ 9223372036854775807 → US w v l → l.length ≤ 5000 → (∀ u ∈ l, -1000000 ≤ u.a ∧ u.a ≤ 1000000 ∧ -1000000 ≤ u.n ∧ u.n ≤ 1000000) →
  Calls Tryd.prog 20 #[.slice ad n cap, v] w fun e w' => e = .returned (.bool (litB c n l)) ∧ Below w.heap.size w w'
def TxtOk : Prop := ∀ (w : World) (v : Value) (l : List U3), US w v l → l.length ≤ 5000 → Calls Tryd.prog 18 #[v] w fun e w' => e = .returned (.string (strOfNums (tU l))) ∧ Below w.heap.size w w'
def AwkOk : Prop := ∀ w, Lns.Tabs w → Calls Tryd.prog 8 #[] w fun e w' => e = .returned (.bool true) ∧ Below w.heap.size w w'
/-- A text's signs. -/
def unS (s : ByteArray) (k : Nat) : List U3 := (List.range k).map fun j => ⟨rn s (pos s j), (pos s j : Int), (wd s (pos s j) : Int)⟩
theorem unS_len (s : ByteArray) (k : Nat) : (unS s k).length = k := by simp [unS]
theorem unS_at (s : ByteArray) (k i : Nat) (h : i < k) : (unS s k)[i]? = some ⟨rn s (pos s i), (pos s i : Int), (wd s (pos s i) : Int)⟩ := by simp [unS, List.getElem?_range h]
theorem unS_cells (s : ByteArray) (k : Nat) : Lns.ucells s k = uC (unS s k) := by
  unfold Lns.ucells uC unS
  rw [List.flatMap_map]
  rfl
theorem unS_txt (s : ByteArray) (k : Nat) : tU (unS s k) = txt (fun i => rn s (pos s i)) k := by
  unfold tU unS txt
  rw [List.flatMap_map]
theorem unS_bd {s : ByteArray} {k : Nat} (he : Ends s k) (hs : s.size ≤ 100000) : ∀ u ∈ unS s k, -1000000 ≤ u.a ∧ u.a ≤ 1000000 ∧ -1000000 ≤ u.n ∧ u.n ≤ 1000000 := by
  intro u hu
  obtain ⟨j, hj, rfl⟩ := List.mem_map.1 hu
  have hj' : j < k := List.mem_range.1 hj
  have h1 := he.2 j hj'
  have h2 := wd_pos s (pos s j) h1
  dsimp only
  omega
theorem lit_self {c : Nat → Int} {n k : Nat} (hC : ∀ j, j < n → 0 ≤ c j ∧ c j < 256) (he : Ends (strOfNums (cl c n)) k) :
    litB c n (unS (strOfNums (cl c n)) k) = (cl c n == txt (fun i => rn (strOfNums (cl c n)) (pos (strOfNums (cl c n)) i)) k) := by
  have hs : (strOfNums (cl c n)).size = n := by rw [strOfNums_size, cl_len]
  rcases Nat.eq_zero_or_pos k with rfl | hk
  · have h0 : n = 0 := by
      have := he.1
      rw [hs] at this
      exact this.symm
    subst h0
    rfl
  · obtain ⟨m, rfl⟩ : ∃ m, k = m + 1 := ⟨k - 1, by omega⟩
    have h1 := unS_at (strOfNums (cl c n)) (m + 1) 0 (by omega)
    have h2 := unS_at (strOfNums (cl c n)) (m + 1) m (by omega)
    rw [lit_is h1 (by rw [unS_len]; exact h2)]
    have h3 : pos (strOfNums (cl c n)) m + wd (strOfNums (cl c n)) (pos (strOfNums (cl c n)) m) = n := by
      have := he.1
      rw [hs] at this
      exact this
    dsimp only
    have h4 : (pos (strOfNums (cl c n)) 0 : Int) = 0 := rfl
    rw [unS_txt, h4, show ((pos (strOfNums (cl c n)) m : Int) + (wd (strOfNums (cl c n)) (pos (strOfNums (cl c n)) m) : Int)) = (n : Int) by omega]
    have h5 : (fun j => c ((0 : Int).toNat + j)) = c := by funext j; show c (0 + j) = c j; rw [Nat.zero_add]
    rw [h5]
    simp
theorem unS_us {w : World} {base k : Nat} {v : Value} {s : ByteArray} (h : w.ownsRow base 53 3 v k (Lns.ucells s k)) : US w v (unS s k) := by
  rw [unS_cells] at h
  have h' : UR w base v (unS s k) := by
    show w.ownsRow _ _ _ _ _ _
    rw [unS_len]
    exact h
  exact h'.us
theorem rcells_rsl {w : World} {base k : Nat} {v : Value} {s : ByteArray} (h : w.ownsRow base 21 1 v k (Tns.rcells s k)) : Tns.RSl w v k fun i => rn s (pos s i) := by
  have h0 := h
  obtain ⟨_, ⟨rfl, h2⟩ | ⟨g, cap, cur, rfl, _⟩⟩ := h
  · exact Or.inl ⟨none, 0, rfl, h2⟩
  · refine Or.inr ⟨g, 0, cap, rfl, fun i hi => ?_⟩
    rw [Nat.zero_add, h0.cellAt i (by omega)]
    simp [Tns.rcells, List.getElem?_range hi]
/-- Text of a text's runes. -/
theorem again_any {w : World} {s : ByteArray} {v : Value} {k base : Nat} (hk : k ≤ 5000) (h : w.ownsRow base 21 1 v k (Tns.rcells s k)) :
    Calls Tryd.prog 25 #[v] w fun e w' => e = .returned (.string (strOfNums (txt (fun i => rn s (pos s i)) k))) ∧ Below w.heap.size w w' := Tns.text_any _ k v w hk (rcells_rsl h)
set_option maxRecDepth 100000 in
set_option maxHeartbeats 4000000 in
theorem literal_law (LO : LitOk) (TO : TxtOk) (AO : AwkOk) {w : World} (hT : Lns.Tabs w) {ad : Option Addr} {n cap : Nat} {c : Nat → Int} (hC : Ch c n) (hb : BC w ad n c) (hcap : n ≤ cap) (hbig : cap ≤ 9223372036854775807)
    {A : Option Addr} {C : Nat} {l : List U3} {m : Nat} (hm : l.length = m) (hv : US w (.slice A m C) l) (hmm : m ≤ maxLen) (hnm : n ≤ maxLen) :
    Calls Tryd.prog 7 #[.slice ad n cap, .slice A m C] w fun ev w' => ev = .returned (.bool true) ∧ Below w.heap.size w w' := by
  have ca := AO w hT
  have HH : Hid (Ch c n ∧ BC w ad n c ∧ US w (.slice A m C) l ∧ l.length = m ∧ Lns.Tabs w) := ⟨hC, hb, hv, hm, hT⟩
  have HO : Hid (LitOk ∧ TxtOk) := ⟨LO, TO⟩
  clear LO TO AO hT hC hb hv hm
  go_enter Tryd.func7, Tryd.ntmps7
  go_wp2_with fail
  refine ca.mono ?_
  rintro ev w1 ⟨rfl, hb1⟩
  have HU1 : Hid (Up w.heap.size w w1) := ⟨hb1, hb1.size⟩
  clear ca hb1
  by_cases h3 : (300 : Int) < (n : Int)
  · go_wp2
    go_ret
    exact ⟨rfl, HU1.out.1⟩
  · by_cases h1 : (100 : Int) < (m : Int)
    · go_wp2
      go_ret
      exact ⟨rfl, HU1.out.1⟩
    · have d3 : decide ((300 : Int) < (n : Int)) = false := decide_eq_false h3
      have d1 : decide ((100 : Int) < (m : Int)) = false := decide_eq_false h1
      go_wp2
      go_loopg [20] m (fun q iv wr => ∃ j : Nat, j ≤ m ∧ q = m - j ∧ iv = .int .i64 j ∧ Hid (∀ i x, l[i]? = some x → i < j → -1000 ≤ x.a ∧ x.a ≤ 1000 ∧ -1000 ≤ x.n ∧ x.n ≤ 1000) ∧ Hid (Up w.heap.size w wr))
      case atStart => exact ⟨0, Nat.zero_le _, rfl, rfl, fun i x _ h => absurd h (Nat.not_lt_zero _), HU1⟩
      case round =>
        obtain ⟨j, hj, hq, rfl, HB, HU⟩ := hrel
        by_cases hlt : j < m
        · have z0 : (0 : Int) ≤ (j : Int) := by omega
          have z1 : (j : Int) < (m : Int) := by omega
          obtain ⟨x, hx⟩ : ∃ x, l[j]? = some x := ⟨_, List.getElem?_eq_getElem (by rw [HH.out.2.2.2.1]; exact hlt)⟩
          obtain ⟨A2, C2, eA, -, hA⟩ := HH.out.2.2.1.stay HU.out.1
          injection eA with eA eA2 eA3
          subst eA
          clear eA2 eA3
          obtain ⟨b, off, rfl, hbl, a1, a2, a3⟩ := hA j x hx
          obtain ⟨xr, xa, xn⟩ := x
          dsimp only at a1 a2 a3
          have HX : Hid (l[j]? = some ⟨xr, xa, xn⟩) := hx
          have hu := HU.out.2
          clear hA hx
          by_cases g1 : xa < -1000
          · go_wp2
            go_ret
            exact ⟨rfl, (HU.out.alloc _).1⟩
          · by_cases g2 : 1000 < xa
            · go_wp2
              go_ret
              exact ⟨rfl, (HU.out.alloc _).1⟩
            · by_cases g3 : xn < -1000
              · go_wp2
                go_ret
                exact ⟨rfl, (HU.out.alloc _).1⟩
              · by_cases g4 : 1000 < xn
                · go_wp2
                  go_ret
                  exact ⟨rfl, (HU.out.alloc _).1⟩
                · have HB2 : Hid (∀ i x, l[i]? = some x → i < j + 1 → -1000 ≤ x.a ∧ x.a ≤ 1000 ∧ -1000 ≤ x.n ∧ x.n ≤ 1000) := fun i x hx hi => by
                    rcases Nat.lt_or_ge i j with h | h
                    · exact HB.out i x hx h
                    · obtain rfl : i = j := by omega
                      rw [HX.out] at hx
                      injection hx with hx
                      subst hx
                      dsimp only
                      omega
                  have HU2 : Hid (∀ o, Up w.heap.size w (wr.alloc o)) := fun o => HU.out.alloc o
                  clear HB HU
                  go_wp2
                  go_roundg (m - (j + 1))
                  case measure => omega
                  case rel => exact ⟨j + 1, by omega, rfl, by go_num, HB2, HU2.out _⟩
        · have z1 : ¬ (j : Int) < (m : Int) := by omega
          have hjm : j = m := by omega
          obtain ⟨S, hS⟩ : ∃ S, strOfNums (cl c n) = S := ⟨_, rfl⟩
          have hSz : S.size = n := by rw [← hS, strOfNums_size, cl_len]
          have hbw := HH.out.2.1.stay HU.out.1
          have hbs : Lns.BSl wr (.slice ad n cap) S := by
            rcases Nat.eq_zero_or_pos n with h0 | h0
            · exact Or.inl ⟨ad, cap, by rw [h0], by omega⟩
            · obtain ⟨b, off, rfl, -⟩ := hbw 0 h0
              have := bc_by HH.out.1.1 hbw
              rw [hS] at this
              exact Or.inr ⟨b, off, cap, by rw [hSz], by omega, by omega, this⟩
          have cU := Lns.unitsS_any S (.slice ad n cap) wr (by omega) (Lns.tabs_stay HH.out.2.2.2.2 HU.out.1) hbs
          have HLb : Hid (∀ u ∈ l, -1000000 ≤ u.a ∧ u.a ≤ 1000000 ∧ -1000000 ≤ u.n ∧ u.n ≤ 1000000) := fun u hu => by
            obtain ⟨i, hi, rfl⟩ := List.getElem_of_mem hu
            have := HB.out i _ (List.getElem?_eq_getElem hi) (by rw [hjm, ← HH.out.2.2.2.1]; exact hi)
            omega
          have HS : Hid (strOfNums (cl c n) = S) := hS
          clear hbw hbs hS HB
          go_wp2_with fail
          refine cU.mono ?_
          rintro ev w2 ⟨k, u, rfl, hk, hu, hb2⟩
          have HU2 : Hid (Up w.heap.size w w2) := HU.out.stay hb2
          have HUs : Hid (US w2 u (unS S k)) := unS_us hu
          have HK : Hid (Ends S k ∧ k ≤ 300) := ⟨hk, by have := hk.le; omega⟩
          clear cU hu hk hb2 HU hSz
          obtain ⟨g1, hg1⟩ : ∃ g, litB c n l = g := ⟨_, rfl⟩
          obtain ⟨g2, hg2⟩ : ∃ g, litB c n (unS S k) = g := ⟨_, rfl⟩
          obtain ⟨N, hN⟩ : ∃ N, strOfNums (tU l) = N := ⟨_, rfl⟩
          obtain ⟨X, hX⟩ : ∃ X, strOfNums (txt (fun i => rn S (pos S i)) k) = X := ⟨_, rfl⟩
          have hXb : Byt (txt (fun i => rn S (pos S i)) k) := by rw [← unS_txt]; exact tU_byt _
          have hEq : (X.toList == S.toList) = g2 := by
            rw [← hX, ← hg2, ← HS.out]
            rw [← HS.out] at hXb
            rw [lit_self HH.out.1.1 (by rw [HS.out]; exact HK.out.1), nums_beq hXb (cl_byt2 HH.out.1.1)]
            exact Bool.eq_iff_iff.2 ⟨fun h => by rw [beq_iff_eq] at h ⊢; exact h.symm, fun h => by rw [beq_iff_eq] at h ⊢; exact h.symm⟩
          have HG : Hid (g1 = g1) := rfl
          have hv2 : US w2 (.slice A m C) l := HH.out.2.2.1.stay HU2.out.1
          have hb2 : BC w2 ad n c := HH.out.2.1.stay HU2.out.1
          have C1 : Hid (∀ w', Up w2.heap.size w2 w' → Calls Tryd.prog 20 #[.slice ad n cap, .slice A m C] w' fun e w'' => e = .returned (.bool g1) ∧ Up w2.heap.size w2 w'') := fun w' hw' => by
            rw [← hg1]
            exact (HO.out.1 w' ad n cap c _ l HH.out.1 (hb2.stay hw'.1) hcap (by omega) hbig (hv2.stay hw'.1) (by rw [HH.out.2.2.2.1]; omega) HLb.out).mono fun e w'' he => ⟨he.1, hw'.stay he.2⟩
          have C2 : Hid (∀ w', Up w2.heap.size w2 w' → Calls Tryd.prog 21 #[.slice ad n cap, .slice A m C] w' fun e w'' => e = .returned (.bool g1) ∧ Up w2.heap.size w2 w'') := fun w' hw' => by
            rw [← hg1]
            exact (rlit_any HH.out.1.1 (hb2.stay hw'.1) hcap (by omega) hbig (hv2.stay hw'.1) (by rw [HH.out.2.2.2.1]; omega) HLb.out).mono fun e w'' he => ⟨he.1, hw'.stay he.2⟩
          have C3 : Hid (∀ w', Up w2.heap.size w2 w' → Calls Tryd.prog 18 #[.slice A m C] w' fun e w'' => e = .returned (.string N) ∧ Up w2.heap.size w2 w'') := fun w' hw' => by
            rw [← hN]
            exact (HO.out.2 w' _ l (hv2.stay hw'.1) (by rw [HH.out.2.2.2.1]; omega)).mono fun e w'' he => ⟨he.1, hw'.stay he.2⟩
          have C4 : Hid (∀ w', Up w2.heap.size w2 w' → Calls Tryd.prog 19 #[.slice A m C] w' fun e w'' => e = .returned (.string N) ∧ Up w2.heap.size w2 w'') := fun w' hw' => by
            rw [← hN]
            exact (rtextU_any (hv2.stay hw'.1) (by rw [HH.out.2.2.2.1]; omega)).mono fun e w'' he => ⟨he.1, hw'.stay he.2⟩
          have C5 : Hid (∀ w', Up w2.heap.size w2 w' → Calls Tryd.prog 20 #[.slice ad n cap, u] w' fun e w'' => e = .returned (.bool g2) ∧ Up w2.heap.size w2 w'') := fun w' hw' => by
            rw [← hg2]
            exact (HO.out.1 w' ad n cap c _ (unS S k) HH.out.1 (hb2.stay hw'.1) hcap (by omega) hbig (HUs.out.stay hw'.1) (by rw [unS_len]; have := HK.out.2; omega) (unS_bd HK.out.1 (by rw [← HS.out, strOfNums_size, cl_len]; omega))).mono fun e w'' he => ⟨he.1, hw'.stay he.2⟩
          have C6 : Hid (∀ w', Up w2.heap.size w2 w' → Calls Tryd.prog 26 #[.string S] w' fun e w'' => ∃ v', e = .returned v' ∧ w''.ownsRow w'.heap.size 21 1 v' k (Tns.rcells S k) ∧ Up w2.heap.size w2 w'') := fun w' hw' => by
            refine (Tns.runes_any S w' (by rw [← HS.out, strOfNums_size, cl_len]; omega) (Lns.tabs_stay (Lns.tabs_stay HH.out.2.2.2.2 HU2.out.1) hw'.1)).mono ?_
            rintro e w'' ⟨k', v', rfl, hk', ho, hb⟩
            obtain rfl := hk'.one HK.out.1
            exact ⟨v', rfl, ho, hw'.stay hb⟩
          have C7 : Hid (∀ w' B v', w'.ownsRow B 21 1 v' k (Tns.rcells S k) → Up w2.heap.size w2 w' → Calls Tryd.prog 25 #[v'] w' fun e w'' => e = .returned (.string X) ∧ Up w2.heap.size w2 w'') := fun w' B v' ho hw' => by
            rw [← hX]
            exact (again_any (by have := HK.out.2; omega) ho).mono fun e w'' he => ⟨he.1, hw'.stay he.2⟩
          have HCV : ∀ w', Up w2.heap.size w2 w' → (convert 22 9 (.slice ad n cap)).run Tryd.prog w' = .ok (.string S) w' := fun w' hw' => by
            have := str_bc (cap := cap) (hb2.stay hw'.1)
            rw [HS.out] at this
            exact this
          clear hg1 hg2 hN hX hXb hv2 hb2
          go_upto_region 12 with fail
          go_region_held3 (fun w' => Up w2.heap.size w2 w') (first | assumption | exact (Up.refl w2).drew | exact (Up.refl w2).drew.1 | exact (Up.refl w2).drew.2) (first | (go_at_call_of 20 u; refine (C5.out _ (by assumption)).mono ?_; rintro e w' ⟨rfl, hw'⟩) | (go_at_call 20; refine (C1.out _ (by first | assumption | exact (Up.refl w2).drew)).mono ?_; rintro e w' ⟨rfl, hw'⟩) | (go_at_call 21; refine (C2.out _ (by assumption)).mono ?_; rintro e w' ⟨rfl, hw'⟩) | (go_at_call 18; refine (C3.out _ (by assumption)).mono ?_; rintro e w' ⟨rfl, hw'⟩) | (go_at_call 19; refine (C4.out _ (by assumption)).mono ?_; rintro e w' ⟨rfl, hw'⟩) | (go_at_call 26; refine (C6.out _ (by assumption)).mono ?_; rintro e w' ⟨v', rfl, hO', hw'⟩) | (go_at_call 25; refine (C7.out _ _ _ (by assumption) (by assumption)).mono ?_; rintro e w' ⟨rfl, hw'⟩))
          all_goals
            go_wp2
            go_ret
            exact ⟨rfl, HU2.out.1.trans ((And.left ‹Up w2.heap.size w2 _›).mono HU2.out.2)⟩
end Go.Proofs.YtkfgfbdalkifjaaDoor
