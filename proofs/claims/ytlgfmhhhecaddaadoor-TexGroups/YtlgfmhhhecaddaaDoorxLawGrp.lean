/- TexGroups. -/
import Derived.Test.YtlgfmhhhecaddaaDoorxLwK
import Derived.Test.YtlgfmhhhecaddaaDoorxGrpP
namespace Go.Proofs.YtlgfmhhhecaddaaDoor
set_option linter.unusedVariables false
open Go.RowKit Go.ChangeShapes
theorem reps_val {o s : Int} {m q j : Nat} (hj : j < (reps o s m q).length) : cL (reps o s m q) j = o ∨ cL (reps o s m q) j = 119 ∨ cL (reps o s m q) j = s := by
  rw [reps_len] at hj
  obtain ⟨p, k, hp, hk', e⟩ := reps_in (o := o) (s := s) hj
  rw [e, reps_at q p k hp hk', oneG_at hk']
  split
  · exact Or.inl rfl
  · split
    · exact Or.inr (Or.inl rfl)
    · exact Or.inr (Or.inr rfl)
theorem reps_byt {o s : Int} (hk : Kd o s) (m q : Nat) : Byt (reps o s m q) := fun x hx => by
  obtain ⟨j, hj, rfl⟩ := List.mem_iff_getElem.1 hx
  have h2 : cL (reps o s m q) j = (reps o s m q)[j] := cL_in (List.getElem?_eq_getElem hj)
  rw [← h2]
  rcases reps_val hj with h | h | h
  · rw [h]; rcases hk with ⟨rfl, rfl⟩ | ⟨rfl, rfl⟩ <;> decide
  · rw [h]; decide
  · rw [h]; rcases hk with ⟨rfl, rfl⟩ | ⟨rfl, rfl⟩ <;> decide
/-- A text's bytes. -/
theorem nums_get {l : List Int} (hl : Byt l) {S : ByteArray} (hS : S = strOfNums l) {i : Nat} (h : i < S.size) : ((S[i]'h).toNat : Int) = cL l i := by
  subst hS
  have hi : i < l.length := by rw [strOfNums_size] at h; exact h
  have hb := hl _ (List.getElem_mem hi)
  rw [cL_in (List.getElem?_eq_getElem hi)]
  show (((strOfNums l).data[i]'h).toNat : Int) = _
  simp only [strOfNums, List.getElem_toArray, List.getElem_map, UInt8.toNat_ofNat']
  omega
theorem rep_more (m : Nat) (x : Int) : List.replicate m x ++ [x] = List.replicate (m + 1) x := by rw [List.replicate_succ']
set_option maxRecDepth 100000 in
set_option maxHeartbeats 16000000 in
theorem groups_law {w : World} (hG : GlX w) {a0 a1 a2 : Int} (ha0 : 0 ≤ a0 ∧ a0 < 256) (ha1 : 0 ≤ a1 ∧ a1 < 256) (ha2 : 0 ≤ a2 ∧ a2 < 256) (a3 : Bool) :
    Calls Tryd.prog 6 #[.int .u8 a0, .int .u8 a1, .int .u8 a2, .bool a3] w fun ev w' => ev = .returned (.bool true) ∧ Below w.heap.size w w' := by
  have ca := awake_any w hG
  have HH : Hid (GlX w) := hG
  obtain ⟨X0, hX0⟩ : ∃ X : Nat, a0 = (X : Int) := ⟨a0.toNat, by omega⟩
  obtain ⟨X1, hX1⟩ : ∃ X : Nat, a1 = (X : Int) := ⟨a1.toNat, by omega⟩
  obtain ⟨X2, hX2⟩ : ∃ X : Nat, a2 = (X : Int) := ⟨a2.toNat, by omega⟩
  subst hX0 hX1 hX2
  obtain ⟨r, hr⟩ : ∃ r, X0 % 7 = r := ⟨_, rfl⟩
  have hr7 : r < 7 := by rw [← hr]; exact Nat.mod_lt _ (by decide)
  have hmd : Int.tmod (X0 : Int) 7 = (r : Int) := by rw [← hr]; exact nat_mod X0 7
  obtain ⟨d, hd⟩ : ∃ d, X1 % 36 = d := ⟨_, rfl⟩
  have hd36 : d < 36 := by rw [← hd]; exact Nat.mod_lt _ (by decide)
  have hmd1 : Int.tmod (X1 : Int) 36 = (d : Int) := by rw [← hd]; exact nat_mod X1 36
  obtain ⟨q, hq⟩ : ∃ q, X2 % 4 = q := ⟨_, rfl⟩
  have hq4 : q < 4 := by rw [← hq]; exact Nat.mod_lt _ (by decide)
  have hmd2 : Int.tmod (X2 : Int) 4 = (q : Int) := by rw [← hq]; exact nat_mod X2 4
  obtain ⟨t, ht, ht10, ht1, -, htB, -, -, -⟩ := gn_ok r hr7
  obtain ⟨Nm, hNm⟩ : ∃ Nm, strOfNums t = Nm := ⟨_, rfl⟩
  have hNs : Nm.size = t.length := by rw [← hNm]; exact strOfNums_size t
  have HT : Hid (gnT[r]? = some t ∧ strOfNums t = Nm ∧ Byt t) := ⟨ht, hNm, byt_lit t htB⟩
  obtain ⟨p, hp⟩ : ∃ p, t.length = p := ⟨_, rfl⟩
  have HP : Hid (t.length = p) := hp
  rw [hp] at hNs ht10 ht1
  have z5 : (0 : Int) ≤ (r : Int) := by omega
  have z6 : (r : Int) < 7 := by omega
  have z7 : (0 : Int) ≤ (d : Int) := by omega
  have z8 : (d : Int) < 36 := by omega
  clear hG ha0 ha1 ha2 hr hd hq htB hp
  obtain ⟨m, hm⟩ : ∃ m : Nat, (1 : Int) + (d : Int) = (m : Int) := ⟨d + 1, by omega⟩
  have hm0 : 0 < m ∧ m ≤ 36 := by omega
  go_enter Tryd.func6, Tryd.ntmps6
  go_wp2_with fail
  refine ca.mono ?_
  rintro e w1 ⟨rfl, hb1⟩
  have HU1 : Hid (Up w.heap.size w w1) := ⟨hb1, hb1.size⟩
  clear ca hb1
  obtain ⟨W, hW⟩ : ∃ W, w1.alloc (.cells #[.string ⟨#[99, 105, 116, 101]⟩, .string ⟨#[114, 101, 102]⟩, .string ⟨#[108, 97, 98, 101, 108]⟩, .string ⟨#[105, 110, 112, 117, 116]⟩, .string ⟨#[117, 115, 101, 112, 97, 99, 107, 97, 103, 101]⟩, .string ⟨#[101, 109, 112, 104]⟩, .string ⟨#[99, 105, 116, 101, 115]⟩] 9) = W := ⟨_, rfl⟩
  have hbW : Below w1.heap.size w1 W := by rw [← hW]; exact below_alloc w1 _
  have y1 : W.cell? ⟨w1.heap.size, r, none⟩ = some (.string Nm) := by rw [← hW, ← hNm]; exact lit_ps w1 gnT r t ht
  have HUW : Hid (Up w.heap.size w W) := HU1.out.stay hbW
  clear hbW HU1 ht hNm
  cases a3 with
  | true =>
    go_wp2
    clear y1 hW hm hmd1 z7 z8
    go_loopg [13, 35] m (fun g sv iv wr => ∃ (i : Nat) (S : ByteArray), i ≤ m ∧ g = m - i ∧ iv = .int .i64 i ∧ sv = .string S ∧ S.size ≤ i ∧ Hid (S = strOfNums (List.replicate i 91)) ∧ wr = W)
    case atStart => exact ⟨0, _, Nat.zero_le _, rfl, rfl, rfl, Nat.le_refl _, rfl, rfl⟩
    case round =>
      obtain ⟨i, S, hi, hg, rfl, rfl, hS, HS, hwr⟩ := hrel
      subst wr
      by_cases hlt : i < m
      · have z1 : (i : Int) < (m : Int) := by omega
        have q1 : ¬ 9223372036854775807 < S.size + 1 := by omega
        have HS2 : Hid (S ++ ⟨#[91]⟩ = strOfNums (List.replicate (i + 1) 91)) := by show _ = _; rw [← rep_more, nums_app, ← HS.out]; rfl
        have hsz : (S ++ ⟨#[91]⟩ : ByteArray).size ≤ i + 1 := by rw [ByteArray.size_append]; show S.size + 1 ≤ _; omega
        clear HS
        go_wp2
        go_roundg (m - (i + 1))
        case measure => omega
        case rel => exact ⟨i + 1, S ++ ⟨#[91]⟩, by omega, rfl, by go_num, rfl, hsz, HS2, rfl⟩
      · have z1 : ¬ (i : Int) < (m : Int) := by omega
        obtain rfl : i = m := by omega
        have q1 : ¬ 9223372036854775807 < S.size + 1 := by omega
        obtain ⟨S1, hS1⟩ : ∃ S1, (S ++ ⟨#[119]⟩ : ByteArray) = S1 := ⟨_, rfl⟩
        have HS1 : Hid (S1 = strOfNums (List.replicate i 91 ++ [119])) := by show _ = _; rw [← hS1, HS.out, nums_app]; rfl
        have hS1z : S1.size ≤ 37 := by rw [← hS1, ByteArray.size_append]; show S.size + 1 ≤ _; omega
        clear HS hS hg hi
        go_wp2
        go_loopg [13, 44] i (fun g sv iv wr => ∃ (k : Nat) (S2 : ByteArray), k ≤ i ∧ g = i - k ∧ iv = .int .i64 k ∧ sv = .string S2 ∧ S2.size ≤ 37 + k ∧ Hid (S2 = strOfNums (List.replicate i 91 ++ [119] ++ List.replicate k 93)) ∧ wr = W)
        case atStart => exact ⟨0, S1, Nat.zero_le _, rfl, rfl, rfl, by omega, by show _ = _; rw [HS1.out]; simp, rfl⟩
        case round =>
          obtain ⟨k, S2, hk, hg, rfl, rfl, hS2, HS2, hwr⟩ := hrel
          subst wr
          by_cases hkl : k < i
          · have z2 : (k : Int) < (i : Int) := by omega
            have q2 : ¬ 9223372036854775807 < S2.size + 1 := by omega
            have HS3 : Hid (S2 ++ ⟨#[93]⟩ = strOfNums (List.replicate i 91 ++ [119] ++ List.replicate (k + 1) 93)) := by show _ = _; rw [← rep_more, ← List.append_assoc, nums_app _ [93], ← HS2.out]; rfl
            have hsz : (S2 ++ ⟨#[93]⟩ : ByteArray).size ≤ 37 + (k + 1) := by rw [ByteArray.size_append]; show S2.size + 1 ≤ _; omega
            clear HS2
            go_wp2
            go_roundg (i - (k + 1))
            case measure => omega
            case rel => exact ⟨k + 1, S2 ++ ⟨#[93]⟩, by omega, rfl, by go_num, rfl, hsz, HS3, rfl⟩
          · have z2 : ¬ (k : Int) < (i : Int) := by omega
            obtain rfl : k = i := by omega
            have HOne : Hid (S2 = strOfNums (oneG 91 93 k)) := HS2.out
            have hOz : S2.size ≤ 80 := by omega
            obtain ⟨S4, hS4⟩ : ∃ S4, (⟨#[92]⟩ ++ Nm : ByteArray) = S4 := ⟨_, rfl⟩
            have hS4n : S4 = strOfNums ([92] ++ t) := by rw [← hS4, nums_app, HT.out.2.1]; rfl
            obtain ⟨fr, hfr⟩ : ∃ fr, 1 + p = fr := ⟨_, rfl⟩
            have hS4z : S4.size = fr := by rw [hS4n, strOfNums_size, ← hfr, ← HP.out]; simp; omega
            have HFR : Hid (1 + p = fr ∧ S4 = strOfNums ([92] ++ t)) := ⟨hfr, hS4n⟩
            have hfrb : 2 ≤ fr ∧ fr ≤ 11 := by omega
            have q3 : ¬ 9223372036854775807 < 1 + Nm.size := by omega
            have q4 : ¬ 9223372036854775807 < 1 + p := by omega
            clear hfr hS4n HS2 hS2 hg hk HS1
            go_wp2
            go_loopg [14, 56] q (fun g sv iv wr => ∃ (c : Nat) (S5 : ByteArray), c ≤ q ∧ g = q - c ∧ iv = .int .u8 c ∧ sv = .string S5 ∧ S5.size ≤ 11 + 80 * c ∧ Hid (S5 = strOfNums ([92] ++ t ++ reps 91 93 k c)) ∧ wr = W)
            case atStart => exact ⟨0, S4, Nat.zero_le _, rfl, rfl, rfl, by omega, by show _ = _; rw [HFR.out.2]; simp [reps], rfl⟩
            case round =>
              obtain ⟨c, S5, hc, hg, rfl, rfl, hS5, HS5, hwr⟩ := hrel
              subst wr
              by_cases hcl : c < q
              · have z3 : (c : Int) < (q : Int) := by omega
                have q5 : ¬ 9223372036854775807 < S5.size + S2.size := by omega
                have HS6 : Hid (S5 ++ S2 = strOfNums ([92] ++ t ++ reps 91 93 k (c + 1))) := by show _ = _; rw [reps, ← List.append_assoc, nums_app _ (oneG _ _ _), ← HS5.out, ← HOne.out]
                have hsz : (S5 ++ S2 : ByteArray).size ≤ 11 + 80 * (c + 1) := by rw [ByteArray.size_append]; omega
                have hwc : IntKind.u8.wrap ((c : Int) + 1) = (c : Int) + 1 := by rw [IntKind.wrap_u8]; omega
                clear HS5
                go_wp2
                go_roundg (q - (c + 1))
                case measure => omega
                case rel => exact ⟨c + 1, S5 ++ S2, by omega, rfl, by go_num, rfl, hsz, HS6, rfl⟩
              · have z3 : ¬ (c : Int) < (q : Int) := by omega
                obtain rfl : c = q := by omega
                obtain ⟨S6, hS6⟩ : ∃ S6, (S5 ++ ⟨#[32, 118]⟩ : ByteArray) = S6 := ⟨_, rfl⟩
                obtain ⟨Gl, hGl⟩ : ∃ Gl, reps 91 93 k c = Gl := ⟨_, rfl⟩
                have hBl : strOfNums ([92] ++ t ++ Gl ++ [32, 118]) = S6 := by rw [← hS6, HS5.out, hGl, nums_app _ [32, 118]]; rfl
                obtain ⟨N, hN⟩ : ∃ N, fr + Gl.length + 2 = N := ⟨_, rfl⟩
                have hBn : ([92] ++ t ++ Gl ++ [32, 118]).length = N := by rw [← hN, ← HFR.out.1, ← HP.out]; simp; omega
                have hS6z : S6.size = N := by rw [← hBl, strOfNums_size, hBn]
                have hN9 : N ≤ 1000 := by
                  have : S6.size = S5.size + 2 := by rw [← hS6, ByteArray.size_append]; rfl
                  omega
                have hlab := groups_lab (r := r) (m := k) (q := c) (t := t) (o := 91) (s := 93) (Or.inr ⟨rfl, rfl⟩) (by omega) hr7 HT.out.1
                dsimp only at hlab
                rw [hGl] at hlab
                rw [show 1 + t.length = fr by rw [HP.out]; exact HFR.out.1, hN] at hlab
                have hBy : Byt ([92] ++ t ++ Gl ++ [32, 118]) := by
                  refine byt_app (byt_app (byt_app (byt_lit _ rfl) HT.out.2.2) ?_) (byt_lit _ rfl)
                  rw [← hGl]
                  exact reps_byt (Or.inr ⟨rfl, rfl⟩) k c
                have HX : Hid (∀ i (h : i < S6.size), fr ≤ i → i < N - 2 → ∃ x, ((S6[i]'h).toNat : Int) = x ∧ x = cL Gl (i - fr) ∧ (x = 91 ∨ x = 119 ∨ x = 93)) := fun i h h1 h2 => by
                  refine ⟨_, nums_get hBy hBl.symm h, ?_, ?_⟩
                  · rw [show [92] ++ t ++ Gl ++ [32, 118] = ([92] ++ t) ++ (Gl ++ [32, 118]) by simp, cL_app (j := i - fr) (by rw [← HFR.out.1, ← HP.out]; simp; rw [HP.out]; have := HFR.out.1; omega), cL_left _ _ (by omega)]
                  · rw [show [92] ++ t ++ Gl ++ [32, 118] = ([92] ++ t) ++ (Gl ++ [32, 118]) by simp, cL_app (j := i - fr) (by rw [← HFR.out.1, ← HP.out]; simp; rw [HP.out]; have := HFR.out.1; omega), cL_left _ _ (by omega), ← hGl]
                    exact reps_val (by rw [hGl]; omega)
                obtain ⟨V, gc, hcv, hbw, cx⟩ := str_lex (HH.out.stay HUW.out.1) hBy (by omega) hBl hBn
                have HUV : Hid (Up w.heap.size w V) := HUW.out.stay hbw
                obtain ⟨F, hF⟩ : ∃ F, lxA (cL ([92] ++ t ++ Gl ++ [32, 118])) N = F := ⟨_, rfl⟩
                unfold LxP at cx
                rw [hF] at cx hlab
                have hN2 : fr + 2 ≤ N := by omega
                have HLb : Hid (F 0 = 2 ∧ F (N - 1) = 1 ∧ ∀ j, j < Gl.length → (F (fr + j) = 2 ↔ ¬ ((cL Gl j = 119 ∨ cL Gl j = 91 ∨ cL Gl j = 93) ∧ ¬ (r < 5 ∧ k ≤ 32)))) := hlab
                have HN : Hid (fr + Gl.length + 2 = N) := hN
                have q6 : ¬ 9223372036854775807 < S5.size + 2 := by omega
                clear hF hlab hBl hBy hBn hbw HS5 hGl hN hg hc hS5
                rcases (show (r < 5 ∧ k ≤ 32) ∨ (¬ r < 5 ∧ ¬ (r < 5 ∧ k ≤ 32)) ∨ (r < 5 ∧ ¬ k ≤ 32 ∧ ¬ (r < 5 ∧ k ≤ 32)) by omega) with h5 | ⟨h5a, h5⟩ | ⟨h5a, h5b, h5⟩
                · have b1 : (r : Int) < 5 := by omega
                  have b2 : (k : Int) ≤ 32 := by omega
                  have HBr : Hid (r < 5 ∧ k ≤ 32) := h5
                  clear h5
                  go_wp2_with fail
                  refine cx.mono ?_
                  rintro e w3 ⟨T, g, rfl, hT, hg, hSh, hU3⟩
                  have HU3 : Hid (Below w.heap.size w w3) := HUV.out.1.trans (hU3.1.mono HUV.out.2)
                  have HSh : Hid (Sh w3 T g N F) := hSh
                  clear cx hcv hT hg hSh hU3
                  go_wp2
                  go_loopg [19] (N - fr) (fun g2 iv wx => ∃ j : Nat, fr ≤ j ∧ j ≤ N - 2 ∧ g2 = N - j ∧ iv = .int .i64 j ∧ wx = w3)
                  case atStart => exact ⟨fr, Nat.le_refl _, by omega, rfl, rfl, rfl⟩
                  case round =>
                    obtain ⟨j, hj1, hj2, hq3, rfl, hwx⟩ := hrel
                    subst hwx
                    by_cases hjl : j < N - 2
                    · have y1 : (j : Int) < (N : Int) - 2 := by omega
                      have y2 : (0 : Int) ≤ (j : Int) := by omega
                      have y3 : (j : Int) < (N : Int) := by omega
                      have y4 : j < N := by omega
                      have y5 : j < S6.size := by omega
                      have cA := at_any HSh.out j (by omega)
                      obtain ⟨x, hx, hxG, hxv⟩ := HX.out j y5 hj1 hjl
                      have hl := HLb.out.2.2 (j - fr) (by have := HN.out; omega)
                      rw [show fr + (j - fr) = j by omega, ← hxG] at hl
                      obtain ⟨y, hy⟩ : ∃ y, F j = y := ⟨_, rfl⟩
                      rw [hy] at hl cA
                      clear hxG hy
                      rcases hxv with rfl | rfl | rfl
                      · have ky : (y == 2) = true := by simpa using (hl.2 (fun h => h.2 HBr.out))
                        clear hl
                        go_wp2_with fail
                        refine cA.mono ?_
                        rintro e w4 ⟨rfl, hw⟩
                        subst hw
                        go_wp2
                        go_roundg (N - (j + 1))
                        case measure => omega
                        case rel => exact ⟨j + 1, by omega, by omega, rfl, by go_num, rfl⟩
                      · have ky : (y == 2) = true := by simpa using (hl.2 (fun h => h.2 HBr.out))
                        clear hl
                        go_wp2_with fail
                        refine cA.mono ?_
                        rintro e w4 ⟨rfl, hw⟩
                        subst hw
                        go_wp2
                        go_roundg (N - (j + 1))
                        case measure => omega
                        case rel => exact ⟨j + 1, by omega, by omega, rfl, by go_num, rfl⟩
                      · have ky : (y == 2) = true := by simpa using (hl.2 (fun h => h.2 HBr.out))
                        clear hl
                        go_wp2_with fail
                        refine cA.mono ?_
                        rintro e w4 ⟨rfl, hw⟩
                        subst hw
                        go_wp2
                        go_roundg (N - (j + 1))
                        case measure => omega
                        case rel => exact ⟨j + 1, by omega, by omega, rfl, by go_num, rfl⟩
                    · have y1 : ¬ (j : Int) < (N : Int) - 2 := by omega
                      have cA := at_any HSh.out (N - 1) (by omega)
                      have cB := at_any HSh.out 0 (by omega)
                      rw [HLb.out.2.1] at cA
                      rw [HLb.out.1] at cB
                      have y2 : (N : Int) - 1 = ((N - 1 : Nat) : Int) := by omega
                      go_wp2_with fail
                      refine cA.mono ?_
                      rintro e w4 ⟨rfl, hw⟩
                      subst hw
                      go_wp2_with fail
                      refine cB.mono ?_
                      rintro e w4 ⟨rfl, hw⟩
                      subst hw
                      go_wp2
                      go_ret
                      exact ⟨rfl, HU3.out⟩
                · have b1 : ¬ (r : Int) < 5 := by omega
                  have HBr : Hid (¬ (r < 5 ∧ k ≤ 32)) := h5
                  clear h5
                  go_wp2_with fail
                  refine cx.mono ?_
                  rintro e w3 ⟨T, g, rfl, hT, hg, hSh, hU3⟩
                  have HU3 : Hid (Below w.heap.size w w3) := HUV.out.1.trans (hU3.1.mono HUV.out.2)
                  have HSh : Hid (Sh w3 T g N F) := hSh
                  clear cx hcv hT hg hSh hU3
                  go_wp2
                  go_loopg [19] (N - fr) (fun g2 iv wx => ∃ j : Nat, fr ≤ j ∧ j ≤ N - 2 ∧ g2 = N - j ∧ iv = .int .i64 j ∧ wx = w3)
                  case atStart => exact ⟨fr, Nat.le_refl _, by omega, rfl, rfl, rfl⟩
                  case round =>
                    obtain ⟨j, hj1, hj2, hq3, rfl, hwx⟩ := hrel
                    subst hwx
                    by_cases hjl : j < N - 2
                    · have y1 : (j : Int) < (N : Int) - 2 := by omega
                      have y2 : (0 : Int) ≤ (j : Int) := by omega
                      have y3 : (j : Int) < (N : Int) := by omega
                      have y4 : j < N := by omega
                      have y5 : j < S6.size := by omega
                      have cA := at_any HSh.out j (by omega)
                      obtain ⟨x, hx, hxG, hxv⟩ := HX.out j y5 hj1 hjl
                      have hl := HLb.out.2.2 (j - fr) (by have := HN.out; omega)
                      rw [show fr + (j - fr) = j by omega, ← hxG] at hl
                      obtain ⟨y, hy⟩ : ∃ y, F j = y := ⟨_, rfl⟩
                      rw [hy] at hl cA
                      clear hxG hy
                      rcases hxv with rfl | rfl | rfl
                      · have ky : (y == 2) = false := by simpa using (fun h => (hl.1 h) ⟨by decide, HBr.out⟩ : ¬ y = 2)
                        clear hl
                        go_wp2_with fail
                        refine cA.mono ?_
                        rintro e w4 ⟨rfl, hw⟩
                        subst hw
                        go_wp2
                        go_roundg (N - (j + 1))
                        case measure => omega
                        case rel => exact ⟨j + 1, by omega, by omega, rfl, by go_num, rfl⟩
                      · have ky : (y == 2) = false := by simpa using (fun h => (hl.1 h) ⟨by decide, HBr.out⟩ : ¬ y = 2)
                        clear hl
                        go_wp2_with fail
                        refine cA.mono ?_
                        rintro e w4 ⟨rfl, hw⟩
                        subst hw
                        go_wp2
                        go_roundg (N - (j + 1))
                        case measure => omega
                        case rel => exact ⟨j + 1, by omega, by omega, rfl, by go_num, rfl⟩
                      · have ky : (y == 2) = false := by simpa using (fun h => (hl.1 h) ⟨by decide, HBr.out⟩ : ¬ y = 2)
                        clear hl
                        go_wp2_with fail
                        refine cA.mono ?_
                        rintro e w4 ⟨rfl, hw⟩
                        subst hw
                        go_wp2
                        go_roundg (N - (j + 1))
                        case measure => omega
                        case rel => exact ⟨j + 1, by omega, by omega, rfl, by go_num, rfl⟩
                    · have y1 : ¬ (j : Int) < (N : Int) - 2 := by omega
                      have cA := at_any HSh.out (N - 1) (by omega)
                      have cB := at_any HSh.out 0 (by omega)
                      rw [HLb.out.2.1] at cA
                      rw [HLb.out.1] at cB
                      have y2 : (N : Int) - 1 = ((N - 1 : Nat) : Int) := by omega
                      go_wp2_with fail
                      refine cA.mono ?_
                      rintro e w4 ⟨rfl, hw⟩
                      subst hw
                      go_wp2_with fail
                      refine cB.mono ?_
                      rintro e w4 ⟨rfl, hw⟩
                      subst hw
                      go_wp2
                      go_ret
                      exact ⟨rfl, HU3.out⟩
                · have b1 : (r : Int) < 5 := by omega
                  have b2 : ¬ (k : Int) ≤ 32 := by omega
                  have HBr : Hid (¬ (r < 5 ∧ k ≤ 32)) := h5
                  clear h5
                  go_wp2_with fail
                  refine cx.mono ?_
                  rintro e w3 ⟨T, g, rfl, hT, hg, hSh, hU3⟩
                  have HU3 : Hid (Below w.heap.size w w3) := HUV.out.1.trans (hU3.1.mono HUV.out.2)
                  have HSh : Hid (Sh w3 T g N F) := hSh
                  clear cx hcv hT hg hSh hU3
                  go_wp2
                  go_loopg [19] (N - fr) (fun g2 iv wx => ∃ j : Nat, fr ≤ j ∧ j ≤ N - 2 ∧ g2 = N - j ∧ iv = .int .i64 j ∧ wx = w3)
                  case atStart => exact ⟨fr, Nat.le_refl _, by omega, rfl, rfl, rfl⟩
                  case round =>
                    obtain ⟨j, hj1, hj2, hq3, rfl, hwx⟩ := hrel
                    subst hwx
                    by_cases hjl : j < N - 2
                    · have y1 : (j : Int) < (N : Int) - 2 := by omega
                      have y2 : (0 : Int) ≤ (j : Int) := by omega
                      have y3 : (j : Int) < (N : Int) := by omega
                      have y4 : j < N := by omega
                      have y5 : j < S6.size := by omega
                      have cA := at_any HSh.out j (by omega)
                      obtain ⟨x, hx, hxG, hxv⟩ := HX.out j y5 hj1 hjl
                      have hl := HLb.out.2.2 (j - fr) (by have := HN.out; omega)
                      rw [show fr + (j - fr) = j by omega, ← hxG] at hl
                      obtain ⟨y, hy⟩ : ∃ y, F j = y := ⟨_, rfl⟩
                      rw [hy] at hl cA
                      clear hxG hy
                      rcases hxv with rfl | rfl | rfl
                      · have ky : (y == 2) = false := by simpa using (fun h => (hl.1 h) ⟨by decide, HBr.out⟩ : ¬ y = 2)
                        clear hl
                        go_wp2_with fail
                        refine cA.mono ?_
                        rintro e w4 ⟨rfl, hw⟩
                        subst hw
                        go_wp2
                        go_roundg (N - (j + 1))
                        case measure => omega
                        case rel => exact ⟨j + 1, by omega, by omega, rfl, by go_num, rfl⟩
                      · have ky : (y == 2) = false := by simpa using (fun h => (hl.1 h) ⟨by decide, HBr.out⟩ : ¬ y = 2)
                        clear hl
                        go_wp2_with fail
                        refine cA.mono ?_
                        rintro e w4 ⟨rfl, hw⟩
                        subst hw
                        go_wp2
                        go_roundg (N - (j + 1))
                        case measure => omega
                        case rel => exact ⟨j + 1, by omega, by omega, rfl, by go_num, rfl⟩
                      · have ky : (y == 2) = false := by simpa using (fun h => (hl.1 h) ⟨by decide, HBr.out⟩ : ¬ y = 2)
                        clear hl
                        go_wp2_with fail
                        refine cA.mono ?_
                        rintro e w4 ⟨rfl, hw⟩
                        subst hw
                        go_wp2
                        go_roundg (N - (j + 1))
                        case measure => omega
                        case rel => exact ⟨j + 1, by omega, by omega, rfl, by go_num, rfl⟩
                    · have y1 : ¬ (j : Int) < (N : Int) - 2 := by omega
                      have cA := at_any HSh.out (N - 1) (by omega)
                      have cB := at_any HSh.out 0 (by omega)
                      rw [HLb.out.2.1] at cA
                      rw [HLb.out.1] at cB
                      have y2 : (N : Int) - 1 = ((N - 1 : Nat) : Int) := by omega
                      go_wp2_with fail
                      refine cA.mono ?_
                      rintro e w4 ⟨rfl, hw⟩
                      subst hw
                      go_wp2_with fail
                      refine cB.mono ?_
                      rintro e w4 ⟨rfl, hw⟩
                      subst hw
                      go_wp2
                      go_ret
                      exact ⟨rfl, HU3.out⟩
  | false =>
    go_wp2
    clear y1 hW hm hmd1 z7 z8
    go_loopg [13, 35] m (fun g sv iv wr => ∃ (i : Nat) (S : ByteArray), i ≤ m ∧ g = m - i ∧ iv = .int .i64 i ∧ sv = .string S ∧ S.size ≤ i ∧ Hid (S = strOfNums (List.replicate i 123)) ∧ wr = W)
    case atStart => exact ⟨0, _, Nat.zero_le _, rfl, rfl, rfl, Nat.le_refl _, rfl, rfl⟩
    case round =>
      obtain ⟨i, S, hi, hg, rfl, rfl, hS, HS, hwr⟩ := hrel
      subst wr
      by_cases hlt : i < m
      · have z1 : (i : Int) < (m : Int) := by omega
        have q1 : ¬ 9223372036854775807 < S.size + 1 := by omega
        have HS2 : Hid (S ++ ⟨#[123]⟩ = strOfNums (List.replicate (i + 1) 123)) := by show _ = _; rw [← rep_more, nums_app, ← HS.out]; rfl
        have hsz : (S ++ ⟨#[123]⟩ : ByteArray).size ≤ i + 1 := by rw [ByteArray.size_append]; show S.size + 1 ≤ _; omega
        clear HS
        go_wp2
        go_roundg (m - (i + 1))
        case measure => omega
        case rel => exact ⟨i + 1, S ++ ⟨#[123]⟩, by omega, rfl, by go_num, rfl, hsz, HS2, rfl⟩
      · have z1 : ¬ (i : Int) < (m : Int) := by omega
        obtain rfl : i = m := by omega
        have q1 : ¬ 9223372036854775807 < S.size + 1 := by omega
        obtain ⟨S1, hS1⟩ : ∃ S1, (S ++ ⟨#[119]⟩ : ByteArray) = S1 := ⟨_, rfl⟩
        have HS1 : Hid (S1 = strOfNums (List.replicate i 123 ++ [119])) := by show _ = _; rw [← hS1, HS.out, nums_app]; rfl
        have hS1z : S1.size ≤ 37 := by rw [← hS1, ByteArray.size_append]; show S.size + 1 ≤ _; omega
        clear HS hS hg hi
        go_wp2
        go_loopg [13, 44] i (fun g sv iv wr => ∃ (k : Nat) (S2 : ByteArray), k ≤ i ∧ g = i - k ∧ iv = .int .i64 k ∧ sv = .string S2 ∧ S2.size ≤ 37 + k ∧ Hid (S2 = strOfNums (List.replicate i 123 ++ [119] ++ List.replicate k 125)) ∧ wr = W)
        case atStart => exact ⟨0, S1, Nat.zero_le _, rfl, rfl, rfl, by omega, by show _ = _; rw [HS1.out]; simp, rfl⟩
        case round =>
          obtain ⟨k, S2, hk, hg, rfl, rfl, hS2, HS2, hwr⟩ := hrel
          subst wr
          by_cases hkl : k < i
          · have z2 : (k : Int) < (i : Int) := by omega
            have q2 : ¬ 9223372036854775807 < S2.size + 1 := by omega
            have HS3 : Hid (S2 ++ ⟨#[125]⟩ = strOfNums (List.replicate i 123 ++ [119] ++ List.replicate (k + 1) 125)) := by show _ = _; rw [← rep_more, ← List.append_assoc, nums_app _ [125], ← HS2.out]; rfl
            have hsz : (S2 ++ ⟨#[125]⟩ : ByteArray).size ≤ 37 + (k + 1) := by rw [ByteArray.size_append]; show S2.size + 1 ≤ _; omega
            clear HS2
            go_wp2
            go_roundg (i - (k + 1))
            case measure => omega
            case rel => exact ⟨k + 1, S2 ++ ⟨#[125]⟩, by omega, rfl, by go_num, rfl, hsz, HS3, rfl⟩
          · have z2 : ¬ (k : Int) < (i : Int) := by omega
            obtain rfl : k = i := by omega
            have HOne : Hid (S2 = strOfNums (oneG 123 125 k)) := HS2.out
            have hOz : S2.size ≤ 80 := by omega
            obtain ⟨S4, hS4⟩ : ∃ S4, (⟨#[92]⟩ ++ Nm : ByteArray) = S4 := ⟨_, rfl⟩
            have hS4n : S4 = strOfNums ([92] ++ t) := by rw [← hS4, nums_app, HT.out.2.1]; rfl
            obtain ⟨fr, hfr⟩ : ∃ fr, 1 + p = fr := ⟨_, rfl⟩
            have hS4z : S4.size = fr := by rw [hS4n, strOfNums_size, ← hfr, ← HP.out]; simp; omega
            have HFR : Hid (1 + p = fr ∧ S4 = strOfNums ([92] ++ t)) := ⟨hfr, hS4n⟩
            have hfrb : 2 ≤ fr ∧ fr ≤ 11 := by omega
            have q3 : ¬ 9223372036854775807 < 1 + Nm.size := by omega
            have q4 : ¬ 9223372036854775807 < 1 + p := by omega
            clear hfr hS4n HS2 hS2 hg hk HS1
            go_wp2
            go_loopg [14, 56] q (fun g sv iv wr => ∃ (c : Nat) (S5 : ByteArray), c ≤ q ∧ g = q - c ∧ iv = .int .u8 c ∧ sv = .string S5 ∧ S5.size ≤ 11 + 80 * c ∧ Hid (S5 = strOfNums ([92] ++ t ++ reps 123 125 k c)) ∧ wr = W)
            case atStart => exact ⟨0, S4, Nat.zero_le _, rfl, rfl, rfl, by omega, by show _ = _; rw [HFR.out.2]; simp [reps], rfl⟩
            case round =>
              obtain ⟨c, S5, hc, hg, rfl, rfl, hS5, HS5, hwr⟩ := hrel
              subst wr
              by_cases hcl : c < q
              · have z3 : (c : Int) < (q : Int) := by omega
                have q5 : ¬ 9223372036854775807 < S5.size + S2.size := by omega
                have HS6 : Hid (S5 ++ S2 = strOfNums ([92] ++ t ++ reps 123 125 k (c + 1))) := by show _ = _; rw [reps, ← List.append_assoc, nums_app _ (oneG _ _ _), ← HS5.out, ← HOne.out]
                have hsz : (S5 ++ S2 : ByteArray).size ≤ 11 + 80 * (c + 1) := by rw [ByteArray.size_append]; omega
                have hwc : IntKind.u8.wrap ((c : Int) + 1) = (c : Int) + 1 := by rw [IntKind.wrap_u8]; omega
                clear HS5
                go_wp2
                go_roundg (q - (c + 1))
                case measure => omega
                case rel => exact ⟨c + 1, S5 ++ S2, by omega, rfl, by go_num, rfl, hsz, HS6, rfl⟩
              · have z3 : ¬ (c : Int) < (q : Int) := by omega
                obtain rfl : c = q := by omega
                obtain ⟨S6, hS6⟩ : ∃ S6, (S5 ++ ⟨#[32, 118]⟩ : ByteArray) = S6 := ⟨_, rfl⟩
                obtain ⟨Gl, hGl⟩ : ∃ Gl, reps 123 125 k c = Gl := ⟨_, rfl⟩
                have hBl : strOfNums ([92] ++ t ++ Gl ++ [32, 118]) = S6 := by rw [← hS6, HS5.out, hGl, nums_app _ [32, 118]]; rfl
                obtain ⟨N, hN⟩ : ∃ N, fr + Gl.length + 2 = N := ⟨_, rfl⟩
                have hBn : ([92] ++ t ++ Gl ++ [32, 118]).length = N := by rw [← hN, ← HFR.out.1, ← HP.out]; simp; omega
                have hS6z : S6.size = N := by rw [← hBl, strOfNums_size, hBn]
                have hN9 : N ≤ 1000 := by
                  have : S6.size = S5.size + 2 := by rw [← hS6, ByteArray.size_append]; rfl
                  omega
                have hlab := groups_lab (r := r) (m := k) (q := c) (t := t) (o := 123) (s := 125) (Or.inl ⟨rfl, rfl⟩) (by omega) hr7 HT.out.1
                dsimp only at hlab
                rw [hGl] at hlab
                rw [show 1 + t.length = fr by rw [HP.out]; exact HFR.out.1, hN] at hlab
                have hBy : Byt ([92] ++ t ++ Gl ++ [32, 118]) := by
                  refine byt_app (byt_app (byt_app (byt_lit _ rfl) HT.out.2.2) ?_) (byt_lit _ rfl)
                  rw [← hGl]
                  exact reps_byt (Or.inl ⟨rfl, rfl⟩) k c
                have HX : Hid (∀ i (h : i < S6.size), fr ≤ i → i < N - 2 → ∃ x, ((S6[i]'h).toNat : Int) = x ∧ x = cL Gl (i - fr) ∧ (x = 123 ∨ x = 119 ∨ x = 125)) := fun i h h1 h2 => by
                  refine ⟨_, nums_get hBy hBl.symm h, ?_, ?_⟩
                  · rw [show [92] ++ t ++ Gl ++ [32, 118] = ([92] ++ t) ++ (Gl ++ [32, 118]) by simp, cL_app (j := i - fr) (by rw [← HFR.out.1, ← HP.out]; simp; rw [HP.out]; have := HFR.out.1; omega), cL_left _ _ (by omega)]
                  · rw [show [92] ++ t ++ Gl ++ [32, 118] = ([92] ++ t) ++ (Gl ++ [32, 118]) by simp, cL_app (j := i - fr) (by rw [← HFR.out.1, ← HP.out]; simp; rw [HP.out]; have := HFR.out.1; omega), cL_left _ _ (by omega), ← hGl]
                    exact reps_val (by rw [hGl]; omega)
                obtain ⟨V, gc, hcv, hbw, cx⟩ := str_lex (HH.out.stay HUW.out.1) hBy (by omega) hBl hBn
                have HUV : Hid (Up w.heap.size w V) := HUW.out.stay hbw
                obtain ⟨F, hF⟩ : ∃ F, lxA (cL ([92] ++ t ++ Gl ++ [32, 118])) N = F := ⟨_, rfl⟩
                unfold LxP at cx
                rw [hF] at cx hlab
                have hN2 : fr + 2 ≤ N := by omega
                have HLb : Hid (F 0 = 2 ∧ F (N - 1) = 1 ∧ ∀ j, j < Gl.length → (F (fr + j) = 2 ↔ ¬ ((cL Gl j = 119 ∨ cL Gl j = 91 ∨ cL Gl j = 93) ∧ ¬ (r < 5 ∧ k ≤ 32)))) := hlab
                have HN : Hid (fr + Gl.length + 2 = N) := hN
                have q6 : ¬ 9223372036854775807 < S5.size + 2 := by omega
                clear hF hlab hBl hBy hBn hbw HS5 hGl hN hg hc hS5
                rcases (show (r < 5 ∧ k ≤ 32) ∨ (¬ r < 5 ∧ ¬ (r < 5 ∧ k ≤ 32)) ∨ (r < 5 ∧ ¬ k ≤ 32 ∧ ¬ (r < 5 ∧ k ≤ 32)) by omega) with h5 | ⟨h5a, h5⟩ | ⟨h5a, h5b, h5⟩
                · have b1 : (r : Int) < 5 := by omega
                  have b2 : (k : Int) ≤ 32 := by omega
                  have HBr : Hid (r < 5 ∧ k ≤ 32) := h5
                  clear h5
                  go_wp2_with fail
                  refine cx.mono ?_
                  rintro e w3 ⟨T, g, rfl, hT, hg, hSh, hU3⟩
                  have HU3 : Hid (Below w.heap.size w w3) := HUV.out.1.trans (hU3.1.mono HUV.out.2)
                  have HSh : Hid (Sh w3 T g N F) := hSh
                  clear cx hcv hT hg hSh hU3
                  go_wp2
                  go_loopg [19] (N - fr) (fun g2 iv wx => ∃ j : Nat, fr ≤ j ∧ j ≤ N - 2 ∧ g2 = N - j ∧ iv = .int .i64 j ∧ wx = w3)
                  case atStart => exact ⟨fr, Nat.le_refl _, by omega, rfl, rfl, rfl⟩
                  case round =>
                    obtain ⟨j, hj1, hj2, hq3, rfl, hwx⟩ := hrel
                    subst hwx
                    by_cases hjl : j < N - 2
                    · have y1 : (j : Int) < (N : Int) - 2 := by omega
                      have y2 : (0 : Int) ≤ (j : Int) := by omega
                      have y3 : (j : Int) < (N : Int) := by omega
                      have y4 : j < N := by omega
                      have y5 : j < S6.size := by omega
                      have cA := at_any HSh.out j (by omega)
                      obtain ⟨x, hx, hxG, hxv⟩ := HX.out j y5 hj1 hjl
                      have hl := HLb.out.2.2 (j - fr) (by have := HN.out; omega)
                      rw [show fr + (j - fr) = j by omega, ← hxG] at hl
                      obtain ⟨y, hy⟩ : ∃ y, F j = y := ⟨_, rfl⟩
                      rw [hy] at hl cA
                      clear hxG hy
                      rcases hxv with rfl | rfl | rfl
                      · have ky : (y == 2) = true := by simpa using (hl.2 (fun h => h.2 HBr.out))
                        clear hl
                        go_wp2_with fail
                        refine cA.mono ?_
                        rintro e w4 ⟨rfl, hw⟩
                        subst hw
                        go_wp2
                        go_roundg (N - (j + 1))
                        case measure => omega
                        case rel => exact ⟨j + 1, by omega, by omega, rfl, by go_num, rfl⟩
                      · have ky : (y == 2) = true := by simpa using (hl.2 (fun h => h.2 HBr.out))
                        clear hl
                        go_wp2_with fail
                        refine cA.mono ?_
                        rintro e w4 ⟨rfl, hw⟩
                        subst hw
                        go_wp2
                        go_roundg (N - (j + 1))
                        case measure => omega
                        case rel => exact ⟨j + 1, by omega, by omega, rfl, by go_num, rfl⟩
                      · have ky : (y == 2) = true := by simpa using (hl.2 (fun h => h.2 HBr.out))
                        clear hl
                        go_wp2_with fail
                        refine cA.mono ?_
                        rintro e w4 ⟨rfl, hw⟩
                        subst hw
                        go_wp2
                        go_roundg (N - (j + 1))
                        case measure => omega
                        case rel => exact ⟨j + 1, by omega, by omega, rfl, by go_num, rfl⟩
                    · have y1 : ¬ (j : Int) < (N : Int) - 2 := by omega
                      have cA := at_any HSh.out (N - 1) (by omega)
                      have cB := at_any HSh.out 0 (by omega)
                      rw [HLb.out.2.1] at cA
                      rw [HLb.out.1] at cB
                      have y2 : (N : Int) - 1 = ((N - 1 : Nat) : Int) := by omega
                      go_wp2_with fail
                      refine cA.mono ?_
                      rintro e w4 ⟨rfl, hw⟩
                      subst hw
                      go_wp2_with fail
                      refine cB.mono ?_
                      rintro e w4 ⟨rfl, hw⟩
                      subst hw
                      go_wp2
                      go_ret
                      exact ⟨rfl, HU3.out⟩
                · have b1 : ¬ (r : Int) < 5 := by omega
                  have HBr : Hid (¬ (r < 5 ∧ k ≤ 32)) := h5
                  clear h5
                  go_wp2_with fail
                  refine cx.mono ?_
                  rintro e w3 ⟨T, g, rfl, hT, hg, hSh, hU3⟩
                  have HU3 : Hid (Below w.heap.size w w3) := HUV.out.1.trans (hU3.1.mono HUV.out.2)
                  have HSh : Hid (Sh w3 T g N F) := hSh
                  clear cx hcv hT hg hSh hU3
                  go_wp2
                  go_loopg [19] (N - fr) (fun g2 iv wx => ∃ j : Nat, fr ≤ j ∧ j ≤ N - 2 ∧ g2 = N - j ∧ iv = .int .i64 j ∧ wx = w3)
                  case atStart => exact ⟨fr, Nat.le_refl _, by omega, rfl, rfl, rfl⟩
                  case round =>
                    obtain ⟨j, hj1, hj2, hq3, rfl, hwx⟩ := hrel
                    subst hwx
                    by_cases hjl : j < N - 2
                    · have y1 : (j : Int) < (N : Int) - 2 := by omega
                      have y2 : (0 : Int) ≤ (j : Int) := by omega
                      have y3 : (j : Int) < (N : Int) := by omega
                      have y4 : j < N := by omega
                      have y5 : j < S6.size := by omega
                      have cA := at_any HSh.out j (by omega)
                      obtain ⟨x, hx, hxG, hxv⟩ := HX.out j y5 hj1 hjl
                      have hl := HLb.out.2.2 (j - fr) (by have := HN.out; omega)
                      rw [show fr + (j - fr) = j by omega, ← hxG] at hl
                      obtain ⟨y, hy⟩ : ∃ y, F j = y := ⟨_, rfl⟩
                      rw [hy] at hl cA
                      clear hxG hy
                      rcases hxv with rfl | rfl | rfl
                      · have ky : (y == 2) = true := by simpa using (hl.2 (fun h => absurd h.1 (by decide)))
                        clear hl
                        go_wp2_with fail
                        refine cA.mono ?_
                        rintro e w4 ⟨rfl, hw⟩
                        subst hw
                        go_wp2
                        go_roundg (N - (j + 1))
                        case measure => omega
                        case rel => exact ⟨j + 1, by omega, by omega, rfl, by go_num, rfl⟩
                      · have ky : (y == 2) = false := by simpa using (fun h => (hl.1 h) ⟨by decide, HBr.out⟩ : ¬ y = 2)
                        clear hl
                        go_wp2_with fail
                        refine cA.mono ?_
                        rintro e w4 ⟨rfl, hw⟩
                        subst hw
                        go_wp2
                        go_roundg (N - (j + 1))
                        case measure => omega
                        case rel => exact ⟨j + 1, by omega, by omega, rfl, by go_num, rfl⟩
                      · have ky : (y == 2) = true := by simpa using (hl.2 (fun h => absurd h.1 (by decide)))
                        clear hl
                        go_wp2_with fail
                        refine cA.mono ?_
                        rintro e w4 ⟨rfl, hw⟩
                        subst hw
                        go_wp2
                        go_roundg (N - (j + 1))
                        case measure => omega
                        case rel => exact ⟨j + 1, by omega, by omega, rfl, by go_num, rfl⟩
                    · have y1 : ¬ (j : Int) < (N : Int) - 2 := by omega
                      have cA := at_any HSh.out (N - 1) (by omega)
                      have cB := at_any HSh.out 0 (by omega)
                      rw [HLb.out.2.1] at cA
                      rw [HLb.out.1] at cB
                      have y2 : (N : Int) - 1 = ((N - 1 : Nat) : Int) := by omega
                      go_wp2_with fail
                      refine cA.mono ?_
                      rintro e w4 ⟨rfl, hw⟩
                      subst hw
                      go_wp2_with fail
                      refine cB.mono ?_
                      rintro e w4 ⟨rfl, hw⟩
                      subst hw
                      go_wp2
                      go_ret
                      exact ⟨rfl, HU3.out⟩
                · have b1 : (r : Int) < 5 := by omega
                  have b2 : ¬ (k : Int) ≤ 32 := by omega
                  have HBr : Hid (¬ (r < 5 ∧ k ≤ 32)) := h5
                  clear h5
                  go_wp2_with fail
                  refine cx.mono ?_
                  rintro e w3 ⟨T, g, rfl, hT, hg, hSh, hU3⟩
                  have HU3 : Hid (Below w.heap.size w w3) := HUV.out.1.trans (hU3.1.mono HUV.out.2)
                  have HSh : Hid (Sh w3 T g N F) := hSh
                  clear cx hcv hT hg hSh hU3
                  go_wp2
                  go_loopg [19] (N - fr) (fun g2 iv wx => ∃ j : Nat, fr ≤ j ∧ j ≤ N - 2 ∧ g2 = N - j ∧ iv = .int .i64 j ∧ wx = w3)
                  case atStart => exact ⟨fr, Nat.le_refl _, by omega, rfl, rfl, rfl⟩
                  case round =>
                    obtain ⟨j, hj1, hj2, hq3, rfl, hwx⟩ := hrel
                    subst hwx
                    by_cases hjl : j < N - 2
                    · have y1 : (j : Int) < (N : Int) - 2 := by omega
                      have y2 : (0 : Int) ≤ (j : Int) := by omega
                      have y3 : (j : Int) < (N : Int) := by omega
                      have y4 : j < N := by omega
                      have y5 : j < S6.size := by omega
                      have cA := at_any HSh.out j (by omega)
                      obtain ⟨x, hx, hxG, hxv⟩ := HX.out j y5 hj1 hjl
                      have hl := HLb.out.2.2 (j - fr) (by have := HN.out; omega)
                      rw [show fr + (j - fr) = j by omega, ← hxG] at hl
                      obtain ⟨y, hy⟩ : ∃ y, F j = y := ⟨_, rfl⟩
                      rw [hy] at hl cA
                      clear hxG hy
                      rcases hxv with rfl | rfl | rfl
                      · have ky : (y == 2) = true := by simpa using (hl.2 (fun h => absurd h.1 (by decide)))
                        clear hl
                        go_wp2_with fail
                        refine cA.mono ?_
                        rintro e w4 ⟨rfl, hw⟩
                        subst hw
                        go_wp2
                        go_roundg (N - (j + 1))
                        case measure => omega
                        case rel => exact ⟨j + 1, by omega, by omega, rfl, by go_num, rfl⟩
                      · have ky : (y == 2) = false := by simpa using (fun h => (hl.1 h) ⟨by decide, HBr.out⟩ : ¬ y = 2)
                        clear hl
                        go_wp2_with fail
                        refine cA.mono ?_
                        rintro e w4 ⟨rfl, hw⟩
                        subst hw
                        go_wp2
                        go_roundg (N - (j + 1))
                        case measure => omega
                        case rel => exact ⟨j + 1, by omega, by omega, rfl, by go_num, rfl⟩
                      · have ky : (y == 2) = true := by simpa using (hl.2 (fun h => absurd h.1 (by decide)))
                        clear hl
                        go_wp2_with fail
                        refine cA.mono ?_
                        rintro e w4 ⟨rfl, hw⟩
                        subst hw
                        go_wp2
                        go_roundg (N - (j + 1))
                        case measure => omega
                        case rel => exact ⟨j + 1, by omega, by omega, rfl, by go_num, rfl⟩
                    · have y1 : ¬ (j : Int) < (N : Int) - 2 := by omega
                      have cA := at_any HSh.out (N - 1) (by omega)
                      have cB := at_any HSh.out 0 (by omega)
                      rw [HLb.out.2.1] at cA
                      rw [HLb.out.1] at cB
                      have y2 : (N : Int) - 1 = ((N - 1 : Nat) : Int) := by omega
                      go_wp2_with fail
                      refine cA.mono ?_
                      rintro e w4 ⟨rfl, hw⟩
                      subst hw
                      go_wp2_with fail
                      refine cB.mono ?_
                      rintro e w4 ⟨rfl, hw⟩
                      subst hw
                      go_wp2
                      go_ret
                      exact ⟨rfl, HU3.out⟩
end Go.Proofs.YtlgfmhhhecaddaaDoor
