/- The law LabelNil. -/
import Derived.Test.YtfefdcolmalgjaalBk
import Derived.Test.YtfefdcolmalgjaalLay
import Derived.Test.YtfefdcolmalgjaalSame
namespace Go.Proofs.Ytfefdcolmalgjaa
set_option linter.unusedVariables false
open Go.RowKit Go.ChangeShapes
theorem lay_nil {w : World} {T g n : Nat} {L : Nat → Int} (h : Sh w T g n L) (hn : n ≤ 65536) (z : Int) :
    Calls Try.prog 13 #[.pointer (some ⟨T, 0, none⟩), .int .i64 z, .pointer none] w fun e w' => e = .returned (.tuple #[]) ∧ Below w.heap.size w w' := by
  by_cases h1 : -65536 ≤ z ∧ z ≤ 65536
  · exact slay_none h hn z h1.1 h1.2
  · exact (lay_far z (by omega) _ _ w).mono fun _ _ ⟨h1, h2⟩ => ⟨h1, by rw [h2]; exact Below.refl _ _⟩
theorem lay_on_nil {w : World} {T g n : Nat} {L : Nat → Int} (h : Sh w T g n L) (hn : n ≤ 65536) (z : Int) :
    Calls Try.prog 13 #[.pointer none, .int .i64 z, .pointer (some ⟨T, 0, none⟩)] w fun e w' => e = .returned (.tuple #[]) ∧ Below w.heap.size w w' := by
  by_cases h1 : -65536 ≤ z ∧ z ≤ 65536
  · exact slay_on_none h hn z h1.1 h1.2
  · exact (lay_far z (by omega) _ _ w).mono fun _ _ ⟨h1, h2⟩ => ⟨h1, by rw [h2]; exact Below.refl _ _⟩
/-- What the sheet is behind it. -/
def wantN (N : Nat) : Nat → Int := fun i => if i < N + 1 ∧ 0 < N then 4 else 1
theorem nil_lab (N n i : Nat) (hi : i < n) : layL (setL (fun _ => 1) 4 0 N) (setL (fun _ => 1) 4 0 N) n 1 i = wantN N i := by
  unfold layL wantN setL
  dsimp only
  by_cases c : 0 ≤ (i : Int) - 1 ∧ (i : Int) - 1 < (n : Int)
  · rw [if_pos c]
    by_cases c2 : i < N + 1 ∧ 0 < N
    · rw [if_pos c2, if_pos (by omega)]
    · rw [if_neg c2, if_neg (by omega)]
  · rw [if_neg c]
    by_cases c2 : i < N + 1 ∧ 0 < N
    · rw [if_pos c2, if_pos (by omega)]
    · rw [if_neg c2, if_neg (by omega)]
abbrev ActC (k l : Int) (f t : Int) (N : Nat) : Array Value := #[.int .u8 k, .int .u8 l, .int .i64 f, .int .i64 t, .int .u8 (N : Int)]
set_option maxHeartbeats 2000000 in
set_option maxRecDepth 100000 in
theorem nil_law (n N : Nat) (hn : n < 256) (hN : N < 256) (k l f t : Int) (w : World) :
    Calls Try.prog 6 #[.agg #[.int .u8 k, .int .u8 l, .int .i64 f, .int .i64 t, .int .u8 (N : Int)], .int .u8 n] w fun e w' => e = .returned (.bool true) ∧ Below w.heap.size w w' := by
  have wn : IntKind.i64.wrap (n : Int) = (n : Int) := (wrap_is _).trans (IntWalk.wrap64_in _ (by omega))
  have wN : IntKind.i64.wrap (N : Int) = (N : Int) := (wrap_is _).trans (IntWalk.wrap64_in _ (by omega))
  obtain ⟨W, hW⟩ : ∃ W, w.alloc (.cells #[.int .u8 k, .int .u8 l, .int .i64 f, .int .i64 t, .int .u8 (N : Int)] 35) = W := ⟨_, rfl⟩
  have HA : Hid (Bk W w.heap.size (ActC k l f t N) 35) := by show Bk _ _ _ _; rw [← hW]; exact Bk.new _ _ _
  have HU : Hid (Up w.heap.size w W) := by show Up _ _ _; rw [← hW]; exact (Up.refl w).alloc _
  have c0 := awake_any W
  go_enter Try.func6, Try.ntmps6
  go_wp2_with fail
  refine c0.mono ?_
  rintro e w1 ⟨rfl, hU⟩
  have hA := HA.out.stay hU.1
  have HA1 : Hid (Bk w1 w.heap.size (ActC k l f t N) 35) := hA
  have HU1 : Hid (Up w.heap.size w w1) := HU.out.stay hU.1
  have e2 := hA.cell 2 rfl
  have e3 := hA.cell 3 rfl
  have e4 := hA.cell 4 rfl
  clear c0 hU hW HA HU W hA
  go_wp2_with fail
  refine (set_nil 4 f t w1).mono ?_
  rintro e w2 ⟨rfl, h2⟩
  subst w2
  go_wp2_with fail
  refine (new_ok n (by omega) w1).mono ?_
  rintro e w2 ⟨T, g, rfl, hT, hg, hS, hU⟩
  have hA := HA1.out.stay hU.1
  have HA2 : Hid (Bk w2 w.heap.size (ActC k l f t N) 35) := hA
  have HU2 : Hid (Up w.heap.size w w2) := HU1.out.stay hU.1
  have HN : Hid (w.heap.size ≤ g ∧ some w.heap.size ≠ some g) := by
    have h1 := HA1.out.lt
    exact ⟨by omega, fun e => by cases e; omega⟩
  have c3 := set_any hS (by omega) 4 0 N
  clear e2 e3 e4 hT hg hS hU HA1 HU1
  have e4 := hA.cell 4 rfl
  clear hA
  go_wp2_with fail
  refine c3.mono ?_
  rintro e w3 ⟨rfl, hS, hG, _⟩
  have HA3 : Hid (Bk w3 w.heap.size (ActC k l f t N) 35) := HA2.out.grown hG HN.out.2
  have HU3 : Hid (Up w.heap.size w w3) := HU2.out.grown hG (fun k hk => by cases hk; exact HN.out.1)
  have HS3 : Hid (Sh w3 T g n (setL (fun _ => 1) 4 0 N)) := hS
  have c4 := segs_any hS (by omega)
  clear c3 hS hG HA2 HU2 e4
  go_wp2_with fail
  refine c4.mono ?_
  rintro e w4 ⟨v, rfl, hR, hU⟩
  have hA := HA3.out.stay hU.1
  have HA4 : Hid (Bk w4 w.heap.size (ActC k l f t N) 35) := hA
  have HU4 : Hid (Up w.heap.size w w4) := HU3.out.stay hU.1
  have HS4 : Hid (Sh w4 T g n (setL (fun _ => 1) 4 0 N)) := HS3.out.stay hU.1
  have HR4 : Hid (SR w4 w3.heap.size v (sg (setL (fun _ => 1) 4 0 N) n)) := hR
  have e2 := hA.cell 2 rfl
  clear c4 hR hU HA3 HU3 HS3 hA
  go_wp2_with fail
  refine (lay_nil HS4.out (by omega) f).mono ?_
  rintro e w5 ⟨rfl, hU⟩
  have hA := HA4.out.stay hU
  have HA5 : Hid (Bk w5 w.heap.size (ActC k l f t N) 35) := hA
  have HU5 : Hid (Up w.heap.size w w5) := HU4.out.stay hU
  have HS5 : Hid (Sh w5 T g n (setL (fun _ => 1) 4 0 N)) := HS4.out.stay hU
  have HR5 : Hid (SR w5 w3.heap.size v (sg (setL (fun _ => 1) 4 0 N) n)) := HR4.out.stay hU
  clear e2 hU HA4 HU4 HS4 HR4
  have e2 := hA.cell 2 rfl
  clear hA
  go_wp2_with fail
  refine (lay_on_nil HS5.out (by omega) f).mono ?_
  rintro e w6 ⟨rfl, hU⟩
  have HA6 : Hid (Bk w6 w.heap.size (ActC k l f t N) 35) := HA5.out.stay hU
  have HU6 : Hid (Up w.heap.size w w6) := HU5.out.stay hU
  have HS6 : Hid (Sh w6 T g n (setL (fun _ => 1) 4 0 N)) := HS5.out.stay hU
  have HR6 : Hid (SR w6 w3.heap.size v (sg (setL (fun _ => 1) 4 0 N) n)) := HR5.out.stay hU
  clear e2 hU HA5 HU5 HS5 HR5
  go_wp2_with fail
  refine (segs_any HS6.out (by omega)).mono ?_
  rintro e w7 ⟨v2, rfl, hR, hU⟩
  have c7 := same_any hR (HR6.out.stay hU.1) (by have := sg_len (setL (fun _ => 1) 4 0 N) n; omega)
  have HA7 : Hid (Bk w7 w.heap.size (ActC k l f t N) 35) := HA6.out.stay hU.1
  have HU7 : Hid (Up w.heap.size w w7) := HU6.out.stay hU.1
  have HS7 : Hid (Sh w7 T g n (setL (fun _ => 1) 4 0 N)) := HS6.out.stay hU.1
  clear hR hU HA6 HU6 HS6 HR6
  go_wp2_with fail
  refine c7.mono ?_
  rintro e w8 ⟨rfl, hU⟩
  have HA8 : Hid (Bk w8 w.heap.size (ActC k l f t N) 35) := HA7.out.stay hU.1
  have HU8 : Hid (Up w.heap.size w w8) := HU7.out.stay hU.1
  have HS8 : Hid (Sh w8 T g n (setL (fun _ => 1) 4 0 N)) := HS7.out.stay hU.1
  clear c7 hU HA7 HU7 HS7
  go_wp2_with fail
  refine (slay_any HS8.out HS8.out (by omega) (by omega) 1 (by omega) (by omega)).mono ?_
  rintro e w9 ⟨rfl, hS, hG, _⟩
  have HA9 : Hid (Bk w9 w.heap.size (ActC k l f t N) 35) := HA8.out.grown hG HN.out.2
  have HU9 : Hid (Up w.heap.size w w9) := HU8.out.grown hG (fun k hk => by cases hk; exact HN.out.1)
  have HS9 : Hid (Sh w9 T g n (wantN N)) := hS.congr fun i hi => nil_lab N n i hi
  clear hS hG HA8 HU8 HS8
  go_wp2_with fail
  refine (rall_any n (by omega) 1 w9).mono ?_
  rintro e w10 ⟨gw, rfl, hgw, hL, hU⟩
  have HA10 : Hid (Bk w10 w.heap.size (ActC k l f t N) 35) := HA9.out.stay hU.1
  have HU10 : Hid (Up w.heap.size w w10) := HU9.out.stay hU.1
  have HS10 : Hid (Sh w10 T g n (wantN N)) := HS9.out.stay hU.1
  have HL10 : Hid (LR w10 gw n (fun _ => 1)) := hL
  have HM : Hid (w.heap.size ≤ gw ∧ some w.heap.size ≠ some gw ∧ some T ≠ some gw ∧ some g ≠ some gw) := by
    have h1 := HA9.out.lt
    have h2 := HS9.out.lt
    have h3 := HS9.out.row.lt
    exact ⟨by omega, fun e => by cases e; omega, fun e => by cases e; omega, fun e => by cases e; omega⟩
  clear hgw hL hU HA9 HU9 HS9
  go_wp2
  go_loopg [54] n (fun q iv wr => ∃ i : Nat, i ≤ n ∧ q = n - i ∧ iv = .int .i64 i ∧ Hid (LR wr gw n (fun j => if j < i ∧ j < N + 1 then 4 else 1)) ∧ Hid (w10.grownBy wr (some gw)))
  case atStart => exact ⟨0, Nat.zero_le _, rfl, rfl, HL10.out.congr fun j _ => by rw [if_neg (by omega)], World.grownBy.refl _ _⟩
  case round =>
    obtain ⟨i, hi, hq, rfl, HL, HG⟩ := hrel
    have hA := HA10.out.grown HG.out HM.out.2.1
    by_cases hlt : i < n
    · have z1 : (i : Int) < (n : Int) := by omega
      have z2 : (0 : Int) ≤ (i : Int) := by omega
      have e4 := hA.cell 4 rfl
      have hc := HL.out.cell hlt
      have hf := HL.out.frozen i
      clear hA
      by_cases h1 : i < N + 1
      · have y1 : (i : Int) < (N : Int) + 1 := by omega
        go_wp2
        go_roundg (n - (i + 1))
        case measure => omega
        case rel =>
          refine ⟨i + 1, by omega, rfl, by go_num, (HL.out.set i 4).congr fun j _ => ?_, grown_set HG.out i _⟩
          unfold setN
          by_cases e : j = i
          · rw [if_pos e, if_pos (by omega)]
          · rw [if_neg e]
            dsimp only
            by_cases e2 : j < i ∧ j < N + 1
            · rw [if_pos e2, if_pos (by omega)]
            · rw [if_neg e2, if_neg (by omega)]
      · have y1 : ¬ (i : Int) < (N : Int) + 1 := by omega
        go_wp2
        go_roundg (n - (i + 1))
        case measure => omega
        case rel =>
          refine ⟨i + 1, by omega, rfl, by go_num, HL.out.congr fun j _ => ?_, HG.out⟩
          by_cases e2 : j < i ∧ j < N + 1
          · rw [if_pos e2, if_pos (by omega)]
          · rw [if_neg e2, if_neg (by omega)]
    · obtain rfl : i = n := by omega
      have z1 : ¬ (i : Int) < (i : Int) := by omega
      have e4 := hA.cell 4 rfl
      have key : ∀ w11, LR w11 gw i (wantN N) → w10.grownBy w11 (some gw) → Hid (Sh w11 T g i (wantN N) ∧ LR w11 gw i (wantN N) ∧ Up w.heap.size w w11 ∧ Bk w11 w.heap.size (ActC k l f t N) 35) := fun w11 h1 h2 =>
        ⟨HS10.out.grown h2 HM.out.2.2.1 HM.out.2.2.2, h1, HU10.out.grown h2 (fun k hk => by cases hk; exact HM.out.1), HA10.out.grown h2 HM.out.2.1⟩
      clear hA
      rcases Nat.eq_zero_or_pos i with h0 | h0
      · subst h0
        have HK := key wr (HL.out.congr fun j hj => by omega) HG.out
        clear key HL
        go_wp2_with fail
        refine (segs_any HK.out.1 (by omega)).mono ?_
        rintro e w12 ⟨v3, rfl, hR, hU⟩
        have c12 := rsegs_any (HK.out.2.1.stay hU.1) (by omega)
        have HR12 : Hid (SR w12 _ v3 _) := hR
        have HU12 : Hid (Up w.heap.size w w12) := HK.out.2.2.1.stay hU.1
        have HA12 : Hid (Bk w12 w.heap.size (ActC k l f t N) 35) := HK.out.2.2.2.stay hU.1
        clear hR hU HK
        go_wp2_with fail
        refine c12.mono ?_
        rintro e w13 ⟨v4, rfl, hR, hU⟩
        have c13 := same_any (HR12.out.stay hU.1) hR (by have := sg_len (wantN N) 0; omega)
        have HU13 : Hid (Up w.heap.size w w13) := HU12.out.stay hU.1
        have HA13 : Hid (Bk w13 w.heap.size (ActC k l f t N) 35) := HA12.out.stay hU.1
        clear hR hU HU12 HR12 HA12 c12
        go_wp2_with fail
        refine c13.mono ?_
        rintro e w14 ⟨rfl, hU⟩
        have HU14 : Hid (Up w.heap.size w w14) := HU13.out.stay hU.1
        have e2 := (HA13.out.stay hU.1).cell 2 rfl
        clear hU c13 HU13 HA13
        go_wp2_with fail
        refine (len_nil w14).mono ?_
        rintro e w15 ⟨rfl, h15⟩
        subst w15
        go_wp2_with fail
        refine (at_nil f w14).mono ?_
        rintro e w15 ⟨rfl, h15⟩
        subst w15
        go_wp2_with fail
        refine (segs_nil w14).mono ?_
        rintro e w15 ⟨rfl, h15⟩
        subst w15
        go_wp2
        go_ret
        exact ⟨rfl, HU14.out.1⟩
      · have y0 : (0 : Int) < (i : Int) := by omega
        rcases Nat.eq_zero_or_pos N with g0 | g0
        · subst g0
          have hc := HL.out.cell h0
          have hf := HL.out.frozen 0
          have HK := key (wr.setCell ⟨gw, 0, none⟩ (.int .u8 1)) ((HL.out.set 0 1).congr fun j hj => by
            unfold setN wantN
            by_cases e : j = 0
            · rw [if_pos e, if_neg (by omega)]
            · rw [if_neg e]
              dsimp only
              rw [if_neg (by omega), if_neg (by omega)]) (grown_set HG.out 0 _)
          clear key HL
          go_wp2_with fail
          refine (segs_any HK.out.1 (by omega)).mono ?_
          rintro e w12 ⟨v3, rfl, hR, hU⟩
          have c12 := rsegs_any (HK.out.2.1.stay hU.1) (by omega)
          have HR12 : Hid (SR w12 _ v3 _) := hR
          have HU12 : Hid (Up w.heap.size w w12) := HK.out.2.2.1.stay hU.1
          have HA12 : Hid (Bk w12 w.heap.size (ActC k l f t 0) 35) := HK.out.2.2.2.stay hU.1
          clear hR hU HK
          go_wp2_with fail
          refine c12.mono ?_
          rintro e w13 ⟨v4, rfl, hR, hU⟩
          have c13 := same_any (HR12.out.stay hU.1) hR (by have := sg_len (wantN 0) i; omega)
          have HU13 : Hid (Up w.heap.size w w13) := HU12.out.stay hU.1
          have HA13 : Hid (Bk w13 w.heap.size (ActC k l f t 0) 35) := HA12.out.stay hU.1
          clear hR hU HU12 HR12 HA12 c12
          go_wp2_with fail
          refine c13.mono ?_
          rintro e w14 ⟨rfl, hU⟩
          have HU14 : Hid (Up w.heap.size w w14) := HU13.out.stay hU.1
          have e2 := (HA13.out.stay hU.1).cell 2 rfl
          clear hU c13 HU13 HA13
          go_wp2_with fail
          refine (len_nil w14).mono ?_
          rintro e w15 ⟨rfl, h15⟩
          subst w15
          go_wp2_with fail
          refine (at_nil f w14).mono ?_
          rintro e w15 ⟨rfl, h15⟩
          subst w15
          go_wp2_with fail
          refine (segs_nil w14).mono ?_
          rintro e w15 ⟨rfl, h15⟩
          subst w15
          go_wp2
          go_ret
          exact ⟨rfl, HU14.out.1⟩
        · have y1 : ¬ ((N : Int) = 0) := by omega
          have y2 : ((N : Int) == 0) = false := by simpa using y1
          have HK := key wr (HL.out.congr fun j hj => by
            unfold wantN
            by_cases e : j < i ∧ j < N + 1
            · rw [if_pos e, if_pos (by omega)]
            · rw [if_neg e, if_neg (by omega)]) HG.out
          clear key HL
          go_wp2_with fail
          refine (segs_any HK.out.1 (by omega)).mono ?_
          rintro e w12 ⟨v3, rfl, hR, hU⟩
          have c12 := rsegs_any (HK.out.2.1.stay hU.1) (by omega)
          have HR12 : Hid (SR w12 _ v3 _) := hR
          have HU12 : Hid (Up w.heap.size w w12) := HK.out.2.2.1.stay hU.1
          have HA12 : Hid (Bk w12 w.heap.size (ActC k l f t N) 35) := HK.out.2.2.2.stay hU.1
          clear hR hU HK
          go_wp2_with fail
          refine c12.mono ?_
          rintro e w13 ⟨v4, rfl, hR, hU⟩
          have c13 := same_any (HR12.out.stay hU.1) hR (by have := sg_len (wantN N) i; omega)
          have HU13 : Hid (Up w.heap.size w w13) := HU12.out.stay hU.1
          have HA13 : Hid (Bk w13 w.heap.size (ActC k l f t N) 35) := HA12.out.stay hU.1
          clear hR hU HU12 HR12 HA12 c12
          go_wp2_with fail
          refine c13.mono ?_
          rintro e w14 ⟨rfl, hU⟩
          have HU14 : Hid (Up w.heap.size w w14) := HU13.out.stay hU.1
          have e2 := (HA13.out.stay hU.1).cell 2 rfl
          clear hU c13 HU13 HA13
          go_wp2_with fail
          refine (len_nil w14).mono ?_
          rintro e w15 ⟨rfl, h15⟩
          subst w15
          go_wp2_with fail
          refine (at_nil f w14).mono ?_
          rintro e w15 ⟨rfl, h15⟩
          subst w15
          go_wp2_with fail
          refine (segs_nil w14).mono ?_
          rintro e w15 ⟨rfl, h15⟩
          subst w15
          go_wp2
          go_ret
          exact ⟨rfl, HU14.out.1⟩
end Go.Proofs.Ytfefdcolmalgjaa
