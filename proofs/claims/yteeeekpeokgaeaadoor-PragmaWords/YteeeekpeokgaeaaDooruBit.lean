/- Bits; the pieces of the law. -/
import Derived.Test.YteeeekpeokgaeaaDoorvApp
namespace Go.Proofs.YteeeekpeokgaeaaDoor
set_option linter.unusedVariables false
open Go.RowKit Go.ChangeShapes
/-- Pieces of a text. -/
def bit (ps : List (List Int)) (raw : Nat → Int) (rn : Nat) (x : Nat) : List Int := match ps[x]? with
  | some t => t
  | none => if 0 < rn then [raw (x % rn)] else []
def bts (ps : List (List Int)) (raw : Nat → Int) (rn : Nat) (l : List Nat) : List Int := (l.take 60).flatMap (bit ps raw rn)
theorem bit_len {ps : List (List Int)} (hp : ∀ t ∈ ps, t.length ≤ 100) (raw : Nat → Int) (rn x : Nat) : (bit ps raw rn x).length ≤ 100 := by
  unfold bit
  split
  · rename_i t h
    exact hp t (List.mem_of_getElem? h)
  · split <;> simp
theorem flat_len {α : Type} {f : α → List Int} {k : Nat} (h : ∀ x, (f x).length ≤ k) : ∀ l : List α, (l.flatMap f).length ≤ l.length * k
  | [] => by simp
  | x :: l => by
    rw [List.flatMap_cons, List.length_append, List.length_cons, Nat.add_mul]
    have := flat_len h l
    have := h x
    omega
theorem bts_len {ps : List (List Int)} (hp : ∀ t ∈ ps, t.length ≤ 100) (raw : Nat → Int) (rn : Nat) (l : List Nat) : (bts ps raw rn l).length ≤ 6000 := by
  unfold bts
  have h1 := flat_len (bit_len hp raw rn) (l.take 60)
  have h2 : (l.take 60).length ≤ 60 := by rw [List.length_take]; omega
  have h3 := Nat.mul_le_mul_right 100 h2
  omega
theorem bts_byt {ps : List (List Int)} (hp : ∀ t ∈ ps, Byt t) {raw : Nat → Int} {rn : Nat} (hr : Ch raw rn) (l : List Nat) : Byt (bts ps raw rn l) := fun y hy => by
  unfold bts at hy
  obtain ⟨x, _, hx⟩ := List.mem_flatMap.1 hy
  unfold bit at hx
  split at hx
  · rename_i t h
    exact hp t (List.mem_of_getElem? h) y hx
  · split at hx
    · rename_i h
      rw [List.mem_singleton] at hx
      rw [hx]
      exact hr.1 _ (Nat.mod_lt _ h)
    · cases hx
theorem PS.stay {w w' : World} {gp : Nat} {ps : List (List Int)} (h : PS w gp ps) (hb : Below w.heap.size w w') : PS w' gp ps := fun k t ht => cell_stay (h k t ht) hb
/-- Bytes as plain numbers. -/
def nl (c : Nat → Int) (n : Nat) : List Nat := (List.range n).map fun i => (c i).toNat
theorem nl_len (c : Nat → Int) (n : Nat) : (nl c n).length = n := by simp [nl]
theorem nl_at (c : Nat → Int) (n i : Nat) (h : i < n) : (nl c n)[i]? = some (c i).toNat := by simp [nl, List.getElem?_range h]
theorem take_more {α : Type} {l : List α} {i : Nat} {x : α} (h : l[i]? = some x) : l.take (i + 1) = l.take i ++ [x] := by rw [List.take_add_one, h]; rfl
set_option maxRecDepth 100000 in
set_option maxHeartbeats 1000000 in
theorem bits_any {w : World} {gp pc : Nat} {ps : List (List Int)} (hP : PS w gp ps) (hp : ∀ t ∈ ps, t.length ≤ 100) (hpb : ∀ t ∈ ps, Byt t) (hpn : ps.length ≤ 100)
    {la : Option Addr} {ln lcap : Nat} {lc : Nat → Int} (hlC : Ch lc ln) (hl : BC w la ln lc) (hln : ln ≤ maxLen) {ra : Option Addr} {rn rcap : Nat} {rc : Nat → Int} (hrC : Ch rc rn) (hr : BC w ra rn rc) (hrn : rn ≤ maxLen) :
    Calls Tryd.prog 9 #[.slice (some ⟨gp, 0, none⟩) ps.length pc, .slice la ln lcap, .slice ra rn rcap] w fun ev w' => ∃ v, ev = .returned v ∧ OB w' w.heap.size v (bts ps rc rn (nl lc ln)) ∧ Below w.heap.size w w' := by
  have HP : Hid (PS w gp ps ∧ (∀ t ∈ ps, t.length ≤ 100) ∧ (∀ t ∈ ps, Byt t)) := ⟨hP, hp, hpb⟩
  have HL : Hid (Ch lc ln ∧ BC w la ln lc) := ⟨hlC, hl⟩
  have HR : Hid (Ch rc rn ∧ BC w ra rn rc) := ⟨hrC, hr⟩
  have hml : maxLen ≤ 9223372036854775807 := by unfold maxLen; omega
  have hln2 : ln ≤ 9223372036854775807 := by omega
  have hrn2 : rn ≤ 9223372036854775807 := by omega
  obtain ⟨pn, hpn2⟩ : ∃ pn, ps.length = pn := ⟨_, rfl⟩
  have HPN : Hid (ps.length = pn) := hpn2
  rw [hpn2] at hpn ⊢
  obtain ⟨Z, hZ⟩ : ∃ Z, bts ps rc rn (nl lc ln) = Z := ⟨_, rfl⟩
  have HZ : Hid (((nl lc ln).take 60).flatMap (bit ps rc rn) = Z) := hZ
  rw [hZ]
  clear hP hp hpb hlC hl hrC hr hpn2 hZ hml hln hrn
  go_enter Tryd.func9, Tryd.ntmps9
  go_wp2
  go_loopg [7, 13] ln (fun q bv iv wr => ∃ (i : Nat) (bd : Option Addr) (bn bc : Nat), i ≤ ln ∧ i ≤ 60 ∧ q = ln - i ∧ iv = .int .i64 i ∧ bv = .slice bd bn bc ∧ bn ≤ i * 100 ∧ Hid (∃ l, l.length = bn ∧ OB wr w.heap.size (.slice bd bn bc) l ∧ l = ((nl lc ln).take i).flatMap (bit ps rc rn)) ∧ Hid (Up w.heap.size w wr))
  case atStart => exact ⟨0, none, 0, 0, Nat.zero_le _, by omega, rfl, rfl, rfl, Nat.zero_le _, ⟨[], rfl, OB.nil _ _, rfl⟩, Up.refl w⟩
  case round =>
    obtain ⟨i, bd, bn, bc, hi, hi60, hq, rfl, rfl, hbn, HB, HU⟩ := hrel
    by_cases hlt : i < ln
    · have z1 : (i : Int) < (ln : Int) := by omega
      have z2 : (0 : Int) ≤ (i : Int) := by omega
      obtain ⟨lb, lo, rfl, hc⟩ := HL.out.2 i hlt
      have hcw := cell_stay hc HU.out.1
      have hlc := HL.out.1.1 i hlt
      obtain ⟨X, hX⟩ : ∃ X : Nat, lc i = (X : Int) := ⟨(lc i).toNat, by omega⟩
      rw [hX] at hcw hlc
      have HNL : Hid ((nl lc ln).take (i + 1) = (nl lc ln).take i ++ [X]) := by
        show _ = _
        exact take_more (by rw [nl_at _ _ _ hlt, hX]; rfl)
      clear hc hX
      by_cases h60 : i < 60
      · have z3 : ¬ (60 : Int) ≤ (i : Int) := by omega
        obtain ⟨l, hl1, hl2, hl3⟩ := HB.out
        have HO : Hid (OB wr w.heap.size (.slice bd bn bc) l ∧ l.length = bn ∧ l = ((nl lc ln).take i).flatMap (bit ps rc rn)) := ⟨hl2, hl1, hl3⟩
        have hu := HU.out.2
        clear hl1 hl2 hl3 HB
        by_cases hxp : X < pn
        · have z4 : (X : Int) < (pn : Int) := by omega
          have z5 : (0 : Int) ≤ (X : Int) := by omega
          obtain ⟨t, ht⟩ : ∃ t, ps[X]? = some t := ⟨_, List.getElem?_eq_getElem (by rw [HPN.out]; exact hxp)⟩
          have hct := cell_stay (HP.out.1 X t ht) HU.out.1
          have htm := List.mem_of_getElem? ht
          have htl := HP.out.2.1 t htm
          have HTB : Hid (Byt t) := HP.out.2.2 t htm
          have HBT : Hid (bit ps rc rn X = t) := by show _ = _; unfold bit; rw [ht]
          obtain ⟨s, hs⟩ : ∃ s, strOfNums t = s := ⟨_, rfl⟩
          rw [hs] at hct
          have HSS : Hid (strOfNums t = s) := hs
          obtain ⟨tn, htn⟩ : ∃ tn, t.length = tn := ⟨_, rfl⟩
          have HTN : Hid (t.length = tn) := htn
          rw [htn] at htl
          clear ht htm hs htn
          go_wp2_with (at_builtin; refine app_str rfl _ _ rfl w.heap.size _ l rfl HO.out.1 s t HTB.out HSS.out rfl (by rw [HO.out.2.1, HTN.out]; omega) hu ?_)
          intro v1 w1 ho1 hg1
          obtain ⟨bd1, bc1, rfl, -⟩ := ho1.form
          have HO1 : Hid (OB w1 w.heap.size (.slice bd1 (l ++ t).length bc1) (l ++ t)) := ho1
          have HU1 : Hid (Up w.heap.size w w1) := HU.out.grown hg1 (own_base HO.out.1)
          obtain ⟨n1, hn1⟩ : ∃ n1, (l ++ t).length = n1 := ⟨_, rfl⟩
          have HN1 : Hid ((l ++ t).length = n1) := hn1
          have hn1b : n1 ≤ (i + 1) * 100 := by rw [← hn1, List.length_append, HO.out.2.1, HTN.out]; omega
          rw [hn1] at HO1 ⊢
          clear ho1 hg1 hn1
          go_wp2
          go_roundg (ln - (i + 1))
          case measure => omega
          case rel => exact ⟨i + 1, bd1, n1, bc1, by omega, by omega, rfl, by go_num, rfl, hn1b, ⟨l ++ t, HN1.out, HO1.out, by rw [HNL.out, List.flatMap_append, ← HO.out.2.2]; simp [HBT.out]⟩, HU1⟩
        · have z4 : ¬ (X : Int) < (pn : Int) := by omega
          by_cases hr0 : 0 < rn
          · have z6 : (0 : Int) < (rn : Int) := by omega
            have z7 : ¬ (rn : Int) = 0 := by omega
            have hmd := nat_mod X rn
            have hml := Nat.mod_lt X hr0
            have HBT : Hid (bit ps rc rn X = [rc (X % rn)]) := by
              show _ = _
              unfold bit
              rw [List.getElem?_eq_none (by rw [HPN.out]; omega)]
              dsimp only
              rw [if_pos hr0]
            obtain ⟨rb, ro, rfl, hcr⟩ := HR.out.2 (X % rn) hml
            have hcr2 := cell_stay hcr HU.out.1
            obtain ⟨y, hy⟩ : ∃ y, rc (X % rn) = y := ⟨_, rfl⟩
            obtain ⟨r, hr⟩ : ∃ r, X % rn = r := ⟨_, rfl⟩
            rw [hy, hr] at hcr2
            rw [hy] at HBT
            rw [hr] at hmd hml
            have z8 : (0 : Int) ≤ (r : Int) := by omega
            have z9 : (r : Int) < (rn : Int) := by omega
            clear hcr hy hr
            go_wp2_with (at_builtin; refine app_ob rfl _ _ rfl w.heap.size _ l rfl (HO.out.1.stay (below_alloc wr _)) (some ⟨wr.heap.size, 0, none⟩) 1 1 (cL [y]) rfl (one_bc wr y) (by rw [HO.out.2.1]; omega) (by simp; omega) ?_)
            intro v1 w1 ho1 hg1
            rw [cl_one] at ho1
            obtain ⟨bd1, bc1, rfl, -⟩ := ho1.form
            have HO1 : Hid (OB w1 w.heap.size (.slice bd1 (l ++ [y]).length bc1) (l ++ [y])) := ho1
            have HU1 : Hid (Up w.heap.size w w1) := (HU.out.alloc _).grown hg1 (own_base HO.out.1)
            obtain ⟨n1, hn1⟩ : ∃ n1, (l ++ [y]).length = n1 := ⟨_, rfl⟩
            have HN1 : Hid ((l ++ [y]).length = n1) := hn1
            have hn1b : n1 ≤ (i + 1) * 100 := by rw [← hn1, List.length_append, HO.out.2.1]; simp; omega
            rw [hn1] at HO1 ⊢
            clear ho1 hg1 hn1
            go_wp2
            go_roundg (ln - (i + 1))
            case measure => omega
            case rel => exact ⟨i + 1, bd1, n1, bc1, by omega, by omega, rfl, by go_num, rfl, hn1b, ⟨l ++ [y], HN1.out, HO1.out, by rw [HNL.out, List.flatMap_append, ← HO.out.2.2]; simp [HBT.out]⟩, HU1⟩
          · have z6 : ¬ (0 : Int) < (rn : Int) := by omega
            have HBT : Hid (bit ps rc rn X = []) := by
              show _ = _
              unfold bit
              rw [List.getElem?_eq_none (by rw [HPN.out]; omega)]
              dsimp only
              rw [if_neg hr0]
            go_wp2
            go_roundg (ln - (i + 1))
            case measure => omega
            case rel => exact ⟨i + 1, bd, bn, bc, by omega, by omega, rfl, by go_num, rfl, by omega, ⟨l, HO.out.2.1, HO.out.1, by rw [HNL.out, List.flatMap_append, ← HO.out.2.2]; simp [HBT.out]⟩, HU⟩
      · obtain rfl : i = 60 := by omega
        have z3 : (60 : Int) ≤ ((60 : Nat) : Int) := by omega
        obtain ⟨l, hl1, hl2, hl3⟩ := HB.out
        have HE : Hid (OB wr w.heap.size (.slice bd bn bc) Z) := by
          show OB _ _ _ _
          rw [← HZ.out, ← hl3]
          exact hl2
        clear HB hl1 hl2 hl3
        go_wp2
        go_ret
        exact ⟨_, rfl, HE.out, HU.out.1⟩
    · obtain rfl : i = ln := by omega
      have z1 : ¬ (i : Int) < (i : Int) := by omega
      obtain ⟨l, hl1, hl2, hl3⟩ := HB.out
      have HE : Hid (OB wr w.heap.size (.slice bd bn bc) Z) := by
        show OB _ _ _ _
        rw [← HZ.out, List.take_of_length_le (by rw [nl_len]; omega)]
        rw [List.take_of_length_le (by rw [nl_len]; omega)] at hl3
        rw [← hl3]
        exact hl2
      clear HB hl1 hl2 hl3
      go_wp2
      go_ret
      exact ⟨_, rfl, HE.out, HU.out.1⟩
theorem pslen {ps : List (List Int)} (h : ps.all (fun t => decide (t.length ≤ 100)) = true) : ∀ t ∈ ps, t.length ≤ 100 := fun t ht => of_decide_eq_true (List.all_eq_true.1 h t ht)
theorem psbyt {ps : List (List Int)} (h : ps.all (fun t => t.all (fun x => decide (0 ≤ x) && decide (x < 256))) = true) : ∀ t ∈ ps, Byt t := fun t ht => byt_lit t (List.all_eq_true.1 h t ht)
def psP : List (List Int) := [[97], [66], [99], [68], [195, 169], [195, 137], [39], [39, 39], [95], [49], [32], [45], [119, 111, 114, 100], [72, 84, 77, 76], [70, 105, 108, 101], [99, 97, 109, 101, 108, 67, 97, 115, 101], [195, 191], [195, 159], [206, 169, 206, 188], [255], [100, 111, 110, 39, 116], [38, 97, 109, 112, 59], [38, 35, 54, 54, 59], [73], [120, 39]]
end Go.Proofs.YteeeekpeokgaeaaDoor
