/- MarkPlain. -/
import Derived.Test.YtodjfeheagnnpaaDoormStb
import Derived.Test.YtodjfeheagnnpaaDoormPlnP
namespace Go.Proofs.YtodjfeheagnnpaaDoor
set_option linter.unusedVariables false
open Go.RowKit Go.ChangeShapes
def plT : List (List Int) := [[97], [119, 111, 114, 100], [49], [32, 120], [44, 32], [46, 10], [33, 10, 10], [42, 32], [35, 32], [40], [41], [38, 97, 109, 112, 59], [13, 10], [195, 169], [39]]
/-- Bytes that begin nothing. -/
def PI (B : List Int) : Prop := Byt B ∧ (∀ x ∈ B, plB x = true) ∧ spL B 0 = true ∧ spT B 0 ≤ 1
def plOk (p : List Int) : Bool := p.all (fun x => decide (0 ≤ x) && decide (x < 256) && plB x) && spL p 1 && decide (spT p 0 ≤ 1) && decide (spT p 1 ≤ 1) && decide (p.length ≤ 5)
theorem PI.app {B p : List Int} (h : PI B) (hp : plOk p = true) : PI (B ++ p) := by
  unfold plOk at hp
  simp only [Bool.and_eq_true, List.all_eq_true, decide_eq_true_eq] at hp
  obtain ⟨⟨⟨⟨h1, h2⟩, h3⟩, h4⟩, h5⟩ := hp
  obtain ⟨b1, b2, b3, b4⟩ := h
  refine ⟨fun x hx => ?_, fun x hx => ?_, ?_, ?_⟩
  · rcases List.mem_append.1 hx with h | h
    · exact b1 x h
    · exact (h1 x h).1
  · rcases List.mem_append.1 hx with h | h
    · exact b2 x h
    · exact (h1 x h).2
  · rw [spL_app, b3, spL_less p 1 _ b4 h2]; rfl
  · rw [spT_app]
    rcases (show spT B 0 = 0 ∨ spT B 0 = 1 by omega) with e | e
    · rw [e]; exact h3
    · rw [e]; exact h4
theorem plT_ok : ∀ r, r < 15 → ∃ t, plT[r]? = some t ∧ plOk t = true := by decide
/-- All of it is prose. -/
theorem plain_mk {B : List Int} (h : PI B) : mkA (cL ([122] ++ B)) ([122] ++ B).length = fun _ => 1 := by
  obtain ⟨b1, b2, b3, b4⟩ := h
  have hb : Byt ([122] ++ B) := fun x hx => by
    rcases List.mem_append.1 hx with h | h
    · rw [List.mem_singleton] at h; subst h; decide
    · exact b1 x h
  have hp : Pl (cL ([122] ++ B)) := pl_list fun x hx => by
    rcases List.mem_append.1 hx with h | h
    · rw [List.mem_singleton] at h; subst h; rfl
    · exact b2 x h
  have h3 : N3 (cL ([122] ++ B)) := sp_n3 _ (by rw [spL_app]; exact b3)
  have hf : frP (cL ([122] ++ B)) ([122] ++ B).length = 0 := by
    exact fr_none (by simp) (by show (122 : Int) ≠ 45; decide)
  unfold mkA
  rw [hf, mk_plain (cL_ch hb) hp h3 _ _ 0 true (Nat.le_refl _)]
  funext i
  exact setL_none _ 4 0 _ (by simp) i
set_option maxRecDepth 100000 in
set_option maxHeartbeats 1000000 in
theorem mplain_law {w : World} (hG : GlM w) {la : Option Addr} {ln lcap : Nat} {lc : Nat → Int} (hlC : Ch lc ln) (hl : BC w la ln lc) (hln : ln ≤ maxLen) :
    Calls Tryd.prog 7 #[.slice la ln lcap] w fun ev w' => ev = .returned (.bool true) ∧ Below w.heap.size w w' := by
  have ca := mawake_any w hG
  have HH : Hid (GlM w ∧ Ch lc ln ∧ BC w la ln lc) := ⟨hG, hlC, hl⟩
  have hml : maxLen ≤ 9223372036854775807 := by unfold maxLen; omega
  clear hG hlC hl
  go_enter Tryd.func7, Tryd.ntmps7
  go_wp2_with fail
  refine ca.mono ?_
  rintro e w1 ⟨rfl, hb1⟩
  have HU1 : Hid (Up w.heap.size w w1) := ⟨hb1, hb1.size⟩
  clear ca hb1
  go_wp2
  go_loopg [3, 13] ln (fun q sv iv wr => ∃ (i : Nat) (S : ByteArray), i ≤ ln ∧ q = ln - i ∧ iv = .int .i64 i ∧ sv = .string S ∧ S.size ≤ 5 * min i 200 ∧ Hid (∃ B, S = strOfNums B ∧ PI B) ∧ Hid (Up w.heap.size w wr))
  case atStart => exact ⟨0, _, Nat.zero_le _, rfl, rfl, rfl, Nat.zero_le _, ⟨[], rfl, fun x hx => (by cases hx), fun x hx => (by cases hx), rfl, Nat.zero_le _⟩, HU1⟩
  case round =>
    obtain ⟨i, S, hi, hq, rfl, rfl, hS, HB, HU⟩ := hrel
    have hu := HU.out.2
    by_cases hlt : i < ln
    · have z1 : (i : Int) < (ln : Int) := by omega
      have z2 : (0 : Int) ≤ (i : Int) := by omega
      obtain ⟨b, off, rfl, hc⟩ := HH.out.2.2 i hlt
      have hcw := cell_stay hc HU.out.1
      have hci := HH.out.2.1.1 i hlt
      obtain ⟨X, hX⟩ : ∃ X : Nat, lc i = (X : Int) := ⟨(lc i).toNat, by omega⟩
      rw [hX] at hcw
      clear hc hX hci
      by_cases h9 : i < 200
      · have z3 : (i : Int) < 200 := by omega
        obtain ⟨r, hr⟩ : ∃ r, X % 15 = r := ⟨_, rfl⟩
        have hr15 : r < 15 := by rw [← hr]; exact Nat.mod_lt _ (by decide)
        have hmd : Int.tmod (X : Int) 15 = (r : Int) := by rw [← hr]; exact nat_mod X 15
        obtain ⟨t, ht, htok⟩ := plT_ok r hr15
        obtain ⟨Nm, hNm⟩ : ∃ Nm, strOfNums t = Nm := ⟨_, rfl⟩
        have hNs : Nm.size ≤ 5 := by
          rw [← hNm, strOfNums_size]
          unfold plOk at htok
          simp only [Bool.and_eq_true, decide_eq_true_eq] at htok
          exact htok.2
        obtain ⟨W, hW⟩ : ∃ W, wr.alloc (.cells #[.string ⟨#[97]⟩, .string ⟨#[119, 111, 114, 100]⟩, .string ⟨#[49]⟩, .string ⟨#[32, 120]⟩, .string ⟨#[44, 32]⟩, .string ⟨#[46, 10]⟩, .string ⟨#[33, 10, 10]⟩, .string ⟨#[42, 32]⟩, .string ⟨#[35, 32]⟩, .string ⟨#[40]⟩, .string ⟨#[41]⟩, .string ⟨#[38, 97, 109, 112, 59]⟩, .string ⟨#[13, 10]⟩, .string ⟨#[195, 169]⟩, .string ⟨#[39]⟩] 9) = W := ⟨_, rfl⟩
        have hbW : Below wr.heap.size wr W := by rw [← hW]; exact below_alloc wr _
        have hPS : PS W wr.heap.size plT := by rw [← hW]; exact lit_ps wr plT
        have y1 : W.cell? ⟨wr.heap.size, r, none⟩ = some (.string Nm) := by rw [← hNm]; exact hPS r t ht
        have HUW : Hid (Up w.heap.size w W) := HU.out.stay hbW
        have HBN : Hid (∃ B, S ++ Nm = strOfNums B ∧ PI B) := by
          obtain ⟨B, e, hP⟩ := HB.out
          exact ⟨B ++ t, by rw [nums_app, ← e, hNm], hP.app htok⟩
        have hsz : (S ++ Nm).size ≤ 5 * min (i + 1) 200 := by rw [ByteArray.size_append]; omega
        have q1 : ¬ 9223372036854775807 < S.size + Nm.size := by omega
        have z5 : (0 : Int) ≤ (r : Int) := by omega
        have z6 : (r : Int) < 15 := by omega
        clear ht htok hNm hbW hPS hr HB
        go_wp2
        go_roundg (ln - (i + 1))
        case measure => omega
        case rel => exact ⟨i + 1, S ++ Nm, by omega, rfl, by go_num, rfl, hsz, HBN, HUW⟩
      · have z3 : ¬ (i : Int) < 200 := by omega
        go_wp2
        go_roundg (ln - (i + 1))
        case measure => omega
        case rel => exact ⟨i + 1, S, by omega, rfl, by go_num, rfl, by omega, HB, HU⟩
    · obtain rfl : i = ln := by omega
      have z1 : ¬ (i : Int) < (i : Int) := by omega
      obtain ⟨B, hB, hP⟩ := HB.out
      have hBy : Byt ([122] ++ B) := fun x hx => by
        rcases List.mem_append.1 hx with h | h
        · rw [List.mem_singleton] at h; subst h; decide
        · exact hP.1 x h
      have hs1 : (⟨#[122]⟩ ++ S : ByteArray) = strOfNums ([122] ++ B) := by rw [nums_app, ← hB]; rfl
      have hl1 : ([122] ++ B).length = S.size + 1 := by rw [hB, strOfNums_size]; simp
      have q1 : ¬ 9223372036854775807 < 1 + S.size := by omega
      have hcv := Lib.run_convert_string_bytes (P := Tryd.prog) wr 9 22 5 (⟨#[122]⟩ ++ S) Tryd.underlying9 Tryd.underlying22 Tryd.underlying5
      have hgc := grownCap_ge wr (S.size + 1) 0 5
      have hgm := grownCap_le_maxLen wr (S.size + 1) 0 5 (by unfold maxLen; omega)
      have hbc := conv_cl (w := wr) hBy
      have hbw := conv_below wr (strOfNums ([122] ++ B))
      rw [show (⟨#[122]⟩ ++ S : ByteArray).size = S.size + 1 by rw [hs1, strOfNums_size, hl1], hs1] at hcv
      rw [hl1] at hbc
      generalize Lib.bytesWorld wr 5 (strOfNums ([122] ++ B)) = V at hcv hbc hbw
      generalize grownCap wr (S.size + 1) 0 5 = gc at hcv hgc hgm
      have hUV : Up w.heap.size w V := HU.out.stay hbw
      have cx := mlex_any (cap := gc) (by rw [← hl1]; exact cL_ch hBy) hbc (by omega) (by omega) hgc (by omega) (HH.out.1.stay hUV.1) (fun e _ => an_list (fun x hx => by
        rcases List.mem_append.1 hx with h | h
        · rw [List.mem_singleton] at h; subst h; decide
        · exact (plB_ne (hP.2.1 x h)).2.1) e)
      have hmk := plain_mk hP
      rw [hl1] at hmk
      unfold MlP at cx
      rw [hmk] at cx
      have HUV : Hid (Up w.heap.size w V) := hUV
      obtain ⟨m, hm⟩ : ∃ m, S.size + 1 = m := ⟨_, rfl⟩
      rw [← hs1] at hcv
      rw [hm] at hcv cx
      have hm9 : m ≤ 65536 := by omega
      have hm0 : 0 < m := by omega
      clear hB hP hBy hs1 hl1 hgc hgm hbc hbw hUV hmk hm HB
      go_wp2_with fail
      refine cx.mono ?_
      rintro e w2 ⟨T, g, rfl, hT, hg, hSh, hU2⟩
      have HU2 : Hid (Below w.heap.size w w2) := HUV.out.1.trans (hU2.1.mono HUV.out.2)
      have c3 := segs_any hSh hm9
      have hsg : sg (fun _ => (1 : Int)) m = [⟨1, 0, m⟩] := by
        have := sg_run (L := fun _ => (1 : Int)) (i := 0) rfl (m - 1) (fun _ _ _ => rfl)
        rw [show 0 + (m - 1 + 1) = m by omega, show m - 1 + 1 = m by omega] at this
        exact this
      rw [hsg] at c3
      clear cx hSh hU2 hT hg hcv hsg
      go_wp2_with fail
      refine c3.mono ?_
      rintro e w3 ⟨v, rfl, hR, hU⟩
      have HU3 : Hid (Below w.heap.size w w3) := HU2.out.trans (hU.1.mono HU2.out.size)
      obtain ⟨ad, c, rfl⟩ := hR.form
      obtain ⟨gp, rfl, -, -⟩ := own_at (n := 1) hR (by omega)
      obtain ⟨a1, -, -⟩ := hR.cells rfl (i := 0) (s := ⟨1, 0, m⟩) rfl
      dsimp only at a1
      clear c3 hR hU
      go_wp2
      go_ret
      exact ⟨rfl, HU3.out⟩
end Go.Proofs.YtodjfeheagnnpaaDoor
