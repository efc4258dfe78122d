/- html: small. -/
import Derived.Test.YtodjfeheagnnpaaDoorhBeg
import Derived.Laws.BytesArg
import Derived.Laws.OwnMore
import Derived.Deep.DeepCutAuto
namespace Go.Proofs.YtodjfeheagnnpaaDoor
set_option linter.unusedVariables false
open Go.RowKit Go.ChangeShapes
def u8L (l : List Int) : List Value := l.map fun x => .int .u8 x
theorem u8L_one (l : List Int) : ∀ u ∈ u8L l, u.oneCell' = true := by
  intro u hu
  obtain ⟨x, _, rfl⟩ := List.mem_map.1 hu
  rfl
theorem own_text {w : World} {base n : Nat} {v : Value} {l : List Int} (h : w.ownsRow base 5 1 v n (u8L l)) : (convert 22 9 v).run Tryd.prog w = .ok (.string (strOfNums l)) w := by
  have h0 := h
  obtain ⟨hl, ⟨rfl, rfl⟩ | ⟨g, cap, cur, rfl, hg, hh, h3⟩⟩ := h
  · obtain rfl : l = [] := by
      have : l.length = 0 := by simpa [u8L] using hl
      exact List.eq_nil_of_length_eq_zero this
    exact run_convert_bytes_nil w 22 5 Tryd.underlying22 Tryd.underlying5 0 0 9 Tryd.underlying9
  · have hln : l.length = n := by simpa [u8L] using hl
    refine run_convert_bytes_arg w 22 5 Tryd.underlying22 Tryd.underlying5 g 0 n cap l hln (fun i hi => ?_) 9 Tryd.underlying9
    rw [Nat.zero_add, h0.cellAt i (by omega)]
    simp [u8L, List.getD, List.getElem?_eq_getElem (show i < l.length by omega)]
/-- The first ones are small already. -/
def md (c : Nat → Int) (n k : Nat) : List Int := (List.range n).map fun j => if j < k then lw (c j) else c j
theorem md_len (c : Nat → Int) (n k : Nat) : (md c n k).length = n := by simp [md]
theorem md_zero (c : Nat → Int) (n : Nat) : md c n 0 = cl c n := by simp [md, cl]
theorem md_all (c : Nat → Int) (n : Nat) : md c n n = nm c 0 n := by
  unfold md nm
  rw [Nat.sub_zero]
  refine List.map_congr_left fun j hj => ?_
  rw [if_pos (List.mem_range.1 hj), Nat.zero_add]
theorem md_at (c : Nat → Int) (n k : Nat) (h : k < n) : (u8L (md c n k))[k]? = some (.int .u8 (c k)) := by simp [u8L, md, List.getElem?_range h]
theorem md_set (c : Nat → Int) (n k : Nat) (h : k < n) : (u8L (md c n k)).set k (.int .u8 (lw (c k))) = u8L (md c n (k + 1)) := by
  apply List.ext_getElem?
  intro j
  rw [List.getElem?_set]
  by_cases hj : k = j
  · subst hj
    simp [u8L, md, h]
  · rw [if_neg hj]
    by_cases hjn : j < n
    · simp only [u8L, md, List.getElem?_map, List.getElem?_range hjn, Option.map_some]
      by_cases h1 : j < k
      · rw [if_pos h1, if_pos (by omega)]
      · rw [if_neg h1, if_neg (by omega)]
    · rw [List.getElem?_eq_none (by simp [u8L, md_len]; omega), List.getElem?_eq_none (by simp [u8L, md_len]; omega)]
theorem md_same (c : Nat → Int) (n k : Nat) (h : grB (c k) = false) : md c n (k + 1) = md c n k := by
  unfold md
  refine List.map_congr_left fun j hj => ?_
  by_cases h1 : j = k
  · subst h1
    rw [if_pos (by omega), if_neg (by omega)]
    unfold lw
    rw [if_neg (by rw [h]; exact Bool.false_ne_true)]
  · by_cases h2 : j < k
    · rw [if_pos (by omega), if_pos h2]
    · rw [if_neg (by omega), if_neg h2]
theorem nm_shift (c : Nat → Int) (a e : Nat) : nm (fun j => c (a + j)) 0 (e - a) = nm c a e := by
  unfold nm
  simp
theorem small_sum {x : Int} (h : grB x = true) : IntKind.u8.wrap (IntKind.u8.wrap (x - 65) + 97) = lw x := by
  unfold lw
  rw [if_pos h]
  simp only [grB, Bool.and_eq_true, decide_eq_true_eq] at h
  simp only [IntKind.wrap, IntKind.bits, IntKind.signed]
  have h1 : (x - 65) % 256 = x - 65 := Int.emod_eq_of_lt (by omega) (by omega)
  have h2 : (x - 65 + 97) % 256 = x + 32 := by rw [Int.emod_eq_of_lt (by omega) (by omega)]; omega
  simp [h1, h2]
set_option maxRecDepth 100000 in
set_option maxHeartbeats 1000000 in
theorem small_any {w : World} {ad : Option Addr} {n cap : Nat} {c : Nat → Int} (h : BC w ad n c) (hn : n ≤ 1000000000) :
    Calls Tryd.prog 23 #[.slice ad n cap] w fun e w' => e = .returned (.string (strOfNums (nm c 0 n))) ∧ Below w.heap.size w w' := by
  have cs := clone_any (cap := cap) h hn
  obtain ⟨X, hX⟩ : ∃ X, strOfNums (nm c 0 n) = X := ⟨_, rfl⟩
  rw [hX]
  have HX : Hid (strOfNums (nm c 0 n) = X) := hX
  clear h hX
  go_enter Tryd.func23, Tryd.ntmps23
  go_wp2_with fail
  refine cs.mono ?_
  rintro e w1 ⟨v, rfl, hown, hb⟩
  have HU1 : Hid (Up w.heap.size w w1) := ⟨hb, hb.size⟩
  have hown' : w1.ownsRow w.heap.size 5 1 v n (u8L (md c n 0)) := by rw [md_zero]; exact hown
  clear cs hb hown
  obtain ⟨hl, ⟨rfl, rfl⟩ | ⟨g, cap', cur, rfl, hg, hh, hnc, hcm, h3⟩⟩ := (⟨hown'.1, hown'.2⟩ : _ ∧ _)
  · have ht := own_text hown'
    have hE : Hid (strOfNums (md c 0 0) = X) := by show _ = X; rw [md_all]; exact HX.out
    clear hown' hl
    obtain ⟨Y, hY⟩ : ∃ Y, strOfNums (md c 0 0) = Y := ⟨_, rfl⟩
    rw [hY] at ht
    go_wp2
    go_loopg [10] (0) (fun m i wr => i = .int .i64 0 ∧ wr = w1)
    case atStart => exact ⟨rfl, rfl⟩
    case round =>
      obtain ⟨rfl, rfl⟩ := hrel
      go_wp2
      go_ret
      exact ⟨by rw [← hE.out, hY]; rfl, HU1.out.1⟩
  · have HO : Hid (w1.ownsRow w.heap.size 5 1 (.slice (some ⟨g, 0, none⟩) n cap') n (u8L (md c n 0))) := hown'
    clear hown' hl hh hcm h3
    go_wp2
    go_loopg [10] n (fun m i wr => ∃ j : Nat, j ≤ n ∧ m = n - j ∧ i = .int .i64 j ∧ Hid (wr.ownsRow w.heap.size 5 1 (.slice (some ⟨g, 0, none⟩) n cap') n (u8L (md c n j))) ∧ Hid (Up w.heap.size w wr))
    case atStart => exact ⟨0, Nat.zero_le _, rfl, rfl, HO, HU1⟩
    case round =>
      obtain ⟨j, hj, hm, rfl, HO1, HU⟩ := hrel
      by_cases hlt : j < n
      · have z0 : (0 : Int) ≤ (j : Int) := by omega
        have z1 : (j : Int) < (n : Int) := by omega
        have hc : wr.cell? ⟨g, j, none⟩ = some (.int .u8 (c j)) := by rw [HO1.out.cellAt j (by omega)]; exact md_at c n j hlt
        have hfz : wr.frozen? ⟨g, j, none⟩ = false := HO1.out.frozenAt j
        have HS := HO1.out.stored j (.int .u8 (lw (c j)))
        rw [md_set c n j hlt] at HS
        have HS1 : Hid _ := HS.1
        have HS2 : Hid (Up w.heap.size w (wr.setCell ⟨g, j, none⟩ (.int .u8 (lw (c j))))) := HU.out.grown HS.2 (fun k hk => by cases hk; exact hg)
        have HM : Hid (grB (c j) = false → md c n (j + 1) = md c n j) := md_same c n j
        clear HS
        have cg := great_any (c j) wr
        obtain ⟨x, hx⟩ : ∃ x, c j = x := ⟨_, rfl⟩
        rw [hx] at hc cg HS1 HS2 HM
        cases hgb : grB x with
        | true =>
          rw [hgb] at cg
          have e1 := small_sum hgb
          obtain ⟨y, hy⟩ : ∃ y, lw x = y := ⟨_, rfl⟩
          rw [hy] at e1 HS1 HS2
          obtain ⟨u, hu⟩ : ∃ u, IntKind.u8.wrap (x - 65) = u := ⟨_, rfl⟩
          rw [hu] at e1
          clear hx hgb hy
          go_wp2_with fail
          refine cg.mono ?_
          rintro e w' ⟨rfl, hw⟩
          subst w'
          go_wp2
          go_roundg (n - (j + 1))
          case measure => omega
          case rel => exact ⟨j + 1, by omega, rfl, by go_num, HS1, HS2⟩
        | false =>
          rw [hgb] at cg
          have HO2 : Hid (wr.ownsRow w.heap.size 5 1 (.slice (some ⟨g, 0, none⟩) n cap') n (u8L (md c n (j + 1)))) := by
            show wr.ownsRow _ _ _ _ _ _
            rw [HM.out hgb]
            exact HO1.out
          clear hx hgb HS1 HS2 HM
          go_wp2_with fail
          refine cg.mono ?_
          rintro e w' ⟨rfl, hw⟩
          subst w'
          go_wp2
          go_roundg (n - (j + 1))
          case measure => omega
          case rel => exact ⟨j + 1, by omega, rfl, by go_num, HO2, HU⟩
      · obtain rfl : j = n := by omega
        have ht := own_text HO1.out
        rw [md_all, HX.out] at ht
        have z1 : ¬ (j : Int) < (j : Int) := by omega
        go_wp2
        go_ret
        exact ⟨rfl, HU.out.1⟩
end Go.Proofs.YtodjfeheagnnpaaDoor
