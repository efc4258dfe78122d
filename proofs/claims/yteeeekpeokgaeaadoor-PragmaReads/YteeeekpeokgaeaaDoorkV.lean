/- The reference's Lines; Same. -/
import Derived.Test.YteeeekpeokgaeaaDoorkKit
namespace Go.Proofs.YteeeekpeokgaeaaDoor.Lns
set_option linter.unusedVariables false
open Go.RowKit Go.ChangeShapes
theorem rlines_zero (ad : Option Addr) (cap : Nat) (w : World) :
    Calls Tryd.prog 20 #[.slice ad 0 cap] w fun e w' => e = .returned (.slice none 0 0) ∧ w' = w := by
  go_enter Tryd.func20, Tryd.ntmps20
  go_wp2
  go_loopg [3, 4, 5] (0) (fun g l f i wr => l = .slice none 0 0 ∧ f = .int .i64 0 ∧ i = .int .i64 0 ∧ wr = w)
  case atStart => exact ⟨rfl, rfl, rfl, rfl⟩
  case round =>
    obtain ⟨rfl, rfl, rfl, rfl⟩ := hrel
    go_wp2_with fail
    go_ret
    exact ⟨rfl, rfl⟩
set_option maxRecDepth 100000 in
set_option maxHeartbeats 2000000 in
theorem rlines_at (s : ByteArray) (b off cap : Nat) (w : World) (hn : s.size ≤ 40000) (hcap : s.size ≤ cap) (hb : By w b off s) :
    Calls Tryd.prog 20 #[.slice (some ⟨b, off, none⟩) s.size cap] w fun e w' => ∃ v, e = .returned v ∧ w'.ownsRow w.heap.size 9 1 v (nL s) (tcells (line s) (nL s)) ∧ Below w.heap.size w w' := by
  have HB : Hid (By w b off s) := hb
  clear hb
  obtain ⟨i0, hi, hz0, hz1, hz2⟩ := info_parts info9
  go_enter Tryd.func20, Tryd.ntmps20
  go_wp2
  go_loopg [3, 4, 5] (s.size) (fun g l f iv wr => ∃ i c : Nat, i ≤ s.size ∧ g = s.size - i ∧ iv = .int .i64 i ∧ f = .int .i64 (S s c) ∧ Hid (LAt s i c) ∧ Hid (wr.ownsRow w.heap.size 9 1 l c (tcells (line s) c)) ∧ Hid (Up w.heap.size w wr))
  case atStart => exact ⟨0, 0, Nat.zero_le _, rfl, rfl, by rw [S_zero]; rfl, LAt.zero s, ⟨rfl, Or.inl ⟨rfl, rfl⟩⟩, Up.refl w⟩
  case round =>
    obtain ⟨i, c, hin, hg, rfl, rfl, HL, HO, HU⟩ := hrel
    have hcl := Nat.le_trans HL.out.1 (nL_le s)
    by_cases hlt : i < s.size
    · have z0 : (0 : Int) ≤ (i : Int) := by omega
      have z1 : (i : Int) < (s.size : Int) := by omega
      have hbt := (HB.out.stay HU.out.1) i hlt
      by_cases h10 : bt s i = 10
      · obtain ⟨he, hl'⟩ := HL.out.newline hlt h10
        have hsc := HL.out.2.1
        have HL1 : Hid (LAt s (i + 1) (c + 1)) := hl'
        have hcv := str_of (bsl_sub (HB.out.stay HU.out.1) (S s c) (i + 1) (by omega) (by omega) (show i + 1 - S s c ≤ cap - S s c by omega))
        rw [show sub s (S s c) (i + 1) = line s c by unfold line; rw [he]] at hcv
        have HS1 : Hid (S s (c + 1) = i + 1) := he
        have HT : Hid (tcells (line s) (c + 1) = tcells (line s) c ++ [.string (line s c)]) := tcells_succ _ _
        unfold bt at h10
        rw [h10] at hbt
        clear he hl' HL h10
        generalize S s c = f at hsc hcv ⊢
        generalize line s c = tx at hcv HT ⊢
        have y1 : (0 : Int) ≤ (f : Int) := by omega
        have y2 : (f : Int) ≤ (i : Int) + 1 := by omega
        have y3 : (i : Int) + 1 ≤ (cap : Int) := by omega
        have y4 : f < cap := by omega
        go_wp2_with (at_builtin; refine wpList_append_own _ rfl _ _ 25 rfl w.heap.size 9 i0 _ 1 16 Tryd.underlying25 hi hz0 hz1 hz2 rfl (by decide) _ _ _ rfl (HO.out.alloc _) ⟨wr.heap.size, 0, none⟩ 1 1 [.string tx] rfl rfl (one_new _ _ _) (one_one _ rfl) (by unfold maxLen; omega) (by omega) (by have := HU.out.2; simp only [World.size_alloc]; omega) ?_)
        intro v' w2 hown2 hgr hnil
        have HO2 : Hid (w2.ownsRow w.heap.size 9 1 v' (c + 1) (tcells (line s) (c + 1))) := by
          show w2.ownsRow _ _ _ _ _ _
          rw [HT.out]; exact hown2
        have HU2 : Hid (Up w.heap.size w w2) := (HU.out.alloc _).grown hgr (own_base HO.out)
        clear hown2 hgr hnil HO HU hcv hbt HT
        go_wp2
        go_roundg (s.size - (i + 1))
        case measure => omega
        case rel => exact ⟨i + 1, c + 1, hlt, rfl, by go_num, by rw [HS1.out]; go_num, HL1, HO2, HU2⟩
      · have HL1 : Hid (LAt s (i + 1) c) := HL.out.other hlt h10
        unfold bt at h10
        have h10' : ¬ (((s.get! i).toNat : Nat) : Int) = 10 := by omega
        go_wp2
        go_roundg (s.size - (i + 1))
        case measure => omega
        case rel => exact ⟨i + 1, c, hlt, rfl, by go_num, rfl, HL1, HO, HU⟩
    · obtain rfl : i = s.size := by omega
      obtain ⟨hl1, hl2⟩ := HL.out.last
      by_cases hf : S s c < s.size
      · have hc1 := hl1 hf
        have hcv := str_of (bsl_sub (HB.out.stay HU.out.1) (S s c) s.size hf (Nat.le_refl _) (show s.size - S s c ≤ cap - S s c by omega))
        rw [show sub s (S s c) s.size = line s c by unfold line; rw [S_big (show nL s ≤ c + 1 by omega)]] at hcv
        have HT : Hid (tcells (line s) (nL s) = tcells (line s) c ++ [.string (line s c)]) := by
          show _ = _
          rw [← hc1]; exact tcells_succ _ _
        have HC1 : Hid (c + 1 = nL s) := hc1
        clear hl1 hl2 hc1
        generalize S s c = f at hf hcv ⊢
        generalize line s c = tx at hcv HT ⊢
        have y0 : (f : Int) < (s.size : Int) := by omega
        have y1 : (0 : Int) ≤ (f : Int) := by omega
        have y2 : (f : Int) ≤ (s.size : Int) := by omega
        have y4 : f < cap := by omega
        go_wp2_with (at_builtin; refine wpList_append_own _ rfl _ _ 25 rfl w.heap.size 9 i0 _ 1 16 Tryd.underlying25 hi hz0 hz1 hz2 rfl (by decide) _ _ _ rfl (HO.out.alloc _) ⟨wr.heap.size, 0, none⟩ 1 1 [.string tx] rfl rfl (one_new _ _ _) (one_one _ rfl) (by unfold maxLen; omega) (by omega) (by have := HU.out.2; simp only [World.size_alloc]; omega) ?_)
        intro v' w2 hown2 hgr hnil
        have HU2 : Hid (Up w.heap.size w w2) := (HU.out.alloc _).grown hgr (own_base HO.out)
        have HO2 : Hid (w2.ownsRow w.heap.size 9 1 v' (nL s) (tcells (line s) (nL s))) := by
          show w2.ownsRow _ _ _ _ _ _
          rw [HT.out, ← HC1.out]; exact hown2
        clear hown2 hgr hnil HO HU hcv
        go_wp2
        go_ret
        exact ⟨_, rfl, HO2.out, HU2.out.1⟩
      · have HC : Hid (c = nL s) := hl2 hf
        have y0 : ¬ ((S s c : Nat) : Int) < (s.size : Int) := by omega
        clear hl1 hl2
        generalize S s c = f at hf y0 ⊢
        go_wp2
        go_ret
        exact ⟨_, rfl, by rw [← HC.out]; exact HO.out, HU.out.1⟩

theorem rlines_any (s : ByteArray) (v : Value) (w : World) (hn : s.size ≤ 40000) (h : BSl w v s) :
    Calls Tryd.prog 20 #[v] w fun e w' => ∃ v, e = .returned v ∧ w'.ownsRow w.heap.size 9 1 v (nL s) (tcells (line s) (nL s)) ∧ Below w.heap.size w w' := by
  rcases h with ⟨ad, c, rfl, h⟩ | ⟨b, off, c, rfl, h1, h2, h⟩
  · refine (rlines_zero ad c w).mono ?_
    rintro e w' ⟨rfl, rfl⟩
    rw [nL_zero h]
    exact ⟨_, rfl, World.ownsRow_nil _ _ _ _, Below.refl _ _⟩
  · exact rlines_at s b off c w hn h2 h
/-- A slice of texts. -/
def TSl (w : World) (v : Value) (k : Nat) (F : Nat → ByteArray) : Prop := (∃ ad c, v = .slice ad 0 c ∧ k = 0) ∨ ∃ g c, v = .slice (some ⟨g, 0, none⟩) k c ∧ ∀ i, i < k → w.cell? ⟨g, i, none⟩ = some (.string (F i))
theorem TSl.stay {w w' : World} {v : Value} {k : Nat} {F : Nat → ByteArray} (h : TSl w v k F) (hb : Below w.heap.size w w') : TSl w' v k F := by
  rcases h with h | ⟨b, c, rfl, h⟩
  · exact Or.inl h
  · exact Or.inr ⟨b, c, rfl, fun j hj => cell_stay (h j hj) hb⟩
theorem TSl.form {w : World} {v : Value} {k : Nat} {F : Nat → ByteArray} (h : TSl w v k F) : ∃ ad c, v = .slice ad k c := by
  rcases h with ⟨ad, c, rfl, rfl⟩ | ⟨b, c, rfl, _⟩
  · exact ⟨ad, c, rfl⟩
  · exact ⟨_, c, rfl⟩
theorem tsl_own {w : World} {base k : Nat} {v : Value} {F : Nat → ByteArray} (h : w.ownsRow base 9 1 v k (tcells F k)) : TSl w v k F := by
  have h0 := h
  obtain ⟨hl, ⟨rfl, rfl⟩ | ⟨g, cap, cur, rfl, hg, hh, h3⟩⟩ := h
  · exact Or.inl ⟨none, 0, rfl, rfl⟩
  · exact Or.inr ⟨g, cap, rfl, fun i hi => by rw [h0.cellAt i (by omega)]; exact tcells_at F k i hi⟩
end Go.Proofs.YteeeekpeokgaeaaDoor.Lns
