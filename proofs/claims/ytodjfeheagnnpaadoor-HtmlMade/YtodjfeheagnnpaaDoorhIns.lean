/- html: inside. -/
import Derived.Test.YtodjfeheagnnpaaDoorhLay
import Derived.Test.YtodjfeheagnnpaaDoorhBhd
namespace Go.Proofs.YtodjfeheagnnpaaDoor
set_option linter.unusedVariables false
open Go.RowKit Go.ChangeShapes
def scB (l : List Int) : Bool := l == [115, 99, 114, 105, 112, 116] || l == [115, 116, 121, 108, 101]
def txB (l : List Int) : Bool := l == [116, 101, 120, 116, 97, 114, 101, 97] || l == [116, 105, 116, 108, 101]
/-- What stands behind a tag: where it ends, and its labels. -/
def inE (c : Nat → Int) (n : Nat) (t : Tg) : Nat := if t.cl = true then t.e else if scB t.nm = true ∨ txB t.nm = true then fs (shB t.nm c n) n t.e else t.e
def inL (L : Nat → Int) (c : Nat → Int) (n : Nat) (t : Tg) : Nat → Int := if t.cl = true then L else if scB t.nm = true then setL L 4 (t.e : Int) ((fs (shB t.nm c n) n t.e : Nat) : Int) else L
theorem sc_two {l : List Int} (hl : Byt l) : scB l = (((strOfNums l).toList == [115, 99, 114, 105, 112, 116]) || ((strOfNums l).toList == [115, 116, 121, 108, 101])) := by
  have h1 : ((strOfNums l).toList == [115, 99, 114, 105, 112, 116]) = (l == [115, 99, 114, 105, 112, 116]) := nums_is hl _ (byt_lit [115, 99, 114, 105, 112, 116] rfl)
  have h2 : ((strOfNums l).toList == [115, 116, 121, 108, 101]) = (l == [115, 116, 121, 108, 101]) := nums_is hl _ (byt_lit [115, 116, 121, 108, 101] rfl)
  unfold scB
  rw [h1, h2]
theorem tx_two {l : List Int} (hl : Byt l) : txB l = (((strOfNums l).toList == [116, 101, 120, 116, 97, 114, 101, 97]) || ((strOfNums l).toList == [116, 105, 116, 108, 101])) := by
  have h1 : ((strOfNums l).toList == [116, 101, 120, 116, 97, 114, 101, 97]) = (l == [116, 101, 120, 116, 97, 114, 101, 97]) := nums_is hl _ (byt_lit [116, 101, 120, 116, 97, 114, 101, 97] rfl)
  have h2 : ((strOfNums l).toList == [116, 105, 116, 108, 101]) = (l == [116, 105, 116, 108, 101]) := nums_is hl _ (byt_lit [116, 105, 116, 108, 101] rfl)
  unfold txB
  rw [h1, h2]
set_option maxRecDepth 100000 in
set_option maxHeartbeats 1000000 in
theorem inside_any {w : World} {b off n cap T g : Nat} {c L : Nat → Int} (hC : Ch c n) (h : BC w (some ⟨b, off, none⟩) n c) (hn : n ≤ 65536) (hcap : n ≤ cap) (hS : Sh w T g n L) (hbg : b ≠ g) (t : Tg) (pv : Value) (ht : t.e ≤ n) (htn : Byt t.nm) (ht0 : t.nm ≠ []) (ht9 : t.nm.length ≤ 1000000) :
    Calls Tryd.prog 52 #[.pointer (some ⟨T, 0, none⟩), .slice (some ⟨b, off, none⟩) n cap, .agg #[.int .i64 t.e, .string (strOfNums t.nm), .bool t.cl, pv]] w fun ev w' => ev = .returned (.int .i64 (inE c n t : Nat)) ∧ Sh w' T g n (inL L c n t) ∧ w.grownBy w' (some g) := by
  obtain ⟨e, l, cl, pr⟩ := t
  dsimp only at ht htn ht0 ht9 ⊢
  obtain ⟨W, hW⟩ : ∃ W, w.alloc (.cells #[.int .i64 e, .string (strOfNums l), .bool cl, pv] 31) = W := ⟨_, rfl⟩
  have hbW : Below w.heap.size w W := by rw [← hW]; exact below_alloc w _
  have hB0 : W.heap[w.heap.size]? = some (.cells #[.int .i64 e, .string (strOfNums l), .bool cl, pv] 31) := by rw [← hW]; exact heap_alloc_new _ _
  have HS : Hid (Sh W T g n L ∧ w.grownBy W (some g)) := ⟨hS.stay hbW, grown_of hbW _⟩
  obtain ⟨R, hR⟩ : ∃ R, inE c n ⟨e, l, cl, pr⟩ = R := ⟨_, rfl⟩
  obtain ⟨M, hM⟩ : ∃ M, inL L c n ⟨e, l, cl, pr⟩ = M := ⟨_, rfl⟩
  rw [hR, hM]
  unfold inE at hR
  unfold inL at hM
  dsimp only at hR hM
  cases cl with
  | true =>
    have HR : Hid (R = e ∧ M = L) := ⟨hR.symm, hM.symm⟩
    have y0 : W.cell? ⟨w.heap.size, 0, none⟩ = some (.int .i64 e) := by simp [World.cell?, hB0]
    have y2 : W.cell? ⟨w.heap.size, 2, none⟩ = some (.bool true) := by simp [World.cell?, hB0]
    clear hR hM hC h hbW hB0
    go_enter Tryd.func52, Tryd.ntmps52
    go_wp2
    go_ret
    exact ⟨by rw [HR.out.1]; rfl, by rw [HR.out.2]; exact HS.out.1, HS.out.2⟩
  | false =>
    rw [if_neg Bool.false_ne_true] at hR hM
    have ct := closing_any hC (h.stay hbW) (by omega) hcap e ht l htn ht0 ht9
    have hs := sc_two htn
    have hx := tx_two htn
    have hle := fs_le (shB l c n) ht
    obtain ⟨K, hK⟩ : ∃ K, fs (shB l c n) n e = K := ⟨_, rfl⟩
    rw [hK] at ct hR hM hle
    obtain ⟨X, hX⟩ : ∃ X, strOfNums l = X := ⟨_, rfl⟩
    rw [hX] at ct hs hx hW hB0 ⊢
    have y0 : W.cell? ⟨w.heap.size, 0, none⟩ = some (.int .i64 e) := by simp [World.cell?, hB0]
    have y1 : W.cell? ⟨w.heap.size, 1, none⟩ = some (.string X) := by simp [World.cell?, hB0]
    have y2 : W.cell? ⟨w.heap.size, 2, none⟩ = some (.bool false) := by simp [World.cell?, hB0]
    have HW0 : Hid (W.heap[w.heap.size]? = some (.cells #[.int .i64 e, .string X, .bool false, pv] 31)) := hB0
    have HLT : Hid (T < w.heap.size ∧ g < w.heap.size) := ⟨hS.lt, hS.row.lt⟩
    clear hK hX hC h hbW hB0 hS htn
    by_cases s1 : X.toList = [115, 99, 114, 105, 112, 116]
    · have hsc : scB l = true := by rw [hs, s1]; rfl
      have HR : Hid (R = K ∧ M = setL L 4 (e : Int) (K : Int)) := by
        rw [if_pos (Or.inl hsc)] at hR
        rw [if_pos hsc] at hM
        exact ⟨hR.symm, hM.symm⟩
      clear hsc hs hx hR hM
      go_enter Tryd.func52, Tryd.ntmps52
      go_wp2_with fail
      refine ct.mono ?_
      rintro ev w1 ⟨rfl, hb1⟩
      have h1 := blk_stay HW0.out hb1
      have y3 : w1.cell? ⟨w.heap.size, 0, none⟩ = some (.int .i64 e) := by simp [World.cell?, h1]
      have HS1 : Hid (Sh w1 T g n L ∧ w.grownBy w1 (some g)) := ⟨HS.out.1.stay hb1, stay_grown HS.out.2 hb1⟩
      have cs := set_any HS1.out.1 hn 4 (e : Int) (K : Int)
      clear ct h1 hb1 hW y0 y1 y2
      go_wp2_with fail
      refine cs.mono ?_
      rintro ev w2 ⟨rfl, h21, h22, -⟩
      have HE : Hid (Sh w2 T g n (setL L 4 (e : Int) (K : Int)) ∧ w.grownBy w2 (some g)) := ⟨h21, grown_trans HS1.out.2 h22⟩
      clear cs h21 h22
      go_wp2
      go_ret
      exact ⟨by rw [HR.out.1]; rfl, by rw [HR.out.2]; exact HE.out.1, HE.out.2⟩
    · by_cases s2 : X.toList = [115, 116, 121, 108, 101]
      · have hsc : scB l = true := by rw [hs, s2]; rfl
        have HR : Hid (R = K ∧ M = setL L 4 (e : Int) (K : Int)) := by
          rw [if_pos (Or.inl hsc)] at hR
          rw [if_pos hsc] at hM
          exact ⟨hR.symm, hM.symm⟩
        clear hsc hs hx hR hM
        go_enter Tryd.func52, Tryd.ntmps52
        go_wp2_with fail
        refine ct.mono ?_
        rintro ev w1 ⟨rfl, hb1⟩
        have h1 := blk_stay HW0.out hb1
        have y3 : w1.cell? ⟨w.heap.size, 0, none⟩ = some (.int .i64 e) := by simp [World.cell?, h1]
        have HS1 : Hid (Sh w1 T g n L ∧ w.grownBy w1 (some g)) := ⟨HS.out.1.stay hb1, stay_grown HS.out.2 hb1⟩
        have cs := set_any HS1.out.1 hn 4 (e : Int) (K : Int)
        clear ct h1 hb1 hW y0 y1 y2
        go_wp2_with fail
        refine cs.mono ?_
        rintro ev w2 ⟨rfl, h21, h22, -⟩
        have HE : Hid (Sh w2 T g n (setL L 4 (e : Int) (K : Int)) ∧ w.grownBy w2 (some g)) := ⟨h21, grown_trans HS1.out.2 h22⟩
        clear cs h21 h22
        go_wp2
        go_ret
        exact ⟨by rw [HR.out.1]; rfl, by rw [HR.out.2]; exact HE.out.1, HE.out.2⟩
      · have hsc : ¬ scB l = true := by rw [hs]; simp [s1, s2]
        rw [if_neg hsc] at hM
        by_cases s3 : X.toList = [116, 101, 120, 116, 97, 114, 101, 97]
        · have htx : txB l = true := by rw [hx, s3]; rfl
          have HR : Hid (R = K ∧ M = L) := by
            rw [if_pos (Or.inr htx)] at hR
            exact ⟨hR.symm, hM.symm⟩
          clear hsc htx hs hx hR hM
          go_enter Tryd.func52, Tryd.ntmps52
          go_wp2_with fail
          refine ct.mono ?_
          rintro ev w1 ⟨rfl, hb1⟩
          have HS1 : Hid (Sh w1 T g n L ∧ w.grownBy w1 (some g)) := ⟨HS.out.1.stay hb1, stay_grown HS.out.2 hb1⟩
          clear ct hb1 hW y0 y1 y2
          go_wp2
          go_ret
          exact ⟨by rw [HR.out.1]; rfl, by rw [HR.out.2]; exact HS1.out.1, HS1.out.2⟩
        · by_cases s4 : X.toList = [116, 105, 116, 108, 101]
          · have htx : txB l = true := by rw [hx, s4]; rfl
            have HR : Hid (R = K ∧ M = L) := by
              rw [if_pos (Or.inr htx)] at hR
              exact ⟨hR.symm, hM.symm⟩
            clear hsc htx hs hx hR hM
            go_enter Tryd.func52, Tryd.ntmps52
            go_wp2_with fail
            refine ct.mono ?_
            rintro ev w1 ⟨rfl, hb1⟩
            have HS1 : Hid (Sh w1 T g n L ∧ w.grownBy w1 (some g)) := ⟨HS.out.1.stay hb1, stay_grown HS.out.2 hb1⟩
            clear ct hb1 hW y0 y1 y2
            go_wp2
            go_ret
            exact ⟨by rw [HR.out.1]; rfl, by rw [HR.out.2]; exact HS1.out.1, HS1.out.2⟩
          · have htx : ¬ txB l = true := by rw [hx]; simp [s3, s4]
            have HR : Hid (R = e ∧ M = L) := by
              rw [if_neg (fun h => h.elim hsc htx)] at hR
              exact ⟨hR.symm, hM.symm⟩
            have u1 : (X.toList == [115, 99, 114, 105, 112, 116]) = false := by simpa using s1
            have u2 : (X.toList == [115, 116, 121, 108, 101]) = false := by simpa using s2
            have u3 : (X.toList == [116, 101, 120, 116, 97, 114, 101, 97]) = false := by simpa using s3
            have u4 : (X.toList == [116, 105, 116, 108, 101]) = false := by simpa using s4
            clear hsc htx hs hx hR hM s1 s2 s3 s4
            go_enter Tryd.func52, Tryd.ntmps52
            go_wp2
            go_ret
            exact ⟨by rw [HR.out.1]; rfl, by rw [HR.out.2]; exact HS.out.1, HS.out.2⟩
end Go.Proofs.YtodjfeheagnnpaaDoor
