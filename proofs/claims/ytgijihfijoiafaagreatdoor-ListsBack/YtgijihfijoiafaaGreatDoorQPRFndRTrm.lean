/- The reference's find and has. -/
import Derived.Test.YtgijihfijoiafaaGreatDoorQPEchWds
import Derived.Lib.IndexMore
import Derived.Lib.IndexBytes
import Derived.Lib.PathFns
namespace Go.Proofs.YtgijihfijoiafaaGreatDoor
set_option linter.unusedVariables false
open Go.RowKit Go.ChangeShapes
theorem index_is (s t : ByteArray) (i : Nat) (hi : i + t.size ≤ s.size) (h1 : Lib.occAt s.data.toList t.data.toList i = true) (h2 : ∀ j, j < i → Lib.occAt s.data.toList t.data.toList j = false) : Lib.index s.data.toList t.data.toList = i := by
  rcases Lib.index_spec s.data.toList t.data.toList with ⟨_, h4⟩ | ⟨k, h3, _, h5, h6⟩
  · have hh := h4 i (by simp; show i ≤ s.size; omega)
    rw [hh] at h1; cases h1
  · rw [h3]
    congr 1
    rcases Nat.lt_trichotomy k i with h | h | h
    · rw [h2 k h] at h5; cases h5
    · exact h
    · rw [h6 i h] at h1; cases h1
theorem index_none (s t : ByteArray) (h2 : ∀ j, j + t.size ≤ s.size → Lib.occAt s.data.toList t.data.toList j = false) : Lib.index s.data.toList t.data.toList = -1 := by
  rcases Lib.index_spec s.data.toList t.data.toList with ⟨h3, _⟩ | ⟨k, h3, _, h5, _⟩
  · exact h3
  · exfalso
    have hr := Lib.index_room s.data.toList t.data.toList (by rw [h3]; omega)
    rw [h3] at hr
    have e1 : s.data.toList.length = s.size := by simp
    have e2 : t.data.toList.length = t.size := by simp
    rw [e1, e2] at hr
    rw [h2 k (by omega)] at h5; cases h5
theorem rfind_any (s t : ByteArray) (w : World) (hs : s.size ≤ 40000) (ht : t.size ≤ 5000) :
    Calls Tryz.prog 61 #[.string s, .string t] w fun e w' => e = .returned (.int .i64 (Lib.index s.data.toList t.data.toList)) ∧ w' = w := by
  obtain ⟨Z, hZ⟩ : ∃ Z, Lib.index s.data.toList t.data.toList = Z := ⟨_, rfl⟩
  rw [hZ]
  have HZ : Hid (Lib.index s.data.toList t.data.toList = Z) := hZ
  clear hZ
  go_enter Tryz.func61, Tryz.ntmps61
  go_wp2
  go_loopg [5] (s.size + 1) (fun g iv wr => ∃ i : Nat, i ≤ s.size + 1 ∧ g = s.size + 1 - i ∧ iv = .int .i64 i ∧ wr = w ∧ Hid (∀ j, j < i → Lib.occAt s.data.toList t.data.toList j = false))
  case atStart => exact ⟨0, Nat.zero_le _, rfl, rfl, rfl, fun j hj => absurd hj (Nat.not_lt_zero j)⟩
  case round =>
    obtain ⟨i, hi, hg, rfl, hw, HJ⟩ := hrel
    subst wr
    by_cases hle : i + t.size ≤ s.size
    · have z0 : (i : Int) + (t.size : Int) ≤ (s.size : Int) := by omega
      have z1 : (0 : Int) ≤ (i : Int) := by omega
      have z2 : (i : Int) ≤ (i : Int) + (t.size : Int) := by omega
      have ho := Lib.occ_of_piece s t i hle
      cases hq : (s.extract i (i + t.size)).toList == t.toList
      · rw [hq] at ho
        have HJ2 : Hid (∀ j, j < i + 1 → Lib.occAt s.data.toList t.data.toList j = false) := fun j hj => by
          rcases Nat.lt_succ_iff_lt_or_eq.1 hj with h | h
          · exact HJ.out j h
          · rw [h]; exact ho
        clear ho
        go_wp2
        go_roundg (s.size + 1 - (i + 1))
        case measure => omega
        case rel => exact ⟨i + 1, by omega, rfl, by go_num, rfl, HJ2⟩
      · rw [hq] at ho
        have HZ2 : Hid (Z = i) := by show _ = _; rw [← HZ.out]; exact index_is s t i hle ho HJ.out
        clear ho
        go_wp2
        go_ret
        rw [HZ2.out]
        exact ⟨rfl, rfl⟩
    · have z0 : ¬ (i : Int) + (t.size : Int) ≤ (s.size : Int) := by omega
      have HZ2 : Hid (Z = -1) := by show _ = _; rw [← HZ.out]; exact index_none s t (fun j hj => HJ.out j (by omega))
      go_wp2
      go_ret
      rw [HZ2.out]
      exact ⟨rfl, rfl⟩
open Classical in
theorem rhas_any (L : List ByteArray) (base : Nat) (v : Value) (f : ByteArray) (w : World) (hn : L.length ≤ 5000) (h : w.ownsRow base 9 1 v L.length (L.map Value.string)) :
    Calls Tryz.prog 36 #[v, .string f] w fun e w' => e = .returned (.bool (decide (f ∈ L))) ∧ w' = w := by
  have hcc : 0 < L.length → ∃ g c, v = .slice (some ⟨g, 0, none⟩) L.length c ∧ ∀ j, (hj : j < L.length) → w.cell? ⟨g, j, none⟩ = some (.string L[j]) := fun h0 => by
    have h00 := h
    obtain ⟨_, ⟨_, h2⟩ | ⟨g, cap, cur, rfl, hg, hh, h3⟩⟩ := h
    · omega
    · refine ⟨g, cap, rfl, fun j hj => ?_⟩
      rw [h00.cellAt j (by omega)]
      simp [hj]
  obtain ⟨ad, cp, rfl⟩ := own_form h
  have HC : Hid (0 < L.length → ∃ g c, Value.slice ad L.length cp = .slice (some ⟨g, 0, none⟩) L.length c ∧ ∀ j, (hj : j < L.length) → w.cell? ⟨g, j, none⟩ = some (.string L[j])) := hcc
  obtain ⟨Z, hZ⟩ : ∃ Z, decide (f ∈ L) = Z := ⟨_, rfl⟩
  rw [hZ]
  have HZ : Hid (decide (f ∈ L) = Z) := hZ
  clear hZ hcc h
  go_enter Tryz.func36, Tryz.ntmps36
  go_wp2
  go_loopg [5] (L.length) (fun g iv wr => ∃ i : Nat, i ≤ L.length ∧ g = L.length - i ∧ iv = .int .i64 i ∧ wr = w ∧ Hid (∀ j, (hj : j < L.length) → j < i → L[j] ≠ f))
  case atStart => exact ⟨0, Nat.zero_le _, rfl, rfl, rfl, fun j _ hj => absurd hj (Nat.not_lt_zero j)⟩
  case round =>
    obtain ⟨i, hi, hg, rfl, hw, HJ⟩ := hrel
    subst wr
    by_cases hlt : i < L.length
    · obtain ⟨g, c, hv, hcell⟩ := HC.out (by omega)
      cases hv
      have z0 : (0 : Int) ≤ (i : Int) := by omega
      have z1 : (i : Int) < (L.length : Int) := by omega
      have e1 := hcell i hlt
      clear hcell
      obtain ⟨x, hx⟩ : ∃ x, L[i] = x := ⟨_, rfl⟩
      rw [hx] at e1
      cases hq : x.toList == f.toList
      · have hne : x ≠ f := fun e => by rw [e] at hq; simp at hq
        have HJ2 : Hid (∀ j, (hj : j < L.length) → j < i + 1 → L[j] ≠ f) := fun j hj hl => by
          rcases Nat.lt_succ_iff_lt_or_eq.1 hl with h | h
          · exact HJ.out j hj h
          · subst h; rw [hx]; exact hne
        clear hne hx
        go_wp2
        go_roundg (L.length - (i + 1))
        case measure => omega
        case rel => exact ⟨i + 1, by omega, rfl, by go_num, rfl, HJ2⟩
      · have he : x = f := Lns.toList_inj (eq_of_beq hq)
        have HZ2 : Hid (Z = true) := by
          show _ = _
          rw [← HZ.out, decide_eq_true_eq, ← he, ← hx]
          exact List.getElem_mem hlt
        clear he hx
        go_wp2
        go_ret
        rw [HZ2.out]
        exact ⟨rfl, rfl⟩
    · have HZ2 : Hid (Z = false) := by
        show _ = _
        rw [← HZ.out, decide_eq_false_iff_not]
        intro hm
        obtain ⟨j, hj, e⟩ := List.getElem_of_mem hm
        exact HJ.out j hj (by omega) e
      have z1 : ¬ (i : Int) < (L.length : Int) := by omega
      go_wp2
      go_ret
      rw [HZ2.out]
      exact ⟨rfl, rfl⟩
end Go.Proofs.YtgijihfijoiafaaGreatDoor
/- The reference's blank and trim. -/
namespace Go.Proofs.YtgijihfijoiafaaGreatDoor
set_option linter.unusedVariables false
open Go.RowKit Go.ChangeShapes
def blk (z : Int) (b : Bool) : Bool := (z == 32) || (z == 9) || (b && ((z == 13) || (z == 10)))
theorem rblank_any (z : Int) (b : Bool) (w : World) :
    Calls Tryz.prog 103 #[.int .u8 z, .bool b] w fun e w' => e = .returned (.bool (blk z b)) ∧ w' = w := by
  unfold blk
  cases h1 : (z == 32)
  · have h1' : ¬ z = 32 := by simpa using h1
    cases h2 : (z == 9)
    · have h2' : ¬ z = 9 := by simpa using h2
      cases b
      · go_enter Tryz.func103, Tryz.ntmps103
        go_wp2
        go_ret
        exact ⟨rfl, rfl⟩
      · cases h3 : (z == 13)
        · have h3' : ¬ z = 13 := by simpa using h3
          cases h4 : (z == 10)
          · have h4' : ¬ z = 10 := by simpa using h4
            go_enter Tryz.func103, Tryz.ntmps103
            go_wp2
            go_ret
            exact ⟨rfl, rfl⟩
          · obtain rfl : z = 10 := by simpa using h4
            go_enter Tryz.func103, Tryz.ntmps103
            go_wp2
            go_ret
            exact ⟨rfl, rfl⟩
        · obtain rfl : z = 13 := by simpa using h3
          go_enter Tryz.func103, Tryz.ntmps103
          go_wp2
          go_ret
          exact ⟨rfl, rfl⟩
    · obtain rfl : z = 9 := by simpa using h2
      go_enter Tryz.func103, Tryz.ntmps103
      go_wp2
      go_ret
      exact ⟨rfl, rfl⟩
  · obtain rfl : z = 32 := by simpa using h1
    go_enter Tryz.func103, Tryz.ntmps103
    go_wp2
    go_ret
    exact ⟨rfl, rfl⟩
/-- Without what is blank at the right end. -/
def rt (p : UInt8 → Bool) (l : List UInt8) : List UInt8 := (l.reverse.dropWhile p).reverse
theorem rt_cons (p : UInt8 → Bool) (a : UInt8) (l : List UInt8) : rt p (a :: l) = if (rt p l).isEmpty then (if p a then [] else [a]) else a :: rt p l := by
  unfold rt
  rw [List.reverse_cons, List.dropWhile_append]
  cases h : List.dropWhile p l.reverse with
  | nil => by_cases hp : p a <;> simp [hp]
  | cons b m => simp
theorem trim_swap (p : UInt8 → Bool) : ∀ l : List UInt8, (rt p l).dropWhile p = rt p (l.dropWhile p)
  | [] => rfl
  | a :: l => by
    have ih := trim_swap p l
    rw [rt_cons]
    by_cases hp : p a
    · rw [List.dropWhile_cons_of_pos hp, ← ih]
      cases h : rt p l with
      | nil => simp [hp]
      | cons b m => simp [hp]
    · rw [List.dropWhile_cons_of_neg hp, rt_cons]
      cases h : rt p l with
      | nil => simp [hp]
      | cons b m => simp [hp]
def pB (b : Bool) (c : UInt8) : Bool := blk c.toNat b
theorem eq_num (c : UInt8) (k : UInt8) (n : Nat) (h : k.toNat = n) : (((c.toNat : Nat) : Int) == ((n : Nat) : Int)) = (c == k) := by
  subst h
  by_cases e : c = k
  · subst e; simp
  · have : ¬ c.toNat = k.toNat := fun h => e (UInt8.toNat_inj.1 h)
    have h1 : (c == k) = false := by simpa using e
    rw [h1]
    simp only [beq_eq_false_iff_ne]
    omega
theorem pB_true (c : UInt8) : pB true c = [32, 9, 13, 10].contains c := by
  unfold pB blk
  have a : (((c.toNat : Nat) : Int) == 32) = (c == 32) := eq_num c 32 32 rfl
  have b : (((c.toNat : Nat) : Int) == 9) = (c == 9) := eq_num c 9 9 rfl
  have d : (((c.toNat : Nat) : Int) == 13) = (c == 13) := eq_num c 13 13 rfl
  have e : (((c.toNat : Nat) : Int) == 10) = (c == 10) := eq_num c 10 10 rfl
  rw [a, b, d, e]
  simp [Bool.or_assoc]
  rfl
theorem pB_false (c : UInt8) : pB false c = [32, 9].contains c := by
  unfold pB blk
  have a : (((c.toNat : Nat) : Int) == 32) = (c == 32) := eq_num c 32 32 rfl
  have b : (((c.toNat : Nat) : Int) == 9) = (c == 9) := eq_num c 9 9 rfl
  rw [a, b]
  simp
  rfl
theorem first_of (r : ByteArray) (h : 0 < r.size) : r.data.toList = r[0] :: (r.extract 1 r.size).data.toList := by
  rw [Lib.extract_to_end]
  have h' : 0 < r.data.toList.length := by simpa using h
  rw [show r.data.toList = r.data.toList.drop 0 from rfl, List.drop_eq_getElem_cons h']
  rfl
theorem up_list (s : ByteArray) (k : Nat) : (s.extract 0 k).data.toList = s.data.toList.take k := by
  rw [ByteArray.data_extract]
  simp
theorem last_of (r : ByteArray) (h : 0 < r.size) : r.data.toList = (r.extract 0 (r.size - 1)).data.toList ++ [r[r.size - 1]] := by
  have h' : r.size - 1 < r.data.toList.length := by simp; show r.size - 1 < r.size; omega
  have e : (r.extract 0 (r.size - 1)).data.toList = r.data.toList.take (r.size - 1) := by
    exact up_list r (r.size - 1)
  rw [e]
  have := List.take_append_drop (r.size - 1) r.data.toList
  conv => lhs; rw [← this]
  congr 1
  rw [List.drop_eq_getElem_cons h', List.drop_eq_nil_of_le (by simp; show r.size ≤ _; omega)]
  rfl
theorem rt_snoc (p : UInt8 → Bool) (l : List UInt8) (a : UInt8) : rt p (l ++ [a]) = if p a then rt p l else l ++ [a] := by
  unfold rt
  rw [List.reverse_append, List.reverse_singleton, List.singleton_append]
  by_cases h : p a
  · rw [List.dropWhile_cons_of_pos h, if_pos h]
  · rw [List.dropWhile_cons_of_neg h, if_neg h]
    simp
theorem rtrim_any (s : ByteArray) (b : Bool) (w : World) (hs : s.size ≤ 40000) :
    Calls Tryz.prog 62 #[.string s, .bool b] w fun e w' => e = .returned (.string ⟨(rt (pB b) (s.data.toList.dropWhile (pB b))).toArray⟩) ∧ w' = w := by
  obtain ⟨D, hD⟩ : ∃ D, s.data.toList.dropWhile (pB b) = D := ⟨_, rfl⟩
  rw [hD]
  have HD : Hid (s.data.toList.dropWhile (pB b) = D) := hD
  obtain ⟨R, hR⟩ : ∃ R, rt (pB b) D = R := ⟨_, rfl⟩
  rw [hR]
  have HRR : Hid (rt (pB b) D = R) := hR
  clear hD hR
  go_enter Tryz.func62, Tryz.ntmps62
  go_wp2
  go_loopg [0] (s.size) (fun g v wr => ∃ r : ByteArray, v = .string r ∧ r.size ≤ s.size ∧ g = r.size ∧ wr = w ∧ Hid (r.data.toList.dropWhile (pB b) = D))
  case atStart => exact ⟨s, rfl, Nat.le_refl _, rfl, rfl, HD⟩
  case round =>
    obtain ⟨r, rfl, hrs, hg, hw, HR⟩ := hrel
    subst wr
    by_cases h0 : r.size = 0
    · have z0 : ¬ (0 : Int) < (r.size : Int) := by omega
      have HE : Hid (rt (pB b) r.data.toList = R) := by
        show _ = _
        have e1 : r.data.toList = [] := List.eq_nil_of_length_eq_zero (by simpa using h0)
        have e2 := HR.out
        rw [e1] at e2
        rw [e1, ← HRR.out, ← e2]
        rfl
      go_wp2
      go_loopg [0] (r.size) (fun g v wr => ∃ q : ByteArray, v = .string q ∧ q.size ≤ r.size ∧ g = q.size ∧ wr = w ∧ Hid (rt (pB b) q.data.toList = R))
      case atStart => exact ⟨r, rfl, Nat.le_refl _, rfl, rfl, HE⟩
      case round =>
        obtain ⟨q, rfl, hqs, hg2, hw, HQ⟩ := hrel
        subst wr
        by_cases q0 : q.size = 0
        · have hq' : ¬ (0 : Int) < (q.size : Int) := by omega
          have HF : Hid (q = ⟨R.toArray⟩) := by
            show _ = _
            have e1 : q.data.toList = [] := List.eq_nil_of_length_eq_zero (by simpa using q0)
            have e2 := HQ.out
            rw [e1] at e2
            have e3 : R = [] := e2.symm
            rw [e3]
            exact ByteArray.ext (Array.ext' e1)
          go_wp2
          go_ret
          rw [← HF.out]
          exact ⟨rfl, rfl⟩
        · have y0 : (0 : Int) < (q.size : Int) := by omega
          have y1 : 0 < q.size := by omega
          have y2 : q.size - 1 < q.size := by omega
          have y3 : (q.size : Int) - 1 = ((q.size - 1 : Nat) : Int) := by omega
          have y4 : ((q.size - 1 : Nat) : Int) < (q.size : Int) := by omega
          have y5 : (0 : Int) ≤ ((q.size - 1 : Nat) : Int) := by omega
          have hl := last_of q y1
          have hR := HQ.out
          rw [hl, rt_snoc] at hR
          cases hp : pB b q[q.size - 1]
          · have cb := rblank_any q[q.size - 1].toNat b w
            rw [show blk q[q.size - 1].toNat b = false from hp] at cb
            have HF : Hid (q = ⟨R.toArray⟩) := by
              show _ = _
              rw [hp] at hR
              simp only [Bool.false_eq_true, if_false] at hR
              rw [← hR, ← hl]
            clear hR hl hp
            go_wp2_with fail
            refine cb.mono ?_
            rintro e w2 ⟨rfl, hw⟩
            subst w2
            clear cb
            go_wp2
            go_ret
            rw [← HF.out]
            exact ⟨rfl, rfl⟩
          · have cb := rblank_any q[q.size - 1].toNat b w
            rw [show blk q[q.size - 1].toNat b = true from hp] at cb
            have hsz : (q.extract 0 (q.size - 1)).size = q.size - 1 := by rw [ByteArray.size_extract]; omega
            have HN : Hid (rt (pB b) (q.extract 0 (q.size - 1)).data.toList = R ∧ (q.extract 0 (q.size - 1)).size = q.size - 1) := by
              refine ⟨?_, hsz⟩
              rw [hp] at hR
              simpa using hR
            have y6 : ((q.size - 1 : Nat) : Int) ≤ (q.size : Int) := by omega
            clear hR hl hp hsz
            go_wp2_with fail
            refine cb.mono ?_
            rintro e w2 ⟨rfl, hw⟩
            subst w2
            clear cb
            go_wp2
            go_roundg (q.size - 1)
            case measure => omega
            case rel => exact ⟨_, rfl, by have := HN.out.2; omega, HN.out.2.symm, rfl, HN.out.1⟩
    · have z0 : (0 : Int) < (r.size : Int) := by omega
      have z1 : 0 < r.size := by omega
      have hl := first_of r z1
      cases hp : pB b r[0]
      · have cb := rblank_any r[0].toNat b w
        rw [show blk r[0].toNat b = false from hp] at cb
        have HE : Hid (rt (pB b) r.data.toList = R) := by
          show _ = _
          have e2 := HR.out
          rw [hl, List.dropWhile_cons_of_neg (by simp [hp]), ← hl] at e2
          rw [e2, HRR.out]
        clear hl hp
        go_wp2_with fail
        refine cb.mono ?_
        rintro e w2 ⟨rfl, hw⟩
        subst w2
        clear cb
        go_wp2
        go_loopg [0] (r.size) (fun g v wr => ∃ q : ByteArray, v = .string q ∧ q.size ≤ r.size ∧ g = q.size ∧ wr = w ∧ Hid (rt (pB b) q.data.toList = R))
        case atStart => exact ⟨r, rfl, Nat.le_refl _, rfl, rfl, HE⟩
        case round =>
          obtain ⟨q, rfl, hqs, hg2, hw, HQ⟩ := hrel
          subst wr
          by_cases q0 : q.size = 0
          · have hq' : ¬ (0 : Int) < (q.size : Int) := by omega
            have HF : Hid (q = ⟨R.toArray⟩) := by
              show _ = _
              have e1 : q.data.toList = [] := List.eq_nil_of_length_eq_zero (by simpa using q0)
              have e2 := HQ.out
              rw [e1] at e2
              have e3 : R = [] := e2.symm
              rw [e3]
              exact ByteArray.ext (Array.ext' e1)
            go_wp2
            go_ret
            rw [← HF.out]
            exact ⟨rfl, rfl⟩
          · have y0 : (0 : Int) < (q.size : Int) := by omega
            have y1 : 0 < q.size := by omega
            have y2 : q.size - 1 < q.size := by omega
            have y3 : (q.size : Int) - 1 = ((q.size - 1 : Nat) : Int) := by omega
            have y4 : ((q.size - 1 : Nat) : Int) < (q.size : Int) := by omega
            have y5 : (0 : Int) ≤ ((q.size - 1 : Nat) : Int) := by omega
            have hl := last_of q y1
            have hR := HQ.out
            rw [hl, rt_snoc] at hR
            cases hp : pB b q[q.size - 1]
            · have cb := rblank_any q[q.size - 1].toNat b w
              rw [show blk q[q.size - 1].toNat b = false from hp] at cb
              have HF : Hid (q = ⟨R.toArray⟩) := by
                show _ = _
                rw [hp] at hR
                simp only [Bool.false_eq_true, if_false] at hR
                rw [← hR, ← hl]
              clear hR hl hp
              go_wp2_with fail
              refine cb.mono ?_
              rintro e w2 ⟨rfl, hw⟩
              subst w2
              clear cb
              go_wp2
              go_ret
              rw [← HF.out]
              exact ⟨rfl, rfl⟩
            · have cb := rblank_any q[q.size - 1].toNat b w
              rw [show blk q[q.size - 1].toNat b = true from hp] at cb
              have hsz : (q.extract 0 (q.size - 1)).size = q.size - 1 := by rw [ByteArray.size_extract]; omega
              have HN : Hid (rt (pB b) (q.extract 0 (q.size - 1)).data.toList = R ∧ (q.extract 0 (q.size - 1)).size = q.size - 1) := by
                refine ⟨?_, hsz⟩
                rw [hp] at hR
                simpa using hR
              have y6 : ((q.size - 1 : Nat) : Int) ≤ (q.size : Int) := by omega
              clear hR hl hp hsz
              go_wp2_with fail
              refine cb.mono ?_
              rintro e w2 ⟨rfl, hw⟩
              subst w2
              clear cb
              go_wp2
              go_roundg (q.size - 1)
              case measure => omega
              case rel => exact ⟨_, rfl, by have := HN.out.2; omega, HN.out.2.symm, rfl, HN.out.1⟩
      · have cb := rblank_any r[0].toNat b w
        rw [show blk r[0].toNat b = true from hp] at cb
        have hsz : (r.extract 1 r.size).size = r.size - 1 := by rw [ByteArray.size_extract]; omega
        have HN : Hid ((r.extract 1 r.size).data.toList.dropWhile (pB b) = D ∧ (r.extract 1 r.size).size = r.size - 1) := by
          refine ⟨?_, hsz⟩
          have e2 := HR.out
          rw [hl, List.dropWhile_cons_of_pos (by simp [hp])] at e2
          exact e2
        have y6 : (1 : Int) ≤ (r.size : Int) := by omega
        clear hl hp hsz
        go_wp2_with fail
        refine cb.mono ?_
        rintro e w2 ⟨rfl, hw⟩
        subst w2
        clear cb
        go_wp2
        go_roundg (r.size - 1)
        case measure => omega
        case rel => exact ⟨_, rfl, by have := HN.out.2; omega, HN.out.2.symm, rfl, HN.out.1⟩
end Go.Proofs.YtgijihfijoiafaaGreatDoor
