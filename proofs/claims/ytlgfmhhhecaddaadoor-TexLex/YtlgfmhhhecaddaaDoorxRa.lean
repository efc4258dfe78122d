/- The reference: at, letter, behind, put. -/
import Derived.Test.YtlgfmhhhecaddaaDoorxCL
import Derived.Test.YtlgfmhhhecaddaaDoorxLwK
import Derived.Test.YtlgfmhhhecaddaaDoorlSame
namespace Go.Proofs.YtlgfmhhhecaddaaDoor
set_option linter.unusedVariables false
open Go.RowKit Go.ChangeShapes
/-- A text's bytes. -/
def SC (s : ByteArray) (c : Nat → Int) (n : Nat) : Prop := s.size = n ∧ Ch c n ∧ (∀ i (h : i < s.size), ((s[i]'h).toNat : Int) = c i) ∧ s = strOfNums (cl c n)
theorem sc_nums {c : Nat → Int} {n : Nat} (hC : Ch c n) : SC (strOfNums (cl c n)) c n := by
  refine ⟨by rw [strOfNums_size, cl_len], hC, fun i h => ?_, rfl⟩
  have hi : i < n := by rw [strOfNums_size, cl_len] at h; exact h
  have hb := hC.1 i hi
  show ((((strOfNums (cl c n)).data[i]'h).toNat : Nat) : Int) = c i
  have e : (strOfNums (cl c n)).data[i]'h = UInt8.ofNat (c i).toNat := by simp [strOfNums, cl]
  rw [e, UInt8.toNat_ofNat', Nat.mod_eq_of_lt (by omega)]
  omega
theorem ext_nums (l : List Int) (i j : Nat) : (strOfNums l).extract i j = strOfNums ((l.drop i).take (j - i)) := by
  apply ByteArray.ext
  apply Array.ext'
  rw [ByteArray.data_extract, strOfNums_data, Array.toList_extract, strOfNums_data, List.map_take, List.map_drop]
theorem cl_sub (c : Nat → Int) (n i m : Nat) (h : i + m ≤ n) : ((cl c n).drop i).take m = cl (fun j => c (i + j)) m := by
  apply List.ext_getElem?
  intro j
  rcases Nat.lt_or_ge j m with hj | hj
  · rw [List.getElem?_take, if_pos hj, List.getElem?_drop, cl_at _ _ _ (by omega), cl_at _ _ _ hj]
  · rw [List.getElem?_eq_none (by rw [List.length_take]; omega), List.getElem?_eq_none (by rw [cl_len]; exact hj)]
theorem cl_succ (c : Nat → Int) (m : Nat) : cl c (m + 1) = c 0 :: cl (fun j => c (1 + j)) m := by
  unfold cl
  rw [List.range_succ_eq_map, List.map_cons, List.map_map]
  congr 1
  refine List.map_congr_left fun j _ => ?_
  show c (j + 1) = c (1 + j)
  rw [Nat.add_comm]
theorem cl_oc : ∀ (t : List Int) (c : Nat → Int) (i : Nat), (cl (fun j => c (i + j)) t.length == t) = oc t c i
  | [], c, i => rfl
  | x :: t, c, i => by
    rw [List.length_cons, cl_succ]
    show ((c (i + 0) == x) && (cl (fun j => c (i + (1 + j))) t.length == t)) = ((c i == x) && oc t c (i + 1))
    have := cl_oc t c (i + 1)
    rw [← this, Nat.add_zero]
    congr 3
    funext j
    rw [Nat.add_assoc]
theorem sc_sub {s : ByteArray} {c : Nat → Int} {n : Nat} (h : SC s c n) (i e : Nat) (hie : i ≤ e) (he : e ≤ n) : s.extract i e = strOfNums (cl (fun j => c (i + j)) (e - i)) := by
  rw [h.2.2.2, ext_nums, cl_sub c n i (e - i) (by omega)]
theorem cl_byt2 {c : Nat → Int} {m : Nat} (h : ∀ j, j < m → 0 ≤ c j ∧ c j < 256) : Byt (cl c m) := fun x hx => by
  obtain ⟨j, hj, rfl⟩ := List.mem_map.1 hx
  exact h j (List.mem_range.1 hj)
theorem rat_any {s : ByteArray} {c : Nat → Int} {n : Nat} (h : SC s c n) (hn : n ≤ 1000000) (i : Nat) (hi : i ≤ 2000000) (u : ByteArray) (t : List Int) (ht : Byt t) (hu : strOfNums t = u) (h9 : t.length ≤ 100) (h0 : t ≠ []) (w : World) :
    Calls Tryd.prog 30 #[.string s, .int .i64 i, .string u] w fun e w' => e = .returned (.bool (oc t c i)) ∧ w' = w := by
  have hsz : u.size = t.length := by rw [← hu, strOfNums_size]
  have hsn := h.1
  by_cases hr : i + t.length ≤ n
  · have hcmp : ((s.extract i (i + t.length)).toList == u.toList) = oc t c i := by
      rw [sc_sub h i (i + t.length) (by omega) hr, ← hu, show i + t.length - i = t.length by omega, nums_beq (cl_byt2 fun j hj => h.2.1.1 (i + j) (by omega)) ht, cl_oc]
    obtain ⟨m, hm⟩ : ∃ m, t.length = m := ⟨_, rfl⟩
    rw [hm] at hsz h9 hcmp hr
    obtain ⟨g, hg⟩ : ∃ g, oc t c i = g := ⟨_, rfl⟩
    rw [hg] at hcmp ⊢
    have z1 : (i : Int) + (m : Int) ≤ (s.size : Int) := by omega
    have z2 : (0 : Int) ≤ (i : Int) := by omega
    have z3 : (i : Int) ≤ (i : Int) + (m : Int) := by omega
    have z4 : (i : Int) + (m : Int) ≤ 9223372036854775807 := by omega
    have HC : Hid (((s.extract i (i + m)).toList == u.toList) = g) := hcmp
    clear hg hm h hu ht hsn hcmp h0
    go_enter Tryd.func30, Tryd.ntmps30
    go_wp2
    go_ret
    exact ⟨by rw [← HC.out]; rfl, rfl⟩
  · have hno : oc t c i = false := by
      cases he : oc t c i with
      | false => rfl
      | true => exact absurd (oc_len h.2.1.2 t ht i h0 he) hr
    rw [hno]
    obtain ⟨m, hm⟩ : ∃ m, t.length = m := ⟨_, rfl⟩
    rw [hm] at hsz h9 hr
    have z1 : ¬ (i : Int) + (m : Int) ≤ (s.size : Int) := by omega
    have z4 : (i : Int) + (m : Int) ≤ 9223372036854775807 := by omega
    clear hm h hu ht hsn hno h0
    go_enter Tryd.func30, Tryd.ntmps30
    go_wp2
    go_ret
    exact ⟨rfl, rfl⟩
theorem or_all : (List.range 256).all (fun X => (decide (97 ≤ bits .or .u8 (X : Int) 32) && decide (bits .or .u8 (X : Int) 32 ≤ 122)) == ltB (X : Int)) = true := by kernel_rfl
theorem or_lt {x : Int} (h : 0 ≤ x ∧ x < 256) : (decide (97 ≤ bits .or .u8 x 32) && decide (bits .or .u8 x 32 ≤ 122)) = ltB x := by
  obtain ⟨X, rfl⟩ : ∃ X : Nat, x = (X : Int) := ⟨x.toNat, by omega⟩
  have := List.all_eq_true.1 or_all X (List.mem_range.2 (by omega))
  simpa using this
theorem rletter_any {s : ByteArray} {c : Nat → Int} {n : Nat} (h : SC s c n) (hn : n ≤ 1000000) (i : Nat) (w : World) :
    Calls Tryd.prog 31 #[.string s, .int .i64 i] w fun e w' => e = .returned (.bool (ltB (c i))) ∧ w' = w := by
  obtain ⟨h1, h2, h3, -⟩ := h
  have z2 : (0 : Int) ≤ (i : Int) := by omega
  have z4 : ¬ (i : Int) < 0 := by omega
  by_cases hi : i < n
  · have z3 : i < s.size := by omega
    have z1 : (i : Int) < (s.size : Int) := by omega
    have z5 : ¬ (s.size : Int) ≤ (i : Int) := by omega
    have z6 : ¬ s.size ≤ i := by omega
    have hx := h3 i z3
    have hb := or_lt (h2.1 i hi)
    generalize c i = x at hx hb ⊢
    rw [← hb]
    obtain ⟨y, hy⟩ : ∃ y, bits BinOp.or .u8 x 32 = y := ⟨_, rfl⟩
    rw [hy]
    clear h1 h2 h3 hb
    by_cases a1 : 97 ≤ y
    · by_cases a2 : y ≤ 122
      · have e : (decide (97 ≤ y) && decide (y ≤ 122)) = true := by simp [a1, a2]
        rw [e]
        go_enter Tryd.func31, Tryd.ntmps31
        go_wp2
        go_ret
        exact ⟨rfl, rfl⟩
      · have e : (decide (97 ≤ y) && decide (y ≤ 122)) = false := by simp [a2]
        have a3 : decide (y ≤ 122) = false := by simpa using a2
        rw [e]
        go_enter Tryd.func31, Tryd.ntmps31
        go_wp2
        go_ret
        exact ⟨rfl, rfl⟩
    · have e : (decide (97 ≤ y) && decide (y ≤ 122)) = false := by simp [a1]
      rw [e]
      go_enter Tryd.func31, Tryd.ntmps31
      go_wp2
      go_ret
      exact ⟨rfl, rfl⟩
  · have z1 : (s.size : Int) ≤ (i : Int) := by omega
    have e : ltB (c i) = false := by rw [h2.2 i (by omega)]; rfl
    rw [e]
    clear h1 h2 h3 e
    go_enter Tryd.func31, Tryd.ntmps31
    go_wp2
    go_ret
    exact ⟨rfl, rfl⟩
theorem rbehind_any {s : ByteArray} {c : Nat → Int} {n : Nat} (h : SC s c n) (hn : n ≤ 1000000) (i : Nat) (hi : i ≤ n) (u : ByteArray) (t : List Int) (ht : Byt t) (hu : strOfNums t = u) (h9 : t.length ≤ 100) (h0 : t ≠ []) (w : World) :
    Calls Tryd.prog 28 #[.string s, .int .i64 i, .string u] w fun e w' => e = .returned (.int .i64 (bh t c n i : Nat)) ∧ w' = w := by
  have HH : Hid (SC s c n ∧ Byt t ∧ strOfNums t = u ∧ t ≠ [] ∧ t.length ≤ 100) := ⟨h, ht, hu, h0, h9⟩
  have hsn := h.1
  have hsz : u.size = t.length := by rw [← hu, strOfNums_size]
  obtain ⟨m, hm⟩ : ∃ m, t.length = m := ⟨_, rfl⟩
  obtain ⟨R, hR⟩ : ∃ R, bh t c n i = R := ⟨_, rfl⟩
  rw [hR]
  unfold bh at hR
  rw [hm] at hsz h9 hR
  obtain ⟨F, hF⟩ : ∃ F, fs (oc t c) n i = F := ⟨_, rfl⟩
  have HF : Hid (fs (oc t c) n i = F) := hF
  rw [hF] at hR
  have HR : Hid ((if F < n then F + m else n) = R) := hR
  clear h ht hu h0 hm hR hF
  go_enter Tryd.func28, Tryd.ntmps28
  go_wp2
  go_loopg [1] (n - i) (fun q iv wr => ∃ k : Nat, k ≤ n ∧ q = n - k ∧ iv = .int .i64 k ∧ Hid (fs (oc t c) n k = F) ∧ wr = w)
  case atStart => exact ⟨i, hi, rfl, rfl, HF, rfl⟩
  case round =>
    obtain ⟨k, hk, hq, rfl, HK, hwr⟩ := hrel
    subst wr
    by_cases hlt : k < n
    · have z1 : (k : Int) < (s.size : Int) := by omega
      have ct := rat_any HH.out.1 hn k (by omega) u t HH.out.2.1 HH.out.2.2.1 HH.out.2.2.2.2 HH.out.2.2.2.1 w
      cases hb : oc t c k with
      | true =>
        rw [hb] at ct
        have HE : Hid (R = k + m) := by
          show R = _
          have hk2 : F = k := by rw [← HK.out]; exact fs_yes hb
          rw [← HR.out, hk2, if_pos hlt]
        clear hb
        go_wp2_with fail
        refine ct.mono ?_
        rintro e w1 ⟨rfl, hw⟩
        subst w1
        go_wp2
        go_ret
        refine ⟨?_, rfl⟩
        rw [HE.out]
        go_num
      | false =>
        rw [hb] at ct
        have HE : Hid (fs (oc t c) n (k + 1) = F) := by show _ = F; rw [← HK.out]; exact (fs_no hlt hb).symm
        clear hb
        go_wp2_with fail
        refine ct.mono ?_
        rintro e w1 ⟨rfl, hw⟩
        subst w1
        go_wp2
        go_roundg (n - (k + 1))
        case measure => omega
        case rel => exact ⟨k + 1, by omega, rfl, by go_num, HE, rfl⟩
    · have z1 : ¬ (k : Int) < (s.size : Int) := by omega
      have HE : Hid (R = n) := by
        show R = _
        have hk2 : F = k := by rw [← HK.out]; exact fs_end _ (by omega)
        rw [← HR.out, if_neg (by omega)]
      go_wp2
      go_ret
      refine ⟨?_, rfl⟩
      rw [HE.out]
      first | rfl | (simp; omega)
theorem rput_any {w : World} {g n : Nat} {L : Nat → Int} (hR : LR w g n L) (hn : n ≤ 65536) (l : Int) (f t : Nat) (ht : t ≤ n) :
    Calls Tryd.prog 29 #[.slice (some ⟨g, 0, none⟩) n n, .int .u8 l, .int .i64 f, .int .i64 t] w fun e w' =>
      e = .returned (.tuple #[]) ∧ LR w' g n (setL L l f t) ∧ w.grownBy w' (some g) ∧ w'.heap.size = w.heap.size := by
  have HR : Hid (LR w g n L) := hR
  clear hR
  go_enter Tryd.func29, Tryd.ntmps29
  go_wp2
  go_loopg [8] (t - f) (fun q iv wr => ∃ k : Nat, f ≤ k ∧ (k = f ∨ k ≤ t) ∧ q = t - k ∧ iv = .int .i64 k ∧ Hid (LR wr g n (setL L l f k)) ∧ Hid (w.grownBy wr (some g)) ∧ Hid (wr.heap.size = w.heap.size))
  case atStart => exact ⟨f, Nat.le_refl _, Or.inl rfl, rfl, rfl, HR.out.congr fun i _ => (setL_none L l f f (Int.le_refl _) i).symm, World.grownBy.refl _ _, rfl⟩
  case round =>
    obtain ⟨k, hk, hk2, hq, rfl, HL, HG, HS⟩ := hrel
    by_cases hlt : k < t
    · have z0 : k < n := by omega
      have z1 : (0 : Int) ≤ (k : Int) := by omega
      have z2 : (k : Int) < (n : Int) := by omega
      have z3 : (k : Int) < (t : Int) := by omega
      have hc := HL.out.cell z0
      have hf := HL.out.frozen k
      go_wp2
      go_roundg (t - (k + 1))
      case measure => omega
      case rel => exact ⟨k + 1, by omega, Or.inr (by omega), rfl, by go_num, (HL.out.set k l).congr fun i _ => by rw [setL_snoc L l f k (by omega) i]; norm_cast, grown_set HG.out k _, by show (World.setCell _ _ _).heap.size = _; rw [← HS.out]; simp [World.setCell]⟩
    · have z3 : ¬ (k : Int) < (t : Int) := by omega
      go_wp2
      go_end0
      refine ⟨rfl, HL.out.congr fun i hi => setL_same ?_, HG.out, HS.out⟩
      omega
end Go.Proofs.YtlgfmhhhecaddaaDoor
