/- The reference: at, letter, behind, put. -/
import Derived.Test.YtgebmmbnpdhooaasCL
import Derived.Test.YtgebmmbnpdhooaasLwK
import Derived.Test.YtgebmmbnpdhooaalSame
namespace Go.Proofs.Ytgebmmbnpdhooaa
set_option linter.unusedVariables false
open Go.RowKit Go.ChangeShapes
/-- A text's bytes. -/
def SC (s : ByteArray) (c : Nat → Int) (n : Nat) : Prop := s.size = n ∧ Ch c n ∧ (∀ i (h : i < s.size), ((s[i]'h).toNat : Int) = c i) ∧ s = strOfNums (cl c n)
theorem sc_nums {c : Nat → Int} {n : Nat} (hC : Ch c n) : SC (strOfNums (cl c n)) c n := by
  refine ⟨by rw [strOfNums_size, cl_len], hC, fun i h => ?_, rfl⟩
  have hi : i < n := by rw [strOfNums_size, cl_len] at h; exact h
  have hb := hC.1 i hi
  show ((((strOfNums (cl c n)).data[i]'h).toNat : Nat) : Int) = c i
  have e : (strOfNums (cl c n)).data[i]'h = UInt8.ofNat (c i).toNat := by simp [strOfNums, cl]
  rw [e, UInt8.toNat_ofNat', Nat.mod_eq_of_lt (by omega)]
  omega
theorem ext_nums (l : List Int) (i j : Nat) : (strOfNums l).extract i j = strOfNums ((l.drop i).take (j - i)) := by
  apply ByteArray.ext
  apply Array.ext'
  rw [ByteArray.data_extract, strOfNums_data, Array.toList_extract, strOfNums_data, List.map_take, List.map_drop]
theorem cl_sub (c : Nat → Int) (n i m : Nat) (h : i + m ≤ n) : ((cl c n).drop i).take m = cl (fun j => c (i + j)) m := by
  apply List.ext_getElem?
  intro j
  rcases Nat.lt_or_ge j m with hj | hj
  · rw [List.getElem?_take, if_pos hj, List.getElem?_drop, cl_at _ _ _ (by omega), cl_at _ _ _ hj]
  · rw [List.getElem?_eq_none (by rw [List.length_take]; omega), List.getElem?_eq_none (by rw [cl_len]; exact hj)]
theorem cl_succ (c : Nat → Int) (m : Nat) : cl c (m + 1) = c 0 :: cl (fun j => c (1 + j)) m := by
  unfold cl
  rw [List.range_succ_eq_map, List.map_cons, List.map_map]
  congr 1
  refine List.map_congr_left fun j _ => ?_
  show c (j + 1) = c (1 + j)
  rw [Nat.add_comm]
theorem cl_oc : ∀ (t : List Int) (c : Nat → Int) (i : Nat), (cl (fun j => c (i + j)) t.length == t) = oc t c i
  | [], c, i => rfl
  | x :: t, c, i => by
    rw [List.length_cons, cl_succ]
    show ((c (i + 0) == x) && (cl (fun j => c (i + (1 + j))) t.length == t)) = ((c i == x) && oc t c (i + 1))
    have := cl_oc t c (i + 1)
    rw [← this, Nat.add_zero]
    congr 3
    funext j
    rw [Nat.add_assoc]
theorem sc_sub {s : ByteArray} {c : Nat → Int} {n : Nat} (h : SC s c n) (i e : Nat) (hie : i ≤ e) (he : e ≤ n) : s.extract i e = strOfNums (cl (fun j => c (i + j)) (e - i)) := by
  rw [h.2.2.2, ext_nums, cl_sub c n i (e - i) (by omega)]
theorem cl_byt2 {c : Nat → Int} {m : Nat} (h : ∀ j, j < m → 0 ≤ c j ∧ c j < 256) : Byt (cl c m) := fun x hx => by
  obtain ⟨j, hj, rfl⟩ := List.mem_map.1 hx
  exact h j (List.mem_range.1 hj)
theorem rat_any {s : ByteArray} {c : Nat → Int} {n : Nat} (h : SC s c n) (hn : n ≤ 1000000) (i : Nat) (hi : i ≤ 2000000) (u : ByteArray) (t : List Int) (ht : Byt t) (hu : strOfNums t = u) (h9 : t.length ≤ 100) (h0 : t ≠ []) (w : World) :
    Calls Try.prog 24 #[.string s, .int .i64 i, .string u] w fun e w' => e = .returned (.bool (oc t c i)) ∧ w' = w := by
  have hsz : u.size = t.length := by rw [← hu, strOfNums_size]
  have hsn := h.1
  by_cases hr : i + t.length ≤ n
  · have hcmp : ((s.extract i (i + t.length)).toList == u.toList) = oc t c i := by
      rw [sc_sub h i (i + t.length) (by omega) hr, ← hu, show i + t.length - i = t.length by omega, nums_beq (cl_byt2 fun j hj => h.2.1.1 (i + j) (by omega)) ht, cl_oc]
    obtain ⟨m, hm⟩ : ∃ m, t.length = m := ⟨_, rfl⟩
    rw [hm] at hsz h9 hcmp hr
    obtain ⟨g, hg⟩ : ∃ g, oc t c i = g := ⟨_, rfl⟩
    rw [hg] at hcmp ⊢
    have z1 : (i : Int) + (m : Int) ≤ (s.size : Int) := by omega
    have z2 : (0 : Int) ≤ (i : Int) := by omega
    have z3 : (i : Int) ≤ (i : Int) + (m : Int) := by omega
    have z4 : (i : Int) + (m : Int) ≤ 9223372036854775807 := by omega
    have HC : Hid (((s.extract i (i + m)).toList == u.toList) = g) := hcmp
    clear hg hm h hu ht hsn hcmp h0
    go_enter Try.func24, Try.ntmps24
    go_wp2
    go_ret
    exact ⟨by rw [← HC.out]; rfl, rfl⟩
  · have hno : oc t c i = false := by
      cases he : oc t c i with
      | false => rfl
      | true => exact absurd (oc_len h.2.1.2 t ht i h0 he) hr
    rw [hno]
    obtain ⟨m, hm⟩ : ∃ m, t.length = m := ⟨_, rfl⟩
    rw [hm] at hsz h9 hr
    have z1 : ¬ (i : Int) + (m : Int) ≤ (s.size : Int) := by omega
    have z4 : (i : Int) + (m : Int) ≤ 9223372036854775807 := by omega
    clear hm h hu ht hsn hno h0
    go_enter Try.func24, Try.ntmps24
    go_wp2
    go_ret
    exact ⟨rfl, rfl⟩
theorem rput_any {w : World} {g n : Nat} {L : Nat → Int} (hR : LR w g n L) (hn : n ≤ 65536) (l : Int) (f t : Nat) (ht : t ≤ n) :
    Calls Try.prog 23 #[.slice (some ⟨g, 0, none⟩) n n, .int .u8 l, .int .i64 f, .int .i64 t] w fun e w' =>
      e = .returned (.tuple #[]) ∧ LR w' g n (setL L l f t) ∧ w.grownBy w' (some g) ∧ w'.heap.size = w.heap.size := by
  have HR : Hid (LR w g n L) := hR
  clear hR
  go_enter Try.func23, Try.ntmps23
  go_wp2
  go_loopg [8] (t - f) (fun q iv wr => ∃ k : Nat, f ≤ k ∧ (k = f ∨ k ≤ t) ∧ q = t - k ∧ iv = .int .i64 k ∧ Hid (LR wr g n (setL L l f k)) ∧ Hid (w.grownBy wr (some g)) ∧ Hid (wr.heap.size = w.heap.size))
  case atStart => exact ⟨f, Nat.le_refl _, Or.inl rfl, rfl, rfl, HR.out.congr fun i _ => (setL_none L l f f (Int.le_refl _) i).symm, World.grownBy.refl _ _, rfl⟩
  case round =>
    obtain ⟨k, hk, hk2, hq, rfl, HL, HG, HS⟩ := hrel
    by_cases hlt : k < t
    · have z0 : k < n := by omega
      have z1 : (0 : Int) ≤ (k : Int) := by omega
      have z2 : (k : Int) < (n : Int) := by omega
      have z3 : (k : Int) < (t : Int) := by omega
      have hc := HL.out.cell z0
      have hf := HL.out.frozen k
      go_wp2
      go_roundg (t - (k + 1))
      case measure => omega
      case rel => exact ⟨k + 1, by omega, Or.inr (by omega), rfl, by go_num, (HL.out.set k l).congr fun i _ => by rw [setL_snoc L l f k (by omega) i]; norm_cast, grown_set HG.out k _, by show (World.setCell _ _ _).heap.size = _; rw [← HS.out]; simp [World.setCell]⟩
    · have z3 : ¬ (k : Int) < (t : Int) := by omega
      go_wp2
      go_end0
      refine ⟨rfl, HL.out.congr fun i hi => setL_same ?_, HG.out, HS.out⟩
      omega
end Go.Proofs.Ytgebmmbnpdhooaa
