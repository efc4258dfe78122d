/- Digits with which a number is written, plainly: no program in this text. -/
import Derived.Test.YtkfgfbdalkifjaaDoorvLt
import Derived.Test.YtkfgfbdalkifjaaDoorgPureB
import Derived.Laws.RangeString
namespace Go.Proofs.YtkfgfbdalkifjaaDoor
set_option linter.unusedVariables false
open Go.RowKit
def dC (d : Nat) : Int := if d < 10 then 48 + (d : Int) else 87 + (d : Int)
theorem dgt_dC {d : Nat} (h : d < 16) : dgt (dC d) = (d : Int) := by
  unfold dC dgt
  by_cases h1 : d < 10
  · rw [if_pos h1, if_pos (by omega)]
    omega
  · rw [if_neg h1, if_neg (by omega), if_pos (by omega)]
    omega
def DB (b : Nat) (l : List Int) : Prop := ∀ x ∈ l, ∃ d, d < b ∧ x = dC d
def vl (b : Nat) : List Int → Nat
  | [] => 0
  | x :: l => (dgt x).toNat * b ^ l.length + vl b l
structure Dg (b n : Nat) (l : List Int) : Prop where
  dig : DB b l
  val : vl b l = n % b ^ l.length
theorem Dg.none (b n : Nat) : Dg b n [] := ⟨fun x hx => by simp at hx, by simp [vl, Nat.mod_one]⟩
theorem Dg.more {b n : Nat} {l : List Int} (h : Dg b n l) (hb : 0 < b) (hb16 : b ≤ 16) : Dg b n (dC (n / b ^ l.length % b) :: l) := by
  have hd : n / b ^ l.length % b < b := Nat.mod_lt _ hb
  refine ⟨fun x hx => ?_, ?_⟩
  · rcases List.mem_cons.1 hx with rfl | hx
    · exact ⟨_, hd, rfl⟩
    · exact h.dig x hx
  · show (dgt (dC _)).toNat * b ^ l.length + vl b l = n % b ^ (l.length + 1)
    rw [dgt_dC (by omega), h.val, Nat.mod_pow_succ, Int.toNat_natCast, Nat.mul_comm, Nat.add_comm]
theorem Dg.full {b n : Nat} {l : List Int} (h : Dg b n l) (hb : 0 < b) (hx : n / b ^ l.length = 0) : vl b l = n := by
  rw [h.val]
  refine Nat.mod_eq_of_lt ?_
  have hp : 0 < b ^ l.length := Nat.pow_pos hb
  rcases Nat.div_eq_zero_iff.1 hx with h0 | h0
  · omega
  · exact h0
theorem numG_vl {b : Nat} (hb : b ≤ 16) : ∀ (l : List Int) (a : Nat), DB b l → a * b ^ l.length + vl b l ≤ 1114111 → numG (b : Int) l (a : Int) = ((a * b ^ l.length + vl b l : Nat) : Int)
  | [], a, _, _ => by simp [numG, vl]
  | x :: l, a, h, hle => by
    obtain ⟨d, hd, rfl⟩ := h _ (List.mem_cons_self ..)
    have hdg := dgt_dC (d := d) (by omega)
    have hv : vl b (dC d :: l) = d * b ^ l.length + vl b l := by
      show (dgt (dC d)).toNat * _ + _ = _
      rw [hdg, Int.toNat_natCast]
    have e : a * b ^ (l.length + 1) + (d * b ^ l.length + vl b l) = (a * b + d) * b ^ l.length + vl b l := by
      rw [Nat.add_mul, Nat.pow_succ, Nat.mul_assoc, Nat.mul_comm b, Nat.add_assoc]
    rw [hv] at hle ⊢
    rw [List.length_cons] at hle ⊢
    rw [e] at hle ⊢
    have hp : 0 < b ^ l.length := Nat.pow_pos (by omega)
    have h1 : a * b + d ≤ (a * b + d) * b ^ l.length := Nat.le_mul_of_pos_right _ hp
    have h2 : a ≤ a * b := Nat.le_mul_of_pos_right _ (by omega)
    show (if dgt (dC d) < 0 ∨ (b : Int) ≤ dgt (dC d) then -1 else numG b l (if (a : Int) ≤ 1114111 then (a : Int) * b + dgt (dC d) else a)) = _
    rw [hdg, if_neg (by omega), if_pos (by omega)]
    rw [← numG_vl hb l (a * b + d) (fun x hx => h x (List.mem_cons_of_mem _ hx)) hle]
    congr 1
theorem num_dg {b n : Nat} (hb : b ≤ 16) {l : List Int} (h : DB b l) (hv : vl b l = n) (h0 : l ≠ []) (hn : n ≤ 1114111) : num (b : Int) l = (n : Int) := by
  unfold num
  rw [if_neg h0]
  have := numG_vl hb l 0 h (by omega)
  rw [show ((0 : Nat) : Int) = 0 from rfl] at this
  rw [this, Nat.zero_mul, Nat.zero_add, hv]
theorem dC_in {d : Nat} (h : d < 16) : (48 ≤ dC d ∧ dC d ≤ 57) ∨ (97 ≤ dC d ∧ dC d ≤ 102) := by
  unfold dC
  split <;> omega
theorem dC_ten {d : Nat} (h : d < 10) : 48 ≤ dC d ∧ dC d ≤ 57 := by
  unfold dC
  split <;> omega
/-- A number's digits, at least so many. -/
structure DT (b k n : Nat) (l : List Int) : Prop where
  dig : DB b l
  val : vl b l = n
  least : k ≤ l.length
  most : l.length ≤ k ∨ 0 < n / b ^ (l.length - 1)
theorem pow_less {b n m j : Nat} (hb : 0 < b) (hn : n < b ^ m) (h : 0 < n / b ^ j) : j < m := by
  rcases Nat.lt_or_ge j m with h1 | h1
  · exact h1
  · have h2 : b ^ m ≤ b ^ j := Nat.pow_le_pow_right hb h1
    rw [Nat.div_eq_of_lt (by omega)] at h
    omega
theorem DT.len {b k n m : Nat} {l : List Int} (h : DT b k n l) (hb : 0 < b) (hn : n < b ^ m) : l.length ≤ max k m := by
  rcases h.most with h1 | h1
  · omega
  · have := pow_less hb hn h1
    omega
/-- The first sign of bytes that begin with a plain one. -/
theorem nx_plain {c : Nat → Int} {n : Nat} {x : Int} (h0 : c 0 = x) (hx : 0 ≤ x ∧ x < 128) (hn : 0 < n) : nx c n = (x, 1) := by
  have hs : (strOfNums (cl c n)).size = n := by rw [strOfNums_size, cl_len]
  have hp : 0 < (strOfNums (cl c n)).size := by omega
  have hb : ((strOfNums (cl c n))[0]'hp).toNat = x.toNat := by
    have h1 := nums_bt (l := cl c n) (i := 0) (x := x) (by rw [cl_at c n 0 hn, h0]) (by omega)
    unfold bt at h1
    have h2 : (strOfNums (cl c n)).get! 0 = (strOfNums (cl c n))[0]'hp := by
      show (strOfNums (cl c n)).data[0]! = _
      rw [getElem!_pos (strOfNums (cl c n)).data 0 hp]
      rfl
    rw [h2] at h1
    omega
  have hd := decode_ascii (strOfNums (cl c n)) 0 hp (by rw [hb]; omega)
  rw [hb] at hd
  unfold nx rn wd
  rw [hd]
  unfold kn
  rw [if_neg (by dsimp only; omega)]
  refine Prod.ext ?_ rfl
  show ((x.toNat : Nat) : Int) = x
  omega
theorem okN_is (n : Nat) (hn : n ≤ 1114111) : okN (n : Int) = (decide (0 < n) && !(decide (55296 ≤ n) && decide (n < 57344))) := by
  unfold okN
  by_cases h1 : 0 < n <;> by_cases h2 : 55296 ≤ n <;> by_cases h3 : n < 57344 <;> simp [h1, h2, h3] <;> omega
end Go.Proofs.YtkfgfbdalkifjaaDoor
