/- Package bytes over bytes that lie wherever. -/
import Derived.Test.YtodjfeheagnnpaaDoorhShelf
import Derived.Test.YtodjfeheagnnpaaDoorhChr
import Derived.Lib.IndexMore
namespace Go.Proofs.YtodjfeheagnnpaaDoor
set_option linter.unusedVariables false
open Go.RowKit Go.ChangeShapes
/-- Bytes as a list. -/
def cl (c : Nat → Int) (n : Nat) : List Int := (List.range n).map c
theorem cl_len (c : Nat → Int) (n : Nat) : (cl c n).length = n := by simp [cl]
theorem cl_at (c : Nat → Int) (n i : Nat) (h : i < n) : (cl c n)[i]? = some (c i) := by simp [cl, List.getElem?_range h]
theorem cl_getD (c : Nat → Int) (n i : Nat) (h : i < n) : (cl c n).getD i 0 = c i := by rw [List.getD_eq_getElem?_getD, cl_at c n i h]; rfl
theorem BC.at {w : World} {ad : Option Addr} {n : Nat} {c : Nat → Int} (h : BC w ad n c) (hn : 0 < n) : ∃ b off, ad = some ⟨b, off, none⟩ ∧ ∀ i, i < n → w.cell? ⟨b, off + i, none⟩ = some (.int .u8 (c i)) := by
  obtain ⟨b, off, e, _⟩ := h 0 hn
  refine ⟨b, off, e, fun i hi => ?_⟩
  obtain ⟨b', off', e', hc⟩ := h i hi
  rw [e] at e'
  injection e' with e'
  injection e' with e1 e2 _
  subst e1 e2
  exact hc
theorem BC.inn {w : World} {ad : Option Addr} {n : Nat} {c : Nat → Int} (h : BC w ad n c) : Lib.BytesIn w ad n (cl c n) := fun hn => by
  obtain ⟨b, off, e, hc⟩ := h.at hn
  exact ⟨b, off, e, fun i hi => by rw [cl_getD c n i hi]; exact hc i hi⟩
theorem BC.zero (w : World) (ad : Option Addr) (c : Nat → Int) : BC w ad 0 c := fun i hi => absurd hi (Nat.not_lt_zero _)
theorem BC.congr {w : World} {ad : Option Addr} {n : Nat} {c c' : Nat → Int} (h : BC w ad n c) (e : ∀ i, i < n → c i = c' i) : BC w ad n c' := fun i hi => by
  obtain ⟨b, off, e1, hc⟩ := h i hi
  exact ⟨b, off, e1, by rw [← e i hi]; exact hc⟩
theorem BC.add {w : World} {ad : Option Addr} {n : Nat} {c : Nat → Int} (h : BC w ad n c) {a : Addr} (ha : ad = some a) (i : Nat) (hi : i < n) : w.cell? (a.add i) = some (.int .u8 (c i)) := by
  obtain ⟨b, off, e, hc⟩ := h i hi
  rw [ha] at e
  injection e with e
  subst e
  have hadd : (⟨b, off, none⟩ : Addr).add i = ⟨b, off + i, none⟩ := by unfold Addr.add; split <;> simp_all
  rw [hadd]
  exact hc
/-- From a place on. -/
theorem BC.from {w : World} {b off n cap : Nat} {c : Nat → Int} (h : BC w (some ⟨b, off, none⟩) n c) (i : Nat) (hi : i ≤ n) (hn : n ≤ cap) : BC w (if cap = i then some ⟨b, off, none⟩ else some ⟨b, off + i, none⟩) (n - i) (fun j => c (i + j)) := fun j hj => by
  rw [if_neg (by omega)]
  obtain ⟨b', off', e, hc⟩ := h (i + j) (by omega)
  injection e with e
  injection e with e1 e2 _
  subst e1 e2
  exact ⟨b, off + i, rfl, by rw [Nat.add_assoc]; exact hc⟩
theorem BC.upto {w : World} {ad : Option Addr} {n m : Nat} {c : Nat → Int} (h : BC w ad n c) (hm : m ≤ n) : BC w ad m c := fun j hj => h j (by omega)
theorem Ch.from {c : Nat → Int} {n : Nat} (h : Ch c n) (i : Nat) (hi : i ≤ n) : Ch (fun j => c (i + j)) (n - i) := ⟨fun j hj => h.1 (i + j) (by omega), fun j hj => h.2 (i + j) (by omega)⟩
theorem oc_shift (t : List Int) (c : Nat → Int) (a : Nat) : ∀ i, oc t (fun j => c (a + j)) i = oc t c (a + i) := by
  induction t with
  | nil => intro i; rfl
  | cons x t ih =>
    intro i
    show ((c (a + i) == x) && oc t (fun j => c (a + j)) (i + 1)) = _
    rw [ih]
    rfl
theorem fs_shift (P : Nat → Bool) (n a : Nat) (ha : a ≤ n) : fs P n a = a + fs (fun j => P (a + j)) (n - a) 0 := by
  have h1 := fs_le (fun j => P (a + j)) (n := n - a) (i := 0) (Nat.zero_le _)
  refine fs_is (by omega) (by omega) (fun k h2 h3 => ?_) (fun h2 => fs_hit (P := fun j => P (a + j)) (n := n - a) (i := 0) (by omega))
  have := fs_before (P := fun j => P (a + j)) (n := n - a) (i := 0) (k := k - a) (Nat.zero_le _) (by omega)
  rw [show a + (k - a) = k by omega] at this
  exact this
def Byt (t : List Int) : Prop := ∀ x ∈ t, 0 ≤ x ∧ x < 256
theorem byte_eq {x y : Int} (hx : 0 ≤ x ∧ x < 256) (hy : 0 ≤ y ∧ y < 256) : (UInt8.ofNat x.toNat == UInt8.ofNat y.toNat) = (y == x) := by
  by_cases e : y = x
  · subst e; simp
  · have h1 : (y == x) = false := by simpa using e
    rw [h1]
    simp only [beq_eq_false_iff_ne, ne_eq]
    intro h
    have := congrArg UInt8.toNat h
    rw [UInt8.toNat_ofNat', UInt8.toNat_ofNat', Nat.mod_eq_of_lt (by omega), Nat.mod_eq_of_lt (by omega)] at this
    omega
theorem occ_oc {c : Nat → Int} {n : Nat} (hC : Ch c n) : ∀ (t : List Int) (ht : Byt t) (i : Nat), Lib.occAt (Lib.bytesOf (cl c n)) (Lib.bytesOf t) i = oc t c i
  | [], _, i => by simp [Lib.occAt, Lib.bytesOf, oc]
  | x :: t, ht, i => by
    have ih := occ_oc hC t (fun y hy => ht y (List.mem_cons_of_mem _ hy)) (i + 1)
    unfold Lib.occAt at ih ⊢
    have hl : (Lib.bytesOf (cl c n)).length = n := by simp [Lib.bytesOf, cl_len]
    by_cases hi : i < n
    · rw [List.drop_eq_getElem_cons (by rw [hl]; exact hi)]
      have he : (Lib.bytesOf (cl c n))[i]'(by rw [hl]; exact hi) = UInt8.ofNat (c i).toNat := by simp [Lib.bytesOf, cl]
      rw [he]
      show ((UInt8.ofNat x.toNat == UInt8.ofNat (c i).toNat) && (Lib.bytesOf t).isPrefixOf _) = ((c i == x) && oc t c (i + 1))
      rw [ih, byte_eq (ht x List.mem_cons_self) (hC.1 i hi)]
    · rw [List.drop_eq_nil_of_le (by rw [hl]; omega)]
      show false = ((c i == x) && oc t c (i + 1))
      rw [hC.2 i (by omega)]
      have := ht x List.mem_cons_self
      have h1 : ((-1 : Int) == x) = false := by simp only [beq_eq_false_iff_ne]; omega
      rw [h1]
      rfl
theorem pre_oc {c : Nat → Int} {n : Nat} (hC : Ch c n) (t : List Int) (ht : Byt t) : Lib.hasPrefix (Lib.bytesOf (cl c n)) (Lib.bytesOf t) = oc t c 0 := occ_oc hC t ht 0
/-- Where a text is found, as bytes.Index tells it. -/
def ixI (t : List Int) (c : Nat → Int) (n : Nat) : Int := if fs (oc t c) n 0 < n then (fs (oc t c) n 0 : Int) else -1
theorem index_ix {c : Nat → Int} {n : Nat} (hC : Ch c n) (t : List Int) (ht : Byt t) (h0 : t ≠ []) : Lib.index (Lib.bytesOf (cl c n)) (Lib.bytesOf t) = ixI t c n := by
  unfold ixI
  have hl : (Lib.bytesOf (cl c n)).length = n := by simp [Lib.bytesOf, cl_len]
  have hend : ∀ j, n ≤ j → oc t c j = false := by
    intro j hj
    cases t with
    | nil => exact absurd rfl h0
    | cons x t =>
      show ((c j == x) && _) = false
      rw [hC.2 j hj]
      have := ht x List.mem_cons_self
      have h1 : ((-1 : Int) == x) = false := by simp only [beq_eq_false_iff_ne]; omega
      rw [h1]
      rfl
  rcases Lib.index_spec (Lib.bytesOf (cl c n)) (Lib.bytesOf t) with ⟨e, hno⟩ | ⟨i, e, hi, hoc, hno⟩
  · have hf : fs (oc t c) n 0 = n := fs_is (Nat.zero_le _) (Nat.le_refl _) (fun k _ hk => by rw [← occ_oc hC t ht k]; exact hno k (by omega)) (fun h => by omega)
    rw [e, hf, if_neg (Nat.lt_irrefl _)]
  · rw [occ_oc hC t ht] at hoc
    have hin : i < n := by
      rcases Nat.lt_or_ge i n with h | h
      · exact h
      · rw [hend i h] at hoc; cases hoc
    have hf : fs (oc t c) n 0 = i := fs_is (Nat.zero_le _) (Nat.le_of_lt hin) (fun k _ hk => by rw [← occ_oc hC t ht k]; exact hno k hk) (fun _ => hoc)
    rw [e, hf, if_pos hin]
theorem hasP_any {w : World} {ad p2 : Option Addr} {n cap m d : Nat} {c : Nat → Int} {t : List Int} (hC : Ch c n) (h1 : BC w ad n c) (hcap : n ≤ cap) (h2 : BC w p2 m (fun j => t.getD j 0)) (hm : t.length = m) (ht : Byt t) :
    Calls Tryd.prog 50 #[.slice ad n cap, .slice p2 m d] w fun e w' => e = .returned (.bool (oc t c 0)) ∧ w' = w := by
  have := Tryd.bytes_HasPrefix_all ad p2 n cap m d (cl c n) t w (cl_len c n) hm hcap h1.inn (fun hm0 => by
    obtain ⟨b, off, e, hc⟩ := h2.at hm0
    exact ⟨b, off, e, hc⟩)
  rw [pre_oc hC t ht] at this
  exact this
theorem trimV_yes {w : World} {ad : Option Addr} {n cap : Nat} {c : Nat → Int} {t : List Int} (hC : Ch c n) (h1 : BC w ad n c) (hcap : n ≤ cap) (ht : Byt t) (h0 : t ≠ []) (h : oc t c 0 = true) :
    ∃ ad', Lib.trimPrefixV ad n cap (cl c n) t = .slice ad' (n - t.length) (cap - t.length) ∧ BC w ad' (n - t.length) (fun j => c (t.length + j)) ∧ t.length ≤ n := by
  rw [← pre_oc hC t ht] at h
  have hle := Lib.hasPrefix_le h
  simp only [Lib.bytesOf, List.length_map, cl_len] at hle
  have hpos : 0 < t.length := List.length_pos_iff.2 h0
  obtain ⟨b, off, rfl, hc⟩ := h1.at (by omega)
  cases t with
  | nil => exact absurd rfl h0
  | cons x t =>
    refine ⟨_, ?_, BC.from h1 (x :: t).length hle hcap, hle⟩
    show Lib.bytesTrimPrefix b off n cap (cl c n) (x :: t) = _
    unfold Lib.bytesTrimPrefix
    rw [if_pos h]
    rfl
theorem trimV_no {ad : Option Addr} {n cap : Nat} {c : Nat → Int} {t : List Int} (hC : Ch c n) (ht : Byt t) (h : oc t c 0 = false) : Lib.trimPrefixV ad n cap (cl c n) t = .slice ad n cap := by
  rw [← pre_oc hC t ht] at h
  unfold Lib.trimPrefixV
  split
  · unfold Lib.bytesTrimPrefix
    rw [h]
    rfl
  · rfl
theorem cutP_yes {w : World} {ad p2 : Option Addr} {n cap m d : Nat} {c : Nat → Int} {t : List Int} (hC : Ch c n) (h1 : BC w ad n c) (hcap : n ≤ cap) (h2 : BC w p2 m (fun j => t.getD j 0)) (hm : t.length = m) (ht : Byt t) (h0 : t ≠ []) (h : oc t c 0 = true) :
    Calls Tryd.prog 35 #[.slice ad n cap, .slice p2 m d] w fun e w' => ∃ ad', e = .returned (.tuple #[.slice ad' (n - m) (cap - m), .bool true]) ∧ w' = w ∧ BC w ad' (n - m) (fun j => c (m + j)) ∧ m ≤ n := by
  have := Tryd.bytes_CutPrefix_all ad p2 n cap m d (cl c n) t w (cl_len c n) hm hcap h1.inn (fun hm0 => by
    obtain ⟨b, off, e, hc⟩ := h2.at hm0
    exact ⟨b, off, e, hc⟩)
  subst hm
  obtain ⟨ad', e1, hb, hle⟩ := trimV_yes hC h1 hcap ht h0 h
  rw [pre_oc hC t ht, h, e1] at this
  exact this.mono fun e w' ⟨h3, h4⟩ => ⟨ad', h3, h4, hb, hle⟩
theorem cutP_no {w : World} {ad p2 : Option Addr} {n cap m d : Nat} {c : Nat → Int} {t : List Int} (hC : Ch c n) (h1 : BC w ad n c) (hcap : n ≤ cap) (h2 : BC w p2 m (fun j => t.getD j 0)) (hm : t.length = m) (ht : Byt t) (h : oc t c 0 = false) :
    Calls Tryd.prog 35 #[.slice ad n cap, .slice p2 m d] w fun e w' => e = .returned (.tuple #[.slice ad n cap, .bool false]) ∧ w' = w := by
  have := Tryd.bytes_CutPrefix_all ad p2 n cap m d (cl c n) t w (cl_len c n) hm hcap h1.inn (fun hm0 => by
    obtain ⟨b, off, e, hc⟩ := h2.at hm0
    exact ⟨b, off, e, hc⟩)
  rw [pre_oc hC t ht, h, trimV_no hC ht h] at this
  exact this
theorem trimP_yes {w : World} {ad p2 : Option Addr} {n cap m d : Nat} {c : Nat → Int} {t : List Int} (hC : Ch c n) (h1 : BC w ad n c) (hcap : n ≤ cap) (h2 : BC w p2 m (fun j => t.getD j 0)) (hm : t.length = m) (ht : Byt t) (h0 : t ≠ []) (h : oc t c 0 = true) :
    Calls Tryd.prog 36 #[.slice ad n cap, .slice p2 m d] w fun e w' => ∃ ad', e = .returned (.slice ad' (n - m) (cap - m)) ∧ w' = w ∧ BC w ad' (n - m) (fun j => c (m + j)) ∧ m ≤ n := by
  have := Tryd.bytes_TrimPrefix_all ad p2 n cap m d (cl c n) t w (cl_len c n) hm hcap h1.inn (fun hm0 => by
    obtain ⟨b, off, e, hc⟩ := h2.at hm0
    exact ⟨b, off, e, hc⟩)
  subst hm
  obtain ⟨ad', e1, hb, hle⟩ := trimV_yes hC h1 hcap ht h0 h
  rw [e1] at this
  exact this.mono fun e w' ⟨h3, h4⟩ => ⟨ad', h3, h4, hb, hle⟩
theorem trimP_no {w : World} {ad p2 : Option Addr} {n cap m d : Nat} {c : Nat → Int} {t : List Int} (hC : Ch c n) (h1 : BC w ad n c) (hcap : n ≤ cap) (h2 : BC w p2 m (fun j => t.getD j 0)) (hm : t.length = m) (ht : Byt t) (h : oc t c 0 = false) :
    Calls Tryd.prog 36 #[.slice ad n cap, .slice p2 m d] w fun e w' => e = .returned (.slice ad n cap) ∧ w' = w := by
  have := Tryd.bytes_TrimPrefix_all ad p2 n cap m d (cl c n) t w (cl_len c n) hm hcap h1.inn (fun hm0 => by
    obtain ⟨b, off, e, hc⟩ := h2.at hm0
    exact ⟨b, off, e, hc⟩)
  rw [trimV_no hC ht h] at this
  exact this
theorem idxB_any {w : World} {ad : Option Addr} {n cap : Nat} {c : Nat → Int} (hC : Ch c n) (h1 : BC w ad n c) (h0 : ad ≠ none) (q : Int) (hq : 0 ≤ q ∧ q < 256) :
    Calls Tryd.prog 54 #[.slice ad n cap, .int .u8 q] w fun e w' => e = .returned (.int .i64 (ixI [q] c n)) ∧ w' = w := by
  obtain ⟨a, rfl⟩ := Option.ne_none_iff_exists'.1 h0
  have := Tryd.bytes_IndexByte_at a n cap (cl c n) q w (cl_len c n) (fun i hi => by rw [cl_getD c n i hi]; exact h1.add rfl i hi)
  rw [← Lib.index_one, show [(q.toNat.toUInt8)] = Lib.bytesOf [q] from rfl, index_ix hC [q] (fun x hx => by rw [List.mem_singleton] at hx; rw [hx]; exact hq) (by simp)] at this
  exact this
theorem clone_any {w : World} {ad : Option Addr} {n cap : Nat} {c : Nat → Int} (h1 : BC w ad n c) (hn : n ≤ 1000000000) :
    Calls Tryd.prog 38 #[.slice ad n cap] w fun e w' => ∃ v', e = .returned v' ∧ w'.ownsRow w.heap.size 5 1 v' n ((cl c n).map (Value.int .u8)) ∧ Below w.heap.size w w' := by
  cases ad with
  | none =>
    have h0 : n = 0 := by
      rcases Nat.eq_zero_or_pos n with h | h
      · exact h
      · obtain ⟨b, off, e, _⟩ := h1 0 h; cases e
    subst h0
    refine (Tryd.bytes_Clone_nil 0 cap w).mono ?_
    rintro e w' ⟨rfl, hw⟩
    subst w'
    exact ⟨_, rfl, World.ownsRow_nil _ _ _ _, Below.refl _ _⟩
  | some a =>
    refine (Tryd.bytes_Clone_at a n cap (cl c n) w (cl_len c n) (by omega) (fun i hi => by rw [cl_getD c n i hi]; exact h1.add rfl i hi)).mono ?_
    rintro e w' ⟨v', rfl, h2, -, h3⟩
    exact ⟨v', rfl, h2, h3⟩
end Go.Proofs.YtodjfeheagnnpaaDoor
