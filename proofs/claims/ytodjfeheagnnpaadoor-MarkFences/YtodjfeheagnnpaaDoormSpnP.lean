/- mark: rows of ticks, plainly; no program in this text. -/
import Derived.Test.YtodjfeheagnnpaaDoormPlnP
namespace Go.Proofs.YtodjfeheagnnpaaDoor
set_option linter.unusedVariables false
open Go.RowKit Go.ChangeShapes
/-- A sign of a text that begins nothing. -/
def pxB (x : Int) : Bool := x != 60 && x != 92 && x != 93 && x != 96
theorem pxB_ne {x : Int} (h : pxB x = true) : x ≠ 60 ∧ x ≠ 92 ∧ x ≠ 93 ∧ x ≠ 96 := by
  unfold pxB at h
  simpa [and_assoc] using h
theorem tx_skip {c : Nat → Int} {n : Nat} (hC : Ch c n) (L : Nat → Int) : ∀ d p q, q - p ≤ d → p ≤ q → q ≤ n → (∀ j, p ≤ j → j < q → pxB (c j) = true) → tx c n p L = tx c n q L
  | 0, p, q, hd, hpq, hq, h => by rw [show p = q by omega]
  | d + 1, p, q, hd, hpq, hq, h => by
    rcases Nat.lt_or_ge p q with h1 | h1
    · have hp := pxB_ne (h p (Nat.le_refl _) h1)
      have hE : txE c n p = p + 1 := by unfold txE; rw [if_neg hp.2.1, if_neg hp.2.2.2, if_neg hp.2.2.1, if_neg hp.1]
      have hL : txL L c n p = L := by unfold txL; rw [if_neg hp.2.1, if_neg hp.2.2.2, if_neg hp.2.2.1, if_neg hp.1]
      rw [tx_one hC (by omega), hE, hL]
      exact tx_skip hC L d (p + 1) q (by omega) (by omega) hq (fun j hj => h j (by omega))
    · rw [show p = q by omega]
theorem tk_skip {k : Nat} (hk : 0 < k) {c : Nat → Int} {n : Nat} : ∀ d p q, q - p ≤ d → p ≤ q → q ≤ n → (∀ j, p ≤ j → j < q → pxB (c j) = true) → tk k c n p = tk k c n q
  | 0, p, q, hd, hpq, hq, h => by rw [show p = q by omega]
  | d + 1, p, q, hd, hpq, hq, h => by
    rcases Nat.lt_or_ge p q with h1 | h1
    · have hp := pxB_ne (h p (Nat.le_refl _) h1)
      have h0 : rwP 96 (sf c p) (n - p) = 0 := rwP_zero hp.2.2.2
      rw [tk_miss (by omega) (by omega), h0]
      exact tk_skip hk d (p + 1) q (by omega) (by omega) hq (fun j hj => h j (by omega))
    · rw [show p = q by omega]
theorem row_is {c : Nat → Int} {n p k : Nat} (hp : p + k ≤ n) (h : ∀ j, p ≤ j → j < p + k → c j = 96) (hh : p + k < n → c (p + k) ≠ 96) : rwP 96 (sf c p) (n - p) = k :=
  rwP_is (by omega) (fun i hi => h (p + i) (by omega) (by omega)) (fun h1 => hh (by omega))
/-- Ticks, plain signs, other ticks, plain signs, from a place on. -/
structure Spn (c : Nat → Int) (n x p2 y p4 : Nat) : Prop where
  ch : Ch c n
  c0 : c 0 = 122
  c1 : c 1 = 32
  hx : 0 < x
  l1 : 2 + x < p2
  l2 : p2 + y ≤ p4
  l3 : p4 ≤ n
  xy : x ≠ y
  hy : 0 < y → p2 + y < p4
  t : ∀ j, 2 ≤ j → j < 2 + x → c j = 96
  i : ∀ j, 2 + x ≤ j → j < p2 → pxB (c j) = true
  o : ∀ j, p2 ≤ j → j < p2 + y → c j = 96
  e : ∀ j, p2 + y ≤ j → j < p4 → pxB (c j) = true
  nl : ∀ j, j < n → c j ≠ 10
variable {c : Nat → Int} {n x p2 y p4 : Nat}
theorem Spn.txt (h : Spn c n x p2 y p4) : mkA c n = tx c n 0 (fun _ => 1) := by
  have h0 : 0 < n := by have := h.l1; have := h.l2; have := h.l3; omega
  have hf : frP c n = 0 := fr_none h0 (by rw [h.c0]; decide)
  have hn : fs (fun j => c j == 10) n 0 = n := fs_is (Nat.zero_le _) (Nat.le_refl _) (fun k _ hk => by have := h.nl k hk; simpa using this) (fun hh => absurd hh (Nat.lt_irrefl _))
  have he : lnE c n 0 = n := by unfold lnE; rw [hn, if_neg (Nat.lt_irrefl _)]
  have hl : ln c 0 n = c := by
    funext i
    unfold ln tr sf
    rw [Nat.sub_zero, Nat.zero_add]
    by_cases hi : i < n
    · rw [if_pos hi]
    · rw [if_neg hi, h.ch.2 i (by omega)]
  have ht : tr c n = c := by
    funext i
    unfold tr
    by_cases hi : i < n
    · rw [if_pos hi]
    · rw [if_neg hi, h.ch.2 i (by omega)]
  have hL : setL (fun _ => (1 : Int)) 4 0 ((0 : Nat) : Int) = fun _ => 1 := funext fun i => setL_none _ 4 0 _ (by simp) i
  have hi0 : indP c n = 0 := by
    have : rwP 32 c n = 0 := rwP_zero (by rw [h.c0]; decide)
    unfold indP
    rw [this]
    show (if c 0 = 9 then 4 else 0) = 0
    rw [if_neg (by rw [h.c0]; decide)]
  have hb0 : bdC c n 0 = 122 := by
    unfold bdC
    rw [hi0, if_neg (by decide)]
    exact h.c0
  have ho : opOk c n = false := by unfold opOk; rw [hb0]; simp
  have hd : dfP c n = false := by unfold dfP; rw [hb0]; simp
  have htm : tmN c n ≠ 0 := by
    have : ∀ k, 0 < k → tmN c k ≠ 0 := fun k => by
      induction k with
      | zero => intro h; omega
      | succ k ih =>
        intro _
        show (if blB (c k) = true then tmN c k else k + 1) ≠ 0
        rcases Nat.eq_zero_or_pos k with h1 | h1
        · subst h1
          rw [h.c0, if_neg (by decide)]
          decide
        · split
          · exact ih h1
          · omega
    exact this n h0
  unfold mkA
  rw [hf, hL, mk_one h0, he]
  rw [mk_end (Nat.le_refl _)]
  unfold lnL
  rw [if_neg (by decide), Nat.sub_zero, hl, if_neg htm, hi0, ho, hd, ht]
  rfl
theorem Spn.tkx (h : Spn c n x p2 y p4) : tk x c n (2 + x) = tk x c n p4 := by
  have l1 := h.l1
  have l2 := h.l2
  have l3 := h.l3
  rw [tk_skip h.hx _ (2 + x) p2 (Nat.le_refl _) (by omega) (by omega) h.i]
  have hy : tk x c n p2 = tk x c n (p2 + y) := by
    rcases Nat.eq_zero_or_pos y with h0 | h0
    · rw [h0, Nat.add_zero]
    · have h1 := h.hy h0
      have hr : rwP 96 (sf c p2) (n - p2) = y := row_is (by omega) h.o (fun _ => (pxB_ne (h.e (p2 + y) (Nat.le_refl _) h1)).2.2.2)
      rw [tk_miss (by omega) (by rw [hr]; exact fun e => h.xy e.symm), hr, Nat.max_eq_left h0]
  rw [hy]
  exact tk_skip h.hx _ (p2 + y) p4 (Nat.le_refl _) l2 l3 h.e
theorem Spn.tcx (h : Spn c n x p2 y p4) : tcK c n 2 = x := by
  have l1 := h.l1
  have l2 := h.l2
  have l3 := h.l3
  exact row_is (by omega) h.t (fun _ => (pxB_ne (h.i (2 + x) (Nat.le_refl _) l1)).2.2.2)
theorem Spn.to2 (h : Spn c n x p2 y p4) (L : Nat → Int) : tx c n 0 L = tx c n (tcE c n 2) (tcL L c n 2) := by
  have l1 := h.l1
  have l2 := h.l2
  have l3 := h.l3
  have hx := h.hx
  have h96 : c 2 = 96 := h.t 2 (Nat.le_refl _) (by omega)
  rw [tx_skip h.ch L 2 0 2 (by omega) (by omega) (by omega) (fun j _ hj => by
    rcases (show j = 0 ∨ j = 1 by omega) with rfl | rfl
    · rw [h.c0]; rfl
    · rw [h.c1]; rfl), tx_one h.ch (by omega)]
  have hE : txE c n 2 = tcE c n 2 := by unfold txE; rw [if_neg (by rw [h96]; decide), if_pos h96]
  have hL : txL L c n 2 = tcL L c n 2 := by unfold txL; rw [if_neg (by rw [h96]; decide), if_pos h96]
  rw [hE, hL]
/-- Shut: code from the first tick on, up to the last. -/
theorem Spn.shut (h : Spn c n x p2 y p4) (hn : p4 + x + 2 = n) (hz : ∀ j, p4 ≤ j → j < p4 + x → c j = 96) (hw : ∀ j, p4 + x ≤ j → j < n → pxB (c j) = true) : mkA c n = setL (fun _ => 1) 4 2 ((n - 2 : Nat) : Int) := by
  have l1 := h.l1
  have l2 := h.l2
  have hx := h.hx
  have hr : rwP 96 (sf c p4) (n - p4) = x := row_is (by omega) hz (fun _ => (pxB_ne (hw (p4 + x) (Nat.le_refl _) (by omega))).2.2.2)
  have ht : tk x c n (2 + x) = some p4 := by rw [h.tkx, tk_hit (by omega) hr]
  rw [h.txt, h.to2]
  unfold tcE tcL
  rw [h.tcx, ht]
  dsimp only
  rw [tx_skip h.ch _ _ (p4 + x) n (Nat.le_refl _) (by omega) (Nat.le_refl _) hw, tx_end (Nat.le_refl _), show p4 + x = n - 2 by omega]
  rfl
/-- Open: prose. -/
theorem Spn.opn (h : Spn c n x p2 y n) : mkA c n = fun _ => 1 := by
  have l1 := h.l1
  have l2 := h.l2
  have hx := h.hx
  have ht : tk x c n (2 + x) = none := by rw [h.tkx]; exact tk_end (Nat.le_refl _)
  rw [h.txt, h.to2]
  unfold tcE tcL
  rw [h.tcx, ht]
  dsimp only
  rw [tx_skip h.ch _ _ (2 + x) p2 (Nat.le_refl _) (by omega) (by omega) h.i]
  have hy : tx c n p2 (fun _ => 1) = tx c n (p2 + y) (fun _ => 1) := by
    rcases Nat.eq_zero_or_pos y with h0 | h0
    · rw [h0, Nat.add_zero]
    · have h1 := h.hy h0
      have h96 : c p2 = 96 := h.o p2 (Nat.le_refl _) (by omega)
      have hr : tcK c n p2 = y := row_is (by omega) h.o (fun _ => (pxB_ne (h.e (p2 + y) (Nat.le_refl _) h1)).2.2.2)
      have hk : tk y c n (p2 + y) = none := by
        rw [tk_skip h0 _ (p2 + y) n (Nat.le_refl _) l2 (Nat.le_refl _) h.e]
        exact tk_end (Nat.le_refl _)
      have hE : txE c n p2 = p2 + y := by unfold txE; rw [if_neg (by rw [h96]; decide), if_pos h96]; unfold tcE; rw [hr, hk]
      have hL : txL (fun _ => 1) c n p2 = fun _ => 1 := by unfold txL; rw [if_neg (by rw [h96]; decide), if_pos h96]; unfold tcL; rw [hr, hk]
      rw [tx_one h.ch (by omega), hE, hL]
  rw [hy, tx_skip h.ch _ _ (p2 + y) n (Nat.le_refl _) l2 (Nat.le_refl _) h.e]
  exact tx_end (Nat.le_refl _) _
/-- Places in a part of a list. -/
theorem seg_at {P : Int → Prop} (A B C : List Int) (h : ∀ x ∈ B, P x) : ∀ j, A.length ≤ j → j < A.length + B.length → P (cL (A ++ (B ++ C)) j) := fun j h1 h2 => by
  obtain ⟨k, rfl⟩ : ∃ k, j = A.length + k := ⟨j - A.length, by omega⟩
  have hk : k < B.length := by omega
  rw [cL_right, cL_left _ _ hk, cL_in (List.getElem?_eq_getElem hk)]
  exact h _ (List.getElem_mem hk)
def tkR (k : Nat) : List Int := List.replicate k 96
theorem tkR_len (k : Nat) : (tkR k).length = k := List.length_replicate ..
theorem tkR_all (k : Nat) : ∀ x ∈ tkR k, x = 96 := fun x hx => List.eq_of_mem_replicate hx
/-- Letters and blanks. -/
def inB (x : Int) : Bool := x == 97 || x == 98 || x == 99 || x == 32 || x == 100
theorem inB_ok {x : Int} (h : inB x = true) : pxB x = true ∧ x ≠ 10 ∧ 0 ≤ x ∧ x < 256 := by
  unfold inB at h
  simp only [Bool.or_eq_true, beq_iff_eq] at h
  rcases h with (((rfl | rfl) | rfl) | rfl) | rfl <;> decide
theorem spn_of {x y : Nat} {I E Z : List Int} (hx : 0 < x) (hI : ∀ a ∈ I, inB a = true) (hI0 : 0 < I.length) (hxy : x ≠ y) (hy : 0 < y → 0 < E.length) (hE : ∀ a ∈ E, a = 101) (hZ : ∀ a ∈ Z, a = 96 ∨ a = 32 ∨ a = 119) :
    Spn (cL ([122, 32] ++ (tkR x ++ (I ++ (tkR y ++ (E ++ Z)))))) ([122, 32] ++ (tkR x ++ (I ++ (tkR y ++ (E ++ Z))))).length x (2 + x + I.length) y (2 + x + I.length + y + E.length) := by
  have hlen : ([122, 32] ++ (tkR x ++ (I ++ (tkR y ++ (E ++ Z))))).length = 2 + x + I.length + y + E.length + Z.length := by
    simp only [List.length_append, tkR_len, List.length_cons, List.length_nil]
    omega
  have hall : ∀ a ∈ ([122, 32] ++ (tkR x ++ (I ++ (tkR y ++ (E ++ Z)))) : List Int), (0 ≤ a ∧ a < 256) ∧ a ≠ 10 := fun a ha => by
    simp only [List.mem_append] at ha
    rcases ha with h | h | h | h | h | h
    · simp at h; rcases h with rfl | rfl <;> decide
    · rw [tkR_all x a h]; decide
    · exact ⟨(inB_ok (hI a h)).2.2, (inB_ok (hI a h)).2.1⟩
    · rw [tkR_all y a h]; decide
    · rw [hE a h]; decide
    · rcases hZ a h with rfl | rfl | rfl <;> decide
  have e1 : ([122, 32] ++ (tkR x ++ (I ++ (tkR y ++ (E ++ Z)))) : List Int) = ([122, 32] ++ tkR x) ++ (I ++ (tkR y ++ (E ++ Z))) := by simp
  have e2 : ([122, 32] ++ (tkR x ++ (I ++ (tkR y ++ (E ++ Z)))) : List Int) = ([122, 32] ++ tkR x ++ I) ++ (tkR y ++ (E ++ Z)) := by simp
  have e3 : ([122, 32] ++ (tkR x ++ (I ++ (tkR y ++ (E ++ Z)))) : List Int) = ([122, 32] ++ tkR x ++ I ++ tkR y) ++ (E ++ Z) := by simp
  have f1 : ([122, 32] ++ tkR x : List Int).length = 2 + x := by rw [List.length_append, tkR_len]; rfl
  have f2 : ([122, 32] ++ tkR x ++ I : List Int).length = 2 + x + I.length := by rw [List.length_append, f1]
  have f3 : ([122, 32] ++ tkR x ++ I ++ tkR y : List Int).length = 2 + x + I.length + y := by rw [List.length_append, f2, tkR_len]
  have s1 := seg_at (P := fun a => a = 96) [122, 32] (tkR x) (I ++ (tkR y ++ (E ++ Z))) (tkR_all x)
  have s2 := seg_at (P := fun a => pxB a = true) ([122, 32] ++ tkR x) I (tkR y ++ (E ++ Z)) (fun a ha => (inB_ok (hI a ha)).1)
  have s3 := seg_at (P := fun a => a = 96) ([122, 32] ++ tkR x ++ I) (tkR y) (E ++ Z) (tkR_all y)
  have s4 := seg_at (P := fun a => pxB a = true) ([122, 32] ++ tkR x ++ I ++ tkR y) E Z (fun a ha => by rw [hE a ha]; rfl)
  rw [tkR_len] at s1
  rw [← e1, f1] at s2
  rw [← e2, f2, tkR_len] at s3
  rw [← e3, f3] at s4
  exact ⟨cL_ch fun a ha => (hall a ha).1, rfl, rfl, hx, by omega, by omega, by omega, hxy, fun h => by have := hy h; omega, s1, s2, s3, s4, fun j hj => by
    rw [cL_in (List.getElem?_eq_getElem hj)]
    exact (hall _ (List.getElem_mem hj)).2⟩
end Go.Proofs.YtodjfeheagnnpaaDoor
