/- src: remarks in one another, plainly. -/
import Derived.Test.YtgebmmbnpdhooaasLawP
namespace Go.Proofs.Ytgebmmbnpdhooaa
set_option linter.unusedVariables false
open Go.RowKit Go.ChangeShapes
def rep (n : Nat) (t : List Int) : List Int := (List.replicate n t).flatten
theorem rep_cons (n : Nat) (t : List Int) : rep (n + 1) t = t ++ rep n t := by
  unfold rep
  rw [List.replicate_succ, List.flatten_cons]
theorem rep_snoc (n : Nat) (t : List Int) : rep (n + 1) t = rep n t ++ t := by
  unfold rep
  rw [List.replicate_succ', List.flatten_append]
  simp
theorem rep_len (n : Nat) (t : List Int) : (rep n t).length = n * t.length := by
  induction n with
  | zero => simp [rep]
  | succ n ih => rw [rep_cons, List.length_append, ih, Nat.add_mul]; omega
theorem rep_byt {t : List Int} (h : Byt t) (n : Nat) : Byt (rep n t) := fun x hx => by
  unfold rep at hx
  obtain ⟨l, hl, hx⟩ := List.mem_flatten.1 hx
  rw [List.eq_of_mem_replicate hl] at hx
  exact h x hx
theorem rep_at (t r : List Int) : ∀ (n k j : Nat), k < n → j < t.length → cL (rep n t ++ r) (k * t.length + j) = cL t j
  | 0, k, j, h, _ => absurd h (Nat.not_lt_zero _)
  | n + 1, 0, j, h, hj => by
    rw [rep_cons, Nat.zero_mul, Nat.zero_add, List.append_assoc, cL_left _ _ hj]
  | n + 1, k + 1, j, h, hj => by
    rw [rep_cons, List.append_assoc, show (k + 1) * t.length + j = t.length + (k * t.length + j) by rw [Nat.add_mul]; omega, cL_right]
    exact rep_at t r n k j (by omega) hj
def tO : List Int := [47, 42, 32, 97, 32]
def tS : List Int := [42, 47, 32]
def neB (n m : Nat) : List Int := rep n tO ++ (rep m tS ++ [32, 120])
theorem neB_len (n m : Nat) : (neB n m).length = 5 * n + 3 * m + 2 := by
  unfold neB
  rw [List.length_append, List.length_append, rep_len, rep_len]
  show n * 5 + (m * 3 + 2) = _
  omega
theorem neB_byt (n m : Nat) : Byt (neB n m) := byt_app (rep_byt (byt_lit _ rfl) n) (byt_app (rep_byt (byt_lit _ rfl) m) (byt_lit _ rfl))
theorem ne_o {n m k j : Nat} (hk : k < n) (hj : j < 5) : cL (neB n m) (5 * k + j) = cL tO j := by
  have := rep_at tO (rep m tS ++ [32, 120]) n k j hk hj
  rw [← this, show k * tO.length + j = 5 * k + j by show k * 5 + j = _; omega]
  rfl
theorem ne_s {n m k j : Nat} (hk : k < m) (hj : j < 3) : cL (neB n m) (5 * n + 3 * k + j) = cL tS j := by
  unfold neB
  rw [cL_app (j := 3 * k + j) (by rw [rep_len]; show 5 * n + 3 * k + j = n * 5 + (3 * k + j); omega)]
  have := rep_at tS [32, 120] m k j hk hj
  rw [← this, show k * tS.length + j = 3 * k + j by show k * 3 + j = _; omega]
theorem ne_e {n m j : Nat} : cL (neB n m) (5 * n + 3 * m + j) = cL [32, 120] j := by
  unfold neB
  rw [cL_app (j := 3 * m + j) (by rw [rep_len]; show 5 * n + 3 * m + j = n * 5 + (3 * m + j); omega), cL_app (j := j) (by rw [rep_len]; show 3 * m + j = m * 3 + j; omega)]
/-- The label of a place, from within a remark on. -/
def Gd (F : Fm) (c : Nat → Int) (N P d i : Nat) : Int := if P < (rm F c N d i).1 then (rm F c N d i).2 P else lx F c N (rm F c N d i).1 P
section
variable {F : Fm} {c : Nat → Int} {N P d i : Nat}
theorem Gd_ahd {x : Int} {a d' : Nat} (h : rm F c N d i = ahd x a (rm F c N d' a)) (ha : a ≤ P) : Gd F c N P d i = Gd F c N P d' a := by
  unfold Gd
  rw [h]
  show (if P < (rm F c N d' a).1 then (if P < a then x else (rm F c N d' a).2 P) else _) = _
  rw [if_neg (show ¬ P < a by omega)]
  rfl
theorem Gd_pro (hd : d ≠ 0) (hi : i < N) (h : oc F.sht c i = false) (h1 : (!F.nst || !oc F.opn c i) = true) (hP : i + 1 ≤ P) : Gd F c N P d i = Gd F c N P d (i + 1) := Gd_ahd (rm_pro hd hi h h1) hP
theorem Gd_zero (hP : i ≤ P) : Gd F c N P 0 i = lx F c N i P := by
  unfold Gd
  rw [rm_end (Or.inl rfl)]
  show (if P < i then 1 else lx F c N i P) = _
  rw [if_neg (by omega)]
theorem Gd_last (hF : GdF F) (hC : Ch c N) (ho : 1 ≤ F.opn.length) (hs : 1 ≤ F.sht.length) (hd : d ≠ 0) (hi : P < N) (h : oc F.sht c P = false) (h1 : (!F.nst || !oc F.opn c P) = true) : Gd F c N P d P = 1 := by
  unfold Gd
  have hr := rm_le (F := F) (d := d) hC hF ho hs (i := P + 1) (by omega)
  rw [rm_pro hd hi h h1]
  show (if P < (rm F c N d (P + 1)).1 then (if P < P + 1 then 1 else _) else _) = 1
  rw [if_pos (by omega), if_pos (by omega)]
theorem Gd_opq (hi : i < N) (hP : P < N) (h : oc F.sht c i = false) (h1 : (!F.nst || !oc F.opn c i) = false) : Gd F c N P 32 i = 6 := by
  unfold Gd
  rw [rm_opq hi h h1]
  show (if P < N then 6 else _) = (6 : Int)
  rw [if_pos hP]
end
theorem lx_runS {F : Fm} (hF : GdF F) {c : Nat → Int} {N P : Nat} (hC : Ch c N) (hP : P < N) : ∀ d a, P - a = d → a ≤ P → (∀ i, a ≤ i → i ≤ P → nx F c N i = (i + 1, fun _ => 4)) → lx F c N a P = 4
  | 0, a, hd, ha, h => by
    obtain rfl : a = P := by omega
    rw [lx_at hF hC hP, h a (Nat.le_refl _) (Nat.le_refl _)]
    show (if a < a + 1 then 4 else _) = (4 : Int)
    rw [if_pos (by omega)]
  | d + 1, a, hd, ha, h => by
    rw [lx_at hF hC (by omega), h a (Nat.le_refl _) ha]
    show (if P < a + 1 then 4 else lx F c N (a + 1) P) = (4 : Int)
    rw [if_neg (by omega)]
    exact lx_runS hF hC hP d (a + 1) (by omega) (by omega) (fun i h1 h2 => h i (by omega) h2)
theorem nx_slash {f : Int} (hf : f = 4 ∨ f = 5 ∨ f = 8) {c : Nat → Int} {n i : Nat} (h : c i = 47) (h1 : c (i + 1) = 32) : nx (fam f) c n i = (i + 1, fun _ => 4) := by
  rcases hf with rfl | rfl | rfl <;> simp [nx, ntB, opB, fq, fam, qD, qS, oc, h, h1, tqR]
theorem nx_open {f : Int} (hf : f = 4 ∨ f = 5 ∨ f = 8) {c : Nat → Int} {n i : Nat} (h : c i = 47) (h1 : c (i + 1) = 42) : nx (fam f) c n i = ahd 3 (i + 2) (rm (fam f) c n 1 (i + 2)) := by
  rcases hf with rfl | rfl | rfl <;> simp [nx, ntB, opB, fam, oc, h, h1]
theorem nst_f {f : Int} (hf : f = 4 ∨ f = 5 ∨ f = 8) : (fam f).opn = [47, 42] ∧ (fam f).sht = [42, 47] ∧ (fam f).nst = (f == 8) := by
  rcases hf with rfl | rfl | rfl <;> exact ⟨rfl, rfl, rfl⟩
theorem oc2 (x y : Int) (c : Nat → Int) (i : Nat) : oc [x, y] c i = (c i == x && c (i + 1) == y) := by
  show ((c i == x) && ((c (i + 1) == y) && true)) = _
  rw [Bool.and_true]
/-- What stands where, and what it is. -/
theorem nest_lab {f : Int} (hf : f = 4 ∨ f = 5 ∨ f = 8) (n : Nat) (hn : 1 ≤ n) (sh : Bool) :
    lxA (fam f) (cL (neB n (if sh = true then n else 0))) (5 * n + 3 * (if sh = true then n else 0) + 2) (5 * n + 3 * (if sh = true then n else 0) + 1) = (if f = 8 ∧ 32 < n then 6 else if sh = true then 4 else 1)
    ∧ lxA (fam f) (cL (neB n (if sh = true then n else 0))) (5 * n + 3 * (if sh = true then n else 0) + 2) 0 = 3
    ∧ lxA (fam f) (cL (neB n (if sh = true then n else 0))) (5 * n + 3 * (if sh = true then n else 0) + 2) 3 = 1 := by
  obtain ⟨m, hm⟩ : ∃ m, (if sh = true then n else 0) = m := ⟨_, rfl⟩
  rw [hm]
  obtain ⟨hop, hsh, hns⟩ := nst_f hf
  obtain ⟨F, hF⟩ : ∃ F, fam f = F := ⟨_, rfl⟩
  have hgd := gd_fam f
  obtain ⟨c, hc⟩ : ∃ c, cL (neB n m) = c := ⟨_, rfl⟩
  obtain ⟨N, hN⟩ : ∃ N, 5 * n + 3 * m + 2 = N := ⟨_, rfl⟩
  obtain ⟨P, hP⟩ : ∃ P, 5 * n + 3 * m + 1 = P := ⟨_, rfl⟩
  have hC : Ch c N := by
    have := cL_ch (neB_byt n m)
    rw [hc, neB_len, hN] at this
    exact this
  have cO : ∀ k j, k < n → j < 5 → c (5 * k + j) = cL tO j := fun k j h1 h2 => by rw [← hc]; exact ne_o h1 h2
  have cS : ∀ k j, k < m → j < 3 → c (5 * n + 3 * k + j) = cL tS j := fun k j h1 h2 => by rw [← hc]; exact ne_s h1 h2
  have cE : ∀ j, c (5 * n + 3 * m + j) = cL [32, 120] j := fun j => by rw [← hc]; exact ne_e
  rw [hc, hN, hP]
  have o0 : ∀ k, k < n → c (5 * k) = 47 ∧ c (5 * k + 1) = 42 ∧ c (5 * k + 2) = 32 ∧ c (5 * k + 3) = 97 ∧ c (5 * k + 4) = 32 := fun k hk => ⟨cO k 0 hk (by decide), cO k 1 hk (by decide), cO k 2 hk (by decide), cO k 3 hk (by decide), cO k 4 hk (by decide)⟩
  have s0 : ∀ k, k < m → c (5 * n + 3 * k) = 42 ∧ c (5 * n + 3 * k + 1) = 47 ∧ c (5 * n + 3 * k + 2) = 32 := fun k hk => ⟨cS k 0 hk (by decide), cS k 1 hk (by decide), cS k 2 hk (by decide)⟩
  have e0 : c (5 * n + 3 * m) = 32 ∧ c (5 * n + 3 * m + 1) = 120 := ⟨cE 0, cE 1⟩
  rw [hF] at hop hsh hns hgd ⊢
  have ho1 : 1 ≤ F.opn.length := by rw [hop]; decide
  have hs1 : 1 ≤ F.sht.length := by rw [hsh]; decide
  have hlo : F.opn.length = 2 := by rw [hop]; rfl
  have hls : F.sht.length = 2 := by rw [hsh]; rfl
  have pro : ∀ d i, d ≠ 0 → i + 1 ≤ P → c i ≠ 42 → c i ≠ 47 → Gd F c N P d i = Gd F c N P d (i + 1) := fun d i hd hi h1 h2 => by
    have k1 : (c i == 42) = false := by simpa using h1
    have k2 : (c i == 47) = false := by simpa using h2
    refine Gd_pro hd (by omega) ?_ ?_ hi
    · rw [hsh, oc2, k1]; rfl
    · rw [hop, oc2, k2]; simp
  have three : ∀ d k, d ≠ 0 → k < n → Gd F c N P d (5 * k + 2) = Gd F c N P d (5 * (k + 1)) := fun d k hd hk => by
    obtain ⟨h0, h1, h2, h3, h4⟩ := o0 k hk
    rw [pro d (5 * k + 2) hd (by omega) (by rw [h2]; decide) (by rw [h2]; decide), pro d (5 * k + 3) hd (by omega) (by rw [h3]; decide) (by rw [h3]; decide), pro d (5 * k + 4) hd (by omega) (by rw [h4]; decide) (by rw [h4]; decide)]
    rfl
  obtain ⟨z0, z1, z2, z3, z4⟩ := o0 0 hn
  have hnx0 : nx F c N 0 = ahd 3 2 (rm F c N 1 2) := by
    have := nx_open hf (c := c) (n := N) (i := 0) z0 z1
    rw [hF] at this
    exact this
  have hstart : lx F c N 0 P = Gd F c N P 1 5 := by
    rw [lx_at hgd hC (by omega), hnx0]
    show (if P < (rm F c N 1 2).1 then (if P < 2 then 3 else (rm F c N 1 2).2 P) else lx F c N (rm F c N 1 2).1 P) = _
    rw [if_neg (show ¬ P < 2 by omega)]
    exact three 1 0 (by decide) hn
  have codeN : ∀ i, 5 * n + 2 ≤ i → i ≤ P → nx F c N i = (i + 1, fun _ => 4) := fun i h1 h2 => by
    have hff : 4 ≤ f ∧ f ≤ 8 := by omega
    have pl : plB (c i) = true → nx F c N i = (i + 1, fun _ => 4) := fun h => by
      have := nx_pl hff (c := c) (n := N) (i := i) h
      rw [hF] at this
      exact this
    by_cases h3 : i < 5 * n + 3 * m
    · obtain ⟨k, j, hk, hj, rfl⟩ : ∃ k j, k < m ∧ j < 3 ∧ i = 5 * n + 3 * k + j := ⟨(i - 5 * n) / 3, (i - 5 * n) % 3, by omega, by omega, by omega⟩
      obtain ⟨a0, a1, a2⟩ := s0 k hk
      have hj3 : j = 0 ∨ j = 1 ∨ j = 2 := by omega
      rcases hj3 with rfl | rfl | rfl
      · exact pl (by rw [Nat.add_zero, a0]; rfl)
      · have := nx_slash hf (c := c) (n := N) (i := 5 * n + 3 * k + 1) a1 a2
        rw [hF] at this
        exact this
      · exact pl (by rw [a2]; rfl)
    · have h4 : i = 5 * n + 3 * m ∨ i = 5 * n + 3 * m + 1 := by omega
      rcases h4 with rfl | rfl
      · exact pl (by rw [e0.1]; rfl)
      · exact pl (by rw [e0.2]; rfl)
  have hcode : ∀ a, 5 * n + 2 ≤ a → a ≤ P → lx F c N a P = 4 := fun a h1 h2 => lx_runS hgd hC (by omega) _ a rfl h2 (fun i h3 h4 => codeN i (by omega) h4)
  have hend : ∀ d, d ≠ 0 → m = 0 → Gd F c N P d (5 * n) = 1 := fun d hd h0 => by
    subst h0
    have e1 : c (5 * n) = 32 := e0.1
    have e2 : c (5 * n + 1) = 120 := e0.2
    have hPn : 5 * n + 1 = P := by omega
    rw [pro d (5 * n) hd (by omega) (by rw [e1]; decide) (by rw [e1]; decide), hPn]
    rw [hPn] at e2
    refine Gd_last hgd hC ho1 hs1 hd (by omega) ?_ ?_
    · rw [hsh, oc2, e2]; rfl
    · rw [hop, oc2, e2]; simp
  have hclose : ∀ d i, d ≠ 0 → i + 2 ≤ P → c i = 42 → c (i + 1) = 47 → Gd F c N P d i = Gd F c N P (d - 1) (i + 2) := fun d i hd hi h1 h2 => by
    have h3 : oc F.sht c i = true := by rw [hsh, oc2, h1, h2]; rfl
    have := rm_sht (n := N) (c := c) ho1 hs1 hd (by omega : i < N) h3
    rw [hls] at this
    exact Gd_ahd this hi
  refine ⟨?_, ?_, ?_⟩
  · show lx F c N 0 P = _
    rw [hstart]
    by_cases h8 : f = 8
    · have hnst : F.nst = true := by rw [hns, h8]; rfl
      have deep : ∀ k, 1 ≤ k → k ≤ n → k ≤ 32 → Gd F c N P 1 5 = Gd F c N P k (5 * k) := by
        intro k
        induction k with
        | zero => intro h; exact absurd h (by decide)
        | succ k ih =>
          intro h1 h2 h3
          by_cases hk0 : k = 0
          · subst hk0
            rfl
          · rw [ih (by omega) (by omega) (by omega)]
            obtain ⟨a0, a1, a2, a3, a4⟩ := o0 k (by omega)
            have h4 : oc F.sht c (5 * k) = false := by rw [hsh, oc2, a0]; rfl
            have h5 : (!F.nst || !oc F.opn c (5 * k)) = false := by rw [hnst, hop, oc2, a0, a1]; rfl
            have h6 := rm_opn (n := N) ho1 hs1 hk0 (by omega) (by omega : 5 * k < N) h4 h5
            rw [hlo] at h6
            rw [Gd_ahd h6 (by omega)]
            exact three (k + 1) k (by omega) (by omega)
      by_cases h32 : 32 < n
      · rw [if_pos ⟨h8, h32⟩, deep 32 (by decide) (by omega) (Nat.le_refl _)]
        obtain ⟨a0, a1, a2, a3, a4⟩ := o0 32 h32
        refine Gd_opq (by omega) (by omega) ?_ ?_
        · rw [hsh, oc2, a0]; rfl
        · rw [hnst, hop, oc2, a0, a1]; rfl
      · rw [if_neg (fun h => h32 h.2), deep n hn (Nat.le_refl _) (by omega)]
        cases sh with
        | false =>
          rw [if_neg Bool.false_ne_true]
          rw [if_neg Bool.false_ne_true] at hm
          exact hend n (by omega) hm.symm
        | true =>
          rw [if_pos rfl]
          rw [if_pos rfl] at hm
          have shut : ∀ j, j < n → Gd F c N P n (5 * n) = Gd F c N P (n - j) (5 * n + 3 * j) := by
            intro j
            induction j with
            | zero => intro _; rfl
            | succ j ih =>
              intro hj
              rw [ih (by omega)]
              obtain ⟨a0, a1, a2⟩ := s0 j (by omega)
              rw [hclose (n - j) (5 * n + 3 * j) (by omega) (by omega) a0 a1, pro (n - j - 1) (5 * n + 3 * j + 2) (by omega) (by omega) (by rw [a2]; decide) (by rw [a2]; decide)]
              rw [show n - j - 1 = n - (j + 1) by omega, show 5 * n + 3 * j + 2 + 1 = 5 * n + 3 * (j + 1) by omega]
          obtain ⟨a0, a1, a2⟩ := s0 (n - 1) (by omega)
          rw [shut (n - 1) (by omega), hclose _ _ (by omega) (by omega) a0 a1, show n - (n - 1) - 1 = 0 by omega, Gd_zero (by omega)]
          exact hcode _ (by omega) (by omega)
    · have hnst : F.nst = false := by
        rw [hns]
        rcases hf with rfl | rfl | rfl
        · rfl
        · rfl
        · exact absurd rfl h8
      rw [if_neg (fun h => h8 h.1)]
      have flat : ∀ k, 1 ≤ k → k ≤ n → Gd F c N P 1 5 = Gd F c N P 1 (5 * k) := by
        intro k
        induction k with
        | zero => intro h; exact absurd h (by decide)
        | succ k ih =>
          intro h1 h2
          by_cases hk0 : k = 0
          · subst hk0
            rfl
          · rw [ih (by omega) (by omega)]
            obtain ⟨a0, a1, a2, a3, a4⟩ := o0 k (by omega)
            have h4 : oc F.sht c (5 * k) = false := by rw [hsh, oc2, a0]; rfl
            have h5 : oc F.sht c (5 * k + 1) = false := by
              rw [hsh, oc2, show 5 * k + 1 + 1 = 5 * k + 2 from rfl, a1, a2]
              rfl
            rw [Gd_pro (by decide) (by omega) h4 (by rw [hnst]; rfl) (by omega), Gd_pro (by decide) (by omega) h5 (by rw [hnst]; rfl) (by omega)]
            exact three 1 k (by decide) (by omega)
      rw [flat n hn (Nat.le_refl _)]
      cases sh with
      | false =>
        rw [if_neg Bool.false_ne_true]
        rw [if_neg Bool.false_ne_true] at hm
        exact hend 1 (by decide) hm.symm
      | true =>
        rw [if_pos rfl]
        rw [if_pos rfl] at hm
        obtain ⟨a0, a1, a2⟩ := s0 0 (by omega)
        rw [hclose 1 (5 * n) (by decide) (by omega) a0 a1, show 1 - 1 = 0 from rfl, Gd_zero (by omega)]
        exact hcode _ (by omega) (by omega)
  · show lx F c N 0 0 = 3
    have hle := nx_le hgd hC (i := 0) (by omega)
    rw [lx_at hgd hC (by omega), if_pos hle.1, hnx0]
    rfl
  · show lx F c N 0 3 = 1
    have p2 : rm F c N 1 2 = ahd 1 3 (rm F c N 1 3) := rm_pro (by decide) (by omega) (by rw [hsh, oc2, show c 2 = 32 from z2]; rfl) (by rw [hop, oc2, show c 2 = 32 from z2]; simp)
    have p3 : rm F c N 1 3 = ahd 1 4 (rm F c N 1 4) := rm_pro (by decide) (by omega) (by rw [hsh, oc2, show c 3 = 97 from z3]; rfl) (by rw [hop, oc2, show c 3 = 97 from z3]; simp)
    have hr := rm_le (F := F) (d := 1) hC hgd ho1 hs1 (i := 4) (by omega)
    rw [lx_at hgd hC (by omega), hnx0, p2, p3]
    show (if 3 < (rm F c N 1 4).1 then (1 : Int) else _) = 1
    rw [if_pos (by omega)]
end Go.Proofs.Ytgebmmbnpdhooaa
