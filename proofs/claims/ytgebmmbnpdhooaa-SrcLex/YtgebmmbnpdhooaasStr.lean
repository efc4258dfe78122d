/- src: starts, and what strings ask of their bytes. -/
import Derived.Test.YtgebmmbnpdhooaasPure
namespace Go.Proofs.Ytgebmmbnpdhooaa
set_option linter.unusedVariables false
open Go.RowKit Go.ChangeShapes
theorem oc_cl (c : Nat → Int) : ∀ (t : List Int), (cl c t.length == t) = oc t c 0
  | t => by
    have h : ∀ (t : List Int) (a : Nat), ((List.range t.length).map (fun j => c (a + j)) == t) = oc t c a := by
      intro t
      induction t with
      | nil => intro a; rfl
      | cons x t ih =>
        intro a
        rw [List.length_cons, List.range_succ_eq_map, List.map_cons, List.map_map]
        show ((c (a + 0) == x) && (_ == t)) = ((c a == x) && oc t c (a + 1))
        rw [← ih (a + 1)]
        have e : (List.map ((fun j => c (a + j)) ∘ Nat.succ) (List.range t.length)) = List.map (fun j => c (a + 1 + j)) (List.range t.length) := by
          apply List.map_congr_left
          intro j hj
          show c (a + (j + 1)) = c (a + 1 + j)
          rw [show a + (j + 1) = a + 1 + j by omega]
        rw [e]
        rfl
    have := h t 0
    simpa [cl] using this
theorem cl_byt' {c : Nat → Int} {m : Nat} (h : ∀ j, j < m → 0 ≤ c j ∧ c j < 256) : Byt (cl c m) := fun x hx => by
  obtain ⟨j, hj, rfl⟩ := List.mem_map.1 hx
  exact h j (List.mem_range.1 hj)
theorem starts_any {w : World} {b off n cap : Nat} {c : Nat → Int} (hC : Ch c n) (h : BC w (some ⟨b, off, none⟩) n c) (hcap : n ≤ cap) (hbig : cap ≤ 9223372036854775807) (t : List Int) (ht : Byt t) (h0 : t ≠ []) :
    Calls Try.prog 36 #[.slice (some ⟨b, off, none⟩) n cap, .string (strOfNums t)] w fun ev w' => ev = .returned (.bool (oc t c 0)) ∧ w' = w := by
  have hsz : (strOfNums t).size = t.length := strOfNums_size t
  by_cases hl : t.length ≤ n
  · have hcv := str_bc (cap := cap) (h.upto hl)
    have hcmp := nums_beq (cl_byt' (c := c) (m := t.length) fun j hj => hC.1 j (by omega)) ht
    rw [oc_cl] at hcmp
    obtain ⟨X, hX⟩ : ∃ X, strOfNums (cl c t.length) = X := ⟨_, rfl⟩
    obtain ⟨Y, hY⟩ : ∃ Y, strOfNums t = Y := ⟨_, rfl⟩
    obtain ⟨m, hm⟩ : ∃ m, t.length = m := ⟨_, rfl⟩
    obtain ⟨r, hr⟩ : ∃ r, oc t c 0 = r := ⟨_, rfl⟩
    rw [hX, hY, hr] at hcmp
    rw [hY] at hsz ⊢
    rw [hX, hm] at hcv
    rw [hm] at hsz hl
    rw [hr]
    have z0 : (m : Int) ≤ (n : Int) := by omega
    have z1 : (0 : Int) ≤ (m : Int) := by omega
    have z2 : (m : Int) ≤ (cap : Int) := by omega
    have z3 : ((m : Int) - 0).toNat = m := by omega
    have z4 : (m : Int).toNat = m := by omega
    clear hC h hX hY hm hr ht h0 hl
    go_enter Try.func36, Try.ntmps36
    go_wp2
    go_ret
    exact ⟨rfl, rfl⟩
  · have e : oc t c 0 = false := by
      cases e : oc t c 0 with
      | false => rfl
      | true => have := oc_len hC.2 t ht 0 h0 e; omega
    rw [e]
    obtain ⟨Y, hY⟩ : ∃ Y, strOfNums t = Y := ⟨_, rfl⟩
    obtain ⟨m, hm⟩ : ∃ m, t.length = m := ⟨_, rfl⟩
    rw [hY] at hsz ⊢
    rw [hm] at hsz hl
    have z0 : ¬ (m : Int) ≤ (n : Int) := by omega
    clear hC h hY hm ht h0 hl e
    go_enter Try.func36, Try.ntmps36
    go_wp2
    go_ret
    exact ⟨rfl, rfl⟩
/-- A kind of strings as a value, and its cells. -/
def qv (q : Qt) : Value := .agg #[.string (strOfNums q.mark), .int .u8 q.inn, .bool q.esc, .bool q.dbl, .bool q.lng]
theorem pair_any {w : World} {b off n cap : Nat} {c : Nat → Int} (hC : Ch c n) (h : BC w (some ⟨b, off, none⟩) n c) (hcap : n ≤ cap) (hbig : cap ≤ 9223372036854775807) {q : Qt} (hq : GdQ q) :
    Calls Try.prog 44 #[qv q, .slice (some ⟨b, off, none⟩) n cap] w fun ev w' => ev = .returned (.bool (prB q c 0)) ∧ Below w.heap.size w w' := by
  have hb := below_alloc w (.cells #[.string (strOfNums q.mark), .int .u8 q.inn, .bool q.esc, .bool q.dbl, .bool q.lng] 72)
  have hbt : Byt (q.mark ++ q.mark) := fun x hx => by
    rcases List.mem_append.1 hx with hx | hx
    · exact hq.byt x hx
    · exact hq.byt x hx
  have hne : q.mark ++ q.mark ≠ [] := by
    have := hq.pos
    intro e
    rw [(List.append_eq_nil_iff.1 e).1] at this
    exact absurd this (by decide)
  have ct := starts_any hC (h.stay hb) hcap hbig (q.mark ++ q.mark) hbt hne
  rw [nums_app] at ct
  have hsz : (strOfNums q.mark).size = q.mark.length := strOfNums_size q.mark
  have hfw := hq.few
  have hadd : ¬ 9223372036854775807 < (strOfNums q.mark).size + (strOfNums q.mark).size := by omega
  unfold prB qv
  cases q with
  | mk mk inn esc dbl lng =>
  dsimp only at *
  obtain ⟨M, hM⟩ : ∃ M, strOfNums mk = M := ⟨_, rfl⟩
  rw [hM] at ct hadd hb ⊢
  clear hsz hM
  obtain ⟨r, hr⟩ : ∃ r, oc (mk ++ mk) c 0 = r := ⟨_, rfl⟩
  rw [hr] at ct ⊢
  have HB : Hid (Below w.heap.size w (w.alloc (.cells #[.string M, .int .u8 inn, .bool esc, .bool dbl, .bool lng] 72))) := hb
  clear h hC hr hbt hne hq hfw hb
  cases dbl with
  | true =>
    go_enter Try.func44, Try.ntmps44
    go_wp2_with fail
    refine ct.mono ?_
    rintro ev w1 ⟨rfl, hw⟩
    subst w1
    go_wp2
    go_ret
    exact ⟨rfl, HB.out⟩
  | false =>
    clear ct
    go_enter Try.func44, Try.ntmps44
    go_wp2
    go_ret
    exact ⟨rfl, HB.out⟩
end Go.Proofs.Ytgebmmbnpdhooaa
