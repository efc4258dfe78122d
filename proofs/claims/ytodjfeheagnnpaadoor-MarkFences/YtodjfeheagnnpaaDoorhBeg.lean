/- html: begins, small. -/
import Derived.Test.YtodjfeheagnnpaaDoorhByt
import Derived.Lib.SlBytesConst
namespace Go.Proofs.YtodjfeheagnnpaaDoor
set_option linter.unusedVariables false
open Go.RowKit Go.ChangeShapes
/-- Where a tag's name begins; whether one begins. -/
def tgF (c : Nat → Int) (i : Nat) : Nat := if c (i + 1) = 47 then i + 2 else i + 1
def bg (c : Nat → Int) (i : Nat) : Bool := (c i == 60) && ltB (c (tgF c i))
theorem begins_no {w : World} {ad : Option Addr} {n cap : Nat} (i : Int) (hi : i < 0 ∨ (n : Int) ≤ i) :
    Calls Tryd.prog 20 #[.slice ad n cap, .int .i64 i] w fun e w' => e = .returned (.bool false) ∧ w' = w := by
  by_cases h1 : i < 0
  · clear hi
    go_enter Tryd.func20, Tryd.ntmps20
    go_wp2
    go_ret
    exact ⟨rfl, rfl⟩
  · have h2 : (n : Int) ≤ i := by omega
    clear hi
    go_enter Tryd.func20, Tryd.ntmps20
    go_wp2
    go_ret
    exact ⟨rfl, rfl⟩
theorem lit_bc (w : World) (t : List Int) (m : Nat × Nat) : BC (w.alloc (.cells (t.map (Value.int .u8)).toArray 5 m)) (some ⟨w.heap.size, 0, none⟩) t.length (fun j => t.getD j 0) := fun i hi => by
  refine ⟨_, _, rfl, ?_⟩
  rw [Nat.zero_add]
  have : (w.alloc (.cells (t.map (Value.int .u8)).toArray 5 m)).heap[w.heap.size]? = some (.cells (t.map (Value.int .u8)).toArray 5 m) := heap_alloc_new _ _
  simp only [World.cell?, this]
  simp [hi]
theorem byt1 (x : Int) (h : 0 ≤ x ∧ x < 256) : Byt [x] := fun y hy => by rw [List.mem_singleton] at hy; rw [hy]; exact h
theorem oc1 (x : Int) (c : Nat → Int) (i : Nat) : oc [x] c i = (c i == x) := by simp [oc]
theorem below_alloc (w : World) (o : Obj) : Below w.heap.size w (w.alloc o) := (Below.refl _ _).alloc (Nat.le_refl _) o
set_option maxRecDepth 100000 in
set_option maxHeartbeats 1000000 in
theorem begins_any {w : World} {b off n cap : Nat} {c : Nat → Int} (hC : Ch c n) (h : BC w (some ⟨b, off, none⟩) n c) (hn : n ≤ 1000000000) (hcap : n ≤ cap) (i : Nat) (hi : i < n) :
    Calls Tryd.prog 20 #[.slice (some ⟨b, off, none⟩) n cap, .int .i64 i] w fun e w' => e = .returned (.bool (bg c i)) ∧ Below w.heap.size w w' := by
  have z1 : ¬ (i : Int) < 0 := by omega
  have z2 : ¬ (n : Int) ≤ (i : Int) := by omega
  have z3 : (0 : Int) ≤ (i : Int) := by omega
  have z4 : (i : Int) ≤ (n : Int) := by omega
  have z5 : ¬ cap = i := by omega
  have hcA := fun (w' : World) => Go.Lib.run_convert_bytes_const (P := Tryd.prog) w' 22 5 #[.int .u8 60] 1 1 Tryd.underlying22 Tryd.underlying5
  have hcB := fun (w' : World) => Go.Lib.run_convert_bytes_const (P := Tryd.prog) w' 22 5 #[.int .u8 47] 1 1 Tryd.underlying22 Tryd.underlying5
  obtain ⟨W, hW⟩ : ∃ W, w.alloc (.cells #[.int .u8 60] 5 (1, 2)) = W := ⟨_, rfl⟩
  have hL1 : BC W (some ⟨w.heap.size, 0, none⟩) 1 (fun j => [60].getD j 0) := by rw [← hW]; exact lit_bc w [60] (1, 2)
  have hB1 : Below w.heap.size w W := by rw [← hW]; exact below_alloc w _
  have hb1 := h.stay hB1
  obtain ⟨W2, hW2⟩ : ∃ W2, W.alloc (.cells #[.int .u8 47] 5 (1, 2)) = W2 := ⟨_, rfl⟩
  have hL2 : BC W2 (some ⟨W.heap.size, 0, none⟩) 1 (fun j => [47].getD j 0) := by rw [← hW2]; exact lit_bc W [47] (1, 2)
  have hB2 : Below W.heap.size W W2 := by rw [← hW2]; exact below_alloc W _
  have hB3 : Hid (Below w.heap.size w W2) := hB1.trans (hB2.mono hB1.size)
  have hfr := BC.from hb1 i (by omega) hcap
  rw [if_neg (show ¬ cap = i by omega)] at hfr
  obtain ⟨n1, hn1⟩ : ∃ n1, n - i = n1 := ⟨_, rfl⟩
  obtain ⟨p1, hp1⟩ : ∃ p1, cap - i = p1 := ⟨_, rfl⟩
  have hCf := hC.from i (by omega)
  rw [hn1] at hfr hCf
  have q1 : n1 ≤ p1 := by omega
  have q0 : 0 < n1 := by omega
  have HH : Hid (Ch c n ∧ n1 = n - i) := ⟨hC, hn1.symm⟩
  have hCi := hC.1 i hi
  obtain ⟨g, hg⟩ : ∃ g, bg c i = g := ⟨_, rfl⟩
  rw [hg]
  have HG : Hid (bg c i = g) := hg
  clear hg
  clear hC h hb1 hcap
  by_cases h60 : c i = 60
  · have ct1 := cutP_yes (p2 := some ⟨w.heap.size, 0, none⟩) (m := 1) (d := 1) (t := [60]) hCf hfr q1 hL1 rfl (byt1 60 (by omega)) (by simp) (by rw [oc1]; simpa using h60)
    obtain ⟨n2, hn2⟩ : ∃ n2, n1 - 1 = n2 := ⟨_, rfl⟩
    obtain ⟨p2, hp2⟩ : ∃ p2, p1 - 1 = p2 := ⟨_, rfl⟩
    rw [hn2, hp2] at ct1
    have hCg := hCf.from 1 (by omega)
    rw [hn2] at hCg
    have q2 : n2 ≤ p2 := by omega
    have HN2 : Hid (n1 = n2 + 1) := by show n1 = n2 + 1; omega
    clear hCf hfr hL1 hn2 hp2
    go_enter Tryd.func20, Tryd.ntmps20
    go_wp2_with fail
    refine ct1.mono ?_
    rintro e w1 ⟨ad', rfl, hw1, hbc, -⟩
    subst w1
    have hbc2 := hbc.stay hB2
    clear hbc ct1 hW hcA
    by_cases h47 : c (i + 1) = 47
    · have ct2 := trimP_yes (p2 := some ⟨W.heap.size, 0, none⟩) (m := 1) (d := 1) (t := [47]) hCg hbc2 q2 hL2 rfl (byt1 47 (by omega)) (by simp) (by rw [oc1]; simpa using h47)
      obtain ⟨n3, hn3⟩ : ∃ n3, n2 - 1 = n3 := ⟨_, rfl⟩
      obtain ⟨p3, hp3⟩ : ∃ p3, p2 - 1 = p3 := ⟨_, rfl⟩
      rw [hn3, hp3] at ct2
      have HN3 : Hid (n3 = n2 - 1) := hn3.symm
      clear hn3 hp3 hbc2 hCg hL2
      go_wp2_with fail
      refine ct2.mono ?_
      rintro e w1 ⟨ad3, rfl, hw1, hbc3, hle3⟩
      subst w1
      clear ct2 hW2 hcB
      have HBG : Hid (g = ltB (c (i + 2))) := by show g = _; rw [← HG.out]; unfold bg tgF; rw [if_pos h47, h60]; rfl
      have HF : Hid (i + 2 + n3 = n) := by show i + 2 + n3 = n; have := HN3.out; have := HN2.out; have := HH.out.2; omega
      by_cases h0 : n3 = 0
      · subst h0
        have e2 : ltB (c (i + 2)) = false := by rw [HH.out.1.2 (i + 2) (by have := HF.out; omega)]; rfl
        have HE : Hid (g = false) := by show g = _; rw [HBG.out, e2]
        clear e2
        go_wp2
        go_ret
        exact ⟨by rw [HE.out]; rfl, hB3.out⟩
      · obtain ⟨b3, off3, rfl, hc3⟩ := hbc3.at (by omega)
        have hc30 := hc3 0 (by omega)
        have e2 : c (i + (1 + (1 + 0))) = c (i + 2) := by congr 1
        rw [e2, Nat.add_zero] at hc30
        have ct3 := letter_any (c (i + 2)) W2
        obtain ⟨x, hx⟩ : ∃ x, c (i + 2) = x := ⟨_, rfl⟩
        rw [hx] at hc30 ct3
        have HX : Hid (g = ltB x) := by show g = _; rw [HBG.out, hx]
        have z6 : (0 : Int) < (n3 : Int) := by omega
        clear hc3 hbc3 hx
        go_wp2_with fail
        refine ct3.mono ?_
        rintro e w1 ⟨rfl, hw1⟩
        subst w1
        go_wp2
        go_ret
        exact ⟨by rw [HX.out]; rfl, hB3.out⟩
    · have ct2 := trimP_no (p2 := some ⟨W.heap.size, 0, none⟩) (m := 1) (d := 1) (t := [47]) hCg hbc2 q2 hL2 rfl (byt1 47 (by omega)) (by rw [oc1]; simpa using h47)
      clear hL2
      go_wp2_with fail
      refine ct2.mono ?_
      rintro e w1 ⟨rfl, hw1⟩
      subst w1
      clear ct2 hW2 hcB
      have HBG : Hid (g = ltB (c (i + 1))) := by show g = _; rw [← HG.out]; unfold bg tgF; rw [if_neg h47, h60]; rfl
      have HF : Hid (i + 1 + n2 = n) := by show i + 1 + n2 = n; have := HN2.out; have := HH.out.2; omega
      by_cases h0 : n2 = 0
      · subst h0
        have e2 : ltB (c (i + 1)) = false := by rw [HH.out.1.2 (i + 1) (by have := HF.out; omega)]; rfl
        have HE : Hid (g = false) := by show g = _; rw [HBG.out, e2]
        clear e2
        go_wp2
        go_ret
        exact ⟨by rw [HE.out]; rfl, hB3.out⟩
      · obtain ⟨b3, off3, rfl, hc3⟩ := hbc2.at (by omega)
        have hc30 := hc3 0 (by omega)
        have e2 : c (i + (1 + 0)) = c (i + 1) := by congr 1
        rw [e2, Nat.add_zero] at hc30
        have ct3 := letter_any (c (i + 1)) W2
        obtain ⟨x, hx⟩ : ∃ x, c (i + 1) = x := ⟨_, rfl⟩
        rw [hx] at hc30 ct3
        have HX : Hid (g = ltB x) := by show g = _; rw [HBG.out, hx]
        have z6 : (0 : Int) < (n2 : Int) := by omega
        clear hc3 hbc2 hx h47 hCg
        go_wp2_with fail
        refine ct3.mono ?_
        rintro e w1 ⟨rfl, hw1⟩
        subst w1
        go_wp2
        go_ret
        exact ⟨by rw [HX.out]; rfl, hB3.out⟩
  · have ct1 := cutP_no (p2 := some ⟨w.heap.size, 0, none⟩) (m := 1) (d := 1) (t := [60]) hCf hfr q1 hL1 rfl (byt1 60 (by omega)) (by rw [oc1]; simpa using h60)
    have HE : Hid (g = false) := by show g = _; rw [← HG.out]; unfold bg; simp [h60]
    have hfr2 := hfr.stay hB2
    clear hL1
    go_enter Tryd.func20, Tryd.ntmps20
    go_wp2_with fail
    refine ct1.mono ?_
    rintro e w1 ⟨rfl, hw1⟩
    subst w1
    clear ct1 hW hcA
    by_cases h47 : c (i + 0) = 47
    · have ct2 := trimP_yes (p2 := some ⟨W.heap.size, 0, none⟩) (m := 1) (d := 1) (t := [47]) hCf hfr2 q1 hL2 rfl (byt1 47 (by omega)) (by simp) (by rw [oc1]; simpa using h47)
      clear hL2 hfr2 hCf hfr
      go_wp2_with fail
      refine ct2.mono ?_
      rintro e w1 ⟨ad3, rfl, hw1, -, -⟩
      subst w1
      go_wp2
      go_ret
      exact ⟨by rw [HE.out]; rfl, hB3.out⟩
    · have ct2 := trimP_no (p2 := some ⟨W.heap.size, 0, none⟩) (m := 1) (d := 1) (t := [47]) hCf hfr2 q1 hL2 rfl (byt1 47 (by omega)) (by rw [oc1]; simpa using h47)
      clear hL2 hfr2 hCf hfr
      go_wp2_with fail
      refine ct2.mono ?_
      rintro e w1 ⟨rfl, hw1⟩
      subst w1
      go_wp2
      go_ret
      exact ⟨by rw [HE.out]; rfl, hB3.out⟩
end Go.Proofs.YtodjfeheagnnpaaDoor
