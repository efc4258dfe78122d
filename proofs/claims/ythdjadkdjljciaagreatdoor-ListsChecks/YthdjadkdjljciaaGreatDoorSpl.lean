/- strings.SplitSeq at a comma, over whatever takes the pieces. -/
import Derived.Test.YthdjadkdjljciaaGreatDoorWds
import Derived.Lib.IndexLaws
namespace Go.Proofs.YthdjadkdjljciaaGreatDoor
set_option linter.unusedVariables false
open Go.RowKit Go.ChangeShapes Go.Shelf
attribute [local go_sem] Oper.semAt_some

/-- Where the first comma stands; -1: nowhere. -/
def comma (s : ByteArray) : Int := Lib.indexByte s.data.toList 44
/-- A text's pieces between commas. -/
def pcs : Nat → ByteArray → List ByteArray
  | 0, s => [s]
  | f + 1, s => if comma s < 0 then [s] else s.extract 0 (comma s).toNat :: pcs f (s.extract ((comma s).toNat + 1) s.size)
/-- What pieces do to a state; an error's number. -/
def runP {σ : Type} (step : σ → ByteArray → σ × Int) : List ByteArray → σ → σ × Int
  | [], st => (st, 0)
  | r :: l, st => if (step st r).2 = 0 then runP step l (step st r).1 else step st r
def szOf : Option Value → Nat
  | some (.string s) => s.size
  | _ => 0
theorem comma_lt (s : ByteArray) (h : ¬ comma s < 0) : (comma s).toNat < s.size := by
  have := Lib.indexByte_ge s.data.toList 44
  have h1 := Lib.indexByte_some (l := s.data.toList) (c := 44) (o := (comma s).toNat) (by unfold comma at h ⊢; omega)
  have h2 := (List.getElem?_eq_some_iff.1 h1.1).1
  simpa using h2
theorem pcs_last (g : Nat) (r : ByteArray) (h : comma r < 0) : pcs g r = [r] := by
  cases g with
  | zero => rfl
  | succ g => unfold pcs; rw [if_pos h]
theorem pcs_more (g : Nat) (r : ByteArray) (h : ¬ comma r < 0) (hg : r.size ≤ g) : ∃ g', pcs g r = r.extract 0 (comma r).toNat :: pcs g' (r.extract ((comma r).toNat + 1) r.size) ∧ (r.extract ((comma r).toNat + 1) r.size).size ≤ g' := by
  have hl := comma_lt r h
  cases g with
  | zero => omega
  | succ g => exact ⟨g, by conv => lhs; unfold pcs; rw [if_neg h], by rw [ByteArray.size_extract]; omega⟩
theorem splitSeq_any (s sep : ByteArray) (w : World) :
    Calls Tryz.prog 106 #[.string s, .string sep] w fun e w' => e = .returned (.func (.func 162) #[] #[.pointer (some ⟨w.heap.size + 1, 0, none⟩), .pointer (some ⟨w.heap.size, 0, none⟩), .pointer (some ⟨w.heap.size + 1 + 1, 0, none⟩)]) ∧
      w' = (((w.alloc (.cells #[.string s] 9)).alloc (.cells #[.string sep] 9)).alloc (.cells #[.int .i64 0] 3)) := by
  have hmf : ∀ (fn : Fn) (first cap : Array Value) (w : World), (Instr.makeFunc fn first cap).run Tryz.prog w = .ok (.func fn first cap) w := fun _ _ _ _ => rfl
  have c : Calls Tryz.prog 144 #[.string s, .string sep, .int .i64 0] w fun e w' => e = .returned (.func (.func 162) #[] #[.pointer (some ⟨w.heap.size + 1, 0, none⟩), .pointer (some ⟨w.heap.size, 0, none⟩), .pointer (some ⟨w.heap.size + 1 + 1, 0, none⟩)]) ∧
      w' = (((w.alloc (.cells #[.string s] 9)).alloc (.cells #[.string sep] 9)).alloc (.cells #[.int .i64 0] 3)) := by
    go_enter Tryz.func144, Tryz.ntmps144
    go_wp2
    go_ret
    exact ⟨rfl, rfl⟩
  go_enter Tryz.func106, Tryz.ntmps106
  go_wp2_with fail
  refine c.mono ?_
  rintro e w1 ⟨rfl, hw⟩
  subst w1
  go_wp2
  go_ret
  exact ⟨rfl, rfl⟩
set_option maxRecDepth 100000 in
set_option maxHeartbeats 2000000 in
theorem split_iter {σ : Type} (l n b1 b2 b3 : Nat) (h12 : b1 ≠ b2) (h32 : b3 ≠ b2) (Inv : Nat → σ → World → Prop) (Lft : σ → Int → World → Prop) (step : σ → ByteArray → σ × Int) (s0 : σ) (s : ByteArray) (f : Nat) (hs : s.size ≤ 5000) (hf : s.size ≤ f) (W : World)
    (hS : ∀ k st V v, Inv k st V → Inv k st (V.setCell ⟨b2, 0, none⟩ v))
    (hY : ∀ k st r V, k ≤ 5000 → r.size ≤ 5000 → Inv k st V → YieldAt Fence.wide n Tryz.prog l #[.string r] V fun e V' =>
      (e = .returned (.bool true) ∧ (step st r).2 = 0 ∧ Inv (k + 1) (step st r).1 V' ∧ (∀ k, k = b1 ∨ k = b2 ∨ k = b3 → V'.heap[k]? = V.heap[k]?)) ∨ (e = .returned (.bool false) ∧ (step st r).2 ≠ 0 ∧ Lft (step st r).1 (step st r).2 V'))
    (h1 : Bk W b1 #[.string ⟨#[44]⟩] 9) (h2 : Bk W b2 #[.string s] 9) (h3 : Bk W b3 #[.int .i64 0] 3) (h0 : Inv 0 s0 W) :
    Calls Tryz.prog 162 #[.func (.yield l) #[] #[], .pointer (some ⟨b1, 0, none⟩), .pointer (some ⟨b2, 0, none⟩), .pointer (some ⟨b3, 0, none⟩)] W fun e W' => (∃ v, e = .returned v) ∧
      ((∃ k st, runP step (pcs f s) s0 = (st, 0) ∧ Inv k st W') ∨ (∃ st c, c ≠ 0 ∧ runP step (pcs f s) s0 = (st, c) ∧ Lft st c W')) := by
  obtain ⟨Z, hZ⟩ : ∃ Z, runP step (pcs f s) s0 = Z := ⟨_, rfl⟩
  rw [hZ]
  have HZ : Hid (runP step (pcs f s) s0 = Z) := hZ
  clear hZ
  refine (callsIn_wide (n := n + 1)).1 ?_
  refine callsIn_of_wp Tryz.func162 rfl trivial ?_ rfl
  simp only [Tryz.ntmps162, List.size_toArray, List.length_cons, List.length_nil, Nat.reduceAdd, Nat.reduceSub, Array.replicate_succ, Array.replicate_zero, List.push_toArray, List.append_toArray, List.nil_append, List.cons_append]
  have c1 := h1.cell 0 rfl
  gi_wp2
  gi_loopw [7] (fun i wr => ∃ (k : Nat) (st : σ) (r : ByteArray) (g : Nat), r.size ≤ g ∧ k + r.size ≤ 5000 ∧ Bk wr b1 #[.string ⟨#[44]⟩] 9 ∧ Bk wr b2 #[.string r] 9 ∧ Bk wr b3 #[.int .i64 0] 3 ∧ Inv k st wr ∧ Hid (runP step (pcs g r) st = Z))
    (fun i wr => szOf (wr.cell? ⟨b2, 0, none⟩))
  case atStart => exact ⟨0, s0, s, f, hf, by omega, h1, h2, h3, h0, HZ⟩
  case round =>
    obtain ⟨k, st, r, g, hg, hr, k1, k2, k3, hI, HR⟩ := hrel
    have c1 := k1.cell 0 rfl
    have c2 := k2.cell 0 rfl
    have c3 := k3.cell 0 rfl
    have f2 := k2.frozen 0
    have ci := Tryz.strings_Index_one r 44 wr
    change Calls Tryz.prog _ _ _ (fun e w' => e = .returned (.int .i64 (comma r)) ∧ w' = wr) at ci
    by_cases hc : comma r < 0
    · have hz : runP step [r] st = Z := by rw [← pcs_last g r hc]; exact HR.out
      obtain ⟨fn, tmps, assign, body, hy, hR⟩ := hY k st r wr (by omega) (by omega) hI
      have HZ2 : Hid (runP step [r] st = Z) := hz
      clear HR hz hY HZ
      gi_wp2_with (first | (refine ⟨trivial, ?_⟩; gi_at_call 163; refine (callsIn_wide.2 ci).mono ?_; rintro e w1 ⟨rfl, hw⟩; subst w1) | fail)
      refine hR.mono ?_
      rintro e V (⟨rfl, hq, hV, _⟩ | ⟨rfl, hq, hV⟩)
      · have HE : Hid ((∃ k st, Z = (st, 0) ∧ Inv k st V)) := ⟨k + 1, (step st r).1, by rw [← HZ2.out]; simp [runP, hq], hV⟩
        clear hq hV hI hR hy
        gi_wp2
        go_end0
        exact ⟨⟨_, rfl⟩, Or.inl HE.out⟩
      · have HE : Hid ((∃ st c, c ≠ 0 ∧ Z = (st, c) ∧ Lft st c V)) := ⟨(step st r).1, (step st r).2, hq, by rw [← HZ2.out]; simp [runP, hq], hV⟩
        clear hq hV hI hR hy
        gi_wp2
        go_end0
        exact ⟨⟨_, rfl⟩, Or.inr HE.out⟩
    · have hl := comma_lt r hc
      obtain ⟨g', hp, hg'⟩ := pcs_more g r hc hg
      have HP := HR.out
      rw [hp] at HP
      have hcm : ((comma r).toNat : Int) = comma r := by omega
      generalize (comma r).toNat = i at hl hp hg' hcm HP
      rw [← hcm] at ci
      have hi0 : ¬ ((i : Nat) : Int) < 0 := by omega
      have hx : (r.extract 0 i).size ≤ 5000 := by rw [ByteArray.size_extract]; omega
      have hx2 : (r.extract (i + 1) r.size).size < r.size := by rw [ByteArray.size_extract]; omega
      obtain ⟨fn, tmps, assign, body, hy, hR⟩ := hY k st (r.extract 0 i) wr (by omega) hx hI
      have z0 : (0 : Int) ≤ (i : Int) := by omega
      have z1 : (i : Int) ≤ (r.size : Int) := by omega
      have z2 : (i : Int) + 1 ≤ (r.size : Int) := by omega
      clear HR hp hc hcm hx
      gi_wp2_with (first | (refine ⟨trivial, ?_⟩; gi_at_call 163; refine (callsIn_wide.2 ci).mono ?_; rintro e w1 ⟨rfl, hw⟩; subst w1) | fail)
      refine hR.mono ?_
      rintro e V (⟨rfl, hq, hV, hk⟩ | ⟨rfl, hq, hV⟩)
      · have j1 : Bk V b1 #[.string ⟨#[44]⟩] 9 := (hk b1 (Or.inl rfl)).trans k1
        have j2 : Bk V b2 #[.string r] 9 := (hk b2 (Or.inr (Or.inl rfl))).trans k2
        have j3 : Bk V b3 #[.int .i64 0] 3 := (hk b3 (Or.inr (Or.inr rfl))).trans k3
        have e1 := j1.cell 0 rfl
        have e2 := j2.cell 0 rfl
        have g2 := j2.frozen 0
        have HZ2 : Hid (runP step (pcs g' (r.extract (i + 1) r.size)) (step st (r.extract 0 i)).1 = Z) := by
          rw [← HP]
          show _ = _
          conv => rhs; unfold runP; rw [if_pos hq]
        have HV : Hid (Inv (k + 1) (step st (r.extract 0 i)).1 V) := hV
        have HJ : Hid (Bk V b1 #[.string ⟨#[44]⟩] 9 ∧ Bk V b2 #[.string r] 9 ∧ Bk V b3 #[.int .i64 0] 3) := ⟨j1, j2, j3⟩
        clear HP hq hV hk hR hy hI hY HZ j1 j2 j3 k1 k2 k3 h1 h2 h3 h0 c1 c3 f2 ci
        gi_wp2
        go_roundw
        case rel =>
          refine ⟨k + 1, (step st (r.extract 0 i)).1, r.extract (i + 1) r.size, g', hg', by omega, HJ.out.1.other h12 _, HJ.out.2.1.set 0 _, HJ.out.2.2.other h32 _, hS _ _ _ _ HV.out, HZ2⟩
        case measure =>
          rw [(HJ.out.2.1.set 0 (.string (r.extract (i + 1) r.size))).cell 0 rfl, c2]
          exact hx2
      · have HE : Hid ((∃ st c, c ≠ 0 ∧ Z = (st, c) ∧ Lft st c V)) := ⟨(step st (r.extract 0 i)).1, (step st (r.extract 0 i)).2, hq, by rw [← HP]; simp [runP, hq], hV⟩
        clear hq hV hI hR hy HP
        gi_wp2
        refine bodyPost_ret (results_none rfl _ _ _) rfl ?_
        exact ⟨⟨_, rfl⟩, Or.inr HE.out⟩
end Go.Proofs.YthdjadkdjljciaaGreatDoor
