/- lists.Check; lists.trim, lists.bare. -/
import Derived.Test.YtgijihfijoiafaaGreatDoorQPGSigGAs
import Derived.Test.YtgijihfijoiafaaGreatDoorQPRangeErr
namespace Go.Proofs.YtgijihfijoiafaaGreatDoor
set_option linter.unusedVariables false
open Go.RowKit Go.ChangeShapes

/-- Letters, an apostrophe between two of them allowed: whether the last was a letter. -/
def okw : Bool → List Int → Bool
  | b, [] => b
  | b, r :: l => bif lB r then okw true l else bif (r == 39) && b then okw false l else false
/-- Check's number. -/
def chkL (n : Nat) (L : List Int) : Int := if 64 < n then 3 else bif okw false L then 0 else 5
theorem rl_at (s : ByteArray) (k j : Nat) (h : j < k) : (rl s k)[j]? = some (rn s (pos s j)) := by
  simp [rl, List.getElem?_range h]
theorem rl_fit {s : ByteArray} {k : Nat} (he : Ends s k) (j : Nat) (h : j < k) : Fit (rn s (pos s j)) := by
  rcases rn_range s (pos s j) (he.2 j h) with e | e
  · rw [e]; unfold Fit; omega
  · exact ok_fit e
theorem drop_cons {α : Type} {L : List α} {j : Nat} {x : α} (h : L[j]? = some x) : L.drop j = x :: L.drop (j + 1) := by
  obtain ⟨hj, e⟩ := List.getElem?_eq_some_iff.1 h
  rw [List.drop_eq_getElem_cons hj, e]
set_option maxHeartbeats 1000000 in
theorem check_any (s : ByteArray) (k : Nat) (w : World) (hn : s.size ≤ 5000) (hT : Tabs w) (he : Ends s k) :
    Calls Tryz.prog 12 #[.string s] w fun e w' => e = .returned (.int .i64 (chkL s.size (rl s k))) ∧ Below w.heap.size w w' := by
  by_cases h64 : 64 < s.size
  · have hd : chkL s.size (rl s k) = 3 := by simp [chkL, h64]
    rw [hd]
    clear hd
    go_enter Tryz.func12, Tryz.ntmps12
    go_wp2
    go_ret
    exact ⟨rfl, Below.refl _ _⟩
  · have h64' : s.size ≤ 64 := by omega
    have c := runes_any s w hn hT
    have HE : Hid (Ends s k) := he
    have hz : Hid (chkL s.size (rl s k) = bif okw false (rl s k) then 0 else 5) := by show _ = _; simp [chkL, h64]
    rw [hz.out]
    clear he hT hz
    generalize hZ : (bif okw false (rl s k) then (0 : Int) else 5) = z
    have HZ : Hid ((bif okw false (rl s k) then (0 : Int) else 5) = z) := hZ
    clear hZ
    go_enter Tryz.func12, Tryz.ntmps12
    go_wp2_with fail
    refine c.mono ?_
    rintro e w1 ⟨k', v, rfl, he', hown, hb⟩
    obtain rfl := he'.one HE.out
    rw [rcells_rl] at hown
    obtain ⟨hR, hlen⟩ := rls_of hown
    have hk : k' ≤ 64 := Nat.le_trans he'.le h64'
    have HR : Hid (RLs w1 v (rl s k')) := hR
    have HB : Hid (Below w.heap.size w w1) := hb
    clear hR hlen hown c hb he'
    obtain ⟨L, hL⟩ : ∃ L, rl s k' = L := ⟨_, rfl⟩
    have HF : Hid (∀ (j : Nat) (x : Int), L[j]? = some x → Fit x) := by
      intro j x hx
      rw [← hL] at hx
      have hj : j < k' := by have := (List.getElem?_eq_some_iff.1 hx).1; simpa [rl] using this
      rw [rl_at s k' j hj] at hx
      obtain rfl := Option.some.inj hx
      exact rl_fit HE.out j hj
    have HLn : Hid (L.length = k') := by show _ = _; rw [← hL]; simp [rl]
    rw [hL] at HR HZ
    clear hL HE
    have hform : ∃ ad cc, v = .slice ad k' cc := by
      rcases HR.out with ⟨ad, cc, rfl, h0⟩ | ⟨b, off, cc, rfl, _⟩
      · exact ⟨ad, cc, by rw [← HLn.out, h0]⟩
      · exact ⟨_, cc, by rw [← HLn.out]⟩
    obtain ⟨ad, cc, rfl⟩ := hform
    go_wp2
    go_loopg [3, 12] k' (fun g lt i wr => ∃ (j : Nat) (b : Bool), j ≤ k' ∧ g = k' - j ∧ lt = .bool b ∧ i = .int .i64 j ∧ Hid (okw b (L.drop j) = okw false L) ∧ Hid (wr = w1))
    case atStart => exact ⟨0, false, Nat.zero_le _, rfl, rfl, rfl, rfl, rfl⟩
    case round =>
      obtain ⟨j, b, hj, hg, rfl, rfl, HO, HW⟩ := hrel
      obtain rfl := HW.out
      by_cases hlt : j < k'
      · obtain ⟨r, hr⟩ : ∃ r, L[j]? = some r := by
          cases h : L[j]? with
          | none => exact absurd (List.getElem?_eq_none_iff.1 h) (by rw [HLn.out]; omega)
          | some r => exact ⟨r, rfl⟩
        have hfit := HF.out j r hr
        have hdrop : Hid (L.drop j = r :: L.drop (j + 1)) := drop_cons hr
        rcases HR.out with ⟨ad', cc', e, h0⟩ | ⟨b1, off, cc', e, hcells⟩
        · rw [HLn.out] at h0; omega
        · injection e with e1 e2 e3
          subst e1 e3
          have hc : wr.cell? ⟨b1, off + j, none⟩ = some (.int .i32 r) := by
            have := hcells j (by rw [HLn.out]; exact hlt)
            simpa [List.getD, hr] using this
          have ct := letter_any r hfit wr
          have HO2 : Hid (okw b (r :: L.drop (j + 1)) = okw false L) := by show _ = _; rw [← hdrop.out]; exact HO.out
          clear hcells e2 hfit hdrop hr
          cases hl : lB r
          · rw [hl] at ct
            by_cases h39 : r = 39
            · subst h39
              cases b
              · have hz : z = 5 := by
                  have := HO2.out
                  simp only [okw, hl, cond_false, Bool.and_false] at this
                  rw [← HZ.out, ← this]; rfl
                subst hz
                clear hl
                go_wp2_with fail
                refine ct.mono ?_
                rintro e w2 ⟨rfl, hw2⟩
                subst w2
                go_wp2
                go_ret
                exact ⟨rfl, HB.out⟩
              · have HO3 : Hid (okw false (L.drop (j + 1)) = okw false L) := by
                  show _ = _
                  have := HO2.out
                  simpa [okw, hl] using this
                clear hl
                go_wp2_with fail
                refine ct.mono ?_
                rintro e w2 ⟨rfl, hw2⟩
                subst w2
                go_wp2
                go_roundg (k' - (j + 1))
                case measure => omega
                case rel => exact ⟨j + 1, false, by omega, rfl, rfl, by go_num, HO3, rfl⟩
            · have hr39 : (r == 39) = false := by simpa using h39
              have hz : z = 5 := by
                have := HO2.out
                simp only [okw, hl, hr39, cond_false, Bool.false_and] at this
                rw [← HZ.out, ← this]; rfl
              subst hz
              clear hl h39
              go_wp2_with fail
              refine ct.mono ?_
              rintro e w2 ⟨rfl, hw2⟩
              subst w2
              go_wp2
              go_ret
              exact ⟨rfl, HB.out⟩
          · rw [hl] at ct
            have HO3 : Hid (okw true (L.drop (j + 1)) = okw false L) := by
              show _ = _
              have := HO2.out
              simpa [okw, hl] using this
            clear hl
            go_wp2_with fail
            refine ct.mono ?_
            rintro e w2 ⟨rfl, hw2⟩
            subst w2
            go_wp2
            go_roundg (k' - (j + 1))
            case measure => omega
            case rel => exact ⟨j + 1, true, by omega, rfl, rfl, by go_num, HO3, rfl⟩
      · obtain rfl : j = k' := by omega
        have hend : b = okw false L := by
          have := HO.out
          rw [List.drop_eq_nil_of_le (by rw [HLn.out]; exact Nat.le_refl _)] at this
          simpa [okw] using this
        have hz : z = bif b then 0 else 5 := by rw [hend]; exact HZ.out.symm
        subst hz
        clear hend HO
        cases b
        · go_wp2
          go_ret
          exact ⟨rfl, HB.out⟩
        · go_wp2
          go_ret
          exact ⟨rfl, HB.out⟩
theorem below_drew {B : Nat} {a w : World} (h : Below B a w) (n : Nat) : Below B a (w.drewN n) := below_drewN h n
/-- A line's row. -/
def rowL (l : List UInt8) : List UInt8 := Lib.trimS (Lib.cut l [35]).1 [32, 9, 13, 10]
theorem trim_any (s : ByteArray) (w : World) (hs : s.size < 4294967281) (m : Int) (hm : w.cell? ⟨3, 0, none⟩ = some (.int .i64 m)) :
    Calls Tryz.prog 57 #[.string s] w fun e w' => e = .returned (.string ⟨(rowL s.data.toList).toArray⟩) ∧ Below w.heap.size w w' := by
  have c1 := Tryz.strings_Cut s ⟨#[35]⟩ m w hs hm
  have hcs : (Lib.cut s.data.toList [35]).1.length ≤ s.size := by
    unfold Lib.cut
    split
    · simp; omega
    · simp
  unfold rowL
  obtain ⟨A, hA⟩ : ∃ A, Lib.cut s.data.toList [35] = A := ⟨_, rfl⟩
  change Calls Tryz.prog 65 #[.string s, .string ⟨#[35]⟩] w (fun e w' => e = .returned (.tuple #[.string ⟨(Lib.cut s.data.toList [35]).1.toArray⟩, .string ⟨(Lib.cut s.data.toList [35]).2.1.toArray⟩, .bool (Lib.cut s.data.toList [35]).2.2]) ∧ ∃ n, w' = w.drewN n) at c1
  rw [hA] at c1 hcs ⊢
  clear hA
  obtain ⟨a1, a2, a3⟩ := A
  simp only at c1 hcs ⊢
  obtain ⟨z, hz⟩ : ∃ z, Lib.trimS a1 [32, 9, 13, 10] = z := ⟨_, rfl⟩
  rw [hz]
  have HZ : Hid (Lib.trimS a1 [32, 9, 13, 10] = z) := hz
  clear hz
  have hsz : (⟨a1.toArray⟩ : ByteArray).size ≤ 9223372036854775807 := by show a1.toArray.size ≤ _; simp; omega
  go_enter Tryz.func57, Tryz.ntmps57
  go_wp2_with fail
  refine c1.mono ?_
  rintro e w1 ⟨rfl, n, hw1⟩
  have c2 := Tryz.strings_Trim_laid ⟨a1.toArray⟩ ⟨#[32, 9, 13, 10]⟩ w1 hsz (by decide) (ascii_of_all (by decide))
  simp only [] at c2
  rw [HZ.out] at c2
  have HB : Hid (Below w.heap.size w w1) := by rw [hw1]; exact below_drewN (Below.refl _ _) n
  clear hw1 c1 hsz hcs
  go_wp2_with fail
  refine c2.mono ?_
  rintro e w2 ⟨rfl, hb2⟩
  have HB2 : Hid (Below w.heap.size w w2) := HB.out.trans (hb2.mono HB.out.size)
  clear hb2 c2
  go_wp2
  go_ret
  exact ⟨rfl, HB2.out⟩
/-- A word's, without what may stand about it. -/
def bareL (l : List UInt8) : List UInt8 := Lib.trimS l [32, 9]
theorem bare_any (s : ByteArray) (w : World) (hs : s.size < 4294967281) :
    Calls Tryz.prog 66 #[.string s] w fun e w' => e = .returned (.string ⟨(bareL s.data.toList).toArray⟩) ∧ Below w.heap.size w w' := by
  have c2 := Tryz.strings_Trim_laid s ⟨#[32, 9]⟩ w (by omega) (by decide) (ascii_of_all (by decide))
  unfold bareL
  change Calls Tryz.prog 91 #[.string s, .string ⟨#[32, 9]⟩] w (fun e w' => e = .returned (.string ⟨(Lib.trimS s.data.toList [32, 9]).toArray⟩) ∧ Below w.heap.size w w') at c2
  generalize Lib.trimS s.data.toList [32, 9] = z at c2 ⊢
  go_enter Tryz.func66, Tryz.ntmps66
  go_wp2_with fail
  refine c2.mono ?_
  rintro e w2 ⟨rfl, hb2⟩
  go_wp2
  go_ret
  exact ⟨rfl, hb2⟩
end Go.Proofs.YtgijihfijoiafaaGreatDoor
/- within; ring.closed, glance.closed; is, tells. -/
namespace Go.Proofs.YtgijihfijoiafaaGreatDoor
set_option linter.unusedVariables false
open Go.RowKit Go.ChangeShapes

theorem within_at (b : Nat) (s : ByteArray) (n : Int) (T : TypeId) (x : Value) (w : World) (h : w.heap[b]? = some (.cells #[.string s, .int .i64 n, .iface T x] 83 (0, 0))) :
    Calls Tryz.prog 123 #[.iface 81 (.pointer (some ⟨b, 0, none⟩))] w fun e w' => e = .returned (.tuple #[.iface T x, .slice none 0 0]) ∧ Below w.heap.size w w' := by
  have hmf : ∀ (fn : Fn) (first cap : Array Value) (w : World), (Instr.makeFunc fn first cap).run Tryz.prog w = .ok (.func fn first cap) w := fun _ _ _ _ => rfl
  have hlt := lt_of_heap h
  have c := atUnwrap b s n (.iface T x) ((w.alloc (.cells #[.nilIface] 30)).alloc (.cells #[.slice none 0 0] 117)) ((((Up.refl w).alloc _).alloc _).1.block b hlt |>.trans h)
  clear h
  have h := Tryz.hasUnwrapA
  have m := Tryz.methU
  go_enter_defers Tryz.func123, Tryz.ntmps123
  go_wp2_with fail
  refine c.mono ?_
  rintro e w1 ⟨rfl, rfl⟩
  go_wp2
  go_region
  all_goals
    go_wp2
    refine leaves_cons (f := 151) (args := #[.pointer (some ⟨w.heap.size, 0, none⟩), .pointer (some ⟨w.heap.size + 1, 0, none⟩)]) (by simp) (by simp [go_sem]) ?_
    refine (catch_idle2 ⟨w.heap.size, 0, none⟩ ⟨w.heap.size + 1, 0, none⟩ _).mono ?_
    rintro e u' w'' ⟨rfl, rfl, rfl⟩
    simp [Leaves, settle, results, Tryz.results123, go_sem]
    exact (((Up.refl w).alloc _).alloc _).drew.1
theorem within_num (c : Int) (w : World) :
    Calls Tryz.prog 123 #[.iface 23 (.int .i64 c)] w fun e w' => e = .returned (.tuple #[.nilIface, .slice none 0 0]) ∧ Below w.heap.size w w' := by
  have hmf : ∀ (fn : Fn) (first cap : Array Value) (w : World), (Instr.makeFunc fn first cap).run Tryz.prog w = .ok (.func fn first cap) w := fun _ _ _ _ => rfl
  have h := Tryz.noUnwrapN
  have h2 := Tryz.noManyN
  go_enter_defers Tryz.func123, Tryz.ntmps123
  go_wp2
  go_region
  all_goals
    go_wp2
    refine leaves_cons (f := 151) (args := #[.pointer (some ⟨w.heap.size, 0, none⟩), .pointer (some ⟨w.heap.size + 1, 0, none⟩)]) (by simp) (by simp [go_sem]) ?_
    refine (catch_idle2 ⟨w.heap.size, 0, none⟩ ⟨w.heap.size + 1, 0, none⟩ _).mono ?_
    rintro e u' w'' ⟨rfl, rfl, rfl⟩
    simp [Leaves, settle, results, Tryz.results123, go_sem]
    exact (((Up.refl w).alloc _).alloc _).drew.1
/-- What lies within. -/
def nxt : List Nd → Int → Value
  | [], _ => .nilIface
  | _ :: l, c => val l c
theorem within_any (l : List Nd) (c : Int) (w : World) (h : Lie w l c) :
    Calls Tryz.prog 123 #[val l c] w fun e w' => e = .returned (.tuple #[nxt l c, .slice none 0 0]) ∧ Below w.heap.size w w' := by
  match l, h with
  | [], _ => exact within_num c w
  | x :: l, h =>
    obtain ⟨T, v, e⟩ := val_shape l c
    have := within_at x.b x.s x.n T v w (by rw [← e]; exact h.1)
    rw [← e] at this
    exact this
theorem Tryz.asAA (v : Value) (xT : TypeId) (w : World) : (Instr.typeAssert (.iface 81 v) xT 81 true).run Tryz.prog w = .ok (.tuple #[v, .bool true]) w := by kernel_rfl
theorem Tryz.asNA (v : Value) (xT : TypeId) (w : World) : (Instr.typeAssert (.iface 23 v) xT 81 true).run Tryz.prog w = .ok (.tuple #[.pointer none, .bool false]) w := by kernel_rfl
theorem Tryz.asAN (v : Value) (xT : TypeId) (w : World) : (Instr.typeAssert (.iface 81 v) xT 23 true).run Tryz.prog w = .ok (.tuple #[.int .i64 0, .bool false]) w := by kernel_rfl
theorem Tryz.asNN (v : Value) (xT : TypeId) (w : World) : (Instr.typeAssert (.iface 23 v) xT 23 true).run Tryz.prog w = .ok (.tuple #[v, .bool true]) w := by kernel_rfl
theorem is_at (b : Nat) (w : World) :
    Calls Tryz.prog 75 #[.iface 81 (.pointer (some ⟨b, 0, none⟩))] w fun e w' => e = .returned (.bool true) ∧ w' = w := by
  have h0 := Tryz.asAA
  go_enter Tryz.func75, Tryz.ntmps75
  go_wp2
  go_ret
  exact ⟨rfl, rfl⟩
theorem is_num (c : Int) (w : World) :
    Calls Tryz.prog 75 #[.iface 23 (.int .i64 c)] w fun e w' => e = .returned (.bool false) ∧ w' = w := by
  have h0 := Tryz.asNA
  go_enter Tryz.func75, Tryz.ntmps75
  go_wp2
  go_ret
  exact ⟨rfl, rfl⟩
theorem Tryz.noIsN (v : Value) (xT : TypeId) (w : World) : (Instr.typeAssert (.iface 23 v) xT 172 true).run Tryz.prog w = .ok (.tuple #[.nilIface, .bool false]) w := run_typeAssert_lacksB Tryz.underlying172 (by kernel_rfl) (by kernel_rfl) v xT w
theorem Tryz.noIsA (v : Value) (xT : TypeId) (w : World) : (Instr.typeAssert (.iface 81 v) xT 172 true).run Tryz.prog w = .ok (.tuple #[.nilIface, .bool false]) w := run_typeAssert_lacksB Tryz.underlying172 (by kernel_rfl) (by kernel_rfl) v xT w
theorem Tryz.noAsN (v : Value) (xT : TypeId) (w : World) : (Instr.typeAssert (.iface 23 v) xT 173 true).run Tryz.prog w = .ok (.tuple #[.nilIface, .bool false]) w := run_typeAssert_lacksB Tryz.underlying173 (by kernel_rfl) (by kernel_rfl) v xT w
theorem Tryz.noAsA (v : Value) (xT : TypeId) (w : World) : (Instr.typeAssert (.iface 81 v) xT 173 true).run Tryz.prog w = .ok (.tuple #[.nilIface, .bool false]) w := run_typeAssert_lacksB Tryz.underlying173 (by kernel_rfl) (by kernel_rfl) v xT w
theorem tellsA_at (b : Nat) (w : World) :
    Calls Tryz.prog 77 #[.iface 81 (.pointer (some ⟨b, 0, none⟩))] w fun e w' => e = .returned (.bool true) ∧ w' = w := by
  have h0 := Tryz.asAA
  have h1 := Tryz.noIsA
  have h2 := Tryz.noAsA
  go_enter Tryz.func77, Tryz.ntmps77
  go_wp2
  go_ret
  exact ⟨rfl, rfl⟩
theorem tellsA_num (c : Int) (w : World) :
    Calls Tryz.prog 77 #[.iface 23 (.int .i64 c)] w fun e w' => e = .returned (.bool false) ∧ w' = w := by
  have h0 := Tryz.asNA
  have h1 := Tryz.noIsN
  have h2 := Tryz.noAsN
  go_enter Tryz.func77, Tryz.ntmps77
  go_wp2
  go_ret
  exact ⟨rfl, rfl⟩
theorem tellsN_at (b : Nat) (w : World) :
    Calls Tryz.prog 85 #[.iface 81 (.pointer (some ⟨b, 0, none⟩))] w fun e w' => e = .returned (.bool false) ∧ w' = w := by
  have h0 := Tryz.asAN
  have h1 := Tryz.noIsA
  have h2 := Tryz.noAsA
  go_enter Tryz.func85, Tryz.ntmps85
  go_wp2
  go_ret
  exact ⟨rfl, rfl⟩
theorem tellsN_num (c : Int) (w : World) :
    Calls Tryz.prog 85 #[.iface 23 (.int .i64 c)] w fun e w' => e = .returned (.bool true) ∧ w' = w := by
  have h0 := Tryz.asNN
  have h1 := Tryz.noIsN
  have h2 := Tryz.noAsN
  go_enter Tryz.func85, Tryz.ntmps85
  go_wp2
  go_ret
  exact ⟨rfl, rfl⟩
/-- A block of cells. -/
def Bk (w : World) (b : Nat) (cs : Array Value) (T : TypeId) : Prop := w.heap[b]? = some (.cells cs T (0, 0))
theorem Bk.lt {w : World} {b : Nat} {cs : Array Value} {T : TypeId} (h : Bk w b cs T) : b < w.heap.size := lt_of_heap h
theorem Bk.cell {w : World} {b : Nat} {cs : Array Value} {T : TypeId} (h : Bk w b cs T) (i : Nat) {v : Value} (hi : cs[i]? = some v) : w.cell? ⟨b, i, none⟩ = some v := by
  unfold Bk at h
  simp [World.cell?, h, hi]
theorem Bk.frozen {w : World} {b : Nat} {cs : Array Value} {T : TypeId} (h : Bk w b cs T) (i : Nat) : w.frozen? ⟨b, i, none⟩ = false := by
  unfold Bk at h
  simp [World.frozen?, h]
theorem Bk.set {w : World} {b : Nat} {cs : Array Value} {T : TypeId} (h : Bk w b cs T) (i : Nat) (v : Value) : Bk (w.setCell ⟨b, i, none⟩ v) b (cs.setIfInBounds i v) T := by
  unfold Bk at h ⊢
  obtain ⟨hlt, he⟩ := Array.getElem?_eq_some_iff.1 h
  show (w.heap.modify b _)[b]? = _
  rw [Array.getElem?_eq_getElem (by rw [Array.size_modify]; exact hlt), Array.getElem_modify_self, he]
  simp
theorem Bk.other {w : World} {b : Nat} {cs : Array Value} {T : TypeId} (h : Bk w b cs T) {q : Addr} (hq : b ≠ q.block) (v : Value) : Bk (w.setCell q v) b cs T := (Below.heap_setCell w q v b hq).trans h
theorem Bk.stay {w w' : World} {b : Nat} {cs : Array Value} {T : TypeId} (h : Bk w b cs T) (hb : Below w.heap.size w w') : Bk w' b cs T := (hb.block b h.lt).trans h
theorem Bk.alloc {w : World} {b : Nat} {cs : Array Value} {T : TypeId} (h : Bk w b cs T) (o : Obj) : Bk (w.alloc o) b cs T := h.stay ((Below.refl _ _).alloc (Nat.le_refl _) o)
theorem Bk.new (w : World) (cs : Array Value) (T : TypeId) : Bk (w.alloc (.cells cs T)) w.heap.size cs T := World.alloc_heap_new w _
theorem Bk.kept {w w' : World} {b n : Nat} {p : Nat → Prop} {cs : Array Value} {T : TypeId} (h : Bk w b cs T) (k : Kpt n p w w') (hn : b < n) (hp : ¬ p b) : Bk w' b cs T := (k.block b hn hp).trans h
theorem Bk.drewN {w : World} {b : Nat} {cs : Array Value} {T : TypeId} (h : Bk w b cs T) (n : Nat) : Bk (w.drewN n) b cs T := h.stay (below_drewN (Below.refl _ _) n)

theorem ring_closed (br b' : Nat) (m : Value) (i j : Int) (w : World) (hr : Bk w br #[m, .int .i64 i, .int .i64 j] 175) (hi : 0 ≤ i) (hi2 : i ≤ 1000) (hm : ∃ T x, m = .iface T x ∨ m = .nilIface)
    (hs : ∀ w', Kpt w.heap.size (· = br) w w' → Calls Tryz.prog 150 #[m, .iface 81 (.pointer (some ⟨b', 0, none⟩))] w' fun e w'' => e = .returned (.bool false) ∧ Below w'.heap.size w' w'') :
    Calls Tryz.prog 121 #[.pointer (some ⟨br, 0, none⟩), .iface 81 (.pointer (some ⟨b', 0, none⟩))] w fun e w' => e = .returned (.bool false) ∧
      ∃ m' j', Bk w' br #[m', .int .i64 (i + 1), .int .i64 j'] 175 ∧ (m' = m ∨ m' = .iface 81 (.pointer (some ⟨b', 0, none⟩))) ∧ Kpt w.heap.size (· = br) w w' := by
  have c0 := hr.cell 0 rfl
  have c1 := hr.cell 1 rfl
  have f1 := hr.frozen 1
  have HR : Hid (Bk (w.setCell ⟨br, 1, none⟩ (.int .i64 (i + 1))) br #[m, .int .i64 (i + 1), .int .i64 j] 175) := hr.set 1 (.int .i64 (i + 1))
  have HK : Hid (Kpt w.heap.size (· = br) w (w.setCell ⟨br, 1, none⟩ (.int .i64 (i + 1)))) := (Kpt.refl w.heap.size (· = br) w).setCell (Or.inr rfl) _
  have cs := hs _ HK.out
  clear hs hr
  obtain ⟨T, x, hm⟩ := hm
  generalize hW : w.setCell ⟨br, 1, none⟩ (.int .i64 (i + 1)) = W at *
  have d0 := HR.out.cell 0 rfl
  go_enter Tryz.func121, Tryz.ntmps121
  rcases hm with rfl | rfl
  all_goals
    go_wp2_with fail
    refine cs.mono ?_
    rintro e w1 ⟨rfl, hb⟩
    have HR1 := HR.out.stay hb
    have HK1 : Hid (Kpt w.heap.size (· = br) w w1) := HK.out.trans (Kpt.of (hb.mono HK.out.size))
    clear cs hb HK HR d0
    have e1 := HR1.cell 1 rfl
    have e2 := HR1.cell 2 rfl
    have e0 := HR1.cell 0 rfl
    have g0 := HR1.frozen 0
    have g2 := HR1.frozen 2
    have HR2 : Hid (Bk w1 br _ 175) := HR1
    clear HR1 hW
    by_cases hij : j ≤ i + 1
    · go_wp2
      go_quiet (fail)
      go_wp2
      go_ret
      have q := ((HR2.out.drewN nq).set 0 (.iface 81 (.pointer (some ⟨b', 0, none⟩)))).set 2 (.int .i64 (2 * (i + 1)))
      exact ⟨rfl, _, _, q, Or.inr rfl, ((HK1.out.trans (Kpt.of (below_drewN (Below.refl _ _) nq))).setCell (Or.inr rfl) _).setCell (Or.inr rfl) _⟩
    · go_wp2
      go_quiet (fail)
      go_wp2
      go_ret
      exact ⟨rfl, _, _, HR2.out.drewN nq, Or.inl rfl, HK1.out.trans (Kpt.of (below_drewN (Below.refl _ _) nq))⟩
theorem glance_closed (bg : Nat) (T : TypeId) (x : Value) (k : Int) (w : World) (hr : Bk w bg #[.nilIface, .int .i64 k, .int .i64 256] 120) (hi : 0 ≤ k) (hi2 : k ≤ 200) :
    Calls Tryz.prog 122 #[.pointer (some ⟨bg, 0, none⟩), .iface T x] w fun e w' => e = .returned (.bool false) ∧
      Bk w' bg #[.nilIface, .int .i64 (k + 1), .int .i64 256] 120 ∧ Kpt w.heap.size (· = bg) w w' := by
  have c1 := hr.cell 1 rfl
  have f1 := hr.frozen 1
  have HR := hr.set 1 (.int .i64 (k + 1))
  have HK : Hid (Kpt w.heap.size (· = bg) w (w.setCell ⟨bg, 1, none⟩ (.int .i64 (k + 1)))) := (Kpt.refl w.heap.size (· = bg) w).setCell (Or.inr rfl) _
  clear hr
  have hd : decide (134217728 < k + 1) = false := by simp; omega
  generalize hW : w.setCell ⟨bg, 1, none⟩ (.int .i64 (k + 1)) = W at *
  have d1 := HR.cell 1 rfl
  have d2 := HR.cell 2 rfl
  have HR2 : Hid (Bk W bg _ 120) := HR
  clear HR
  go_enter Tryz.func122, Tryz.ntmps122
  go_wp2
  go_quiet (fail)
  go_wp2
  go_ret
  exact ⟨rfl, HR2.out.drewN nq, HK.out.trans (Kpt.of (below_drewN (Below.refl _ _) nq))⟩
end Go.Proofs.YtgijihfijoiafaaGreatDoor
