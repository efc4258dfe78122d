/- utf.Put. -/
import Derived.Test.YtlmpohihbdlefaaDoorPureB
import Derived.Laws.CopyOwn
import Derived.Laws.MakeOwn
namespace Go.Proofs.YtlmpohihbdlefaaDoor
set_option linter.unusedVariables false
open Go.RowKit Go.ChangeShapes
theorem put_no (v : Value) (r : Int) (w : World) (ho : okR r = false) :
    Calls Tryd.prog 17 #[v, .int .i32 r] w fun e w' => e = .returned (.tuple #[.slice none 0 0, .int .i64 2]) ∧ w' = w := by
  have cv := valid_any r w
  rw [ho] at cv
  go_enter Tryd.func17, Tryd.ntmps17
  go_wp2_with fail
  refine cv.mono ?_
  rintro e w' ⟨rfl, rfl⟩
  go_wp2
  go_ret2
  exact ⟨rfl, rfl⟩
theorem numsOf_cell {w : World} {b off : Nat} {s : ByteArray} (h : By w b off s) (j : Nat) (u : Value) (hu : (cellsOf (numsOf s))[j]? = some u) : w.cell? ((⟨b, off, none⟩ : Addr).add j) = some u := by
  have hj : j < s.size := by
    have := (List.getElem?_eq_some_iff.1 hu).1
    simpa [cellsOf, numsOf_len] using this
  have hadd : (⟨b, off, none⟩ : Addr).add j = ⟨b, off + j, none⟩ := by unfold Addr.add; split <;> simp_all
  rw [hadd, h j hj, ← hu]
  simp only [cellsOf, List.getElem?_map, numsOf_at s j hj, Option.map_some]
  rfl
set_option maxHeartbeats 1000000 in
theorem put_ok (s : ByteArray) (v : Value) (r : Int) (w : World) (hs : s.size ≤ 5000) (ho : okR r = true) (h : BSl w v s) :
    Calls Tryd.prog 17 #[v, .int .i32 r] w fun e w' => ∃ v', e = .returned (.tuple #[v', .int .i64 0]) ∧ w'.ownsRow w.heap.size 5 1 v' (numsOf s ++ enc r).length (cellsOf (numsOf s ++ enc r)) ∧ Below w.heap.size w w' := by
  have hsrc : 0 < (cellsOf (numsOf s)).length → ∃ ad c, v = .slice (some ad) s.size c ∧ ∀ j u, (cellsOf (numsOf s))[j]? = some u → w.cell? (ad.add j) = some u := by
    intro hp
    rcases h with ⟨ad, c, rfl, h0⟩ | ⟨b, off, c, rfl, h1, h2, hb⟩
    · simp [cellsOf, numsOf_len, h0] at hp
    · exact ⟨_, c, rfl, fun j u hu => numsOf_cell hb j u hu⟩
  have hform : ∃ ad c, v = .slice ad s.size c := by
    rcases h with ⟨ad, c, rfl, h⟩ | ⟨b, off, c, rfl, _⟩
    · exact ⟨ad, c, by rw [h]⟩
    · exact ⟨_, c, rfl⟩
  obtain ⟨ad, c, rfl⟩ := hform
  have HS : Hid (0 < (cellsOf (numsOf s)).length → ∃ d c', (Value.slice ad s.size c) = .slice (some d) s.size c' ∧ ∀ j u, (cellsOf (numsOf s))[j]? = some u → w.cell? (d.add j) = some u) := hsrc
  clear h hsrc
  have cv := valid_any r w
  rw [ho] at cv
  obtain ⟨i0, hi, hz0, hz1, hz2⟩ := info_parts info5
  have hlen : (numsOf s).length = s.size := numsOf_len s
  generalize numsOf s = l at HS hlen
  generalize s.size = n at *
  subst hlen
  have hmk := run_make (P := Tryd.prog) w 22 5 i0 (.int .u8 0) Tryd.underlying22 hi hz0 .i64 .i64 (l.length : Int) ((l.length : Int) + 4) (by omega) (by omega) (by rw [hz2]; omega) (by omega)
  rw [hz1, Nat.mul_one, Int.toNat_natCast, show ((l.length : Int) + 4).toNat = l.length + 4 by omega] at hmk
  go_enter Tryd.func17, Tryd.ntmps17
  go_wp2_with fail
  refine cv.mono ?_
  rintro e w' ⟨rfl, rfl⟩
  have hg0 : (w'.alloc (.cells (madeCells #[.int .u8 0] (l.length + 4)) 5)).heap[w'.heap.size]? = some (.cells (List.replicate (l.length + 4) (Value.int .u8 0)).toArray 5 (0, 0)) := by
    rw [heap_alloc_new, ← toList_madeCells_one, Array.toArray_toList]
  have hcl : (cellsOf l).length = l.length := by simp [cellsOf]
  have hmin : Nat.min l.length l.length = l.length := Nat.min_self _
  go_wp2_with (refine wpList_copy_splice rfl (.tmp 16) (.tmp 17) 22 22 rfl 5 Tryd.underlying22 (by kernel_rfl) _ _ _ _ _ _ rfl rfl w'.heap.size 0 (List.replicate (l.length + 4) (Value.int .u8 0)) 5 hg0 (cellsOf l) (by rw [hcl, hmin]) ?c1 ?c2 (cellsOf_one _) w'.heap.size w' ((Below.refl _ _).alloc (Nat.le_refl _) _) (Nat.le_refl _) ?_)
  case c1 =>
    intro hp
    obtain ⟨d, c', he, hd⟩ := HS.out (by rw [hcl]; exact hp)
    cases he
    exact ⟨d, rfl, fun j u hu => by rw [World.cell?_alloc_lt _ _ _ (World.block_lt_of_cell? w' _ (hd j u hu))]; exact hd j u hu⟩
  case c2 => rw [hcl, List.length_replicate]; omega
  intro w2 hh2 hb2
  have hown2 : w2.ownsRow w'.heap.size 5 1 (.slice (some ⟨w'.heap.size, 0, none⟩) l.length (l.length + 4)) l.length (cellsOf l) := by
    refine ⟨by rw [hcl, Nat.mul_one], Or.inr ⟨w'.heap.size, l.length + 4, _, rfl, Nat.le_refl _, hh2, by omega, by unfold maxLen; omega, ?_, ?_⟩⟩
    · simp only [List.size_toArray]
      rw [length_splice _ _ _ (by rw [hcl, List.length_replicate]; omega), List.length_replicate, Nat.mul_one]
    · rw [Nat.mul_one, splice, List.take_zero, List.nil_append, ← hcl, List.take_left]
  have HO2 : Hid (w2.ownsRow w'.heap.size 5 1 (.slice (some ⟨w'.heap.size, 0, none⟩) l.length (l.length + 4)) l.length (cellsOf l)) := hown2
  have HB2 : Hid (Below w'.heap.size w' w2) := hb2
  clear hh2 hb2 hown2 hg0 HS hmk cv
  go_wp2_with fail
  refine (appendRune_any w'.heap.size _ l r _ ho HO2.out (by omega) HB2.out.size).mono ?_
  rintro e w3 ⟨v', rfl, hown3, hb3⟩
  go_wp2
  go_ret2
  exact ⟨v', rfl, hown3, HB2.out.trans hb3⟩
end Go.Proofs.YtlmpohihbdlefaaDoor
