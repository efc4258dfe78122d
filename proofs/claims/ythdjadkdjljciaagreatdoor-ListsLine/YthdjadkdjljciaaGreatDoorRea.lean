/- lists.read. -/
import Derived.Test.YthdjadkdjljciaaGreatDoorCor
namespace Go.Proofs.YthdjadkdjljciaaGreatDoor
set_option linter.unusedVariables false
open Go.RowKit Go.ChangeShapes

/-- A row's two sides. -/
def sideA (r : ByteArray) : ByteArray := ⟨(Lib.cut r.data.toList [45, 62]).1.toArray⟩
def sideB (r : ByteArray) : ByteArray := ⟨(Lib.cut r.data.toList [45, 62]).2.1.toArray⟩
def sides (r : ByteArray) : Bool := (Lib.cut r.data.toList [45, 62]).2.2
/-- A row of corrections; an error's number. -/
def entry (r : ByteArray) : (ByteArray × List ByteArray) × Int :=
  if sides r = false then ((⟨#[]⟩, []), 7) else if chk (bareB (sideA r)) ≠ 0 then ((⟨#[]⟩, []), chk (bareB (sideA r)))
  else if (runP cstep (pcs (sideB r).size (sideB r)) []).2 ≠ 0 then ((⟨#[]⟩, []), (runP cstep (pcs (sideB r).size (sideB r)) []).2) else ((fld (bareB (sideA r)), (runP cstep (pcs (sideB r).size (sideB r)) []).1), 0)
theorem cut_sizes (l sep : List UInt8) : (Lib.cut l sep).1.length ≤ l.length ∧ (Lib.cut l sep).2.1.length ≤ l.length := by
  unfold Lib.cut
  split
  · simp; omega
  · simp
theorem sideA_size (r : ByteArray) : (sideA r).size ≤ r.size := (cut_sizes r.data.toList _).1
theorem sideB_size (r : ByteArray) : (sideB r).size ≤ r.size := (cut_sizes r.data.toList _).2
theorem cut_at (r : ByteArray) (m : Int) (w : World) (hs : r.size < 4294967281) (hm : w.cell? ⟨3, 0, none⟩ = some (.int .i64 m)) :
    Calls Tryz.prog 65 #[.string r, .string ⟨#[45, 62]⟩] w fun e w' => e = .returned (.tuple #[.string (sideA r), .string (sideB r), .bool (sides r)]) ∧ Below w.heap.size w w' :=
  (Tryz.strings_Cut r ⟨#[45, 62]⟩ m w hs hm).mono fun e w' ⟨h1, n, h2⟩ => ⟨h1, by rw [h2]; exact below_drewN (Below.refl _ _) n⟩
set_option maxHeartbeats 1000000 in
set_option maxRecDepth 100000 in
theorem read_any (r : ByteArray) (m : Int) (w : World) (hs : r.size ≤ 4096) (hT : Tabs w) (hm : w.cell? ⟨3, 0, none⟩ = some (.int .i64 m)) :
    Calls Tryz.prog 40 #[.string r] w fun e w' => ∃ F L v c, entry r = ((F, L), c) ∧ e = .returned (.tuple #[.agg #[.string F, v], .int .i64 c]) ∧ w'.ownsRow w.heap.size 9 1 v L.length (L.map Value.string) ∧ Below w.heap.size w w' := by
  obtain ⟨Z, hZ⟩ : ∃ Z, entry r = Z := ⟨_, rfl⟩
  rw [hZ]
  unfold entry at hZ
  have hB0 : Below w.heap.size w (w.alloc (.cells #[.string ⟨#[]⟩, .slice none 0 0] 49)) := (Below.refl _ _).alloc (Nat.le_refl _) _
  have c1 := cut_at r m (w.alloc (.cells #[.string ⟨#[]⟩, .slice none 0 0] 49)) (by omega) ((hB0.cell (World.block_lt_of_cell? w _ hm)).trans hm)
  have hA := sideA_size r
  have hBs := sideB_size r
  generalize sideA r = sa at c1 hZ hA
  generalize sideB r = sb at c1 hZ hBs
  have b0 := Bk.new w #[.string ⟨#[]⟩, .slice none 0 0] 49
  clear hm
  by_cases ho : sides r = false
  · rw [ho] at c1
    rw [if_pos ho] at hZ
    have HZ : Hid (((⟨#[]⟩, []), (7 : Int)) = Z) := hZ
    clear hZ ho
    go_enter Tryz.func40, Tryz.ntmps40
    go_wp2_with fail
    refine c1.mono ?_
    rintro e w1 ⟨rfl, hb1⟩
    have k0 := b0.stay hb1
    have e0 := k0.cell 0 rfl
    have e1 := k0.cell 1 rfl
    have g0 := k0.frozen 0
    have g1 := k0.frozen 1
    clear c1
    have HP : Hid (Below w.heap.size w w1) := hB0.trans (hb1.mono hB0.size)
    have x2 := (k0.set 0 (.string ⟨#[]⟩)).set 1 (.slice none 0 0)
    have y0 : ((w1.setCell ⟨w.heap.size, 0, none⟩ (.string ⟨#[]⟩)).setCell ⟨w.heap.size, 1, none⟩ (.slice none 0 0)).cell? ⟨w.heap.size, 0, none⟩ = some (.string ⟨#[]⟩) := x2.cell 0 rfl
    have y1 : ((w1.setCell ⟨w.heap.size, 0, none⟩ (.string ⟨#[]⟩)).setCell ⟨w.heap.size, 1, none⟩ (.slice none 0 0)).cell? ⟨w.heap.size, 1, none⟩ = some (.slice none 0 0) := x2.cell 1 rfl
    have hfin : Below w.heap.size w ((w1.setCell ⟨w.heap.size, 0, none⟩ (.string ⟨#[]⟩)).setCell ⟨w.heap.size, 1, none⟩ (.slice none 0 0)) := ((HP.out).setCell (Nat.le_refl _) _).setCell (Nat.le_refl _) _
    clear x2 k0
    go_wp2
    refine bodyPost_ret (v := .tuple #[.agg #[.string ⟨#[]⟩, (.slice none 0 0)], .int .i64 7]) (by simp [results, Tryz.results40, go_sem, y0, y1]) rfl ?_
    exact ⟨⟨#[]⟩, [], (.slice none 0 0), 7, HZ.out.symm, rfl, World.ownsRow_nil _ _ _ _, hfin⟩
  · rw [if_neg ho] at hZ
    have hot : sides r = true := by cases h : sides r; exact absurd h ho; rfl
    rw [hot] at c1
    clear ho hot
    have hbs := bareB_size sa
    go_enter Tryz.func40, Tryz.ntmps40
    go_wp2_with fail
    refine c1.mono ?_
    rintro e w1 ⟨rfl, hb1⟩
    have HP1 : Hid (Below w.heap.size w w1) := hB0.trans (hb1.mono hB0.size)
    have K1 : Hid (Bk w1 w.heap.size #[.string ⟨#[]⟩, .slice none 0 0] 49) := b0.stay hb1
    clear c1 hb1 hB0 b0
    go_wp2_with fail
    refine (bare_at sa w1 (by omega)).mono ?_
    rintro e w2 ⟨rfl, hb2⟩
    have HP2 : Hid (Below w.heap.size w w2) := HP1.out.trans (hb2.mono HP1.out.size)
    have K2 : Hid (Bk w2 w.heap.size #[.string ⟨#[]⟩, .slice none 0 0] 49) := K1.out.stay hb2
    generalize bareB sa = b at hZ hbs ⊢
    clear hb2 HP1 K1
    go_wp2_with fail
    refine (check_at b w2 (by omega) (tabs_up hT HP2.out)).mono ?_
    rintro e w3 ⟨rfl, hb3⟩
    have HP : Hid (Below w.heap.size w w3) := HP2.out.trans (hb3.mono HP2.out.size)
    have K3 : Hid (Bk w3 w.heap.size #[.string ⟨#[]⟩, .slice none 0 0] 49) := K2.out.stay hb3
    clear hb3 HP2 K2
    by_cases hc : chk b = 0
    · rw [if_neg (by simp [hc])] at hZ
      rw [hc]
      have h64 := chk_small hc
      go_wp2_with fail
      refine (corr_any sb w3 (by omega) (tabs_up hT HP.out)).mono ?_
      rintro e w4 ⟨L, c, v, hrun, rfl, hb4, hcase⟩
      have HP4 : Hid (Below w.heap.size w w4) := HP.out.trans (hb4.mono HP.out.size)
      have K4 : Hid (Bk w4 w.heap.size #[.string ⟨#[]⟩, .slice none 0 0] 49) := K3.out.stay hb4
      rw [hrun] at hZ
      simp only at hZ
      rcases hcase with ⟨rfl, hown⟩ | ⟨hcn, rfl⟩
      · rw [if_neg (by simp)] at hZ
        have HZ : Hid (((fld b, L), (0 : Int)) = Z) := hZ
        have HO : Hid (w4.ownsRow w3.heap.size 9 1 v L.length (L.map Value.string)) := hown
        have HS : Hid (w.heap.size < w3.heap.size) := K3.out.lt
        obtain ⟨ad, cp, rfl⟩ := own_form hown
        clear hZ hown hb4 hrun HP K3
        go_wp2_with fail
        refine (fold_at b w4 (by omega) (tabs_up hT HP4.out)).mono ?_
        rintro e w5 ⟨rfl, hb5⟩
        have HP : Hid (Below w.heap.size w w5) := HP4.out.trans (hb5.mono HP4.out.size)
        have k0 := K4.out.stay hb5
        have e0 := k0.cell 0 rfl
        have e1 := k0.cell 1 rfl
        have g0 := k0.frozen 0
        have g1 := k0.frozen 1
        have hoo : ((w5.setCell ⟨w.heap.size, 0, none⟩ (.string (fld b))).setCell ⟨w.heap.size, 1, none⟩ (.slice ad L.length cp)).ownsRow w.heap.size 9 1 (.slice ad L.length cp) L.length (L.map Value.string) := by
          have hlt := HS.out
          refine Lns.own_mono (own_block (own_block HO.out (fun k h1 h2 => hb5.block k h2)) (fun k h1 h2 => ?_)) (Nat.le_of_lt hlt)
          exact (Below.heap_setCell _ _ _ _ (by show k ≠ w.heap.size; omega)).trans (Below.heap_setCell _ _ _ _ (by show k ≠ w.heap.size; omega))
        have HOO : Hid (((w5.setCell ⟨w.heap.size, 0, none⟩ (.string (fld b))).setCell ⟨w.heap.size, 1, none⟩ (.slice ad L.length cp)).ownsRow w.heap.size 9 1 (.slice ad L.length cp) L.length (L.map Value.string)) := hoo
        clear hb5 hoo
        generalize fld b = f at *
        have x2 := (k0.set 0 (.string f)).set 1 (.slice ad L.length cp)
        have y0 : ((w5.setCell ⟨w.heap.size, 0, none⟩ (.string f)).setCell ⟨w.heap.size, 1, none⟩ (.slice ad L.length cp)).cell? ⟨w.heap.size, 0, none⟩ = some (.string f) := x2.cell 0 rfl
        have y1 : ((w5.setCell ⟨w.heap.size, 0, none⟩ (.string f)).setCell ⟨w.heap.size, 1, none⟩ (.slice ad L.length cp)).cell? ⟨w.heap.size, 1, none⟩ = some (.slice ad L.length cp) := x2.cell 1 rfl
        have hfin : Below w.heap.size w ((w5.setCell ⟨w.heap.size, 0, none⟩ (.string f)).setCell ⟨w.heap.size, 1, none⟩ (.slice ad L.length cp)) := ((HP.out).setCell (Nat.le_refl _) _).setCell (Nat.le_refl _) _
        clear x2 k0
        go_wp2
        refine bodyPost_ret (v := .tuple #[.agg #[.string f, (.slice ad L.length cp)], .int .i64 0]) (by simp [results, Tryz.results40, go_sem, y0, y1]) rfl ?_
        exact ⟨f, L, (.slice ad L.length cp), 0, HZ.out.symm, rfl, HOO.out, hfin⟩
      · rw [if_pos hcn] at hZ
        have HZ : Hid (((⟨#[]⟩, []), c) = Z) := hZ
        clear hZ hb4 hrun K3 HP
        have HP : Hid (Below w.heap.size w w4) := HP4
        have k0 := K4.out
        have e0 := k0.cell 0 rfl
        have e1 := k0.cell 1 rfl
        have g0 := k0.frozen 0
        have g1 := k0.frozen 1
        have x2 := (k0.set 0 (.string ⟨#[]⟩)).set 1 (.slice none 0 0)
        have y0 : ((w4.setCell ⟨w.heap.size, 0, none⟩ (.string ⟨#[]⟩)).setCell ⟨w.heap.size, 1, none⟩ (.slice none 0 0)).cell? ⟨w.heap.size, 0, none⟩ = some (.string ⟨#[]⟩) := x2.cell 0 rfl
        have y1 : ((w4.setCell ⟨w.heap.size, 0, none⟩ (.string ⟨#[]⟩)).setCell ⟨w.heap.size, 1, none⟩ (.slice none 0 0)).cell? ⟨w.heap.size, 1, none⟩ = some (.slice none 0 0) := x2.cell 1 rfl
        have hfin : Below w.heap.size w ((w4.setCell ⟨w.heap.size, 0, none⟩ (.string ⟨#[]⟩)).setCell ⟨w.heap.size, 1, none⟩ (.slice none 0 0)) := ((HP.out).setCell (Nat.le_refl _) _).setCell (Nat.le_refl _) _
        clear x2 k0
        go_wp2
        refine bodyPost_ret (v := .tuple #[.agg #[.string ⟨#[]⟩, (.slice none 0 0)], .int .i64 c]) (by simp [results, Tryz.results40, go_sem, y0, y1]) rfl ?_
        exact ⟨⟨#[]⟩, [], (.slice none 0 0), c, HZ.out.symm, rfl, World.ownsRow_nil _ _ _ _, hfin⟩
    · rw [if_pos hc] at hZ
      have HZ : Hid (((⟨#[]⟩, []), chk b) = Z) := hZ
      clear hZ
      generalize chk b = z at hc HZ ⊢
      have k0 := K3.out
      have e0 := k0.cell 0 rfl
      have e1 := k0.cell 1 rfl
      have g0 := k0.frozen 0
      have g1 := k0.frozen 1
      have x2 := (k0.set 0 (.string ⟨#[]⟩)).set 1 (.slice none 0 0)
      have y0 : ((w3.setCell ⟨w.heap.size, 0, none⟩ (.string ⟨#[]⟩)).setCell ⟨w.heap.size, 1, none⟩ (.slice none 0 0)).cell? ⟨w.heap.size, 0, none⟩ = some (.string ⟨#[]⟩) := x2.cell 0 rfl
      have y1 : ((w3.setCell ⟨w.heap.size, 0, none⟩ (.string ⟨#[]⟩)).setCell ⟨w.heap.size, 1, none⟩ (.slice none 0 0)).cell? ⟨w.heap.size, 1, none⟩ = some (.slice none 0 0) := x2.cell 1 rfl
      have hfin : Below w.heap.size w ((w3.setCell ⟨w.heap.size, 0, none⟩ (.string ⟨#[]⟩)).setCell ⟨w.heap.size, 1, none⟩ (.slice none 0 0)) := ((HP.out).setCell (Nat.le_refl _) _).setCell (Nat.le_refl _) _
      clear x2 k0
      go_wp2
      refine bodyPost_ret (v := .tuple #[.agg #[.string ⟨#[]⟩, (.slice none 0 0)], .int .i64 z]) (by simp [results, Tryz.results40, go_sem, y0, y1]) rfl ?_
      exact ⟨⟨#[]⟩, [], (.slice none 0 0), z, HZ.out.symm, rfl, World.ownsRow_nil _ _ _ _, hfin⟩
end Go.Proofs.YthdjadkdjljciaaGreatDoor
