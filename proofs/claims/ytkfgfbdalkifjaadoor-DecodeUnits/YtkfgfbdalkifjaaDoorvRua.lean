/- The reference: Units, of every format and label. -/
import Derived.Test.YtkfgfbdalkifjaaDoorvRuM
import Derived.Test.YtkfgfbdalkifjaaDoorvRuQ
namespace Go.Proofs.YtkfgfbdalkifjaaDoor
set_option linter.unusedVariables false
open Go.RowKit Go.ChangeShapes
theorem runits_any {w : World} {ad : Option Addr} {n cap : Nat} {c : Nat → Int} (hC : ∀ j, j < n → 0 ≤ c j ∧ c j < 256) (h : BC w ad n c) (hcap : n ≤ cap) (hn : n ≤ 100000) (hbig : cap ≤ 9223372036854775807) {A M : Nat} (hAM : A + M ≤ n) {f l : Int} (hf : 0 ≤ f) :
    Calls Tryd.prog 16 #[.int .u8 f, .slice ad n cap, .agg #[.int .u8 l, .int .i64 (A : Int), .int .i64 (M : Int)]] w (UnP w (un f l c (A + M) A)) := by
  by_cases h1 : l = 1
  · subst h1
    by_cases f1 : f = 1
    · subst f1; exact runs_h hC h hcap hn hbig hAM
    · by_cases f2 : f = 2
      · subst f2; exact runs_m hC h hcap hn hbig hAM
      · exact runs_p1 hC h hcap hn hbig hAM (beq_eq_false_iff_ne.2 f1) (beq_eq_false_iff_ne.2 f2)
  · by_cases h5 : l = 5
    · subst h5
      by_cases f8 : f = 8
      · subst f8; exact runs_q hC h hcap hn hbig hAM
      · rcases (show (f = 0 ∨ f = 1 ∨ f = 2 ∨ f = 3) ∨ f = 4 ∨ f = 5 ∨ f = 6 ∨ f = 7 ∨ (4 ≤ f ∧ ¬ f ≤ 7) by omega) with g | rfl | rfl | rfl | rfl | ⟨g1, g2⟩
        · exact runs_p5a hC h hcap hn hbig hAM (beq_eq_false_iff_ne.2 f8) g
        · exact runs_e4 hC h hcap hn hbig hAM
        · exact runs_e5 hC h hcap hn hbig hAM
        · exact runs_e6 hC h hcap hn hbig hAM
        · exact runs_e7 hC h hcap hn hbig hAM
        · exact runs_p5b hC h hcap hn hbig hAM (beq_eq_false_iff_ne.2 f8) g1 g2
    · exact runs_p0 hC h hcap hn hbig hAM (beq_eq_false_iff_ne.2 h1) (beq_eq_false_iff_ne.2 h5)
theorem runits_no {w : World} {ad : Option Addr} {n cap : Nat} (hn : n ≤ 9223372036854775807) {f l a m : Int} (hin : inB a m n = false) :
    Calls Tryd.prog 16 #[.int .u8 f, .slice ad n cap, .agg #[.int .u8 l, .int .i64 a, .int .i64 m]] w fun ev w' => ev = .returned (.tuple #[.slice none 0 0, .bool false]) ∧ Below w.heap.size w w' := by
  obtain ⟨W, hW⟩ : ∃ W, w.alloc (.cells #[.int .u8 l, .int .i64 a, .int .i64 m] 40) = W := ⟨_, rfl⟩
  have hbW : Below w.heap.size w W := by rw [← hW]; exact below_alloc w _
  have hW0 : W.heap[w.heap.size]? = some (.cells #[.int .u8 l, .int .i64 a, .int .i64 m] 40) := by rw [← hW]; exact heap_alloc_new _ _
  have x1 : W.cell? ⟨w.heap.size, 1, none⟩ = some (.int .i64 a) := by simp [World.cell?, hW0]
  have x2 : W.cell? ⟨w.heap.size, 2, none⟩ = some (.int .i64 m) := by simp [World.cell?, hW0]
  have HB : Hid (Below w.heap.size w W) := hbW
  have cin := rin_any a m n hn W
  rw [hin] at cin
  clear hbW hW0 hin
  go_enter Tryd.func16, Tryd.ntmps16
  go_wp2_with fail
  refine cin.mono ?_
  rintro ev w1 ⟨rfl, hb1⟩
  have HB1 : Hid (Below w.heap.size w w1) := HB.out.trans (hb1.mono HB.out.size)
  clear cin hb1 hW x1 x2
  go_wp2
  refine bodyPost_ret (v := .tuple #[.slice none 0 0, .bool false]) (by simp [results, Tryd.results16, go_sem]) rfl ?_
  exact ⟨rfl, HB1.out⟩
end Go.Proofs.YtkfgfbdalkifjaaDoor
