/- LabelPlays: what lays a label on the reference's row. -/
import Derived.Test.YtfefdcolmalgjaalSet
namespace Go.Proofs.Ytfefdcolmalgjaa
set_option linter.unusedVariables false
open Go.RowKit Go.ChangeShapes
/-- The reference's row and the variable that holds it. -/
structure Mr (w : World) (X g n : Nat) (L : Nat → Int) : Prop where
  box : w.heap[X]? = some (.cells #[.slice (some ⟨g, 0, none⟩) n n] 30 (0, 0))
  row : LR w g n L
theorem Mr.ne {w : World} {T g n : Nat} {L : Nat → Int} (h : Mr w T g n L) : T ≠ g := by
  intro e
  subst e
  obtain ⟨c, hc, _⟩ := h.row
  rw [h.box] at hc
  injection hc with hc
  injection hc with _ e _
  exact absurd e (by decide)
theorem Mr.cell {w : World} {T g n : Nat} {L : Nat → Int} (h : Mr w T g n L) : w.cell? ⟨T, 0, none⟩ = some (.slice (some ⟨g, 0, none⟩) n n) := by
  simp [World.cell?, h.box]
theorem Mr.lt {w : World} {T g n : Nat} {L : Nat → Int} (h : Mr w T g n L) : T < w.heap.size := lt_of_heap h.box
theorem Mr.congr {w : World} {T g n : Nat} {L M : Nat → Int} (h : Mr w T g n L) (e : ∀ i, i < n → L i = M i) : Mr w T g n M := ⟨h.box, h.row.congr e⟩
theorem Mr.keep {w w' : World} {T g n : Nat} {L : Nat → Int} (h : Mr w T g n L) (e1 : w'.heap[T]? = w.heap[T]?) (e2 : w'.heap[g]? = w.heap[g]?) : Mr w' T g n L := ⟨e1.trans h.box, h.row.keep e2⟩
theorem Mr.stay {w w' : World} {T g n : Nat} {L : Nat → Int} (h : Mr w T g n L) (hb : Below w.heap.size w w') : Mr w' T g n L := h.keep (hb.block T h.lt) (hb.block g h.row.lt)
theorem Mr.grown {w w' : World} {T g n : Nat} {L : Nat → Int} {row : Option Nat} (h : Mr w T g n L) (hb : w.grownBy w' row) (h1 : some T ≠ row) (h2 : some g ≠ row) : Mr w' T g n L := h.keep (hb.block T h.lt h1) (hb.block g h.row.lt h2)
set_option maxHeartbeats 1000000 in
theorem put_any {w : World} {X g n : Nat} {L : Nat → Int} (h : Mr w X g n L) (hn : n ≤ 65536) (l f t : Int) :
    Calls Try.prog 11 #[.int .u8 l, .int .i64 f, .int .i64 t, .pointer (some ⟨X, 0, none⟩)] w fun e w' =>
      e = .returned (.tuple #[]) ∧ Mr w' X g n (setL L l f t) ∧ w.grownBy w' (some g) ∧ w'.heap.size = w.heap.size := by
  have hc0 := h.cell
  have H : Hid (Mr w X g n L) := h
  clear h
  go_enter Try.func11, Try.ntmps11
  go_wp2
  go_loopg [10] n (fun q iv wr => ∃ k : Nat, k ≤ n ∧ q = n - k ∧ iv = .int .i64 k ∧ Hid (LR wr g n (fun i => if i < k then setL L l f t i else L i)) ∧ Hid (w.grownBy wr (some g)) ∧ Hid (wr.heap.size = w.heap.size))
  case atStart => exact ⟨0, Nat.zero_le _, rfl, rfl, H.out.row.congr fun i _ => by rw [if_neg (by omega)], World.grownBy.refl _ _, rfl⟩
  case round =>
    obtain ⟨k, hk, hq, rfl, HL, HG, HS⟩ := hrel
    by_cases hlt : k < n
    · have z1 : (k : Int) < (n : Int) := by omega
      have z2 : (0 : Int) ≤ (k : Int) := by omega
      have hc := HL.out.cell hlt
      have hf := HL.out.frozen k
      have hcb := (World.cell?_of_block (a := ⟨X, 0, none⟩) (HG.out.block X H.out.lt (fun e => H.out.ne (Option.some.inj e)))).trans hc0
      rw [if_neg (by omega)] at hc
      by_cases h1 : f ≤ (k : Int)
      · by_cases h2 : (k : Int) < t
        · go_wp2
          go_roundg (n - (k + 1))
          case measure => omega
          case rel =>
            refine ⟨k + 1, by omega, rfl, by go_num, (HL.out.set k l).congr fun i _ => ?_, grown_set HG.out k _, by show (World.setCell _ _ _).heap.size = _; rw [← HS.out]; simp [World.setCell]⟩
            unfold setN
            by_cases e : i = k
            · subst e
              rw [if_pos rfl, if_pos (by omega)]
              unfold setL
              rw [if_pos ⟨h1, h2⟩]
            · rw [if_neg e]
              dsimp only
              by_cases e2 : i < k
              · rw [if_pos e2, if_pos (by omega)]
              · rw [if_neg e2, if_neg (by omega)]
        · have h2' : ¬ (k : Int) < t := h2
          go_wp2
          go_roundg (n - (k + 1))
          case measure => omega
          case rel =>
            refine ⟨k + 1, by omega, rfl, by go_num, HL.out.congr fun i _ => ?_, HG.out, HS.out⟩
            by_cases e : i = k
            · subst e
              rw [if_neg (by omega), if_pos (by omega)]
              unfold setL
              rw [if_neg (by omega)]
            · by_cases e2 : i < k
              · rw [if_pos e2, if_pos (by omega)]
              · rw [if_neg e2, if_neg (by omega)]
      · go_wp2
        go_roundg (n - (k + 1))
        case measure => omega
        case rel =>
          refine ⟨k + 1, by omega, rfl, by go_num, HL.out.congr fun i _ => ?_, HG.out, HS.out⟩
          by_cases e : i = k
          · subst e
            rw [if_neg (by omega), if_pos (by omega)]
            unfold setL
            rw [if_neg (by omega)]
          · by_cases e2 : i < k
            · rw [if_pos e2, if_pos (by omega)]
            · rw [if_neg e2, if_neg (by omega)]
    · obtain rfl : k = n := by omega
      have z1 : ¬ (k : Int) < (k : Int) := by omega
      go_wp2
      go_end0
      refine ⟨rfl, ⟨(HG.out.block X H.out.lt (fun e => H.out.ne (Option.some.inj e))).trans H.out.box, HL.out.congr fun i hi => by rw [if_pos hi]⟩, HG.out, HS.out⟩
end Go.Proofs.Ytfefdcolmalgjaa
