/- Small facts on memory for the walks of layer 1's laws: where a span lies, and that it stays there behind a call that makes new memory alone. -/
import Derived.Test.YtmhbdiaihjhmiaaWalksH
namespace Go.Proofs.Ytmhbdiaihjhmiaa
open Go.RowKit Go.ChangeShapes
/-- A span lies in block n. -/
def Lies (w : World) (n : Nat) (a l : Int) : Prop := w.cell? ⟨n, 0, none⟩ = some (.int .i64 a) ∧ w.cell? ⟨n, 1, none⟩ = some (.int .i64 l) ∧ n < w.heap.size
/-- From the world a on only new memory has been made. -/
def Up (B : Nat) (a w : World) : Prop := Below B a w ∧ B ≤ w.heap.size
theorem Lies.stay {w w' : World} {n : Nat} {a l : Int} (h : Lies w n a l) (hb : Below w.heap.size w w') : Lies w' n a l :=
  ⟨(hb.cell (p := ⟨n, 0, none⟩) h.2.2).trans h.1, (hb.cell (p := ⟨n, 1, none⟩) h.2.2).trans h.2.1, Nat.lt_of_lt_of_le h.2.2 hb.size⟩
theorem Lies.alloc {w : World} {n : Nat} {a l : Int} (h : Lies w n a l) (o : Obj) : Lies (w.alloc o) n a l :=
  h.stay ((Below.refl _ _).alloc (Nat.le_refl _) o)
theorem Lies.drew {w : World} {n : Nat} {a l : Int} (h : Lies w n a l) : Lies w.drew n a l :=
  h.stay ((Below.refl _ _).drew)
theorem Lies.step {w w' : World} {n : Nat} {a l : Int} {o : Obj} (h : Lies w n a l) (hb : Below (w.alloc o).heap.size (w.alloc o) w') : Lies w' n a l :=
  (h.alloc o).stay hb
theorem Lies.new (w : World) (a l : Int) : Lies (w.alloc (.cells #[.int .i64 a, .int .i64 l] 23)) w.heap.size a l :=
  ⟨by go_simp, by go_simp, by simp⟩
theorem Lies.fresh {w w' : World} {a l : Int} (hb : Below (w.alloc (.cells #[.int .i64 a, .int .i64 l] 23)).heap.size (w.alloc (.cells #[.int .i64 a, .int .i64 l] 23)) w') : Lies w' w.heap.size a l :=
  (Lies.new w a l).stay hb
theorem Up.refl (w : World) : Up w.heap.size w w := ⟨Below.refl _ _, Nat.le_refl _⟩
theorem Up.alloc {B : Nat} {a w : World} (h : Up B a w) (o : Obj) : Up B a (w.alloc o) := ⟨h.1.alloc h.2 o, by simpa using Nat.le_succ_of_le h.2⟩
theorem Up.drew {B : Nat} {a w : World} (h : Up B a w) : Up B a w.drew := ⟨h.1.drew, h.2⟩
theorem Up.stay {B : Nat} {a w w' : World} (h : Up B a w) (hb : Below w.heap.size w w') : Up B a w' := ⟨h.1.trans (hb.mono h.2), Nat.le_trans h.2 hb.size⟩
theorem Up.step {B : Nat} {a w w' : World} {o : Obj} (h : Up B a w) (hb : Below (w.alloc o).heap.size (w.alloc o) w') : Up B a w' := (h.alloc o).stay hb
theorem refSound_bel (a l : Int) (w : World) :
    Calls Try.prog 12 #[.agg #[.int .i64 a, .int .i64 l]] w fun e w' => e = .returned (.bool (sndB a l)) ∧ Below w.heap.size w w' :=
  (refSound_any a l w).mono fun _ _ ⟨he, hw⟩ => ⟨he, by subst hw; exact (Below.refl _ _).alloc (Nat.le_refl _) _⟩
theorem check_bel (a l n : Int) (w : World) (hn : n ≤ 9223372036854775807) :
    Calls Try.prog 9 #[.agg #[.int .i64 a, .int .i64 l], .int .i64 n] w fun e w' => e = .returned (.int .i64 (errB (insB a l n))) ∧ Below w.heap.size w w' :=
  (check_any a l n w hn).mono fun _ _ ⟨he, hw⟩ => ⟨he, by subst hw; exact (Below.refl _ _).alloc (Nat.le_refl _) _⟩
theorem refIn_bel (a l n : Int) (w : World) (hn : n ≤ 9223372036854775807) :
    Calls Try.prog 11 #[.agg #[.int .i64 a, .int .i64 l], .int .i64 n] w fun e w' => e = .returned (.bool (insB a l n)) ∧ Below w.heap.size w w' :=
  (refIn_any a l n w hn).mono fun _ _ ⟨he, hw⟩ => ⟨he, by subst hw; exact (Below.refl _ _).alloc (Nat.le_refl _) _⟩
end Go.Proofs.Ytmhbdiaihjhmiaa
