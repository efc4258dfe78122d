/- What lies in memory: worlds that grow, rows of the call's own; no program's function in this text. -/
import Derived.Test.YteeeekpeokgaeaaDoorProg
import Derived.WalkKit
import Derived.Below
import Derived.WalkSmall
import Derived.Deep.QuietTactic
import Derived.BigQuiet
import Derived.Deep.LoopGhost
import Derived.Deep.DeepFit
import Derived.OwnWalk
import Derived.Deep.OwnRows
import Derived.Lib.MinMax
import Derived.Deep.DeepCutAuto
import Derived.Deep.RegionHeld3
import Derived.Laws.OwnMore
import Derived.Laws.BytesArg
import Derived.Test.YteeeekpeokgaeaaDoorhPure
import Derived.Shelf.Bytes.SlSmallAll
import Derived.Lib.Index
import Derived.Lib.IndexLaws
import Derived.Lib.IndexMore
namespace Go.Proofs.YteeeekpeokgaeaaDoor
set_option linter.unusedVariables false
open Go.RowKit Go.ChangeShapes
/-- The world has grown from there on. -/
def Up (B : Nat) (a w : World) : Prop := Below B a w ∧ B ≤ w.heap.size
theorem Up.refl (w : World) : Up w.heap.size w w := ⟨Below.refl _ _, Nat.le_refl _⟩
theorem Up.stay {B : Nat} {a w w' : World} (h : Up B a w) (hb : Below w.heap.size w w') : Up B a w' := ⟨h.1.trans (hb.mono h.2), Nat.le_trans h.2 hb.size⟩
theorem Up.alloc {B : Nat} {a w : World} (h : Up B a w) (o : Obj) : Up B a (w.alloc o) := h.stay ((Below.refl _ _).alloc (Nat.le_refl _) o)
theorem Up.drew {B : Nat} {a w : World} (h : Up B a w) : Up B a w.drew := ⟨h.1.drew, h.2⟩
theorem Up.setCell {B : Nat} {a w : World} (h : Up B a w) {p : Addr} (hp : B ≤ p.block) (u : Value) : Up B a (w.setCell p u) :=
  ⟨h.1.setCell hp u, by simpa [World.setCell] using h.2⟩
theorem Up.grown {B : Nat} {a w w' : World} {row : Option Nat} (h : Up B a w) (hg : w.grownBy w' row) (hr : ∀ k, row = some k → B ≤ k) : Up B a w' := ⟨h.1.grown hg h.2 hr, Nat.le_trans h.2 hg.size⟩
theorem cell_stay {w w' : World} {a : Addr} {v : Value} (h : w.cell? a = some v) (hb : Below w.heap.size w w') : w'.cell? a = some v := (hb.cell (World.block_lt_of_cell? w _ h)).trans h
theorem lt_of_heap {w : World} {b : Nat} {o : Obj} (h : w.heap[b]? = some o) : b < w.heap.size := (Array.getElem?_eq_some_iff.1 h).1
theorem blk_stay {w w' : World} {b : Nat} {o : Obj} (h : w.heap[b]? = some o) (hb : Below w.heap.size w w') : w'.heap[b]? = some o := (hb.block b (lt_of_heap h)).trans h
theorem grown_of {w w' : World} (h : Below w.heap.size w w') (row : Option Nat) : w.grownBy w' row := ⟨h.os, h.tape, h.output, h.size, fun k hk _ => h.block k hk⟩
theorem grown_trans {a w w' : World} {row : Option Nat} (h : a.grownBy w row) (k : w.grownBy w' row) : a.grownBy w' row :=
  ⟨k.os.trans h.os, k.tape.trans h.tape, k.output.trans h.output, Nat.le_trans h.size k.size, fun j hj hne => (k.block j (Nat.lt_of_lt_of_le hj h.size) hne).trans (h.block j hj hne)⟩
theorem grown_set {a w : World} {b : Nat} (h : a.grownBy w (some b)) (i : Nat) (v : Value) : a.grownBy (w.setCell ⟨b, i, none⟩ v) (some b) :=
  ⟨h.os, h.tape, h.output, by simpa [World.setCell] using h.size, fun j hj hne => (heap_setCell_other w ⟨b, i, none⟩ j v (fun e => hne (by rw [e]))).trans (h.block j hj hne)⟩
theorem grown_drew {a w : World} {row : Option Nat} (h : a.grownBy w row) : a.grownBy w.drew row := ⟨h.os, h.tape, h.output, h.size, h.block⟩
theorem Up.drewN' {B : Nat} {a w : World} (h : Up B a w) : ∀ n, Up B a (w.drewN n)
  | 0 => h
  | n + 1 => by
    have := (Up.drewN' h n).drew
    exact this
theorem below_drewN {B : Nat} {a w : World} (h : Below B a w) : ∀ n, Below B a (w.drewN n)
  | 0 => h
  | n + 1 => by
    have := (below_drewN h n).drew
    exact this
theorem wrap_is (x : Int) : IntKind.i64.wrap x = wrap64 x := IntWalk.i64_left x
theorem own_stay {w w' : World} {base e size n : Nat} {v : Value} {xs : List Value} (h : w.ownsRow base e size v n xs) (hb : Below w.heap.size w w') : w'.ownsRow base e size v n xs := by
  obtain ⟨h1, h2 | ⟨g, cap, cur, rfl, hg, hh, h3⟩⟩ := h
  · exact ⟨h1, Or.inl h2⟩
  · refine ⟨h1, Or.inr ⟨g, cap, cur, rfl, hg, ?_, h3⟩⟩
    rw [hb.block g (Array.getElem?_eq_some_iff.1 hh).1]; exact hh
theorem own_base {w : World} {base e size n : Nat} {v : Value} {xs : List Value} (h : w.ownsRow base e size v n xs) : ∀ k, v.ownBlock = some k → base ≤ k := by
  obtain ⟨h1, ⟨rfl, _⟩ | ⟨g, cap, cur, rfl, hg, hh, h3⟩⟩ := h
  · intro k hk; cases hk
  · intro k hk; cases hk; exact hg
theorem own_mono {w : World} {base base' e size n : Nat} {v : Value} {xs : List Value} (h : w.ownsRow base e size v n xs) (hb : base' ≤ base) : w.ownsRow base' e size v n xs := by
  obtain ⟨h1, h2 | ⟨g, cap, cur, rfl, hg, hh, h3⟩⟩ := h
  · exact ⟨h1, Or.inl h2⟩
  · exact ⟨h1, Or.inr ⟨g, cap, cur, rfl, by omega, hh, h3⟩⟩
theorem own_form {w : World} {base e size n : Nat} {v : Value} {xs : List Value} (h : w.ownsRow base e size v n xs) : ∃ ad c, v = .slice ad n c := by
  obtain ⟨_, ⟨rfl, h2⟩ | ⟨g, cap, cur, rfl, _⟩⟩ := h
  · exact ⟨none, 0, by rw [h2]⟩
  · exact ⟨_, _, rfl⟩
theorem own_at {w : World} {base e size n c : Nat} {ad : Option Addr} {xs : List Value} (h : w.ownsRow base e size (.slice ad n c) n xs) (hn : 0 < n) : ∃ g, ad = some ⟨g, 0, none⟩ ∧ base ≤ g ∧ g < w.heap.size := by
  have h0 := h
  obtain ⟨_, ⟨e, h2⟩ | ⟨g, cap, cur, e, hg, _⟩⟩ := h
  · omega
  · injection e with e1 _ _
    subst e1
    exact ⟨g, rfl, (h0.lt g rfl)⟩
theorem own_frozen {w : World} {base e size g n c n' : Nat} {xs : List Value} (h : w.ownsRow base e size (.slice (some ⟨g, 0, none⟩) n' c) n xs) (i : Nat) : w.frozen? ⟨g, i, none⟩ = false := by
  obtain ⟨_, ⟨e, _⟩ | ⟨g', cap, cur, e, _, hh, _⟩⟩ := h
  · cases e
  · injection e with e1 _ _
    injection e1 with e1
    injection e1 with e1 _ _
    subst e1
    simp [World.frozen?, hh]
theorem info_parts {t : TypeId} {z : Value} {s b : Nat} (h : (Tryd.prog.info? t).map (fun i => (i.zero, i.size, i.bytes)) = some (some z, s, b)) : ∃ i, Tryd.prog.info? t = some i ∧ i.zero = some z ∧ i.size = s ∧ i.bytes = b := by
  obtain ⟨i, hi, hzz⟩ := Option.map_eq_some_iff.1 h
  simp only [Prod.mk.injEq] at hzz
  exact ⟨i, hi, hzz.1, hzz.2.1, hzz.2.2⟩

end Go.Proofs.YteeeekpeokgaeaaDoor
/- Bytes that lie where a slice points. -/
namespace Go.Proofs.YteeeekpeokgaeaaDoor
set_option linter.unusedVariables false
open Go.RowKit Go.ChangeShapes
/-- Bytes that lie where a slice points. -/
def BC (w : World) (ad : Option Addr) (n : Nat) (c : Nat → Int) : Prop := ∀ i, i < n → ∃ b off, ad = some ⟨b, off, none⟩ ∧ w.cell? ⟨b, off + i, none⟩ = some (.int .u8 (c i))
theorem BC.stay {w w' : World} {ad : Option Addr} {n : Nat} {c : Nat → Int} (h : BC w ad n c) (hb : Below w.heap.size w w') : BC w' ad n c := fun i hi => by
  obtain ⟨b, off, e, hc⟩ := h i hi
  exact ⟨b, off, e, cell_stay hc hb⟩
theorem BC.drew {w : World} {ad : Option Addr} {n : Nat} {c : Nat → Int} (h : BC w ad n c) : BC w.drew ad n c := h
/-- So many bytes; behind them there are none. -/
def Ch (c : Nat → Int) (n : Nat) : Prop := (∀ i, i < n → 0 ≤ c i ∧ c i < 256) ∧ ∀ i, n ≤ i → c i = -1
end Go.Proofs.YteeeekpeokgaeaaDoor
/- Bytes: what begins so, where a byte, where a text is; pure words on texts. -/
namespace Go.Proofs.YteeeekpeokgaeaaDoor
set_option linter.unusedVariables false
open Go.RowKit Go.ChangeShapes
/-- Bytes as a list. -/
def cl (c : Nat → Int) (n : Nat) : List Int := (List.range n).map c
theorem cl_len (c : Nat → Int) (n : Nat) : (cl c n).length = n := by simp [cl]
theorem cl_at (c : Nat → Int) (n i : Nat) (h : i < n) : (cl c n)[i]? = some (c i) := by simp [cl, List.getElem?_range h]
theorem cl_getD (c : Nat → Int) (n i : Nat) (h : i < n) : (cl c n).getD i 0 = c i := by rw [List.getD_eq_getElem?_getD, cl_at c n i h]; rfl
theorem BC.at {w : World} {ad : Option Addr} {n : Nat} {c : Nat → Int} (h : BC w ad n c) (hn : 0 < n) : ∃ b off, ad = some ⟨b, off, none⟩ ∧ ∀ i, i < n → w.cell? ⟨b, off + i, none⟩ = some (.int .u8 (c i)) := by
  obtain ⟨b, off, e, _⟩ := h 0 hn
  refine ⟨b, off, e, fun i hi => ?_⟩
  obtain ⟨b', off', e', hc⟩ := h i hi
  rw [e] at e'
  injection e' with e'
  injection e' with e1 e2 _
  subst e1 e2
  exact hc
theorem BC.inn {w : World} {ad : Option Addr} {n : Nat} {c : Nat → Int} (h : BC w ad n c) : Lib.BytesIn w ad n (cl c n) := fun hn => by
  obtain ⟨b, off, e, hc⟩ := h.at hn
  exact ⟨b, off, e, fun i hi => by rw [cl_getD c n i hi]; exact hc i hi⟩
theorem BC.zero (w : World) (ad : Option Addr) (c : Nat → Int) : BC w ad 0 c := fun i hi => absurd hi (Nat.not_lt_zero _)
theorem BC.congr {w : World} {ad : Option Addr} {n : Nat} {c c' : Nat → Int} (h : BC w ad n c) (e : ∀ i, i < n → c i = c' i) : BC w ad n c' := fun i hi => by
  obtain ⟨b, off, e1, hc⟩ := h i hi
  exact ⟨b, off, e1, by rw [← e i hi]; exact hc⟩
theorem BC.add {w : World} {ad : Option Addr} {n : Nat} {c : Nat → Int} (h : BC w ad n c) {a : Addr} (ha : ad = some a) (i : Nat) (hi : i < n) : w.cell? (a.add i) = some (.int .u8 (c i)) := by
  obtain ⟨b, off, e, hc⟩ := h i hi
  rw [ha] at e
  injection e with e
  subst e
  have hadd : (⟨b, off, none⟩ : Addr).add i = ⟨b, off + i, none⟩ := by unfold Addr.add; split <;> simp_all
  rw [hadd]
  exact hc
/-- From a place on. -/
theorem BC.from {w : World} {b off n cap : Nat} {c : Nat → Int} (h : BC w (some ⟨b, off, none⟩) n c) (i : Nat) (hi : i ≤ n) (hn : n ≤ cap) : BC w (if cap = i then some ⟨b, off, none⟩ else some ⟨b, off + i, none⟩) (n - i) (fun j => c (i + j)) := fun j hj => by
  rw [if_neg (by omega)]
  obtain ⟨b', off', e, hc⟩ := h (i + j) (by omega)
  injection e with e
  injection e with e1 e2 _
  subst e1 e2
  exact ⟨b, off + i, rfl, by rw [Nat.add_assoc]; exact hc⟩
theorem BC.upto {w : World} {ad : Option Addr} {n m : Nat} {c : Nat → Int} (h : BC w ad n c) (hm : m ≤ n) : BC w ad m c := fun j hj => h j (by omega)
theorem Ch.from {c : Nat → Int} {n : Nat} (h : Ch c n) (i : Nat) (hi : i ≤ n) : Ch (fun j => c (i + j)) (n - i) := ⟨fun j hj => h.1 (i + j) (by omega), fun j hj => h.2 (i + j) (by omega)⟩
theorem oc_shift (t : List Int) (c : Nat → Int) (a : Nat) : ∀ i, oc t (fun j => c (a + j)) i = oc t c (a + i) := by
  induction t with
  | nil => intro i; rfl
  | cons x t ih =>
    intro i
    show ((c (a + i) == x) && oc t (fun j => c (a + j)) (i + 1)) = _
    rw [ih]
    rfl
theorem fs_shift (P : Nat → Bool) (n a : Nat) (ha : a ≤ n) : fs P n a = a + fs (fun j => P (a + j)) (n - a) 0 := by
  have h1 := fs_le (fun j => P (a + j)) (n := n - a) (i := 0) (Nat.zero_le _)
  refine fs_is (by omega) (by omega) (fun k h2 h3 => ?_) (fun h2 => fs_hit (P := fun j => P (a + j)) (n := n - a) (i := 0) (by omega))
  have := fs_before (P := fun j => P (a + j)) (n := n - a) (i := 0) (k := k - a) (Nat.zero_le _) (by omega)
  rw [show a + (k - a) = k by omega] at this
  exact this
def Byt (t : List Int) : Prop := ∀ x ∈ t, 0 ≤ x ∧ x < 256
theorem byte_eq {x y : Int} (hx : 0 ≤ x ∧ x < 256) (hy : 0 ≤ y ∧ y < 256) : (UInt8.ofNat x.toNat == UInt8.ofNat y.toNat) = (y == x) := by
  by_cases e : y = x
  · subst e; simp
  · have h1 : (y == x) = false := by simpa using e
    rw [h1]
    simp only [beq_eq_false_iff_ne, ne_eq]
    intro h
    have := congrArg UInt8.toNat h
    rw [UInt8.toNat_ofNat', UInt8.toNat_ofNat', Nat.mod_eq_of_lt (by omega), Nat.mod_eq_of_lt (by omega)] at this
    omega
theorem occ_oc {c : Nat → Int} {n : Nat} (hC : Ch c n) : ∀ (t : List Int) (ht : Byt t) (i : Nat), Lib.occAt (Lib.bytesOf (cl c n)) (Lib.bytesOf t) i = oc t c i
  | [], _, i => by simp [Lib.occAt, Lib.bytesOf, oc]
  | x :: t, ht, i => by
    have ih := occ_oc hC t (fun y hy => ht y (List.mem_cons_of_mem _ hy)) (i + 1)
    unfold Lib.occAt at ih ⊢
    have hl : (Lib.bytesOf (cl c n)).length = n := by simp [Lib.bytesOf, cl_len]
    by_cases hi : i < n
    · rw [List.drop_eq_getElem_cons (by rw [hl]; exact hi)]
      have he : (Lib.bytesOf (cl c n))[i]'(by rw [hl]; exact hi) = UInt8.ofNat (c i).toNat := by simp [Lib.bytesOf, cl]
      rw [he]
      show ((UInt8.ofNat x.toNat == UInt8.ofNat (c i).toNat) && (Lib.bytesOf t).isPrefixOf _) = ((c i == x) && oc t c (i + 1))
      rw [ih, byte_eq (ht x List.mem_cons_self) (hC.1 i hi)]
    · rw [List.drop_eq_nil_of_le (by rw [hl]; omega)]
      show false = ((c i == x) && oc t c (i + 1))
      rw [hC.2 i (by omega)]
      have := ht x List.mem_cons_self
      have h1 : ((-1 : Int) == x) = false := by simp only [beq_eq_false_iff_ne]; omega
      rw [h1]
      rfl
theorem pre_oc {c : Nat → Int} {n : Nat} (hC : Ch c n) (t : List Int) (ht : Byt t) : Lib.hasPrefix (Lib.bytesOf (cl c n)) (Lib.bytesOf t) = oc t c 0 := occ_oc hC t ht 0
/-- Where a text is found, as bytes.Index tells it. -/
def ixI (t : List Int) (c : Nat → Int) (n : Nat) : Int := if fs (oc t c) n 0 < n then (fs (oc t c) n 0 : Int) else -1
theorem index_ix {c : Nat → Int} {n : Nat} (hC : Ch c n) (t : List Int) (ht : Byt t) (h0 : t ≠ []) : Lib.index (Lib.bytesOf (cl c n)) (Lib.bytesOf t) = ixI t c n := by
  unfold ixI
  have hl : (Lib.bytesOf (cl c n)).length = n := by simp [Lib.bytesOf, cl_len]
  have hend : ∀ j, n ≤ j → oc t c j = false := by
    intro j hj
    cases t with
    | nil => exact absurd rfl h0
    | cons x t =>
      show ((c j == x) && _) = false
      rw [hC.2 j hj]
      have := ht x List.mem_cons_self
      have h1 : ((-1 : Int) == x) = false := by simp only [beq_eq_false_iff_ne]; omega
      rw [h1]
      rfl
  rcases Lib.index_spec (Lib.bytesOf (cl c n)) (Lib.bytesOf t) with ⟨e, hno⟩ | ⟨i, e, hi, hoc, hno⟩
  · have hf : fs (oc t c) n 0 = n := fs_is (Nat.zero_le _) (Nat.le_refl _) (fun k _ hk => by rw [← occ_oc hC t ht k]; exact hno k (by omega)) (fun h => by omega)
    rw [e, hf, if_neg (Nat.lt_irrefl _)]
  · rw [occ_oc hC t ht] at hoc
    have hin : i < n := by
      rcases Nat.lt_or_ge i n with h | h
      · exact h
      · rw [hend i h] at hoc; cases hoc
    have hf : fs (oc t c) n 0 = i := fs_is (Nat.zero_le _) (Nat.le_of_lt hin) (fun k _ hk => by rw [← occ_oc hC t ht k]; exact hno k hk) (fun _ => hoc)
    rw [e, hf, if_pos hin]
theorem lit_bc (w : World) (t : List Int) (m : Nat × Nat) : BC (w.alloc (.cells (t.map (Value.int .u8)).toArray 5 m)) (some ⟨w.heap.size, 0, none⟩) t.length (fun j => t.getD j 0) := fun i hi => by
  refine ⟨_, _, rfl, ?_⟩
  rw [Nat.zero_add]
  have : (w.alloc (.cells (t.map (Value.int .u8)).toArray 5 m)).heap[w.heap.size]? = some (.cells (t.map (Value.int .u8)).toArray 5 m) := heap_alloc_new _ _
  simp only [World.cell?, this]
  simp [hi]
theorem byt1 (x : Int) (h : 0 ≤ x ∧ x < 256) : Byt [x] := fun y hy => by rw [List.mem_singleton] at hy; rw [hy]; exact h
theorem oc1 (x : Int) (c : Nat → Int) (i : Nat) : oc [x] c i = (c i == x) := by simp [oc]
theorem below_alloc (w : World) (o : Obj) : Below w.heap.size w (w.alloc o) := (Below.refl _ _).alloc (Nat.le_refl _) o
theorem oc_len {c : Nat → Int} {n : Nat} (hc : ∀ i, n ≤ i → c i = -1) : ∀ (t : List Int) (ht : Byt t) (i : Nat), t ≠ [] → oc t c i = true → i + t.length ≤ n
  | [], _, _, h, _ => absurd rfl h
  | x :: t, ht, i, _, h => by
    have h' : (c i == x) = true ∧ oc t c (i + 1) = true := by
      have : ((c i == x) && oc t c (i + 1)) = true := h
      simpa using this
    have hi : i < n := by
      rcases Nat.lt_or_ge i n with h1 | h1
      · exact h1
      · have h2 := h'.1
        rw [hc i h1] at h2
        have := ht x List.mem_cons_self
        have h3 : (-1 : Int) = x := by simpa using h2
        omega
    by_cases h0 : t = []
    · subst h0
      exact hi
    · have := oc_len hc t (fun y hy => ht y (List.mem_cons_of_mem _ hy)) (i + 1) h0 h'.2
      rw [List.length_cons]
      omega
theorem bh_le {c : Nat → Int} {n : Nat} (hc : ∀ i, n ≤ i → c i = -1) (t : List Int) (ht : Byt t) (h0 : t ≠ []) (i : Nat) (hi : i ≤ n) : i ≤ bh t c n i ∧ bh t c n i ≤ n := by
  unfold bh
  have h1 := fs_ge (oc t c) n i
  by_cases h : fs (oc t c) n i < n
  · rw [if_pos h]
    have := oc_len hc t ht _ h0 (fs_hit h)
    omega
  · rw [if_neg h]
    omega
theorem nums_inj : ∀ {l t : List Int}, Byt l → Byt t → strOfNums l = strOfNums t → l = t := by
  intro l t hl ht h
  have h1 := congrArg (fun s : ByteArray => s.data.toList) h
  simp only [strOfNums_data] at h1
  clear h
  induction l generalizing t with
  | nil =>
    cases t with
    | nil => rfl
    | cons y t => simp at h1
  | cons x l ih =>
    cases t with
    | nil => simp at h1
    | cons y t =>
      simp only [List.map_cons, List.cons.injEq] at h1
      have hx := hl x List.mem_cons_self
      have hy := ht y List.mem_cons_self
      have := congrArg UInt8.toNat h1.1
      rw [UInt8.toNat_ofNat', UInt8.toNat_ofNat', Nat.mod_eq_of_lt (by omega), Nat.mod_eq_of_lt (by omega)] at this
      rw [show x = y by omega, ih (fun z hz => hl z (List.mem_cons_of_mem _ hz)) (fun z hz => ht z (List.mem_cons_of_mem _ hz)) h1.2]
theorem toList_inj {x y : ByteArray} (h : x.toList = y.toList) : x = y := by
  rw [Lib.toList_data, Lib.toList_data] at h
  exact ByteArray.ext (Array.ext' h)
theorem nums_beq {l t : List Int} (hl : Byt l) (ht : Byt t) : ((strOfNums l).toList == (strOfNums t).toList) = (l == t) := by
  by_cases e : l = t
  · subst e; simp
  · have h1 : (l == t) = false := by simpa using e
    rw [h1]
    simp only [beq_eq_false_iff_ne]
    exact fun h => e (nums_inj hl ht (toList_inj h))
theorem byt_lit (t : List Int) (h : t.all (fun x => decide (0 ≤ x) && decide (x < 256)) = true) : Byt t := fun x hx => by
  have := List.all_eq_true.1 h x hx
  simpa using this
/-- A name's bytes. -/
theorem nums_is {l : List Int} (hl : Byt l) (t : List Int) (ht : Byt t) : ((strOfNums l).toList == t.map fun x => UInt8.ofNat x.toNat) = (l == t) := by
  rw [← nums_beq hl ht, Lib.toList_data (strOfNums t), strOfNums_data]
end Go.Proofs.YteeeekpeokgaeaaDoor
