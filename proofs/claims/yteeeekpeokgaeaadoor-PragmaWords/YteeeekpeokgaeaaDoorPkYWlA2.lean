/- PragmaWords: what comes in; small facts. -/
import Derived.Test.YteeeekpeokgaeaaDooryWlP
import Derived.Test.YteeeekpeokgaeaaDoorPkYAwk2
import Derived.Test.YteeeekpeokgaeaaDooryBg
import Derived.Test.YteeeekpeokgaeaaDooryKn
import Derived.Deep.Slices
import Derived.ChangeSlices
namespace Go.Proofs.YteeeekpeokgaeaaDoor
set_option linter.unusedVariables false
open Go.RowKit Go.ChangeShapes Tns
/-- Bytes that lie where a slice points. -/
def BR (w : World) (v : Value) (zs : List Nat) : Prop := ∃ ad c, v = .slice ad zs.length c ∧ ∀ (j : Nat) (x : Nat), zs[j]? = some x → x ≤ 255 ∧ ∃ b off, ad = some ⟨b, off, none⟩ ∧ w.cell? ⟨b, off + j, none⟩ = some (.int .u8 (x : Int))
theorem BR.stay {w w' : World} {v : Value} {zs : List Nat} (h : BR w v zs) (hb : Below w.heap.size w w') : BR w' v zs := by
  obtain ⟨ad, c, e, h⟩ := h
  refine ⟨ad, c, e, fun j x hx => ?_⟩
  obtain ⟨h0, b, off, e1, e2⟩ := h j x hx
  exact ⟨h0, b, off, e1, cell_stay e2 hb⟩
/-- Rows of bytes. -/
def BRR (w : World) (v : Value) (Z : List (List Nat)) : Prop := ∃ ad c, v = .slice ad Z.length c ∧ ∀ (j : Nat) (zs : List Nat), Z[j]? = some zs → zs.length ≤ maxLen ∧ ∃ b off u, ad = some ⟨b, off, none⟩ ∧ w.cell? ⟨b, off + j, none⟩ = some u ∧ BR w u zs
theorem BRR.stay {w w' : World} {v : Value} {Z : List (List Nat)} (h : BRR w v Z) (hb : Below w.heap.size w w') : BRR w' v Z := by
  obtain ⟨ad, c, e, h⟩ := h
  refine ⟨ad, c, e, fun j x hx => ?_⟩
  obtain ⟨h0, b, off, u, e1, e2, e3⟩ := h j x hx
  exact ⟨h0, b, off, u, e1, cell_stay e2 hb, e3.stay hb⟩
theorem info9S : (Tryd.prog.info? 9).map (fun i => (i.zero, i.size, i.bytes)) = some (some (.string ByteArray.empty), 1, 16) := by kernel_rfl
/-- The separators as they lie. -/
theorem sep_cell (w : World) (i r : Nat) (hr : i % 4 = r) : (w.alloc (.cells #[.string ⟨#[32]⟩, .string ⟨#[44]⟩, .string ⟨#[44, 32]⟩, .string ⟨#[9]⟩] 9)).cell? ⟨w.heap.size, r, none⟩ = some (.string (sp i)) := by
  have hb : (w.alloc (.cells #[.string ⟨#[32]⟩, .string ⟨#[44]⟩, .string ⟨#[44, 32]⟩, .string ⟨#[9]⟩] 9)).heap[w.heap.size]? = some (.cells #[.string ⟨#[32]⟩, .string ⟨#[44]⟩, .string ⟨#[44, 32]⟩, .string ⟨#[9]⟩] 9) := heap_alloc_new _ _
  have h4 : r < 4 := by omega
  generalize w.alloc (.cells #[.string ⟨#[32]⟩, .string ⟨#[44]⟩, .string ⟨#[44, 32]⟩, .string ⟨#[9]⟩] 9) = V at hb ⊢
  generalize w.heap.size = B at hb ⊢
  unfold sp
  rw [hr]
  rcases (show r = 0 ∨ r = 1 ∨ r = 2 ∨ r = 3 by omega) with rfl | rfl | rfl | rfl
  all_goals simp [World.cell?, hb]
/-- The words that are true in a map. -/
theorem bgtZ (w : World) : (zeroValue 4).run Tryd.prog w = .ok (.bool false) w := by kernel_rfl
theorem bgtB (x : Bool) : plainElem (H := Unit) Tryd.prog 4 (.bool x) = some (.lit (.bool x), []) := by
  unfold plainElem
  rw [Tryd.underlying4]
set_option maxRecDepth 100000 in
theorem bgtB_inv {v : Value} {x : Bool} {ps : List MemPlace} (h : plainElem (H := Unit) Tryd.prog 4 v = some (.lit (.bool x), ps)) : v = .bool x := by
  unfold plainElem at h
  rw [Tryd.underlying4] at h
  cases v <;> simp at h
  rw [h.1]
def BgT (w : World) (b n : Nat) (L : List ByteArray) : Prop := ∃ D : DataW Unit, w.ownsMap Tryd.prog 9 (plainElem Tryd.prog 4) b n D ∧ (∀ s : ByteArray, s ∈ L → D.atKey (.string s.data.toList) (.lit (.bool false)) = .lit (.bool true)) ∧ ∀ s : ByteArray, Maps.has D (.string s.data.toList) = true ↔ s ∈ L
theorem BgT.lt {w : World} {b n : Nat} {L : List ByteArray} (h : BgT w b n L) : b < w.heap.size := by obtain ⟨D, h, _⟩ := h; exact h.lt
theorem BgT.made (w : World) : BgT (w.alloc (.map #[] 0)) w.heap.size 0 [] := ⟨.map [], World.ownsMap_made w _ _ _, (fun s hs => by cases hs), fun s => by simp [Maps.has]⟩
theorem BgT.block {w w' : World} {b n : Nat} {L : List ByteArray} (h : BgT w b n L) (e : w'.heap[b]? = w.heap[b]?) : BgT w' b n L := by
  obtain ⟨D, ⟨es, clock, hb, r⟩, hs⟩ := h
  exact ⟨D, ⟨es, clock, e.trans hb, r⟩, hs⟩
theorem BgT.stay {w w' : World} {b n : Nat} {L : List ByteArray} (h : BgT w b n L) (hb : Below w.heap.size w w') : BgT w' b n L := h.block (hb.block b h.lt)
theorem BgT.look {w : World} {b n : Nat} {L : List ByteArray} (h : BgT w b n L) (s : ByteArray) (hs : s.size ≤ 9223372036854775807) : (Instr.lookup 43 (.map (some b)) (.string s) false).run Tryd.prog w = .ok (.bool (knB L s)) w := by
  obtain ⟨D, hown, h1, h2⟩ := h
  obtain ⟨v, ps, hrun, hv⟩ := hown.lookup bgK Tryd.underlying43 (bgtZ w) (bgtB false) (bgS s hs)
  by_cases hm : s ∈ L
  · rw [h1 s hm] at hv
    rw [hrun, bgtB_inv hv, (knB_mem L s).2 hm]
  · have hn : Maps.has D (.string s.data.toList) = false := by
      cases e : Maps.has D (.string s.data.toList)
      · rfl
      · exact absurd ((h2 s).1 e) hm
    have hk : knB L s = false := by
      cases e : knB L s
      · rfl
      · exact absurd ((knB_mem L s).1 e) hm
    rw [Maps.atKey_of_not_has hn] at hv
    rw [hrun, bgtB_inv hv, hk]
theorem BgT.put {w w' : World} {b n : Nat} {L : List ByteArray} {D : DataW Unit} {s : ByteArray} (h0 : w.ownsMap Tryd.prog 9 (plainElem Tryd.prog 4) b n D) (h1 : ∀ s : ByteArray, s ∈ L → D.atKey (.string s.data.toList) (.lit (.bool false)) = .lit (.bool true)) (h2 : ∀ s : ByteArray, Maps.has D (.string s.data.toList) = true ↔ s ∈ L)
    (h : w'.ownsMap Tryd.prog 9 (plainElem Tryd.prog 4) b (n + 1) (D.put (.string s.data.toList) (.lit (.bool true)))) : BgT w' b (n + 1) (L ++ [s]) := by
  have hM := h0.isMap
  have hK : WideAt.IsKeyLit (.string s.data.toList) := by show WideAt.IsKeyLit (.string _); trivial
  refine ⟨_, h, fun t ht => ?_, fun t => ?_⟩
  · by_cases e : t = s
    · subst e
      exact Maps.atKey_put_same hM hK _ _
    · rw [Maps.atKey_put_other (fun h => e (bg_inj h))]
      exact h1 t (by rcases List.mem_append.1 ht with h | h; exact h; exact absurd (List.mem_singleton.1 h) e)
  · by_cases e : t = s
    · subst e
      rw [Maps.has_put_same hM hK]
      simp
    · rw [Maps.has_put_other (fun h => e (bg_inj h)), h2 t]
      simp [e]
/-- A word's bytes, the first one turned. -/
theorem conv_q (w : World) (zs : List Nat) : (Lib.bytesWorld w 5 (Wt zs)).cell? ⟨w.heap.size, 0, none⟩ = some (.int .u8 113) ∧ (Lib.bytesWorld w 5 (Wt zs)).frozen? ⟨w.heap.size, 0, none⟩ = false ∧
    BC ((Lib.bytesWorld w 5 (Wt zs)).setCell ⟨w.heap.size, 0, none⟩ (.int .u8 81)) (some ⟨w.heap.size, 0, none⟩) (81 :: wqt zs).length (cL (81 :: wqt zs)) := by
  have hbc := conv_cl (w := w) (t := wq zs) (wq_byt zs)
  have hl : (wq zs).length = (81 :: wqt zs).length := rfl
  have c0 : (Lib.bytesWorld w 5 (Wt zs)).cell? ⟨w.heap.size, 0, none⟩ = some (.int .u8 113) := by
    obtain ⟨b, off, e, hc⟩ := hbc 0 (by rw [hl]; exact Nat.succ_pos _)
    injection e with e
    injection e with e1 e2
    subst e1 e2
    exact hc
  refine ⟨c0, ?_, fun i hi => ⟨_, _, rfl, ?_⟩⟩
  · have h1 := Lib.bytesWorld_at_new w 5 (Wt zs)
    have h2 : 0 < (Lib.bytesCells w 5 (Wt zs)).size := by
      obtain ⟨h3, -⟩ := wt_size zs
      have h4 : (Lib.bytesWorld w 5 (Wt zs)).cell? ⟨w.heap.size, 0, none⟩ = (Lib.bytesCells w 5 (Wt zs))[0]? := by
        generalize Lib.bytesWorld w 5 (Wt zs) = V at h1 ⊢
        simp [World.cell?, h1]
      rw [c0] at h4
      exact (Array.getElem?_eq_some_iff.1 h4.symm).1
    generalize Lib.bytesWorld w 5 (Wt zs) = V at h1 ⊢
    generalize Lib.bytesCells w 5 (Wt zs) = cs at h1 h2
    simp [World.frozen?, h1]
    first | omega | (intro e; rw [e] at h2; simp at h2)
  · rcases Nat.eq_zero_or_pos i with h0 | h0
    · subst h0
      rw [Nat.add_zero, World.cell?_setCell_same (h := c0)]
      rfl
    · obtain ⟨b, off, e, hc⟩ := hbc i (by rw [hl]; exact hi)
      injection e with e
      injection e with e1 e2
      subst e1 e2
      rw [World.cell?_setCell_other (h := by intro e; injection e with e1 e2; omega)]
      rw [show strOfNums (wq zs) = Wt zs from rfl] at hc
      rw [hc]
      obtain ⟨j, rfl⟩ : ∃ j, i = j + 1 := ⟨i - 1, by omega⟩
      rfl
theorem wds_cell {w : World} {base k i : Nat} {v : Value} {Z : List (List Nat)} (h : w.ownsRow base 9 1 v k ((wds Z k).map Value.string)) (hi : i < k) : ∃ g c, v = .slice (some ⟨g, 0, none⟩) k c ∧ w.cell? ⟨g, i, none⟩ = some (.string (Wt (Z.getD i []))) := by
  have h0 := h
  obtain ⟨hl, ⟨rfl, h1⟩ | ⟨g, c, cur, rfl, _⟩⟩ := h
  · omega
  · refine ⟨g, c, rfl, ?_⟩
    rw [h0.cellAt i (by omega), List.getElem?_map, wds_at Z hi]
    rfl
theorem row_form {w : World} {base k : Nat} {v : Value} {xs : List Value} (h : w.ownsRow base 9 1 v k xs) : ∃ a c, v = .slice a k c := by
  obtain ⟨hl, ⟨rfl, h1⟩ | ⟨g, c, cur, rfl, _⟩⟩ := h
  · exact ⟨none, 0, by rw [h1]⟩
  · exact ⟨_, c, rfl⟩
theorem off_first (n : Nat) : offB [(n + 1, 10)] 0 = false ∧ offB [(n + 1, 10)] ((n + 1 : Nat) : Int) = true := by
  constructor
  · unfold offB
    rw [List.any_cons, decide_eq_false (show ¬ ((n + 1 : Nat) : Int) ≤ 0 by omega), Bool.false_and]
    rfl
  · unfold offB
    rw [List.any_cons, decide_eq_true (show ((n + 1 : Nat) : Int) ≤ ((n + 1 : Nat) : Int) by omega), decide_eq_true (show ((n + 1 : Nat) : Int) < ((n + 1 + 10 : Nat) : Int) by omega)]
    rfl
end Go.Proofs.YteeeekpeokgaeaaDoor
/- Rows of rows of bytes, as they come in. -/
namespace Go.Proofs.YteeeekpeokgaeaaDoor
set_option linter.unusedVariables false
open Go.RowKit Go.ChangeShapes
theorem u8_fit {x : Int} (h : (Lit.int .u8 x).wf = true) : ∃ n : Nat, x = (n : Int) ∧ n ≤ 255 := ⟨x.toNat, by have := u8_wf h; omega, by have := u8_wf h; omega⟩
theorem br_of {W : World} {a : Addr} {len cap : Nat} {zs : List Int} (hz : len ≤ zs.length) (hc : ∀ i, i < zs.length → W.cell? (a.add i) = some (.int .u8 (zs.getD i 0))) (hw : ∀ n ∈ zs, (Lit.int .u8 n).wf = true) :
    ∃ ns : List Nat, ns.length = len ∧ BR W (.slice (some a) len cap) ns := by
  have hl : ((zs.take len).map Int.toNat).length = len := by rw [List.length_map, List.length_take]; omega
  refine ⟨(zs.take len).map Int.toNat, hl, some a, cap, by rw [hl], fun j x hx => ?_⟩
  have hj : j < len := by
    have := (List.getElem?_eq_some_iff.1 hx).1
    rw [hl] at this
    exact this
  have hjz : j < zs.length := by omega
  obtain ⟨b, off, spot⟩ := a
  have hcj := hc j hjz
  have hspot : spot = none := by simpa [Addr.add] using World.cell?_spot (hc 0 (by omega))
  subst hspot
  obtain ⟨n, hn, hn2⟩ := u8_fit (hw _ (List.getElem_mem hjz))
  have hx2 : x = n := by
    rw [List.getElem?_map, List.getElem?_take, if_pos hj, List.getElem?_eq_getElem hjz, hn] at hx
    simpa using hx.symm
  subst hx2
  refine ⟨hn2, b, off, rfl, ?_⟩
  rw [addr_add] at hcj
  rw [hcj, List.getD_eq_getElem?_getD, List.getElem?_eq_getElem hjz, hn]
  rfl
theorem br_trod {H : Type} {enc : TypeId × Value → H} {W : World} {base : Nat} {spare : Nat → Bool} {held : Bool} {fuel : Nat} {cs : List Value} {x : DataW H × List MemPlace} (h : DataW.trod enc Tryd.prog W base spare held fuel 22 cs = some x) :
    ∃ v ns, cs = [v] ∧ BR W v ns ∧ ns.length ≤ maxLen := by
  rcases open_ints Tryd.underlying22 Tryd.underlying5 (show Tryd.prog.cellsOf 5 = 1 by kernel_rfl) h with ⟨hcs, _⟩ | ⟨a, len, cap, zs, hcs, _, hl, hm, hz, _, hc, hwf⟩
  · exact ⟨_, [], hcs, ⟨none, 0, rfl, fun j x hx => by simp at hx⟩, Nat.zero_le _⟩
  · obtain ⟨ns, h1, h2⟩ := br_of (len := len) (cap := cap) (by rw [hz]; split <;> omega) hc hwf
    exact ⟨_, ns, hcs, h2, by omega⟩
theorem brr_trod {H : Type} {enc : TypeId × Value → H} {W : World} {base : Nat} {spare : Nat → Bool} {held : Bool} {fuel : Nat} {cs : List Value} {x : DataW H × List MemPlace} (h : DataW.trod enc Tryd.prog W base spare held fuel 27 cs = some x) :
    ∃ v Z, cs = [v] ∧ BRR W v Z ∧ Z.length ≤ maxLen := by
  rcases Go.Deep.open_slice Tryd.underlying27 h with ⟨hcs, _⟩ | ⟨a, len, cap, m, n, D, Pl, hcs, hb, hl, hm, hmm, _, he⟩
  · exact ⟨_, [], hcs, ⟨none, 0, rfl, fun j x hx => by simp at hx⟩, Nat.zero_le _⟩
  · have hlm : len ≤ m := by rw [hmm]; split <;> omega
    have hone : Tryd.prog.cellsOf 22 = 1 := by kernel_rfl
    have hrow : ∀ i, i < len → ∃ (u : Value) (ns : List Nat), W.cell? (a.add i) = some u ∧ BR W u ns ∧ ns.length ≤ maxLen := fun i hi => by
      obtain ⟨cs', h1, h2⟩ := he i (by omega)
      rw [hone, Nat.mul_one] at h1
      obtain ⟨v, ns, rfl, h3, h4⟩ := br_trod h2
      exact ⟨v, ns, cell_of_cells?_one h1, h3, h4⟩
    have hZ : ∃ Z : List (List Nat), Z.length = len ∧ ∀ (j : Nat) (zs : List Nat), Z[j]? = some zs → zs.length ≤ maxLen ∧ ∃ u, W.cell? (a.add j) = some u ∧ BR W u zs := by
      have key : ∀ k, k ≤ len → ∃ Z : List (List Nat), Z.length = k ∧ ∀ (j : Nat) (zs : List Nat), Z[j]? = some zs → zs.length ≤ maxLen ∧ ∃ u, W.cell? (a.add j) = some u ∧ BR W u zs := fun k => by
        induction k with
        | zero => exact fun _ => ⟨[], rfl, fun j zs hj => by simp at hj⟩
        | succ k ih =>
          intro hk
          obtain ⟨Z, h1, h2⟩ := ih (by omega)
          obtain ⟨u, ns, h3, h4, h5⟩ := hrow k (by omega)
          refine ⟨Z ++ [ns], by simp [h1], fun j zs hj => ?_⟩
          rcases Nat.lt_or_ge j k with hjk | hjk
          · rw [List.getElem?_append_left (by omega)] at hj
            exact h2 j zs hj
          · have hjl := (List.getElem?_eq_some_iff.1 hj).1
            rw [List.length_append, List.length_singleton] at hjl
            obtain rfl : j = k := by omega
            rw [List.getElem?_append_right (by omega), h1, Nat.sub_self] at hj
            obtain rfl : ns = zs := by simpa using hj
            exact ⟨h5, u, h3, h4⟩
      exact key len (Nat.le_refl _)
    obtain ⟨Z, hZl, hZ⟩ := hZ
    refine ⟨_, Z, hcs, ⟨some a, cap, by rw [hZl], fun j zs hj => ?_⟩, by omega⟩
    obtain ⟨h1, u, h2, h3⟩ := hZ j zs hj
    obtain ⟨u0, _, h00, _⟩ := hrow 0 (by have := (List.getElem?_eq_some_iff.1 hj).1; omega)
    obtain ⟨b, off, spot⟩ := a
    have hspot : spot = none := by simpa [Addr.add] using World.cell?_spot h00
    subst hspot
    rw [addr_add] at h2
    exact ⟨h1, b, off, u, rfl, h2, h3⟩
end Go.Proofs.YteeeekpeokgaeaaDoor
