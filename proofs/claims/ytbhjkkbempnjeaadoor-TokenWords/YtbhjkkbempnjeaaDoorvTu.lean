/- The reference: the text of signs; whether two rows of signs are the same. -/
import Derived.Test.YtbhjkkbempnjeaaDoorvTx
import Derived.Test.YtbhjkkbempnjeaaDoorvRu
namespace Go.Proofs.YtbhjkkbempnjeaaDoor
set_option linter.unusedVariables false
open Go.RowKit Go.ChangeShapes
/-- Signs that lie where a slice points. -/
def US (w : World) (v : Value) (l : List U3) : Prop := ∃ ad cap, v = .slice ad l.length cap ∧ l.length ≤ cap ∧ ∀ i x, l[i]? = some x → ∃ b off, ad = some ⟨b, off, none⟩ ∧ b < w.heap.size ∧ w.cell? ⟨b, off + i * 3, none⟩ = some (.int .i32 x.r) ∧ w.cell? ⟨b, off + i * 3 + 1, none⟩ = some (.int .i64 x.a) ∧ w.cell? ⟨b, off + i * 3 + 2, none⟩ = some (.int .i64 x.n)
theorem US.stay {w w' : World} {v : Value} {l : List U3} (h : US w v l) (hb : Below w.heap.size w w') : US w' v l := by
  obtain ⟨ad, cap, e, hc, hh⟩ := h
  refine ⟨ad, cap, e, hc, fun i x hx => ?_⟩
  obtain ⟨b, off, e2, hl, h1, h2, h3⟩ := hh i x hx
  exact ⟨b, off, e2, Nat.lt_of_lt_of_le hl hb.size, cell_stay h1 hb, cell_stay h2 hb, cell_stay h3 hb⟩
theorem UR.us {w : World} {base : Nat} {v : Value} {l : List U3} (h : UR w base v l) : US w v l := by
  have h0 := h
  unfold UR at h
  obtain ⟨_, ⟨rfl, h2⟩ | ⟨g, cap, cur, rfl, _, hh, hc, _⟩⟩ := h
  · have : l = [] := List.eq_nil_of_length_eq_zero h2
    subst this
    exact ⟨none, 0, rfl, Nat.le_refl _, fun i x hx => by simp at hx⟩
  · refine ⟨_, _, rfl, hc, fun i x hx => ⟨g, 0, rfl, lt_of_heap hh, ?_⟩⟩
    obtain ⟨a, b, c⟩ := uC_at l i x hx
    have hi : i < l.length := (List.getElem?_eq_some_iff.1 hx).1
    have hl := uC_len l
    unfold UR at h0
    refine ⟨?_, ?_, ?_⟩
    · rw [Nat.zero_add, h0.cellAt (i * 3) (by omega)]; exact a
    · rw [Nat.zero_add, h0.cellAt (i * 3 + 1) (by omega)]; exact b
    · rw [Nat.zero_add, h0.cellAt (i * 3 + 2) (by omega)]; exact c
/-- What signs say. -/
def tU (l : List U3) : List Int := l.flatMap fun u => enc u.r
def rC (l : List U3) : List Value := l.map fun u => .int .i32 u.r
theorem rC_snoc (l : List U3) {j : Nat} {x : U3} (h : l[j]? = some x) : rC (l.take (j + 1)) = rC (l.take j) ++ [.int .i32 x.r] := by
  obtain ⟨hj, rfl⟩ := List.getElem?_eq_some_iff.1 h
  unfold rC
  rw [List.take_succ_eq_append_getElem hj, List.map_append]
  rfl
theorem txt_tU (l : List U3) : txt (fun i => (l.map (·.r)).getD i 0) l.length = tU l := by
  unfold txt tU
  have : ∀ k, k ≤ l.length → (List.range k).flatMap (fun j => enc ((l.map (·.r)).getD j 0)) = (l.take k).flatMap fun u => enc u.r := by
    intro k
    induction k with
    | zero => intro _; rfl
    | succ k ih =>
      intro hk
      have hk' : k < l.length := hk
      rw [List.range_succ, List.flatMap_append, ih (by omega), List.take_succ_eq_append_getElem hk', List.flatMap_append]
      simp [List.getD, hk']
  rw [this l.length (Nat.le_refl _), List.take_length]
theorem rsl_own {w : World} {base : Nat} {v : Value} {l : List U3} (h : w.ownsRow base 21 1 v l.length (rC l)) : Tns.RSl w v l.length fun i => (l.map (·.r)).getD i 0 := by
  have h0 := h
  obtain ⟨_, ⟨rfl, h2⟩ | ⟨g, cap, cur, rfl, _⟩⟩ := h
  · exact Or.inl ⟨none, 0, rfl, h2⟩
  · refine Or.inr ⟨g, 0, cap, rfl, fun i hi => ?_⟩
    rw [Nat.zero_add, h0.cellAt i (by omega)]
    simp [rC, List.getD, hi]
set_option maxRecDepth 100000 in
set_option maxHeartbeats 2000000 in
theorem rtextU_any {w : World} {v : Value} {l : List U3} (h : US w v l) (hn : l.length ≤ 5000) :
    Calls Tryd.prog 34 #[v] w fun e w' => e = .returned (.string (strOfNums (tU l))) ∧ Below w.heap.size w w' := by
  obtain ⟨ad, cap, rfl, hcap, hh⟩ := h
  have HH : Hid (∀ i x, l[i]? = some x → ∃ b off, ad = some ⟨b, off, none⟩ ∧ b < w.heap.size ∧ w.cell? ⟨b, off + i * 3, none⟩ = some (.int .i32 x.r) ∧ w.cell? ⟨b, off + i * 3 + 1, none⟩ = some (.int .i64 x.a) ∧ w.cell? ⟨b, off + i * 3 + 2, none⟩ = some (.int .i64 x.n)) := hh
  obtain ⟨S, hS⟩ : ∃ S, strOfNums (tU l) = S := ⟨_, rfl⟩
  have HS : Hid (strOfNums (txt (fun i => (l.map (·.r)).getD i 0) l.length) = S) := by show _ = _; rw [txt_tU, hS]
  rw [hS]
  obtain ⟨k, hk⟩ : ∃ k, l.length = k := ⟨_, rfl⟩
  have HK : Hid (l.length = k) := hk
  rw [hk] at hn hcap ⊢
  obtain ⟨i0, hi, hz0, hz1, hz2⟩ := info_parts Tns.info21
  clear hh hS hk
  go_enter Tryd.func34, Tryd.ntmps34
  go_wp2
  go_loopg [3, 4] k (fun q rv iv wr => ∃ j : Nat, j ≤ k ∧ q = k - j ∧ iv = .int .i64 j ∧ Hid (wr.ownsRow w.heap.size 21 1 rv j (rC (l.take j))) ∧ Hid (Up w.heap.size w wr))
  case atStart => exact ⟨0, Nat.zero_le _, rfl, rfl, ⟨rfl, Or.inl ⟨rfl, rfl⟩⟩, Up.refl w⟩
  case round =>
    obtain ⟨j, hj, hq, rfl, HO, HU⟩ := hrel
    by_cases hlt : j < k
    · have z0 : (0 : Int) ≤ (j : Int) := by omega
      have z1 : (j : Int) < (k : Int) := by omega
      obtain ⟨x, hx⟩ : ∃ x, l[j]? = some x := ⟨_, List.getElem?_eq_getElem (by rw [HK.out]; exact hlt)⟩
      obtain ⟨b, off, rfl, hbl, y1, -, -⟩ := HH.out j x hx
      have y2 := cell_stay y1 HU.out.1
      have HX : Hid (l[j]? = some x) := hx
      clear y1 hx
      go_wp2_with (at_builtin; refine wpList_append_own _ rfl _ _ 52 rfl w.heap.size 21 i0 _ 1 4 Tryd.underlying52 hi hz0 hz1 hz2 rfl (by decide) _ _ _ rfl (World.ownsRow.alloc HO.out _) ⟨wr.heap.size, 0, none⟩ 1 1 [.int .i32 x.r] rfl rfl ?c1 ?c2 ?c3 ?c4 ?c5 ?_)
      case c1 =>
        intro q u hq
        match q, hq with
        | 0, hq => simp at hq; subst hq; simp [Addr.add]
        | (q + 1), hq => simp at hq
      case c2 => intro u hu; simp at hu; subst hu; rfl
      case c3 => unfold maxLen; omega
      case c4 => omega
      case c5 => have := HU.out.2; simp only [World.size_alloc]; omega
      intro v' w2 hown2 hgr hnil
      have HO2 : Hid (w2.ownsRow w.heap.size 21 1 v' (j + 1) (rC (l.take (j + 1)))) := by
        show w2.ownsRow _ _ _ _ _ _
        rw [rC_snoc l HX.out]; exact hown2
      have HU2 : Hid (Up w.heap.size w w2) := (HU.out.alloc _).grown hgr (own_base HO.out)
      clear hown2 hgr hnil HO HU y2
      go_wp2
      go_roundg (k - (j + 1))
      case measure => omega
      case rel => exact ⟨j + 1, by omega, rfl, by go_num, HO2, HU2⟩
    · have z1 : ¬ (j : Int) < (k : Int) := by omega
      have hjk : j = k := by omega
      have ho := HO.out
      rw [hjk, ← HK.out, List.take_length] at ho
      have ct := Tns.rtext_any _ l.length u3 wr (by rw [HK.out]; exact hn) (rsl_own ho)
      rw [HS.out] at ct
      clear ho HO
      go_wp2_with fail
      refine ct.mono ?_
      rintro e w2 ⟨rfl, hb2⟩
      have HU2 : Hid (Below w.heap.size w w2) := HU.out.1.trans (hb2.mono HU.out.2)
      clear ct hb2
      go_wp2
      go_ret
      exact ⟨rfl, HU2.out⟩
end Go.Proofs.YtbhjkkbempnjeaaDoor
