/- html: Lay. -/
import Derived.Test.YtodjfeheagnnpaaDoorhTag
import Derived.Test.YtodjfeheagnnpaaDoorlSet
import Derived.Deep.RegionHeld3
namespace Go.Proofs.YtodjfeheagnnpaaDoor
set_option linter.unusedVariables false
open Go.RowKit Go.ChangeShapes
theorem BC.grown {w w' : World} {b off n g : Nat} {c : Nat → Int} (h : BC w (some ⟨b, off, none⟩) n c) (hg : w.grownBy w' (some g)) (hne : b ≠ g) : BC w' (some ⟨b, off, none⟩) n c := fun i hi => by
  obtain ⟨b', off', e, hc⟩ := h i hi
  injection e with e
  injection e with e1 e2 _
  subst e1 e2
  refine ⟨b, off, rfl, ?_⟩
  have hlt := World.block_lt_of_cell? w _ hc
  rw [← hc]
  simp only [World.cell?]
  rw [hg.block b hlt (fun e => hne (Option.some.inj e))]
theorem cell_grown {w w' : World} {a : Addr} {g : Nat} {v : Value} (h : w.cell? a = some v) (hg : w.grownBy w' (some g)) (hne : a.block ≠ g) : w'.cell? a = some v := by
  have hlt := World.block_lt_of_cell? w _ h
  rw [← h]
  simp only [World.cell?]
  rw [hg.block a.block hlt (fun e => hne (Option.some.inj e))]
theorem end_any {w : World} (a m : Nat) (ha : a ≤ 1000000) (hm : m ≤ 1000000) (h0 : 0 < m) :
    Calls Tryd.prog 27 #[.agg #[.int .i64 a, .int .i64 m]] w fun ev w' => ev = .returned (.int .i64 ((a : Int) + m)) ∧ Below w.heap.size w w' := by
  have z1 : ¬ (m : Int) ≤ 0 := by omega
  have z2 : ¬ 9223372036854775807 - (m : Int) < (a : Int) := by omega
  go_enter Tryd.func27, Tryd.ntmps27
  go_wp2
  go_ret
  exact ⟨rfl, by (repeat (first | exact Below.refl _ _ | (refine Below.alloc ?_ (by simp <;> omega) _) | (refine Below.setCell ?_ (by simp <;> omega) _)))⟩
theorem takeH {P : Program} {ops : Array Oper} {Q : Exit → Act → World → Prop} {md : Region.Mode} {S : World → Prop} {i : Nat} {oi : Oper} {v : Value} {d : Option Tmp} {fuel : Nat} {listed : Array Bool} {a : Act} {w : World} (hi : ops[i]? = some oi)
    (hs : Region.noSelect ops = true) (hf : Region.free md ops listed i = true) (hr : (Region.ready md ops listed).contains i = true) (hd : oi.dst = d)
    (hQ : ∀ c a w, Q (.panic c) (a.put d v) w → Q (.panic c) a w) (hy : YieldsIf P ops S oi v a) (hS : S w)
    (h : wpAnyH P md ops Q S fuel (listed.setIfInBounds i true) (a.put d v) w) : wpAnyH P md ops Q S (fuel + 1) listed a w := by
  subst hd
  exact wpAnyH_take hi hs hf hr hQ hy hS h
/-- Spans are laid as prose. -/
def layP (L : Nat → Int) (l : List (Nat × Nat)) : Nat → Int := l.foldl (fun M p => setL M 1 (p.1 : Int) ((p.1 : Int) + (p.2 : Int))) L
theorem layP_snoc (L : Nat → Int) (l : List (Nat × Nat)) (p : Nat × Nat) : layP L (l ++ [p]) = setL (layP L l) 1 (p.1 : Int) ((p.1 : Int) + (p.2 : Int)) := by
  unfold layP
  rw [List.foldl_append]
  rfl
/-- A tag's bytes. -/
def layT (L : Nat → Int) (i : Nat) (t : Tg) : Nat → Int := layP (setL L 2 (i : Int) (t.e : Int)) t.pr
/-- Spans within so many bytes, none empty. -/
def PrOk (n : Nat) (l : List (Nat × Nat)) : Prop := ∀ p ∈ l, 0 < p.2 ∧ p.1 + p.2 ≤ n
theorem PR.keep {w w' : World} {base : Nat} {v : Value} {l : List (Nat × Nat)} {g n : Nat} {L : Nat → Int} (h : PR w base v l) (hr : LR w g n L) (hg : w.grownBy w' (some g)) : PR w' base v l := by
  unfold PR at h ⊢
  obtain ⟨h1, h2 | ⟨g', cap, cur, rfl, hg', hh, h3⟩⟩ := h
  · exact ⟨h1, Or.inl h2⟩
  · refine ⟨h1, Or.inr ⟨g', cap, cur, rfl, hg', ?_, h3⟩⟩
    rw [hg.block g' (lt_of_heap hh) ?_]
    · exact hh
    · intro e
      injection e with e
      subst e
      obtain ⟨c, hc, _⟩ := hr
      rw [hh] at hc
      injection hc with hc
      injection hc with _ e _
      exact absurd e (by decide)
theorem stay_grown {a w w' : World} {g : Nat} (h : a.grownBy w (some g)) (hb : Below w.heap.size w w') : a.grownBy w' (some g) := grown_trans h (grown_of hb (some g))
set_option maxRecDepth 100000 in
set_option maxHeartbeats 1000000 in
theorem lay_tag {w : World} {T g n base : Nat} {L : Nat → Int} (h : Sh w T g n L) (hn : n ≤ 65536) (i : Nat) (e : Nat) (X : ByteArray) (cl : Bool) (pv : Value) (l : List (Nat × Nat)) (hp : PR w base pv l) (hok : PrOk n l) (hl : l.length ≤ 65536) :
    Calls Tryd.prog 12 #[.pointer (some ⟨T, 0, none⟩), .int .i64 i, .agg #[.int .i64 e, .string X, .bool cl, pv]] w fun ev w' => ev = .returned (.tuple #[]) ∧ Sh w' T g n (layP (setL L 2 (i : Int) (e : Int)) l) ∧ w.grownBy w' (some g) := by
  obtain ⟨pd, pc, rfl⟩ := hp.form
  obtain ⟨W, hW⟩ : ∃ W, w.alloc (.cells #[.int .i64 e, .string X, .bool cl, .slice pd l.length pc] 31) = W := ⟨_, rfl⟩
  have hbW : Below w.heap.size w W := by rw [← hW]; exact below_alloc w _
  have hB0 : W.heap[w.heap.size]? = some (.cells #[.int .i64 e, .string X, .bool cl, .slice pd l.length pc] 31) := by rw [← hW]; exact heap_alloc_new _ _
  have hS := h.stay hbW
  have hp1 := hp.stay hbW
  have ct := set_any hS hn 2 (i : Int) (e : Int)
  obtain ⟨m, hm⟩ : ∃ m, l.length = m := ⟨_, rfl⟩
  rw [hm] at hW hB0 hp1 hl ⊢
  have y0 : W.cell? ⟨w.heap.size, 0, none⟩ = some (.int .i64 e) := by simp [World.cell?, hB0]
  have HH : Hid (Below w.heap.size w W ∧ Sh W T g n L ∧ PR W base (.slice pd m pc) l ∧ l.length = m ∧ PrOk n l ∧ T < w.heap.size ∧ g < w.heap.size) := ⟨hbW, hS, hp1, hm, hok, h.lt, h.row.lt⟩
  have HB0 : Hid (W.heap[w.heap.size]? = some (.cells #[.int .i64 e, .string X, .bool cl, .slice pd m pc] 31)) := hB0
  clear hbW hB0 hS hp1 hm h hp hok
  go_enter Tryd.func12, Tryd.ntmps12
  go_wp2_with fail
  refine ct.mono ?_
  rintro ev w1 ⟨rfl, h1, h2, h3⟩
  have HS1 : Hid (Sh w1 T g n (setL L 2 (i : Int) (e : Int)) ∧ w.grownBy w1 (some g)) := ⟨h1, grown_trans (grown_of HH.out.1 _) h2⟩
  have HP1 : Hid (PR w1 base (.slice pd m pc) l) := HH.out.2.2.1.keep HH.out.2.1.row h2
  have y3 : w1.cell? ⟨w.heap.size, 3, none⟩ = some (.slice pd m pc) := by
    have := (h2.block w.heap.size (lt_of_heap HB0.out) (fun ee => by injection ee with ee; have := HH.out; omega)).trans HB0.out
    simp [World.cell?, this]
  clear h1 h2 h3 ct hW y0
  go_wp2
  go_loopg [16] m (fun q iv wr => ∃ k : Nat, k ≤ m ∧ q = m - k ∧ iv = .int .i64 k ∧ Hid (Sh wr T g n (layP (setL L 2 (i : Int) (e : Int)) (l.take k))) ∧ Hid (w.grownBy wr (some g)) ∧ Hid (PR wr base (.slice pd m pc) l))
  case atStart => exact ⟨0, Nat.zero_le _, rfl, rfl, HS1.out.1, HS1.out.2, HP1⟩
  case round =>
    obtain ⟨k, hk, hq, rfl, HS, HG, HP⟩ := hrel
    by_cases hlt : k < m
    · have z1 : (k : Int) < (m : Int) := by omega
      have z2 : (0 : Int) ≤ (k : Int) := by omega
      obtain ⟨p, hp⟩ : ∃ p, l[k]? = some p := ⟨_, List.getElem?_eq_getElem (by rw [HH.out.2.2.2.1]; exact hlt)⟩
      obtain ⟨a, s⟩ := p
      obtain ⟨gp, rfl, -, -⟩ := own_at (n := m) (by have := HP.out; unfold PR at this; rw [HH.out.2.2.2.1] at this; exact this) (by omega)
      obtain ⟨c0, c1⟩ := HP.out.cells HH.out.2.2.2.1.symm hp
      have hpk := HH.out.2.2.2.2.1 (a, s) (List.mem_of_getElem? hp)
      dsimp only at c0 c1 hpk
      have HTK : Hid (l.take (k + 1) = l.take k ++ [(a, s)]) := by show _ = _; rw [List.take_add_one, hp]; rfl
      clear hp
      obtain ⟨V, hV⟩ : ∃ V, wr.alloc (.cells #[.int .i64 a, .int .i64 s] 29) = V := ⟨_, rfl⟩
      have hbV : Below wr.heap.size wr V := by rw [← hV]; exact below_alloc wr _
      have hV0 : V.heap[wr.heap.size]? = some (.cells #[.int .i64 a, .int .i64 s] 29) := by rw [← hV]; exact heap_alloc_new _ _
      have v0 : V.cell? ⟨wr.heap.size, 0, none⟩ = some (.int .i64 a) := by simp [World.cell?, hV0]
      have v1 : V.cell? ⟨wr.heap.size, 1, none⟩ = some (.int .i64 s) := by simp [World.cell?, hV0]
      obtain ⟨B, hB⟩ : ∃ B, wr.heap.size = B := ⟨_, rfl⟩
      have HVB : Hid (V.heap[B]? = some (.cells #[.int .i64 a, .int .i64 s] 29) ∧ T < B ∧ g < B) := by rw [← hB]; exact ⟨hV0, HS.out.lt, HS.out.row.lt⟩
      have HSV : Hid (Sh V T g n (layP (setL L 2 (i : Int) (e : Int)) (l.take k)) ∧ w.grownBy V (some g) ∧ PR V base (.slice (some ⟨gp, 0, none⟩) m pc) l) := ⟨HS.out.stay hbV, stay_grown HG.out hbV, HP.out.stay hbV⟩
      have HBB : Hid (wr.heap.size = B) := hB
      clear hV0 hbV hB
      go_upto_region 5 with fail
      rw [HBB.out]
      rw [HBB.out] at v0 v1
      clear HBB hV
      refine wp_region_held_drew (S := fun w' => w'.cell? ⟨B, 0, none⟩ = some (.int .i64 a) ∧ w'.cell? ⟨B, 1, none⟩ = some (.int .i64 s)) (by kernel_rfl) ⟨v0, v1⟩ (fun hHeld => ?_)
      refine takeH (i := 0) (v := ?_) (d := (some 20)) rfl (by kernel_rfl) (by kernel_rfl) (by kernel_rfl) rfl (fun _ _ _ h => h) (Or.inl ⟨by kernel_rfl, ?_⟩) (by first | assumption | trivial) ?_; rotate_left
      · (intro w hSw; (try dsimp only at hSw); obtain ⟨hs0, hs1⟩ := hSw; first | (go_simp; done) | (go_simp; with_reducible rfl))
      (try simp only [Act.put, List.setIfInBounds_toArray, List.set_cons_zero, List.set_cons_succ])
      refine takeH (i := 1) (v := ?_) (d := (some 21)) rfl (by kernel_rfl) (by kernel_rfl) (by kernel_rfl) rfl (fun _ _ _ h => h) (Or.inl ⟨by kernel_rfl, ?_⟩) (by first | assumption | trivial) ?_; rotate_left
      · (intro w hSw; (try dsimp only at hSw); obtain ⟨hs0, hs1⟩ := hSw; first | (go_simp; done) | (go_simp; with_reducible rfl))
      (try simp only [Act.put, List.setIfInBounds_toArray, List.set_cons_zero, List.set_cons_succ])
      refine takeH (i := 2) (v := ?_) (d := (some 22)) rfl (by kernel_rfl) (by kernel_rfl) (by kernel_rfl) rfl (fun _ _ _ h => h) (Or.inl ⟨by kernel_rfl, ?_⟩) (by first | assumption | trivial) ?_; rotate_left
      · (intro w hSw; (try dsimp only at hSw); obtain ⟨hs0, hs1⟩ := hSw; first | (go_simp; done) | (go_simp; with_reducible rfl))
      (try simp only [Act.put, List.setIfInBounds_toArray, List.set_cons_zero, List.set_cons_succ])
      refine takeH (i := 3) (v := ?_) (d := (some 23)) rfl (by kernel_rfl) (by kernel_rfl) (by kernel_rfl) rfl (fun _ _ _ h => h) (Or.inl ⟨by kernel_rfl, ?_⟩) (by first | assumption | trivial) ?_; rotate_left
      · (intro w hSw; (try dsimp only at hSw); obtain ⟨hs0, hs1⟩ := hSw; first | (go_simp; done) | (go_simp; with_reducible rfl))
      (try simp only [Act.put, List.setIfInBounds_toArray, List.set_cons_zero, List.set_cons_succ])
      have ce := end_any (w := V.drew) a s (by omega) (by omega) hpk.1
      refine wpAnyH_ready (rs := [4]) (by kernel_rfl) (by simp) (AllReadyH.cons rfl (fun K hK => ?_) AllReadyH.nil)
      go_simp
      refine ce.mono ?_
      rintro ev w3 ⟨rfl, hb3⟩
      have hb3' : Below V.heap.size V w3 := ((Below.refl V.heap.size V).drew).trans hb3
      have hV3 : w3.heap[B]? = some (.cells #[.int .i64 a, .int .i64 s] 29) := blk_stay HVB.out.1 hb3'
      have HS3 : Hid (Sh w3 T g n (layP (setL L 2 (i : Int) (e : Int)) (l.take k)) ∧ w.grownBy w3 (some g) ∧ PR w3 base (.slice (some ⟨gp, 0, none⟩) m pc) l) := ⟨HSV.out.1.stay hb3', stay_grown HSV.out.2.1 hb3', HSV.out.2.2.stay hb3'⟩
      clear ce hb3 hb3'
      go_wp2_with fail
      refine hK.out _ _ ⟨by simp [World.cell?, hV3], by simp [World.cell?, hV3]⟩ (fun hHeld' => ?_)
      clear hK K hHeld hHeld'
      (try simp only [Act.put, List.setIfInBounds_toArray, List.set_cons_zero, List.set_cons_succ])
      have cs := set_any HS3.out.1 hn 1 (a : Int) ((a : Int) + (s : Int))
      refine wpAnyH_ready (rs := [5]) (by kernel_rfl) (by simp) (AllReadyH.cons rfl (fun K hK => ?_) AllReadyH.nil)
      go_simp
      refine cs.mono ?_
      rintro ev w4 ⟨rfl, h41, h42, h43⟩
      have HS4 : Hid (Sh w4 T g n (layP (setL L 2 (i : Int) (e : Int)) (l.take (k + 1)))) := by
        show Sh _ _ _ _ _
        rw [HTK.out, layP_snoc]
        exact h41
      have HG4 : Hid (w.grownBy w4 (some g)) := grown_trans HS3.out.2.1 h42
      have HP4 : Hid (PR w4 base (.slice (some ⟨gp, 0, none⟩) m pc) l) := HS3.out.2.2.keep HS3.out.1.row h42
      have hV4 : w4.heap[B]? = some (.cells #[.int .i64 a, .int .i64 s] 29) := (h42.block B (lt_of_heap hV3) (fun ee => by injection ee with ee; have := HVB.out; omega)).trans hV3
      clear cs h41 h42 h43
      go_wp2_with fail
      refine hK.out _ _ ⟨by simp [World.cell?, hV4], by simp [World.cell?, hV4]⟩ (fun hHeld' => ?_)
      clear hK K hHeld'
      (try simp only [Act.put, List.setIfInBounds_toArray, List.set_cons_zero, List.set_cons_succ])
      refine wpAnyH_done (by kernel_rfl) ?_ _
      go_wp2
      go_roundg (m - (k + 1))
      case measure => omega
      case rel => exact ⟨k + 1, by omega, rfl, by go_num, HS4, HG4, HP4⟩
    · obtain rfl : k = m := by omega
      have z1 : ¬ (k : Int) < (k : Int) := by omega
      go_wp2
      go_end0
      refine ⟨rfl, ?_, HG.out⟩
      have := HS.out
      rw [List.take_of_length_le (by rw [HH.out.2.2.2.1]; exact Nat.le_refl _)] at this
      exact this
end Go.Proofs.YtodjfeheagnnpaaDoor
