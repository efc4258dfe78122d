/- A search in memory: its block, the row of what was found, the beginning's row. -/
import Derived.Test.YtfikkkodepfdkaaDoornPure
import Derived.Test.YtfikkkodepfdkaaDoortClone
import Derived.ArgAppend
import Derived.OwnWalk
import Derived.Deep.AppendLies
namespace Go.Proofs.YtfikkkodepfdkaaDoor
set_option linter.unusedVariables false
open Go.RowKit Go.ChangeShapes
open Qns (dd far at_)
/-- append onto a row of one's own: within its room, or in a new one. -/
theorem wp_append_on {P : Program} {w : World} {o : Oper} {a : Act} {K : Act → World → Prop} {Q : Exit → Act → World → Prop} (s x : Operand) (t : TypeId)
    (ho : o.op = .call { callee := .builtin .append, args := #[s, x], argTypes := #[t, t] })
    (base : Nat) (e : TypeId) (i : TypeInfo) (z : Value) (size bytes : Nat) (ht : P.underlying t = some (.slice e)) (hi : P.info? e = some i) (hz : i.zero = some z)
    (hsize : i.size = size) (hby : i.bytes = bytes) (hzs : z.cells.size = size) (hsz : 0 < size)
    (v : Value) (n : Nat) (xs : List Value) (hs : a.eval s = v) (hown : w.ownsRow base e size v n xs)
    (ad : Addr) (m c : Nat) (news : List Value) (hx : a.eval x = .slice (some ad) m c) (hl : news.length = m * size) (hnews : ∀ j u, news[j]? = some u → w.cell? (ad.add j) = some u) (h1 : ∀ u ∈ news, u.oneCell' = true)
    (hm : 0 < m) (h63 : n + m ≤ maxLen) (hbytes : (n + m) * bytes ≤ 140737488355328) (hbase : base ≤ w.heap.size)
    (h : ∀ g cap w', w'.ownsRow base e size (.slice (some ⟨g, 0, none⟩) (n + m) cap) (n + m) (xs ++ news) → ((v = .slice (some ⟨g, 0, none⟩) n cap ∧ w.grownBy w' (some g)) ∨ (w.heap.size ≤ g ∧ w.grownBy w' none)) → g < w'.heap.size → K (a.put o.dst (.slice (some ⟨g, 0, none⟩) (n + m) cap)) w') : o.wp P a w K Q := by
  have hown0 := hown
  obtain ⟨hxl, ⟨rfl, rfl⟩ | ⟨g, cap, cur, rfl, hg, hh, h3⟩⟩ := hown
  · refine wp_append_lies w s x t ho base e i z size bytes ht hi hz hsize hby hzs hsz _ 0 xs hs hown0 ad m c news hx hl hnews h1 hm h63 hbytes hbase w.heap.size rfl ?_
    intro g cap w' h2 h3 h4 h5
    refine h g cap w' h2 (Or.inr ⟨?_, h3⟩) h5
    rcases h4 with h4 | h4
    · cases h4
    · omega
  · by_cases hr : n + m ≤ cap
    · obtain ⟨w', hrun, r1, r2⟩ := run_append_fits (P := P) w base t o.type e i size ht hi hsize g n cap xs hown0 ad m c news hl hnews h1 hr
      unfold Oper.wp
      simp [execOp, ho, resolve, invoke, builtin, hs, hx, hrun, Result.andThen]
      refine h g cap w' r1 (Or.inl ⟨rfl, r2⟩) ?_
      exact (r1.lt g rfl).2
    · obtain ⟨v', w', hrun, r1, r2⟩ := run_append_arg_grows (P := P) w t o.type e i z size bytes ht hi hz hsize hby hzs hsz ⟨g, 0, none⟩ n cap xs hxl (fun j u hj => World.ownsRow.cells hown0 rfl j u hj) ad m c news hl hnews (by omega) h63 hbytes
      obtain ⟨g', cap', rfl⟩ : ∃ g' cap', v' = .slice (some ⟨g', 0, none⟩) (n + m) cap' := by
        obtain ⟨_, ⟨_, h0⟩ | ⟨g', cap', _, e, _⟩⟩ := r1
        · omega
        · exact ⟨g', cap', e⟩
      have hlt := r1.lt g' rfl
      unfold Oper.wp
      simp [execOp, ho, resolve, invoke, builtin, hs, hx, hrun, Result.andThen]
      exact h g' cap' w' (own_mono r1 hbase) (Or.inr ⟨hlt.1, r2⟩) hlt.2
/-- A row without its last cell. -/
theorem own_cut {w : World} {b e g n cap : Nat} {xs : List Value} {x : Value} (h : w.ownsRow b e 1 (.slice (some ⟨g, 0, none⟩) (n + 1) cap) (n + 1) (xs ++ [x])) (hx : xs.length = n) : w.ownsRow b e 1 (.slice (some ⟨g, 0, none⟩) n cap) n xs := by
  obtain ⟨_, ⟨e0, _⟩ | ⟨g', cap', cur, e1, hg, hh, h1, h2, h3, h4⟩⟩ := h
  · cases e0
  · injection e1 with e1 e2 e3
    injection e1 with e1
    injection e1 with e1 _ _
    subst e1 e3
    refine ⟨by rw [Nat.mul_one]; exact hx, Or.inr ⟨_, _, cur, rfl, hg, hh, by omega, h2, h3, ?_⟩⟩
    have h5 := congrArg (List.take n) h4
    rw [List.take_take, Nat.mul_one, Nat.min_eq_left (Nat.le_succ n), List.take_append_of_le_length (by omega), List.take_of_length_le (l := xs) (by omega)] at h5
    rw [Nat.mul_one]
    exact h5
def nrC (F : List Nr) : List Value := F.flatMap fun x => [.string x.s, .int .i64 (x.d : Int)]
theorem nrC_app (F G : List Nr) : nrC (F ++ G) = nrC F ++ nrC G := by simp [nrC]
theorem nrC_len (F : List Nr) : (nrC F).length = F.length * 2 := by
  induction F with
  | nil => rfl
  | cons x F ih =>
    show (_ :: _ :: nrC F).length = _
    rw [List.length_cons, List.length_cons, ih, List.length_cons]
    omega
/-- The blocks that a search writes. -/
def FS (S : Nat) (vf vb : Value) (k : Nat) : Prop := k = S ∨ vf.ownBlock = some k ∨ vb.ownBlock = some k
/-- A search in memory. -/
structure SR (w0 w : World) (S : Nat) (tv vW : Value) (f : Nat) (vf : Value) (F : List Nr) : Prop where
  up : Up w0.heap.size w0 w
  bS : w0.heap.size ≤ S
  blk : w.heap[S]? = some (.cells #[tv, vW, .int .i64 (f : Int), vf] 112 (0, 0))
  fnd : w.ownsRow w0.heap.size 47 2 vf F.length (nrC F)
theorem SR.stay {w0 w w' : World} {S f : Nat} {tv vW vf : Value} {F : List Nr} (h : SR w0 w S tv vW f vf F) (hb : Below w.heap.size w w') : SR w0 w' S tv vW f vf F :=
  ⟨h.up.stay hb, h.bS, (hb.block S (lt_of_heap h.blk)).trans h.blk, own_stay h.fnd hb⟩
theorem SR.drew {w0 w : World} {S f : Nat} {tv vW vf : Value} {F : List Nr} (h : SR w0 w S tv vW f vf F) : SR w0 w.drew S tv vW f vf F := ⟨h.up.drew, h.bS, h.blk, h.fnd⟩
theorem SR.cells {w0 w : World} {S f : Nat} {tv vW vf : Value} {F : List Nr} (h : SR w0 w S tv vW f vf F) : w.cell? ⟨S, 0, none⟩ = some tv ∧ w.cell? ⟨S, 1, none⟩ = some vW ∧ w.cell? ⟨S, 2, none⟩ = some (.int .i64 (f : Int)) ∧ w.cell? ⟨S, 3, none⟩ = some vf ∧ w.frozen? ⟨S, 3, none⟩ = false := by
  refine ⟨?_, ?_, ?_, ?_, ?_⟩
  · rw [cell_of_row w S 0 _ _ _ h.blk]; rfl
  · rw [cell_of_row w S 1 _ _ _ h.blk]; rfl
  · rw [cell_of_row w S 2 _ _ _ h.blk]; rfl
  · rw [cell_of_row w S 3 _ _ _ h.blk]; rfl
  · simp [World.frozen?, h.blk]
theorem SR.S_lt {w0 w : World} {S f : Nat} {tv vW vf : Value} {F : List Nr} (h : SR w0 w S tv vW f vf F) : S < w.heap.size := lt_of_heap h.blk
/-- A row that a search keeps. -/
def RowAt (w : World) (k : Nat) (N : Nat → Int) (F : Nat → Prop) (v : Value) : Prop := ∃ b o c, v = .slice (some ⟨b, o, none⟩) (k + 1) c ∧ Qns.Is w b o (k + 1) N ∧ ¬ F b ∧ b < w.heap.size
theorem is_went {w w' : World} {F F' : Nat → Prop} {b o k : Nat} {N : Nat → Int} (h : Qns.Is w b o k N) (hw : Went w w' F F') (hF : ¬ F b) : Qns.Is w' b o k N := fun j hj => by
  have h1 := h j hj
  exact (World.cell?_of_block (hw.far b (World.block_lt_of_cell? w _ h1) hF)).trans h1
theorem RowAt.went {w w' : World} {F F' : Nat → Prop} {k : Nat} {N : Nat → Int} {v : Value} (h : RowAt w k N F v) (hw : Went w w' F F') : RowAt w' k N F' v := by
  obtain ⟨b, o, c, rfl, h1, h2, h3⟩ := h
  refine ⟨b, o, c, rfl, is_went h1 hw h2, fun hF => ?_, Nat.lt_of_lt_of_le h3 hw.size⟩
  rcases hw.new b hF with h4 | h4
  · exact h2 h4
  · omega
theorem RowAt.stay {w w' : World} {F : Nat → Prop} {k : Nat} {N : Nat → Int} {v : Value} (h : RowAt w k N F v) (hb : Below w.heap.size w w') : RowAt w' k N F v := h.went (Went.of_below hb)
theorem RowAt.form {w : World} {F : Nat → Prop} {k : Nat} {N : Nat → Int} {v : Value} (h : RowAt w k N F v) : ∃ b o c, v = .slice (some ⟨b, o, none⟩) (k + 1) c := by
  obtain ⟨b, o, c, e, _⟩ := h
  exact ⟨b, o, c, e⟩
theorem own_wentF {w w' : World} {F F' : Nat → Prop} {base e size n : Nat} {v : Value} {xs : List Value} (h : w.ownsRow base e size v n xs) (hw : Went w w' F F') (hn : ∀ k, v.ownBlock = some k → ¬ F k) : w'.ownsRow base e size v n xs :=
  own_of_blocks h fun k hk => hw.far k (h.lt k hk).2 (hn k hk)
/-- The row ahead of a beginning's: none at the root. -/
def Ahead (w : World) (W p : List Int) (F : Nat → Prop) (v : Value) : Prop := (p = [] ∧ v = .slice none 0 0) ∨ (p ≠ [] ∧ RowAt w W.length (rowN W (p.take (p.length - 1))) F v)
theorem Ahead.went {w w' : World} {F F' : Nat → Prop} {W p : List Int} {v : Value} (h : Ahead w W p F v) (hw : Went w w' F F') : Ahead w' W p F' v := by
  rcases h with h | ⟨h1, h2⟩
  · exact Or.inl h
  · exact Or.inr ⟨h1, h2.went hw⟩
theorem Ahead.isl {w : World} {F : Nat → Prop} {W p : List Int} {v : Value} (h : Ahead w W p F v) : ∃ m N, Qns.ISl w v m N ∧ m ≤ W.length + 1 ∧ (m = W.length + 1 ↔ 1 ≤ p.length) ∧ (1 ≤ p.length → N = rowN W (p.take (p.length - 1))) := by
  rcases h with ⟨rfl, rfl⟩ | ⟨h1, b, o, c, rfl, h2, _⟩
  · exact ⟨0, fun _ => 0, Or.inl ⟨none, 0, rfl, rfl⟩, by omega, by simp, fun h => by simp at h⟩
  · have : 1 ≤ p.length := by
      cases p with
      | nil => exact absurd rfl h1
      | cons a p => simp
    exact ⟨W.length + 1, _, Or.inr ⟨b, o, c, rfl, h2⟩, by omega, by simp [this], fun _ => rfl⟩
/-- What a search asks of its words. -/
def TrV (w0 : World) (tv : Value) (P : List PN) : Prop := ∀ w, Up w0.heap.size w0 w → ∀ (i : Nat) (n : PN), P[i]? = some n →
  (Calls Tryd.prog 72 #[tv, .int .i64 (i : Int)] w fun e w' => e = .returned (.bool n.e) ∧ Below w.heap.size w w') ∧
  (Calls Tryd.prog 21 #[tv, .int .i64 (i : Int)] w fun e w' => ∃ vr vk, e = .returned (.tuple #[vr, vk]) ∧ w'.ownsRow w.heap.size 21 1 vr n.R.length (n.R.map i32c) ∧ w'.ownsRow w.heap.size 3 1 vk n.K.length (n.K.map i64c) ∧ Below w.heap.size w w')
theorem TrV.of {w0 : World} {base T m : Nat} {vN : Value} {l : List Nd} (h : TrieM w0 base T m vN l) (hok : OkP (l.map Nd.p)) (hl : l.length ≤ 300000) : TrV w0 (.pointer (some ⟨T, 0, none⟩)) (l.map Nd.p) := by
  intro w hu i n hn
  rw [List.getElem?_map] at hn
  cases hd : l[i]? with
  | none => rw [hd] at hn; cases hn
  | some x =>
    rw [hd] at hn
    simp at hn
    subst hn
    have h1 := h.stay hu.1
    have h2 := hok x.p (List.mem_map.2 ⟨x, List.mem_of_getElem? hd, rfl⟩)
    rw [List.length_map] at h2
    exact ⟨ends_any h1 hd (by omega), kids_any h1 hd (by omega) (by omega) (by omega)⟩
theorem TrV.stay {w0 w1 : World} {tv : Value} {P : List PN} (h : TrV w0 tv P) (hu : Up w0.heap.size w0 w1) : TrV w1 tv P := fun w hw => h w (hu.stay hw.1)
theorem infoNr : (Tryd.prog.info? 47).map (fun i => (i.zero, i.size, i.bytes)) = some (some (.agg #[.string ByteArray.empty, .int .i64 0]), 2, 24) := by kernel_rfl
/-- One more is found. -/
theorem SR.put {w0 w w1 : World} {S f : Nat} {tv vW vf : Value} {F : List Nr} (h : SR w0 w S tv vW f vf F) (vb : Value) (x : Nr) {g cap q : Nat} (hq : q = F.length + 1)
    (ho : w1.ownsRow w0.heap.size 47 2 (.slice (some ⟨g, 0, none⟩) q cap) q (nrC F ++ [.string x.s, .int .i64 (x.d : Int)])) (hg : w.grownBy w1 vf.ownBlock) (hgg : vf.ownBlock = some g ∨ w.heap.size ≤ g) :
    SR w0 (w1.setCell ⟨S, 3, none⟩ (.slice (some ⟨g, 0, none⟩) q cap)) S tv vW f (.slice (some ⟨g, 0, none⟩) q cap) (F ++ [x]) ∧ Went w (w1.setCell ⟨S, 3, none⟩ (.slice (some ⟨g, 0, none⟩) q cap)) (FS S vf vb) (FS S (.slice (some ⟨g, 0, none⟩) q cap) vb) := by
  have hS0 := lt_of_heap h.blk
  have hvS : vf.ownBlock ≠ some S := own_blk h.fnd h.blk (by decide)
  have hS1 : w1.heap[S]? = some (.cells #[tv, vW, .int .i64 (f : Int), vf] 112 (0, 0)) := (hg.block S hS0 (fun e => hvS e.symm)).trans h.blk
  have hgS : g ≠ S := fun e => own_blk ho hS1 (by decide) (by rw [e]; rfl)
  have hset : ∀ k, k ≠ S → (w1.setCell ⟨S, 3, none⟩ (.slice (some ⟨g, 0, none⟩) q cap)).heap[k]? = w1.heap[k]? := fun k hk => heap_setCell_other w1 ⟨S, 3, none⟩ k _ (fun e => hk e)
  refine ⟨⟨?_, h.bS, ?_, ?_⟩, ⟨hg.os, hg.tape, hg.output, ?_, fun k hk hF => ?_, fun k hk => ?_⟩⟩
  · exact (h.up.grown hg (own_base h.fnd)).setCell h.bS _
  · exact heap_setCell_same w1 S 3 _ _ _ hS1
  · have e : (F ++ [x]).length = q := by simp [hq]
    rw [e, nrC_app]
    exact own_of_blocks ho (fun k hk => by
      obtain rfl : g = k := Option.some.inj hk
      exact hset g hgS)
  · simpa [World.setCell] using hg.size
  · rw [hset k (fun e => hF (Or.inl e))]
    exact hg.block k hk (fun e => hF (Or.inr (Or.inl e.symm)))
  · rcases hk with hk | hk | hk
    · exact Or.inl (Or.inl hk)
    · obtain rfl : g = k := Option.some.inj hk
      rcases hgg with e | e
      · exact Or.inl (Or.inr (Or.inl e))
      · exact Or.inr e
    · exact Or.inl (Or.inr (Or.inr hk))
/-- The beginning, with a sign behind it. -/
def OnTo (w w1 : World) (vb : Value) (g n cap : Nat) : Prop := (vb = .slice (some ⟨g, 0, none⟩) n cap ∧ w.grownBy w1 (some g)) ∨ (w.heap.size ≤ g ∧ w.grownBy w1 none)
theorem OnTo.grown {w w1 : World} {vb : Value} {g n cap : Nat} (h : OnTo w w1 vb g n cap) : w.grownBy w1 vb.ownBlock ∧ (vb.ownBlock = some g ∨ w.heap.size ≤ g) := by
  rcases h with ⟨rfl, h⟩ | ⟨h1, h⟩
  · exact ⟨h, Or.inl rfl⟩
  · exact ⟨⟨h.os, h.tape, h.output, h.size, fun k hk _ => h.block k hk (by simp)⟩, Or.inr h1⟩
theorem SR.on {w0 w w1 : World} {S f : Nat} {tv vW vf : Value} {F : List Nr} (h : SR w0 w S tv vW f vf F) {vb : Value} {n : Nat} {xs ys : List Value} (hb : w.ownsRow w0.heap.size 21 1 vb n xs) {g cap : Nat} (hg : OnTo w w1 vb g n cap) :
    SR w0 w1 S tv vW f vf F ∧ Went w w1 (FS S vf vb) (FS S vf (.slice (some ⟨g, 0, none⟩) (n + 1) cap)) := by
  obtain ⟨hgr, hgg⟩ := hg.grown
  have hbS : vb.ownBlock ≠ some S := own_blk hb h.blk (by decide)
  have hS1 := (hgr.block S (lt_of_heap h.blk) (fun e => hbS e.symm)).trans h.blk
  refine ⟨⟨h.up.grown hgr (own_base hb), h.bS, hS1, ?_⟩, ⟨hgr.os, hgr.tape, hgr.output, hgr.size, fun k hk hF => ?_, fun k hk => ?_⟩⟩
  · exact own_of_blocks h.fnd (fun k hk => hgr.block k (h.fnd.lt k hk).2 (fun e => own_type h.fnd hb (by decide) k hk e.symm))
  · exact hgr.block k hk (fun e => hF (Or.inr (Or.inr e.symm)))
  · rcases hk with hk | hk | hk
    · exact Or.inl (Or.inl hk)
    · exact Or.inl (Or.inr (Or.inl hk))
    · obtain rfl : g = k := Option.some.inj hk
      rcases hgg with e | e
      · exact Or.inl (Or.inr (Or.inr e))
      · exact Or.inr e
/-- Behind the longer beginning's walk the beginning is as it was. -/
theorem own_back {w0 w w1 w2 : World} {S f : Nat} {tv vW vf vf' : Value} {F : List Nr} (h : SR w0 w S tv vW f vf F) {vb : Value} {n : Nat} {xs : List Value} {x : Value} (hb : w.ownsRow w0.heap.size 21 1 vb n xs) {g cap : Nat} (hg : OnTo w w1 vb g n cap)
    (hw : Went w1 w2 (FS S vf (.slice (some ⟨g, 0, none⟩) (n + 1) cap)) (FS S vf' (.slice (some ⟨g, 0, none⟩) (n + 1) cap))) (ho : w2.ownsRow w0.heap.size 21 1 (.slice (some ⟨g, 0, none⟩) (n + 1) cap) (n + 1) (xs ++ [x])) : w2.ownsRow w0.heap.size 21 1 vb n xs := by
  have hxs : xs.length = n := by have := hb.1; omega
  have hbS : vb.ownBlock ≠ some S := own_blk hb h.blk (by decide)
  rcases hg with ⟨rfl, hg⟩ | ⟨h1, hg⟩
  · exact own_cut ho hxs
  · have hb1 : w1.ownsRow w0.heap.size 21 1 vb n xs := own_of_blocks hb (fun k hk => hg.block k (hb.lt k hk).2 (by simp))
    refine own_wentF hb1 hw (fun k hk hF => ?_)
    rcases hF with e | e | e
    · exact hbS (by rw [← e]; exact hk)
    · exact own_type h.fnd hb (by decide) k e hk
    · obtain rfl : g = k := Option.some.inj e
      have := (hb.lt g hk).2
      omega
theorem went_back {w w2 : World} {S : Nat} {vf vf' vb v' : Value} (h : Went w w2 (FS S vf vb) (FS S vf' v')) : Went w w2 (FS S vf vb) (FS S vf' vb) :=
  ⟨h.os, h.tape, h.output, h.size, h.far, fun k hk => by
    rcases hk with hk | hk | hk
    · exact h.new k (Or.inl hk)
    · exact h.new k (Or.inr (Or.inl hk))
    · exact Or.inl (Or.inr (Or.inr hk))⟩
/-- A row is kept though the beginning's moves. -/
theorem RowAt.on {w w1 : World} {S n g cap k : Nat} {vf vb v : Value} {N : Nat → Int} (h : RowAt w k N (FS S vf vb) v) (hg : OnTo w w1 vb g n cap) : RowAt w1 k N (FS S vf (.slice (some ⟨g, 0, none⟩) (n + 1) cap)) v := by
  obtain ⟨hgr, hgg⟩ := hg.grown
  obtain ⟨b, o, c, rfl, h1, h2, h3⟩ := h
  refine ⟨b, o, c, rfl, fun j hj => ?_, fun hF => ?_, Nat.lt_of_lt_of_le h3 hgr.size⟩
  · have := h1 j hj
    exact (World.cell?_of_block (hgr.block b h3 (fun e => h2 (Or.inr (Or.inr e.symm))))).trans this
  · rcases hF with e | e | e
    · exact h2 (Or.inl e)
    · exact h2 (Or.inr (Or.inl e))
    · obtain rfl : g = b := Option.some.inj e
      rcases hgg with e | e
      · exact h2 (Or.inr (Or.inr e))
      · omega
/-- What a search's blocks are not: a row that was made behind them. -/
theorem SR.new {w0 w : World} {S f : Nat} {tv vW vf : Value} {F : List Nr} (h : SR w0 w S tv vW f vf F) {vb : Value} {n : Nat} {xs : List Value} (hb : w.ownsRow w0.heap.size 21 1 vb n xs) {k : Nat} (hk : w.heap.size ≤ k) : ¬ FS S vf vb k := by
  intro hF
  rcases hF with e | e | e
  · have := lt_of_heap h.blk
    omega
  · have := (h.fnd.lt k e).2
    omega
  · have := (hb.lt k e).2
    omega
/-- What a walk leaves. -/
def WPost (w0 w w' : World) (S : Nat) (tv vW : Value) (f : Nat) (vf vb : Value) (F : List Nr) (p : List Int) : Prop := ∃ vf', SR w0 w' S tv vW f vf' F ∧ w'.ownsRow w0.heap.size 21 1 vb p.length (p.map i32c) ∧ Went w w' (FS S vf vb) (FS S vf' vb)
end Go.Proofs.YtfikkkodepfdkaaDoor
