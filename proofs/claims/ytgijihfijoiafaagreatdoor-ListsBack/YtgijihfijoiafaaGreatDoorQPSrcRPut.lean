/- What lies where a slice points; append of it; parts of lists. -/
import Derived.Test.YtgijihfijoiafaaGreatDoorQPLWalksULWalksW
import Derived.Test.YtgijihfijoiafaaGreatDoorQPLWalksFLLKit
import Derived.Test.YtgijihfijoiafaaGreatDoorQPGFPureGKit
import Derived.Sort.LotA
import Derived.Laws.Cover1
import Derived.Test.YtgijihfijoiafaaGreatDoorQPRRowLRis
namespace Go.Proofs.YtgijihfijoiafaaGreatDoor
set_option linter.unusedVariables false
open Go.RowKit Go.ChangeShapes
/-- These cells lie where a slice points (nil, too). -/
def Srcs (w : World) (v : Value) (m size : Nat) (news : List Value) : Prop := news.length = m * size ∧ ((∃ ad c, v = .slice ad 0 c ∧ m = 0) ∨ ∃ b off c, v = .slice (some ⟨b, off, none⟩) m c ∧ ∀ j u, news[j]? = some u → w.cell? ⟨b, off + j, none⟩ = some u)
theorem Srcs.stay {w w' : World} {v : Value} {m size : Nat} {news : List Value} (h : Srcs w v m size news) (hb : Below w.heap.size w w') : Srcs w' v m size news := by
  obtain ⟨h1, h2 | ⟨b, off, c, rfl, h2⟩⟩ := h
  · exact ⟨h1, Or.inl h2⟩
  · exact ⟨h1, Or.inr ⟨b, off, c, rfl, fun j u hu => (hb.cell (World.block_lt_of_cell? w _ (h2 j u hu))).trans (h2 j u hu)⟩⟩
/-- What is appended elsewhere leaves them. -/
theorem Srcs.grown {w w' : World} {m size g : Nat} {c : Nat} {off : Nat} {news : List Value} {row : Option Nat} (h : Srcs w (.slice (some ⟨g, off, none⟩) m c) m size news) (hg : w.grownBy w' row) (hr : row ≠ some g) : Srcs w' (.slice (some ⟨g, off, none⟩) m c) m size news := by
  obtain ⟨h1, h2 | ⟨b, off', c', he, h2⟩⟩ := h
  · exact ⟨h1, Or.inl h2⟩
  · refine ⟨h1, Or.inr ⟨b, off', c', he, fun j u hu => ?_⟩⟩
    have hc := h2 j u hu
    have hl := World.block_lt_of_cell? w _ hc
    cases he
    exact (World.cell?_of_block (hg.block g hl (fun e => hr e.symm))).trans hc
theorem addr_plus (b off j : Nat) : (⟨b, off, none⟩ : Addr).add j = ⟨b, off + j, none⟩ := by
  unfold Addr.add; split <;> simp_all
theorem app_src_wp {P : Program} {w : World} {o : Oper} {a : Act} {K : Act → World → Prop} {Q : Exit → Act → World → Prop} (s x : Operand) (t : TypeId)
    (ho : o.op = .call { callee := .builtin .append, args := #[s, x], argTypes := #[t, t] })
    (base : Nat) (e : TypeId) (i : TypeInfo) (z : Value) (size bytes : Nat) (ht : P.underlying t = some (.slice e)) (hi : P.info? e = some i) (hz : i.zero = some z)
    (hsize : i.size = size) (hby : i.bytes = bytes) (hzs : z.cells.size = size) (hsz : 0 < size)
    (v : Value) (n : Nat) (xs : List Value) (hs : a.eval s = v) (hown : w.ownsRow base e size v n xs)
    (v2 : Value) (m : Nat) (news : List Value) (hx : a.eval x = v2) (hb : Srcs w v2 m size news) (h1 : ∀ u ∈ news, u.oneCell' = true)
    (h63 : n + m ≤ maxLen) (hbytes : (n + m) * bytes ≤ 140737488355328) (hbase : base ≤ w.heap.size)
    (h : ∀ v' w', w'.ownsRow base e size v' (n + m) (xs ++ news) → w.grownBy w' v.ownBlock → K (a.put o.dst v') w') : o.wp P a w K Q := by
  obtain ⟨hl, ⟨ad, c, rfl, h0⟩ | ⟨g, off, c, rfl, hb⟩⟩ := hb
  · have hnil : news = [] := List.eq_nil_of_length_eq_zero (by rw [hl, h0, Nat.zero_mul])
    cases ad with
    | none =>
      have hrun := Lns.append_none P w base t o.type e i size ht hi v n c xs hown
      unfold Oper.wp
      simp [execOp, ho, resolve, invoke, builtin, hs, hx, hrun, Result.andThen]
      exact h v w (by rw [hnil, List.append_nil, h0]; exact hown) (World.grownBy.refl _ _)
    | some ad =>
      exact wp_append_own w s x t ho base e i z size bytes ht hi hz hsize hby hzs hsz v n xs hs hown ad 0 c [] hx (by simp) (fun j u hj => by simp at hj) (fun u hu => by simp at hu) (by omega) (by rw [h0] at hbytes; exact hbytes) hbase (fun v' w' h2 h3 _ => h v' w' (by rw [hnil, h0]; exact h2) h3)
  · exact wp_append_own w s x t ho base e i z size bytes ht hi hz hsize hby hzs hsz v n xs hs hown ⟨g, off, none⟩ m c _ hx hl (fun j u hu => by rw [addr_plus]; exact hb j u hu) h1 h63 hbytes hbase (fun v' w' h2 h3 _ => h v' w' h2 h3)
theorem app_src {P : Program} {w : World} {ops : Array Oper} {rest : List Oper} {o : Oper} {a : Act} {Q : Exit → Act → World → Prop} (hgd : o.guard = none) (s x : Operand) (t : TypeId)
    (ho : o.op = .call { callee := .builtin .append, args := #[s, x], argTypes := #[t, t] })
    (base : Nat) (e : TypeId) (i : TypeInfo) (z : Value) (size bytes : Nat) (ht : P.underlying t = some (.slice e)) (hi : P.info? e = some i) (hz : i.zero = some z)
    (hsize : i.size = size) (hby : i.bytes = bytes) (hzs : z.cells.size = size) (hsz : 0 < size)
    (v : Value) (n : Nat) (xs : List Value) (hs : a.eval s = v) (hown : w.ownsRow base e size v n xs)
    (v2 : Value) (m : Nat) (news : List Value) (hx : a.eval x = v2) (hb : Srcs w v2 m size news) (h1 : ∀ u ∈ news, u.oneCell' = true)
    (h63 : n + m ≤ maxLen) (hbytes : (n + m) * bytes ≤ 140737488355328) (hbase : base ≤ w.heap.size)
    (h : ∀ v' w', w'.ownsRow base e size v' (n + m) (xs ++ news) → w.grownBy w' v.ownBlock → wpList P ops Q rest (a.put o.dst v') w') : wpList P ops Q (o :: rest) a w :=
  wpList_plain hgd fun K hK => app_src_wp s x t ho base e i z size bytes ht hi hz hsize hby hzs hsz v n xs hs hown v2 m news hx hb h1 h63 hbytes hbase (fun v' w' h2 h3 => hK _ _ (h v' w' h2 h3))
theorem srcs_own {w : World} {base e size n : Nat} {v : Value} {xs : List Value} (h : w.ownsRow base e size v n xs) : Srcs w v n size xs := by
  have hc := @World.ownsRow.cells _ _ _ _ _ _ _ h
  obtain ⟨hl, ⟨rfl, rfl⟩ | ⟨g, cap, cur, rfl, hg, hh, h3⟩⟩ := h
  · exact ⟨hl, Or.inl ⟨none, 0, rfl, rfl⟩⟩
  · exact ⟨hl, Or.inr ⟨g, 0, cap, rfl, fun j u hu => by have := hc rfl j u hu; rw [addr_plus] at this; exact this⟩⟩
theorem srcs_new (w : World) (cs : Array Value) (t : TypeId) (m size c : Nat) (h : cs.toList.length = m * size) : Srcs (w.alloc (.cells cs t)) (.slice (some ⟨w.heap.size, 0, none⟩) m c) m size cs.toList := by
  refine ⟨h, Or.inr ⟨w.heap.size, 0, c, rfl, fun j u hu => ?_⟩⟩
  have hb : (w.alloc (.cells cs t)).heap[w.heap.size]? = some (.cells cs t (0, 0)) := Array.getElem?_push_size
  have := Go.World.news_of_block hb j u hu
  rw [addr_plus] at this
  exact this
theorem str_one (L : List ByteArray) : ∀ u ∈ L.map Value.string, u.oneCell' = true := by
  intro u hu
  obtain ⟨x, _, rfl⟩ := List.mem_map.1 hu
  rfl
/-- A part of a list that lies in memory. -/
theorem srcs_part {w : World} {g i m c : Nat} {L M : List ByteArray} (h : ∀ j, (hj : j < L.length) → w.cell? ⟨g, j, none⟩ = some (.string L[j])) (hm : M.length = m) (hM : ∀ j x, M[j]? = some x → L[i + j]? = some x) : Srcs w (.slice (some ⟨g, i, none⟩) m c) m 1 (M.map Value.string) := by
  refine ⟨by simp [hm], Or.inr ⟨g, i, c, rfl, fun j u hu => ?_⟩⟩
  rw [List.getElem?_map] at hu
  cases hx : M[j]? with
  | none => rw [hx] at hu; cases hu
  | some x =>
    rw [hx] at hu
    cases hu
    obtain ⟨h1, h2⟩ := List.getElem?_eq_some_iff.1 (hM j x hx)
    rw [h (i + j) h1, h2]
theorem own_cells {w : World} {base n g cap : Nat} {L : List ByteArray} (h : w.ownsRow base 9 1 (.slice (some ⟨g, 0, none⟩) n cap) n (L.map Value.string)) : ∀ j, (hj : j < L.length) → w.cell? ⟨g, j, none⟩ = some (.string L[j]) := fun j hj => by
  have hl : n = L.length := by have := h.1; simp at this; omega
  rw [h.cellAt j (by omega)]
  simp [hj]
end Go.Proofs.YtgijihfijoiafaaGreatDoor
/- The reference's put. -/
namespace Go.Proofs.YtgijihfijoiafaaGreatDoor
set_option linter.unusedVariables false
open Go.RowKit Go.ChangeShapes
theorem lw_less (x s : ByteArray) : Op.bytesLess x.toList s.toList = lw x s := by
  rw [Lib.toList_data, Lib.toList_data, bytesLess_eq]
  rfl
theorem take_while {p : ByteArray → Bool} : ∀ (L : List ByteArray) (i : Nat), (∀ j, (hj : j < L.length) → j < i → p L[j] = true) → i ≤ L.length → (∀ hi : i < L.length, p L[i] = false) → L.takeWhile p = L.take i ∧ L.dropWhile p = L.drop i
  | [], i, _, hi, _ => by simp at hi; subst hi; simp
  | a :: L, 0, _, _, h2 => by
    have := h2 (by simp)
    simp at this
    simp [this]
  | a :: L, i + 1, h1, hi, h2 => by
    have h0 := h1 0 (by simp) (by omega)
    simp at h0
    obtain ⟨e1, e2⟩ := take_while L i (fun j hj hl => h1 (j + 1) (by simpa using hj) (by omega)) (by simpa using hi) (fun hl => h2 (by simpa using hl))
    simp [h0, e1, e2]
theorem put_split (L : List ByteArray) (s : ByteArray) (i : Nat) (h1 : ∀ j, (hj : j < L.length) → j < i → lw L[j] s = true) (hi : i ≤ L.length) (h2 : ∀ hi : i < L.length, lw L[i] s = false) : putK id L s = L.take i ++ s :: L.drop i := by
  obtain ⟨e1, e2⟩ := take_while (p := fun x => lw x s) L i h1 hi h2
  unfold putK
  show List.takeWhile (fun x => lw x s) L ++ s :: List.dropWhile (fun x => lw x s) L = _
  rw [e1, e2]
set_option maxRecDepth 100000 in
set_option maxHeartbeats 1000000 in
theorem rput_some (L : List ByteArray) (s : ByteArray) (g cap : Nat) (w : World) (hn : L.length ≤ 5000) (hcap : L.length ≤ cap) (hgw : g < w.heap.size) (h : ∀ j, (hj : j < L.length) → w.cell? ⟨g, j, none⟩ = some (.string L[j])) :
    Calls Tryz.prog 37 #[.slice (some ⟨g, 0, none⟩) L.length cap, .string s] w fun e w' => ∃ u, e = .returned u ∧ w'.ownsRow w.heap.size 9 1 u (L.length + 1) ((putK id L s).map Value.string) ∧ Below w.heap.size w w' := by
  have HC : Hid (∀ j, (hj : j < L.length) → w.cell? ⟨g, j, none⟩ = some (.string L[j])) := h
  obtain ⟨i0, hi, hz0, hz1, hz2⟩ := info_parts Lns.info9
  obtain ⟨P, hP⟩ : ∃ P, putK id L s = P := ⟨_, rfl⟩
  rw [hP]
  have HP : Hid (putK id L s = P) := hP
  obtain ⟨n, hnn⟩ : ∃ n, L.length = n := ⟨_, rfl⟩
  have HL : Hid (L.length = n) := hnn
  rw [hnn] at hn hcap ⊢
  clear h hP hnn
  go_enter Tryz.func37, Tryz.ntmps37
  go_wp2
  go_loopg [5] (n) (fun gh iv wr => ∃ i : Nat, i ≤ n ∧ gh = n - i ∧ iv = .int .i64 i ∧ wr = w ∧ Hid (∀ j, (hj : j < L.length) → j < i → lw L[j] s = true))
  case atStart => exact ⟨0, Nat.zero_le _, rfl, rfl, rfl, fun j _ hj => absurd hj (Nat.not_lt_zero j)⟩
  case round =>
    obtain ⟨i, hin, hg, rfl, hw, HJ⟩ := hrel
    subst wr
    have hlen := HL.out
    by_cases hgo : ∃ hlt : i < L.length, lw L[i] s = true
    · obtain ⟨hlt, hq⟩ := hgo
      have z0 : (0 : Int) ≤ (i : Int) := by omega
      have z1 : (i : Int) < (n : Int) := by omega
      have hc := HC.out i hlt
      have HJ2 : Hid (∀ j, (hj : j < L.length) → j < i + 1 → lw L[j] s = true) := fun j hj hl => by
        rcases Nat.lt_succ_iff_lt_or_eq.1 hl with h | h
        · exact HJ.out j hj h
        · subst h; exact hq
      rw [← lw_less] at hq
      generalize L[i] = x at hc hq
      have hin2 : i < n := by omega
      clear hlen hlt
      go_wp2
      go_roundg (n - (i + 1))
      case measure => omega
      case rel => exact ⟨i + 1, by omega, rfl, by go_num, rfl, HJ2⟩
    · have HP2 : Hid (P = L.take i ++ s :: L.drop i) := by
        show _ = _
        rw [← HP.out]
        exact put_split L s i HJ.out (by omega) (fun hi => by cases hc : lw L[i] s with
          | false => rfl
          | true => exact absurd ⟨hi, hc⟩ hgo)
      have z0 : (0 : Int) ≤ (i : Int) := by omega
      have z1 : (i : Int) ≤ (n : Int) := by omega
      have z2 : (i : Int) ≤ (cap : Int) := by omega
      have z3 : (n : Int) ≤ (cap : Int) := by omega
      have HSA : ∀ c, Hid (Srcs w (.slice (some ⟨g, 0, none⟩) i c) i 1 ((L.take i).map Value.string)) := fun c => srcs_part HC.out (by simp; omega) (fun j x hx => by
        rw [Nat.zero_add]
        rw [List.getElem?_take] at hx
        split at hx
        · exact hx
        · cases hx)
      have HSB : ∀ c, Hid (Srcs w (.slice (if cap = i then some ⟨g, 0, none⟩ else some ⟨g, i, none⟩) (n - i) c) (n - i) 1 ((L.drop i).map Value.string)) := fun c => by
        show Srcs _ _ _ _ _
        split
        · exact ⟨by simp; omega, Or.inl ⟨_, c, by rw [show n - i = 0 by omega], by omega⟩⟩
        · exact srcs_part HC.out (by simp; omega) (fun j x hx => by rw [List.getElem?_drop] at hx; exact hx)
      clear HP
      by_cases hlt : i < n
      · have hlt' : (i : Int) < (n : Int) := by omega
        have hc := HC.out i (by omega)
        have hq : lw L[i] s = false := by
          cases hc : lw L[i] s with
          | false => rfl
          | true => exact absurd ⟨by omega, hc⟩ hgo
        rw [← lw_less] at hq
        generalize L[i] = x at hc hq
        clear hgo hlen
        go_wp2_with fail
        refine wp_region_held_drew (S := fun w' => Up w.heap.size w w') (by kernel_rfl) (Lns.Up.drew (Up.refl w)) (fun hHeld => ?_)
        (try dsimp only at hHeld)
        obtain ⟨x0, hx0⟩ : ∃ x0, w.drew = x0 := ⟨_, rfl⟩
        rw [hx0] at hHeld ⊢
        clear hx0
        refine Lns.takeH (i := 1) (v := ?_) (d := (some 21)) rfl (by kernel_rfl) (by kernel_rfl) (by kernel_rfl) rfl (fun _ _ _ h => h) (Or.inl ⟨by kernel_rfl, ?_⟩) (by assumption) ?_; rotate_left
        · (intro w hSw; (try dsimp only at hSw); first | (go_simp; done) | (go_simp; with_reducible rfl))
        (try simp only [Act.put, List.setIfInBounds_toArray, List.set_cons_zero, List.set_cons_succ])
        refine Lns.takeH (i := 2) (v := ?_) (d := (some 22)) rfl (by kernel_rfl) (by kernel_rfl) (by kernel_rfl) rfl (fun _ _ _ h => h) (Or.inl ⟨by kernel_rfl, ?_⟩) (by assumption) ?_; rotate_left
        · (intro w hSw; (try dsimp only at hSw); first | (go_simp; done) | (go_simp; with_reducible rfl))
        (try simp only [Act.put, List.setIfInBounds_toArray, List.set_cons_zero, List.set_cons_succ])
        refine Lns.takeH (i := 3) (v := ?_) (d := (some 23)) rfl (by kernel_rfl) (by kernel_rfl) (by kernel_rfl) rfl (fun _ _ _ h => h) (Or.inl ⟨by kernel_rfl, ?_⟩) (by assumption) ?_; rotate_left
        · (intro w hSw; (try dsimp only at hSw); first | (go_simp; done) | (go_simp; with_reducible rfl))
        (try simp only [Act.put, List.setIfInBounds_toArray, List.set_cons_zero, List.set_cons_succ])
        refine Lns.takeH (i := 5) (v := ?_) (d := (some 25)) rfl (by kernel_rfl) (by kernel_rfl) (by kernel_rfl) rfl (fun _ _ _ h => h) (Or.inl ⟨by kernel_rfl, ?_⟩) (by assumption) ?_; rotate_left
        · (intro w hSw; (try dsimp only at hSw); first | (go_simp; done) | (go_simp; with_reducible rfl))
        (try simp only [Act.put, List.setIfInBounds_toArray, List.set_cons_zero, List.set_cons_succ])
        refine Lns.takeH (i := 8) (v := ?_) (d := (some 28)) rfl (by kernel_rfl) (by kernel_rfl) (by kernel_rfl) rfl (fun _ _ _ h => h) (Or.inl ⟨by kernel_rfl, ?_⟩) (by assumption) ?_; rotate_left
        · (intro w hSw; (try dsimp only at hSw); first | (go_simp; done) | (go_simp; with_reducible rfl))
        (try simp only [Act.put, List.setIfInBounds_toArray, List.set_cons_zero, List.set_cons_succ])
        refine Lns.takeH (i := 9) (v := ?_) (d := (some 29)) rfl (by kernel_rfl) (by kernel_rfl) (by kernel_rfl) rfl (fun _ _ _ h => h) (Or.inl ⟨by kernel_rfl, ?_⟩) (by assumption) ?_; rotate_left
        · (intro w hSw; (try dsimp only at hSw); first | (go_simp; done) | (go_simp; with_reducible rfl))
        (try simp only [Act.put, List.setIfInBounds_toArray, List.set_cons_zero, List.set_cons_succ])
        refine Lns.takeH (i := 10) (v := ?_) (d := (some 30)) rfl (by kernel_rfl) (by kernel_rfl) (by kernel_rfl) rfl (fun _ _ _ h => h) (Or.inl ⟨by kernel_rfl, ?_⟩) (by assumption) ?_; rotate_left
        · (intro w hSw; (try dsimp only at hSw); first | (go_simp; done) | (go_simp; with_reducible rfl))
        (try simp only [Act.put, List.setIfInBounds_toArray, List.set_cons_zero, List.set_cons_succ])
        refine wpAnyH_ready (rs := [0, 6]) (by kernel_rfl) (by simp) (AllReadyH.cons rfl (fun K hK => ?_) (AllReadyH.cons rfl (fun K hK => ?_) AllReadyH.nil))
        · rw [if_pos (by kernel_rfl)]
          go_simp
          have O20 : Hid ((x0.alloc (.cells #[] 9)).ownsRow w.heap.size 9 1 (.slice (some ⟨x0.heap.size, 0, none⟩) 0 0) 0 []) := World.ownsRow_lit x0 #[] 0 hHeld.2 (Nat.zero_le _) rfl
          refine hK.out _ _ (hHeld.alloc _ : Up w.heap.size w _) (fun hHeld => ?_)
          clear hK K
          (try dsimp only at hHeld)
          (try simp only [Act.put, List.setIfInBounds_toArray, List.set_cons_zero, List.set_cons_succ])
          obtain ⟨x1, hx1⟩ : ∃ x1, x0.alloc (.cells #[] 9) = x1 := ⟨_, rfl⟩
          rw [hx1] at hHeld O20 ⊢
          refine wpAnyH_ready (rs := [4, 6]) (by kernel_rfl) (by simp) (AllReadyH.cons rfl (fun K hK => ?_) (AllReadyH.cons rfl (fun K hK => ?_) AllReadyH.nil))
          · rw [if_pos (by kernel_rfl)]
            refine app_src_wp (.tmp 20) (.tmp 23) 28 rfl w.heap.size 9 i0 _ 1 16 Tryz.underlying28 hi hz0 hz1 hz2 rfl (by decide) _ _ _ rfl O20.out _ _ _ rfl ((HSA _).out.stay hHeld.1) (str_one _) (by unfold maxLen; omega) (by omega) hHeld.2 ?_
            intro v24 x2 ho24 hg24
            change K (Act.put _ (some 24) _) _
            have O24 : Hid (x2.ownsRow w.heap.size 9 1 v24 (0 + i) ([] ++ (L.take i).map Value.string)) := ho24
            have hu24 : Up w.heap.size w x2 := hHeld.grown hg24 (own_base O20.out)
            clear ho24 hg24 O20
            refine hK.out _ _ (hu24 : Up w.heap.size w _) (fun hHeld => ?_)
            clear hK K
            (try dsimp only at hHeld)
            (try simp only [Act.put, List.setIfInBounds_toArray, List.set_cons_zero, List.set_cons_succ])
            clear hu24
            refine wpAnyH_ready (rs := [6]) (by kernel_rfl) (by simp) (AllReadyH.cons rfl (fun K hK => ?_) AllReadyH.nil)
            rw [if_pos (by kernel_rfl)]
            go_simp
            have S26 : Hid (Srcs (x2.alloc (.cells #[.string s] 9)) (.slice (some ⟨x2.heap.size, 0, none⟩) 1 1) 1 1 [.string s]) := srcs_new x2 #[.string s] 9 1 1 1 rfl
            have O24' := O24.out.alloc (.cells #[.string s] 9)
            clear O24
            have O24 : Hid (World.ownsRow _ _ _ _ _ _ _) := O24'
            clear O24'
            refine hK.out _ _ (hHeld.alloc _ : Up w.heap.size w _) (fun hHeld => ?_)
            clear hK K
            (try dsimp only at hHeld)
            (try simp only [Act.put, List.setIfInBounds_toArray, List.set_cons_zero, List.set_cons_succ])
            obtain ⟨x3, hx3⟩ : ∃ x3, x2.alloc (.cells #[.string s] 9) = x3 := ⟨_, rfl⟩
            rw [hx3] at hHeld O24 S26 ⊢
            refine wpAnyH_ready (rs := [7]) (by kernel_rfl) (by simp) (AllReadyH.cons rfl (fun K hK => ?_) AllReadyH.nil)
            rw [if_pos (by kernel_rfl)]
            refine app_src_wp (.tmp 24) (.tmp 26) 28 rfl w.heap.size 9 i0 _ 1 16 Tryz.underlying28 hi hz0 hz1 hz2 rfl (by decide) _ _ _ rfl O24.out _ _ _ rfl S26.out (Lns.one_one _ rfl) (by unfold maxLen; omega) (by omega) hHeld.2 ?_
            intro v27 y1 ho27 hg27
            change K (Act.put _ (some 27) _) _
            have O27 : Hid (y1.ownsRow w.heap.size 9 1 v27 (0 + i + 1) ([] ++ (L.take i).map Value.string ++ [.string s])) := ho27
            have hu27 : Up w.heap.size w y1 := hHeld.grown hg27 (own_base O24.out)
            clear ho27 hg27 O24 S26
            refine hK.out _ _ (hu27 : Up w.heap.size w _) (fun hHeld => ?_)
            clear hK K
            (try dsimp only at hHeld)
            (try simp only [Act.put, List.setIfInBounds_toArray, List.set_cons_zero, List.set_cons_succ])
            clear hu27
            refine wpAnyH_ready (rs := [11]) (by kernel_rfl) (by simp) (AllReadyH.cons rfl (fun K hK => ?_) AllReadyH.nil)
            rw [if_pos (by kernel_rfl)]
            refine app_src_wp (.tmp 27) (.tmp 30) 28 rfl w.heap.size 9 i0 _ 1 16 Tryz.underlying28 hi hz0 hz1 hz2 rfl (by decide) _ _ _ rfl O27.out _ _ _ rfl ((HSB _).out.stay hHeld.1) (str_one _) (by unfold maxLen; omega) (by omega) hHeld.2 ?_
            intro v31 y2 ho31 hg31
            change K (Act.put _ (some 31) _) _
            have O31 : Hid (y2.ownsRow w.heap.size 9 1 v31 (0 + i + 1 + (n - i)) ([] ++ (L.take i).map Value.string ++ [.string s] ++ (L.drop i).map Value.string)) := ho31
            have hu31 : Up w.heap.size w y2 := hHeld.grown hg31 (own_base O27.out)
            clear ho31 hg31 O27
            refine hK.out _ _ (hu31 : Up w.heap.size w _) (fun hHeld => ?_)
            clear hK K
            (try dsimp only at hHeld)
            (try simp only [Act.put, List.setIfInBounds_toArray, List.set_cons_zero, List.set_cons_succ])
            clear hu31
            refine Lns.takeH (i := 12) (v := ?_) (d := (some 4)) rfl (by kernel_rfl) (by kernel_rfl) (by kernel_rfl) rfl (fun _ _ _ h => h) (Or.inl ⟨by kernel_rfl, ?_⟩) (by assumption) ?_; rotate_left
            · (intro w hSw; (try dsimp only at hSw); first | (go_simp; done) | (go_simp; with_reducible rfl))
            (try simp only [Act.put, List.setIfInBounds_toArray, List.set_cons_zero, List.set_cons_succ])
            refine wpAnyH_done (by kernel_rfl) ?_ _
            have HU9 : Hid (Up w.heap.size w y2) := hHeld
            clear hHeld
            have HO3 : Hid (y2.ownsRow w.heap.size 9 1 v31 (n + 1) (P.map Value.string)) := by
              show y2.ownsRow _ _ _ _ _ _
              have hown3 := O31.out
              have e : 0 + i + 1 + (n - i) = n + 1 := by omega
              rw [e] at hown3
              rw [HP2.out, List.map_append, List.map_cons]
              simpa using hown3
            clear O31
            go_wp2
            all_goals
              go_ret
              exact ⟨v31, rfl, HO3.out, HU9.out.1⟩
          · rw [if_pos (by kernel_rfl)]
            go_simp
            have S26 : Hid (Srcs (x1.alloc (.cells #[.string s] 9)) (.slice (some ⟨x1.heap.size, 0, none⟩) 1 1) 1 1 [.string s]) := srcs_new x1 #[.string s] 9 1 1 1 rfl
            have O20' := O20.out.alloc (.cells #[.string s] 9)
            clear O20
            have O20 : Hid (World.ownsRow _ _ _ _ _ _ _) := O20'
            clear O20'
            have hne : x0.heap.size < x1.heap.size := by rw [← hx1]; simp
            refine hK.out _ _ (hHeld.alloc _ : Up w.heap.size w _) (fun hHeld => ?_)
            clear hK K
            (try dsimp only at hHeld)
            (try simp only [Act.put, List.setIfInBounds_toArray, List.set_cons_zero, List.set_cons_succ])
            obtain ⟨x2, hx2⟩ : ∃ x2, x1.alloc (.cells #[.string s] 9) = x2 := ⟨_, rfl⟩
            rw [hx2] at hHeld O20 S26 ⊢
            refine wpAnyH_ready (rs := [4]) (by kernel_rfl) (by simp) (AllReadyH.cons rfl (fun K hK => ?_) AllReadyH.nil)
            rw [if_pos (by kernel_rfl)]
            refine app_src_wp (.tmp 20) (.tmp 23) 28 rfl w.heap.size 9 i0 _ 1 16 Tryz.underlying28 hi hz0 hz1 hz2 rfl (by decide) _ _ _ rfl O20.out _ _ _ rfl ((HSA _).out.stay hHeld.1) (str_one _) (by unfold maxLen; omega) (by omega) hHeld.2 ?_
            intro v24 x3 ho24 hg24
            change K (Act.put _ (some 24) _) _
            have O24 : Hid (x3.ownsRow w.heap.size 9 1 v24 (0 + i) ([] ++ (L.take i).map Value.string)) := ho24
            have S26' := S26.out.grown hg24 (fun e => by have e' : some x0.heap.size = some x1.heap.size := e; injection e' with e'; omega)
            clear S26
            have S26 : Hid (Srcs _ _ _ _ _) := S26'
            clear S26'
            have hu24 : Up w.heap.size w x3 := hHeld.grown hg24 (own_base O20.out)
            clear ho24 hg24 O20
            refine hK.out _ _ (hu24 : Up w.heap.size w _) (fun hHeld => ?_)
            clear hK K
            (try dsimp only at hHeld)
            (try simp only [Act.put, List.setIfInBounds_toArray, List.set_cons_zero, List.set_cons_succ])
            clear hu24
            refine wpAnyH_ready (rs := [7]) (by kernel_rfl) (by simp) (AllReadyH.cons rfl (fun K hK => ?_) AllReadyH.nil)
            rw [if_pos (by kernel_rfl)]
            refine app_src_wp (.tmp 24) (.tmp 26) 28 rfl w.heap.size 9 i0 _ 1 16 Tryz.underlying28 hi hz0 hz1 hz2 rfl (by decide) _ _ _ rfl O24.out _ _ _ rfl S26.out (Lns.one_one _ rfl) (by unfold maxLen; omega) (by omega) hHeld.2 ?_
            intro v27 y1 ho27 hg27
            change K (Act.put _ (some 27) _) _
            have O27 : Hid (y1.ownsRow w.heap.size 9 1 v27 (0 + i + 1) ([] ++ (L.take i).map Value.string ++ [.string s])) := ho27
            have hu27 : Up w.heap.size w y1 := hHeld.grown hg27 (own_base O24.out)
            clear ho27 hg27 O24 S26
            refine hK.out _ _ (hu27 : Up w.heap.size w _) (fun hHeld => ?_)
            clear hK K
            (try dsimp only at hHeld)
            (try simp only [Act.put, List.setIfInBounds_toArray, List.set_cons_zero, List.set_cons_succ])
            clear hu27
            refine wpAnyH_ready (rs := [11]) (by kernel_rfl) (by simp) (AllReadyH.cons rfl (fun K hK => ?_) AllReadyH.nil)
            rw [if_pos (by kernel_rfl)]
            refine app_src_wp (.tmp 27) (.tmp 30) 28 rfl w.heap.size 9 i0 _ 1 16 Tryz.underlying28 hi hz0 hz1 hz2 rfl (by decide) _ _ _ rfl O27.out _ _ _ rfl ((HSB _).out.stay hHeld.1) (str_one _) (by unfold maxLen; omega) (by omega) hHeld.2 ?_
            intro v31 y2 ho31 hg31
            change K (Act.put _ (some 31) _) _
            have O31 : Hid (y2.ownsRow w.heap.size 9 1 v31 (0 + i + 1 + (n - i)) ([] ++ (L.take i).map Value.string ++ [.string s] ++ (L.drop i).map Value.string)) := ho31
            have hu31 : Up w.heap.size w y2 := hHeld.grown hg31 (own_base O27.out)
            clear ho31 hg31 O27
            refine hK.out _ _ (hu31 : Up w.heap.size w _) (fun hHeld => ?_)
            clear hK K
            (try dsimp only at hHeld)
            (try simp only [Act.put, List.setIfInBounds_toArray, List.set_cons_zero, List.set_cons_succ])
            clear hu31
            refine Lns.takeH (i := 12) (v := ?_) (d := (some 4)) rfl (by kernel_rfl) (by kernel_rfl) (by kernel_rfl) rfl (fun _ _ _ h => h) (Or.inl ⟨by kernel_rfl, ?_⟩) (by assumption) ?_; rotate_left
            · (intro w hSw; (try dsimp only at hSw); first | (go_simp; done) | (go_simp; with_reducible rfl))
            (try simp only [Act.put, List.setIfInBounds_toArray, List.set_cons_zero, List.set_cons_succ])
            refine wpAnyH_done (by kernel_rfl) ?_ _
            have HU9 : Hid (Up w.heap.size w y2) := hHeld
            clear hHeld
            have HO3 : Hid (y2.ownsRow w.heap.size 9 1 v31 (n + 1) (P.map Value.string)) := by
              show y2.ownsRow _ _ _ _ _ _
              have hown3 := O31.out
              have e : 0 + i + 1 + (n - i) = n + 1 := by omega
              rw [e] at hown3
              rw [HP2.out, List.map_append, List.map_cons]
              simpa using hown3
            clear O31
            go_wp2
            all_goals
              go_ret
              exact ⟨v31, rfl, HO3.out, HU9.out.1⟩
        · rw [if_pos (by kernel_rfl)]
          go_simp
          have S26 : Hid (Srcs (x0.alloc (.cells #[.string s] 9)) (.slice (some ⟨x0.heap.size, 0, none⟩) 1 1) 1 1 [.string s]) := srcs_new x0 #[.string s] 9 1 1 1 rfl
          refine hK.out _ _ (hHeld.alloc _ : Up w.heap.size w _) (fun hHeld => ?_)
          clear hK K
          (try dsimp only at hHeld)
          (try simp only [Act.put, List.setIfInBounds_toArray, List.set_cons_zero, List.set_cons_succ])
          obtain ⟨x1, hx1⟩ : ∃ x1, x0.alloc (.cells #[.string s] 9) = x1 := ⟨_, rfl⟩
          rw [hx1] at hHeld S26 ⊢
          refine wpAnyH_ready (rs := [0]) (by kernel_rfl) (by simp) (AllReadyH.cons rfl (fun K hK => ?_) AllReadyH.nil)
          rw [if_pos (by kernel_rfl)]
          go_simp
          have O20 : Hid ((x1.alloc (.cells #[] 9)).ownsRow w.heap.size 9 1 (.slice (some ⟨x1.heap.size, 0, none⟩) 0 0) 0 []) := World.ownsRow_lit x1 #[] 0 hHeld.2 (Nat.zero_le _) rfl
          have S26' := S26.out.stay ((Below.refl _ _).alloc (Nat.le_refl _) (.cells #[] 9))
          clear S26
          have S26 : Hid (Srcs _ _ _ _ _) := S26'
          clear S26'
          have hne : x0.heap.size < x1.heap.size := by rw [← hx1]; simp
          refine hK.out _ _ (hHeld.alloc _ : Up w.heap.size w _) (fun hHeld => ?_)
          clear hK K
          (try dsimp only at hHeld)
          (try simp only [Act.put, List.setIfInBounds_toArray, List.set_cons_zero, List.set_cons_succ])
          obtain ⟨x2, hx2⟩ : ∃ x2, x1.alloc (.cells #[] 9) = x2 := ⟨_, rfl⟩
          rw [hx2] at hHeld O20 S26 ⊢
          refine wpAnyH_ready (rs := [4]) (by kernel_rfl) (by simp) (AllReadyH.cons rfl (fun K hK => ?_) AllReadyH.nil)
          rw [if_pos (by kernel_rfl)]
          refine app_src_wp (.tmp 20) (.tmp 23) 28 rfl w.heap.size 9 i0 _ 1 16 Tryz.underlying28 hi hz0 hz1 hz2 rfl (by decide) _ _ _ rfl O20.out _ _ _ rfl ((HSA _).out.stay hHeld.1) (str_one _) (by unfold maxLen; omega) (by omega) hHeld.2 ?_
          intro v24 x3 ho24 hg24
          change K (Act.put _ (some 24) _) _
          have O24 : Hid (x3.ownsRow w.heap.size 9 1 v24 (0 + i) ([] ++ (L.take i).map Value.string)) := ho24
          have S26' := S26.out.grown hg24 (fun e => by have e' : some x1.heap.size = some x0.heap.size := e; injection e' with e'; omega)
          clear S26
          have S26 : Hid (Srcs _ _ _ _ _) := S26'
          clear S26'
          have hu24 : Up w.heap.size w x3 := hHeld.grown hg24 (own_base O20.out)
          clear ho24 hg24 O20
          refine hK.out _ _ (hu24 : Up w.heap.size w _) (fun hHeld => ?_)
          clear hK K
          (try dsimp only at hHeld)
          (try simp only [Act.put, List.setIfInBounds_toArray, List.set_cons_zero, List.set_cons_succ])
          clear hu24
          refine wpAnyH_ready (rs := [7]) (by kernel_rfl) (by simp) (AllReadyH.cons rfl (fun K hK => ?_) AllReadyH.nil)
          rw [if_pos (by kernel_rfl)]
          refine app_src_wp (.tmp 24) (.tmp 26) 28 rfl w.heap.size 9 i0 _ 1 16 Tryz.underlying28 hi hz0 hz1 hz2 rfl (by decide) _ _ _ rfl O24.out _ _ _ rfl S26.out (Lns.one_one _ rfl) (by unfold maxLen; omega) (by omega) hHeld.2 ?_
          intro v27 y1 ho27 hg27
          change K (Act.put _ (some 27) _) _
          have O27 : Hid (y1.ownsRow w.heap.size 9 1 v27 (0 + i + 1) ([] ++ (L.take i).map Value.string ++ [.string s])) := ho27
          have hu27 : Up w.heap.size w y1 := hHeld.grown hg27 (own_base O24.out)
          clear ho27 hg27 O24 S26
          refine hK.out _ _ (hu27 : Up w.heap.size w _) (fun hHeld => ?_)
          clear hK K
          (try dsimp only at hHeld)
          (try simp only [Act.put, List.setIfInBounds_toArray, List.set_cons_zero, List.set_cons_succ])
          clear hu27
          refine wpAnyH_ready (rs := [11]) (by kernel_rfl) (by simp) (AllReadyH.cons rfl (fun K hK => ?_) AllReadyH.nil)
          rw [if_pos (by kernel_rfl)]
          refine app_src_wp (.tmp 27) (.tmp 30) 28 rfl w.heap.size 9 i0 _ 1 16 Tryz.underlying28 hi hz0 hz1 hz2 rfl (by decide) _ _ _ rfl O27.out _ _ _ rfl ((HSB _).out.stay hHeld.1) (str_one _) (by unfold maxLen; omega) (by omega) hHeld.2 ?_
          intro v31 y2 ho31 hg31
          change K (Act.put _ (some 31) _) _
          have O31 : Hid (y2.ownsRow w.heap.size 9 1 v31 (0 + i + 1 + (n - i)) ([] ++ (L.take i).map Value.string ++ [.string s] ++ (L.drop i).map Value.string)) := ho31
          have hu31 : Up w.heap.size w y2 := hHeld.grown hg31 (own_base O27.out)
          clear ho31 hg31 O27
          refine hK.out _ _ (hu31 : Up w.heap.size w _) (fun hHeld => ?_)
          clear hK K
          (try dsimp only at hHeld)
          (try simp only [Act.put, List.setIfInBounds_toArray, List.set_cons_zero, List.set_cons_succ])
          clear hu31
          refine Lns.takeH (i := 12) (v := ?_) (d := (some 4)) rfl (by kernel_rfl) (by kernel_rfl) (by kernel_rfl) rfl (fun _ _ _ h => h) (Or.inl ⟨by kernel_rfl, ?_⟩) (by assumption) ?_; rotate_left
          · (intro w hSw; (try dsimp only at hSw); first | (go_simp; done) | (go_simp; with_reducible rfl))
          (try simp only [Act.put, List.setIfInBounds_toArray, List.set_cons_zero, List.set_cons_succ])
          refine wpAnyH_done (by kernel_rfl) ?_ _
          have HU9 : Hid (Up w.heap.size w y2) := hHeld
          clear hHeld
          have HO3 : Hid (y2.ownsRow w.heap.size 9 1 v31 (n + 1) (P.map Value.string)) := by
            show y2.ownsRow _ _ _ _ _ _
            have hown3 := O31.out
            have e : 0 + i + 1 + (n - i) = n + 1 := by omega
            rw [e] at hown3
            rw [HP2.out, List.map_append, List.map_cons]
            simpa using hown3
          clear O31
          go_wp2
          all_goals
            go_ret
            exact ⟨v31, rfl, HO3.out, HU9.out.1⟩
      · have hlt' : ¬ (i : Int) < (n : Int) := by omega
        clear hgo hlen
        go_wp2_with fail
        refine wp_region_held_drew (S := fun w' => Up w.heap.size w w') (by kernel_rfl) (Lns.Up.drew (Up.refl w)) (fun hHeld => ?_)
        (try dsimp only at hHeld)
        obtain ⟨x0, hx0⟩ : ∃ x0, w.drew = x0 := ⟨_, rfl⟩
        rw [hx0] at hHeld ⊢
        clear hx0
        refine Lns.takeH (i := 1) (v := ?_) (d := (some 21)) rfl (by kernel_rfl) (by kernel_rfl) (by kernel_rfl) rfl (fun _ _ _ h => h) (Or.inl ⟨by kernel_rfl, ?_⟩) (by assumption) ?_; rotate_left
        · (intro w hSw; (try dsimp only at hSw); first | (go_simp; done) | (go_simp; with_reducible rfl))
        (try simp only [Act.put, List.setIfInBounds_toArray, List.set_cons_zero, List.set_cons_succ])
        refine Lns.takeH (i := 2) (v := ?_) (d := (some 22)) rfl (by kernel_rfl) (by kernel_rfl) (by kernel_rfl) rfl (fun _ _ _ h => h) (Or.inl ⟨by kernel_rfl, ?_⟩) (by assumption) ?_; rotate_left
        · (intro w hSw; (try dsimp only at hSw); first | (go_simp; done) | (go_simp; with_reducible rfl))
        (try simp only [Act.put, List.setIfInBounds_toArray, List.set_cons_zero, List.set_cons_succ])
        refine Lns.takeH (i := 3) (v := ?_) (d := (some 23)) rfl (by kernel_rfl) (by kernel_rfl) (by kernel_rfl) rfl (fun _ _ _ h => h) (Or.inl ⟨by kernel_rfl, ?_⟩) (by assumption) ?_; rotate_left
        · (intro w hSw; (try dsimp only at hSw); first | (go_simp; done) | (go_simp; with_reducible rfl))
        (try simp only [Act.put, List.setIfInBounds_toArray, List.set_cons_zero, List.set_cons_succ])
        refine Lns.takeH (i := 5) (v := ?_) (d := (some 25)) rfl (by kernel_rfl) (by kernel_rfl) (by kernel_rfl) rfl (fun _ _ _ h => h) (Or.inl ⟨by kernel_rfl, ?_⟩) (by assumption) ?_; rotate_left
        · (intro w hSw; (try dsimp only at hSw); first | (go_simp; done) | (go_simp; with_reducible rfl))
        (try simp only [Act.put, List.setIfInBounds_toArray, List.set_cons_zero, List.set_cons_succ])
        refine Lns.takeH (i := 8) (v := ?_) (d := (some 28)) rfl (by kernel_rfl) (by kernel_rfl) (by kernel_rfl) rfl (fun _ _ _ h => h) (Or.inl ⟨by kernel_rfl, ?_⟩) (by assumption) ?_; rotate_left
        · (intro w hSw; (try dsimp only at hSw); first | (go_simp; done) | (go_simp; with_reducible rfl))
        (try simp only [Act.put, List.setIfInBounds_toArray, List.set_cons_zero, List.set_cons_succ])
        refine Lns.takeH (i := 9) (v := ?_) (d := (some 29)) rfl (by kernel_rfl) (by kernel_rfl) (by kernel_rfl) rfl (fun _ _ _ h => h) (Or.inl ⟨by kernel_rfl, ?_⟩) (by assumption) ?_; rotate_left
        · (intro w hSw; (try dsimp only at hSw); first | (go_simp; done) | (go_simp; with_reducible rfl))
        (try simp only [Act.put, List.setIfInBounds_toArray, List.set_cons_zero, List.set_cons_succ])
        refine Lns.takeH (i := 10) (v := ?_) (d := (some 30)) rfl (by kernel_rfl) (by kernel_rfl) (by kernel_rfl) rfl (fun _ _ _ h => h) (Or.inl ⟨by kernel_rfl, ?_⟩) (by assumption) ?_; rotate_left
        · (intro w hSw; (try dsimp only at hSw); first | (go_simp; done) | (go_simp; with_reducible rfl))
        (try simp only [Act.put, List.setIfInBounds_toArray, List.set_cons_zero, List.set_cons_succ])
        refine wpAnyH_ready (rs := [0, 6]) (by kernel_rfl) (by simp) (AllReadyH.cons rfl (fun K hK => ?_) (AllReadyH.cons rfl (fun K hK => ?_) AllReadyH.nil))
        · rw [if_pos (by kernel_rfl)]
          go_simp
          have O20 : Hid ((x0.alloc (.cells #[] 9)).ownsRow w.heap.size 9 1 (.slice (some ⟨x0.heap.size, 0, none⟩) 0 0) 0 []) := World.ownsRow_lit x0 #[] 0 hHeld.2 (Nat.zero_le _) rfl
          refine hK.out _ _ (hHeld.alloc _ : Up w.heap.size w _) (fun hHeld => ?_)
          clear hK K
          (try dsimp only at hHeld)
          (try simp only [Act.put, List.setIfInBounds_toArray, List.set_cons_zero, List.set_cons_succ])
          obtain ⟨x1, hx1⟩ : ∃ x1, x0.alloc (.cells #[] 9) = x1 := ⟨_, rfl⟩
          rw [hx1] at hHeld O20 ⊢
          refine wpAnyH_ready (rs := [4, 6]) (by kernel_rfl) (by simp) (AllReadyH.cons rfl (fun K hK => ?_) (AllReadyH.cons rfl (fun K hK => ?_) AllReadyH.nil))
          · rw [if_pos (by kernel_rfl)]
            refine app_src_wp (.tmp 20) (.tmp 23) 28 rfl w.heap.size 9 i0 _ 1 16 Tryz.underlying28 hi hz0 hz1 hz2 rfl (by decide) _ _ _ rfl O20.out _ _ _ rfl ((HSA _).out.stay hHeld.1) (str_one _) (by unfold maxLen; omega) (by omega) hHeld.2 ?_
            intro v24 x2 ho24 hg24
            change K (Act.put _ (some 24) _) _
            have O24 : Hid (x2.ownsRow w.heap.size 9 1 v24 (0 + i) ([] ++ (L.take i).map Value.string)) := ho24
            have hu24 : Up w.heap.size w x2 := hHeld.grown hg24 (own_base O20.out)
            clear ho24 hg24 O20
            refine hK.out _ _ (hu24 : Up w.heap.size w _) (fun hHeld => ?_)
            clear hK K
            (try dsimp only at hHeld)
            (try simp only [Act.put, List.setIfInBounds_toArray, List.set_cons_zero, List.set_cons_succ])
            clear hu24
            refine wpAnyH_ready (rs := [6]) (by kernel_rfl) (by simp) (AllReadyH.cons rfl (fun K hK => ?_) AllReadyH.nil)
            rw [if_pos (by kernel_rfl)]
            go_simp
            have S26 : Hid (Srcs (x2.alloc (.cells #[.string s] 9)) (.slice (some ⟨x2.heap.size, 0, none⟩) 1 1) 1 1 [.string s]) := srcs_new x2 #[.string s] 9 1 1 1 rfl
            have O24' := O24.out.alloc (.cells #[.string s] 9)
            clear O24
            have O24 : Hid (World.ownsRow _ _ _ _ _ _ _) := O24'
            clear O24'
            refine hK.out _ _ (hHeld.alloc _ : Up w.heap.size w _) (fun hHeld => ?_)
            clear hK K
            (try dsimp only at hHeld)
            (try simp only [Act.put, List.setIfInBounds_toArray, List.set_cons_zero, List.set_cons_succ])
            obtain ⟨x3, hx3⟩ : ∃ x3, x2.alloc (.cells #[.string s] 9) = x3 := ⟨_, rfl⟩
            rw [hx3] at hHeld O24 S26 ⊢
            refine wpAnyH_ready (rs := [7]) (by kernel_rfl) (by simp) (AllReadyH.cons rfl (fun K hK => ?_) AllReadyH.nil)
            rw [if_pos (by kernel_rfl)]
            refine app_src_wp (.tmp 24) (.tmp 26) 28 rfl w.heap.size 9 i0 _ 1 16 Tryz.underlying28 hi hz0 hz1 hz2 rfl (by decide) _ _ _ rfl O24.out _ _ _ rfl S26.out (Lns.one_one _ rfl) (by unfold maxLen; omega) (by omega) hHeld.2 ?_
            intro v27 y1 ho27 hg27
            change K (Act.put _ (some 27) _) _
            have O27 : Hid (y1.ownsRow w.heap.size 9 1 v27 (0 + i + 1) ([] ++ (L.take i).map Value.string ++ [.string s])) := ho27
            have hu27 : Up w.heap.size w y1 := hHeld.grown hg27 (own_base O24.out)
            clear ho27 hg27 O24 S26
            refine hK.out _ _ (hu27 : Up w.heap.size w _) (fun hHeld => ?_)
            clear hK K
            (try dsimp only at hHeld)
            (try simp only [Act.put, List.setIfInBounds_toArray, List.set_cons_zero, List.set_cons_succ])
            clear hu27
            refine wpAnyH_ready (rs := [11]) (by kernel_rfl) (by simp) (AllReadyH.cons rfl (fun K hK => ?_) AllReadyH.nil)
            rw [if_pos (by kernel_rfl)]
            refine app_src_wp (.tmp 27) (.tmp 30) 28 rfl w.heap.size 9 i0 _ 1 16 Tryz.underlying28 hi hz0 hz1 hz2 rfl (by decide) _ _ _ rfl O27.out _ _ _ rfl ((HSB _).out.stay hHeld.1) (str_one _) (by unfold maxLen; omega) (by omega) hHeld.2 ?_
            intro v31 y2 ho31 hg31
            change K (Act.put _ (some 31) _) _
            have O31 : Hid (y2.ownsRow w.heap.size 9 1 v31 (0 + i + 1 + (n - i)) ([] ++ (L.take i).map Value.string ++ [.string s] ++ (L.drop i).map Value.string)) := ho31
            have hu31 : Up w.heap.size w y2 := hHeld.grown hg31 (own_base O27.out)
            clear ho31 hg31 O27
            refine hK.out _ _ (hu31 : Up w.heap.size w _) (fun hHeld => ?_)
            clear hK K
            (try dsimp only at hHeld)
            (try simp only [Act.put, List.setIfInBounds_toArray, List.set_cons_zero, List.set_cons_succ])
            clear hu31
            refine Lns.takeH (i := 12) (v := ?_) (d := (some 4)) rfl (by kernel_rfl) (by kernel_rfl) (by kernel_rfl) rfl (fun _ _ _ h => h) (Or.inl ⟨by kernel_rfl, ?_⟩) (by assumption) ?_; rotate_left
            · (intro w hSw; (try dsimp only at hSw); first | (go_simp; done) | (go_simp; with_reducible rfl))
            (try simp only [Act.put, List.setIfInBounds_toArray, List.set_cons_zero, List.set_cons_succ])
            refine wpAnyH_done (by kernel_rfl) ?_ _
            have HU9 : Hid (Up w.heap.size w y2) := hHeld
            clear hHeld
            have HO3 : Hid (y2.ownsRow w.heap.size 9 1 v31 (n + 1) (P.map Value.string)) := by
              show y2.ownsRow _ _ _ _ _ _
              have hown3 := O31.out
              have e : 0 + i + 1 + (n - i) = n + 1 := by omega
              rw [e] at hown3
              rw [HP2.out, List.map_append, List.map_cons]
              simpa using hown3
            clear O31
            go_wp2
            all_goals
              go_ret
              exact ⟨v31, rfl, HO3.out, HU9.out.1⟩
          · rw [if_pos (by kernel_rfl)]
            go_simp
            have S26 : Hid (Srcs (x1.alloc (.cells #[.string s] 9)) (.slice (some ⟨x1.heap.size, 0, none⟩) 1 1) 1 1 [.string s]) := srcs_new x1 #[.string s] 9 1 1 1 rfl
            have O20' := O20.out.alloc (.cells #[.string s] 9)
            clear O20
            have O20 : Hid (World.ownsRow _ _ _ _ _ _ _) := O20'
            clear O20'
            have hne : x0.heap.size < x1.heap.size := by rw [← hx1]; simp
            refine hK.out _ _ (hHeld.alloc _ : Up w.heap.size w _) (fun hHeld => ?_)
            clear hK K
            (try dsimp only at hHeld)
            (try simp only [Act.put, List.setIfInBounds_toArray, List.set_cons_zero, List.set_cons_succ])
            obtain ⟨x2, hx2⟩ : ∃ x2, x1.alloc (.cells #[.string s] 9) = x2 := ⟨_, rfl⟩
            rw [hx2] at hHeld O20 S26 ⊢
            refine wpAnyH_ready (rs := [4]) (by kernel_rfl) (by simp) (AllReadyH.cons rfl (fun K hK => ?_) AllReadyH.nil)
            rw [if_pos (by kernel_rfl)]
            refine app_src_wp (.tmp 20) (.tmp 23) 28 rfl w.heap.size 9 i0 _ 1 16 Tryz.underlying28 hi hz0 hz1 hz2 rfl (by decide) _ _ _ rfl O20.out _ _ _ rfl ((HSA _).out.stay hHeld.1) (str_one _) (by unfold maxLen; omega) (by omega) hHeld.2 ?_
            intro v24 x3 ho24 hg24
            change K (Act.put _ (some 24) _) _
            have O24 : Hid (x3.ownsRow w.heap.size 9 1 v24 (0 + i) ([] ++ (L.take i).map Value.string)) := ho24
            have S26' := S26.out.grown hg24 (fun e => by have e' : some x0.heap.size = some x1.heap.size := e; injection e' with e'; omega)
            clear S26
            have S26 : Hid (Srcs _ _ _ _ _) := S26'
            clear S26'
            have hu24 : Up w.heap.size w x3 := hHeld.grown hg24 (own_base O20.out)
            clear ho24 hg24 O20
            refine hK.out _ _ (hu24 : Up w.heap.size w _) (fun hHeld => ?_)
            clear hK K
            (try dsimp only at hHeld)
            (try simp only [Act.put, List.setIfInBounds_toArray, List.set_cons_zero, List.set_cons_succ])
            clear hu24
            refine wpAnyH_ready (rs := [7]) (by kernel_rfl) (by simp) (AllReadyH.cons rfl (fun K hK => ?_) AllReadyH.nil)
            rw [if_pos (by kernel_rfl)]
            refine app_src_wp (.tmp 24) (.tmp 26) 28 rfl w.heap.size 9 i0 _ 1 16 Tryz.underlying28 hi hz0 hz1 hz2 rfl (by decide) _ _ _ rfl O24.out _ _ _ rfl S26.out (Lns.one_one _ rfl) (by unfold maxLen; omega) (by omega) hHeld.2 ?_
            intro v27 y1 ho27 hg27
            change K (Act.put _ (some 27) _) _
            have O27 : Hid (y1.ownsRow w.heap.size 9 1 v27 (0 + i + 1) ([] ++ (L.take i).map Value.string ++ [.string s])) := ho27
            have hu27 : Up w.heap.size w y1 := hHeld.grown hg27 (own_base O24.out)
            clear ho27 hg27 O24 S26
            refine hK.out _ _ (hu27 : Up w.heap.size w _) (fun hHeld => ?_)
            clear hK K
            (try dsimp only at hHeld)
            (try simp only [Act.put, List.setIfInBounds_toArray, List.set_cons_zero, List.set_cons_succ])
            clear hu27
            refine wpAnyH_ready (rs := [11]) (by kernel_rfl) (by simp) (AllReadyH.cons rfl (fun K hK => ?_) AllReadyH.nil)
            rw [if_pos (by kernel_rfl)]
            refine app_src_wp (.tmp 27) (.tmp 30) 28 rfl w.heap.size 9 i0 _ 1 16 Tryz.underlying28 hi hz0 hz1 hz2 rfl (by decide) _ _ _ rfl O27.out _ _ _ rfl ((HSB _).out.stay hHeld.1) (str_one _) (by unfold maxLen; omega) (by omega) hHeld.2 ?_
            intro v31 y2 ho31 hg31
            change K (Act.put _ (some 31) _) _
            have O31 : Hid (y2.ownsRow w.heap.size 9 1 v31 (0 + i + 1 + (n - i)) ([] ++ (L.take i).map Value.string ++ [.string s] ++ (L.drop i).map Value.string)) := ho31
            have hu31 : Up w.heap.size w y2 := hHeld.grown hg31 (own_base O27.out)
            clear ho31 hg31 O27
            refine hK.out _ _ (hu31 : Up w.heap.size w _) (fun hHeld => ?_)
            clear hK K
            (try dsimp only at hHeld)
            (try simp only [Act.put, List.setIfInBounds_toArray, List.set_cons_zero, List.set_cons_succ])
            clear hu31
            refine Lns.takeH (i := 12) (v := ?_) (d := (some 4)) rfl (by kernel_rfl) (by kernel_rfl) (by kernel_rfl) rfl (fun _ _ _ h => h) (Or.inl ⟨by kernel_rfl, ?_⟩) (by assumption) ?_; rotate_left
            · (intro w hSw; (try dsimp only at hSw); first | (go_simp; done) | (go_simp; with_reducible rfl))
            (try simp only [Act.put, List.setIfInBounds_toArray, List.set_cons_zero, List.set_cons_succ])
            refine wpAnyH_done (by kernel_rfl) ?_ _
            have HU9 : Hid (Up w.heap.size w y2) := hHeld
            clear hHeld
            have HO3 : Hid (y2.ownsRow w.heap.size 9 1 v31 (n + 1) (P.map Value.string)) := by
              show y2.ownsRow _ _ _ _ _ _
              have hown3 := O31.out
              have e : 0 + i + 1 + (n - i) = n + 1 := by omega
              rw [e] at hown3
              rw [HP2.out, List.map_append, List.map_cons]
              simpa using hown3
            clear O31
            go_wp2
            all_goals
              go_ret
              exact ⟨v31, rfl, HO3.out, HU9.out.1⟩
        · rw [if_pos (by kernel_rfl)]
          go_simp
          have S26 : Hid (Srcs (x0.alloc (.cells #[.string s] 9)) (.slice (some ⟨x0.heap.size, 0, none⟩) 1 1) 1 1 [.string s]) := srcs_new x0 #[.string s] 9 1 1 1 rfl
          refine hK.out _ _ (hHeld.alloc _ : Up w.heap.size w _) (fun hHeld => ?_)
          clear hK K
          (try dsimp only at hHeld)
          (try simp only [Act.put, List.setIfInBounds_toArray, List.set_cons_zero, List.set_cons_succ])
          obtain ⟨x1, hx1⟩ : ∃ x1, x0.alloc (.cells #[.string s] 9) = x1 := ⟨_, rfl⟩
          rw [hx1] at hHeld S26 ⊢
          refine wpAnyH_ready (rs := [0]) (by kernel_rfl) (by simp) (AllReadyH.cons rfl (fun K hK => ?_) AllReadyH.nil)
          rw [if_pos (by kernel_rfl)]
          go_simp
          have O20 : Hid ((x1.alloc (.cells #[] 9)).ownsRow w.heap.size 9 1 (.slice (some ⟨x1.heap.size, 0, none⟩) 0 0) 0 []) := World.ownsRow_lit x1 #[] 0 hHeld.2 (Nat.zero_le _) rfl
          have S26' := S26.out.stay ((Below.refl _ _).alloc (Nat.le_refl _) (.cells #[] 9))
          clear S26
          have S26 : Hid (Srcs _ _ _ _ _) := S26'
          clear S26'
          have hne : x0.heap.size < x1.heap.size := by rw [← hx1]; simp
          refine hK.out _ _ (hHeld.alloc _ : Up w.heap.size w _) (fun hHeld => ?_)
          clear hK K
          (try dsimp only at hHeld)
          (try simp only [Act.put, List.setIfInBounds_toArray, List.set_cons_zero, List.set_cons_succ])
          obtain ⟨x2, hx2⟩ : ∃ x2, x1.alloc (.cells #[] 9) = x2 := ⟨_, rfl⟩
          rw [hx2] at hHeld O20 S26 ⊢
          refine wpAnyH_ready (rs := [4]) (by kernel_rfl) (by simp) (AllReadyH.cons rfl (fun K hK => ?_) AllReadyH.nil)
          rw [if_pos (by kernel_rfl)]
          refine app_src_wp (.tmp 20) (.tmp 23) 28 rfl w.heap.size 9 i0 _ 1 16 Tryz.underlying28 hi hz0 hz1 hz2 rfl (by decide) _ _ _ rfl O20.out _ _ _ rfl ((HSA _).out.stay hHeld.1) (str_one _) (by unfold maxLen; omega) (by omega) hHeld.2 ?_
          intro v24 x3 ho24 hg24
          change K (Act.put _ (some 24) _) _
          have O24 : Hid (x3.ownsRow w.heap.size 9 1 v24 (0 + i) ([] ++ (L.take i).map Value.string)) := ho24
          have S26' := S26.out.grown hg24 (fun e => by have e' : some x1.heap.size = some x0.heap.size := e; injection e' with e'; omega)
          clear S26
          have S26 : Hid (Srcs _ _ _ _ _) := S26'
          clear S26'
          have hu24 : Up w.heap.size w x3 := hHeld.grown hg24 (own_base O20.out)
          clear ho24 hg24 O20
          refine hK.out _ _ (hu24 : Up w.heap.size w _) (fun hHeld => ?_)
          clear hK K
          (try dsimp only at hHeld)
          (try simp only [Act.put, List.setIfInBounds_toArray, List.set_cons_zero, List.set_cons_succ])
          clear hu24
          refine wpAnyH_ready (rs := [7]) (by kernel_rfl) (by simp) (AllReadyH.cons rfl (fun K hK => ?_) AllReadyH.nil)
          rw [if_pos (by kernel_rfl)]
          refine app_src_wp (.tmp 24) (.tmp 26) 28 rfl w.heap.size 9 i0 _ 1 16 Tryz.underlying28 hi hz0 hz1 hz2 rfl (by decide) _ _ _ rfl O24.out _ _ _ rfl S26.out (Lns.one_one _ rfl) (by unfold maxLen; omega) (by omega) hHeld.2 ?_
          intro v27 y1 ho27 hg27
          change K (Act.put _ (some 27) _) _
          have O27 : Hid (y1.ownsRow w.heap.size 9 1 v27 (0 + i + 1) ([] ++ (L.take i).map Value.string ++ [.string s])) := ho27
          have hu27 : Up w.heap.size w y1 := hHeld.grown hg27 (own_base O24.out)
          clear ho27 hg27 O24 S26
          refine hK.out _ _ (hu27 : Up w.heap.size w _) (fun hHeld => ?_)
          clear hK K
          (try dsimp only at hHeld)
          (try simp only [Act.put, List.setIfInBounds_toArray, List.set_cons_zero, List.set_cons_succ])
          clear hu27
          refine wpAnyH_ready (rs := [11]) (by kernel_rfl) (by simp) (AllReadyH.cons rfl (fun K hK => ?_) AllReadyH.nil)
          rw [if_pos (by kernel_rfl)]
          refine app_src_wp (.tmp 27) (.tmp 30) 28 rfl w.heap.size 9 i0 _ 1 16 Tryz.underlying28 hi hz0 hz1 hz2 rfl (by decide) _ _ _ rfl O27.out _ _ _ rfl ((HSB _).out.stay hHeld.1) (str_one _) (by unfold maxLen; omega) (by omega) hHeld.2 ?_
          intro v31 y2 ho31 hg31
          change K (Act.put _ (some 31) _) _
          have O31 : Hid (y2.ownsRow w.heap.size 9 1 v31 (0 + i + 1 + (n - i)) ([] ++ (L.take i).map Value.string ++ [.string s] ++ (L.drop i).map Value.string)) := ho31
          have hu31 : Up w.heap.size w y2 := hHeld.grown hg31 (own_base O27.out)
          clear ho31 hg31 O27
          refine hK.out _ _ (hu31 : Up w.heap.size w _) (fun hHeld => ?_)
          clear hK K
          (try dsimp only at hHeld)
          (try simp only [Act.put, List.setIfInBounds_toArray, List.set_cons_zero, List.set_cons_succ])
          clear hu31
          refine Lns.takeH (i := 12) (v := ?_) (d := (some 4)) rfl (by kernel_rfl) (by kernel_rfl) (by kernel_rfl) rfl (fun _ _ _ h => h) (Or.inl ⟨by kernel_rfl, ?_⟩) (by assumption) ?_; rotate_left
          · (intro w hSw; (try dsimp only at hSw); first | (go_simp; done) | (go_simp; with_reducible rfl))
          (try simp only [Act.put, List.setIfInBounds_toArray, List.set_cons_zero, List.set_cons_succ])
          refine wpAnyH_done (by kernel_rfl) ?_ _
          have HU9 : Hid (Up w.heap.size w y2) := hHeld
          clear hHeld
          have HO3 : Hid (y2.ownsRow w.heap.size 9 1 v31 (n + 1) (P.map Value.string)) := by
            show y2.ownsRow _ _ _ _ _ _
            have hown3 := O31.out
            have e : 0 + i + 1 + (n - i) = n + 1 := by omega
            rw [e] at hown3
            rw [HP2.out, List.map_append, List.map_cons]
            simpa using hown3
          clear O31
          go_wp2
          all_goals
            go_ret
            exact ⟨v31, rfl, HO3.out, HU9.out.1⟩
set_option maxRecDepth 100000 in
set_option maxHeartbeats 1000000 in
theorem rput_none (s : ByteArray) (w : World) :
    Calls Tryz.prog 37 #[.slice none 0 0, .string s] w fun e w' => ∃ u, e = .returned u ∧ w'.ownsRow w.heap.size 9 1 u 1 [.string s] ∧ Below w.heap.size w w' := by
  obtain ⟨i0, hi, hz0, hz1, hz2⟩ := info_parts Lns.info9
  go_enter Tryz.func37, Tryz.ntmps37
  go_wp2
  go_loopg [5] (0) (fun gh iv wr => iv = .int .i64 0 ∧ wr = w)
  case atStart => exact ⟨rfl, rfl⟩
  case round =>
    obtain ⟨rfl, hw⟩ := hrel
    subst wr
    have HSA : ∀ c : Nat, Hid (Srcs w (.slice none 0 c) 0 1 (([] : List ByteArray).map Value.string)) := fun c => ⟨rfl, Or.inl ⟨none, c, rfl, rfl⟩⟩
    go_wp2_with fail
    refine wp_region_held_drew (S := fun w' => Up w.heap.size w w') (by kernel_rfl) (Lns.Up.drew (Up.refl w)) (fun hHeld => ?_)
    (try dsimp only at hHeld)
    obtain ⟨x0, hx0⟩ : ∃ x0, w.drew = x0 := ⟨_, rfl⟩
    rw [hx0] at hHeld ⊢
    clear hx0
    refine Lns.takeH (i := 1) (v := ?_) (d := (some 21)) rfl (by kernel_rfl) (by kernel_rfl) (by kernel_rfl) rfl (fun _ _ _ h => h) (Or.inl ⟨by kernel_rfl, ?_⟩) (by assumption) ?_; rotate_left
    · (intro w hSw; (try dsimp only at hSw); first | (go_simp; done) | (go_simp; with_reducible rfl))
    (try simp only [Act.put, List.setIfInBounds_toArray, List.set_cons_zero, List.set_cons_succ])
    refine Lns.takeH (i := 2) (v := ?_) (d := (some 22)) rfl (by kernel_rfl) (by kernel_rfl) (by kernel_rfl) rfl (fun _ _ _ h => h) (Or.inl ⟨by kernel_rfl, ?_⟩) (by assumption) ?_; rotate_left
    · (intro w hSw; (try dsimp only at hSw); first | (go_simp; done) | (go_simp; with_reducible rfl))
    (try simp only [Act.put, List.setIfInBounds_toArray, List.set_cons_zero, List.set_cons_succ])
    refine Lns.takeH (i := 3) (v := ?_) (d := (some 23)) rfl (by kernel_rfl) (by kernel_rfl) (by kernel_rfl) rfl (fun _ _ _ h => h) (Or.inl ⟨by kernel_rfl, ?_⟩) (by assumption) ?_; rotate_left
    · (intro w hSw; (try dsimp only at hSw); first | (go_simp; done) | (go_simp; with_reducible rfl))
    (try simp only [Act.put, List.setIfInBounds_toArray, List.set_cons_zero, List.set_cons_succ])
    refine Lns.takeH (i := 5) (v := ?_) (d := (some 25)) rfl (by kernel_rfl) (by kernel_rfl) (by kernel_rfl) rfl (fun _ _ _ h => h) (Or.inl ⟨by kernel_rfl, ?_⟩) (by assumption) ?_; rotate_left
    · (intro w hSw; (try dsimp only at hSw); first | (go_simp; done) | (go_simp; with_reducible rfl))
    (try simp only [Act.put, List.setIfInBounds_toArray, List.set_cons_zero, List.set_cons_succ])
    refine Lns.takeH (i := 8) (v := ?_) (d := (some 28)) rfl (by kernel_rfl) (by kernel_rfl) (by kernel_rfl) rfl (fun _ _ _ h => h) (Or.inl ⟨by kernel_rfl, ?_⟩) (by assumption) ?_; rotate_left
    · (intro w hSw; (try dsimp only at hSw); first | (go_simp; done) | (go_simp; with_reducible rfl))
    (try simp only [Act.put, List.setIfInBounds_toArray, List.set_cons_zero, List.set_cons_succ])
    refine Lns.takeH (i := 9) (v := ?_) (d := (some 29)) rfl (by kernel_rfl) (by kernel_rfl) (by kernel_rfl) rfl (fun _ _ _ h => h) (Or.inl ⟨by kernel_rfl, ?_⟩) (by assumption) ?_; rotate_left
    · (intro w hSw; (try dsimp only at hSw); first | (go_simp; done) | (go_simp; with_reducible rfl))
    (try simp only [Act.put, List.setIfInBounds_toArray, List.set_cons_zero, List.set_cons_succ])
    refine Lns.takeH (i := 10) (v := ?_) (d := (some 30)) rfl (by kernel_rfl) (by kernel_rfl) (by kernel_rfl) rfl (fun _ _ _ h => h) (Or.inl ⟨by kernel_rfl, ?_⟩) (by assumption) ?_; rotate_left
    · (intro w hSw; (try dsimp only at hSw); first | (go_simp; done) | (go_simp; with_reducible rfl))
    (try simp only [Act.put, List.setIfInBounds_toArray, List.set_cons_zero, List.set_cons_succ])
    refine wpAnyH_ready (rs := [0, 6]) (by kernel_rfl) (by simp) (AllReadyH.cons rfl (fun K hK => ?_) (AllReadyH.cons rfl (fun K hK => ?_) AllReadyH.nil))
    · rw [if_pos (by kernel_rfl)]
      go_simp
      have O20 : Hid ((x0.alloc (.cells #[] 9)).ownsRow w.heap.size 9 1 (.slice (some ⟨x0.heap.size, 0, none⟩) 0 0) 0 []) := World.ownsRow_lit x0 #[] 0 hHeld.2 (Nat.zero_le _) rfl
      refine hK.out _ _ (hHeld.alloc _ : Up w.heap.size w _) (fun hHeld => ?_)
      clear hK K
      (try dsimp only at hHeld)
      (try simp only [Act.put, List.setIfInBounds_toArray, List.set_cons_zero, List.set_cons_succ])
      obtain ⟨x1, hx1⟩ : ∃ x1, x0.alloc (.cells #[] 9) = x1 := ⟨_, rfl⟩
      rw [hx1] at hHeld O20 ⊢
      refine wpAnyH_ready (rs := [4, 6]) (by kernel_rfl) (by simp) (AllReadyH.cons rfl (fun K hK => ?_) (AllReadyH.cons rfl (fun K hK => ?_) AllReadyH.nil))
      · rw [if_pos (by kernel_rfl)]
        refine app_src_wp (.tmp 20) (.tmp 23) 28 rfl w.heap.size 9 i0 _ 1 16 Tryz.underlying28 hi hz0 hz1 hz2 rfl (by decide) _ _ _ rfl O20.out _ _ _ rfl ((HSA _).out.stay hHeld.1) (str_one _) (by unfold maxLen; omega) (by omega) hHeld.2 ?_
        intro v24 x2 ho24 hg24
        change K (Act.put _ (some 24) _) _
        have O24 : Hid (x2.ownsRow w.heap.size 9 1 v24 (0 + 0) ([] ++ ([] : List ByteArray).map Value.string)) := ho24
        have hu24 : Up w.heap.size w x2 := hHeld.grown hg24 (own_base O20.out)
        clear ho24 hg24 O20
        refine hK.out _ _ (hu24 : Up w.heap.size w _) (fun hHeld => ?_)
        clear hK K
        (try dsimp only at hHeld)
        (try simp only [Act.put, List.setIfInBounds_toArray, List.set_cons_zero, List.set_cons_succ])
        clear hu24
        refine wpAnyH_ready (rs := [6]) (by kernel_rfl) (by simp) (AllReadyH.cons rfl (fun K hK => ?_) AllReadyH.nil)
        rw [if_pos (by kernel_rfl)]
        go_simp
        have S26 : Hid (Srcs (x2.alloc (.cells #[.string s] 9)) (.slice (some ⟨x2.heap.size, 0, none⟩) 1 1) 1 1 [.string s]) := srcs_new x2 #[.string s] 9 1 1 1 rfl
        have O24' := O24.out.alloc (.cells #[.string s] 9)
        clear O24
        have O24 : Hid (World.ownsRow _ _ _ _ _ _ _) := O24'
        clear O24'
        refine hK.out _ _ (hHeld.alloc _ : Up w.heap.size w _) (fun hHeld => ?_)
        clear hK K
        (try dsimp only at hHeld)
        (try simp only [Act.put, List.setIfInBounds_toArray, List.set_cons_zero, List.set_cons_succ])
        obtain ⟨x3, hx3⟩ : ∃ x3, x2.alloc (.cells #[.string s] 9) = x3 := ⟨_, rfl⟩
        rw [hx3] at hHeld O24 S26 ⊢
        refine wpAnyH_ready (rs := [7]) (by kernel_rfl) (by simp) (AllReadyH.cons rfl (fun K hK => ?_) AllReadyH.nil)
        rw [if_pos (by kernel_rfl)]
        refine app_src_wp (.tmp 24) (.tmp 26) 28 rfl w.heap.size 9 i0 _ 1 16 Tryz.underlying28 hi hz0 hz1 hz2 rfl (by decide) _ _ _ rfl O24.out _ _ _ rfl S26.out (Lns.one_one _ rfl) (by unfold maxLen; omega) (by omega) hHeld.2 ?_
        intro v27 y1 ho27 hg27
        change K (Act.put _ (some 27) _) _
        have O27 : Hid (y1.ownsRow w.heap.size 9 1 v27 (0 + 0 + 1) ([] ++ ([] : List ByteArray).map Value.string ++ [.string s])) := ho27
        have hu27 : Up w.heap.size w y1 := hHeld.grown hg27 (own_base O24.out)
        clear ho27 hg27 O24 S26
        refine hK.out _ _ (hu27 : Up w.heap.size w _) (fun hHeld => ?_)
        clear hK K
        (try dsimp only at hHeld)
        (try simp only [Act.put, List.setIfInBounds_toArray, List.set_cons_zero, List.set_cons_succ])
        clear hu27
        refine wpAnyH_ready (rs := [11]) (by kernel_rfl) (by simp) (AllReadyH.cons rfl (fun K hK => ?_) AllReadyH.nil)
        rw [if_pos (by kernel_rfl)]
        refine app_src_wp (.tmp 27) (.tmp 30) 28 rfl w.heap.size 9 i0 _ 1 16 Tryz.underlying28 hi hz0 hz1 hz2 rfl (by decide) _ _ _ rfl O27.out _ _ _ rfl ((HSA _).out.stay hHeld.1) (str_one _) (by unfold maxLen; omega) (by omega) hHeld.2 ?_
        intro v31 y2 ho31 hg31
        change K (Act.put _ (some 31) _) _
        have O31 : Hid (y2.ownsRow w.heap.size 9 1 v31 (0 + 0 + 1 + (0 - 0)) ([] ++ ([] : List ByteArray).map Value.string ++ [.string s] ++ ([] : List ByteArray).map Value.string)) := ho31
        have hu31 : Up w.heap.size w y2 := hHeld.grown hg31 (own_base O27.out)
        clear ho31 hg31 O27
        refine hK.out _ _ (hu31 : Up w.heap.size w _) (fun hHeld => ?_)
        clear hK K
        (try dsimp only at hHeld)
        (try simp only [Act.put, List.setIfInBounds_toArray, List.set_cons_zero, List.set_cons_succ])
        clear hu31
        refine Lns.takeH (i := 12) (v := ?_) (d := (some 4)) rfl (by kernel_rfl) (by kernel_rfl) (by kernel_rfl) rfl (fun _ _ _ h => h) (Or.inl ⟨by kernel_rfl, ?_⟩) (by assumption) ?_; rotate_left
        · (intro w hSw; (try dsimp only at hSw); first | (go_simp; done) | (go_simp; with_reducible rfl))
        (try simp only [Act.put, List.setIfInBounds_toArray, List.set_cons_zero, List.set_cons_succ])
        refine wpAnyH_done (by kernel_rfl) ?_ _
        have HU9 : Hid (Up w.heap.size w y2) := hHeld
        clear hHeld
        have HO3 : Hid (y2.ownsRow w.heap.size 9 1 v31 1 [.string s]) := by
          show y2.ownsRow _ _ _ _ _ _
          simpa using O31.out
        clear O31
        go_wp2
        all_goals
          go_ret
          exact ⟨v31, rfl, HO3.out, HU9.out.1⟩
      · rw [if_pos (by kernel_rfl)]
        go_simp
        have S26 : Hid (Srcs (x1.alloc (.cells #[.string s] 9)) (.slice (some ⟨x1.heap.size, 0, none⟩) 1 1) 1 1 [.string s]) := srcs_new x1 #[.string s] 9 1 1 1 rfl
        have O20' := O20.out.alloc (.cells #[.string s] 9)
        clear O20
        have O20 : Hid (World.ownsRow _ _ _ _ _ _ _) := O20'
        clear O20'
        have hne : x0.heap.size < x1.heap.size := by rw [← hx1]; simp
        refine hK.out _ _ (hHeld.alloc _ : Up w.heap.size w _) (fun hHeld => ?_)
        clear hK K
        (try dsimp only at hHeld)
        (try simp only [Act.put, List.setIfInBounds_toArray, List.set_cons_zero, List.set_cons_succ])
        obtain ⟨x2, hx2⟩ : ∃ x2, x1.alloc (.cells #[.string s] 9) = x2 := ⟨_, rfl⟩
        rw [hx2] at hHeld O20 S26 ⊢
        refine wpAnyH_ready (rs := [4]) (by kernel_rfl) (by simp) (AllReadyH.cons rfl (fun K hK => ?_) AllReadyH.nil)
        rw [if_pos (by kernel_rfl)]
        refine app_src_wp (.tmp 20) (.tmp 23) 28 rfl w.heap.size 9 i0 _ 1 16 Tryz.underlying28 hi hz0 hz1 hz2 rfl (by decide) _ _ _ rfl O20.out _ _ _ rfl ((HSA _).out.stay hHeld.1) (str_one _) (by unfold maxLen; omega) (by omega) hHeld.2 ?_
        intro v24 x3 ho24 hg24
        change K (Act.put _ (some 24) _) _
        have O24 : Hid (x3.ownsRow w.heap.size 9 1 v24 (0 + 0) ([] ++ ([] : List ByteArray).map Value.string)) := ho24
        have S26' := S26.out.grown hg24 (fun e => by have e' : some x0.heap.size = some x1.heap.size := e; injection e' with e'; omega)
        clear S26
        have S26 : Hid (Srcs _ _ _ _ _) := S26'
        clear S26'
        have hu24 : Up w.heap.size w x3 := hHeld.grown hg24 (own_base O20.out)
        clear ho24 hg24 O20
        refine hK.out _ _ (hu24 : Up w.heap.size w _) (fun hHeld => ?_)
        clear hK K
        (try dsimp only at hHeld)
        (try simp only [Act.put, List.setIfInBounds_toArray, List.set_cons_zero, List.set_cons_succ])
        clear hu24
        refine wpAnyH_ready (rs := [7]) (by kernel_rfl) (by simp) (AllReadyH.cons rfl (fun K hK => ?_) AllReadyH.nil)
        rw [if_pos (by kernel_rfl)]
        refine app_src_wp (.tmp 24) (.tmp 26) 28 rfl w.heap.size 9 i0 _ 1 16 Tryz.underlying28 hi hz0 hz1 hz2 rfl (by decide) _ _ _ rfl O24.out _ _ _ rfl S26.out (Lns.one_one _ rfl) (by unfold maxLen; omega) (by omega) hHeld.2 ?_
        intro v27 y1 ho27 hg27
        change K (Act.put _ (some 27) _) _
        have O27 : Hid (y1.ownsRow w.heap.size 9 1 v27 (0 + 0 + 1) ([] ++ ([] : List ByteArray).map Value.string ++ [.string s])) := ho27
        have hu27 : Up w.heap.size w y1 := hHeld.grown hg27 (own_base O24.out)
        clear ho27 hg27 O24 S26
        refine hK.out _ _ (hu27 : Up w.heap.size w _) (fun hHeld => ?_)
        clear hK K
        (try dsimp only at hHeld)
        (try simp only [Act.put, List.setIfInBounds_toArray, List.set_cons_zero, List.set_cons_succ])
        clear hu27
        refine wpAnyH_ready (rs := [11]) (by kernel_rfl) (by simp) (AllReadyH.cons rfl (fun K hK => ?_) AllReadyH.nil)
        rw [if_pos (by kernel_rfl)]
        refine app_src_wp (.tmp 27) (.tmp 30) 28 rfl w.heap.size 9 i0 _ 1 16 Tryz.underlying28 hi hz0 hz1 hz2 rfl (by decide) _ _ _ rfl O27.out _ _ _ rfl ((HSA _).out.stay hHeld.1) (str_one _) (by unfold maxLen; omega) (by omega) hHeld.2 ?_
        intro v31 y2 ho31 hg31
        change K (Act.put _ (some 31) _) _
        have O31 : Hid (y2.ownsRow w.heap.size 9 1 v31 (0 + 0 + 1 + (0 - 0)) ([] ++ ([] : List ByteArray).map Value.string ++ [.string s] ++ ([] : List ByteArray).map Value.string)) := ho31
        have hu31 : Up w.heap.size w y2 := hHeld.grown hg31 (own_base O27.out)
        clear ho31 hg31 O27
        refine hK.out _ _ (hu31 : Up w.heap.size w _) (fun hHeld => ?_)
        clear hK K
        (try dsimp only at hHeld)
        (try simp only [Act.put, List.setIfInBounds_toArray, List.set_cons_zero, List.set_cons_succ])
        clear hu31
        refine Lns.takeH (i := 12) (v := ?_) (d := (some 4)) rfl (by kernel_rfl) (by kernel_rfl) (by kernel_rfl) rfl (fun _ _ _ h => h) (Or.inl ⟨by kernel_rfl, ?_⟩) (by assumption) ?_; rotate_left
        · (intro w hSw; (try dsimp only at hSw); first | (go_simp; done) | (go_simp; with_reducible rfl))
        (try simp only [Act.put, List.setIfInBounds_toArray, List.set_cons_zero, List.set_cons_succ])
        refine wpAnyH_done (by kernel_rfl) ?_ _
        have HU9 : Hid (Up w.heap.size w y2) := hHeld
        clear hHeld
        have HO3 : Hid (y2.ownsRow w.heap.size 9 1 v31 1 [.string s]) := by
          show y2.ownsRow _ _ _ _ _ _
          simpa using O31.out
        clear O31
        go_wp2
        all_goals
          go_ret
          exact ⟨v31, rfl, HO3.out, HU9.out.1⟩
    · rw [if_pos (by kernel_rfl)]
      go_simp
      have S26 : Hid (Srcs (x0.alloc (.cells #[.string s] 9)) (.slice (some ⟨x0.heap.size, 0, none⟩) 1 1) 1 1 [.string s]) := srcs_new x0 #[.string s] 9 1 1 1 rfl
      refine hK.out _ _ (hHeld.alloc _ : Up w.heap.size w _) (fun hHeld => ?_)
      clear hK K
      (try dsimp only at hHeld)
      (try simp only [Act.put, List.setIfInBounds_toArray, List.set_cons_zero, List.set_cons_succ])
      obtain ⟨x1, hx1⟩ : ∃ x1, x0.alloc (.cells #[.string s] 9) = x1 := ⟨_, rfl⟩
      rw [hx1] at hHeld S26 ⊢
      refine wpAnyH_ready (rs := [0]) (by kernel_rfl) (by simp) (AllReadyH.cons rfl (fun K hK => ?_) AllReadyH.nil)
      rw [if_pos (by kernel_rfl)]
      go_simp
      have O20 : Hid ((x1.alloc (.cells #[] 9)).ownsRow w.heap.size 9 1 (.slice (some ⟨x1.heap.size, 0, none⟩) 0 0) 0 []) := World.ownsRow_lit x1 #[] 0 hHeld.2 (Nat.zero_le _) rfl
      have S26' := S26.out.stay ((Below.refl _ _).alloc (Nat.le_refl _) (.cells #[] 9))
      clear S26
      have S26 : Hid (Srcs _ _ _ _ _) := S26'
      clear S26'
      have hne : x0.heap.size < x1.heap.size := by rw [← hx1]; simp
      refine hK.out _ _ (hHeld.alloc _ : Up w.heap.size w _) (fun hHeld => ?_)
      clear hK K
      (try dsimp only at hHeld)
      (try simp only [Act.put, List.setIfInBounds_toArray, List.set_cons_zero, List.set_cons_succ])
      obtain ⟨x2, hx2⟩ : ∃ x2, x1.alloc (.cells #[] 9) = x2 := ⟨_, rfl⟩
      rw [hx2] at hHeld O20 S26 ⊢
      refine wpAnyH_ready (rs := [4]) (by kernel_rfl) (by simp) (AllReadyH.cons rfl (fun K hK => ?_) AllReadyH.nil)
      rw [if_pos (by kernel_rfl)]
      refine app_src_wp (.tmp 20) (.tmp 23) 28 rfl w.heap.size 9 i0 _ 1 16 Tryz.underlying28 hi hz0 hz1 hz2 rfl (by decide) _ _ _ rfl O20.out _ _ _ rfl ((HSA _).out.stay hHeld.1) (str_one _) (by unfold maxLen; omega) (by omega) hHeld.2 ?_
      intro v24 x3 ho24 hg24
      change K (Act.put _ (some 24) _) _
      have O24 : Hid (x3.ownsRow w.heap.size 9 1 v24 (0 + 0) ([] ++ ([] : List ByteArray).map Value.string)) := ho24
      have S26' := S26.out.grown hg24 (fun e => by have e' : some x1.heap.size = some x0.heap.size := e; injection e' with e'; omega)
      clear S26
      have S26 : Hid (Srcs _ _ _ _ _) := S26'
      clear S26'
      have hu24 : Up w.heap.size w x3 := hHeld.grown hg24 (own_base O20.out)
      clear ho24 hg24 O20
      refine hK.out _ _ (hu24 : Up w.heap.size w _) (fun hHeld => ?_)
      clear hK K
      (try dsimp only at hHeld)
      (try simp only [Act.put, List.setIfInBounds_toArray, List.set_cons_zero, List.set_cons_succ])
      clear hu24
      refine wpAnyH_ready (rs := [7]) (by kernel_rfl) (by simp) (AllReadyH.cons rfl (fun K hK => ?_) AllReadyH.nil)
      rw [if_pos (by kernel_rfl)]
      refine app_src_wp (.tmp 24) (.tmp 26) 28 rfl w.heap.size 9 i0 _ 1 16 Tryz.underlying28 hi hz0 hz1 hz2 rfl (by decide) _ _ _ rfl O24.out _ _ _ rfl S26.out (Lns.one_one _ rfl) (by unfold maxLen; omega) (by omega) hHeld.2 ?_
      intro v27 y1 ho27 hg27
      change K (Act.put _ (some 27) _) _
      have O27 : Hid (y1.ownsRow w.heap.size 9 1 v27 (0 + 0 + 1) ([] ++ ([] : List ByteArray).map Value.string ++ [.string s])) := ho27
      have hu27 : Up w.heap.size w y1 := hHeld.grown hg27 (own_base O24.out)
      clear ho27 hg27 O24 S26
      refine hK.out _ _ (hu27 : Up w.heap.size w _) (fun hHeld => ?_)
      clear hK K
      (try dsimp only at hHeld)
      (try simp only [Act.put, List.setIfInBounds_toArray, List.set_cons_zero, List.set_cons_succ])
      clear hu27
      refine wpAnyH_ready (rs := [11]) (by kernel_rfl) (by simp) (AllReadyH.cons rfl (fun K hK => ?_) AllReadyH.nil)
      rw [if_pos (by kernel_rfl)]
      refine app_src_wp (.tmp 27) (.tmp 30) 28 rfl w.heap.size 9 i0 _ 1 16 Tryz.underlying28 hi hz0 hz1 hz2 rfl (by decide) _ _ _ rfl O27.out _ _ _ rfl ((HSA _).out.stay hHeld.1) (str_one _) (by unfold maxLen; omega) (by omega) hHeld.2 ?_
      intro v31 y2 ho31 hg31
      change K (Act.put _ (some 31) _) _
      have O31 : Hid (y2.ownsRow w.heap.size 9 1 v31 (0 + 0 + 1 + (0 - 0)) ([] ++ ([] : List ByteArray).map Value.string ++ [.string s] ++ ([] : List ByteArray).map Value.string)) := ho31
      have hu31 : Up w.heap.size w y2 := hHeld.grown hg31 (own_base O27.out)
      clear ho31 hg31 O27
      refine hK.out _ _ (hu31 : Up w.heap.size w _) (fun hHeld => ?_)
      clear hK K
      (try dsimp only at hHeld)
      (try simp only [Act.put, List.setIfInBounds_toArray, List.set_cons_zero, List.set_cons_succ])
      clear hu31
      refine Lns.takeH (i := 12) (v := ?_) (d := (some 4)) rfl (by kernel_rfl) (by kernel_rfl) (by kernel_rfl) rfl (fun _ _ _ h => h) (Or.inl ⟨by kernel_rfl, ?_⟩) (by assumption) ?_; rotate_left
      · (intro w hSw; (try dsimp only at hSw); first | (go_simp; done) | (go_simp; with_reducible rfl))
      (try simp only [Act.put, List.setIfInBounds_toArray, List.set_cons_zero, List.set_cons_succ])
      refine wpAnyH_done (by kernel_rfl) ?_ _
      have HU9 : Hid (Up w.heap.size w y2) := hHeld
      clear hHeld
      have HO3 : Hid (y2.ownsRow w.heap.size 9 1 v31 1 [.string s]) := by
        show y2.ownsRow _ _ _ _ _ _
        simpa using O31.out
      clear O31
      go_wp2
      all_goals
        go_ret
        exact ⟨v31, rfl, HO3.out, HU9.out.1⟩
theorem rput_any (L : List ByteArray) (s : ByteArray) (base : Nat) (v : Value) (w : World) (hn : L.length ≤ 5000) (h : w.ownsRow base 9 1 v L.length (L.map Value.string)) :
    Calls Tryz.prog 37 #[v, .string s] w fun e w' => ∃ u, e = .returned u ∧ w'.ownsRow w.heap.size 9 1 u (L.length + 1) ((putK id L s).map Value.string) ∧ Below w.heap.size w w' := by
  have h0 := h
  obtain ⟨_, ⟨rfl, h2⟩ | ⟨g, cap, cur, rfl, hg, hh, h3⟩⟩ := h
  · obtain rfl : L = [] := List.eq_nil_of_length_eq_zero h2
    exact rput_none s w
  · exact rput_some L s g cap w hn h3.1 (lt_of_heap hh) (own_cells h0)
end Go.Proofs.YtgijihfijoiafaaGreatDoor
