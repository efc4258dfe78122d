/- The law TrieNodes. -/
import Derived.Test.YtbmmjpmgkkljgaaDoortWlk
import Derived.Test.YtbmmjpmgkkljgaaDoortLawHas
import Derived.Carry
namespace Go.Proofs.YtbmmjpmgkkljgaaDoor
set_option linter.unusedVariables false
open Go.RowKit Go.ChangeShapes
open Classical in
theorem bag_put {w : World} {b n : Nat} {L : List ByteArray} (h : BagB w b n L) (s : ByteArray) (hs : s.size ≤ 9223372036854775807) (hn : n < 1000000) :
    ∃ w', (Instr.mapUpdate 36 (.map (some b)) (.string s) (.bool true)).run Tryd.prog w = .ok () w' ∧ BagB w' b (n + 1) (if s ∈ L then L else L ++ [s]) ∧ w.grownBy w' (some b) := by
  obtain ⟨D, hown, h1, h2, h3⟩ := h
  obtain ⟨w', hrun, r1, r2⟩ := hown.update lawS Tryd.underlying36 (by unfold maxLen; omega) (keyS s hs) (plainB true)
  refine ⟨w', hrun, ?_, r2⟩
  have hp := bagB_put s hown h1 h2 h3 r1
  by_cases hm : s ∈ L
  · rw [if_pos hm]; exact hp.1 hm
  · rw [if_neg hm]; exact hp.2 hm
/-- The texts of beginnings are as many as nodes, but for the first. -/
theorem wk_len {L : List ByteArray} {P : List PN} {B : List (List Int)} (h : NP L P B) {WK : List ByteArray} (hn : WK.Nodup) (hw : ∀ x, x ∈ WK ↔ ∃ s ∈ L, ∃ q : List Int, q ≠ [] ∧ q <+: rs s ∧ x = tx q) : WK.length + 1 = B.length ∧ below B [] = WK.length ∧ ∀ (c : Nat) (q : List Int), B[c]? = some q → q ≠ [] → tx q ∈ WK := by
  have hin : ∀ q, q ∈ B → q ≠ [] → ∃ s ∈ L, q <+: rs s := fun q hq hne => by
    obtain ⟨i, hi⟩ := List.getElem?_of_mem hq
    rcases h.pre hi with e | e
    · exact absurd e hne
    · exact e
  have hok : ∀ q, q ∈ B → ∀ r ∈ q, okR r = true := fun q hq => by
    obtain ⟨i, hi⟩ := List.getElem?_of_mem hq
    exact (h.ok hi).1
  have hB : ∀ s ∈ L, ∀ q, q <+: rs s → q ∈ B := fun s hs q hq => by
    obtain ⟨t, e⟩ := hq
    obtain ⟨c, hc⟩ := h.ends.has (rs s) (by simp only [List.append_nil, List.mem_reverse, List.mem_map]; exact ⟨s, hs, rfl⟩)
    obtain ⟨i, hi⟩ := h.inv.closed q t.length t c (Nat.le_refl _) (by rw [e]; exact hc)
    exact List.mem_of_getElem? hi
  have h0 : [] ∈ B := List.mem_of_getElem? h.inv.b0
  have hrs : ∀ x ∈ WK, tx (rs x) = x ∧ rs x ∈ B ∧ rs x ≠ [] := fun x hx => by
    obtain ⟨s, hs, q, h1, h2, rfl⟩ := (hw x).1 hx
    have hq := hB s hs q h2
    have e : rs (tx q) = q := rs_text q (hok q hq)
    rw [e]
    exact ⟨rfl, hq, h1⟩
  have hnd : (WK.map rs).Nodup := by
    unfold List.Nodup
    rw [List.pairwise_map]
    refine List.Pairwise.imp_of_mem ?_ hn
    intro a b ha hb hab e
    exact hab (by rw [← (hrs a ha).1, ← (hrs b hb).1, e])
  have hle1 := nodup_le (WK.map rs) (B.erase []) hnd (fun x hx => by
    obtain ⟨y, hy, rfl⟩ := List.mem_map.1 hx
    exact (List.mem_erase_of_ne (hrs y hy).2.2).2 (hrs y hy).2.1)
  have hle2 := nodup_le (B.erase []) (WK.map rs) (h.nod.erase []) (fun q hq => by
    have hq2 := (List.Nodup.mem_erase_iff h.nod).1 hq
    obtain ⟨s, hs, e⟩ := hin q hq2.2 hq2.1
    refine List.mem_map.2 ⟨tx q, (hw _).2 ⟨s, hs, q, hq2.1, e, rfl⟩, rs_text q (hok q hq2.2)⟩)
  rw [List.length_erase_of_mem h0, List.length_map] at hle1 hle2
  have hpos := List.length_pos_of_mem h0
  have hon := on_below h.nod h0
  have hall : onP B [] = B.length := by
    unfold onP
    rw [List.countP_eq_length]
    intro q _
    simp
  refine ⟨by omega, by omega, fun c q hq hne => ?_⟩
  obtain ⟨s, hs, e⟩ := hin q (List.mem_of_getElem? hq) hne
  exact (hw _).2 ⟨s, hs, q, hne, e, rfl⟩
/-- The two maps, while they are filled. -/
structure LS (w3 wr : World) (T nw ne : Nat) (WK EK : List ByteArray) : Prop where
  up : Up w3.heap.size w3 wr
  ct : wr.cell? ⟨w3.heap.size, 0, none⟩ = some (.pointer (some ⟨T, 0, none⟩))
  cw : wr.cell? ⟨w3.heap.size + 1 + 1 + 1, 0, none⟩ = some (.map (some (w3.heap.size + 1)))
  ce : wr.cell? ⟨w3.heap.size + 1 + 1 + 1 + 1, 0, none⟩ = some (.map (some (w3.heap.size + 1 + 1)))
  bW : BagB wr (w3.heap.size + 1) nw WK
  bE : BagB wr (w3.heap.size + 1 + 1) ne EK
theorem LS.stay {w3 wr w' : World} {T nw ne : Nat} {WK EK : List ByteArray} (h : LS w3 wr T nw ne WK EK) (hb : Below wr.heap.size wr w') : LS w3 w' T nw ne WK EK :=
  ⟨h.up.stay hb, cell_stay h.ct hb, cell_stay h.cw hb, cell_stay h.ce hb, h.bW.stay hb, h.bE.stay hb⟩
theorem cell_grown {w w' : World} {a : Addr} {v : Value} {k : Nat} (h : w.cell? a = some v) (hg : w.grownBy w' (some k)) (hk : a.block ≠ k) : w'.cell? a = some v :=
  (World.cell?_of_block (hg.block a.block (World.block_lt_of_cell? w _ h) (fun e => hk (by injection e)))).trans h
theorem LS.putW {w3 wr w' : World} {T nw ne nw' : Nat} {WK EK WK' : List ByteArray} (h : LS w3 wr T nw ne WK EK) (hg : wr.grownBy w' (some (w3.heap.size + 1))) (hb : BagB w' (w3.heap.size + 1) nw' WK') : LS w3 w' T nw' ne WK' EK :=
  ⟨h.up.grown hg (fun k hk => by injection hk with hk; omega), cell_grown h.ct hg (by show w3.heap.size ≠ _; omega), cell_grown h.cw hg (by show w3.heap.size + 1 + 1 + 1 ≠ _; omega), cell_grown h.ce hg (by show w3.heap.size + 1 + 1 + 1 + 1 ≠ _; omega), hb, h.bE.block (hg.block _ h.bE.lt (fun e => by injection e with e; omega))⟩
theorem LS.putE {w3 wr w' : World} {T nw ne ne' : Nat} {WK EK EK' : List ByteArray} (h : LS w3 wr T nw ne WK EK) (hg : wr.grownBy w' (some (w3.heap.size + 1 + 1))) (hb : BagB w' (w3.heap.size + 1 + 1) ne' EK') : LS w3 w' T nw ne' WK EK' :=
  ⟨h.up.grown hg (fun k hk => by injection hk with hk; omega), cell_grown h.ct hg (by show w3.heap.size ≠ _; omega), cell_grown h.cw hg (by show w3.heap.size + 1 + 1 + 1 ≠ _; omega), cell_grown h.ce hg (by show w3.heap.size + 1 + 1 + 1 + 1 ≠ _; omega), h.bW.block (hg.block _ h.bW.lt (fun e => by injection e with e; omega)), hb⟩
theorem sz_alloc (w : World) (o : Obj) : (w.alloc o).heap.size = w.heap.size + 1 := by
  show (w.heap.push _).size = _
  rw [Array.size_push]
theorem new_cell (w : World) (v : Value) (t : TypeId) : (w.alloc (.cells #[v] t)).cell? ⟨w.heap.size, 0, none⟩ = some v := by
  have h := World.rowIs_alloc w #[v] t (fun _ => v) (fun i hi => by
    have : i = 0 := by simpa using hi
    subst this
    rfl)
  exact World.rowIs.cell h (i := 0) (by simp)
theorem ls_new (w3 : World) (T : Nat) : LS w3 (((((w3.alloc (.cells #[.pointer (some ⟨T, 0, none⟩)] 25)).alloc (.map #[] 0)).alloc (.map #[] 0)).alloc (.cells #[.map (some (w3.heap.size + 1))] 36)).alloc (.cells #[.map (some (w3.heap.size + 1 + 1))] 36)) T 0 0 [] [] := by
  obtain ⟨wA, hA⟩ : ∃ x, w3.alloc (.cells #[.pointer (some ⟨T, 0, none⟩)] 25) = x := ⟨_, rfl⟩
  have sA : wA.heap.size = w3.heap.size + 1 := by rw [← hA, sz_alloc]
  have cA : wA.cell? ⟨w3.heap.size, 0, none⟩ = some (.pointer (some ⟨T, 0, none⟩)) := by rw [← hA]; exact new_cell w3 _ _
  have uA : Up w3.heap.size w3 wA := by rw [← hA]; exact (Up.refl w3).alloc _
  rw [hA]
  obtain ⟨wB, hB⟩ : ∃ x, wA.alloc (.map #[] 0) = x := ⟨_, rfl⟩
  have sB : wB.heap.size = w3.heap.size + 1 + 1 := by rw [← hB, sz_alloc, sA]
  have mB : BagB wB (w3.heap.size + 1) 0 [] := by rw [← hB, ← sA]; exact BagB.made wA
  have bB : Below wA.heap.size wA wB := by rw [← hB]; exact (Below.refl _ _).alloc (Nat.le_refl _) _
  rw [hB]
  obtain ⟨wC, hC⟩ : ∃ x, wB.alloc (.map #[] 0) = x := ⟨_, rfl⟩
  have sC : wC.heap.size = w3.heap.size + 1 + 1 + 1 := by rw [← hC, sz_alloc, sB]
  have mC : BagB wC (w3.heap.size + 1 + 1) 0 [] := by rw [← hC, ← sB]; exact BagB.made wB
  have bC : Below wB.heap.size wB wC := by rw [← hC]; exact (Below.refl _ _).alloc (Nat.le_refl _) _
  rw [hC]
  obtain ⟨wD, hD⟩ : ∃ x, wC.alloc (.cells #[.map (some (w3.heap.size + 1))] 36) = x := ⟨_, rfl⟩
  have sD : wD.heap.size = w3.heap.size + 1 + 1 + 1 + 1 := by rw [← hD, sz_alloc, sC]
  have cD : wD.cell? ⟨w3.heap.size + 1 + 1 + 1, 0, none⟩ = some (.map (some (w3.heap.size + 1))) := by rw [← hD, ← sC]; exact new_cell wC _ _
  have bD : Below wC.heap.size wC wD := by rw [← hD]; exact (Below.refl _ _).alloc (Nat.le_refl _) _
  rw [hD]
  obtain ⟨wE, hE⟩ : ∃ x, wD.alloc (.cells #[.map (some (w3.heap.size + 1 + 1))] 36) = x := ⟨_, rfl⟩
  have cE : wE.cell? ⟨w3.heap.size + 1 + 1 + 1 + 1, 0, none⟩ = some (.map (some (w3.heap.size + 1 + 1))) := by rw [← hE, ← sD]; exact new_cell wD _ _
  have bE : Below wD.heap.size wD wE := by rw [← hE]; exact (Below.refl _ _).alloc (Nat.le_refl _) _
  rw [hE]
  exact ⟨(((uA.stay bB).stay bC).stay bD).stay bE, cell_stay (cell_stay (cell_stay (cell_stay cA bB) bC) bD) bE, cell_stay cD bE, cE, ((mB.stay bC).stay bD).stay bE, (mC.stay bD).stay bE⟩
theorem ns_new {w3 wr : World} {T nw ne base m0 : Nat} {WK EK : List ByteArray} {vN : Value} {l : List Nd} (h : LS w3 wr T nw ne WK EK) (hM : TrieM wr base T m0 vN l) (w7 : World) (hw7 : ((wr.alloc (.cells #[.int .i64 0] 3)).alloc (.cells #[.bool true] 4)).alloc (.cells #[Value.func (.func 19) #[] #[Value.pointer (some ⟨w3.heap.size, 0, none⟩), Value.pointer (some ⟨w3.heap.size + 1 + 1 + 1 + 1, 0, none⟩), Value.pointer (some ⟨wr.heap.size + 1, 0, none⟩), Value.pointer (some ⟨w3.heap.size + 1 + 1 + 1, 0, none⟩), Value.pointer (some ⟨wr.heap.size, 0, none⟩), Value.pointer (some ⟨wr.heap.size + 1 + 1, 0, none⟩)]] 40) = w7) :
    NS w7 w3.heap.size (w3.heap.size + 1 + 1 + 1 + 1) (wr.heap.size + 1) (w3.heap.size + 1 + 1 + 1) wr.heap.size (wr.heap.size + 1 + 1) (w3.heap.size + 1 + 1) (w3.heap.size + 1) T base m0 ne nw vN l EK WK ∧ Seen w7 wr.heap.size 0 ∧ Up wr.heap.size wr w7 := by
  have hx := h.bE.lt
  have hb := World.block_lt_of_cell? wr _ h.ce
  have hb' : w3.heap.size + 1 + 1 + 1 + 1 < wr.heap.size := hb
  obtain ⟨wS, hS⟩ : ∃ x, wr.alloc (.cells #[.int .i64 0] 3) = x := ⟨_, rfl⟩
  have sS : wS.heap.size = wr.heap.size + 1 := by rw [← hS, sz_alloc]
  have seS : Seen wS wr.heap.size 0 := by
    rw [← hS]
    exact World.rowIs_alloc wr #[.int .i64 0] 3 (fun _ => .int .i64 ((0 : Nat) : Int)) (fun i hi => by
      have : i = 0 := by simpa using hi
      subst this
      rfl)
  have uS : Up wr.heap.size wr wS := by rw [← hS]; exact (Up.refl wr).alloc _
  rw [hS] at hw7
  obtain ⟨wO, hO⟩ : ∃ x, wS.alloc (.cells #[.bool true] 4) = x := ⟨_, rfl⟩
  have sO : wO.heap.size = wr.heap.size + 1 + 1 := by rw [← hO, sz_alloc, sS]
  have cO : wO.cell? ⟨wr.heap.size + 1, 0, none⟩ = some (.bool true) := by rw [← hO, ← sS]; exact new_cell wS _ _
  have bO : Below wS.heap.size wS wO := by rw [← hO]; exact (Below.refl _ _).alloc (Nat.le_refl _) _
  rw [hO] at hw7
  have cK : w7.cell? ⟨wr.heap.size + 1 + 1, 0, none⟩ = some (Value.func (.func 19) #[] #[Value.pointer (some ⟨w3.heap.size, 0, none⟩), Value.pointer (some ⟨w3.heap.size + 1 + 1 + 1 + 1, 0, none⟩), Value.pointer (some ⟨wr.heap.size + 1, 0, none⟩), Value.pointer (some ⟨w3.heap.size + 1 + 1 + 1, 0, none⟩), Value.pointer (some ⟨wr.heap.size, 0, none⟩), Value.pointer (some ⟨wr.heap.size + 1 + 1, 0, none⟩)]) := by rw [← hw7, ← sO]; exact new_cell wO _ _
  have bK : Below wO.heap.size wO w7 := by rw [← hw7]; exact (Below.refl _ _).alloc (Nat.le_refl _) _
  have u7 : Up wr.heap.size wr w7 := (uS.stay bO).stay bK
  have h7 := h.stay u7.1
  refine ⟨⟨h7.ct, h7.ce, h7.cw, cell_stay cO bK, cK, hM.stay u7.1, h7.bE, h7.bW, ⟨by omega, by omega, by omega, by omega, by omega, by omega, by omega⟩, fun k hk => ?_⟩, (seS.stay bO).stay bK, u7⟩
  have := (hM.lt k hk).2
  omega
set_option maxHeartbeats 4000000 in
set_option maxRecDepth 100000 in
theorem nodes_law (w : World) (hT : Tabs w) (v : Value) (Ls : List ByteArray) (hv : TL w v Ls) (hl : Ls.length ≤ 2000000) (hsz : ∀ s ∈ Ls, s.size ≤ 2000000) :
    Calls Tryd.prog 5 #[v] w fun e w' => e = .returned (.bool true) ∧ Below w.heap.size w w' := by
  have HT : Hid (Tabs w) := hT
  have HV : Hid (TL w v Ls) := hv
  have HZ : Hid (∀ s ∈ Ls, s.size ≤ 2000000) := hsz
  obtain ⟨ad, c, rfl, -⟩ := hv
  clear hT hsz
  obtain ⟨hr, hgd, hL61⟩ := srtL_good Ls
  have HR : Hid (RiseK id (srtL Ls)) := hr
  have HG : Hid (∀ x ∈ srtL Ls, GoodW x) := hgd
  clear hr hgd
  have c0 := awake_any w HT.out
  go_enter Tryd.func5, Tryd.ntmps5
  go_wp2_with fail
  refine c0.mono ?_
  rintro e w1 ⟨rfl, hb1⟩
  have HU1 : Hid (Up w.heap.size w w1) := (Up.refl w).stay hb1
  clear hb1 c0
  have c1 := sorted_any w1 (tabs_stay HT.out HU1.out.1) (.slice ad Ls.length c) Ls (HV.out.stay HU1.out.1) hl HZ.out
  go_wp2_with fail
  refine c1.mono ?_
  rintro e w2 ⟨v2, rfl, hO2, hU2⟩
  have HO2 : Hid (OS w2 w1.heap.size v2 (srtL Ls)) := hO2
  have HU2 : Hid (Up w.heap.size w w2) := HU1.out.stay hU2.1
  clear hO2 hU2 c1
  generalize eL : srtL Ls = L at *
  clear eL
  obtain ⟨ado, co, rfl, -, -, -⟩ := HO2.out.form
  have cM := made_has w2 (tabs_stay HT.out HU2.out.1) (.slice ado L.length co) L HO2.out.tl HR.out HG.out (by omega)
  go_wp2_with fail
  refine cM.mono ?_
  rintro e w3 ⟨hb3, vN, l, rfl, hM, hl1, hl2, hl3, hl4⟩
  have HO3 : Hid (OS w3 w1.heap.size (.slice ado L.length co) L) := HO2.out.stay hb3
  have HU3 : Hid (Up w.heap.size w w3) := HU2.out.stay hb3
  have HM3 : Hid (TrieM w3 w2.heap.size (w2.heap.size + 1) L.length vN l) := hM
  have HL3 : Hid (l.map Nd.p = (makeP L).2 ∧ OkP (makeP L).2 ∧ (makeP L).2.length ≤ 300000 ∧ 0 < (makeP L).2.length) := ⟨hl1, hl2, hl3, hl4⟩
  obtain ⟨T, eT⟩ : ∃ x, w2.heap.size + 1 = x := ⟨_, rfl⟩
  rw [eT] at HM3 ⊢
  clear hb3 hM hl1 hl2 hl3 hl4 cM HO2 HU2 eT
  have hmm := @run_makeMap Tryd.prog
  have HLS0 : Hid (LS w3 (((((w3.alloc (.cells #[.pointer (some ⟨T, 0, none⟩)] 25)).alloc (.map #[] 0)).alloc (.map #[] 0)).alloc (.cells #[.map (some (w3.heap.size + 1))] 36)).alloc (.cells #[.map (some (w3.heap.size + 1 + 1))] 36)) T 0 0 [] []) := ls_new w3 T
  go_wp2
  clear hmm
  obtain ⟨w5, hw5⟩ : ∃ x, (((((w3.alloc (.cells #[.pointer (some ⟨T, 0, none⟩)] 25)).alloc (.map #[] 0)).alloc (.map #[] 0)).alloc (.cells #[.map (some (w3.heap.size + 1))] 36)).alloc (.cells #[.map (some (w3.heap.size + 1 + 1))] 36)) = x := ⟨_, rfl⟩
  rw [hw5] at HLS0 ⊢
  clear hw5
  obtain ⟨nL, hnL⟩ : ∃ q, L.length = q := ⟨_, rfl⟩
  have HLn : Hid (L.length = nL) := hnL
  rw [hnL] at hL61 HO3 HM3 ⊢
  clear hnL
  go_loopg [27] nL (fun g iv wr => ∃ (i nw ne : Nat) (WK EK : List ByteArray), i ≤ nL ∧ g = nL - i ∧ iv = .int .i64 i ∧ nw ≤ i * 12 ∧ ne ≤ i ∧ Hid (LS w3 wr T nw ne WK EK) ∧ Hid (WK.Nodup ∧ ∀ x, x ∈ WK ↔ ∃ s ∈ L.take i, ∃ q : List Int, q ≠ [] ∧ q <+: rs s ∧ x = tx q) ∧ Hid (EK = L.take i))
  case atStart => exact ⟨0, 0, 0, [], [], Nat.zero_le _, rfl, rfl, Nat.zero_le _, Nat.zero_le _, HLS0, ⟨List.Pairwise.nil, fun x => ⟨fun h => (by cases h), fun ⟨s, hs, _⟩ => (by simp at hs)⟩⟩, rfl⟩
  case round =>
    obtain ⟨i, nw, ne, WK, EK, hin, hg, rfl, hnw, hne, HLS, HWK, HEK⟩ := hrel
    have z0 : (0 : Int) ≤ (i : Int) := by omega
    by_cases hlt : i < nL
    · have z1 : (i : Int) < (nL : Int) := by omega
      have hlen := HLn.out
      obtain ⟨_, _, hov, _, hno3, hso3⟩ := HO3.out.form
      injection hov with hov1 hov2 hov3
      subst hov1 hov3
      obtain ⟨a, ha⟩ : ∃ a, ado = some a := by
        cases ado with
        | none => have := (hno3 rfl).1; subst this; simp at hlen; omega
        | some a => exact ⟨a, rfl⟩
      obtain ⟨g0, rfl, _, _, hcs⟩ := hso3 a ha
      subst ha
      have hck := cell_stay (hcs i (by omega)) HLS.out.up.1
      have HGs : Hid (GoodW (L[i]'(by omega))) := HG.out _ (List.getElem_mem _)
      have HTk : Hid (L.take (i + 1) = L.take i ++ [L[i]'(by omega)]) := (List.take_append_getElem (by omega)).symm
      have HNI : Hid (L[i]'(by omega) ∉ L.take i) := fun hm => by
        obtain ⟨q, hq, e⟩ := List.getElem_of_mem hm
        rw [List.length_take] at hq
        rw [List.getElem_take] at e
        have hp := List.pairwise_iff_getElem.1 HR.out q i (by omega) (by omega) (by omega)
        have hp' : lw (L[q]'(by omega)) (L[i]'(by omega)) = true := hp
        rw [e, lw_irrefl] at hp'
        cases hp'
      generalize L[i]'(by omega) = s at hck HGs HTk HNI
      clear hno3 hso3 hcs hov2
      have hs48 := HGs.out.2.1
      have hs12 := HGs.out.2.2.2
      have cR := runes_any s wr (by omega) (tabs_stay HT.out (HU3.out.stay HLS.out.up.1).1)
      go_wp2_with fail
      refine cR.mono ?_
      rintro e wu ⟨k', v9, rfl, hE, hO9, hb9⟩
      obtain rfl : k' = kS s := (kS_is hE).symm
      rw [rcells_rs, ← rs_len] at hO9
      have HO9 : Hid (wu.ownsRow wr.heap.size 21 1 v9 (rs s).length ((rs s).map i32c)) := hO9
      obtain ⟨a9, c9, rfl, hc9, -⟩ := own_rsl hO9
      have HLSu : Hid (LS w3 wu T nw ne WK EK) := HLS.out.stay hb9
      have hwu : wr.heap.size ≤ wu.heap.size := hb9.size
      have hwb : w3.heap.size + 1 + 1 < wr.heap.size := HLS.out.bE.lt
      obtain ⟨B9, eB9⟩ : ∃ q, wr.heap.size = q := ⟨_, rfl⟩
      rw [eB9] at HO9 hwb hwu
      obtain ⟨kk, hkk⟩ : ∃ q, (rs s).length = q := ⟨_, rfl⟩
      have HKK : Hid ((rs s).length = kk) := hkk
      rw [hkk] at hs12 hc9 HO9 ⊢
      clear hE hO9 hb9 cR hkk HLS
      go_wp2
      go_loopg [35] kk (fun g jv wx => ∃ (j nw' : Nat) (WK' : List ByteArray), j ≤ kk ∧ g = kk - j ∧ jv = .int .i64 j ∧ nw' ≤ nw + j ∧ Hid (LS w3 wx T nw' ne WK' EK) ∧ Hid (WK'.Nodup ∧ ∀ x, x ∈ WK' ↔ (x ∈ WK ∨ ∃ j', j' < j ∧ x = tx ((rs s).take (j' + 1)))) ∧ Hid (wx.ownsRow B9 21 1 (.slice a9 kk c9) kk ((rs s).map i32c)))
      case atStart => exact ⟨0, nw, WK, Nat.zero_le _, rfl, rfl, Nat.le_refl _, HLSu, ⟨HWK.out.1, fun x => ⟨Or.inl, fun h => h.elim id (fun ⟨j', h1, _⟩ => absurd h1 (Nat.not_lt_zero j'))⟩⟩, HO9⟩
      case round =>
        obtain ⟨j, nw', WK', hjn, hg2, rfl, hnw', HLx, HWx, HOx⟩ := hrel
        have y0 : (0 : Int) ≤ (j : Int) := by omega
        by_cases hjk : j < kk
        · have y1 : (j : Int) < (kk : Int) := by omega
          have y2 : (j : Int) + 1 ≤ (c9 : Int) := by omega
          have y3 : (0 : Int) ≤ (j : Int) + 1 := by omega
          have y4 : IntKind.i64.wrap ((j : Int) + 1) = (j : Int) + 1 := (IntWalk.i64_left _).trans (IntWalk.wrap64_in _ (by omega))
          have y5 : ((j : Int) + 1).toNat = j + 1 := by omega
          have y6 : j + 1 ≤ c9 := by omega
          obtain ⟨ax, cx, hvx, _, hrx⟩ := own_rsl (f := rs s) (by rw [HKK.out]; exact HOx.out)
          injection hvx with hv1 hv2 hv3
          subst hv1 hv3
          clear hv2
          have hrj := hrx (j + 1) (by rw [HKK.out]; omega)
          have htx : strOfNums (txt (fun q => (rs s).getD q 0) (j + 1)) = tx ((rs s).take (j + 1)) := by
            rw [txt_take _ _ (by rw [HKK.out]; omega)]; rfl
          have HTX : Hid (∀ w', Up wr.heap.size wr w' → Calls Tryd.prog 18 #[.slice a9 (j + 1) c9] w' fun e w'' => e = .returned (.string (tx ((rs s).take (j + 1)))) ∧ w''.cell? ⟨w3.heap.size + 1 + 1 + 1, 0, none⟩ = some (.map (some (w3.heap.size + 1))) ∧ Up wr.heap.size wr w'') := fun w' hu => by
            have := text_any (fun q => (rs s).getD q 0) (j + 1) (.slice a9 (j + 1) c9) w' (by omega) (hrj.stay hu.1)
            rw [htx] at this
            exact this.mono fun _ _ ⟨h1, h2⟩ => ⟨h1, cell_stay HLx.out.cw (hu.stay h2).1, hu.stay h2⟩
          have HPUT : Hid (∀ w', Up wr.heap.size wr w' → ∃ w6, (Instr.mapUpdate 36 (.map (some (w3.heap.size + 1))) (.string (tx ((rs s).take (j + 1)))) (.bool true)).run Tryd.prog w' = .ok () w6 ∧ w6.cell? ⟨w3.heap.size + 1 + 1 + 1, 0, none⟩ = some (.map (some (w3.heap.size + 1))) ∧ w6.ownsRow B9 21 1 (.slice a9 kk c9) kk ((rs s).map i32c) ∧ ∃ WK'', LS w3 w6 T (nw' + 1) ne WK'' EK ∧ (WK''.Nodup ∧ ∀ x, x ∈ WK'' ↔ (x ∈ WK' ∨ x = tx ((rs s).take (j + 1))))) := fun w' hu => by
            have hL := HLx.out.stay hu.1
            obtain ⟨w6, h1, h2, h3⟩ := bag_put hL.bW (tx ((rs s).take (j + 1))) (by have := tx_size ((rs s).take (j + 1)); rw [List.length_take] at this; omega) (by omega)
            have hL6 := hL.putW h3 h2
            refine ⟨w6, h1, hL6.cw, ?_, _, hL6, ?_⟩
            · refine own_of_blocks (own_stay HOx.out hu.1) (fun q hq => h3.block q ((own_stay HOx.out hu.1).lt q hq).2 (fun e => ?_))
              injection e with e
              have := ((own_stay HOx.out hu.1).lt q hq).1
              omega
            by_cases hm : tx ((rs s).take (j + 1)) ∈ WK'
            · rw [if_pos hm]
              exact ⟨HWx.out.1, fun x => ⟨Or.inl, fun h => h.elim id (fun e => by rw [e]; exact hm)⟩⟩
            · rw [if_neg hm]
              refine ⟨?_, fun x => by simp⟩
              rw [List.nodup_append]
              exact ⟨HWx.out.1, by simp, fun a ha b hb => by simp at hb; subst hb; exact fun e => hm (by rw [← e]; exact ha)⟩
          have hcw := HLx.out.cw
          clear hrx hrj htx
          go_upto_region 13 with fail
          go_region_held3 (fun w' => w'.cell? ⟨w3.heap.size + 1 + 1 + 1, 0, none⟩ = some (.map (some (w3.heap.size + 1)))) (first | exact hcw | assumption) (first | (go_at_call 18; refine (HTX.out _ (Up.refl wr).drew).mono ?_; rintro e w' ⟨rfl, hSc, hw'⟩; obtain ⟨w6, hrun, hS6, hX6⟩ := HPUT.out w' hw'))
          all_goals
            obtain ⟨hO6, WK'', hL6, hN6, hI6⟩ := hX6
            have HL6 : Hid (LS w3 w6 T (nw' + 1) ne WK'' EK) := hL6
            have HO6 : Hid (w6.ownsRow B9 21 1 (.slice a9 kk c9) kk ((rs s).map i32c)) := hO6
            have HW6 : Hid (WK''.Nodup ∧ ∀ x, x ∈ WK'' ↔ (x ∈ WK ∨ ∃ j', j' < j + 1 ∧ x = tx ((rs s).take (j' + 1)))) := by
              refine ⟨hN6, fun x => ?_⟩
              rw [hI6, HWx.out.2]
              constructor
              · rintro ((h | ⟨j', h1, h2⟩) | h)
                · exact Or.inl h
                · exact Or.inr ⟨j', by omega, h2⟩
                · exact Or.inr ⟨j, by omega, h⟩
              · rintro (h | ⟨j', h1, h2⟩)
                · exact Or.inl (Or.inl h)
                · rcases Nat.lt_or_ge j' j with q | q
                  · exact Or.inl (Or.inr ⟨j', q, h2⟩)
                  · obtain rfl : j' = j := by omega
                    exact Or.inr h2
            clear hO6 hL6 hN6 hI6 hrun hSc hw' hS6
            go_wp2
            go_roundg (kk - (j + 1))
            case measure => omega
            case rel => exact ⟨j + 1, nw' + 1, WK'', by omega, rfl, by go_num, by omega, HL6, HW6, HO6⟩
        · obtain rfl : j = kk := by omega
          have y1 : ¬ (j : Int) < (j : Int) := by omega
          obtain ⟨w6, hrun, hbg, hgr⟩ := bag_put HLx.out.bE s (by omega) (by omega)
          have HL6 := HLx.out.putE hgr hbg
          have hce := HLx.out.ce
          have HL7 : Hid (∃ EK', LS w3 w6 T nw' (ne + 1) WK' EK' ∧ EK' = L.take (i + 1)) := by
            refine ⟨_, HL6, ?_⟩
            rw [if_neg (by rw [HEK.out]; exact HNI.out), HTk.out, HEK.out]
          have HW7 : Hid (WK'.Nodup ∧ ∀ x, x ∈ WK' ↔ ∃ s ∈ L.take (i + 1), ∃ q : List Int, q ≠ [] ∧ q <+: rs s ∧ x = tx q) := by
            refine ⟨HWx.out.1, fun x => ?_⟩
            rw [HWx.out.2, HWK.out.2, HTk.out]
            constructor
            · rintro (⟨s', h1, h2⟩ | ⟨j', h1, h2⟩)
              · exact ⟨s', List.mem_append_left _ h1, h2⟩
              · refine ⟨s, List.mem_append_right _ (List.mem_singleton.2 rfl), _, ?_, List.take_prefix _ _, h2⟩
                intro e
                have := congrArg List.length e
                rw [List.length_take, HKK.out] at this
                simp at this
                omega
            · rintro ⟨s', h1, q, h2, h3, h4⟩
              rcases List.mem_append.1 h1 with h | h
              · exact Or.inl ⟨s', h, q, h2, h3, h4⟩
              · obtain rfl : s' = s := by simpa using h
                have hq := List.prefix_iff_eq_take.1 h3
                have hp : 0 < q.length := List.length_pos_iff.2 h2
                have hq2 := h3.length_le
                rw [HKK.out] at hq2
                refine Or.inr ⟨q.length - 1, by omega, ?_⟩
                rw [show q.length - 1 + 1 = q.length by omega, ← hq]
                exact h4
          clear hbg hgr HL6
          go_wp2
          go_roundg (nL - (i + 1))
          case measure => omega
          case rel =>
            obtain ⟨EK', h1, h2⟩ := HL7.out
            exact ⟨i + 1, nw', ne + 1, WK', EK', by omega, rfl, by go_num, by omega, by omega, h1, HW7, h2⟩
    · obtain rfl : i = nL := by omega
      have z1 : ¬ (i : Int) < (i : Int) := by omega
      have hlen := HLn.out
      have htk : L.take i = L := List.take_of_length_le (by omega)
      have hEKL : EK = L := by rw [HEK.out, htk]
      subst hEKL
      have hwk := HWK.out
      rw [htk] at hwk
      obtain ⟨B, hNP'⟩ := NP.of (makeP_zero HR.out HG.out (by omega)) HG.out
      have hNP : NP EK (l.map Nd.p) B := by rw [HL3.out.1]; exact hNP'
      obtain ⟨hw1, hw2, hw3⟩ := wk_len hNP hwk.1 hwk.2
      have hll : l.length ≤ 300000 := by have := HL3.out.2.2.1; rw [← HL3.out.1, List.length_map] at this; exact this
      have hBl : B.length = l.length := by rw [hNP.inv.len, List.length_map]
      obtain ⟨N, eN⟩ : ∃ q, WK.length = q := ⟨_, rfl⟩
      rw [eN] at hw1 hw2
      have HNPx : Hid (NP EK (l.map Nd.p) B) := hNP
      have HWx : Hid (∀ (c : Nat) (q : List Int), B[c]? = some q → q ≠ [] → tx q ∈ WK) := hw3
      have HNN : Hid (WK.length = N ∧ below B [] = N ∧ l.length = N + 1) := ⟨eN, hw2, by omega⟩
      have hN3 : N ≤ 300000 := by omega
      obtain ⟨w7, hw7⟩ : ∃ x, ((wr.alloc (.cells #[.int .i64 0] 3)).alloc (.cells #[.bool true] 4)).alloc (.cells #[Value.func (.func 19) #[] #[Value.pointer (some ⟨w3.heap.size, 0, none⟩), Value.pointer (some ⟨w3.heap.size + 1 + 1 + 1 + 1, 0, none⟩), Value.pointer (some ⟨wr.heap.size + 1, 0, none⟩), Value.pointer (some ⟨w3.heap.size + 1 + 1 + 1, 0, none⟩), Value.pointer (some ⟨wr.heap.size, 0, none⟩), Value.pointer (some ⟨wr.heap.size + 1 + 1, 0, none⟩)]] 40) = x := ⟨_, rfl⟩
      clear hwk hNP hNP' hw1 hw2 hw3 hBl eN
      have hsf : ∀ (a : Addr) (fn : Fn) (x y : Array Value) (w : World), (store a (.func fn x y)).run Tryd.prog w = stored Tryd.prog w a (.func fn x y) .plain := fun a fn x y w => run_store Tryd.prog w a (.func fn x y) .plain rfl
      obtain ⟨hNS7, hSe7, hU7⟩ := ns_new HLS.out (HM3.out.stay HLS.out.up.1) w7 hw7
      have HNS : Hid (NS w7 w3.heap.size (w3.heap.size + 1 + 1 + 1 + 1) (wr.heap.size + 1) (w3.heap.size + 1 + 1 + 1) wr.heap.size (wr.heap.size + 1 + 1) (w3.heap.size + 1 + 1) (w3.heap.size + 1) T w2.heap.size i ne nw vN l EK WK) := hNS7
      have HSE : Hid (Seen w7 wr.heap.size 0) := hSe7
      have HU7 : Hid (Up w.heap.size w w7) := (HU3.out.stay HLS.out.up.1).stay hU7.1
      have hwr3 : w.heap.size ≤ wr.heap.size := (HU3.out.stay HLS.out.up.1).2
      have hbk := hNS7.ck
      unfold P1 at hbk
      have HSX : Hid ((fun w' => w'.cell? ⟨wr.heap.size + 1 + 1, 0, none⟩ = some (Value.func (.func 19) #[] #[Value.pointer (some ⟨w3.heap.size, 0, none⟩), Value.pointer (some ⟨w3.heap.size + 1 + 1 + 1 + 1, 0, none⟩), Value.pointer (some ⟨wr.heap.size + 1, 0, none⟩), Value.pointer (some ⟨w3.heap.size + 1 + 1 + 1, 0, none⟩), Value.pointer (some ⟨wr.heap.size, 0, none⟩), Value.pointer (some ⟨wr.heap.size + 1 + 1, 0, none⟩)]) ∧ w'.cell? ⟨w3.heap.size, 0, none⟩ = some (.pointer (some ⟨T, 0, none⟩))) w7.drew) := ⟨hbk, hNS7.ct⟩
      have HCL : Hid (Calls Tryd.prog 19 #[.int .i64 0, .string ⟨#[]⟩, .int .i64 0, Value.pointer (some ⟨w3.heap.size, 0, none⟩), Value.pointer (some ⟨w3.heap.size + 1 + 1 + 1 + 1, 0, none⟩), Value.pointer (some ⟨wr.heap.size + 1, 0, none⟩), Value.pointer (some ⟨w3.heap.size + 1 + 1 + 1, 0, none⟩), Value.pointer (some ⟨wr.heap.size, 0, none⟩), Value.pointer (some ⟨wr.heap.size + 1 + 1, 0, none⟩)] w7.drew fun e w'' => (∃ u, e = .returned u) ∧ ((fun w' => w'.cell? ⟨wr.heap.size + 1 + 1, 0, none⟩ = some (Value.func (.func 19) #[] #[Value.pointer (some ⟨w3.heap.size, 0, none⟩), Value.pointer (some ⟨w3.heap.size + 1 + 1 + 1 + 1, 0, none⟩), Value.pointer (some ⟨wr.heap.size + 1, 0, none⟩), Value.pointer (some ⟨w3.heap.size + 1 + 1 + 1, 0, none⟩), Value.pointer (some ⟨wr.heap.size, 0, none⟩), Value.pointer (some ⟨wr.heap.size + 1 + 1, 0, none⟩)]) ∧ w'.cell? ⟨w3.heap.size, 0, none⟩ = some (.pointer (some ⟨T, 0, none⟩))) w'' ∧ (Went w7 w'' (· = wr.heap.size) (· = wr.heap.size) ∧ Seen w'' wr.heap.size N))) := by
        have hx := walk_any HNPx.out hll HWx.out 13 0 [] HNPx.out.inv.b0 rfl w7.drew 0 (hNS7.went (went_drew (Went.refl _ _))) (World.rowIs.drew hSe7) (by rw [HNN.out.2.1]; omega)
        rw [HNN.out.2.1, Nat.zero_add] at hx
        refine Calls.mono hx ?_
        rintro e w'' ⟨hu, hw, hse⟩
        have hw' : Went w7 w'' (· = wr.heap.size) (· = wr.heap.size) := (went_drew (Went.refl _ _)).trans hw
        exact ⟨hu, ⟨cell_went hbk hw' hNS7.ap.2.2.2.2.1, (hNS7.went hw').ct⟩, hw', hse⟩
      clear hNS7 hSe7 hU7 hbk
      go_upto_region 21 with fail
      go_region_held3 (fun w' => w'.cell? ⟨wr.heap.size + 1 + 1, 0, none⟩ = some (Value.func (.func 19) #[] #[Value.pointer (some ⟨w3.heap.size, 0, none⟩), Value.pointer (some ⟨w3.heap.size + 1 + 1 + 1 + 1, 0, none⟩), Value.pointer (some ⟨wr.heap.size + 1, 0, none⟩), Value.pointer (some ⟨w3.heap.size + 1 + 1 + 1, 0, none⟩), Value.pointer (some ⟨wr.heap.size, 0, none⟩), Value.pointer (some ⟨wr.heap.size + 1 + 1, 0, none⟩)]) ∧ w'.cell? ⟨w3.heap.size, 0, none⟩ = some (.pointer (some ⟨T, 0, none⟩))) (first | exact HSX.out | assumption) (first | (go_at_call 22; refine (root_any _ _).mono ?_; rintro e w' ⟨rfl, hwr⟩; subst w') | (go_at_call 19; refine Calls.mono HCL.out ?_; rintro e w' ⟨⟨u, rfl⟩, hS', hX'⟩))
      have HN8 := HNS.out.went hX'.1
      have HNS8 : Hid (NS w' w3.heap.size (w3.heap.size + 1 + 1 + 1 + 1) (wr.heap.size + 1) (w3.heap.size + 1 + 1 + 1) wr.heap.size (wr.heap.size + 1 + 1) (w3.heap.size + 1 + 1) (w3.heap.size + 1) T w2.heap.size i ne nw vN l EK WK) := HN8
      have hS8 := hX'.2.cell
      have HU8 : Hid (Up w.heap.size w w') := ⟨(HU7.out.1).trans (hX'.1.below HU7.out.2 (fun k hk => by omega)), Nat.le_trans HU7.out.2 hX'.1.size⟩
      have hco := HN8.co
      have hcw := HN8.cw
      have hct := HN8.ct
      have hln : ∀ nq : Nat, (Builtin.len_ #[36] 3 #[.map (some (w3.heap.size + 1))]).run Tryd.prog (w'.drewN nq) = .ok (.int .i64 (N : Int)) (w'.drewN nq) := fun nq => by
        have hb : BagB (w'.drewN nq) (w3.heap.size + 1) nw WK := HN8.bW.block rfl
        have := hb.count 3
        rw [HNN.out.1] at this
        exact this
      have HSz : Hid (∀ nq : Nat, Calls Tryd.prog 23 #[.pointer (some ⟨T, 0, none⟩)] (w'.drewN nq) fun e w'' => e = .returned (.int .i64 (N : Int)) ∧ w'' = w'.drewN nq) := fun nq => by
        have hb : TrieM (w'.drewN nq) w2.heap.size T i vN l := HN8.tr.keep (fun k hk => rfl)
        have := size_any hb (by have := HNN.out.2.2; omega) (by omega)
        rw [show l.length - 1 = N by have := HNN.out.2.2; omega] at this
        exact this
      clear HN8 hX' hS'
      go_upto_region 22 with fail
      go_quiet (first | (go_at_call 23; exact Calls.quiet_of_same (HSz.out _)))
      go_wp2
      go_ret
      exact ⟨rfl, (HU8.out.drewN _).1⟩
end Go.Proofs.YtbmmjpmgkkljgaaDoor
