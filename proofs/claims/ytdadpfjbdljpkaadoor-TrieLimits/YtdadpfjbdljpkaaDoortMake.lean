/- trie.Make. -/
import Derived.Test.YtdadpfjbdljpkaaDoortChk
namespace Go.Proofs.YtdadpfjbdljpkaaDoor
set_option linter.unusedVariables false
open Go.RowKit Go.ChangeShapes
theorem ends_go (s : ByteArray) : ∀ d k, s.size - pos s k ≤ d → (∀ j, j < k → pos s j < s.size) → ∃ K, Ends s K
  | 0, k, hd, h => ⟨k, ⟨by have := pos_le s k h; omega, h⟩⟩
  | d + 1, k, hd, h => by
    by_cases h1 : pos s k < s.size
    · have h2 := (wd_pos s (pos s k) h1).1
      refine ends_go s d (k + 1) (by simp only [pos]; omega) (fun j hj => ?_)
      rcases Nat.lt_succ_iff_lt_or_eq.1 hj with h3 | h3
      · exact h j h3
      · rw [h3]; exact h1
    · exact ⟨k, ⟨by have := pos_le s k h; omega, h⟩⟩
theorem ends_ex (s : ByteArray) : ∃ K, Ends s K := ends_go s s.size 0 (by omega) (fun j hj => absurd hj (Nat.not_lt_zero j))
/-- How many signs. -/
def kG (s : ByteArray) : Nat → Nat → Nat
  | 0, k => k
  | f + 1, k => if pos s k = s.size then k else kG s f (k + 1)
theorem kG_ends {s : ByteArray} {K : Nat} (hK : Ends s K) : ∀ f k, k ≤ K → K ≤ k + f → kG s f k = K
  | 0, k, h1, h2 => by show k = K; omega
  | f + 1, k, h1, h2 => by
    show (if pos s k = s.size then k else kG s f (k + 1)) = K
    by_cases h : pos s k = s.size
    · rw [if_pos h]
      rcases Nat.lt_or_ge k K with hl | hg
      · exact absurd h (Nat.ne_of_lt (hK.2 k hl))
      · omega
    · rw [if_neg h]
      have hne : k ≠ K := fun e => h (by rw [e]; exact hK.1)
      exact kG_ends hK f (k + 1) (by omega) (by omega)
def kS (s : ByteArray) : Nat := kG s s.size 0
theorem kS_ends (s : ByteArray) : Ends s (kS s) := by
  obtain ⟨K, hK⟩ := ends_ex s
  have hl := hK.le
  have h := kG_ends hK s.size 0 (Nat.zero_le _) (by omega)
  show Ends s (kG s s.size 0)
  rw [h]
  exact hK
theorem kS_is {s : ByteArray} {k : Nat} (h : Ends s k) : kS s = k := (kS_ends s).one h
/-- Bytes are equal or not. -/
def bytesDec : DecidableEq ByteArray := fun s t => decidable_of_iff (s.data = t.data) ⟨fun h => by cases s; cases t; cases h; rfl, fun h => by rw [h]⟩
/-- A text is in a list or not. -/
def memDec (s : ByteArray) : (L : List ByteArray) → Decidable (s ∈ L)
  | [] => isFalse (by simp)
  | t :: L => match bytesDec s t with
    | isTrue h => isTrue (by simp [h])
    | isFalse h => match memDec s L with
      | isTrue k => isTrue (List.mem_cons_of_mem _ k)
      | isFalse k => isFalse (by simp [h, k])
def rs (s : ByteArray) : List Int := rl s (kS s)
/-- What Make tells of words, and the nodes. -/
def makeG : Nat → ByteArray → List PN → List ByteArray → Int × List PN
  | _, _, P, [] => (0, P)
  | i, a, P, s :: L => if chkP i s a (rs s) = 0 then makeG (i + 1) s (addP P (rs s)) L else (chkP i s a (rs s), P)
def makeP (L : List ByteArray) : Int × List PN := makeG 0 ⟨#[]⟩ [pn0] L
theorem makeG_drop {L : List ByteArray} {j : Nat} {s : ByteArray} (h : L[j]? = some s) (i : Nat) (a : ByteArray) (P : List PN) : makeG i a P (L.drop j) = if chkP i s a (rs s) = 0 then makeG (i + 1) s (addP P (rs s)) (L.drop (j + 1)) else (chkP i s a (rs s), P) := by
  have hd : L.drop j = s :: L.drop (j + 1) := by
    obtain ⟨hlt, e⟩ := List.getElem?_eq_some_iff.1 h
    rw [← e]; exact List.drop_eq_getElem_cons hlt
  rw [hd]; rfl
theorem chkP_zero {i : Nat} {s a : ByteArray} {L : List Int} (h : chkP i s a L = 0) : s.size ≤ 64 ∧ i < 4096 := by
  unfold chkP at h
  split at h
  · cases h
  · split at h
    · cases h
    · split at h
      · cases h
      · split at h
        · cases h
        · exact ⟨by omega, by omega⟩
/-- Texts in a row. -/
def TL (w : World) (v : Value) (L : List ByteArray) : Prop := ∃ ad c, v = .slice ad L.length c ∧ ∀ (j : Nat) (s : ByteArray), L[j]? = some s → ∃ b off, ad = some ⟨b, off, none⟩ ∧ w.cell? ⟨b, off + j, none⟩ = some (.string s)
theorem TL.stay {w w' : World} {v : Value} {L : List ByteArray} (h : TL w v L) (hb : Below w.heap.size w w') : TL w' v L := by
  obtain ⟨ad, c, e, h⟩ := h
  refine ⟨ad, c, e, fun j s hs => ?_⟩
  obtain ⟨b, off, e1, e2⟩ := h j s hs
  exact ⟨b, off, e1, cell_stay e2 hb⟩
theorem Went.below {w w' : World} {F F' : Nat → Prop} {B : Nat} (h : Went w w' F F') (hB : B ≤ w.heap.size) (hF : ∀ k, F k → B ≤ k) : Below B w w' :=
  ⟨h.os, h.tape, h.output, h.size, fun k hk => h.far k (by omega) (fun hk' => by have := hF k hk'; omega)⟩
theorem OkP0 : OkP [pn0] := by
  intro n hn
  simp at hn; subst hn
  exact ⟨rfl, (fun c hc => absurd hc List.not_mem_nil), Nat.zero_le _⟩
/-- As it is made first. -/
theorem trie_new (w : World) (e1 : Obj) (he : e1 = .cells #[.slice none 0 0, .slice none 0 0, .bool false] 65) :
    TrieM ((w.alloc e1).alloc (.cells #[.int .i64 0, .slice (some ⟨w.heap.size, 0, none⟩) 1 1] 52)) w.heap.size (w.heap.size + 1) 0 (.slice (some ⟨w.heap.size, 0, none⟩) 1 1) [nd0] := by
  subst he
  have h0 := World.ownsRow_lit (base := w.heap.size) (e := 65) (size := 3) w #[.slice none 0 0, .slice none 0 0, .bool false] 1 (Nat.le_refl _) (by unfold maxLen; omega) rfl
  refine ⟨by omega, ?_, ?_, ?_, ?_, ?_, ?_⟩
  · have := heap_alloc_new (w.alloc (.cells #[.slice none 0 0, .slice none 0 0, .bool false] 65)) (.cells #[.int .i64 0, .slice (some ⟨w.heap.size, 0, none⟩) 1 1] 52)
    simpa using this
  · exact h0.alloc _
  · intro i n hn
    match i, hn with
    | 0, hn => simp at hn; subst hn; exact World.ownsRow_nil _ _ _ _
    | i + 1, hn => simp at hn
  · intro i n hn
    match i, hn with
    | 0, hn => simp at hn; subst hn; exact World.ownsRow_nil _ _ _ _
    | i + 1, hn => simp at hn
  · intro i j a b g hi hj hga
    match i, hi with
    | 0, hi => simp at hi; subst hi; cases hga
    | i + 1, hi => simp at hi
  · intro i j a b g hi hj hga
    match i, hi with
    | 0, hi => simp at hi; subst hi; cases hga
    | i + 1, hi => simp at hi
set_option maxHeartbeats 1000000 in
set_option maxRecDepth 100000 in
theorem make_any (w : World) (hT : Tabs w) (v : Value) (L : List ByteArray) (hv : TL w v L) (hL : L.length ≤ 5000) (hsz : ∀ s ∈ L, s.size ≤ 1000000) :
    Calls Tryd.prog 10 #[v] w fun e w' => Below w.heap.size w w' ∧ (((makeP L).1 ≠ 0 ∧ e = .returned (.tuple #[.pointer none, .int .i64 (makeP L).1])) ∨
      ((makeP L).1 = 0 ∧ ∃ vN l, e = .returned (.tuple #[.pointer (some ⟨w.heap.size + 1, 0, none⟩), .int .i64 0]) ∧ TrieM w' w.heap.size (w.heap.size + 1) L.length vN l ∧ l.map Nd.p = (makeP L).2 ∧ OkP (makeP L).2 ∧ (makeP L).2.length ≤ 300000 ∧ 0 < (makeP L).2.length)) := by
  have HT : Hid (Tabs w) := hT
  have HS : Hid (∀ s ∈ L, s.size ≤ 1000000) := hsz
  have HV : Hid (TL w v L) := hv
  obtain ⟨ad, c, rfl, hc⟩ := hv
  have HC : Hid (∀ (j : Nat) (s : ByteArray), L[j]? = some s → ∃ b off, ad = some ⟨b, off, none⟩ ∧ w.cell? ⟨b, off + j, none⟩ = some (.string s)) := hc
  clear hT hsz hc
  generalize hk : L.length = k at *
  have HK : Hid (L.length = k) := hk
  clear hk
  obtain ⟨i3, hi3, hx0, hx1, hx2⟩ := info_parts infoN
  have hmk := run_make (P := Tryd.prog) w 50 65 i3 _ Tryd.underlying50 hi3 hx0 .i64 .i64 1 1 (by omega) (by omega) (by rw [hx2]; decide) (by omega)
  rw [hx1] at hmk
  have hcs : madeCells (Value.agg #[.slice none 0 0, .slice none 0 0, .bool false]).cells ((1 : Int).toNat * 3) = #[.slice none 0 0, .slice none 0 0, .bool false] := by kernel_rfl
  rw [hcs] at hmk
  clear hcs
  go_enter Tryd.func10, Tryd.ntmps10
  go_upto_region 2 with fail
  have H0 : Hid (TrieM _ w.heap.size (w.heap.size + 1) 0 (.slice (some ⟨w.heap.size, 0, none⟩) 1 1) [nd0]) := trie_new w _ rfl
  have U0 : Hid (Up w.heap.size w ((w.alloc (.cells #[.slice none 0 0, .slice none 0 0, .bool false] 65)).alloc (.cells #[.int .i64 0, .slice (some ⟨w.heap.size, 0, none⟩) 1 1] 52))) := ((Up.refl w).alloc _).alloc _
  generalize (w.alloc (.cells #[.slice none 0 0, .slice none 0 0, .bool false] 65)).alloc (.cells #[.int .i64 0, .slice (some ⟨w.heap.size, 0, none⟩) 1 1] 52) = w1 at *
  clear hmk hi3 hx0 hx1 hx2 i3
  go_wp2
  go_loopg [5, 14] k (fun g ah ix wr => ∃ (j : Nat) (a : ByteArray) (P : List PN) (vN : Value) (l : List Nd), j ≤ k ∧ g = k - j ∧ ah = .string a ∧ ix = .int .i64 j ∧ Hid (makeG j a P (L.drop j) = makeP L) ∧ Hid (TrieM wr w.heap.size (w.heap.size + 1) j vN l) ∧ Hid (l.map Nd.p = P) ∧ Hid (OkP P) ∧ Hid (0 < P.length ∧ P.length ≤ 1 + 64 * j ∧ j ≤ 4096) ∧ Hid (Up w.heap.size w wr))
  case atStart => exact ⟨0, _, [pn0], _, [nd0], Nat.zero_le _, rfl, rfl, rfl, rfl, H0, rfl, OkP0, ⟨by simp, by simp, by omega⟩, U0⟩
  case round =>
    obtain ⟨j, a, P, vN, l, hj, hg, rfl, rfl, HM, HR, HP, HO, HB, HU⟩ := hrel
    by_cases hlt : j < k
    · obtain ⟨s, hs⟩ : ∃ s, L[j]? = some s := ⟨_, List.getElem?_eq_getElem (by rw [HK.out]; exact hlt)⟩
      obtain ⟨b, off, rfl, hcell⟩ := HC.out j s hs
      have hc : wr.cell? ⟨b, off + j, none⟩ = some (.string s) := cell_stay hcell HU.out.1
      have hs1 : s.size ≤ 1000000 := HS.out s (List.mem_of_getElem? hs)
      have z1 : ((j : Nat) : Int) < (k : Int) := by omega
      have z2 : (0 : Int) ≤ (j : Int) := by omega
      have ct : Calls Tryd.prog 24 #[.int .i64 (j : Int), .string s, .string a] wr fun e w' => e = .returned (.int .i64 (chkP j s a (rs s))) ∧ Below wr.heap.size wr w' := check_any wr (tabs_stay HT.out HU.out.1) j s a (kS s) (kS_ends s) (by omega) hs1
      have HD : Hid (makeP L = if chkP j s a (rs s) = 0 then makeG (j + 1) s (addP P (rs s)) (L.drop (j + 1)) else (chkP j s a (rs s), P)) := by
        show _ = _
        rw [← HM.out, makeG_drop hs]
      have hchk := @chkP_zero j s a (rs s)
      have HZ : Hid (chkP j s a (rs s) = 0 → s.size ≤ 64 ∧ j < 4096) := hchk
      clear hs hcell hchk HM
      generalize chkP j s a (rs s) = z at *
      by_cases hz : z = 0
      · subst hz
        obtain ⟨y1, y2⟩ := HZ.out rfl
        have HD' : Hid (makeP L = makeG (j + 1) s (addP P (rs s)) (L.drop (j + 1))) := HD.out
        clear HD HZ
        go_wp2_with fail
        refine ct.mono ?_
        rintro e w2 ⟨rfl, hb2⟩
        have HU2 : Hid (Up w.heap.size w w2) := HU.out.stay hb2
        have HR2 : Hid (TrieM w2 w.heap.size (w.heap.size + 1) j vN l) := HR.out.stay hb2
        have hlen : l.length = P.length := by rw [← HP.out, List.length_map]
        have ca := add_any HR2.out HT.out HU2.out (by rw [HP.out]; exact HO.out) (by rw [hlen]; exact HB.out.1) (by have := HB.out.2.1; omega) (by omega) s y1
        have HLF : Hid (∀ k, Foot (w.heap.size + 1) vN l k → w.heap.size ≤ k) := fun k hk => (HR2.out.lt k hk).1
        clear ct hb2 HR hlen
        go_wp2_with fail
        refine ca.mono ?_
        rintro e w3 ⟨vN2, l2, k2, u, rfl, hE2, hk2, hM2, hP2, hW2⟩
        obtain rfl : k2 = kS s := hE2.one (kS_ends s)
        have HU3 : Hid (Up w.heap.size w w3) := ⟨HU2.out.1.trans (hW2.below HU2.out.2 HLF.out), Nat.le_trans HU2.out.2 hW2.size⟩
        rw [HP.out] at hP2
        obtain ⟨q1, q2, q3⟩ := okP_add HO.out HB.out.1 (rs s)
        have q4 : (rs s).length = kS s := by simp [rs, rl]
        have HB3 : Hid (0 < (addP P (rs s)).length ∧ (addP P (rs s)).length ≤ 1 + 64 * (j + 1) ∧ j + 1 ≤ 4096) := by
          have := HB.out
          exact ⟨by omega, by omega, by omega⟩
        have HM2 : Hid (TrieM w3 w.heap.size (w.heap.size + 1) (j + 1) vN2 l2) := hM2
        have HP2 : Hid (l2.map Nd.p = addP P (rs s)) := hP2
        have HO2 : Hid (OkP (addP P (rs s))) := q1
        clear ca hE2 hM2 hP2 hW2 q1 q2 q3 q4 HLF HR2
        go_wp2
        go_roundg (k - (j + 1))
        case measure => omega
        case rel => exact ⟨j + 1, s, _, vN2, l2, by omega, rfl, rfl, by go_num, HD'.out.symm, HM2, HP2, HO2, HB3, HU3⟩
      · have HD' : Hid (makeP L = (z, P)) := by
          show _ = _
          rw [HD.out, if_neg hz]
        have hz' : (z == 0) = false := by simpa using hz
        clear HD HZ
        go_wp2_with fail
        refine ct.mono ?_
        rintro e w2 ⟨rfl, hb2⟩
        have HU2 : Hid (Up w.heap.size w w2) := HU.out.stay hb2
        clear hb2 ct
        go_wp2
        go_ret2
        refine ⟨HU2.out.1, Or.inl ?_⟩
        rw [HD'.out]
        exact ⟨hz, rfl⟩
    · obtain rfl : j = k := by omega
      have HD' : Hid (makeP L = (0, P)) := by
        show _ = _
        rw [← HM.out, List.drop_of_length_le (by rw [HK.out]; exact Nat.le_refl _)]
        rfl
      go_wp2
      go_ret2
      refine ⟨HU.out.1, Or.inr ?_⟩
      rw [HD'.out]
      have := HB.out
      exact ⟨rfl, vN, l, rfl, HR.out, HP.out, HO.out, by dsimp only; omega, HB.out.1⟩
end Go.Proofs.YtdadpfjbdljpkaaDoor
