/- Words that rise: put in. slices.Index, slices.Contains over runes; trie.check. trie.Make. trie: Len, Size, Root, node. slices.BinarySearch over runes. trie.Has. slices.Clone over runes and numbers; trie.Kids. The law's Awake. Texts of signs stand in their runes' order: no program in this text. Nodes and their beginnings: no program in this text. Where runes lead; what Has tells: no program's step in this text. Texts of signs, read and put again; the words that Make takes. What lies where a slice points; append of it; parts of lists. Words of small letters, and what Make tells of them: no program in this text. Sorted, in plain words: what its words are. -/
import Derived.Sort.LotA
import Derived.Sort.Walk0
import Derived.Laws.Cover1
import Derived.Lib.LazyBuf
import Derived.Deep.RegionHeld3
import Derived.Deep.AppendLies
import Derived.Test.YtfikkkodepfdkaaDoorpkA
namespace Go.Proofs.YtfikkkodepfdkaaDoor
set_option linter.unusedVariables false
/-- One text stands ahead of another. -/
def lw (x y : ByteArray) : Bool := Sort.ltStr x.data.toList y.data.toList
theorem lw_irrefl (x : ByteArray) : lw x x = false := Sort.swo_ltStr.irrefl _
theorem lw_trans {x y z : ByteArray} (h1 : lw x y = true) (h2 : lw y z = true) : lw x z = true := Sort.swo_ltStr.trans _ _ _ h1 h2
theorem lw_total {x y : ByteArray} (h1 : lw x y = false) (h2 : lw y x = false) : x = y := by
  unfold lw Sort.ltStr at h1 h2
  simp only [decide_eq_false_iff_not, List.not_lt] at h1 h2
  have h := List.le_antisymm h2 h1
  exact ByteArray.ext (Array.toList_inj.1 h)
theorem lw_asymm {x y : ByteArray} (h1 : lw x y = true) (h2 : lw y x = true) : False := by
  have h := lw_trans h1 h2
  rw [lw_irrefl] at h
  cases h
/-- Put where it belongs among what rises. -/
def putK {α : Type} (f : α → ByteArray) (L : List α) (s : α) : List α := L.takeWhile (fun x => lw (f x) (f s)) ++ s :: L.dropWhile (fun x => lw (f x) (f s))
/-- They rise, none twice. -/
def RiseK {α : Type} (f : α → ByteArray) (L : List α) : Prop := L.Pairwise fun x y => lw (f x) (f y) = true
theorem putK_perm {α : Type} (f : α → ByteArray) (L : List α) (s : α) : (putK f L s).Perm (s :: L) := by
  unfold putK
  refine List.perm_middle.trans (List.Perm.cons _ ?_)
  rw [List.takeWhile_append_dropWhile]
theorem putK_len {α : Type} (f : α → ByteArray) (L : List α) (s : α) : (putK f L s).length = L.length + 1 := (putK_perm f L s).length_eq
theorem RiseK.tail {α : Type} {f : α → ByteArray} {a : α} {L : List α} (h : RiseK f (a :: L)) : RiseK f L := (List.pairwise_cons.1 h).2
theorem putK_rise {α : Type} (f : α → ByteArray) : ∀ (L : List α) (s : α), RiseK f L → f s ∉ L.map f → RiseK f (putK f L s)
  | [], s, _, _ => by unfold putK RiseK; simp
  | a :: L, s, h, hs => by
    have ha := (List.pairwise_cons.1 h).1
    have ih := putK_rise f L s h.tail (fun hm => hs (List.mem_cons_of_mem _ hm))
    unfold putK RiseK
    cases hc : lw (f a) (f s)
    · rw [List.takeWhile_cons_of_neg (by simp [hc]), List.dropWhile_cons_of_neg (by simp [hc])]
      have hsa : lw (f s) (f a) = true := by
        cases hd : lw (f s) (f a)
        · exact absurd (lw_total hc hd) (fun e => hs (by rw [← e]; simp))
        · rfl
      show List.Pairwise _ (s :: a :: L)
      refine List.pairwise_cons.2 ⟨fun x hx => ?_, h⟩
      rcases List.mem_cons.1 hx with rfl | hx
      · exact hsa
      · exact lw_trans hsa (ha x hx)
    · rw [List.takeWhile_cons_of_pos (by simp [hc]), List.dropWhile_cons_of_pos (by simp [hc])]
      show List.Pairwise _ (a :: putK f L s)
      refine List.pairwise_cons.2 ⟨fun x hx => ?_, ih⟩
      rcases List.mem_cons.1 ((putK_perm f L s).mem_iff.1 hx) with rfl | hx
      · exact hc
      · exact ha x hx
theorem rise_one {α : Type} {f : α → ByteArray} {A B : List α} (h : A.Perm B) (hA : RiseK f A) (hB : RiseK f B) : A = B :=
  List.Perm.eq_of_pairwise (fun _ _ _ _ h1 h2 => (lw_asymm h1 h2).elim) hA hB h
theorem rise_weak {α : Type} {f : α → ByteArray} : ∀ {A : List α}, A.Pairwise (fun x y => lw (f y) (f x) = false) → (A.map f).Nodup → RiseK f A
  | [], _, _ => List.Pairwise.nil
  | a :: A, h, hn => by
    obtain ⟨h1, h2⟩ := List.pairwise_cons.1 h
    rw [List.map_cons, List.nodup_cons] at hn
    refine List.pairwise_cons.2 ⟨fun x hx => ?_, rise_weak h2 hn.2⟩
    cases hd : lw (f a) (f x)
    · exact absurd (lw_total hd (h1 x hx)) (fun e => hn.1 (by rw [e]; exact List.mem_map.2 ⟨x, hx, rfl⟩))
    · rfl
end Go.Proofs.YtfikkkodepfdkaaDoor
namespace Go.Proofs.YtfikkkodepfdkaaDoor
set_option linter.unusedVariables false
open Go.RowKit Go.ChangeShapes
def IdxIs (L : List Int) (x z : Int) : Prop := (x ∈ L → 0 ≤ z) ∧ (x ∉ L → z = -1)
set_option maxRecDepth 100000 in
theorem index_any {w : World} {b : Nat} {v : Value} (L : List Int) (h : w.ownsRow b 21 1 v L.length (L.map i32c)) (hL : L.length ≤ 100000) (x : Int) :
    Calls Tryd.prog 61 #[v, .int .i32 x] w fun e w' => ∃ z : Int, e = .returned (.int .i64 z) ∧ IdxIs L x z ∧ w' = w := by
  have H : Hid (w.ownsRow b 21 1 v L.length (L.map i32c)) := h
  clear h
  obtain ⟨ad, cv, rfl⟩ : ∃ ad cv, v = .slice ad L.length cv := by
    obtain ⟨_, ⟨e, h0⟩ | ⟨g, cap, _, e, _⟩⟩ := H.out
    · exact ⟨_, _, by rw [h0]; exact e⟩
    · exact ⟨_, _, e⟩
  generalize hk : L.length = k at *
  have HK : Hid (L.length = k) := hk
  clear hk
  go_enter Tryd.func61, Tryd.ntmps61
  go_wp2
  go_loopg [8] k (fun g ix wr => ∃ (j : Nat), j ≤ k ∧ g = k - j ∧ ix = .int .i64 j ∧ Hid (x ∉ L.take j) ∧ Hid (wr = w))
  case atStart => exact ⟨0, Nat.zero_le _, rfl, rfl, (by simp : x ∉ L.take 0), rfl⟩
  case round =>
    obtain ⟨j, hj, hg, rfl, HN, HW⟩ := hrel
    obtain rfl := HW.out
    by_cases hlt : j < k
    · obtain ⟨g1, rfl⟩ : ∃ g1, ad = some ⟨g1, 0, none⟩ := by
        obtain ⟨g1, cap, e, _⟩ := H.out.form (by omega)
        injection e with e1 _ _
        exact ⟨g1, e1⟩
      obtain ⟨y, hy⟩ : ∃ y, L[j]? = some y := ⟨_, List.getElem?_eq_getElem (by rw [HK.out]; exact hlt)⟩
      have hc : wr.cell? ⟨g1, j, none⟩ = some (.int .i32 y) := by
        rw [H.out.cellAt j (by omega), List.getElem?_map, hy]; rfl
      have z1 : ((j : Nat) : Int) < (k : Int) := by omega
      have z2 : (0 : Int) ≤ (j : Int) := by omega
      have HY : Hid (L[j]? = some y) := hy
      clear hy
      by_cases hxy : x = y
      · subst hxy
        go_wp2
        go_ret
        exact ⟨_, rfl, ⟨fun _ => z2, fun hno => absurd (List.mem_of_getElem? HY.out) hno⟩, rfl⟩
      · have hxy' : (x == y) = false := by simpa using hxy
        go_wp2
        go_roundg (k - (j + 1))
        case measure => omega
        case rel =>
          refine ⟨j + 1, by omega, rfl, by go_num, ?_, rfl⟩
          show x ∉ L.take (j + 1)
          rw [List.take_add_one, HY.out]
          simp only [Option.toList_some, List.mem_append, List.mem_singleton, not_or]
          exact ⟨HN.out, hxy⟩
    · obtain rfl : j = k := by omega
      have hnot : x ∉ L := by
        have := HN.out
        rwa [List.take_of_length_le (by rw [HK.out]; exact Nat.le_refl _)] at this
      go_wp2
      go_ret
      exact ⟨_, rfl, ⟨fun hx => absurd hx hnot, fun _ => rfl⟩, rfl⟩
theorem contains_any {w : World} {b : Nat} {v : Value} (L : List Int) (h : w.ownsRow b 21 1 v L.length (L.map i32c)) (hL : L.length ≤ 100000) (x : Int) :
    Calls Tryd.prog 46 #[v, .int .i32 x] w fun e w' => e = .returned (.bool (decide (x ∈ L))) ∧ w' = w := by
  have ct := index_any L h hL x
  clear h
  go_enter Tryd.func46, Tryd.ntmps46
  go_wp2_with fail
  refine ct.mono ?_
  rintro e w2 ⟨z, rfl, hz, rfl⟩
  by_cases hx : x ∈ L
  · replace hz := hz.1 hx
    go_wp2
    go_ret
    exact ⟨by simp [hx], rfl⟩
  · replace hz := hz.2 hx
    subst hz
    go_wp2
    go_ret
    exact ⟨by simp [hx], rfl⟩
/-- May a word, the one at i, stand behind the one ahead? -/
def chkP (i : Nat) (s a : ByteArray) (L : List Int) : Int :=
  if s.size = 0 then 5 else if lw a s = false then 8 else if 64 < s.size then 3 else if 4096 ≤ i then 4 else if (-1 : Int) ∈ L then 5 else 0
theorem le_lw (s a : ByteArray) : (Op.bytesLess s.toList a.toList || s.toList == a.toList) = !lw a s := by
  rw [Lib.toList_data, Lib.toList_data, bytesLess_eq]
  unfold lw Sort.ltStr
  rw [Bool.eq_iff_iff]
  simp only [Bool.or_eq_true, decide_eq_true_eq, beq_iff_eq, Bool.not_eq_true', decide_eq_false_iff_not, List.not_lt]
  constructor
  · intro h
    rcases h with h | h
    · exact List.le_of_lt h
    · rw [h]; exact List.le_refl _
  · intro h
    by_cases e : s.data.toList = a.data.toList
    · exact Or.inr e
    · left
      by_cases h1 : s.data.toList < a.data.toList
      · exact h1
      · exact absurd (List.le_antisymm h (List.not_lt.1 h1)) e
theorem empty_size (s : ByteArray) : s.toList.isEmpty = decide (s.size = 0) := by
  rw [Lib.toList_data]
  have h : s.size = s.data.toList.length := by simp
  rw [h]
  cases s.data.toList <;> rfl
theorem ends_unique (s : ByteArray) {k k' : Nat} (h : Ends s k) (h' : Ends s k') : k = k' := by
  rcases Nat.lt_trichotomy k k' with e | e | e
  · have := h'.2 k e
    have := h.1
    omega
  · exact e
  · have := h.2 k' e
    have := h'.1
    omega
theorem check_any (w : World) (hT : Tabs w) (i : Nat) (s a : ByteArray) (k : Nat) (hk : Ends s k) (hi : i ≤ 1000000) (hs : s.size ≤ 2000000) :
    Calls Tryd.prog 26 #[.int .i64 (i : Int), .string s, .string a] w fun e w' => e = .returned (.int .i64 (chkP i s a (rl s k))) ∧ Below w.heap.size w w' := by
  have HT : Hid (Tabs w) := hT
  have HE : Hid (Ends s k) := hk
  clear hT hk
  by_cases h1 : s.size = 0
  · have hz : chkP i s a (rl s k) = 5 := by unfold chkP; rw [if_pos h1]
    have he : s.toList.isEmpty = true := by rw [empty_size]; simpa using h1
    rw [hz]
    clear h1 hz
    go_enter Tryd.func26, Tryd.ntmps26
    go_wp2
    go_ret
    exact ⟨rfl, Below.refl _ _⟩
  · have he : s.toList.isEmpty = false := by rw [empty_size]; simpa using h1
    have hle := le_lw s a
    cases hl : lw a s
    · have hz : chkP i s a (rl s k) = 8 := by unfold chkP; rw [if_neg h1, if_pos hl]
      rw [hz]
      rw [hl, Bool.not_false] at hle
      clear h1 hz
      go_enter Tryd.func26, Tryd.ntmps26
      go_wp2
      go_ret
      exact ⟨rfl, Below.refl _ _⟩
    · rw [hl, Bool.not_true] at hle
      have hl' : ¬ lw a s = false := by rw [hl]; decide
      by_cases h2 : 64 < s.size
      · have hz : chkP i s a (rl s k) = 3 := by unfold chkP; rw [if_neg h1, if_neg hl', if_pos h2]
        rw [hz]
        have z1 : (64 : Int) < (s.size : Int) := by omega
        clear h1 hz hl hl'
        go_enter Tryd.func26, Tryd.ntmps26
        go_wp2
        go_ret
        exact ⟨rfl, Below.refl _ _⟩
      · have z1 : ¬ (64 : Int) < (s.size : Int) := by omega
        by_cases h3 : 4096 ≤ i
        · have hz : chkP i s a (rl s k) = 4 := by unfold chkP; rw [if_neg h1, if_neg hl', if_neg h2, if_pos h3]
          rw [hz]
          have z2 : (4096 : Int) ≤ (i : Int) := by omega
          clear h1 hz hl hl'
          go_enter Tryd.func26, Tryd.ntmps26
          go_wp2
          go_ret
          exact ⟨rfl, Below.refl _ _⟩
        · have hz : chkP i s a (rl s k) = if (-1 : Int) ∈ rl s k then 5 else 0 := by unfold chkP; rw [if_neg h1, if_neg hl', if_neg h2, if_neg h3]
          rw [hz]
          have z2 : ¬ (4096 : Int) ≤ (i : Int) := by omega
          clear h1 hz hl hl'
          by_cases hm : (-1 : Int) ∈ rl s k
          · rw [if_pos hm]
            have HM : Hid (decide ((-1 : Int) ∈ rl s k) = true) := decide_eq_true hm
            clear hm
            have cr := runes_any s w (by omega) HT.out
            go_enter Tryd.func26, Tryd.ntmps26
            go_wp2_with fail
            refine cr.mono ?_
            rintro e w1 ⟨k', v, rfl, hE, hown, hb⟩
            obtain rfl : k' = k := ends_unique s hE HE.out
            have hlen : (rl s k').length = k' := by simp [rl]
            have hown' : w1.ownsRow w.heap.size 21 1 v (rl s k').length ((rl s k').map i32c) := by
              rw [hlen]
              have : (rl s k').map i32c = rcells s k' := by simp [rl, rcells, i32c]
              rw [this]; exact hown
            have hk64 : k' ≤ 64 := by
              have := pos_ge s k' hE.2
              have := hE.1
              omega
            have cc := contains_any (rl s k') hown' (by rw [hlen]; omega) (-1)
            rw [HM.out] at cc
            have HB : Hid (Below w.heap.size w w1) := hb
            clear hown hown' cr hE hb hlen
            go_wp2_with fail
            refine cc.mono ?_
            rintro e w2 ⟨rfl, hw2⟩
            subst w2
            clear cc
            go_wp2
            go_ret
            exact ⟨rfl, HB.out⟩
          · rw [if_neg hm]
            have HM : Hid (decide ((-1 : Int) ∈ rl s k) = false) := decide_eq_false hm
            clear hm
            have cr := runes_any s w (by omega) HT.out
            go_enter Tryd.func26, Tryd.ntmps26
            go_wp2_with fail
            refine cr.mono ?_
            rintro e w1 ⟨k', v, rfl, hE, hown, hb⟩
            obtain rfl : k' = k := ends_unique s hE HE.out
            have hlen : (rl s k').length = k' := by simp [rl]
            have hown' : w1.ownsRow w.heap.size 21 1 v (rl s k').length ((rl s k').map i32c) := by
              rw [hlen]
              have : (rl s k').map i32c = rcells s k' := by simp [rl, rcells, i32c]
              rw [this]; exact hown
            have hk64 : k' ≤ 64 := by
              have := pos_ge s k' hE.2
              have := hE.1
              omega
            have cc := contains_any (rl s k') hown' (by rw [hlen]; omega) (-1)
            rw [HM.out] at cc
            have HB : Hid (Below w.heap.size w w1) := hb
            clear hown hown' cr hE hb hlen
            go_wp2_with fail
            refine cc.mono ?_
            rintro e w2 ⟨rfl, hw2⟩
            subst w2
            clear cc
            go_wp2
            go_ret
            exact ⟨rfl, HB.out⟩
end Go.Proofs.YtfikkkodepfdkaaDoor
namespace Go.Proofs.YtfikkkodepfdkaaDoor
set_option linter.unusedVariables false
open Go.RowKit Go.ChangeShapes
theorem ends_go (s : ByteArray) : ∀ d k, s.size - pos s k ≤ d → (∀ j, j < k → pos s j < s.size) → ∃ K, Ends s K
  | 0, k, hd, h => ⟨k, ⟨by have := pos_le s k h; omega, h⟩⟩
  | d + 1, k, hd, h => by
    by_cases h1 : pos s k < s.size
    · have h2 := (wd_pos s (pos s k) h1).1
      refine ends_go s d (k + 1) (by simp only [pos]; omega) (fun j hj => ?_)
      rcases Nat.lt_succ_iff_lt_or_eq.1 hj with h3 | h3
      · exact h j h3
      · rw [h3]; exact h1
    · exact ⟨k, ⟨by have := pos_le s k h; omega, h⟩⟩
theorem ends_ex (s : ByteArray) : ∃ K, Ends s K := ends_go s s.size 0 (by omega) (fun j hj => absurd hj (Nat.not_lt_zero j))
/-- How many signs. -/
def kG (s : ByteArray) : Nat → Nat → Nat
  | 0, k => k
  | f + 1, k => if pos s k = s.size then k else kG s f (k + 1)
theorem kG_ends {s : ByteArray} {K : Nat} (hK : Ends s K) : ∀ f k, k ≤ K → K ≤ k + f → kG s f k = K
  | 0, k, h1, h2 => by show k = K; omega
  | f + 1, k, h1, h2 => by
    show (if pos s k = s.size then k else kG s f (k + 1)) = K
    by_cases h : pos s k = s.size
    · rw [if_pos h]
      rcases Nat.lt_or_ge k K with hl | hg
      · exact absurd h (Nat.ne_of_lt (hK.2 k hl))
      · omega
    · rw [if_neg h]
      have hne : k ≠ K := fun e => h (by rw [e]; exact hK.1)
      exact kG_ends hK f (k + 1) (by omega) (by omega)
def kS (s : ByteArray) : Nat := kG s s.size 0
theorem kS_ends (s : ByteArray) : Ends s (kS s) := by
  obtain ⟨K, hK⟩ := ends_ex s
  have hl := hK.le
  have h := kG_ends hK s.size 0 (Nat.zero_le _) (by omega)
  show Ends s (kG s s.size 0)
  rw [h]
  exact hK
theorem kS_is {s : ByteArray} {k : Nat} (h : Ends s k) : kS s = k := (kS_ends s).one h
/-- Bytes are equal or not. -/
def bytesDec : DecidableEq ByteArray := fun s t => decidable_of_iff (s.data = t.data) ⟨fun h => by cases s; cases t; cases h; rfl, fun h => by rw [h]⟩
/-- A text is in a list or not. -/
def memDec (s : ByteArray) : (L : List ByteArray) → Decidable (s ∈ L)
  | [] => isFalse (by simp)
  | t :: L => match bytesDec s t with
    | isTrue h => isTrue (by simp [h])
    | isFalse h => match memDec s L with
      | isTrue k => isTrue (List.mem_cons_of_mem _ k)
      | isFalse k => isFalse (by simp [h, k])
def rs (s : ByteArray) : List Int := rl s (kS s)
/-- What Make tells of words, and the nodes. -/
def makeG : Nat → ByteArray → List PN → List ByteArray → Int × List PN
  | _, _, P, [] => (0, P)
  | i, a, P, s :: L => if chkP i s a (rs s) = 0 then makeG (i + 1) s (addP P (rs s)) L else (chkP i s a (rs s), P)
def makeP (L : List ByteArray) : Int × List PN := makeG 0 ⟨#[]⟩ [pn0] L
theorem makeG_drop {L : List ByteArray} {j : Nat} {s : ByteArray} (h : L[j]? = some s) (i : Nat) (a : ByteArray) (P : List PN) : makeG i a P (L.drop j) = if chkP i s a (rs s) = 0 then makeG (i + 1) s (addP P (rs s)) (L.drop (j + 1)) else (chkP i s a (rs s), P) := by
  have hd : L.drop j = s :: L.drop (j + 1) := by
    obtain ⟨hlt, e⟩ := List.getElem?_eq_some_iff.1 h
    rw [← e]; exact List.drop_eq_getElem_cons hlt
  rw [hd]; rfl
theorem chkP_zero {i : Nat} {s a : ByteArray} {L : List Int} (h : chkP i s a L = 0) : s.size ≤ 64 ∧ i < 4096 := by
  unfold chkP at h
  split at h
  · cases h
  · split at h
    · cases h
    · split at h
      · cases h
      · split at h
        · cases h
        · exact ⟨by omega, by omega⟩
/-- Texts in a row. -/
def TL (w : World) (v : Value) (L : List ByteArray) : Prop := ∃ ad c, v = .slice ad L.length c ∧ ∀ (j : Nat) (s : ByteArray), L[j]? = some s → ∃ b off, ad = some ⟨b, off, none⟩ ∧ w.cell? ⟨b, off + j, none⟩ = some (.string s)
theorem TL.stay {w w' : World} {v : Value} {L : List ByteArray} (h : TL w v L) (hb : Below w.heap.size w w') : TL w' v L := by
  obtain ⟨ad, c, e, h⟩ := h
  refine ⟨ad, c, e, fun j s hs => ?_⟩
  obtain ⟨b, off, e1, e2⟩ := h j s hs
  exact ⟨b, off, e1, cell_stay e2 hb⟩
theorem Went.below {w w' : World} {F F' : Nat → Prop} {B : Nat} (h : Went w w' F F') (hB : B ≤ w.heap.size) (hF : ∀ k, F k → B ≤ k) : Below B w w' :=
  ⟨h.os, h.tape, h.output, h.size, fun k hk => h.far k (by omega) (fun hk' => by have := hF k hk'; omega)⟩
theorem OkP0 : OkP [pn0] := by
  intro n hn
  simp at hn; subst hn
  exact ⟨rfl, (fun c hc => absurd hc List.not_mem_nil), Nat.zero_le _⟩
/-- As it is made first. -/
theorem trie_new (w : World) (e1 : Obj) (he : e1 = .cells #[.slice none 0 0, .slice none 0 0, .bool false] 70) :
    TrieM ((w.alloc e1).alloc (.cells #[.int .i64 0, .slice (some ⟨w.heap.size, 0, none⟩) 1 1] 57)) w.heap.size (w.heap.size + 1) 0 (.slice (some ⟨w.heap.size, 0, none⟩) 1 1) [nd0] := by
  subst he
  have h0 := World.ownsRow_lit (base := w.heap.size) (e := 70) (size := 3) w #[.slice none 0 0, .slice none 0 0, .bool false] 1 (Nat.le_refl _) (by unfold maxLen; omega) rfl
  refine ⟨by omega, ?_, ?_, ?_, ?_, ?_, ?_⟩
  · have := heap_alloc_new (w.alloc (.cells #[.slice none 0 0, .slice none 0 0, .bool false] 70)) (.cells #[.int .i64 0, .slice (some ⟨w.heap.size, 0, none⟩) 1 1] 57)
    simpa using this
  · exact h0.alloc _
  · intro i n hn
    match i, hn with
    | 0, hn => simp at hn; subst hn; exact World.ownsRow_nil _ _ _ _
    | i + 1, hn => simp at hn
  · intro i n hn
    match i, hn with
    | 0, hn => simp at hn; subst hn; exact World.ownsRow_nil _ _ _ _
    | i + 1, hn => simp at hn
  · intro i j a b g hi hj hga
    match i, hi with
    | 0, hi => simp at hi; subst hi; cases hga
    | i + 1, hi => simp at hi
  · intro i j a b g hi hj hga
    match i, hi with
    | 0, hi => simp at hi; subst hi; cases hga
    | i + 1, hi => simp at hi
set_option maxHeartbeats 1000000 in
set_option maxRecDepth 100000 in
theorem make_any (w : World) (hT : Tabs w) (v : Value) (L : List ByteArray) (hv : TL w v L) (hL : L.length ≤ 5000) (hsz : ∀ s ∈ L, s.size ≤ 2000000) :
    Calls Tryd.prog 10 #[v] w fun e w' => Below w.heap.size w w' ∧ (((makeP L).1 ≠ 0 ∧ e = .returned (.tuple #[.pointer none, .int .i64 (makeP L).1])) ∨
      ((makeP L).1 = 0 ∧ ∃ vN l, e = .returned (.tuple #[.pointer (some ⟨w.heap.size + 1, 0, none⟩), .int .i64 0]) ∧ TrieM w' w.heap.size (w.heap.size + 1) L.length vN l ∧ l.map Nd.p = (makeP L).2 ∧ OkP (makeP L).2 ∧ (makeP L).2.length ≤ 300000 ∧ 0 < (makeP L).2.length)) := by
  have HT : Hid (Tabs w) := hT
  have HS : Hid (∀ s ∈ L, s.size ≤ 2000000) := hsz
  have HV : Hid (TL w v L) := hv
  obtain ⟨ad, c, rfl, hc⟩ := hv
  have HC : Hid (∀ (j : Nat) (s : ByteArray), L[j]? = some s → ∃ b off, ad = some ⟨b, off, none⟩ ∧ w.cell? ⟨b, off + j, none⟩ = some (.string s)) := hc
  clear hT hsz hc
  generalize hk : L.length = k at *
  have HK : Hid (L.length = k) := hk
  clear hk
  obtain ⟨i3, hi3, hx0, hx1, hx2⟩ := info_parts infoN
  have hmk := run_make (P := Tryd.prog) w 55 70 i3 _ Tryd.underlying55 hi3 hx0 .i64 .i64 1 1 (by omega) (by omega) (by rw [hx2]; decide) (by omega)
  rw [hx1] at hmk
  have hcs : madeCells (Value.agg #[.slice none 0 0, .slice none 0 0, .bool false]).cells ((1 : Int).toNat * 3) = #[.slice none 0 0, .slice none 0 0, .bool false] := by kernel_rfl
  rw [hcs] at hmk
  clear hcs
  go_enter Tryd.func10, Tryd.ntmps10
  go_upto_region 2 with fail
  have H0 : Hid (TrieM _ w.heap.size (w.heap.size + 1) 0 (.slice (some ⟨w.heap.size, 0, none⟩) 1 1) [nd0]) := trie_new w _ rfl
  have U0 : Hid (Up w.heap.size w ((w.alloc (.cells #[.slice none 0 0, .slice none 0 0, .bool false] 70)).alloc (.cells #[.int .i64 0, .slice (some ⟨w.heap.size, 0, none⟩) 1 1] 57))) := ((Up.refl w).alloc _).alloc _
  generalize (w.alloc (.cells #[.slice none 0 0, .slice none 0 0, .bool false] 70)).alloc (.cells #[.int .i64 0, .slice (some ⟨w.heap.size, 0, none⟩) 1 1] 57) = w1 at *
  clear hmk hi3 hx0 hx1 hx2 i3
  go_wp2
  go_loopg [5, 14] k (fun g ah ix wr => ∃ (j : Nat) (a : ByteArray) (P : List PN) (vN : Value) (l : List Nd), j ≤ k ∧ g = k - j ∧ ah = .string a ∧ ix = .int .i64 j ∧ Hid (makeG j a P (L.drop j) = makeP L) ∧ Hid (TrieM wr w.heap.size (w.heap.size + 1) j vN l) ∧ Hid (l.map Nd.p = P) ∧ Hid (OkP P) ∧ Hid (0 < P.length ∧ P.length ≤ 1 + 64 * j ∧ j ≤ 4096) ∧ Hid (Up w.heap.size w wr))
  case atStart => exact ⟨0, _, [pn0], _, [nd0], Nat.zero_le _, rfl, rfl, rfl, rfl, H0, rfl, OkP0, ⟨by simp, by simp, by omega⟩, U0⟩
  case round =>
    obtain ⟨j, a, P, vN, l, hj, hg, rfl, rfl, HM, HR, HP, HO, HB, HU⟩ := hrel
    by_cases hlt : j < k
    · obtain ⟨s, hs⟩ : ∃ s, L[j]? = some s := ⟨_, List.getElem?_eq_getElem (by rw [HK.out]; exact hlt)⟩
      obtain ⟨b, off, rfl, hcell⟩ := HC.out j s hs
      have hc : wr.cell? ⟨b, off + j, none⟩ = some (.string s) := cell_stay hcell HU.out.1
      have hs1 : s.size ≤ 2000000 := HS.out s (List.mem_of_getElem? hs)
      have z1 : ((j : Nat) : Int) < (k : Int) := by omega
      have z2 : (0 : Int) ≤ (j : Int) := by omega
      have ct : Calls Tryd.prog 26 #[.int .i64 (j : Int), .string s, .string a] wr fun e w' => e = .returned (.int .i64 (chkP j s a (rs s))) ∧ Below wr.heap.size wr w' := check_any wr (tabs_stay HT.out HU.out.1) j s a (kS s) (kS_ends s) (by omega) hs1
      have HD : Hid (makeP L = if chkP j s a (rs s) = 0 then makeG (j + 1) s (addP P (rs s)) (L.drop (j + 1)) else (chkP j s a (rs s), P)) := by
        show _ = _
        rw [← HM.out, makeG_drop hs]
      have hchk := @chkP_zero j s a (rs s)
      have HZ : Hid (chkP j s a (rs s) = 0 → s.size ≤ 64 ∧ j < 4096) := hchk
      clear hs hcell hchk HM
      generalize chkP j s a (rs s) = z at *
      by_cases hz : z = 0
      · subst hz
        obtain ⟨y1, y2⟩ := HZ.out rfl
        have HD' : Hid (makeP L = makeG (j + 1) s (addP P (rs s)) (L.drop (j + 1))) := HD.out
        clear HD HZ
        go_wp2_with fail
        refine ct.mono ?_
        rintro e w2 ⟨rfl, hb2⟩
        have HU2 : Hid (Up w.heap.size w w2) := HU.out.stay hb2
        have HR2 : Hid (TrieM w2 w.heap.size (w.heap.size + 1) j vN l) := HR.out.stay hb2
        have hlen : l.length = P.length := by rw [← HP.out, List.length_map]
        have ca := add_any HR2.out HT.out HU2.out (by rw [HP.out]; exact HO.out) (by rw [hlen]; exact HB.out.1) (by have := HB.out.2.1; omega) (by omega) s y1
        have HLF : Hid (∀ k, Foot (w.heap.size + 1) vN l k → w.heap.size ≤ k) := fun k hk => (HR2.out.lt k hk).1
        clear ct hb2 HR hlen
        go_wp2_with fail
        refine ca.mono ?_
        rintro e w3 ⟨vN2, l2, k2, u, rfl, hE2, hk2, hM2, hP2, hW2⟩
        obtain rfl : k2 = kS s := hE2.one (kS_ends s)
        have HU3 : Hid (Up w.heap.size w w3) := ⟨HU2.out.1.trans (hW2.below HU2.out.2 HLF.out), Nat.le_trans HU2.out.2 hW2.size⟩
        rw [HP.out] at hP2
        obtain ⟨q1, q2, q3⟩ := okP_add HO.out HB.out.1 (rs s)
        have q4 : (rs s).length = kS s := by simp [rs, rl]
        have HB3 : Hid (0 < (addP P (rs s)).length ∧ (addP P (rs s)).length ≤ 1 + 64 * (j + 1) ∧ j + 1 ≤ 4096) := by
          have := HB.out
          exact ⟨by omega, by omega, by omega⟩
        have HM2 : Hid (TrieM w3 w.heap.size (w.heap.size + 1) (j + 1) vN2 l2) := hM2
        have HP2 : Hid (l2.map Nd.p = addP P (rs s)) := hP2
        have HO2 : Hid (OkP (addP P (rs s))) := q1
        clear ca hE2 hM2 hP2 hW2 q1 q2 q3 q4 HLF HR2
        go_wp2
        go_roundg (k - (j + 1))
        case measure => omega
        case rel => exact ⟨j + 1, s, _, vN2, l2, by omega, rfl, rfl, by go_num, HD'.out.symm, HM2, HP2, HO2, HB3, HU3⟩
      · have HD' : Hid (makeP L = (z, P)) := by
          show _ = _
          rw [HD.out, if_neg hz]
        have hz' : (z == 0) = false := by simpa using hz
        clear HD HZ
        go_wp2_with fail
        refine ct.mono ?_
        rintro e w2 ⟨rfl, hb2⟩
        have HU2 : Hid (Up w.heap.size w w2) := HU.out.stay hb2
        clear hb2 ct
        go_wp2
        go_ret2
        refine ⟨HU2.out.1, Or.inl ?_⟩
        rw [HD'.out]
        exact ⟨hz, rfl⟩
    · obtain rfl : j = k := by omega
      have HD' : Hid (makeP L = (0, P)) := by
        show _ = _
        rw [← HM.out, List.drop_of_length_le (by rw [HK.out]; exact Nat.le_refl _)]
        rfl
      go_wp2
      go_ret2
      refine ⟨HU.out.1, Or.inr ?_⟩
      rw [HD'.out]
      have := HB.out
      exact ⟨rfl, vN, l, rfl, HR.out, HP.out, HO.out, by dsimp only; omega, HB.out.1⟩
end Go.Proofs.YtfikkkodepfdkaaDoor
namespace Go.Proofs.YtfikkkodepfdkaaDoor
set_option linter.unusedVariables false
open Go.RowKit Go.ChangeShapes
theorem TrieM.words {w : World} {base T m : Nat} {vN : Value} {l : List Nd} (h : TrieM w base T m vN l) : w.cell? ⟨T, 0, none⟩ = some (.int .i64 (m : Int)) ∧ w.cell? ⟨T, 1, none⟩ = some vN ∧ ∃ ad c, vN = .slice ad l.length c := by
  refine ⟨?_, ?_, ?_⟩
  · rw [cell_of_row w T 0 _ _ _ h.blk]; rfl
  · rw [cell_of_row w T 1 _ _ _ h.blk]; rfl
  · obtain ⟨_, ⟨e, h0⟩ | ⟨g, cap, _, e, _⟩⟩ := h.nodes
    · exact ⟨_, _, by rw [h0]; exact e⟩
    · exact ⟨_, _, e⟩
theorem len_any {w : World} {base T m : Nat} {vN : Value} {l : List Nd} (h : TrieM w base T m vN l) :
    Calls Tryd.prog 12 #[.pointer (some ⟨T, 0, none⟩)] w fun e w' => e = .returned (.int .i64 (m : Int)) ∧ w' = w := by
  obtain ⟨c0, -, -⟩ := h.words
  clear h
  go_enter Tryd.func12, Tryd.ntmps12
  go_wp2
  go_ret
  exact ⟨rfl, rfl⟩
theorem root_any (v : Value) (w : World) : Calls Tryd.prog 22 #[v] w fun e w' => e = .returned (.int .i64 0) ∧ w' = w := by
  go_enter Tryd.func22, Tryd.ntmps22
  go_wp2
  go_ret
  exact ⟨rfl, rfl⟩
theorem size_any {w : World} {base T m : Nat} {vN : Value} {l : List Nd} (h : TrieM w base T m vN l) (h1 : 0 < l.length) (h2 : l.length ≤ 1000000) :
    Calls Tryd.prog 23 #[.pointer (some ⟨T, 0, none⟩)] w fun e w' => e = .returned (.int .i64 ((l.length - 1 : Nat) : Int)) ∧ w' = w := by
  obtain ⟨-, c1, ad, c, rfl⟩ := h.words
  clear h
  obtain ⟨q, hq⟩ : ∃ q, l.length = q + 1 := ⟨l.length - 1, by omega⟩
  rw [hq] at c1 h2 ⊢
  have z1 : ((q + 1 : Nat) : Int) - 1 = (q : Int) := by omega
  have z2 : (q + 1 - 1 : Nat) = q := by omega
  have z3 : (0 : Int) ≤ (q : Int) := by omega
  have z4 : max (0 : Int) (q : Int) = (q : Int) := by omega
  clear h1 hq
  go_enter Tryd.func23, Tryd.ntmps23
  go_wp2
  go_ret
  exact ⟨rfl, rfl⟩
theorem own_slice {w : World} {base e size n : Nat} {v : Value} {xs : List Value} (h : w.ownsRow base e size v n xs) : ∃ ad c, v = .slice ad n c := by
  obtain ⟨_, ⟨e, h0⟩ | ⟨g, cap, _, e, _⟩⟩ := h
  · exact ⟨_, _, by rw [h0]; exact e⟩
  · exact ⟨_, _, e⟩
theorem node_any {w : World} {base T m : Nat} {vN : Value} {l : List Nd} (h : TrieM w base T m vN l) {i : Nat} {nr nk : Value} {p : PN} (hn : l[i]? = some ⟨nr, nk, p⟩) (h2 : l.length ≤ 1000000) :
    Calls Tryd.prog 29 #[.pointer (some ⟨T, 0, none⟩), .int .i64 (i : Int)] w fun e w' => e = .returned (.agg #[nr, nk, .bool p.e]) ∧ Below w.heap.size w w' := by
  have hi : i < l.length := (List.getElem?_eq_some_iff.1 hn).1
  obtain ⟨g, cap, rfl, -⟩ := h.at hn
  obtain ⟨c0, c1, c2, c3, c4, -, -, -⟩ := h.cells2 hn
  dsimp only at c2 c3 c4
  have z1 : ((i : Nat) : Int) < (l.length : Int) := by omega
  have z2 : (0 : Int) ≤ (i : Int) := by omega
  have y1 := World.block_lt_of_cell? w _ c1
  have y2 := World.block_lt_of_cell? w _ c2
  obtain ⟨ar, cr, er⟩ := own_slice (h.rr i _ hn)
  obtain ⟨ak, ck, ek⟩ := own_slice (h.kk i _ hn)
  dsimp only at er ek
  clear h hn
  subst er ek
  have z3 : ¬ ((i : Nat) : Int) < 0 := by omega
  go_enter Tryd.func29, Tryd.ntmps29
  go_wp2
  refine bodyPost_ret (v := .agg #[.slice ar p.R.length cr, .slice ak p.K.length ck, .bool p.e]) (by simp [results, Tryd.results29, go_sem]) rfl ?_
  exact ⟨rfl, (Below.refl _ _).alloc (Nat.le_refl _) _⟩
end Go.Proofs.YtfikkkodepfdkaaDoor
namespace Go.Proofs.YtfikkkodepfdkaaDoor
set_option linter.unusedVariables false
open Go.RowKit Go.ChangeShapes
theorem nan1_any (x : Int) (w : World) : Calls Tryd.prog 59 #[.int .i32 x] w fun e w' => e = .returned (.bool false) ∧ w' = w := by
  go_enter Tryd.func59, Tryd.ntmps59
  go_wp2
  go_ret
  exact ⟨rfl, rfl⟩
theorem nan2_any (x : Int) (w : World) : Calls Tryd.prog 69 #[.int .i32 x] w fun e w' => e = .returned (.bool false) ∧ w' = w := by
  go_enter Tryd.func69, Tryd.ntmps69
  go_wp2
  go_ret
  exact ⟨rfl, rfl⟩
theorem less_any (x y : Int) (w : World) : Calls Tryd.prog 58 #[.int .i32 x, .int .i32 y] w fun e w' => e = .returned (.bool (decide (x < y))) ∧ w' = w := by
  have c1 := nan2_any x w
  go_enter Tryd.func58, Tryd.ntmps58
  go_wp2_with fail
  refine c1.mono ?_
  rintro e w1 ⟨rfl, h1⟩
  subst w1
  clear c1
  go_wp2
  go_ret
  exact ⟨rfl, rfl⟩
/-- They rise. -/
def Up2 (R : List Int) : Prop := R.Pairwise (· < ·)
theorem Up2.lt {R : List Int} (h : Up2 R) {i j : Nat} {x y : Int} (hi : R[i]? = some x) (hj : R[j]? = some y) (hij : i < j) : x < y := by
  obtain ⟨h1, rfl⟩ := List.getElem?_eq_some_iff.1 hi
  obtain ⟨h2, rfl⟩ := List.getElem?_eq_some_iff.1 hj
  exact List.pairwise_iff_getElem.1 h i j h1 h2 hij
theorem found_no {R : List Int} (hR : Up2 R) {x : Int} {i : Nat} (h1 : ∀ (q : Nat) (y : Int), R[q]? = some y → q < i → y < x) (h2 : ∀ (q : Nat) (y : Int), R[q]? = some y → i ≤ q → x ≤ y) (h3 : R[i]? ≠ some x) : x ∉ R := by
  intro hx
  obtain ⟨q, hq⟩ := List.getElem?_of_mem hx
  rcases Nat.lt_trichotomy q i with e | e | e
  · have := h1 q x hq e; omega
  · subst e; exact h3 hq
  · have hlen := (List.getElem?_eq_some_iff.1 hq).1
    have hi : R[i]? = some R[i] := List.getElem?_eq_getElem (by omega)
    have a := h2 i _ hi (Nat.le_refl _)
    have b := hR.lt hi hq e
    omega
set_option maxHeartbeats 1000000 in
set_option maxRecDepth 100000 in
theorem search_any {w : World} {b : Nat} {v : Value} (R : List Int) (hR : Up2 R) (h : w.ownsRow b 21 1 v R.length (R.map i32c)) (hL : R.length ≤ 1000000) (x : Int) :
    Calls Tryd.prog 43 #[v, .int .i32 x] w fun e w' => ∃ z : Nat, e = .returned (.tuple #[.int .i64 (z : Int), .bool (decide (x ∈ R))]) ∧ (x ∈ R → R[z]? = some x) ∧ w' = w := by
  have H : Hid (w.ownsRow b 21 1 v R.length (R.map i32c)) := h
  have HR : Hid (Up2 R) := hR
  clear h hR
  obtain ⟨ad, cv, rfl⟩ : ∃ ad cv, v = .slice ad R.length cv := by
    obtain ⟨_, ⟨e, h0⟩ | ⟨g, cap, _, e, _⟩⟩ := H.out
    · exact ⟨_, _, by rw [h0]; exact e⟩
    · exact ⟨_, _, e⟩
  generalize hk : R.length = k at *
  have HK : Hid (R.length = k) := hk
  clear hk
  go_enter Tryd.func43, Tryd.ntmps43
  go_wp2
  go_loopg [7, 8] k (fun g lo hi wr => ∃ (i j : Nat), i ≤ j ∧ j ≤ k ∧ g = j - i ∧ lo = .int .i64 i ∧ hi = .int .i64 j ∧ Hid (∀ q y, R[q]? = some y → q < i → y < x) ∧ Hid (∀ q y, R[q]? = some y → j ≤ q → x ≤ y) ∧ Hid (wr = w))
  case atStart => exact ⟨0, k, Nat.zero_le _, Nat.le_refl _, rfl, rfl, rfl, (fun q y _ hq => absurd hq (Nat.not_lt_zero q)), (fun q y hq hk => by have := (List.getElem?_eq_some_iff.1 hq).1; have := HK.out; omega), rfl⟩
  case round =>
    obtain ⟨i, j, hij, hjk, hg, rfl, rfl, HA, HB, HW⟩ := hrel
    obtain rfl := HW.out
    by_cases hlt : i < j
    · obtain ⟨h, hh⟩ : ∃ h, h = (i + j) / 2 := ⟨_, rfl⟩
      have z1 : ((i : Nat) : Int) < (j : Int) := by omega
      have zm : ((i : Int) + (j : Int)) / 2 = (h : Int) := by omega
      have zh1 : i ≤ h := by omega
      have zh2 : h < j := by omega
      have z2 : ((h : Nat) : Int) < (k : Int) := by omega
      have z3 : (0 : Int) ≤ (h : Int) := by omega
      clear hh
      obtain ⟨g1, rfl⟩ : ∃ g1, ad = some ⟨g1, 0, none⟩ := by
        obtain ⟨g1, cap, e, _⟩ := H.out.form (by omega)
        injection e with e1 _ _
        exact ⟨g1, e1⟩
      obtain ⟨y, hy⟩ : ∃ y, R[h]? = some y := ⟨_, List.getElem?_eq_getElem (by rw [HK.out]; omega)⟩
      have hc : wr.cell? ⟨g1, h, none⟩ = some (.int .i32 y) := by
        rw [H.out.cellAt h (by omega), List.getElem?_map, hy]; rfl
      have HY : Hid (R[h]? = some y) := hy
      clear hy
      have cl := less_any y x wr
      by_cases hyx : y < x
      · rw [decide_eq_true hyx] at cl
        go_wp2_with fail
        refine cl.mono ?_
        rintro e w2 ⟨rfl, hw2⟩
        subst w2
        clear cl
        go_wp2
        go_roundg (j - (h + 1))
        case measure => omega
        case rel =>
          refine ⟨h + 1, j, by omega, hjk, rfl, by go_num, rfl, ?_, HB, rfl⟩
          intro q y' hq hlt'
          rcases Nat.lt_or_ge q h with e | e
          · have := HR.out.lt hq HY.out e; omega
          · obtain rfl : q = h := by omega
            rw [HY.out] at hq
            cases hq
            exact hyx
      · rw [decide_eq_false hyx] at cl
        go_wp2_with fail
        refine cl.mono ?_
        rintro e w2 ⟨rfl, hw2⟩
        subst w2
        clear cl
        go_wp2
        go_roundg (h - i)
        case measure => omega
        case rel =>
          refine ⟨i, h, by omega, by omega, rfl, rfl, rfl, HA, ?_, rfl⟩
          intro q y' hq hge
          rcases Nat.lt_or_ge h q with e | e
          · have := HR.out.lt HY.out hq e; omega
          · obtain rfl : q = h := by omega
            rw [HY.out] at hq
            cases hq
            omega
    · obtain rfl : i = j := by omega
      by_cases hik : i < k
      · have z2 : ((i : Nat) : Int) < (k : Int) := by omega
        have z3 : (0 : Int) ≤ (i : Int) := by omega
        obtain ⟨g1, rfl⟩ : ∃ g1, ad = some ⟨g1, 0, none⟩ := by
          obtain ⟨g1, cap, e, _⟩ := H.out.form (by omega)
          injection e with e1 _ _
          exact ⟨g1, e1⟩
        obtain ⟨y, hy⟩ : ∃ y, R[i]? = some y := ⟨_, List.getElem?_eq_getElem (by rw [HK.out]; omega)⟩
        have hc : wr.cell? ⟨g1, i, none⟩ = some (.int .i32 y) := by
          rw [H.out.cellAt i (by omega), List.getElem?_map, hy]; rfl
        have HY : Hid (R[i]? = some y) := hy
        clear hy
        have cn := nan1_any y wr
        by_cases hyx : y = x
        · subst hyx
          have HM : Hid (y ∈ R) := List.mem_of_getElem? HY.out
          go_wp2
          go_ret2
          exact ⟨i, by rw [decide_eq_true HM.out]; rfl, fun _ => HY.out, rfl⟩
        · have hyx' : (y == x) = false := by simpa using hyx
          have HM : Hid (x ∉ R) := found_no HR.out HA.out HB.out (by rw [HY.out]; simpa using hyx)
          go_wp2_with fail
          refine cn.mono ?_
          rintro e w2 ⟨rfl, hw2⟩
          subst w2
          clear cn
          go_wp2
          go_ret2
          exact ⟨i, by rw [decide_eq_false HM.out]; rfl, fun hx => absurd hx HM.out, rfl⟩
      · have z2 : ¬ ((i : Nat) : Int) < (k : Int) := by omega
        have HM : Hid (x ∉ R) := found_no HR.out HA.out HB.out (by rw [List.getElem?_eq_none (by rw [HK.out]; omega)]; simp)
        go_wp2
        go_ret2
        exact ⟨i, by rw [decide_eq_false HM.out]; rfl, fun hx => absurd hx HM.out, rfl⟩
end Go.Proofs.YtfikkkodepfdkaaDoor
namespace Go.Proofs.YtfikkkodepfdkaaDoor
set_option linter.unusedVariables false
open Go.RowKit Go.ChangeShapes
/-- Where the runes lead, if anywhere. -/
def goP : List PN → Nat → List Int → Option Nat
  | _, i, [] => some i
  | P, i, r :: rs =>
    match P[i]? with
    | none => none
    | some n => if r ∈ n.R then (match n.K[n.R.idxOf r]? with | none => none | some c => goP P c rs) else none
def hasP (P : List PN) (rs : List Int) : Bool :=
  match goP P 0 rs with
  | none => false
  | some i => ((P[i]?).map PN.e).getD false
theorem idx_at {R : List Int} (hR : Up2 R) {z : Nat} {x : Int} (h : R[z]? = some x) : R.idxOf x = z := by
  obtain ⟨hz, e⟩ := List.getElem?_eq_some_iff.1 h
  have hlt : R.idxOf x < R.length := List.idxOf_lt_length_of_mem (List.mem_of_getElem? h)
  have h2 : R[R.idxOf x]? = some x := by rw [List.getElem?_eq_getElem hlt, List.getElem_idxOf hlt]
  rcases Nat.lt_trichotomy (R.idxOf x) z with e1 | e1 | e1
  · have := hR.lt h2 h e1; omega
  · exact e1
  · have := hR.lt h h2 e1; omega
theorem goP_snoc (P : List PN) : ∀ (rs : List Int) (i : Nat) (r : Int), goP P i (rs ++ [r]) = (goP P i rs).bind fun j => goP P j [r]
  | [], i, r => rfl
  | x :: rs, i, r => by
    simp only [List.cons_append, goP]
    cases P[i]? with
    | none => rfl
    | some n =>
      dsimp only
      by_cases hx : x ∈ n.R
      · rw [if_pos hx, if_pos hx]
        cases n.K[n.R.idxOf x]? with
        | none => rfl
        | some c => exact goP_snoc P rs c r
      · rw [if_neg hx, if_neg hx]; rfl
theorem goP_none (P : List PN) (b : List Int) : ∀ (a : List Int) (i : Nat), goP P i a = none → goP P i (a ++ b) = none
  | [], i, h => by cases h
  | x :: a, i, h => by
    simp only [List.cons_append, goP] at h ⊢
    cases hp : P[i]? with
    | none => rfl
    | some n =>
      rw [hp] at h
      dsimp only at h ⊢
      by_cases hx : x ∈ n.R
      · rw [if_pos hx] at h ⊢
        cases hK : n.K[n.R.idxOf x]? with
        | none => rfl
        | some c =>
          rw [hK] at h
          exact goP_none P b a c h
      · rw [if_neg hx]
theorem goP_one {P : List PN} {i : Nat} {n : PN} (h : P[i]? = some n) (r : Int) : goP P i [r] = if r ∈ n.R then n.K[n.R.idxOf r]? else none := by
  simp only [goP, h]
  split
  · cases n.K[n.R.idxOf r]? <;> rfl
  · rfl
theorem rs_take (s : ByteArray) (j : Nat) (hj : j < kS s) : (rs s).take (j + 1) = (rs s).take j ++ [rn s (pos s j)] := rl_take s (kS s) j hj
theorem hasP_no {P : List PN} {L : List Int} {j : Nat} (h : goP P 0 (L.take j) = none) : hasP P L = false := by
  unfold hasP
  have := goP_none P (L.drop j) _ _ h
  rw [List.take_append_drop] at this
  rw [this]
theorem hasP_yes {P : List PN} {L : List Int} {i : Nat} {n : PN} (h : goP P 0 L = some i) (hn : P[i]? = some n) : hasP P L = n.e := by
  unfold hasP
  rw [h]
  dsimp only
  rw [hn]; rfl
/-- Runes rise at each node. -/
def RiseP (P : List PN) : Prop := ∀ n ∈ P, Up2 n.R
set_option maxHeartbeats 1000000 in
set_option maxRecDepth 100000 in
theorem has_any {w0 w : World} {T m : Nat} {vN : Value} {l : List Nd} (h : TrieM w w0.heap.size T m vN l) (hT : Tabs w) (hok : OkP (l.map Nd.p)) (hri : RiseP (l.map Nd.p)) (h1 : 0 < l.length) (h2 : l.length ≤ 800000) (s : ByteArray) (hs : s.size ≤ 1000000) :
    Calls Tryd.prog 24 #[.pointer (some ⟨T, 0, none⟩), .string s] w fun e w' => e = .returned (.bool (decide (s.size ≤ 64) && hasP (l.map Nd.p) (rs s))) ∧ Below w.heap.size w w' := by
  have HT : Hid (Tabs w) := hT
  have H : Hid (TrieM w w0.heap.size T m vN l) := h
  have HO : Hid (OkP (l.map Nd.p)) := hok
  have HI : Hid (RiseP (l.map Nd.p)) := hri
  clear hT h hok hri
  by_cases h64 : 64 < s.size
  · have z1 : (64 : Int) < (s.size : Int) := by omega
    have hd : decide (s.size ≤ 64) = false := decide_eq_false (by omega)
    rw [hd, Bool.false_and]
    go_enter Tryd.func24, Tryd.ntmps24
    go_wp2
    go_ret
    exact ⟨rfl, Below.refl _ _⟩
  · have z1 : ¬ (64 : Int) < (s.size : Int) := by omega
    have hd : decide (s.size ≤ 64) = true := decide_eq_true (by omega)
    rw [hd, Bool.true_and]
    clear hd
    obtain ⟨⟨nr, nk, p⟩, hn⟩ : ∃ n, l[0]? = some n := ⟨_, List.getElem?_eq_getElem h1⟩
    have c1 := node_any H.out hn (by omega)
    obtain ⟨ar, cr, er⟩ := own_slice (H.out.rr 0 _ hn)
    obtain ⟨ak, ck, ek⟩ := own_slice (H.out.kk 0 _ hn)
    dsimp only at er ek
    rw [er, ek] at c1
    have HN : Hid (l[0]? = some ⟨nr, nk, p⟩) := hn
    have HE : Hid (nr = .slice ar p.R.length cr ∧ nk = .slice ak p.K.length ck) := ⟨er, ek⟩
    clear hn er ek
    go_enter Tryd.func24, Tryd.ntmps24
    go_wp2_with fail
    refine c1.mono ?_
    rintro e w1 ⟨rfl, hb1⟩
    have HB1 : Hid (Below w.heap.size w w1) := hb1
    clear hb1 c1
    go_upto_region 4 with fail
    have hU1 : Up w.heap.size w (w1.alloc (.cells #[.slice ar p.R.length cr, .slice ak p.K.length ck, .bool p.e] 70)) := ((Up.refl w).stay HB1.out).alloc _
    have hblk := heap_alloc_new w1 (.cells #[.slice ar p.R.length cr, .slice ak p.K.length ck, .bool p.e] 70)
    have hszB : (w1.alloc (.cells #[.slice ar p.R.length cr, .slice ak p.K.length ck, .bool p.e] 70)).heap.size = w1.heap.size + 1 := by simp
    have hBlo : w.heap.size ≤ w1.heap.size := HB1.out.size
    generalize w1.heap.size = B at *
    generalize w1.alloc (.cells #[.slice ar p.R.length cr, .slice ak p.K.length ck, .bool p.e] 70) = w2 at *
    clear HB1
    have HU1 : Hid (Up w.heap.size w w2) := hU1
    have HBK : Hid (w2.heap[B]? = some (.cells #[.slice ar p.R.length cr, .slice ak p.K.length ck, .bool p.e] 70 (0, 0))) := hblk
    have cr2 := runes_any s w2 (by omega) (tabs_stay HT.out hU1.1)
    clear hU1 hblk w1
    go_wp2_with fail
    refine cr2.mono ?_
    rintro e w3 ⟨k, v, rfl, hEnds, hown, hb3⟩
    obtain rfl : k = kS s := hEnds.one (kS_ends s)
    have hk64 : kS s ≤ 64 := by have := (kS_ends s).le; omega
    rw [hszB] at hown
    have HW : Hid (w3.ownsRow (B + 1) 21 1 v (kS s) (rcells s (kS s))) := hown
    have HU3 : Hid (Up w.heap.size w w3) := HU1.out.stay hb3
    have HBK3 : Hid (w3.heap[B]? = some (.cells #[.slice ar p.R.length cr, .slice ak p.K.length ck, .bool p.e] 70 (0, 0))) := (hb3.block B (lt_of_heap HBK.out)).trans HBK.out
    obtain ⟨ad, cv, rfl⟩ := own_slice hown
    clear cr2 hEnds hown hb3 HBK HU1 hszB
    generalize hkk : kS s = k at *
    have HKK : Hid (kS s = k) := hkk
    clear hkk
    go_wp2
    go_loopg [18] k (fun g ix wr => ∃ (j i : Nat) (n : Nd), j ≤ k ∧ g = k - j ∧ ix = .int .i64 j ∧ Hid (goP (l.map Nd.p) 0 ((rs s).take j) = some i) ∧ Hid (l[i]? = some n) ∧ Hid (wr.heap[B]? = some (.cells #[n.r, n.k, .bool n.p.e] 70 (0, 0))) ∧ Hid (Up w.heap.size w wr) ∧ Hid (wr.ownsRow (B + 1) 21 1 (.slice ad k cv) k (rcells s k)))
    case atStart =>
      refine ⟨0, 0, ⟨nr, nk, p⟩, Nat.zero_le _, rfl, rfl, rfl, HN, ?_, HU3, HW⟩
      show _ = _
      rw [HE.out.1, HE.out.2]
      exact HBK3.out
    case round =>
      obtain ⟨j, i, ⟨nr', nk', p'⟩, hj, hg, rfl, HG, HN', HBK', HU, HW'⟩ := hrel
      clear HN HE HBK3 HU3 HW
      have HM : Hid (TrieM wr w0.heap.size T m vN l) := H.out.stay HU.out.1
      obtain ⟨ar', cr', er⟩ := own_slice (HM.out.rr i _ HN'.out)
      obtain ⟨ak', ck', ek⟩ := own_slice (HM.out.kk i _ HN'.out)
      dsimp only at er ek
      have hpm : p' ∈ l.map Nd.p := List.mem_map.2 ⟨_, List.mem_of_getElem? HN'.out, rfl⟩
      have hpi : (l.map Nd.p)[i]? = some p' := by rw [List.getElem?_map, HN'.out]; rfl
      have hrr := HM.out.rr i _ HN'.out
      have hkr := HM.out.kk i _ HN'.out
      dsimp only at hrr hkr
      have hok := HO.out p' hpm
      have hup := HI.out p' hpm
      have b0 : wr.cell? ⟨B, 0, none⟩ = some nr' := by rw [cell_of_row wr B 0 _ _ _ HBK'.out]; rfl
      have b1 : wr.cell? ⟨B, 1, none⟩ = some nk' := by rw [cell_of_row wr B 1 _ _ _ HBK'.out]; rfl
      have b2 : wr.cell? ⟨B, 2, none⟩ = some (.bool p'.e) := by rw [cell_of_row wr B 2 _ _ _ HBK'.out]; rfl
      have hplen : p'.R.length ≤ 800000 := by have := hok.2.2; rw [List.length_map] at this; omega
      by_cases hlt : j < k
      · obtain ⟨g1, rfl⟩ : ∃ g1, ad = some ⟨g1, 0, none⟩ := by
          obtain ⟨g1, cap, e, _⟩ := HW'.out.form (by omega)
          injection e with e1 _ _
          exact ⟨g1, e1⟩
        have hc : wr.cell? ⟨g1, j, none⟩ = some (.int .i32 (rn s (pos s j))) := by
          rw [HW'.out.cellAt j (by omega)]
          simp [rcells, hlt]
        have hgo : goP (l.map Nd.p) 0 ((rs s).take (j + 1)) = if rn s (pos s j) ∈ p'.R then p'.K[p'.R.idxOf (rn s (pos s j))]? else none := by
          rw [rs_take s j (by rw [HKK.out]; exact hlt), goP_snoc, HG.out]
          exact goP_one hpi _
        generalize rn s (pos s j) = r at *
        have z2 : ((j : Nat) : Int) < (k : Int) := by omega
        have z3 : (0 : Int) ≤ (j : Int) := by omega
        have cs := search_any p'.R hup hrr (by omega) r
        have hlo := (HW'.out.lt g1 rfl)
        by_cases hr : r ∈ p'.R
        · rw [decide_eq_true hr] at cs
          rw [if_pos hr] at hgo
          subst er ek
          have HGO : Hid _ := hgo
          have HX : Hid (r ∈ p'.R) := hr
          have HKR : Hid (wr.ownsRow w0.heap.size 3 1 (.slice ak' p'.K.length ck') p'.K.length (p'.K.map i64c)) := hkr
          have HUP : Hid _ := hup
          have HOK : Hid _ := hok
          have HPI : Hid _ := hpi
          clear hgo hr hkr hrr hup hok hpm hpi
          go_wp2_with fail
          refine cs.mono ?_
          rintro e w4 ⟨z, rfl, hz, hw4⟩
          subst w4
          have hz := hz HX.out
          have hzl : z < p'.R.length := (List.getElem?_eq_some_iff.1 hz).1
          have hidx := idx_at HUP.out hz
          rw [hidx] at HGO
          obtain ⟨c, hcK⟩ : ∃ c, p'.K[z]? = some c := ⟨_, List.getElem?_eq_getElem (by rw [← HOK.out.1]; exact hzl)⟩
          have hcl : c < l.length := by have := HOK.out.2.1 c (List.mem_of_getElem? hcK); rwa [List.length_map] at this
          obtain ⟨gk, rfl⟩ : ∃ gk, ak' = some ⟨gk, 0, none⟩ := by
            obtain ⟨gk, cap, e, _⟩ := HKR.out.form (by rw [← HOK.out.1]; omega)
            injection e with e1 _ _
            exact ⟨gk, e1⟩
          have hck : wr.cell? ⟨gk, z, none⟩ = some (.int .i64 (c : Int)) := by
            rw [HKR.out.cellAt z (by rw [← HOK.out.1]; omega), List.getElem?_map, hcK]; rfl
          have z4 : ((z : Nat) : Int) < (p'.K.length : Int) := by have := HOK.out.1; omega
          have z5 : (0 : Int) ≤ (z : Int) := by omega
          obtain ⟨⟨nr2, nk2, p2⟩, hn2⟩ : ∃ n, l[c]? = some n := ⟨_, List.getElem?_eq_getElem hcl⟩
          have cn := node_any HM.out hn2 (by omega)
          obtain ⟨ar2, cr2, er2⟩ := own_slice (HM.out.rr c _ hn2)
          obtain ⟨ak2, ck2, ek2⟩ := own_slice (HM.out.kk c _ hn2)
          dsimp only at er2 ek2
          have HN2 : Hid (l[c]? = some ⟨nr2, nk2, p2⟩) := hn2
          clear hn2
          subst er2 ek2
          have HG2 : Hid (goP (l.map Nd.p) 0 ((rs s).take (j + 1)) = some c) := by show _ = _; rw [HGO.out, hcK]
          clear cs hz hcK HGO HKR HUP HOK hidx
          go_wp2_with fail
          refine cn.mono ?_
          rintro e w5 ⟨rfl, hb5⟩
          have HB5 : Hid (Below wr.heap.size wr w5) := hb5
          have HBK5 : w5.heap[B]? = some (.cells #[.slice ar' p'.R.length cr', .slice (some ⟨gk, 0, none⟩) p'.K.length ck', .bool p'.e] 70 (0, 0)) := (hb5.block B (lt_of_heap HBK'.out)).trans HBK'.out
          have d0 : w5.cell? ⟨B, 0, none⟩ = some (.slice ar' p'.R.length cr') := by rw [cell_of_row w5 B 0 _ _ _ HBK5]; rfl
          have d1 : w5.cell? ⟨B, 1, none⟩ = some (.slice (some ⟨gk, 0, none⟩) p'.K.length ck') := by rw [cell_of_row w5 B 1 _ _ _ HBK5]; rfl
          have d2 : w5.cell? ⟨B, 2, none⟩ = some (.bool p'.e) := by rw [cell_of_row w5 B 2 _ _ _ HBK5]; rfl
          have f0 : w5.frozen? ⟨B, 0, none⟩ = false := frozen_of_row w5 B 0 _ _ HBK5
          have f1 : w5.frozen? ⟨B, 1, none⟩ = false := frozen_of_row w5 B 1 _ _ HBK5
          have f2 : w5.frozen? ⟨B, 2, none⟩ = false := frozen_of_row w5 B 2 _ _ HBK5
          have HK5 : Hid _ := HBK5
          clear cn hb5 HBK5 b0 b1 b2 hck
          go_wp2
          go_roundg (k - (j + 1))
          case measure => omega
          case rel =>
            refine ⟨j + 1, c, ⟨_, _, p2⟩, by omega, rfl, by go_num, HG2, HN2, ?_, ?_, ?_⟩
            · have a1 := heap_setCell_same w5 B 0 _ _ (.slice ar2 p2.R.length cr2) HK5.out
              have a2 := heap_setCell_same _ B 1 _ _ (.slice ak2 p2.K.length ck2) a1
              exact heap_setCell_same _ B 2 _ _ (.bool p2.e) a2
            · exact (((HU.out.stay HB5.out).setCell (p := ⟨B, 0, none⟩) hBlo _).setCell (p := ⟨B, 1, none⟩) hBlo _).setCell (p := ⟨B, 2, none⟩) hBlo _
            · refine own_of_blocks (own_stay HW'.out HB5.out) fun q hq => ?_
              have e : g1 = q := by simpa [Value.ownBlock] using hq
              subst e
              have hne : g1 ≠ B := by omega
              rw [heap_setCell_other _ ⟨B, 2, none⟩ g1 _ (fun e => hne e), heap_setCell_other _ ⟨B, 1, none⟩ g1 _ (fun e => hne e), heap_setCell_other _ ⟨B, 0, none⟩ g1 _ (fun e => hne e)]
        · rw [decide_eq_false hr] at cs
          rw [if_neg hr] at hgo
          have HF : Hid (hasP (l.map Nd.p) (rs s) = false) := hasP_no hgo
          subst er ek
          clear hgo hr hkr hrr hup hok hpm hpi
          go_wp2_with fail
          refine cs.mono ?_
          rintro e w4 ⟨z, rfl, -, hw4⟩
          subst w4
          clear cs
          go_wp2
          go_ret
          exact ⟨by rw [HF.out]; rfl, HU.out.1⟩
      · obtain rfl : j = k := by omega
        have HF : Hid (hasP (l.map Nd.p) (rs s) = p'.e) := by
          have h3 := HG.out
          rw [List.take_of_length_le (by simp [rs, rl, HKK.out])] at h3
          exact hasP_yes h3 hpi
        subst er ek
        clear hkr hrr hup hok hpm hpi
        go_wp2
        go_ret
        exact ⟨by rw [HF.out]; rfl, HU.out.1⟩
end Go.Proofs.YtfikkkodepfdkaaDoor
namespace Go.Proofs.YtfikkkodepfdkaaDoor
set_option linter.unusedVariables false
open Go.RowKit Go.ChangeShapes
theorem takeH {P : Program} {ops : Array Oper} {Q : Exit → Act → World → Prop} {md : Region.Mode} {S : World → Prop} {i : Nat} {oi : Oper} {v : Value} {d : Option Tmp} {fuel : Nat} {listed : Array Bool} {a : Act} {w : World} (hi : ops[i]? = some oi)
    (hs : Region.noSelect ops = true) (hf : Region.free md ops listed i = true) (hr : (Region.ready md ops listed).contains i = true) (hd : oi.dst = d)
    (hQ : ∀ c a w, Q (.panic c) (a.put d v) w → Q (.panic c) a w) (hy : YieldsIf P ops S oi v a) (hS : S w)
    (h : wpAnyH P md ops Q S fuel (listed.setIfInBounds i true) (a.put d v) w) : wpAnyH P md ops Q S (fuel + 1) listed a w := by
  subst hd
  exact wpAnyH_take hi hs hf hr hQ hy hS h
theorem one_i32c (L : List Int) : ∀ u ∈ L.map i32c, u.oneCell' = true := by
  intro u hu
  obtain ⟨x, _, rfl⟩ := List.mem_map.1 hu
  rfl
theorem one_i64c (L : List Nat) : ∀ u ∈ L.map i64c, u.oneCell' = true := by
  intro u hu
  obtain ⟨x, _, rfl⟩ := List.mem_map.1 hu
  rfl
set_option maxRecDepth 100000 in
theorem cloneR {w : World} {b : Nat} {v : Value} (L : List Int) (h : w.ownsRow b 21 1 v L.length (L.map i32c)) (hL : L.length ≤ 1000000) :
    Calls Tryd.prog 41 #[v] w fun e w' => ∃ v', e = .returned v' ∧ w'.ownsRow w.heap.size 21 1 v' L.length (L.map i32c) ∧ Below w.heap.size w w' := by
  obtain ⟨i0, hi, hz0, hz1, hz2⟩ := info_parts info21
  have H : Hid (w.ownsRow b 21 1 v L.length (L.map i32c)) := h
  have hnil := fun a l c => run_eql_slice_nil (P := Tryd.prog) w 37 21 a l c Tryd.underlying37
  rcases h.2 with ⟨rfl, h0⟩ | ⟨g, cap, cur, rfl, -⟩
  · have hLn : L = [] := List.eq_nil_of_length_eq_zero h0
    subst hLn
    clear h h0 H
    go_enter Tryd.func41, Tryd.ntmps41
    go_wp2
    go_ret
    exact ⟨_, rfl, World.ownsRow_nil _ _ _ _, Below.refl _ _⟩
  · clear h
    go_enter Tryd.func41, Tryd.ntmps41
    go_wp2_with (at_builtin; refine app_own rfl _ _ 37 rfl w.heap.size 21 i0 _ 1 4 Tryd.underlying37 hi hz0 hz1 hz2 rfl (by decide) _ _ [] rfl (World.ownsRow_made w #[] 0 (Nat.le_refl _) (by unfold maxLen; omega) rfl) b _ _ (L.map i32c) rfl (H.out.alloc _) (one_i32c L) (by unfold maxLen; omega) (by omega) (by simp) ?_)
    intro v' w' ho hg
    have HB : Hid (Below w.heap.size w w') := by
      refine ⟨hg.os, hg.tape, hg.output, ?_, fun q hq => ?_⟩
      · have := hg.size
        simp at this
        omega
      · rw [hg.block q (by simp; omega) (by simp [Value.ownBlock]; omega)]
        exact (World.grownBy_alloc w _ none).block q hq (by simp)
    have HO : Hid (w'.ownsRow w.heap.size 21 1 v' L.length (L.map i32c)) := by
      have h3 : w'.ownsRow w.heap.size 21 1 v' L.length (L.map i32c) := by simpa using ho
      exact h3
    clear ho hg H
    go_wp2
    go_ret
    exact ⟨_, rfl, HO, HB⟩
set_option maxRecDepth 100000 in
theorem cloneK {w : World} {b : Nat} {v : Value} (L : List Nat) (h : w.ownsRow b 3 1 v L.length (L.map i64c)) (hL : L.length ≤ 1000000) :
    Calls Tryd.prog 42 #[v] w fun e w' => ∃ v', e = .returned v' ∧ w'.ownsRow w.heap.size 3 1 v' L.length (L.map i64c) ∧ Below w.heap.size w w' := by
  obtain ⟨i0, hi, hz0, hz1, hz2⟩ := info_parts infoI
  have H : Hid (w.ownsRow b 3 1 v L.length (L.map i64c)) := h
  have hnil := fun a l c => run_eql_slice_nil (P := Tryd.prog) w 50 3 a l c Tryd.underlying50
  rcases h.2 with ⟨rfl, h0⟩ | ⟨g, cap, cur, rfl, -⟩
  · have hLn : L = [] := List.eq_nil_of_length_eq_zero h0
    subst hLn
    clear h h0 H
    go_enter Tryd.func42, Tryd.ntmps42
    go_wp2
    go_ret
    exact ⟨_, rfl, World.ownsRow_nil _ _ _ _, Below.refl _ _⟩
  · clear h
    go_enter Tryd.func42, Tryd.ntmps42
    go_wp2_with (at_builtin; refine app_own rfl _ _ 50 rfl w.heap.size 3 i0 _ 1 8 Tryd.underlying50 hi hz0 hz1 hz2 rfl (by decide) _ _ [] rfl (World.ownsRow_made w #[] 0 (Nat.le_refl _) (by unfold maxLen; omega) rfl) b _ _ (L.map i64c) rfl (H.out.alloc _) (one_i64c L) (by unfold maxLen; omega) (by omega) (by simp) ?_)
    intro v' w' ho hg
    have HB : Hid (Below w.heap.size w w') := by
      refine ⟨hg.os, hg.tape, hg.output, ?_, fun q hq => ?_⟩
      · have := hg.size
        simp at this
        omega
      · rw [hg.block q (by simp; omega) (by simp [Value.ownBlock]; omega)]
        exact (World.grownBy_alloc w _ none).block q hq (by simp)
    have HO : Hid (w'.ownsRow w.heap.size 3 1 v' L.length (L.map i64c)) := by
      have h3 : w'.ownsRow w.heap.size 3 1 v' L.length (L.map i64c) := by simpa using ho
      exact h3
    clear ho hg H
    go_wp2
    go_ret
    exact ⟨_, rfl, HO, HB⟩
set_option maxHeartbeats 1000000 in
set_option maxRecDepth 100000 in
theorem kids_any {w : World} {base T m : Nat} {vN : Value} {l : List Nd} (h : TrieM w base T m vN l) {i : Nat} {n : Nd} (hn : l[i]? = some n) (h2 : l.length ≤ 1000000) (hR : n.p.R.length ≤ 1000000) (hKl : n.p.K.length ≤ 1000000) :
    Calls Tryd.prog 21 #[.pointer (some ⟨T, 0, none⟩), .int .i64 (i : Int)] w fun e w' => ∃ vr vk, e = .returned (.tuple #[vr, vk]) ∧ w'.ownsRow w.heap.size 21 1 vr n.p.R.length (n.p.R.map i32c) ∧ w'.ownsRow w.heap.size 3 1 vk n.p.K.length (n.p.K.map i64c) ∧ Below w.heap.size w w' := by
  obtain ⟨nr, nk, p⟩ := n
  dsimp only at hR hKl ⊢
  have H : Hid (TrieM w base T m vN l) := h
  have HN : Hid (l[i]? = some ⟨nr, nk, p⟩) := hn
  have c1 := node_any h hn h2
  obtain ⟨ar, cr, er⟩ := own_slice (h.rr i _ hn)
  obtain ⟨ak, ck, ek⟩ := own_slice (h.kk i _ hn)
  dsimp only at er ek
  clear h hn
  subst er ek
  go_enter Tryd.func21, Tryd.ntmps21
  go_wp2_with fail
  refine c1.mono ?_
  rintro e w1 ⟨rfl, hb1⟩
  have HB1 : Hid (Below w.heap.size w w1) := hb1
  clear hb1 c1
  go_upto_region 2 with fail
  have hU1 : Up w.heap.size w (w1.alloc (.cells #[.slice ar p.R.length cr, .slice ak p.K.length ck, .bool p.e] 70)) := ((Up.refl w).stay HB1.out).alloc _
  have hblk := heap_alloc_new w1 (.cells #[.slice ar p.R.length cr, .slice ak p.K.length ck, .bool p.e] 70)
  generalize w1.heap.size = B at *
  generalize w1.alloc (.cells #[.slice ar p.R.length cr, .slice ak p.K.length ck, .bool p.e] 70) = w2 at *
  have hM := H.out.stay hU1.1
  have b0 : w2.cell? ⟨B, 0, none⟩ = some (.slice ar p.R.length cr) := by rw [cell_of_row w2 B 0 _ _ _ hblk]; rfl
  have b1 : w2.cell? ⟨B, 1, none⟩ = some (.slice ak p.K.length ck) := by rw [cell_of_row w2 B 1 _ _ _ hblk]; rfl
  have HU1 : Hid (Up w.heap.size w w2) := hU1
  have HRR : Hid (w2.ownsRow base 21 1 (.slice ar p.R.length cr) p.R.length (p.R.map i32c)) := hM.rr i _ HN.out
  have HKK : Hid (w2.ownsRow base 3 1 (.slice ak p.K.length ck) p.K.length (p.K.map i64c)) := hM.kk i _ HN.out
  clear hU1 hblk hM HB1
  refine wp_region_held_drew (S := fun w' => Up w2.heap.size w2 w') (by kernel_rfl) (Up.refl w2).drew (fun hHeld => ?_)
  (try dsimp only at hHeld)
  obtain ⟨x0, hx0⟩ : ∃ x0, w2.drew = x0 := ⟨_, rfl⟩
  rw [hx0] at hHeld ⊢
  clear hx0
  refine takeH (i := 0) (v := ?_) (d := (some 10)) rfl (by kernel_rfl) (by kernel_rfl) (by kernel_rfl) rfl (fun _ _ _ h => h) (Or.inl ⟨by kernel_rfl, ?_⟩) (by assumption) ?_; rotate_left
  · (intro w hSw; (try dsimp only at hSw); first | (go_simp; done) | (go_simp; with_reducible rfl))
  (try simp only [Act.put, List.setIfInBounds_toArray, List.set_cons_zero, List.set_cons_succ])
  refine takeH (i := 1) (v := ?_) (d := (some 11)) rfl (by kernel_rfl) (by kernel_rfl) (by kernel_rfl) rfl (fun _ _ _ h => h) (Or.inl ⟨by kernel_rfl, ?_⟩) (by assumption) ?_; rotate_left
  · (intro w hSw; (try dsimp only at hSw); have b0 := cell_stay b0 hSw.1; first | (go_simp; done) | (go_simp; with_reducible rfl))
  (try simp only [Act.put, List.setIfInBounds_toArray, List.set_cons_zero, List.set_cons_succ])
  refine takeH (i := 3) (v := ?_) (d := (some 13)) rfl (by kernel_rfl) (by kernel_rfl) (by kernel_rfl) rfl (fun _ _ _ h => h) (Or.inl ⟨by kernel_rfl, ?_⟩) (by assumption) ?_; rotate_left
  · (intro w hSw; (try dsimp only at hSw); first | (go_simp; done) | (go_simp; with_reducible rfl))
  (try simp only [Act.put, List.setIfInBounds_toArray, List.set_cons_zero, List.set_cons_succ])
  refine takeH (i := 4) (v := ?_) (d := (some 14)) rfl (by kernel_rfl) (by kernel_rfl) (by kernel_rfl) rfl (fun _ _ _ h => h) (Or.inl ⟨by kernel_rfl, ?_⟩) (by assumption) ?_; rotate_left
  · (intro w hSw; (try dsimp only at hSw); have b1 := cell_stay b1 hSw.1; first | (go_simp; done) | (go_simp; with_reducible rfl))
  (try simp only [Act.put, List.setIfInBounds_toArray, List.set_cons_zero, List.set_cons_succ])
  refine wpAnyH_ready (rs := [2]) (by kernel_rfl) (by simp) (AllReadyH.cons rfl (fun K hK => ?_) AllReadyH.nil)
  go_simp
  refine (cloneR p.R (own_stay HRR.out hHeld.1) hR).mono ?_
  have XS0 : Hid (w2.heap.size ≤ x0.heap.size) := hHeld.2
  rintro e x1 ⟨vr, rfl, hor, hb⟩
  go_wp2_with fail
  refine hK.out _ _ (hHeld.stay hb : Up w2.heap.size w2 x1) (fun hHeld' => ?_)
  have Hhor : Hid (x1.ownsRow x0.heap.size 21 1 vr p.R.length (p.R.map i32c)) := hor
  have HBxx1 : Hid (Below x0.heap.size x0 x1) := hb
  clear hK K hHeld hb hor
  have hHeld := hHeld'
  clear hHeld'
  (try dsimp only at hHeld)
  (try simp only [Act.put, List.setIfInBounds_toArray, List.set_cons_zero, List.set_cons_succ])
  refine wpAnyH_ready (rs := [5]) (by kernel_rfl) (by simp) (AllReadyH.cons rfl (fun K hK => ?_) AllReadyH.nil)
  go_simp
  refine (cloneK p.K (own_stay HKK.out hHeld.1) hKl).mono ?_
  have XS1 : Hid (w2.heap.size ≤ x1.heap.size) := hHeld.2
  rintro e x2 ⟨vk, rfl, hok, hb⟩
  go_wp2_with fail
  refine hK.out _ _ (hHeld.stay hb : Up w2.heap.size w2 x2) (fun hHeld' => ?_)
  have Hhok : Hid (x2.ownsRow x1.heap.size 3 1 vk p.K.length (p.K.map i64c)) := hok
  have HBxx2 : Hid (Below x1.heap.size x1 x2) := hb
  clear hK K hHeld hb hok
  have hHeld := hHeld'
  clear hHeld'
  (try dsimp only at hHeld)
  (try simp only [Act.put, List.setIfInBounds_toArray, List.set_cons_zero, List.set_cons_succ])
  refine takeH (i := 6) (v := ?_) (d := (some 4)) rfl (by kernel_rfl) (by kernel_rfl) (by kernel_rfl) rfl (fun _ _ _ h => h) (Or.inl ⟨by kernel_rfl, ?_⟩) (by assumption) ?_; rotate_left
  · (intro w hSw; (try dsimp only at hSw); first | (go_simp; done) | (go_simp; with_reducible rfl))
  (try simp only [Act.put, List.setIfInBounds_toArray, List.set_cons_zero, List.set_cons_succ])
  refine takeH (i := 7) (v := ?_) (d := (some 5)) rfl (by kernel_rfl) (by kernel_rfl) (by kernel_rfl) rfl (fun _ _ _ h => h) (Or.inl ⟨by kernel_rfl, ?_⟩) (by assumption) ?_; rotate_left
  · (intro w hSw; (try dsimp only at hSw); first | (go_simp; done) | (go_simp; with_reducible rfl))
  (try simp only [Act.put, List.setIfInBounds_toArray, List.set_cons_zero, List.set_cons_succ])
  refine wpAnyH_done (by kernel_rfl) ?_ _
  have HU9 : Hid (Up w2.heap.size w2 x2) := hHeld
  clear hHeld
  go_wp2
  go_ret2
  have q1 := HU1.out.2
  refine ⟨vr, vk, rfl, ?_, ?_, HU1.out.1.trans (HU9.out.1.mono HU1.out.2)⟩
  · exact own_mono (own_stay Hhor.out HBxx2.out) (Nat.le_trans HU1.out.2 XS0.out)
  · exact own_mono Hhok.out (Nat.le_trans HU1.out.2 XS1.out)
end Go.Proofs.YtfikkkodepfdkaaDoor
namespace Go.Proofs.YtfikkkodepfdkaaDoor
set_option linter.unusedVariables false
open Go.RowKit Go.ChangeShapes
def wA : ByteArray := ⟨#[97]⟩
def wAB : ByteArray := ⟨#[97, 98]⟩
def wB : ByteArray := ⟨#[98]⟩
theorem ends_wA : Ends wA 1 := by refine ⟨by kernel_rfl, ?_⟩; decide
theorem ends_wAB : Ends wAB 2 := by refine ⟨by kernel_rfl, ?_⟩; decide
theorem ends_wB : Ends wB 1 := by refine ⟨by kernel_rfl, ?_⟩; decide
theorem rs_wA : rs wA = [97] := by unfold rs; rw [kS_is ends_wA]; kernel_rfl
theorem rs_wAB : rs wAB = [97, 98] := by unfold rs; rw [kS_is ends_wAB]; kernel_rfl
theorem rs_wB : rs wB = [98] := by unfold rs; rw [kS_is ends_wB]; kernel_rfl
def pEx : List PN := [⟨[97, 98], [1, 3], false⟩, ⟨[98], [2], true⟩, ⟨[], [], true⟩, ⟨[], [], true⟩]
theorem make_ex : makeP [wA, wAB, wB] = (0, pEx) := by
  have c1 : chkP 0 wA ⟨#[]⟩ [97] = 0 := by kernel_rfl
  have c2 : chkP 1 wAB wA [97, 98] = 0 := by kernel_rfl
  have c3 : chkP 2 wB wAB [98] = 0 := by kernel_rfl
  have c4 : addP (addP (addP [pn0] [97]) [97, 98]) [98] = pEx := by kernel_rfl
  unfold makeP
  simp only [makeG, rs_wA, rs_wAB, rs_wB, Nat.zero_add, c1, c2, c3, if_true, Nat.reduceAdd, c4]
theorem rise_ex : RiseP pEx := by
  intro n hn
  unfold pEx at hn
  simp only [List.mem_cons, List.not_mem_nil, or_false] at hn
  rcases hn with rfl | rfl | rfl | rfl <;> (unfold Up2; decide)
theorem has_ex : hasP pEx [97, 98] = true := by kernel_rfl
set_option maxHeartbeats 1000000 in
set_option maxRecDepth 100000 in
theorem awake_any (w : World) (hT : Tabs w) : Calls Tryd.prog 8 #[] w fun e w' => e = .returned (.bool true) ∧ Below w.heap.size w w' := by
  have HT : Hid (Tabs w) := hT
  clear hT
  have hb1 : Below w.heap.size w (w.alloc (.cells #[.string wA, .string wAB, .string wB] 9)) := (Below.refl _ _).alloc (Nat.le_refl _) _
  have HTL : TL (w.alloc (.cells #[.string wA, .string wAB, .string wB] 9)) (.slice (some ⟨w.heap.size, 0, none⟩) 3 3) [wA, wAB, wB] := by
    refine ⟨_, _, rfl, fun j s hs => ⟨w.heap.size, 0, rfl, ?_⟩⟩
    rw [Nat.zero_add, cell_of_row _ w.heap.size j _ _ _ (heap_alloc_new w _)]
    match j, hs with
    | 0, hs => simp at hs; subst hs; rfl
    | 1, hs => simp at hs; subst hs; rfl
    | 2, hs => simp at hs; subst hs; rfl
    | j + 3, hs => simp at hs
  have cm := make_any _ (tabs_stay HT.out hb1) _ _ HTL (by simp) (by intro s hs; simp only [List.mem_cons, List.not_mem_nil, or_false] at hs; rcases hs with rfl | rfl | rfl <;> decide)
  rw [make_ex] at cm
  unfold wA wAB wB at cm
  go_enter Tryd.func8, Tryd.ntmps8
  go_wp2_with fail
  refine cm.mono ?_
  clear cm HTL
  unfold wA wAB wB at hb1
  have HU1 : Hid (Up w.heap.size w (w.alloc (.cells #[.string ⟨#[97]⟩, .string ⟨#[97, 98]⟩, .string ⟨#[98]⟩] 9))) := (Up.refl w).alloc _
  generalize w.alloc (.cells #[.string ⟨#[97]⟩, .string ⟨#[97, 98]⟩, .string ⟨#[98]⟩] 9) = w1 at *
  clear hb1
  rintro e w2 ⟨hb2, ⟨h, _⟩ | ⟨_, vN, l, rfl, hM, hP, hO, _, _⟩⟩
  · exact absurd rfl h
  · have HU2 : Hid (Up w.heap.size w w2) := HU1.out.stay hb2
    have HM : Hid (TrieM w2 w1.heap.size (w1.heap.size + 1) 3 vN l) := hM
    have HP : Hid (l.map Nd.p = pEx) := hP
    have hlen : l.length = 4 := by
      have : (l.map Nd.p).length = 4 := by rw [hP]; rfl
      simpa using this
    obtain ⟨n, hn⟩ : ∃ n, l[0]? = some n := ⟨_, List.getElem?_eq_getElem (by omega)⟩
    have hnp : n.p = ⟨[97, 98], [1, 3], false⟩ := by
      have h3 : (l.map Nd.p)[0]? = some n.p := by rw [List.getElem?_map, hn]; rfl
      rw [hP] at h3
      exact (Option.some.inj h3).symm
    have ck := kids_any hM hn (by omega) (by rw [hnp]; decide) (by rw [hnp]; decide)
    rw [hnp] at ck
    have cr := root_any (.pointer (some ⟨w1.heap.size + 1, 0, none⟩)) w2
    have HLEN : Hid (l.length = 4) := hlen
    have HO : Hid (OkP pEx) := hO
    generalize hT : w1.heap.size + 1 = T at *
    clear hM hP hb2 hn hnp hlen hO hT
    go_wp2_with fail
    refine cr.mono ?_
    rintro e w3 ⟨rfl, hw3⟩
    subst w3
    clear cr
    go_wp2_with fail
    refine ck.mono ?_
    rintro e w3 ⟨vr, vk, rfl, hr, _, hb3⟩
    clear ck
    have HU3 : Hid (Up w.heap.size w w3) := HU2.out.stay hb3
    have HM3 : Hid (TrieM w3 w1.heap.size T 3 vN l) := HM.out.stay hb3
    obtain ⟨g, cv, rfl, _, _⟩ := hr.form (by decide)
    have hc := hr.cellAt 0 (by decide)
    have hc0 : w3.cell? ⟨g, 0, none⟩ = some (.int .i32 97) := hc
    have cs := size_any HM3.out (by rw [HLEN.out]; decide) (by rw [HLEN.out]; decide)
    rw [HLEN.out] at cs
    have ch := has_any HM3.out (tabs_stay HT.out HU3.out.1) (by rw [HP.out]; exact HO.out) (by rw [HP.out]; exact rise_ex) (by rw [HLEN.out]; decide) (by rw [HLEN.out]; decide) wAB (by decide)
    rw [HP.out, rs_wAB, has_ex, Bool.and_true] at ch
    rw [show decide (wAB.size ≤ 64) = true by decide] at ch
    unfold wAB at ch
    clear hb3 hr hc
    go_wp2_with fail
    refine cs.mono ?_
    rintro e w4 ⟨rfl, hw4⟩
    subst w4
    clear cs
    go_wp2_with fail
    refine ch.mono ?_
    rintro e w4 ⟨rfl, hb4⟩
    have HU4 : Hid (Up w.heap.size w w4) := HU3.out.stay hb4
    clear ch hb4
    go_wp2
    go_ret
    exact ⟨rfl, HU4.out.1⟩
end Go.Proofs.YtfikkkodepfdkaaDoor
namespace Go.Proofs.YtfikkkodepfdkaaDoor
set_option linter.unusedVariables false
theorem cons_lt {a b : Int} {x y : List Int} (h : a < b) : a :: x < b :: y := List.cons_lt_cons_iff.2 (Or.inl h)
theorem cons_eq {a b : Int} {x y : List Int} (h : a = b) (h2 : x < y) : a :: x < b :: y := List.cons_lt_cons_iff.2 (Or.inr ⟨h, h2⟩)
theorem enc_lt {r r' : Int} (h : okR r = true) (h' : okR r' = true) (hlt : r < r') (x y : List Int) : enc r ++ x < enc r' ++ y := by
  have h0 : 0 ≤ r := ((okR_iff r).1 h).1
  have h9 := ((okR_iff r').1 h').2.2
  by_cases a1 : r < 128
  · rw [enc_one h0 a1]
    by_cases b1 : r' < 128
    · rw [enc_one (by omega) b1]; exact cons_lt hlt
    · by_cases b2 : r' < 2048
      · rw [enc_two (by omega) b2]; exact cons_lt (by omega)
      · by_cases b3 : r' < 65536
        · rw [enc_three (by omega) b3 h']; exact cons_lt (by omega)
        · rw [enc_four (by omega) h']; exact cons_lt (by omega)
  · by_cases a2 : r < 2048
    · rw [enc_two (by omega) a2]
      by_cases b2 : r' < 2048
      · rw [enc_two (by omega) b2]
        by_cases e : r / 64 = r' / 64
        · exact cons_eq (by omega) (cons_lt (by omega))
        · exact cons_lt (by omega)
      · by_cases b3 : r' < 65536
        · rw [enc_three (by omega) b3 h']; exact cons_lt (by omega)
        · rw [enc_four (by omega) h']; exact cons_lt (by omega)
    · by_cases a3 : r < 65536
      · rw [enc_three (by omega) a3 h]
        by_cases b3 : r' < 65536
        · rw [enc_three (by omega) b3 h']
          by_cases e : r / 4096 = r' / 4096
          · refine cons_eq (by omega) ?_
            by_cases e2 : r / 64 % 64 = r' / 64 % 64
            · exact cons_eq (by omega) (cons_lt (by omega))
            · exact cons_lt (by omega)
          · exact cons_lt (by omega)
        · rw [enc_four (by omega) h']; exact cons_lt (by omega)
      · rw [enc_four (by omega) h, enc_four (by omega) h']
        by_cases e : r / 262144 = r' / 262144
        · refine cons_eq (by omega) ?_
          by_cases e1 : r / 4096 % 64 = r' / 4096 % 64
          · refine cons_eq (by omega) ?_
            by_cases e2 : r / 64 % 64 = r' / 64 % 64
            · exact cons_eq (by omega) (cons_lt (by omega))
            · exact cons_lt (by omega)
          · exact cons_lt (by omega)
        · exact cons_lt (by omega)
theorem app_lt (l x y : List Int) (h : x < y) : l ++ x < l ++ y := by
  induction l with
  | nil => exact h
  | cons a l ih => exact cons_eq rfl ih
theorem enc_cons (r : Int) (h : okR r = true) : ∃ a l, enc r = a :: l := by
  cases he : enc r with
  | nil =>
    have h2 := enc_len r h
    rw [he] at h2
    unfold lenR at h2
    simp only [List.length_nil] at h2
    split at h2
    · omega
    · split at h2
      · omega
      · split at h2 <;> omega
  | cons a l => exact ⟨a, l, rfl⟩
/-- Runes' order is the bytes'. -/
theorem flat_mono : ∀ (a b : List Int), (∀ r ∈ a, okR r = true) → (∀ r ∈ b, okR r = true) → a < b → a.flatMap enc < b.flatMap enc
  | [], [], _, _, h => absurd h (List.lt_irrefl _)
  | [], r :: b, _, hb, _ => by
    obtain ⟨x, l, e⟩ := enc_cons r (hb r (List.mem_cons_self ..))
    rw [List.flatMap_cons, e]
    exact List.nil_lt_cons _ _
  | r :: a, [], _, _, h => absurd h (List.not_lt_nil _)
  | r :: a, r' :: b, ha, hb, h => by
    rw [List.flatMap_cons, List.flatMap_cons]
    rcases List.cons_lt_cons_iff.1 h with h1 | ⟨rfl, h1⟩
    · exact enc_lt (ha r (List.mem_cons_self ..)) (hb r' (List.mem_cons_self ..)) h1 _ _
    · exact app_lt _ _ _ (flat_mono a b (fun q hq => ha q (List.mem_cons_of_mem _ hq)) (fun q hq => hb q (List.mem_cons_of_mem _ hq)) h1)
/-- Numbers of bytes, and the bytes. -/
theorem bytes_mono : ∀ (a b : List Int), (∀ x ∈ a, 0 ≤ x ∧ x < 256) → (∀ x ∈ b, 0 ≤ x ∧ x < 256) → a < b → (a.map fun n => UInt8.ofNat n.toNat) < (b.map fun n => UInt8.ofNat n.toNat)
  | [], [], _, _, h => absurd h (List.lt_irrefl _)
  | [], r :: b, _, _, _ => List.nil_lt_cons _ _
  | r :: a, [], _, _, h => absurd h (List.not_lt_nil _)
  | r :: a, r' :: b, ha, hb, h => by
    have h1 := ha r (List.mem_cons_self ..)
    have h2 := hb r' (List.mem_cons_self ..)
    rw [List.map_cons, List.map_cons]
    rcases List.cons_lt_cons_iff.1 h with h3 | ⟨rfl, h3⟩
    · refine List.cons_lt_cons_iff.2 (Or.inl ?_)
      rw [UInt8.lt_iff_toNat_lt, UInt8.toNat_ofNat', UInt8.toNat_ofNat']
      omega
    · exact List.cons_lt_cons_iff.2 (Or.inr ⟨rfl, bytes_mono a b (fun q hq => ha q (List.mem_cons_of_mem _ hq)) (fun q hq => hb q (List.mem_cons_of_mem _ hq)) h3⟩)
theorem flat_range (a : List Int) : ∀ x ∈ a.flatMap enc, 0 ≤ x ∧ x < 256 := by
  intro x hx
  obtain ⟨r, _, hr⟩ := List.mem_flatMap.1 hx
  exact enc_range hr
/-- Texts of signs: one stands ahead of another just if its runes do. -/
theorem text_lt (a b : List Int) (ha : ∀ r ∈ a, okR r = true) (hb : ∀ r ∈ b, okR r = true) (h : lw (strOfNums (a.flatMap enc)) (strOfNums (b.flatMap enc)) = true) : a < b := by
  by_cases h1 : a < b
  · exact h1
  · exfalso
    by_cases e : a = b
    · subst e
      rw [lw_irrefl] at h
      cases h
    · have h2 : b < a := by
        by_cases h3 : b < a
        · exact h3
        · exact absurd (List.le_antisymm (List.not_lt.1 h3) (List.not_lt.1 h1)) e
      have h4 := bytes_mono _ _ (flat_range b) (flat_range a) (flat_mono b a hb ha h2)
      have h5 : lw (strOfNums (b.flatMap enc)) (strOfNums (a.flatMap enc)) = true := by
        unfold lw Sort.ltStr
        rw [decide_eq_true_eq, strOfNums_data, strOfNums_data]
        exact h4
      exact lw_asymm h h5
end Go.Proofs.YtfikkkodepfdkaaDoor
namespace Go.Proofs.YtfikkkodepfdkaaDoor
set_option linter.unusedVariables false
/-- B: each node's beginning; W: words that the nodes are beginnings of. -/
structure Inv (W : List (List Int)) (P : List PN) (B : List (List Int)) : Prop where
  ok : OkP P
  len : B.length = P.length
  b0 : B[0]? = some []
  kid : ∀ (i : Nat) (n : PN) (j : Nat) (r : Int) (c : Nat) (p : List Int), P[i]? = some n → B[i]? = some p → n.R[j]? = some r → n.K[j]? = some c → B[c]? = some (p ++ [r])
  uniq : ∀ (i j : Nat) (p : List Int), B[i]? = some p → B[j]? = some p → i = j
  up : ∀ (c : Nat) (p : List Int) (r : Int), B[c]? = some (p ++ [r]) → ∃ (i : Nat) (n : PN) (j : Nat), P[i]? = some n ∧ B[i]? = some p ∧ n.R[j]? = some r ∧ n.K[j]? = some c
  rise : ∀ (i : Nat) (n : PN), P[i]? = some n → Up2 n.R
  pre : ∀ (i : Nat) (p : List Int), B[i]? = some p → p = [] ∨ ∃ u ∈ W, p <+: u
/-- D: the words that end at nodes. -/
structure EndI (D : List (List Int)) (P : List PN) (B : List (List Int)) : Prop where
  has : ∀ u ∈ D, ∃ c : Nat, B[c]? = some u
  iff : ∀ (i : Nat) (n : PN) (p : List Int), P[i]? = some n → B[i]? = some p → (n.e = true ↔ p ∈ D)
theorem lt_after (p : List Int) : ∀ (a b : List Int), p ++ a < p ++ b → a < b := by
  induction p with
  | nil => exact fun a b h => h
  | cons x p ih =>
    intro a b h
    rcases List.cons_lt_cons_iff.1 h with h1 | ⟨_, h1⟩
    · omega
    · exact ih a b h1
/-- The runes at a node on the way of the last word are none above the next. -/
theorem Inv.le {W : List (List Int)} {P : List PN} {B : List (List Int)} (h : Inv W P B) {u : List Int} (hW : ∀ x ∈ W, x = u ∨ x < u) {i : Nat} {n : PN} {p : List Int} {r : Int} (hn : P[i]? = some n) (hp : B[i]? = some p) (hu : p ++ [r] <+: u) : ∀ x ∈ n.R, x ≤ r := by
  intro x hx
  obtain ⟨j, hj⟩ := List.getElem?_of_mem hx
  have hl := h.ok n (List.mem_of_getElem? hn)
  have hjl := (List.getElem?_eq_some_iff.1 hj).1
  have hK : n.K[j]? = some (n.K[j]'(by omega)) := List.getElem?_eq_getElem (by omega)
  have hb := h.kid i n j x _ p hn hp hj hK
  rcases h.pre _ _ hb with e | ⟨y, hy, z, hz⟩
  · simp at e
  · obtain ⟨t, ht⟩ := hu
    rcases hW y hy with e | e
    · rw [e, ← ht, List.append_assoc, List.append_assoc] at hz
      have := List.append_cancel_left hz
      simp at this
      omega
    · rw [← hz, ← ht, List.append_assoc, List.append_assoc] at e
      have h3 := lt_after p _ _ e
      rcases List.cons_lt_cons_iff.1 h3 with h4 | ⟨h4, _⟩ <;> omega
theorem at_new {P : List PN} {i k : Nat} {n' m : PN} (h : (P.set i n' ++ [pn0])[k]? = some m) : (k ≠ i ∧ P[k]? = some m) ∨ (k = i ∧ m = n') ∨ (k = P.length ∧ m = pn0) := by
  by_cases hk : k < P.length
  · rw [List.getElem?_append_left (by rw [List.length_set]; exact hk), List.getElem?_set] at h
    by_cases e : i = k
    · rw [if_pos e, if_pos (by omega)] at h
      exact Or.inr (Or.inl ⟨e.symm, (Option.some.inj h).symm⟩)
    · rw [if_neg e] at h
      exact Or.inl ⟨fun e2 => e e2.symm, h⟩
  · rw [List.getElem?_append_right (by rw [List.length_set]; omega), List.length_set] at h
    match hj : k - P.length, h with
    | 0, h => exact Or.inr (Or.inr ⟨by omega, by simpa using h.symm⟩)
    | q + 1, h => simp at h
theorem at_end {B : List (List Int)} {k : Nat} {x q : List Int} (h : (B ++ [x])[k]? = some q) : B[k]? = some q ∨ (k = B.length ∧ q = x) := by
  by_cases hk : k < B.length
  · rw [List.getElem?_append_left hk] at h; exact Or.inl h
  · rw [List.getElem?_append_right (by omega)] at h
    match hj : k - B.length, h with
    | 0, h => exact Or.inr ⟨by omega, by simpa using h.symm⟩
    | q + 1, h => simp at h
theorem old_end {B : List (List Int)} {k : Nat} {q : List Int} (x : List Int) (h : B[k]? = some q) : (B ++ [x])[k]? = some q := by
  rw [List.getElem?_append_left (List.getElem?_eq_some_iff.1 h).1]; exact h
theorem step_inv {W : List (List Int)} {P : List PN} {B : List (List Int)} (h : Inv W P B) {u : List Int} (hW : ∀ x ∈ W, x = u ∨ x < u) (huW : u ∈ W) {i : Nat} {p : List Int} {r : Int} (hp : B[i]? = some p) (hu : p ++ [r] <+: u) :
    ∃ B', Inv W (stepP P i r).1 B' ∧ B'[(stepP P i r).2]? = some (p ++ [r]) ∧ (∀ D, EndI D P B → EndI D (stepP P i r).1 B') := by
  have hi : i < P.length := by have := (List.getElem?_eq_some_iff.1 hp).1; have := h.len; omega
  obtain ⟨n, hn⟩ : ∃ n, P[i]? = some n := ⟨_, List.getElem?_eq_getElem hi⟩
  have hle := h.le hW hn hp hu
  have hok := h.ok n (List.mem_of_getElem? hn)
  have hri := h.rise i n hn
  unfold stepP
  rw [hn]
  dsimp only
  by_cases hr : n.R.getLast? = some r
  · rw [if_pos hr]
    refine ⟨B, h, ?_, fun D hD => hD⟩
    have hR : n.R[n.R.length - 1]? = some r := by rw [← List.getLast?_eq_getElem?]; exact hr
    have hRl := (List.getElem?_eq_some_iff.1 hR).1
    have hK : n.K[n.R.length - 1]? = some (n.K.getLastD 0) := by
      rw [hok.1, List.getLastD_eq_getLast?, ← List.getLast?_eq_getElem?]
      cases hg : n.K.getLast? with
      | none =>
        have : n.K = [] := List.getLast?_eq_none_iff.1 hg
        rw [this] at hok
        simp at hok
        rw [hok.1] at hRl
        simp at hRl
      | some c => rfl
    exact h.kid i n _ r _ p hn hp hR hK
  · rw [if_neg hr]
    have hlt : ∀ x ∈ n.R, x < r := by
      intro x hx
      have h1 := hle x hx
      by_cases e : x = r
      · subst e
        exfalso
        obtain ⟨j, hj⟩ := List.getElem?_of_mem hx
        have hjl := (List.getElem?_eq_some_iff.1 hj).1
        by_cases e2 : j = n.R.length - 1
        · subst e2
          exact hr (by rw [List.getLast?_eq_getElem?]; exact hj)
        · have hq : n.R[n.R.length - 1]? = some (n.R[n.R.length - 1]'(by omega)) := List.getElem?_eq_getElem (by omega)
          have h2 := hri.lt hj hq (by omega)
          have h3 := hle _ (List.mem_of_getElem? hq)
          omega
      · omega
    have ho := (okP_step h.ok hi r).1
    unfold stepP at ho
    rw [hn] at ho
    dsimp only at ho
    rw [if_neg hr] at ho
    have hno : ∀ c : Nat, B[c]? ≠ some (p ++ [r]) := by
      intro c hc
      obtain ⟨i2, n2, j, e1, e2, e3, _⟩ := h.up c p r hc
      obtain rfl := h.uniq i2 i p e2 hp
      rw [hn] at e1
      cases e1
      have := hlt r (List.mem_of_getElem? e3)
      omega
    have hin : (P.set i ⟨n.R ++ [r], n.K ++ [P.length], n.e⟩ ++ [pn0])[i]? = some ⟨n.R ++ [r], n.K ++ [P.length], n.e⟩ := by
      rw [List.getElem?_append_left (by rw [List.length_set]; exact hi), List.getElem?_set_self hi]
    refine ⟨B ++ [p ++ [r]], ⟨ho, by simp [h.len], ?_, ?_, ?_, ?_, ?_, ?_⟩, ?_, ?_⟩
    · exact old_end _ h.b0
    · intro k m j x c q hm hq hj hc
      rcases at_new hm with ⟨_, hm⟩ | ⟨rfl, rfl⟩ | ⟨_, rfl⟩
      · have hkl := (List.getElem?_eq_some_iff.1 hm).1
        rcases at_end hq with hq | ⟨e, _⟩
        · exact old_end _ (h.kid k m j x c q hm hq hj hc)
        · have := h.len; omega
      · rcases at_end hq with hq | ⟨e, _⟩
        · rw [hp] at hq
          cases hq
          dsimp only at hj hc
          by_cases hjl : j < n.R.length
          · rw [List.getElem?_append_left hjl] at hj
            rw [List.getElem?_append_left (by omega)] at hc
            exact old_end _ (h.kid k n j x c p hn hp hj hc)
          · have e : j = n.R.length := by
              have := (List.getElem?_eq_some_iff.1 hj).1
              simp at this
              omega
            subst e
            rw [List.getElem?_append_right (Nat.le_refl _), Nat.sub_self] at hj
            rw [hok.1, List.getElem?_append_right (Nat.le_refl _), Nat.sub_self] at hc
            simp at hj hc
            subst hj hc
            rw [← h.len, List.getElem?_append_right (Nat.le_refl _), Nat.sub_self]
            rfl
        · have := h.len; omega
      · simp [pn0] at hj
    · intro k k' q hk hk'
      rcases at_end hk with hk | ⟨e1, e2⟩ <;> rcases at_end hk' with hk' | ⟨e3, e4⟩
      · exact h.uniq k k' q hk hk'
      · rw [e4] at hk; exact absurd hk (hno k)
      · rw [e2] at hk'; exact absurd hk' (hno k')
      · omega
    · intro c q x hc
      rcases at_end hc with hc | ⟨e1, e2⟩
      · obtain ⟨i2, n2, j, f1, f2, f3, f4⟩ := h.up c q x hc
        by_cases e : i2 = i
        · subst e
          rw [hn] at f1
          cases f1
          refine ⟨i2, _, j, hin, old_end _ f2, ?_, ?_⟩
          · dsimp only
            rw [List.getElem?_append_left (List.getElem?_eq_some_iff.1 f3).1]; exact f3
          · dsimp only
            rw [List.getElem?_append_left (List.getElem?_eq_some_iff.1 f4).1]; exact f4
        · refine ⟨i2, n2, j, ?_, old_end _ f2, f3, f4⟩
          rw [List.getElem?_append_left (by rw [List.length_set]; exact (List.getElem?_eq_some_iff.1 f1).1), List.getElem?_set, if_neg (fun h => e h.symm)]
          exact f1
      · have e3 := List.append_inj' e2 rfl
        obtain ⟨rfl, e4⟩ := e3
        simp at e4
        subst e4
        refine ⟨i, _, n.R.length, hin, old_end _ hp, ?_, ?_⟩
        · dsimp only
          rw [List.getElem?_append_right (Nat.le_refl _), Nat.sub_self]; rfl
        · dsimp only
          rw [hok.1, List.getElem?_append_right (Nat.le_refl _), Nat.sub_self, e1, h.len]; rfl
    · intro k m hm
      rcases at_new hm with ⟨_, hm⟩ | ⟨rfl, rfl⟩ | ⟨_, rfl⟩
      · exact h.rise k m hm
      · exact List.pairwise_append.2 ⟨hri, List.pairwise_singleton _ _, fun a ha b hb => by simp at hb; subst hb; exact hlt a ha⟩
      · exact List.Pairwise.nil
    · intro k q hk
      rcases at_end hk with hk | ⟨_, rfl⟩
      · exact h.pre k q hk
      · exact Or.inr ⟨u, huW, hu⟩
    · show (B ++ [p ++ [r]])[P.length]? = _
      rw [← h.len, List.getElem?_append_right (Nat.le_refl _), Nat.sub_self]
      rfl
    · intro D hD
      refine ⟨fun x hx => ?_, fun k m q hm hq => ?_⟩
      · obtain ⟨c, hc⟩ := hD.has x hx
        exact ⟨c, old_end _ hc⟩
      · rcases at_new hm with ⟨_, hm⟩ | ⟨rfl, rfl⟩ | ⟨e, rfl⟩
        · have hkl := (List.getElem?_eq_some_iff.1 hm).1
          rcases at_end hq with hq | ⟨e, _⟩
          · exact hD.iff k m q hm hq
          · have := h.len; omega
        · rcases at_end hq with hq | ⟨e, _⟩
          · exact hD.iff k n q hn hq
          · have := h.len; omega
        · rcases at_end hq with hq | ⟨_, rfl⟩
          · have := (List.getElem?_eq_some_iff.1 hq).1
            have := h.len
            omega
          · refine ⟨fun hf => by simp [pn0] at hf, fun hm2 => ?_⟩
            obtain ⟨c, hc⟩ := hD.has _ hm2
            exact absurd hc (hno c)
theorem walk_inv {W : List (List Int)} {u : List Int} (hW : ∀ x ∈ W, x = u ∨ x < u) (huW : u ∈ W) : ∀ (rest : List Int) (P : List PN) (B : List (List Int)) (i : Nat) (p : List Int), Inv W P B → B[i]? = some p → p ++ rest <+: u →
    ∃ B', Inv W (walkP P i rest).1 B' ∧ B'[(walkP P i rest).2]? = some (p ++ rest) ∧ (∀ D, EndI D P B → EndI D (walkP P i rest).1 B')
  | [], P, B, i, p, h, hp, _ => ⟨B, h, by rw [List.append_nil]; exact hp, fun D hD => hD⟩
  | r :: rest, P, B, i, p, h, hp, hu => by
    have e : p ++ r :: rest = (p ++ [r]) ++ rest := by simp
    rw [e] at hu ⊢
    obtain ⟨B1, h1, h2, h3⟩ := step_inv h hW huW hp ((List.prefix_append _ _).trans hu)
    obtain ⟨B2, h4, h5, h6⟩ := walk_inv hW huW rest _ B1 _ _ h1 h2 hu
    exact ⟨B2, h4, h5, fun D hD => h6 D (h3 D hD)⟩
theorem end_at {P : List PN} {i k : Nat} {m : PN} (h : (endP P i)[k]? = some m) : ∃ n, P[k]? = some n ∧ m.R = n.R ∧ m.K = n.K ∧ (k ≠ i → m = n) ∧ (k = i → m.e = true) := by
  unfold endP at h
  cases hn : P[i]? with
  | none =>
    rw [hn] at h
    refine ⟨m, h, rfl, rfl, fun _ => rfl, fun e => ?_⟩
    subst e
    rw [hn] at h
    cases h
  | some n =>
    rw [hn] at h
    dsimp only at h
    rw [List.getElem?_set] at h
    by_cases e : i = k
    · subst e
      rw [if_pos rfl, if_pos (List.getElem?_eq_some_iff.1 hn).1] at h
      cases h
      exact ⟨n, hn, rfl, rfl, fun e => absurd rfl e, fun _ => rfl⟩
    · rw [if_neg e] at h
      exact ⟨m, h, rfl, rfl, fun _ => rfl, fun e2 => absurd e2.symm e⟩
theorem end_to {P : List PN} {i k : Nat} {n : PN} (h : P[k]? = some n) : ∃ m, (endP P i)[k]? = some m ∧ m.R = n.R ∧ m.K = n.K := by
  have hl : k < (endP P i).length := by
    have := (List.getElem?_eq_some_iff.1 h).1
    unfold endP
    cases P[i]? with
    | none => exact this
    | some x => dsimp only; rw [List.length_set]; exact this
  have hm : (endP P i)[k]? = some (endP P i)[k] := List.getElem?_eq_getElem hl
  obtain ⟨n', h1, h2, h3, _⟩ := end_at hm
  rw [h] at h1
  cases h1
  exact ⟨_, hm, h2, h3⟩
theorem end_inv {W : List (List Int)} {P : List PN} {B : List (List Int)} (h : Inv W P B) (i : Nat) : Inv W (endP P i) B := by
  obtain ⟨o1, o2⟩ := okP_end h.ok i
  refine ⟨o1, by rw [o2]; exact h.len, h.b0, ?_, h.uniq, ?_, ?_, h.pre⟩
  · intro k m j r c p hm hp hj hc
    obtain ⟨n, h1, h2, h3, _⟩ := end_at hm
    rw [h2] at hj
    rw [h3] at hc
    exact h.kid k n j r c p h1 hp hj hc
  · intro c p r hc
    obtain ⟨k, n, j, h1, h2, h3, h4⟩ := h.up c p r hc
    obtain ⟨m, h5, h6, h7⟩ := end_to (i := i) h1
    exact ⟨k, m, j, h5, h2, by rw [h6]; exact h3, by rw [h7]; exact h4⟩
  · intro k m hm
    obtain ⟨n, h1, h2, _⟩ := end_at hm
    rw [h2]; exact h.rise k n h1
theorem end_end {W D : List (List Int)} {P : List PN} {B : List (List Int)} (h : Inv W P B) (hD : EndI D P B) {i : Nat} {u : List Int} (hu : B[i]? = some u) : EndI (u :: D) (endP P i) B := by
  refine ⟨fun x hx => ?_, fun k m p hm hp => ?_⟩
  · rcases List.mem_cons.1 hx with rfl | hx
    · exact ⟨i, hu⟩
    · exact hD.has x hx
  · obtain ⟨n, h1, h2, h3, h4, h5⟩ := end_at hm
    by_cases e : k = i
    · subst e
      rw [hu] at hp
      cases hp
      exact ⟨fun _ => List.mem_cons_self .., fun _ => h5 rfl⟩
    · rw [h4 e, hD.iff k n p h1 hp]
      refine ⟨fun hx => List.mem_cons_of_mem _ hx, fun hx => ?_⟩
      rcases List.mem_cons.1 hx with rfl | hx
      · exact absurd (h.uniq k i p hp hu) e
      · exact hx
/-- A word more. -/
theorem add_inv {W D : List (List Int)} {P : List PN} {B : List (List Int)} (h : Inv W P B) (hD : EndI D P B) {u : List Int} (hW : ∀ x ∈ W, x = u ∨ x < u) (huW : u ∈ W) : ∃ B', Inv W (addP P u) B' ∧ EndI (u :: D) (addP P u) B' := by
  obtain ⟨B1, h1, h2, h3⟩ := walk_inv hW huW u P B 0 [] h h.b0 (List.prefix_refl _)
  rw [List.nil_append] at h2
  exact ⟨B1, end_inv h1 _, end_end h1 (h3 D hD) h2⟩
theorem Inv.more {W W' : List (List Int)} {P : List PN} {B : List (List Int)} (h : Inv W P B) (hW : ∀ x ∈ W, x ∈ W') : Inv W' P B :=
  ⟨h.ok, h.len, h.b0, h.kid, h.uniq, h.up, h.rise, fun i p hp => (h.pre i p hp).imp id fun ⟨u, hu, e⟩ => ⟨u, hW u hu, e⟩⟩
end Go.Proofs.YtfikkkodepfdkaaDoor
namespace Go.Proofs.YtfikkkodepfdkaaDoor
set_option linter.unusedVariables false
theorem Inv.closed {W : List (List Int)} {P : List PN} {B : List (List Int)} (h : Inv W P B) (q : List Int) : ∀ (d : Nat) (t : List Int) (c : Nat), t.length ≤ d → B[c]? = some (q ++ t) → ∃ i : Nat, B[i]? = some q
  | 0, t, c, ht, hc => by
    obtain rfl : t = [] := List.eq_nil_of_length_eq_zero (by omega)
    exact ⟨c, by rw [List.append_nil] at hc; exact hc⟩
  | d + 1, t, c, ht, hc => by
    rcases List.eq_nil_or_concat t with rfl | ⟨t', x, rfl⟩
    · exact ⟨c, by rw [List.append_nil] at hc; exact hc⟩
    · rw [List.concat_eq_append, ← List.append_assoc] at hc
      obtain ⟨i, n, j, _, h2, _⟩ := h.up c (q ++ t') x hc
      exact h.closed q d t' i (by simp at ht; omega) h2
theorem Inv.node {W : List (List Int)} {P : List PN} {B : List (List Int)} (h : Inv W P B) {i : Nat} {p : List Int} (hp : B[i]? = some p) : ∃ n, P[i]? = some n :=
  ⟨_, List.getElem?_eq_getElem (by have := (List.getElem?_eq_some_iff.1 hp).1; have := h.len; omega)⟩
theorem go_to {W : List (List Int)} {P : List PN} {B : List (List Int)} (h : Inv W P B) : ∀ (t : List Int) (i : Nat) (p : List Int) (c : Nat), B[i]? = some p → (goP P i t = some c ↔ B[c]? = some (p ++ t))
  | [], i, p, c, hp => by
    rw [List.append_nil]
    simp only [goP, Option.some.injEq]
    exact ⟨fun e => by rw [← e]; exact hp, fun e => h.uniq i c p hp e⟩
  | r :: t, i, p, c, hp => by
    obtain ⟨n, hn⟩ := h.node hp
    have hok := h.ok n (List.mem_of_getElem? hn)
    have hri := h.rise i n hn
    have e : p ++ r :: t = (p ++ [r]) ++ t := by simp
    rw [e]
    simp only [goP, hn]
    by_cases hr : r ∈ n.R
    · rw [if_pos hr]
      obtain ⟨j, hj⟩ := List.getElem?_of_mem hr
      have hjl := (List.getElem?_eq_some_iff.1 hj).1
      rw [idx_at hri hj]
      have hK : n.K[j]? = some (n.K[j]'(by omega)) := List.getElem?_eq_getElem (by omega)
      rw [hK]
      exact go_to h t _ (p ++ [r]) c (h.kid i n j r _ p hn hp hj hK)
    · rw [if_neg hr]
      refine ⟨(fun e => by cases e), fun hc => ?_⟩
      obtain ⟨k, hk⟩ := h.closed (p ++ [r]) t.length t c (Nat.le_refl _) hc
      obtain ⟨i2, n2, j, h1, h2, h3, _⟩ := h.up k p r hk
      obtain rfl := h.uniq i2 i p h2 hp
      rw [hn] at h1
      cases h1
      exact absurd (List.mem_of_getElem? h3) hr
/-- Has tells just the words. -/
theorem has_is {W D : List (List Int)} {P : List PN} {B : List (List Int)} (h : Inv W P B) (hD : EndI D P B) (u : List Int) : hasP P u = decide (u ∈ D) := by
  cases hg : goP P 0 u with
  | none =>
    have hno : u ∉ D := fun hu => by
      obtain ⟨c, hc⟩ := hD.has u hu
      have := (go_to h u 0 [] c h.b0).2 (by rw [List.nil_append]; exact hc)
      rw [hg] at this
      cases this
    rw [decide_eq_false hno]
    unfold hasP
    rw [hg]
  | some c =>
    have hc := (go_to h u 0 [] c h.b0).1 hg
    rw [List.nil_append] at hc
    obtain ⟨n, hn⟩ := h.node hc
    rw [hasP_yes hg hn]
    have := hD.iff c n u hn hc
    by_cases hu : u ∈ D
    · rw [decide_eq_true hu]; exact this.2 hu
    · rw [decide_eq_false hu]
      cases he : n.e with
      | false => rfl
      | true => exact absurd (this.1 he) hu
theorem Inv.riseP {W : List (List Int)} {P : List PN} {B : List (List Int)} (h : Inv W P B) : RiseP P := by
  intro n hn
  obtain ⟨i, hi⟩ := List.getElem?_of_mem hn
  exact h.rise i n hi
theorem inv0 : Inv [] [pn0] [[]] := by
  refine ⟨OkP0, rfl, rfl, ?_, ?_, ?_, ?_, ?_⟩
  · intro i n j r c p hn hp hj hc
    match i, hn with
    | 0, hn => simp at hn; subst hn; simp [pn0] at hj
    | i + 1, hn => simp at hn
  · intro i j p hi hj
    have h1 := (List.getElem?_eq_some_iff.1 hi).1
    have h2 := (List.getElem?_eq_some_iff.1 hj).1
    simp at h1 h2
    omega
  · intro c p r hc
    match c, hc with
    | 0, hc => simp at hc
    | c + 1, hc => simp at hc
  · intro i n hn
    match i, hn with
    | 0, hn => simp at hn; subst hn; exact List.Pairwise.nil
    | i + 1, hn => simp at hn
  · intro i p hp
    match i, hp with
    | 0, hp => simp at hp; exact Or.inl hp
    | i + 1, hp => simp at hp
theorem end0 : EndI [] [pn0] [[]] := by
  refine ⟨fun u hu => absurd hu List.not_mem_nil, fun i n p hn hp => ?_⟩
  match i, hn with
  | 0, hn => simp at hn; subst hn; simp [pn0]
  | i + 1, hn => simp at hn
end Go.Proofs.YtfikkkodepfdkaaDoor
namespace Go.Proofs.YtfikkkodepfdkaaDoor
set_option linter.unusedVariables false
def numsOf (s : ByteArray) : List Int := (List.range s.size).map fun j => ((s.get! j).toNat : Int)
theorem numsOf_len (s : ByteArray) : (numsOf s).length = s.size := by simp [numsOf]
theorem numsOf_at (s : ByteArray) (i : Nat) (h : i < s.size) : (numsOf s)[i]? = some (bt s i : Int) := by
  simp [numsOf, List.getElem?_range h, bt]
theorem back_take (s : ByteArray) {k : Nat} (hw : Whole s k) : ∀ j, j ≤ k → txt (fun i => rn s (pos s i)) j = (numsOf s).take (pos s j)
  | 0, _ => rfl
  | j + 1, h => by
    have ih := back_take s hw j (by omega)
    have hs := hw j (by omega)
    rw [txt_succ, ih]
    show _ = (numsOf s).take (pos s j + wd s (pos s j))
    rw [hs.wd, List.take_add]
    congr 1
    have h1 := hs.2.1
    apply List.ext_getElem?
    intro m
    by_cases hm : m < lenR (rn s (pos s j))
    · rw [List.getElem?_take_of_lt hm, List.getElem?_drop, numsOf_at s _ (by omega)]
      have hme : m < (enc (rn s (pos s j))).length := by rw [enc_len _ hs.1]; exact hm
      rw [List.getElem?_eq_getElem hme]
      congr 1
      exact (hs.2.2 m _ (List.getElem?_eq_getElem hme)).symm
    · rw [List.getElem?_eq_none (by rw [enc_len _ hs.1]; omega), List.getElem?_eq_none (by rw [List.length_take]; omega)]
theorem back_whole (s : ByteArray) {k : Nat} (hw : Whole s k) (he : Ends s k) : strOfNums (txt (fun i => rn s (pos s i)) k) = s := by
  rw [back_take s hw k (Nat.le_refl _), he.1, ← numsOf_len s, List.take_length]
  exact nums_of s
theorem rs_ok {s : ByteArray} (h : (-1 : Int) ∉ rs s) : ∀ r ∈ rs s, okR r = true := by
  intro r hr
  have hr0 := hr
  unfold rs rl at hr
  rw [List.mem_map] at hr
  obtain ⟨j, hj, rfl⟩ := hr
  rw [List.mem_range] at hj
  rcases rn_range s (pos s j) ((kS_ends s).2 j hj) with e | e
  · rw [e] at hr0; exact absurd hr0 h
  · exact e
theorem rs_back {s : ByteArray} (h : (-1 : Int) ∉ rs s) : strOfNums ((rs s).flatMap enc) = s := by
  have hw : Whole s (kS s) := by
    intro j hj
    rcases sign_or s (pos s j) ((kS_ends s).2 j hj) with h1 | ⟨_, h1, _⟩
    · exact h1
    · refine absurd ?_ h
      unfold rs rl
      exact List.mem_map.2 ⟨j, List.mem_range.2 hj, h1⟩
  have h2 := back_whole s hw (kS_ends s)
  have h3 : txt (fun i => rn s (pos s i)) (kS s) = (rs s).flatMap enc := by
    unfold txt rs rl
    rw [List.flatMap_map]
  rw [h3] at h2
  exact h2
theorem rs_lt {a s : ByteArray} (ha : (-1 : Int) ∉ rs a) (hs : (-1 : Int) ∉ rs s) (h : lw a s = true) : rs a < rs s := by
  refine text_lt _ _ (rs_ok ha) (rs_ok hs) ?_
  rw [rs_back ha, rs_back hs]
  exact h
theorem rs_inj {a s : ByteArray} (ha : (-1 : Int) ∉ rs a) (hs : (-1 : Int) ∉ rs s) (h : rs a = rs s) : a = s := by
  rw [← rs_back ha, ← rs_back hs, h]
theorem chkP_facts {i : Nat} {s a : ByteArray} {L : List Int} (h : chkP i s a L = 0) : lw a s = true ∧ (-1 : Int) ∉ L := by
  unfold chkP at h
  split at h
  · cases h
  · split at h
    · cases h
    · rename_i h1
      split at h
      · cases h
      · split at h
        · cases h
        · split at h
          · cases h
          · rename_i h2
            exact ⟨by simpa using h1, h2⟩
/-- Words that Make takes, one behind the other. -/
theorem make_inv : ∀ (L : List ByteArray) (i : Nat) (a : ByteArray) (P : List PN) (B D : List (List Int)), (makeG i a P L).1 = 0 → Inv D P B → EndI D P B → (-1 : Int) ∉ rs a → (∀ x ∈ D, x = rs a ∨ x < rs a) →
    ∃ B', Inv ((L.map rs).reverse ++ D) (makeG i a P L).2 B' ∧ EndI ((L.map rs).reverse ++ D) (makeG i a P L).2 B' ∧ ∀ s ∈ L, (-1 : Int) ∉ rs s
  | [], i, a, P, B, D, _, hI, hE, _, _ => ⟨B, hI, hE, fun s hs => absurd hs List.not_mem_nil⟩
  | s :: L, i, a, P, B, D, hc, hI, hE, ha, hD => by
    simp only [makeG] at hc ⊢
    by_cases h0 : chkP i s a (rs s) = 0
    · rw [if_pos h0] at hc ⊢
      obtain ⟨h1, h2⟩ := chkP_facts h0
      have hlt := rs_lt ha h2 h1
      have hW : ∀ x ∈ rs s :: D, x = rs s ∨ x < rs s := by
        intro x hx
        rcases List.mem_cons.1 hx with rfl | hx
        · exact Or.inl rfl
        · rcases hD x hx with e | e
          · exact Or.inr (by rw [e]; exact hlt)
          · exact Or.inr (List.lt_trans e hlt)
      obtain ⟨B1, h3, h4⟩ := add_inv (hI.more fun x hx => List.mem_cons_of_mem _ hx) hE hW (List.mem_cons_self ..)
      obtain ⟨B2, h5, h6, h7⟩ := make_inv L (i + 1) s (addP P (rs s)) B1 (rs s :: D) hc h3 h4 h2 hW
      refine ⟨B2, ?_, ?_, ?_⟩
      · simpa using h5
      · simpa using h6
      · intro x hx
        rcases List.mem_cons.1 hx with rfl | hx
        · exact h2
        · exact h7 x hx
    · rw [if_neg h0] at hc
      exact absurd hc h0
/-- What a trie that Make made has. -/
theorem makeP_has {L : List ByteArray} (h : (makeP L).1 = 0) : RiseP (makeP L).2 ∧ (∀ s ∈ L, (-1 : Int) ∉ rs s) ∧ (∀ u, hasP (makeP L).2 u = decide (u ∈ L.map rs)) := by
  have he : rs ⟨#[]⟩ = [] := by
    unfold rs
    rw [kS_is (s := ⟨#[]⟩) (k := 0) ⟨rfl, fun j hj => absurd hj (Nat.not_lt_zero j)⟩]
    rfl
  obtain ⟨B, h1, h2, h3⟩ := make_inv L 0 ⟨#[]⟩ [pn0] [[]] [] h inv0 end0 (by rw [he]; exact List.not_mem_nil) (fun x hx => absurd hx List.not_mem_nil)
  refine ⟨h1.riseP, h3, fun u => ?_⟩
  rw [show (makeP L).2 = (makeG 0 ⟨#[]⟩ [pn0] L).2 from rfl, has_is h1 h2]
  simp
end Go.Proofs.YtfikkkodepfdkaaDoor
namespace Go.Proofs.YtfikkkodepfdkaaDoor
set_option linter.unusedVariables false
open Go.RowKit Go.ChangeShapes
/-- These cells lie where a slice points (nil, too). -/
def Srcs (w : World) (v : Value) (m size : Nat) (news : List Value) : Prop := news.length = m * size ∧ ((∃ ad c, v = .slice ad 0 c ∧ m = 0) ∨ ∃ b off c, v = .slice (some ⟨b, off, none⟩) m c ∧ ∀ j u, news[j]? = some u → w.cell? ⟨b, off + j, none⟩ = some u)
theorem Srcs.stay {w w' : World} {v : Value} {m size : Nat} {news : List Value} (h : Srcs w v m size news) (hb : Below w.heap.size w w') : Srcs w' v m size news := by
  obtain ⟨h1, h2 | ⟨b, off, c, rfl, h2⟩⟩ := h
  · exact ⟨h1, Or.inl h2⟩
  · exact ⟨h1, Or.inr ⟨b, off, c, rfl, fun j u hu => (hb.cell (World.block_lt_of_cell? w _ (h2 j u hu))).trans (h2 j u hu)⟩⟩
/-- What is appended elsewhere leaves them. -/
theorem Srcs.grown {w w' : World} {m size g : Nat} {c : Nat} {off : Nat} {news : List Value} {row : Option Nat} (h : Srcs w (.slice (some ⟨g, off, none⟩) m c) m size news) (hg : w.grownBy w' row) (hr : row ≠ some g) : Srcs w' (.slice (some ⟨g, off, none⟩) m c) m size news := by
  obtain ⟨h1, h2 | ⟨b, off', c', he, h2⟩⟩ := h
  · exact ⟨h1, Or.inl h2⟩
  · refine ⟨h1, Or.inr ⟨b, off', c', he, fun j u hu => ?_⟩⟩
    have hc := h2 j u hu
    have hl := World.block_lt_of_cell? w _ hc
    cases he
    exact (World.cell?_of_block (hg.block g hl (fun e => hr e.symm))).trans hc
theorem addr_plus (b off j : Nat) : (⟨b, off, none⟩ : Addr).add j = ⟨b, off + j, none⟩ := by
  unfold Addr.add; split <;> simp_all
theorem append_none (P : Program) (w : World) (base : Nat) (t ty e : TypeId) (i : TypeInfo) (size : Nat) (ht : P.underlying t = some (.slice e)) (hi : P.info? e = some i)
    (v : Value) (n c : Nat) (xs : List Value) (hown : w.ownsRow base e size v n xs) :
    (Builtin.append_ #[t, t] ty #[v, .slice none 0 c]).run P w = .ok v w := by
  rcases hown.2 with ⟨rfl, rfl⟩ | ⟨g, cap, cur, rfl, _, _, hnc, _⟩
  · simp [Builtin.append_, run_underlying ht, sizeOf, typeInfo, hi, Builtin.lenOf, Builtin.firstCells]
  · simp [Builtin.append_, run_underlying ht, sizeOf, typeInfo, hi, Builtin.lenOf, Builtin.firstCells, hnc, storeCells]
theorem app_src_wp {P : Program} {w : World} {o : Oper} {a : Act} {K : Act → World → Prop} {Q : Exit → Act → World → Prop} (s x : Operand) (t : TypeId)
    (ho : o.op = .call { callee := .builtin .append, args := #[s, x], argTypes := #[t, t] })
    (base : Nat) (e : TypeId) (i : TypeInfo) (z : Value) (size bytes : Nat) (ht : P.underlying t = some (.slice e)) (hi : P.info? e = some i) (hz : i.zero = some z)
    (hsize : i.size = size) (hby : i.bytes = bytes) (hzs : z.cells.size = size) (hsz : 0 < size)
    (v : Value) (n : Nat) (xs : List Value) (hs : a.eval s = v) (hown : w.ownsRow base e size v n xs)
    (v2 : Value) (m : Nat) (news : List Value) (hx : a.eval x = v2) (hb : Srcs w v2 m size news) (h1 : ∀ u ∈ news, u.oneCell' = true)
    (h63 : n + m ≤ maxLen) (hbytes : (n + m) * bytes ≤ 140737488355328) (hbase : base ≤ w.heap.size)
    (h : ∀ v' w', w'.ownsRow base e size v' (n + m) (xs ++ news) → w.grownBy w' v.ownBlock → K (a.put o.dst v') w') : o.wp P a w K Q := by
  obtain ⟨hl, ⟨ad, c, rfl, h0⟩ | ⟨g, off, c, rfl, hb⟩⟩ := hb
  · have hnil : news = [] := List.eq_nil_of_length_eq_zero (by rw [hl, h0, Nat.zero_mul])
    cases ad with
    | none =>
      have hrun := append_none P w base t o.type e i size ht hi v n c xs hown
      unfold Oper.wp
      simp [execOp, ho, resolve, invoke, builtin, hs, hx, hrun, Result.andThen]
      exact h v w (by rw [hnil, List.append_nil, h0]; exact hown) (World.grownBy.refl _ _)
    | some ad =>
      exact wp_append_own w s x t ho base e i z size bytes ht hi hz hsize hby hzs hsz v n xs hs hown ad 0 c [] hx (by simp) (fun j u hj => by simp at hj) (fun u hu => by simp at hu) (by omega) (by rw [h0] at hbytes; exact hbytes) hbase (fun v' w' h2 h3 _ => h v' w' (by rw [hnil, h0]; exact h2) h3)
  · exact wp_append_own w s x t ho base e i z size bytes ht hi hz hsize hby hzs hsz v n xs hs hown ⟨g, off, none⟩ m c _ hx hl (fun j u hu => by rw [addr_plus]; exact hb j u hu) h1 h63 hbytes hbase (fun v' w' h2 h3 _ => h v' w' h2 h3)
theorem app_src {P : Program} {w : World} {ops : Array Oper} {rest : List Oper} {o : Oper} {a : Act} {Q : Exit → Act → World → Prop} (hgd : o.guard = none) (s x : Operand) (t : TypeId)
    (ho : o.op = .call { callee := .builtin .append, args := #[s, x], argTypes := #[t, t] })
    (base : Nat) (e : TypeId) (i : TypeInfo) (z : Value) (size bytes : Nat) (ht : P.underlying t = some (.slice e)) (hi : P.info? e = some i) (hz : i.zero = some z)
    (hsize : i.size = size) (hby : i.bytes = bytes) (hzs : z.cells.size = size) (hsz : 0 < size)
    (v : Value) (n : Nat) (xs : List Value) (hs : a.eval s = v) (hown : w.ownsRow base e size v n xs)
    (v2 : Value) (m : Nat) (news : List Value) (hx : a.eval x = v2) (hb : Srcs w v2 m size news) (h1 : ∀ u ∈ news, u.oneCell' = true)
    (h63 : n + m ≤ maxLen) (hbytes : (n + m) * bytes ≤ 140737488355328) (hbase : base ≤ w.heap.size)
    (h : ∀ v' w', w'.ownsRow base e size v' (n + m) (xs ++ news) → w.grownBy w' v.ownBlock → wpList P ops Q rest (a.put o.dst v') w') : wpList P ops Q (o :: rest) a w :=
  wpList_plain hgd fun K hK => app_src_wp s x t ho base e i z size bytes ht hi hz hsize hby hzs hsz v n xs hs hown v2 m news hx hb h1 h63 hbytes hbase (fun v' w' h2 h3 => hK _ _ (h v' w' h2 h3))
theorem srcs_own {w : World} {base e size n : Nat} {v : Value} {xs : List Value} (h : w.ownsRow base e size v n xs) : Srcs w v n size xs := by
  have hc := @World.ownsRow.cells _ _ _ _ _ _ _ h
  obtain ⟨hl, ⟨rfl, rfl⟩ | ⟨g, cap, cur, rfl, hg, hh, h3⟩⟩ := h
  · exact ⟨hl, Or.inl ⟨none, 0, rfl, rfl⟩⟩
  · exact ⟨hl, Or.inr ⟨g, 0, cap, rfl, fun j u hu => by have := hc rfl j u hu; rw [addr_plus] at this; exact this⟩⟩
theorem srcs_new (w : World) (cs : Array Value) (t : TypeId) (m size c : Nat) (h : cs.toList.length = m * size) : Srcs (w.alloc (.cells cs t)) (.slice (some ⟨w.heap.size, 0, none⟩) m c) m size cs.toList := by
  refine ⟨h, Or.inr ⟨w.heap.size, 0, c, rfl, fun j u hu => ?_⟩⟩
  have hb : (w.alloc (.cells cs t)).heap[w.heap.size]? = some (.cells cs t (0, 0)) := Array.getElem?_push_size
  have := Go.World.news_of_block hb j u hu
  rw [addr_plus] at this
  exact this
theorem str_one (L : List ByteArray) : ∀ u ∈ L.map Value.string, u.oneCell' = true := by
  intro u hu
  obtain ⟨x, _, rfl⟩ := List.mem_map.1 hu
  rfl
/-- A part of a list that lies in memory. -/
theorem srcs_part {w : World} {g i m c : Nat} {L M : List ByteArray} (h : ∀ j, (hj : j < L.length) → w.cell? ⟨g, j, none⟩ = some (.string L[j])) (hm : M.length = m) (hM : ∀ j x, M[j]? = some x → L[i + j]? = some x) : Srcs w (.slice (some ⟨g, i, none⟩) m c) m 1 (M.map Value.string) := by
  refine ⟨by simp [hm], Or.inr ⟨g, i, c, rfl, fun j u hu => ?_⟩⟩
  rw [List.getElem?_map] at hu
  cases hx : M[j]? with
  | none => rw [hx] at hu; cases hu
  | some x =>
    rw [hx] at hu
    cases hu
    obtain ⟨h1, h2⟩ := List.getElem?_eq_some_iff.1 (hM j x hx)
    rw [h (i + j) h1, h2]
theorem own_cells {w : World} {base n g cap : Nat} {L : List ByteArray} (h : w.ownsRow base 9 1 (.slice (some ⟨g, 0, none⟩) n cap) n (L.map Value.string)) : ∀ j, (hj : j < L.length) → w.cell? ⟨g, j, none⟩ = some (.string L[j]) := fun j hj => by
  have hl : n = L.length := by have := h.1; simp at this; omega
  rw [h.cellAt j (by omega)]
  simp [hj]
theorem lw_less (x s : ByteArray) : Op.bytesLess x.toList s.toList = lw x s := by
  rw [Lib.toList_data, Lib.toList_data, bytesLess_eq]
  rfl
theorem take_while {p : ByteArray → Bool} : ∀ (L : List ByteArray) (i : Nat), (∀ j, (hj : j < L.length) → j < i → p L[j] = true) → i ≤ L.length → (∀ hi : i < L.length, p L[i] = false) → L.takeWhile p = L.take i ∧ L.dropWhile p = L.drop i
  | [], i, _, hi, _ => by simp at hi; subst hi; simp
  | a :: L, 0, _, _, h2 => by
    have := h2 (by simp)
    simp at this
    simp [this]
  | a :: L, i + 1, h1, hi, h2 => by
    have h0 := h1 0 (by simp) (by omega)
    simp at h0
    obtain ⟨e1, e2⟩ := take_while L i (fun j hj hl => h1 (j + 1) (by simpa using hj) (by omega)) (by simpa using hi) (fun hl => h2 (by simpa using hl))
    simp [h0, e1, e2]
theorem put_split (L : List ByteArray) (s : ByteArray) (i : Nat) (h1 : ∀ j, (hj : j < L.length) → j < i → lw L[j] s = true) (hi : i ≤ L.length) (h2 : ∀ hi : i < L.length, lw L[i] s = false) : putK id L s = L.take i ++ s :: L.drop i := by
  obtain ⟨e1, e2⟩ := take_while (p := fun x => lw x s) L i h1 hi h2
  unfold putK
  show List.takeWhile (fun x => lw x s) L ++ s :: List.dropWhile (fun x => lw x s) L = _
  rw [e1, e2]
theorem info9 : (Tryd.prog.info? 9).map (fun i => (i.zero, i.size, i.bytes)) = some (some (.string ⟨#[]⟩), 1, 16) := by kernel_rfl
theorem one_one (v : Value) (h : v.oneCell' = true) : ∀ u ∈ [v], u.oneCell' = true := by
  intro u hu
  simp at hu
  subst hu
  exact h
end Go.Proofs.YtfikkkodepfdkaaDoor
namespace Go.Proofs.YtfikkkodepfdkaaDoor
set_option linter.unusedVariables false
/-- Small letters. -/
def SmL (l : List Int) : Prop := ∀ b ∈ l, 97 ≤ b ∧ b ≤ 122
theorem bt_nums (l : List Int) (h : SmL l) (i : Nat) (hi : i < l.length) : (bt (strOfNums l) i : Int) = l[i] := by
  have hb := h _ (List.getElem_mem hi)
  unfold bt
  show ((((strOfNums l).data[i]!).toNat : Nat) : Int) = _
  have h' : i < (strOfNums l).data.size := by
    have := strOfNums_size l
    show i < (strOfNums l).size
    omega
  rw [getElem!_pos (strOfNums l).data i h']
  have e : (strOfNums l).data[i] = UInt8.ofNat l[i].toNat := by
    have h3 : (strOfNums l).data.toList[i]? = some (UInt8.ofNat l[i].toNat) := by
      rw [strOfNums_data, List.getElem?_map, List.getElem?_eq_getElem hi]; rfl
    rw [Array.getElem?_toList, Array.getElem?_eq_getElem h'] at h3
    exact Option.some.inj h3
  rw [e, UInt8.toNat_ofNat']
  omega
open Go.Lib in
theorem sm_dec (l : List Int) (h : SmL l) (i : Nat) (hi : i < l.length) : Utf8.decode (strOfNums l) i = (l[i].toNat, 1) := by
  have hb := h _ (List.getElem_mem hi)
  have e := bt_nums l h i hi
  rw [decode_at]
  have h0 : ((strOfNums l).get! i).toNat = l[i].toNat := by unfold bt at e; omega
  unfold decodeN
  rw [if_pos (by omega), h0]
theorem sm_pos (l : List Int) (h : SmL l) : ∀ j, j ≤ l.length → pos (strOfNums l) j = j
  | 0, _ => rfl
  | j + 1, hj => by
    show pos (strOfNums l) j + wd (strOfNums l) (pos (strOfNums l) j) = _
    rw [sm_pos l h j (by omega)]
    unfold wd
    rw [sm_dec l h j (by omega)]
theorem sm_ends (l : List Int) (h : SmL l) : Ends (strOfNums l) l.length := by
  refine ⟨by rw [sm_pos l h _ (Nat.le_refl _), strOfNums_size], fun j hj => ?_⟩
  rw [sm_pos l h j (by omega), strOfNums_size]
  exact hj
theorem sm_rs (l : List Int) (h : SmL l) : rs (strOfNums l) = l := by
  unfold rs
  rw [kS_is (sm_ends l h)]
  apply List.ext_getElem
  · simp [rl]
  · intro i h1 h2
    have hb := h _ (List.getElem_mem h2)
    simp only [rl, List.getElem_map, List.getElem_range]
    rw [sm_pos l h i (by omega)]
    unfold rn
    rw [sm_dec l h i h2]
    unfold kn
    rw [if_neg (by simp; omega)]
    show ((l[i].toNat : Nat) : Int) = _
    omega
theorem sm_no (l : List Int) (h : SmL l) : (-1 : Int) ∉ rs (strOfNums l) := by
  rw [sm_rs l h]
  intro hm
  have := h _ hm
  omega
theorem lw_empty (s : ByteArray) (h : 0 < s.size) : lw ⟨#[]⟩ s = true := by
  unfold lw Sort.ltStr
  rw [decide_eq_true_eq]
  show ([] : List UInt8) < s.data.toList
  cases hs : s.data.toList with
  | nil =>
    have : s.size = s.data.toList.length := by simp
    rw [hs] at this
    simp only [List.length_nil] at this
    omega
  | cons a l => exact List.nil_lt_cons a l
/-- One word. -/
theorem make_one (l : List Int) (h : SmL l) : ((makeP [strOfNums l]).1 = 0) ↔ (0 < l.length ∧ l.length ≤ 64) := by
  have hs := strOfNums_size l
  have hc : chkP 0 (strOfNums l) ⟨#[]⟩ (rs (strOfNums l)) = if l.length = 0 then 5 else if 64 < l.length then 3 else 0 := by
    unfold chkP
    rw [hs]
    by_cases h0 : l.length = 0
    · rw [if_pos h0, if_pos h0]
    · rw [if_neg h0, if_neg h0, if_neg (by rw [lw_empty _ (by omega)]; decide), if_neg (by decide : ¬ 4096 ≤ 0), if_neg (sm_no l h)]
  unfold makeP
  simp only [makeG]
  rw [hc]
  by_cases h0 : l.length = 0
  · rw [if_pos h0]; simp; omega
  · by_cases h1 : 64 < l.length
    · rw [if_neg h0, if_pos h1]; simp; omega
    · rw [if_neg h0, if_neg h1]; simp; omega
/-- The i-th word of three letters. -/
def wT (i : Nat) : List Int := [97 + (i : Int) / 676 % 26, 97 + (i : Int) / 26 % 26, 97 + (i : Int) % 26]
theorem wT_sm (i : Nat) : SmL (wT i) := by
  intro b hb
  simp only [wT, List.mem_cons, List.not_mem_nil, or_false] at hb
  rcases hb with rfl | rfl | rfl <;> omega
theorem three_lt (a b c a' b' c' : Nat) (h : a < a' ∨ a = a' ∧ (b < b' ∨ b = b' ∧ c < c')) (h1 : a < 256) (h2 : b < 256) (h3 : c < 256) (h4 : a' < 256) (h5 : b' < 256) (h6 : c' < 256) :
    [UInt8.ofNat a, UInt8.ofNat b, UInt8.ofNat c] < [UInt8.ofNat a', UInt8.ofNat b', UInt8.ofNat c'] := by
  have lt : ∀ x y : Nat, x < y → y < 256 → UInt8.ofNat x < UInt8.ofNat y := by
    intro x y hxy hy
    rw [UInt8.lt_iff_toNat_lt, UInt8.toNat_ofNat', UInt8.toNat_ofNat']
    omega
  rcases h with h | ⟨rfl, h⟩
  · exact List.cons_lt_cons_iff.2 (Or.inl (lt _ _ h h4))
  · refine List.cons_lt_cons_iff.2 (Or.inr ⟨rfl, ?_⟩)
    rcases h with h | ⟨rfl, h⟩
    · exact List.cons_lt_cons_iff.2 (Or.inl (lt _ _ h h5))
    · refine List.cons_lt_cons_iff.2 (Or.inr ⟨rfl, ?_⟩)
      exact List.cons_lt_cons_iff.2 (Or.inl (lt _ _ h h6))
theorem wT_lt (i : Nat) (h : i < 10000) : lw (strOfNums (wT i)) (strOfNums (wT (i + 1))) = true := by
  unfold lw Sort.ltStr
  rw [decide_eq_true_eq, strOfNums_data, strOfNums_data]
  exact three_lt _ _ _ _ _ _ (by omega) (by omega) (by omega) (by omega) (by omega) (by omega) (by omega)
theorem make_many (P : List PN) : ∀ (d i : Nat) (a : ByteArray) (P : List PN), i ≤ 4096 → i + d ≤ 9000 → lw a (strOfNums (wT i)) = true →
    (makeG i a P ((List.range' i d).map fun j => strOfNums (wT j))).1 = if i + d ≤ 4096 then 0 else 4
  | 0, i, a, P, hi, _, _ => by
    rw [if_pos (by omega)]; rfl
  | d + 1, i, a, P, hi, hd, hl => by
    have hs := strOfNums_size (wT i)
    have hs3 : (wT i).length = 3 := rfl
    rw [List.range'_succ, List.map_cons]
    simp only [makeG]
    by_cases h4 : 4096 ≤ i
    · have hc : chkP i (strOfNums (wT i)) a (rs (strOfNums (wT i))) = 4 := by
        unfold chkP
        rw [if_neg (by omega), if_neg (by rw [hl]; decide), if_neg (by omega), if_pos h4]
      rw [hc, if_neg (by decide), if_neg (by omega)]
    · have hc : chkP i (strOfNums (wT i)) a (rs (strOfNums (wT i))) = 0 := by
        unfold chkP
        rw [if_neg (by omega), if_neg (by rw [hl]; decide), if_neg (by omega), if_neg h4, if_neg (sm_no _ (wT_sm i))]
      rw [hc, if_pos rfl, make_many P d (i + 1) _ _ (by omega) (by omega) (wT_lt i (by omega))]
      rw [show i + 1 + d = i + (d + 1) by omega]
theorem make_list (n : Nat) (hn : n ≤ 9000) : (makeP ((List.range n).map fun j => strOfNums (wT j))).1 = if n ≤ 4096 then 0 else 4 := by
  unfold makeP
  rw [List.range_eq_range']
  have h := make_many [] n 0 ⟨#[]⟩ [pn0] (by omega) (by omega) (lw_empty _ (by rw [strOfNums_size]; decide))
  rw [Nat.zero_add] at h
  exact h
end Go.Proofs.YtfikkkodepfdkaaDoor
namespace Go.Proofs.YtfikkkodepfdkaaDoor
set_option linter.unusedVariables false
open Go.RowKit Go.ChangeShapes
theorem put_sign (l : List Int) (hl : ∀ r, r ∈ l → okR r = true) (j : Nat) (hj : j < l.length) : Sign (strOfNums (l.flatMap enc)) (pos (strOfNums (l.flatMap enc)) j) l[j] := by
  have hok := hl l[j] (List.getElem_mem hj)
  rw [(put_all l hl j (Nat.le_of_lt hj)).1]
  have := sign_in ((l.take j).flatMap enc) ((l.drop (j + 1)).flatMap enc) hok
  have he : l.flatMap enc = (l.take j).flatMap enc ++ enc l[j] ++ (l.drop (j + 1)).flatMap enc := by
    rw [List.append_assoc, ← List.flatMap_cons, ← List.flatMap_append, ← List.drop_eq_getElem_cons hj, List.take_append_drop]
  rw [he]
  exact this
/-- Signs as a text are read as these signs. -/
theorem rs_text (l : List Int) (hl : ∀ r, r ∈ l → okR r = true) : rs (strOfNums (l.flatMap enc)) = l := by
  have hp := put_all l hl l.length (Nat.le_refl _)
  have hE : Ends (strOfNums (l.flatMap enc)) l.length := by
    refine ⟨?_, fun j hj => ?_⟩
    · rw [hp.1, List.take_length]
      simp [strOfNums_size]
    · rw [(put_all l hl j (Nat.le_of_lt hj)).1]
      have := flat_lt l hl j hj
      simpa [strOfNums_size] using this
  unfold rs
  rw [kS_is hE]
  apply List.ext_getElem
  · simp [rl]
  · intro i h1 h2
    simp only [rl, List.getElem_map, List.getElem_range]
    exact (put_sign l hl i h2).rn
/-- The signs that are signs. -/
def gr (s : ByteArray) : List Int := (rs s).filter fun r => decide (0 ≤ r)
/-- The word that Sorted makes of a text. -/
def wd12 (s : ByteArray) : ByteArray := strOfNums (((gr s).take 12).flatMap enc)
def insP (L : List ByteArray) (s : ByteArray) : List ByteArray :=
  haveI : ∀ (s : ByteArray) (L : List ByteArray), Decidable (s ∈ L) := memDec
  if s.size = 0 ∨ s ∈ L then L else putK id L s
def srtG (Ls : List ByteArray) : List ByteArray := Ls.foldl (fun L t => insP L (wd12 t)) []
def srtL (Ls : List ByteArray) : List ByteArray := srtG (Ls.take 61)
def GoodW (s : ByteArray) : Prop := 0 < s.size ∧ s.size ≤ 48 ∧ (-1 : Int) ∉ rs s ∧ (rs s).length ≤ 12
theorem rs_range (s : ByteArray) : ∀ r ∈ rs s, r = -1 ∨ okR r = true := by
  intro r hr
  unfold rs rl at hr
  obtain ⟨j, hj, rfl⟩ := List.mem_map.1 hr
  exact rn_range s _ ((kS_ends s).2 j (by simpa using hj))
theorem gr_ok (s : ByteArray) : ∀ r ∈ gr s, okR r = true := by
  intro r hr
  obtain ⟨h1, h2⟩ := List.mem_filter.1 hr
  rcases rs_range s r h1 with h | h
  · rw [h] at h2; simp at h2
  · exact h
theorem wd12_rs (s : ByteArray) : rs (wd12 s) = (gr s).take 12 := rs_text _ (fun r hr => gr_ok s r (List.mem_of_mem_take hr))
theorem wd12_good (s : ByteArray) (h : (wd12 s).size ≠ 0) : GoodW (wd12 s) := by
  refine ⟨by omega, ?_, ?_, ?_⟩
  · have h1 : ∀ l : List Int, (l.flatMap enc).length ≤ 4 * l.length := fun l => by
      induction l with
      | nil => simp
      | cons a l ih =>
        have := enc_le a
        simp only [List.flatMap_cons, List.length_append, List.length_cons]
        omega
    have h2 := h1 ((gr s).take 12)
    have h3 : ((gr s).take 12).length ≤ 12 := by rw [List.length_take]; omega
    have h4 : (wd12 s).size = (((gr s).take 12).flatMap enc).length := by unfold wd12; simp [strOfNums_size]
    omega
  · rw [wd12_rs]
    intro hm
    have := gr_ok s _ (List.mem_of_mem_take hm)
    simp [okR] at this
  · rw [wd12_rs, List.length_take]; omega
theorem ins_good {L : List ByteArray} {s : ByteArray} (h : RiseK id L ∧ ∀ x ∈ L, GoodW x) (hs : s.size ≠ 0 → GoodW s) : (RiseK id (insP L s) ∧ ∀ x ∈ insP L s, GoodW x) ∧ (insP L s).length ≤ L.length + 1 := by
  unfold insP
  split
  · exact ⟨h, Nat.le_succ _⟩
  · rename_i hn
    simp only [not_or] at hn
    refine ⟨⟨putK_rise id L s h.1 (by simpa using hn.2), fun x hx => ?_⟩, by rw [putK_len]; exact Nat.le_refl _⟩
    rcases List.mem_cons.1 ((putK_perm id L s).mem_iff.1 hx) with e | e
    · rw [e]; exact hs hn.1
    · exact h.2 x e
theorem srtG_good (Ls : List ByteArray) : ∀ L : List ByteArray, (RiseK id L ∧ ∀ x ∈ L, GoodW x) → (RiseK id (Ls.foldl (fun L t => insP L (wd12 t)) L) ∧ ∀ x ∈ Ls.foldl (fun L t => insP L (wd12 t)) L, GoodW x) ∧ (Ls.foldl (fun L t => insP L (wd12 t)) L).length ≤ L.length + Ls.length := by
  induction Ls with
  | nil => intro L h; exact ⟨h, Nat.le_refl _⟩
  | cons t Ls ih =>
    intro L h
    have h1 := ins_good h (wd12_good t)
    have h2 := ih _ h1.1
    refine ⟨h2.1, ?_⟩
    have := h1.2
    have := h2.2
    simp only [List.foldl_cons, List.length_cons]
    omega
theorem srtL_good (Ls : List ByteArray) : RiseK id (srtL Ls) ∧ (∀ x ∈ srtL Ls, GoodW x) ∧ (srtL Ls).length ≤ 61 := by
  have h := srtG_good (Ls.take 61) [] ⟨List.Pairwise.nil, fun x hx => by cases hx⟩
  refine ⟨h.1.1, h.1.2, ?_⟩
  have h2 := h.2
  have : (Ls.take 61).length ≤ 61 := by rw [List.length_take]; omega
  have h3 : (srtL Ls).length ≤ ([] : List ByteArray).length + (Ls.take 61).length := h2
  simp at h3
  omega
theorem makeG_zero : ∀ (L : List ByteArray) (i : Nat) (a : ByteArray) (P : List PN), L.Pairwise (fun x y => lw x y = true) → (∀ s ∈ L, lw a s = true) → (∀ s ∈ L, 0 < s.size ∧ s.size ≤ 64 ∧ (-1 : Int) ∉ rs s) → i + L.length ≤ 4096 → (makeG i a P L).1 = 0
  | [], i, a, P, _, _, _, _ => rfl
  | s :: L, i, a, P, hr, ha, hg, hl => by
    obtain ⟨g1, g2, g3⟩ := hg s (List.mem_cons_self ..)
    have hc : chkP i s a (rs s) = 0 := by
      unfold chkP
      rw [if_neg (by omega), if_neg (by rw [ha s (List.mem_cons_self ..)]; simp), if_neg (by omega), if_neg (by simp at hl; omega), if_neg g3]
    unfold makeG
    rw [if_pos hc]
    rw [List.pairwise_cons] at hr
    exact makeG_zero L (i + 1) s _ hr.2 hr.1 (fun x hx => hg x (List.mem_cons_of_mem _ hx)) (by simp at hl; omega)
theorem makeP_zero {L : List ByteArray} (hr : RiseK id L) (hg : ∀ s ∈ L, GoodW s) (hl : L.length ≤ 4096) : (makeP L).1 = 0 :=
  makeG_zero L 0 _ _ hr (fun s hs => lw_empty s (hg s hs).1) (fun s hs => ⟨(hg s hs).1, by have := (hg s hs).2.1; omega, (hg s hs).2.2.1⟩) (by omega)
end Go.Proofs.YtfikkkodepfdkaaDoor
