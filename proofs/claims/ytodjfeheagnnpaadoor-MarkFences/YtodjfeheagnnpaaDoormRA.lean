/- mark: what stands behind a place is as it is by itself; no program in this text. mark: a remark. mark: what a < begins. -/
import Derived.Test.YtodjfeheagnnpaaDoormLexP
import Derived.Test.YtodjfeheagnnpaaDoormThg
namespace Go.Proofs.YtodjfeheagnnpaaDoor
set_option linter.unusedVariables false
open Go.RowKit Go.ChangeShapes Go.Lib
theorem fsG_sh (P : Nat → Bool) (s : Nat) : ∀ k i, fsG P k (s + i) = s + fsG (fun j => P (s + j)) k i
  | 0, i => rfl
  | k + 1, i => by
    show (if P (s + i) = true then s + i else fsG P k (s + (i + 1))) = s + (if P (s + i) = true then i else fsG (fun j => P (s + j)) k (i + 1))
    by_cases h : P (s + i) = true
    · rw [if_pos h, if_pos h]
    · rw [if_neg h, if_neg h]; exact fsG_sh P s k (i + 1)
theorem fs_sh (P : Nat → Bool) (s n i : Nat) : fs P (s + n) (s + i) = s + fs (fun j => P (s + j)) n i := by
  unfold fs
  rw [Nat.add_sub_add_left]
  exact fsG_sh P s _ i
theorem oc_sh (c : Nat → Int) (s : Nat) : ∀ (t : List Int) (i : Nat), oc t c (s + i) = oc t (sf c s) i
  | [], _ => rfl
  | x :: t, i => by
    show ((c (s + i) == x) && oc t c (s + (i + 1))) = ((c (s + i) == x) && oc t (sf c s) (i + 1))
    rw [oc_sh c s t (i + 1)]
theorem ps_sh (p : Int → Bool) (c : Nat → Int) (s n i : Nat) : ps p c (s + n) (s + i) = s + ps p (sf c s) n i := fs_sh _ s n i
theorem nm_sh (c : Nat → Int) (s i e : Nat) : nm c (s + i) (s + e) = nm (sf c s) i e := by
  unfold nm
  rw [Nat.add_sub_add_left]
  refine List.map_congr_left fun j _ => ?_
  rw [Nat.add_assoc]
  rfl
theorem a1_sh (c : Nat → Int) (s n i : Nat) : a1 c (s + n) (s + i) = s + a1 (sf c s) n i := ps_sh atB c s n (i + 1)
theorem a2_sh (c : Nat → Int) (s n i : Nat) : a2 c (s + n) (s + i) = s + a2 (sf c s) n i := by
  unfold a2
  rw [a1_sh, ps_sh]
theorem a3_sh (c : Nat → Int) (s n i : Nat) : a3 c (s + n) (s + i) = s + a3 (sf c s) n i := by
  unfold a3
  rw [a2_sh]
  exact ps_sh bkB c s n (a2 (sf c s) n i + 1)
theorem a4_sh (c : Nat → Int) (s n e : Nat) : a4 c (s + n) (s + e) = s + a4 (sf c s) n e := fs_sh (fun j => c j == c (s + e)) s n (e + 1)
theorem vlE_sh (c : Nat → Int) (s n e : Nat) : vlE c (s + n) (s + e) = s + vlE (sf c s) n e := by
  unfold vlE
  rw [a4_sh, ps_sh]
  show (if quB (c (s + e)) = true then _ else _) = s + (if quB (c (s + e)) = true then _ else _)
  by_cases h : quB (c (s + e)) = true
  · rw [if_pos h, if_pos h]
    by_cases h2 : a4 (sf c s) n e < n
    · rw [if_pos h2, if_pos (by omega)]; rfl
    · rw [if_neg h2, if_neg (by omega)]
  · rw [if_neg h, if_neg h]
def shp (s : Nat) (p : Nat × Nat) : Nat × Nat := (s + p.1, p.2)
theorem vlP_sh (c : Nat → Int) (s n e : Nat) : prL (vlP c (s + n) (s + e)) = (prL (vlP (sf c s) n e)).map (shp s) := by
  unfold vlP
  rw [a4_sh]
  show prL (if quB (c (s + e)) = true then _ else _) = (prL (if quB (c (s + e)) = true then _ else _)).map (shp s)
  by_cases h : quB (c (s + e)) = true
  · rw [if_pos h, if_pos h]
    by_cases h2 : a4 (sf c s) n e < n
    · rw [if_pos h2, if_pos (by omega)]
      unfold prL
      dsimp only
      rw [show s + a4 (sf c s) n e - (s + e + 1) = a4 (sf c s) n e - (e + 1) by omega]
      split
      · rfl
      · rfl
    · rw [if_neg h2, if_neg (by omega)]; rfl
  · rw [if_neg h, if_neg h]; rfl
theorem atE_sh (c : Nat → Int) (s n i : Nat) : atE c (s + n) (s + i) = s + atE (sf c s) n i := by
  unfold atE
  rw [a2_sh, a3_sh, vlE_sh]
  show (if c (s + a2 (sf c s) n i) = 61 then _ else _) = s + (if c (s + a2 (sf c s) n i) = 61 then _ else _)
  split <;> rfl
theorem atP_sh (c : Nat → Int) (s n i : Nat) : prL (atP c (s + n) (s + i)) = (prL (atP (sf c s) n i)).map (shp s) := by
  unfold atP
  rw [a2_sh, a1_sh, nm_sh, a3_sh]
  show prL (if c (s + a2 (sf c s) n i) = 61 then _ else _) = (prL (if c (s + a2 (sf c s) n i) = 61 then _ else _)).map (shp s)
  by_cases h : c (s + a2 (sf c s) n i) = 61
  · rw [if_pos h, if_pos h]
    by_cases h2 : altB (nm (sf c s) i (a1 (sf c s) n i)) = true
    · rw [if_pos h2, if_pos h2]; exact vlP_sh c s n _
    · rw [if_neg h2, if_neg h2]; rfl
  · rw [if_neg h, if_neg h]; rfl
theorem rdG_sh (c : Nat → Int) (s n : Nat) : ∀ k i l, rdG c (s + n) k (s + i) (l.map (shp s)) = (rdG (sf c s) n k i l).map fun r => (s + r.1, r.2.map (shp s))
  | 0, _, _ => rfl
  | k + 1, i, l => by
    show (if s + n ≤ s + i then none else if c (s + i) = 62 then some (s + i + 1, l.map (shp s)) else if c (s + i) = 47 ∨ bkB (c (s + i)) = true then rdG c (s + n) k (s + (i + 1)) (l.map (shp s)) else rdG c (s + n) k (atE c (s + n) (s + i)) (l.map (shp s) ++ prL (atP c (s + n) (s + i)))) = Option.map (fun r => (s + r.1, r.2.map (shp s))) (if n ≤ i then none else if c (s + i) = 62 then some (i + 1, l) else if c (s + i) = 47 ∨ bkB (c (s + i)) = true then rdG (sf c s) n k (i + 1) l else rdG (sf c s) n k (atE (sf c s) n i) (l ++ prL (atP (sf c s) n i)))
    by_cases h : n ≤ i
    · rw [if_pos h, if_pos (by omega)]; rfl
    rw [if_neg h, if_neg (by omega)]
    by_cases h1 : c (s + i) = 62
    · rw [if_pos h1, if_pos h1]; rfl
    rw [if_neg h1, if_neg h1]
    by_cases h2 : c (s + i) = 47 ∨ bkB (c (s + i)) = true
    · rw [if_pos h2, if_pos h2]; exact rdG_sh c s n k (i + 1) l
    rw [if_neg h2, if_neg h2, atE_sh, atP_sh, ← List.map_append]
    exact rdG_sh c s n k _ _
theorem rd_sh (c : Nat → Int) (s n i : Nat) (l : List (Nat × Nat)) : rd c (s + n) (s + i) (l.map (shp s)) = (rd (sf c s) n i l).map fun r => (s + r.1, r.2.map (shp s)) := by
  unfold rd
  rw [Nat.add_sub_add_left]
  exact rdG_sh c s n _ i l
theorem tgF_sh (c : Nat → Int) (s i : Nat) : tgF c (s + i) = s + tgF (sf c s) i := by
  unfold tgF
  show (if c (s + (i + 1)) = 47 then s + i + 2 else s + i + 1) = s + (if c (s + (i + 1)) = 47 then i + 2 else i + 1)
  split <;> rfl
theorem bg_sh (c : Nat → Int) (s i : Nat) : bg c (s + i) = bg (sf c s) i := by
  unfold bg
  rw [tgF_sh]
  rfl
def shT (s : Nat) (t : Tg) : Tg := ⟨s + t.e, t.nm, t.cl, t.pr.map (shp s)⟩
theorem tg_sh (c : Nat → Int) (s n i : Nat) : tg c (s + n) (s + i) = (tg (sf c s) n i).map (shT s) := by
  unfold tg
  rw [bg_sh]
  by_cases h : bg (sf c s) i = true
  · rw [if_pos h, if_pos h, tgF_sh, ps_sh, nm_sh]
    have := rd_sh c s n (ps nmB (sf c s) n (tgF (sf c s) i)) []
    rw [List.map_nil] at this
    rw [this, Option.map_map, Option.map_map]
    rfl
  · rw [if_neg h, if_neg h]; rfl
/-- Labels behind a place. -/
def LS (s : Nat) (M L : Nat → Int) : Prop := ∀ i, M (s + i) = L i
theorem LS.setL {s : Nat} {M L : Nat → Int} (h : LS s M L) (l : Int) (f t : Int) : LS s (setL M l ((s : Int) + f) ((s : Int) + t)) (setL L l f t) := fun i => by
  unfold Go.Proofs.YtodjfeheagnnpaaDoor.setL
  by_cases e : f ≤ (i : Int) ∧ (i : Int) < t
  · rw [if_pos e, if_pos ⟨by push_cast; omega, by push_cast; omega⟩]
  · rw [if_neg e, if_neg (fun h2 => e ⟨by have := h2.1; push_cast at this; omega, by have := h2.2; push_cast at this; omega⟩)]
    exact h i
theorem LS.set {s : Nat} {M L : Nat → Int} (h : LS s M L) (l : Int) (f t : Nat) : LS s (Go.Proofs.YtodjfeheagnnpaaDoor.setL M l ((s + f : Nat) : Int) ((s + t : Nat) : Int)) (Go.Proofs.YtodjfeheagnnpaaDoor.setL L l (f : Int) (t : Int)) := by
  have := h.setL l f t
  rwa [show (s : Int) + (f : Int) = ((s + f : Nat) : Int) by push_cast; rfl, show (s : Int) + (t : Int) = ((s + t : Nat) : Int) by push_cast; rfl] at this
theorem LS.layP {s : Nat} : ∀ (l : List (Nat × Nat)) {M L : Nat → Int}, LS s M L → LS s (layP M (l.map (shp s))) (layP L l)
  | [], _, _, h => h
  | p :: l, M, L, h => by
    have h1 := h.setL 1 (p.1 : Int) ((p.1 : Int) + (p.2 : Int))
    have h2 : LS s (Go.Proofs.YtodjfeheagnnpaaDoor.setL M 1 (((shp s p).1 : Nat) : Int) (((shp s p).1 : Nat) + ((shp s p).2 : Nat))) (Go.Proofs.YtodjfeheagnnpaaDoor.setL L 1 (p.1 : Int) ((p.1 : Int) + (p.2 : Int))) := by
      show LS s (Go.Proofs.YtodjfeheagnnpaaDoor.setL M 1 ((s + p.1 : Nat) : Int) (((s + p.1 : Nat) : Int) + (p.2 : Int))) _
      rw [show ((s + p.1 : Nat) : Int) = (s : Int) + (p.1 : Int) by push_cast; rfl, Int.add_assoc]
      exact h1
    exact LS.layP l h2
theorem LS.layT {s : Nat} {M L : Nat → Int} (h : LS s M L) (i : Nat) (t : Tg) : LS s (layT M (s + i) (shT s t)) (layT L i t) := LS.layP t.pr (h.set 2 i t.e)
theorem rwP_sh (x : Int) (c : Nat → Int) (s n p : Nat) : rwP x (sf c (s + p)) (s + n - (s + p)) = rwP x (sf (sf c s) p) (n - p) := by
  rw [Nat.add_sub_add_left, sf_sf]
theorem tkG_sh (k : Nat) (c : Nat → Int) (s n : Nat) : ∀ f p, tkG k c (s + n) f (s + p) = (tkG k (sf c s) n f p).map (s + ·)
  | 0, _ => rfl
  | f + 1, p => by
    show (if s + n ≤ s + p then none else if rwP 96 (sf c (s + p)) (s + n - (s + p)) = k then some (s + p) else tkG k c (s + n) f (s + p + max (rwP 96 (sf c (s + p)) (s + n - (s + p))) 1)) = Option.map (s + ·) (if n ≤ p then none else if rwP 96 (sf (sf c s) p) (n - p) = k then some p else tkG k (sf c s) n f (p + max (rwP 96 (sf (sf c s) p) (n - p)) 1))
    rw [rwP_sh]
    by_cases h : n ≤ p
    · rw [if_pos h, if_pos (by omega)]; rfl
    rw [if_neg h, if_neg (by omega)]
    by_cases h1 : rwP 96 (sf (sf c s) p) (n - p) = k
    · rw [if_pos h1, if_pos h1]; rfl
    rw [if_neg h1, if_neg h1, Nat.add_assoc]
    exact tkG_sh k c s n f _
theorem tk_sh (k : Nat) (c : Nat → Int) (s n p : Nat) : tk k c (s + n) (s + p) = (tk k (sf c s) n p).map (s + ·) := by
  unfold tk
  rw [Nat.add_sub_add_left]
  exact tkG_sh k c s n _ p
theorem shG_sh (c : Nat → Int) (s n : Nat) : ∀ f i o, shG c (s + n) f (s + i) o = (shG (sf c s) n f i o).map (s + ·)
  | 0, _, _ => rfl
  | f + 1, i, o => by
    show (if s + n ≤ s + i then none else if c (s + i) = 92 then shG c (s + n) f (s + (i + 2)) o else if c (s + i) = 40 then (if 32 < o + 1 then none else shG c (s + n) f (s + (i + 1)) (o + 1)) else if c (s + i) = 41 then (if o = 1 then some (s + (i + 1)) else shG c (s + n) f (s + (i + 1)) (o - 1)) else shG c (s + n) f (s + (i + 1)) o) = Option.map (s + ·) (if n ≤ i then none else if c (s + i) = 92 then shG (sf c s) n f (i + 2) o else if c (s + i) = 40 then (if 32 < o + 1 then none else shG (sf c s) n f (i + 1) (o + 1)) else if c (s + i) = 41 then (if o = 1 then some (i + 1) else shG (sf c s) n f (i + 1) (o - 1)) else shG (sf c s) n f (i + 1) o)
    rw [shG_sh c s n f (i + 2) o, shG_sh c s n f (i + 1) (o + 1), shG_sh c s n f (i + 1) (o - 1), shG_sh c s n f (i + 1) o]
    by_cases h : n ≤ i
    · rw [if_pos h, if_pos (by omega)]; rfl
    rw [if_neg h, if_neg (by omega)]
    by_cases h1 : c (s + i) = 92
    · rw [if_pos h1, if_pos h1]
    rw [if_neg h1, if_neg h1]
    by_cases h2 : c (s + i) = 40
    · rw [if_pos h2, if_pos h2]
      split <;> rfl
    rw [if_neg h2, if_neg h2]
    by_cases h3 : c (s + i) = 41
    · rw [if_pos h3, if_pos h3]
      split <;> rfl
    rw [if_neg h3, if_neg h3]
theorem shP_sh (c : Nat → Int) (s n i o : Nat) : shP c (s + n) (s + i) o = (shP (sf c s) n i o).map (s + ·) := by
  unfold shP
  rw [Nat.add_sub_add_left]
  exact shG_sh c s n _ i o
/-- Signs behind a place. -/
theorem bs_far (c : Nat → Int) (n i : Nat) (h : n ≤ i) : bt (bs c n) i = 0 := by
  unfold bt
  have hs := bs_size c n
  have : ((bs c n).data[i]?) = none := Array.getElem?_eq_none (by show (bs c n).size ≤ i; rw [hs]; exact h)
  show ((bs c n).data[i]!).toNat = 0
  rw [getElem!_def, this]
  rfl
theorem bs_near (c : Nat → Int) (n i : Nat) (h : i < n) : bt (bs c n) i = ((c i).toNat.toUInt8).toNat := by
  unfold bt bs strOfNums
  show ((((cl c n).map fun x : Int => x.toNat.toUInt8).toArray)[i]!).toNat = _
  rw [getElem!_def]
  have : (((cl c n).map fun x : Int => x.toNat.toUInt8).toArray)[i]? = some ((c i).toNat.toUInt8) := by
    rw [List.getElem?_toArray, List.getElem?_map, cl_at c n i h]
    rfl
  rw [this]
theorem bt_sh (c : Nat → Int) (s n i : Nat) : bt (bs c (s + n)) (s + i) = bt (bs (sf c s) n) i := by
  rcases Nat.lt_or_ge i n with h | h
  · rw [bs_near _ _ _ h, bs_near _ _ _ (by omega)]; rfl
  · rw [bs_far _ _ _ h, bs_far _ _ _ (by omega)]
theorem dec_sh (c : Nat → Int) (s n i : Nat) : Utf8.decode (bs c (s + n)) (s + i) = Utf8.decode (bs (sf c s) n) i := by
  have h0 := bt_sh c s n i
  have h1 := bt_sh c s n (i + 1)
  have h2 := bt_sh c s n (i + 2)
  have h3 := bt_sh c s n (i + 3)
  unfold bt at h0 h1 h2 h3
  rw [decode_at, decode_at, bs_size, bs_size, Nat.add_sub_add_left, Nat.add_assoc, Nat.add_assoc, Nat.add_assoc, h0, h1, h2, h3]
theorem leG_sh (c : Nat → Int) (s n : Nat) : ∀ f p k, leG (bs c (s + n)) f (s + p) k = (s + (leG (bs (sf c s) n) f p k).1, (leG (bs (sf c s) n) f p k).2)
  | 0, _, _ => rfl
  | f + 1, p, k => by
    show (if (bs c (s + n)).size ≤ s + p then (s + p, k) else if leL (rn (bs c (s + n)) (s + p)) = true then leG (bs c (s + n)) f (s + p + wd (bs c (s + n)) (s + p)) (k + 1) else (s + p, k)) = (s + (if (bs (sf c s) n).size ≤ p then (p, k) else if leL (rn (bs (sf c s) n) p) = true then leG (bs (sf c s) n) f (p + wd (bs (sf c s) n) p) (k + 1) else (p, k)).1, (if (bs (sf c s) n).size ≤ p then (p, k) else if leL (rn (bs (sf c s) n) p) = true then leG (bs (sf c s) n) f (p + wd (bs (sf c s) n) p) (k + 1) else (p, k)).2)
    have h1 : rn (bs c (s + n)) (s + p) = rn (bs (sf c s) n) p := by unfold rn; rw [dec_sh]
    have h2 : wd (bs c (s + n)) (s + p) = wd (bs (sf c s) n) p := by unfold wd; rw [dec_sh]
    rw [h1, h2, bs_size, bs_size]
    by_cases h : n ≤ p
    · rw [if_pos h, if_pos (by omega)]
    rw [if_neg h, if_neg (by omega)]
    by_cases h3 : leL (rn (bs (sf c s) n) p) = true
    · rw [if_pos h3, if_pos h3, Nat.add_assoc]; exact leG_sh c s n f _ _
    · rw [if_neg h3, if_neg h3]
theorem le_sh (c : Nat → Int) (s n p k : Nat) : le (bs c (s + n)) (s + p) k = (s + (le (bs (sf c s) n) p k).1, (le (bs (sf c s) n) p k).2) := by
  unfold le
  rw [bs_size, bs_size, Nat.add_sub_add_left]
  exact leG_sh c s n _ p k
theorem lkQ_sh (c : Nat → Int) (s n i : Nat) : lkQ c (s + n) (s + i) = s + lkQ (sf c s) n i := congrArg Prod.fst (le_sh c s n (i + 1) 0)
theorem lkK_sh (c : Nat → Int) (s n i : Nat) : lkK c (s + n) (s + i) = lkK (sf c s) n i := by
  unfold lkK
  rw [show s + i + 1 = s + (i + 1) from rfl, le_sh]
theorem lkJ_sh (c : Nat → Int) (s n i : Nat) : lkJ c (s + n) (s + i) = s + lkJ (sf c s) n i := by
  unfold lkJ
  rw [lkQ_sh]
  exact fs_sh (fun j => anB (c j)) s n _
def sh0 (s x : Nat) : Nat := if 0 < x then s + x else 0
theorem lt_sh (s a b : Nat) : decide (s + a < s + b) = decide (a < b) := by
  by_cases h : a < b
  · rw [decide_eq_true h, decide_eq_true (by omega)]
  · rw [decide_eq_false h, decide_eq_false (by omega)]
theorem lkP_sh (c : Nat → Int) (s n i : Nat) : lkP c (s + n) (s + i) = sh0 s (lkP (sf c s) n i) := by
  unfold lkP
  rw [lkK_sh, lkQ_sh, lkJ_sh, lt_sh]
  show (if (decide (2 ≤ lkK (sf c s) n i) && (sf c s (lkQ (sf c s) n i) == 58) && decide (lkJ (sf c s) n i < n) && (sf c s (lkJ (sf c s) n i) == 62)) = true then s + lkJ (sf c s) n i + 1 else 0) = _
  unfold sh0
  split
  · rw [if_pos (Nat.succ_pos _)]; rfl
  · rw [if_neg (Nat.lt_irrefl 0)]
theorem rmJ_sh (c : Nat → Int) (s n i : Nat) : rmJ c (s + n) (s + i) = s + rmJ (sf c s) n i := by
  unfold rmJ
  have := fs_sh (oc [45, 45, 62] c) s n (i + 4)
  rw [show (fun j => oc [45, 45, 62] c (s + j)) = oc [45, 45, 62] (sf c s) from funext fun j => oc_sh c s _ j] at this
  exact this
theorem rmP_sh (c : Nat → Int) (s n i : Nat) : rmP c (s + n) (s + i) = sh0 s (rmP (sf c s) n i) := by
  unfold rmP
  rw [rmJ_sh, oc_sh, lt_sh]
  unfold sh0
  split
  · rw [if_pos (Nat.succ_pos _)]; rfl
  · rw [if_neg (Nat.lt_irrefl 0)]
theorem gtB_sh (c : Nat → Int) (s n i : Nat) : gtB c (s + n) (s + i) = gtB (sf c s) n i := by
  unfold gtB
  rw [fs_sh (fun j => c j == 62) s n i, lt_sh]
  rfl
theorem sh0_pos (s x : Nat) : (0 < sh0 s x) ↔ 0 < x := by
  unfold sh0
  by_cases h : 0 < x
  · rw [if_pos h]; exact ⟨fun _ => h, fun _ => by omega⟩
  · rw [if_neg h]; exact ⟨fun h2 => absurd h2 (Nat.lt_irrefl 0), fun h2 => absurd h2 h⟩
theorem sh0_is {s x : Nat} (h : 0 < x) : sh0 s x = s + x := by unfold sh0; rw [if_pos h]
theorem anE_sh (c : Nat → Int) (s n i : Nat) : anE c (s + n) (s + i) = s + anE (sf c s) n i := by
  unfold anE
  rw [gtB_sh, lkP_sh, rmP_sh, tg_sh]
  by_cases h1 : gtB (sf c s) n i = false
  · rw [if_pos h1, if_pos h1]; rfl
  rw [if_neg h1, if_neg h1]
  by_cases h2 : 0 < lkP (sf c s) n i
  · rw [if_pos h2, if_pos ((sh0_pos _ _).2 h2), sh0_is h2]
  rw [if_neg h2, if_neg (fun h => h2 ((sh0_pos _ _).1 h))]
  by_cases h3 : 0 < rmP (sf c s) n i
  · rw [if_pos h3, if_pos ((sh0_pos _ _).2 h3), sh0_is h3]
  rw [if_neg h3, if_neg (fun h => h3 ((sh0_pos _ _).1 h))]
  cases tg (sf c s) n i <;> rfl
theorem anL_sh {s : Nat} {M L : Nat → Int} (hL : LS s M L) (c : Nat → Int) (n i : Nat) : LS s (anL M c (s + n) (s + i)) (anL L (sf c s) n i) := by
  unfold anL
  rw [gtB_sh, lkP_sh, rmP_sh, tg_sh]
  by_cases h1 : gtB (sf c s) n i = false
  · rw [if_pos h1, if_pos h1]; exact hL
  rw [if_neg h1, if_neg h1]
  by_cases h2 : 0 < lkP (sf c s) n i
  · rw [if_pos h2, if_pos ((sh0_pos _ _).2 h2), sh0_is h2]; exact hL.set 2 i _
  rw [if_neg h2, if_neg (fun h => h2 ((sh0_pos _ _).1 h))]
  by_cases h3 : 0 < rmP (sf c s) n i
  · rw [if_pos h3, if_pos ((sh0_pos _ _).2 h3), sh0_is h3]; exact hL.set 3 i _
  rw [if_neg h3, if_neg (fun h => h3 ((sh0_pos _ _).1 h))]
  cases tg (sf c s) n i with
  | none => exact hL
  | some t => exact hL.layT i t
theorem tcK_sh (c : Nat → Int) (s n i : Nat) : tcK c (s + n) (s + i) = tcK (sf c s) n i := rwP_sh 96 c s n i
theorem tcE_sh (c : Nat → Int) (s n i : Nat) : tcE c (s + n) (s + i) = s + tcE (sf c s) n i := by
  unfold tcE
  rw [tcK_sh, Nat.add_assoc, tk_sh]
  cases tk (tcK (sf c s) n i) (sf c s) n (i + tcK (sf c s) n i) with
  | none => rfl
  | some q => exact Nat.add_assoc _ _ _
theorem tcL_sh {s : Nat} {M L : Nat → Int} (hL : LS s M L) (c : Nat → Int) (n i : Nat) : LS s (tcL M c (s + n) (s + i)) (tcL L (sf c s) n i) := by
  unfold tcL
  rw [tcK_sh, Nat.add_assoc, tk_sh]
  cases tk (tcK (sf c s) n i) (sf c s) n (i + tcK (sf c s) n i) with
  | none => exact hL
  | some q =>
    have := hL.set 4 i (q + tcK (sf c s) n i)
    rw [← Nat.add_assoc] at this
    exact this
theorem tgO_sh (c : Nat → Int) (s n i : Nat) : tgO c (s + n) (s + i) = (tgO (sf c s) n i).map (s + ·) := by
  unfold tgO
  rw [shP_sh]
  show (if c (s + i) = 40 then _ else _) = Option.map (s + ·) (if c (s + i) = 40 then _ else _)
  split <;> rfl
theorem taE_sh (c : Nat → Int) (s n i : Nat) : taE c (s + n) (s + i) = s + taE (sf c s) n i := by
  unfold taE
  rw [tgO_sh]
  cases tgO (sf c s) n i <;> rfl
theorem taL_sh {s : Nat} {M L : Nat → Int} (hL : LS s M L) (c : Nat → Int) (n i : Nat) : LS s (taL M c (s + n) (s + i)) (taL L (sf c s) n i) := by
  unfold taL
  rw [tgO_sh]
  cases tgO (sf c s) n i with
  | none => exact hL
  | some q => exact hL.set 2 i q
theorem txE_sh (c : Nat → Int) (s n i : Nat) : txE c (s + n) (s + i) = s + txE (sf c s) n i := by
  unfold txE
  rw [tcE_sh, anE_sh, show s + i + 1 = s + (i + 1) from rfl, taE_sh]
  show (if c (s + i) = 92 then _ else if c (s + i) = 96 then _ else if c (s + i) = 93 then _ else if c (s + i) = 60 then _ else _) = s + (if c (s + i) = 92 then _ else if c (s + i) = 96 then _ else if c (s + i) = 93 then _ else if c (s + i) = 60 then _ else _)
  by_cases h1 : c (s + i) = 92
  · rw [if_pos h1, if_pos h1]; rfl
  rw [if_neg h1, if_neg h1]
  by_cases h2 : c (s + i) = 96
  · rw [if_pos h2, if_pos h2]
  rw [if_neg h2, if_neg h2]
  by_cases h3 : c (s + i) = 93
  · rw [if_pos h3, if_pos h3]
  rw [if_neg h3, if_neg h3]
  by_cases h4 : c (s + i) = 60
  · rw [if_pos h4, if_pos h4]
  rw [if_neg h4, if_neg h4]
theorem txL_sh {s : Nat} {M L : Nat → Int} (hL : LS s M L) (c : Nat → Int) (n i : Nat) : LS s (txL M c (s + n) (s + i)) (txL L (sf c s) n i) := by
  unfold txL
  rw [show s + i + 1 = s + (i + 1) from rfl]
  show LS s (if c (s + i) = 92 then _ else if c (s + i) = 96 then _ else if c (s + i) = 93 then _ else if c (s + i) = 60 then _ else _) (if c (s + i) = 92 then _ else if c (s + i) = 96 then _ else if c (s + i) = 93 then _ else if c (s + i) = 60 then _ else _)
  by_cases h1 : c (s + i) = 92
  · rw [if_pos h1, if_pos h1]; exact hL
  rw [if_neg h1, if_neg h1]
  by_cases h2 : c (s + i) = 96
  · rw [if_pos h2, if_pos h2]; exact tcL_sh hL c n i
  rw [if_neg h2, if_neg h2]
  by_cases h3 : c (s + i) = 93
  · rw [if_pos h3, if_pos h3]; exact taL_sh hL c n (i + 1)
  rw [if_neg h3, if_neg h3]
  by_cases h4 : c (s + i) = 60
  · rw [if_pos h4, if_pos h4]; exact anL_sh hL c n i
  rw [if_neg h4, if_neg h4]
  exact hL
theorem txG_sh (c : Nat → Int) (s n : Nat) : ∀ f i {M L : Nat → Int}, LS s M L → LS s (txG c (s + n) f (s + i) M) (txG (sf c s) n f i L)
  | 0, _, _, _, h => h
  | f + 1, i, M, L, h => by
    show LS s (if s + n ≤ s + i then M else txG c (s + n) f (txE c (s + n) (s + i)) (txL M c (s + n) (s + i))) (if n ≤ i then L else txG (sf c s) n f (txE (sf c s) n i) (txL L (sf c s) n i))
    by_cases h1 : n ≤ i
    · rw [if_pos h1, if_pos (by omega)]; exact h
    rw [if_neg h1, if_neg (by omega), txE_sh]
    exact txG_sh c s n f _ (txL_sh h c n i)
theorem tx_sh (c : Nat → Int) (s n i : Nat) {M L : Nat → Int} (h : LS s M L) : LS s (tx c (s + n) (s + i) M) (tx (sf c s) n i L) := by
  unfold tx
  rw [Nat.add_sub_add_left]
  exact txG_sh c s n _ i h
theorem tr_sh (c : Nat → Int) (s e : Nat) : sf (tr c (s + e)) s = tr (sf c s) e := by
  funext i
  show (if s + i < s + e then c (s + i) else -1) = (if i < e then c (s + i) else -1)
  by_cases h : i < e
  · rw [if_pos h, if_pos (by omega)]
  · rw [if_neg h, if_neg (by omega)]
theorem ln_sh (c : Nat → Int) (s a e : Nat) : ln c (s + a) (s + e) = ln (sf c s) a e := by
  unfold ln
  rw [Nat.add_sub_add_left, sf_sf]
theorem lnE_sh (c : Nat → Int) (s n i : Nat) : lnE c (s + n) (s + i) = s + lnE (sf c s) n i := by
  unfold lnE
  rw [fs_sh (fun j => c j == 10) s n i]
  show (if s + fs (fun j => sf c s j == 10) n i < s + n then _ else _) = s + (if fs (fun j => sf c s j == 10) n i < n then _ else _)
  by_cases h : fs (fun j => sf c s j == 10) n i < n
  · rw [if_pos h, if_pos (by omega)]; rfl
  · rw [if_neg h, if_neg (by omega)]
theorem lnL_sh {s : Nat} {M L : Nat → Int} (hL : LS s M L) (m : Ms) (c : Nat → Int) (a e : Nat) : LS s (lnL M m c (s + a) (s + e)) (lnL L m (sf c s) a e) := by
  unfold lnL
  rw [ln_sh, Nat.add_sub_add_left]
  by_cases h1 : 0 < m.k
  · rw [if_pos h1, if_pos h1]; exact hL.set 4 a e
  rw [if_neg h1, if_neg h1]
  by_cases h2 : tmN (ln (sf c s) a e) (e - a) = 0
  · rw [if_pos h2, if_pos h2]; exact hL
  rw [if_neg h2, if_neg h2]
  by_cases h3 : (m.fr && decide (indP (ln (sf c s) a e) (e - a) = 4)) = true
  · rw [if_pos h3, if_pos h3]; exact hL.set 4 a e
  rw [if_neg h3, if_neg h3]
  by_cases h4 : opOk (ln (sf c s) a e) (e - a) = true
  · rw [if_pos h4, if_pos h4]; exact hL.set 4 a e
  rw [if_neg h4, if_neg h4]
  by_cases h5 : dfP (ln (sf c s) a e) (e - a) = true
  · rw [if_pos h5, if_pos h5]; exact hL.set 2 a e
  rw [if_neg h5, if_neg h5]
  have := tx_sh (tr c (s + e)) s e a hL
  rwa [tr_sh] at this
theorem mkG_sh (c : Nat → Int) (s n : Nat) : ∀ f i m {M L : Nat → Int}, LS s M L → LS s (mkG c (s + n) f (s + i) m M) (mkG (sf c s) n f i m L)
  | 0, _, _, _, _, h => h
  | f + 1, i, m, M, L, h => by
    show LS s (if s + n ≤ s + i then M else mkG c (s + n) f (lnE c (s + n) (s + i)) (stM m (ln c (s + i) (lnE c (s + n) (s + i))) (lnE c (s + n) (s + i) - (s + i))) (lnL M m c (s + i) (lnE c (s + n) (s + i)))) (if n ≤ i then L else mkG (sf c s) n f (lnE (sf c s) n i) (stM m (ln (sf c s) i (lnE (sf c s) n i)) (lnE (sf c s) n i - i)) (lnL L m (sf c s) i (lnE (sf c s) n i)))
    by_cases h1 : n ≤ i
    · rw [if_pos h1, if_pos (by omega)]; exact h
    rw [if_neg h1, if_neg (by omega), lnE_sh, ln_sh, Nat.add_sub_add_left]
    exact mkG_sh c s n f _ _ (lnL_sh h m c i _)
theorem mk_sh (c : Nat → Int) (s n i : Nat) (m : Ms) {M L : Nat → Int} (h : LS s M L) : LS s (mk c (s + n) (s + i) m M) (mk (sf c s) n i m L) := by
  unfold mk
  rw [Nat.add_sub_add_left]
  exact mkG_sh c s n _ i m h
end Go.Proofs.YtodjfeheagnnpaaDoor
namespace Go.Proofs.YtodjfeheagnnpaaDoor
set_option linter.unusedVariables false
open Go.RowKit Go.ChangeShapes
theorem rm_ix (d : Nat → Int) {n i : Nat} (h : i + 4 ≤ n) : ixI [45, 45, 62] (sf d (i + 4)) (n - (i + 4)) = if rmJ d n i < n then (rmJ d n i : Int) - (i + 4 : Nat) else -1 := by
  have e := fs_sh (oc [45, 45, 62] d) (i + 4) (n - (i + 4)) 0
  rw [show (fun j => oc [45, 45, 62] d (i + 4 + j)) = oc [45, 45, 62] (sf d (i + 4)) from funext fun j => oc_sh d (i + 4) _ j, show i + 4 + (n - (i + 4)) = n by omega, Nat.add_zero] at e
  unfold ixI
  have e2 : rmJ d n i = i + 4 + fs (oc [45, 45, 62] (sf d (i + 4))) (n - (i + 4)) 0 := e
  rw [e2]
  by_cases h1 : fs (oc [45, 45, 62] (sf d (i + 4))) (n - (i + 4)) 0 < n - (i + 4)
  · rw [if_pos h1, if_pos (by omega)]
    push_cast
    omega
  · rw [if_neg h1, if_neg (by omega)]
set_option maxRecDepth 100000 in
theorem remark_any {w : World} {b off n cap : Nat} {d : Nat → Int} (hC : Ch d n) (h : BC w (some ⟨b, off, none⟩) n d) (hn : n ≤ 65536) (hcap : n ≤ cap) (hG : GlM w) (i : Nat) (hi : i < n) :
    Calls Tryd.prog 84 #[.slice (some ⟨b, off, none⟩) n cap, .int .i64 i] w fun e w' => e = .returned (.int .i64 (rmP d n i : Nat)) ∧ Below w.heap.size w w' := by
  have hcA := fun (w' : World) => Go.Lib.run_convert_bytes_const (P := Tryd.prog) w' 22 5 #[.int .u8 60, .int .u8 33, .int .u8 45, .int .u8 45] 4 4 Tryd.underlying22 Tryd.underlying5
  have hcB := fun (w' : World) => Go.Lib.run_convert_bytes_const (P := Tryd.prog) w' 22 5 #[.int .u8 45, .int .u8 45, .int .u8 62] 3 3 Tryd.underlying22 Tryd.underlying5
  obtain ⟨W, hW⟩ : ∃ W, w.alloc (.cells #[.int .u8 60, .int .u8 33, .int .u8 45, .int .u8 45] 5 (4, 5)) = W := ⟨_, rfl⟩
  have hL1 : BC W (some ⟨w.heap.size, 0, none⟩) 4 (fun j => [60, 33, 45, 45].getD j 0) := by rw [← hW]; exact lit_bc w [60, 33, 45, 45] (4, 5)
  have hBW : Below w.heap.size w W := by rw [← hW]; exact below_alloc w _
  have hfr := BC.from (cap := cap) (h.stay hBW) i (Nat.le_of_lt hi) hcap
  have y5 : ¬ cap = i := by omega
  rw [if_neg y5] at hfr
  have hCi : Ch (sf d i) (n - i) := hC.from i (Nat.le_of_lt hi)
  have hoc : oc [60, 33, 45, 45] (sf d i) 0 = oc [60, 33, 45, 45] d i := by rw [← oc_sh d i _ 0]; rfl
  have z1 : (0 : Int) ≤ (i : Int) := by omega
  have z2 : (i : Int) ≤ (n : Int) := by omega
  have z3 : (n : Int) ≤ (cap : Int) := by omega
  have HB : Hid (Below w.heap.size w W ∧ BC w (some ⟨b, off, none⟩) n d ∧ GlM W ∧ Ch d n) := ⟨hBW, h, hG.stay hBW, hC⟩
  cases ho : oc [60, 33, 45, 45] d i with
  | false =>
    have ct := cutP_no (cap := cap - i) (d := 4) hCi hfr (by omega) hL1 rfl (byt_lit _ rfl) (by rw [hoc]; exact ho)
    have hr : rmP d n i = 0 := by unfold rmP; rw [ho]; rfl
    rw [hr]
    clear hfr hL1 hCi hoc h hBW hG hC ho hcB
    go_enter Tryd.func84, Tryd.ntmps84
    go_wp2_with fail
    refine ct.mono ?_
    rintro e w1 ⟨rfl, hw⟩
    subst w1
    clear ct
    go_wp2
    go_ret
    exact ⟨rfl, HB.out.1⟩
  | true =>
    have h4 : i + 4 ≤ n := by
      have := oc_len hC.2 [60, 33, 45, 45] (byt_lit _ rfl) i (by simp) ho
      simpa using this
    have ct := cutP_at (cap := cap - i) (d := 4) hCi hfr (by omega) hL1 rfl (byt_lit _ rfl) (by simp) (by rw [hoc]; exact ho)
    obtain ⟨ad4, had4⟩ : ∃ ad4, (if cap - i = 4 then some (⟨b, off + i, none⟩ : Addr) else some ⟨b, off + i + 4, none⟩) = ad4 := ⟨_, rfl⟩
    rw [had4] at ct
    obtain ⟨W2, hW2⟩ : ∃ W2, W.alloc (.cells #[.int .u8 45, .int .u8 45, .int .u8 62] 5 (3, 4)) = W2 := ⟨_, rfl⟩
    have hL2 : BC W2 (some ⟨W.heap.size, 0, none⟩) 3 (fun j => [45, 45, 62].getD j 0) := by rw [← hW2]; exact lit_bc W [45, 45, 62] (3, 4)
    have hB2 : Below W.heap.size W W2 := by rw [← hW2]; exact below_alloc W _
    have hf4 := BC.from (cap := cap - i) (hfr.stay hB2) 4 (by omega) (by omega)
    rw [had4] at hf4
    obtain ⟨m, hm⟩ := (HB.out.2.2.1.stay hB2).1
    have hC4 : Ch (fun j => sf d i (4 + j)) (n - i - 4) := hCi.from 4 (by omega)
    have cI := idx_any (cap := cap - i - 4) (d := 3) hC4 hf4 (by rw [← had4]; split <;> simp) (by omega) (by omega) hL2 rfl (byt_lit _ rfl) (by simp) (by omega) hm
    have e1 : (fun j => sf d i (4 + j)) = sf d (i + 4) := by rw [← sf_sf]; rfl
    rw [e1, show n - i - 4 = n - (i + 4) by omega, rm_ix d h4] at cI
    have HB2 : Hid (Below w.heap.size w W2) := HB.out.1.trans (hB2.mono HB.out.1.size)
    obtain ⟨J, hJ⟩ : ∃ J, rmJ d n i = J := ⟨_, rfl⟩
    have hJ4 : i + 4 ≤ J := by rw [← hJ]; exact fs_ge _ _ _
    rw [hJ] at cI
    have hr : rmP d n i = if J < n then J + 3 else 0 := by
      unfold rmP
      rw [ho, hJ, Bool.true_and]
      by_cases h1 : J < n
      · rw [decide_eq_true h1, if_pos rfl, if_pos h1]
      · rw [decide_eq_false h1, if_neg (by decide), if_neg h1]
    rw [hr]
    obtain ⟨n4, hn4⟩ : ∃ n4, n - (i + 4) = n4 := ⟨_, rfl⟩
    rw [hn4] at cI
    have hnn : n - i - 4 = n4 := by omega
    rw [hnn] at ct
    clear hfr hL1 hCi hoc h hBW hG hC ho hL2 hB2 hf4 hC4 e1 hJ hr had4 hm
    by_cases h1 : J < n
    · rw [if_pos h1] at cI ⊢
      have k1 : (0 : Int) ≤ (J : Int) - ((i + 4 : Nat) : Int) := by omega
      have k2 : ((i : Int) + 4) + ((J : Int) - ((i + 4 : Nat) : Int)) = (J : Int) := by omega
      obtain ⟨q, hq⟩ : ∃ q, (J : Int) - ((i + 4 : Nat) : Int) = q := ⟨_, rfl⟩
      rw [hq] at cI k1 k2
      have k3 : (i : Int) + 4 + q = (J : Int) := k2
      clear hq k2
      go_enter Tryd.func84, Tryd.ntmps84
      go_wp2_with fail
      refine ct.mono ?_
      rintro e w1 ⟨rfl, hw⟩
      subst w1
      clear ct
      go_wp2_with fail
      refine cI.mono ?_
      rintro e w2 ⟨rfl, hb2⟩
      have HB3 : Hid (Below w.heap.size w w2) := HB2.out.trans (hb2.mono HB2.out.size)
      clear cI hb2
      go_wp2
      go_ret
      exact ⟨by first | rfl | (push_cast; rfl), HB3.out⟩
    · rw [if_neg h1] at cI ⊢
      go_enter Tryd.func84, Tryd.ntmps84
      go_wp2_with fail
      refine ct.mono ?_
      rintro e w1 ⟨rfl, hw⟩
      subst w1
      clear ct
      go_wp2_with fail
      refine cI.mono ?_
      rintro e w2 ⟨rfl, hb2⟩
      have HB3 : Hid (Below w.heap.size w w2) := HB2.out.trans (hb2.mono HB2.out.size)
      clear cI hb2
      go_wp2
      go_ret
      exact ⟨rfl, HB3.out⟩
end Go.Proofs.YtodjfeheagnnpaaDoor
namespace Go.Proofs.YtodjfeheagnnpaaDoor
set_option linter.unusedVariables false
open Go.RowKit Go.ChangeShapes
/-- A link is as it is told. -/
def LnkOk (d : Nat → Int) (n : Nat) : Prop := ∀ (w : World) (b off cap i : Nat), BC w (some ⟨b, off, none⟩) n d → n ≤ cap → cap ≤ 9223372036854775807 → GlM w → i < n → d i = 60 →
    Calls Tryd.prog 83 #[.slice (some ⟨b, off, none⟩) n cap, .int .i64 i] w fun e w' => e = .returned (.int .i64 (lkP d n i : Nat)) ∧ Below w.heap.size w w'
set_option maxRecDepth 100000 in
set_option maxHeartbeats 2000000 in
theorem angle_ok {d : Nat → Int} {n : Nat} (hLk : LnkOk d n) : AnOk d n := by
  intro w b off N cap B T gs c L s k fr mv i hs hE hn hd hi h60
  have hC : Ch d n := by rw [← hd]; exact tr_ch hs.ch hn
  have hnc : n ≤ cap := Nat.le_trans hn hs.nc
  have hN := hs.n
  have hbc : BC w (some ⟨b, off, none⟩) n d := by rw [← hd]; exact hE.bc.tr hn
  obtain ⟨x0, -, -, -, -, -⟩ := hE.fl.cells
  have y5 : ¬ cap = i := by omega
  have hfr := BC.from (cap := cap) hbc i (Nat.le_of_lt hi) hnc
  rw [if_neg y5] at hfr
  have cB := idxB_any (cap := cap - i) (hC.from i (Nat.le_of_lt hi)) hfr (by simp) 62 (by decide)
  have e0 : (fun j => d (i + j)) = sf d i := rfl
  rw [e0, ix_one (Nat.le_of_lt hi)] at cB
  have cK := hLk w b off cap i hbc hnc hs.big hE.gl hi h60
  have hlk := fun h => lkP_le d hi (h := h)
  have hrm := fun h => rmP_le hC (i := i) (h := h)
  have z1 : (0 : Int) ≤ (i : Int) := by omega
  have z2 : (i : Int) ≤ (n : Int) := by omega
  have z3 : (n : Int) ≤ (cap : Int) := by omega
  have HS : Hid (Sta b N cap B T gs c ∧ En w b off N cap B T gs c L s k fr mv ∧ BC w (some ⟨b, off, none⟩) n d ∧ Ch d n) := ⟨hs, hE, hbc, hC⟩
  obtain ⟨Q, hQ⟩ : ∃ Q, ThP w T gs N (anE d n i) (anL L d n i) = Q := ⟨_, rfl⟩
  have HQ : Hid (ThP w T gs N (anE d n i) (anL L d n i) = Q) := hQ
  rw [hQ]
  have HLK : Hid (0 < lkP d n i → i < lkP d n i ∧ lkP d n i ≤ n) := hlk
  have HRM : Hid (0 < rmP d n i → i < rmP d n i ∧ rmP d n i ≤ n) := hrm
  clear hs hE hbc hfr hd hC hQ h60 hLk hlk hrm e0
  by_cases hg : fs (fun j => d j == 62) n i < n
  · have hgt : gtB d n i = true := by unfold gtB; exact decide_eq_true hg
    rw [if_pos hg] at cB
    have hge := fs_ge (fun j => d j == 62) n i
    obtain ⟨q, hq⟩ : ∃ q, ((fs (fun j => d j == 62) n i : Nat) : Int) - (i : Int) = q := ⟨_, rfl⟩
    have k1 : ¬ q < 0 := by omega
    rw [hq] at cB
    have HGT : Hid (gtB d n i = true) := hgt
    clear hg hq hge hgt
    go_enter Tryd.func73, Tryd.ntmps73
    go_wp2_with fail
    refine cB.mono ?_
    rintro e w1 ⟨rfl, hw⟩
    subst w1
    clear cB
    obtain ⟨K, hK⟩ : ∃ K, lkP d n i = K := ⟨_, rfl⟩
    rw [hK] at cK HLK
    have HK : Hid (lkP d n i = K) := hK
    clear hK
    go_wp2_with fail
    refine cK.mono ?_
    rintro e w2 ⟨rfl, hb2⟩
    have hE2 := HS.out.2.1.stay hb2
    have HE2 : Hid (En w2 b off N cap B T gs c L s k fr mv ∧ Below w.heap.size w w2) := ⟨hE2, hb2⟩
    obtain ⟨u0, -, -, -, -, -⟩ := hE2.fl.cells
    clear cK hb2 hE2 x0
    by_cases hk0 : 0 < K
    · have k2 : (0 : Int) < (K : Int) := by omega
      have cS := set_any HE2.out.1.sh (by omega) 2 (i : Int) (K : Int)
      go_wp2_with fail
      refine cS.mono ?_
      rintro e w3 ⟨rfl, hS3, hg3, -⟩
      have HF : Hid (Sh w3 T gs N (setL L 2 (i : Int) (K : Int)) ∧ w.grownBy w3 (some gs)) := ⟨hS3, grown_trans (grown_of HE2.out.2 _) hg3⟩
      clear cS hS3 hg3
      go_wp2
      rw [← HQ.out]
      unfold ThP
      have e1 : anE d n i = K := by unfold anE; rw [HGT.out, if_neg (by decide), HK.out, if_pos hk0]
      have e2 : anL L d n i = setL L 2 (i : Int) ((K : Nat) : Int) := by unfold anL; rw [HGT.out, if_neg (by decide), HK.out, if_pos hk0]
      rw [e1, e2]
      exact ⟨rfl, HF.out⟩
    · have k2 : ¬ (0 : Int) < (K : Int) := by omega
      have cM := remark_any (cap := cap) HS.out.2.2.2 (HS.out.2.2.1.stay HE2.out.2) (by omega) hnc HE2.out.1.gl i hi
      obtain ⟨R, hR⟩ : ∃ R, rmP d n i = R := ⟨_, rfl⟩
      rw [hR] at cM HRM
      have HR : Hid (rmP d n i = R) := hR
      clear hR
      go_wp2_with fail
      refine cM.mono ?_
      rintro e w3 ⟨rfl, hb3⟩
      have hE3 := HE2.out.1.stay hb3
      have HE3 : Hid (En w3 b off N cap B T gs c L s k fr mv ∧ Below w.heap.size w w3) := ⟨hE3, HE2.out.2.trans (hb3.mono HE2.out.2.size)⟩
      obtain ⟨v0, -, -, -, -, -⟩ := hE3.fl.cells
      clear cM hb3 hE3 u0
      by_cases hr0 : 0 < R
      · have k3 : (0 : Int) < (R : Int) := by omega
        have cS := set_any HE3.out.1.sh (by omega) 3 (i : Int) (R : Int)
        go_wp2_with fail
        refine cS.mono ?_
        rintro e w4 ⟨rfl, hS3, hg3, -⟩
        have HF : Hid (Sh w4 T gs N (setL L 3 (i : Int) (R : Int)) ∧ w.grownBy w4 (some gs)) := ⟨hS3, grown_trans (grown_of HE3.out.2 _) hg3⟩
        clear cS hS3 hg3
        go_wp2
        rw [← HQ.out]
        unfold ThP
        have e1 : anE d n i = R := by unfold anE; rw [HGT.out, if_neg (by decide), HK.out, if_neg hk0, HR.out, if_pos hr0]
        have e2 : anL L d n i = setL L 3 (i : Int) ((R : Nat) : Int) := by unfold anL; rw [HGT.out, if_neg (by decide), HK.out, if_neg hk0, HR.out, if_pos hr0]
        rw [e1, e2]
        exact ⟨rfl, HF.out⟩
      have k3 : ¬ (0 : Int) < (R : Int) := by omega
      have cR := read_any (cap := cap) HS.out.2.2.2 (HS.out.2.2.1.stay HE3.out.2) (by omega) hnc i hi
      go_wp2_with fail
      refine cR.mono ?_
      rintro e w4 (⟨h1, rfl, hb4⟩ | ⟨t, pv, h1, rfl, hpv, hb4⟩)
      · have HF : Hid (Sh w4 T gs N L ∧ w.grownBy w4 (some gs)) := ⟨HE3.out.1.sh.stay hb4, grown_of (HE3.out.2.trans (hb4.mono HE3.out.2.size)) _⟩
        have HT : Hid (tg d n i = none) := h1
        clear cR hb4 h1
        go_wp2
        rw [← HQ.out]
        unfold ThP
        have e1 : anE d n i = i + 1 := by unfold anE; rw [HGT.out, if_neg (by decide), HK.out, if_neg hk0, HR.out, if_neg hr0, HT.out]
        have e2 : anL L d n i = L := by unfold anL; rw [HGT.out, if_neg (by decide), HK.out, if_neg hk0, HR.out, if_neg hr0, HT.out]
        rw [e1, e2]
        refine ⟨?_, ?_⟩
        · first | rfl | go_num
        · first | exact HF.out | exact ⟨HF.out.1.stay (below_alloc w4 _), grown_trans HF.out.2 (grown_of (below_alloc w4 _) _)⟩
      · have hok := tg_ok HS.out.2.2.2 h1
        have HT : Hid (tg d n i = some t) := h1
        obtain ⟨qd, qc, rfl⟩ := hpv.form
        obtain ⟨E, hEq⟩ : ∃ E, t.e = E := ⟨_, rfl⟩
        obtain ⟨X, hX⟩ : ∃ X, strOfNums t.nm = X := ⟨_, rfl⟩
        obtain ⟨cb, hcb⟩ : ∃ cb, t.cl = cb := ⟨_, rfl⟩
        obtain ⟨ql, hql⟩ : ∃ ql, t.pr.length = ql := ⟨_, rfl⟩
        rw [hEq, hX, hcb, hql]
        rw [hql] at hpv
        have HT2 : Hid (t.e = E ∧ t.pr.length = ql ∧ i < E ∧ E ≤ n ∧ PrOk n t.pr) := ⟨hEq, hql, by rw [← hEq]; exact hok.1, by rw [← hEq]; exact hok.2.1, hok.2.2.2.2.2.1⟩
        have hqb : ql ≤ n := by rw [← hql]; exact hok.2.2.2.2.2.2
        obtain ⟨V, hV⟩ : ∃ V, w4.alloc (.cells #[.int .i64 (E : Int), .string X, .bool cb, .slice qd ql qc] 31) = V := ⟨_, rfl⟩
        have hVb : Below w4.heap.size w4 V := by rw [← hV]; exact below_alloc w4 _
        have hVh : V.heap[w4.heap.size]? = some (.cells #[.int .i64 (E : Int), .string X, .bool cb, .slice qd ql qc] 31) := by rw [← hV]; exact heap_alloc_new _ _
        have hEV := (HE3.out.1.stay hb4).stay hVb
        have HV : Hid (V.heap[w4.heap.size]? = some (.cells #[.int .i64 (E : Int), .string X, .bool cb, .slice qd ql qc] 31) ∧ En V b off N cap B T gs c L s k fr mv ∧ PR V w3.heap.size (.slice qd ql qc) t.pr ∧ Below w.heap.size w V ∧ w4.heap.size < V.heap.size) := ⟨hVh, hEV, hpv.stay hVb, (HE3.out.2.trans (hb4.mono HE3.out.2.size)).trans (hVb.mono (by have := HE3.out.2.size; have := hb4.size; omega)), lt_of_heap hVh⟩
        have HG4 : Hid (gs < w4.heap.size ∧ B < w4.heap.size) := by
          have h1 := (HE3.out.1.stay hb4).sh.row.lt
          have h2 := (HE3.out.1.stay hb4).fl.lt
          exact ⟨h1, h2⟩
        obtain ⟨r0, -, -, -, -, -⟩ := hEV.fl.cells
        have t0 : V.cell? ⟨w4.heap.size, 0, none⟩ = some (.int .i64 (E : Int)) := by simp [World.cell?, hVh]
        have t1 : V.cell? ⟨w4.heap.size, 1, none⟩ = some (.string X) := by simp [World.cell?, hVh]
        have t2 : V.cell? ⟨w4.heap.size, 2, none⟩ = some (.bool cb) := by simp [World.cell?, hVh]
        have t3 : V.cell? ⟨w4.heap.size, 3, none⟩ = some (.slice qd ql qc) := by simp [World.cell?, hVh]
        obtain ⟨T0, hT0⟩ : ∃ T0, w4.heap.size = T0 := ⟨_, rfl⟩
        have HT0 : Hid (w4.heap.size = T0) := hT0
        rw [hT0] at HV HG4 t0 t1 t2 t3
        clear cR hb4 h1 hok hpv hEq hX hcb hql hVb hVh hEV hT0 v0
        go_upto_region 13 with fail
        (try rw [HT0.out])
        (try rw [hV])
        clear hV
        refine wp_region_held_drew (S := fun w' => w'.cell? ⟨B, 0, none⟩ = some (.pointer (some ⟨T, 0, none⟩)) ∧ w'.cell? ⟨T0, 0, none⟩ = some (.int .i64 (E : Int)) ∧ w'.cell? ⟨T0, 1, none⟩ = some (.string X) ∧ w'.cell? ⟨T0, 2, none⟩ = some (.bool cb) ∧ w'.cell? ⟨T0, 3, none⟩ = some (.slice qd ql qc)) (by kernel_rfl) ⟨r0, t0, t1, t2, t3⟩ (fun hHeld => ?_)
        refine takeH (i := 0) (v := ?_) (d := (some 51)) rfl (by kernel_rfl) (by kernel_rfl) (by kernel_rfl) rfl (fun _ _ _ h => h) (Or.inl ⟨by kernel_rfl, ?_⟩) (by first | assumption | trivial) ?_; rotate_left
        · (intro w hSw; (try dsimp only at hSw); (try obtain ⟨hs0, hs1, hs2, hs3, hs4⟩ := hSw); first | (go_simp; done) | (go_simp; with_reducible rfl))
        (try simp only [Act.put, List.setIfInBounds_toArray, List.set_cons_zero, List.set_cons_succ])
        refine takeH (i := 1) (v := ?_) (d := (some 52)) rfl (by kernel_rfl) (by kernel_rfl) (by kernel_rfl) rfl (fun _ _ _ h => h) (Or.inl ⟨by kernel_rfl, ?_⟩) (by first | assumption | trivial) ?_; rotate_left
        · (intro w hSw; (try dsimp only at hSw); (try obtain ⟨hs0, hs1, hs2, hs3, hs4⟩ := hSw); first | (go_simp; done) | (go_simp; with_reducible rfl))
        (try simp only [Act.put, List.setIfInBounds_toArray, List.set_cons_zero, List.set_cons_succ])
        refine takeH (i := 2) (v := ?_) (d := (some 53)) rfl (by kernel_rfl) (by kernel_rfl) (by kernel_rfl) rfl (fun _ _ _ h => h) (Or.inl ⟨by kernel_rfl, ?_⟩) (by first | assumption | trivial) ?_; rotate_left
        · (intro w hSw; (try dsimp only at hSw); (try obtain ⟨hs0, hs1, hs2, hs3, hs4⟩ := hSw); first | (go_simp; done) | (go_simp; with_reducible rfl))
        (try simp only [Act.put, List.setIfInBounds_toArray, List.set_cons_zero, List.set_cons_succ])
        refine takeH (i := 3) (v := ?_) (d := (some 54)) rfl (by kernel_rfl) (by kernel_rfl) (by kernel_rfl) rfl (fun _ _ _ h => h) (Or.inl ⟨by kernel_rfl, ?_⟩) (by first | assumption | trivial) ?_; rotate_left
        · (intro w hSw; (try dsimp only at hSw); (try obtain ⟨hs0, hs1, hs2, hs3, hs4⟩ := hSw); first | (go_simp; done) | (go_simp; with_reducible rfl))
        (try simp only [Act.put, List.setIfInBounds_toArray, List.set_cons_zero, List.set_cons_succ])
        refine takeH (i := 4) (v := ?_) (d := (some 55)) rfl (by kernel_rfl) (by kernel_rfl) (by kernel_rfl) rfl (fun _ _ _ h => h) (Or.inl ⟨by kernel_rfl, ?_⟩) (by first | assumption | trivial) ?_; rotate_left
        · (intro w hSw; (try dsimp only at hSw); (try obtain ⟨hs0, hs1, hs2, hs3, hs4⟩ := hSw); first | (go_simp; done) | (go_simp; with_reducible rfl))
        (try simp only [Act.put, List.setIfInBounds_toArray, List.set_cons_zero, List.set_cons_succ])
        refine takeH (i := 5) (v := ?_) (d := (some 56)) rfl (by kernel_rfl) (by kernel_rfl) (by kernel_rfl) rfl (fun _ _ _ h => h) (Or.inl ⟨by kernel_rfl, ?_⟩) (by first | assumption | trivial) ?_; rotate_left
        · (intro w hSw; (try dsimp only at hSw); (try obtain ⟨hs0, hs1, hs2, hs3, hs4⟩ := hSw); first | (go_simp; done) | (go_simp; with_reducible rfl))
        (try simp only [Act.put, List.setIfInBounds_toArray, List.set_cons_zero, List.set_cons_succ])
        have hbD : Below V.heap.size V V.drew := (Below.refl _ _).drew
        have cL1 := lay_tag (HV.out.2.1.sh.stay hbD) (by omega) i E X cb (.slice qd ql qc) t.pr (HV.out.2.2.1.stay hbD) (fun p hp => by have := HT2.out.2.2.2.2 p hp; omega) (by rw [HT2.out.2.1]; omega)
        refine wpAnyH_ready (rs := [6]) (by kernel_rfl) (by simp) (AllReadyH.cons rfl (fun K2 hK2 => ?_) AllReadyH.nil)
        go_simp
        refine cL1.mono ?_
        rintro ev w6 ⟨rfl, hS6, hG6⟩
        have hbl : ∀ g, g ≠ gs → g < V.heap.size → w6.heap[g]? = V.heap[g]? := fun g h1 h2 => by
          have h3 := hG6.block g (by simpa using h2) (fun e => h1 (Option.some.inj e))
          first | exact h3 | (rw [h3]; rfl)
        have hT6 : w6.heap[T0]? = some (.cells #[.int .i64 (E : Int), .string X, .bool cb, .slice qd ql qc] 31) := (hbl T0 (by have := HG4.out; omega) HV.out.2.2.2.2).trans HV.out.1
        have hB6 : w6.cell? ⟨B, 0, none⟩ = some (.pointer (some ⟨T, 0, none⟩)) := by
          have h1 := HV.out.2.1.fl.cells.1
          have h2 := hbl B HS.out.1.Bg (HV.out.2.1.fl.lt)
          rw [← h1]
          simp only [World.cell?, h2]
        have HF : Hid (Sh w6 T gs N (layP (setL L 2 (i : Int) (E : Int)) t.pr) ∧ w.grownBy w6 (some gs)) := ⟨hS6, grown_trans (grown_of (HV.out.2.2.2.1.trans (hbD.mono HV.out.2.2.2.1.size)) _) hG6⟩
        have s0 : w6.cell? ⟨T0, 0, none⟩ = some (.int .i64 (E : Int)) := by simp [World.cell?, hT6]
        go_wp2_with fail
        refine hK2.out _ _ ⟨hB6, s0, by simp [World.cell?, hT6], by simp [World.cell?, hT6], by simp [World.cell?, hT6]⟩ (fun hHeld2 => ?_)
        clear hK2 K2 hHeld hHeld2 cL1 hS6 hG6 hbl hbD t0 t1 t2 t3 r0
        (try simp only [Act.put, List.setIfInBounds_toArray, List.set_cons_zero, List.set_cons_succ])
        refine wpAnyH_done (by kernel_rfl) ?_ _
        clear hT6 hB6
        go_wp2
        rw [← HQ.out]
        unfold ThP
        have e1 : anE d n i = E := by unfold anE; rw [HGT.out, if_neg (by decide), HK.out, if_neg hk0, HR.out, if_neg hr0, HT.out]; exact HT2.out.1
        have e2 : anL L d n i = layP (setL L 2 (i : Int) (E : Int)) t.pr := by unfold anL; rw [HGT.out, if_neg (by decide), HK.out, if_neg hk0, HR.out, if_neg hr0, HT.out]; show layT L i t = _; unfold layT; rw [HT2.out.1]
        rw [e1, e2]
        refine ⟨?_, ?_⟩
        · rfl
        · first | exact HF.out | exact ⟨HF.out.1.stay ((Below.refl _ _).drew), grown_trans HF.out.2 (grown_of ((Below.refl _ _).drew) _)⟩
  · have hgt : gtB d n i = false := by unfold gtB; exact decide_eq_false hg
    rw [if_neg hg] at cB
    have HF : Hid (Sh w T gs N L ∧ w.grownBy w (some gs)) := ⟨HS.out.2.1.sh, World.grownBy.refl _ _⟩
    go_enter Tryd.func73, Tryd.ntmps73
    go_wp2_with fail
    refine cB.mono ?_
    rintro e w1 ⟨rfl, hw⟩
    subst w1
    clear cB
    go_wp2
    rw [← HQ.out]
    unfold ThP
    have e1 : anE d n i = i + 1 := by unfold anE; rw [hgt, if_pos rfl]
    have e2 : anL L d n i = L := by unfold anL; rw [hgt, if_pos rfl]
    rw [e1, e2]
    exact ⟨by first | rfl | (push_cast; rfl), HF.out⟩
end Go.Proofs.YtodjfeheagnnpaaDoor
