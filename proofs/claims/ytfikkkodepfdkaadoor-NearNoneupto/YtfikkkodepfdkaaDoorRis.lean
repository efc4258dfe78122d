/- Words that rise: put in. -/
import Derived.Sort.LotA
import Derived.Sort.Walk0
namespace Go.Proofs.YtfikkkodepfdkaaDoor
set_option linter.unusedVariables false
/-- One text stands ahead of another. -/
def lw (x y : ByteArray) : Bool := Sort.ltStr x.data.toList y.data.toList
theorem lw_irrefl (x : ByteArray) : lw x x = false := Sort.swo_ltStr.irrefl _
theorem lw_trans {x y z : ByteArray} (h1 : lw x y = true) (h2 : lw y z = true) : lw x z = true := Sort.swo_ltStr.trans _ _ _ h1 h2
theorem lw_total {x y : ByteArray} (h1 : lw x y = false) (h2 : lw y x = false) : x = y := by
  unfold lw Sort.ltStr at h1 h2
  simp only [decide_eq_false_iff_not, List.not_lt] at h1 h2
  have h := List.le_antisymm h2 h1
  exact ByteArray.ext (Array.toList_inj.1 h)
theorem lw_asymm {x y : ByteArray} (h1 : lw x y = true) (h2 : lw y x = true) : False := by
  have h := lw_trans h1 h2
  rw [lw_irrefl] at h
  cases h
/-- Put where it belongs among what rises. -/
def putK {α : Type} (f : α → ByteArray) (L : List α) (s : α) : List α := L.takeWhile (fun x => lw (f x) (f s)) ++ s :: L.dropWhile (fun x => lw (f x) (f s))
/-- They rise, none twice. -/
def RiseK {α : Type} (f : α → ByteArray) (L : List α) : Prop := L.Pairwise fun x y => lw (f x) (f y) = true
theorem putK_perm {α : Type} (f : α → ByteArray) (L : List α) (s : α) : (putK f L s).Perm (s :: L) := by
  unfold putK
  refine List.perm_middle.trans (List.Perm.cons _ ?_)
  rw [List.takeWhile_append_dropWhile]
theorem putK_len {α : Type} (f : α → ByteArray) (L : List α) (s : α) : (putK f L s).length = L.length + 1 := (putK_perm f L s).length_eq
theorem RiseK.tail {α : Type} {f : α → ByteArray} {a : α} {L : List α} (h : RiseK f (a :: L)) : RiseK f L := (List.pairwise_cons.1 h).2
theorem putK_rise {α : Type} (f : α → ByteArray) : ∀ (L : List α) (s : α), RiseK f L → f s ∉ L.map f → RiseK f (putK f L s)
  | [], s, _, _ => by unfold putK RiseK; simp
  | a :: L, s, h, hs => by
    have ha := (List.pairwise_cons.1 h).1
    have ih := putK_rise f L s h.tail (fun hm => hs (List.mem_cons_of_mem _ hm))
    unfold putK RiseK
    cases hc : lw (f a) (f s)
    · rw [List.takeWhile_cons_of_neg (by simp [hc]), List.dropWhile_cons_of_neg (by simp [hc])]
      have hsa : lw (f s) (f a) = true := by
        cases hd : lw (f s) (f a)
        · exact absurd (lw_total hc hd) (fun e => hs (by rw [← e]; simp))
        · rfl
      show List.Pairwise _ (s :: a :: L)
      refine List.pairwise_cons.2 ⟨fun x hx => ?_, h⟩
      rcases List.mem_cons.1 hx with rfl | hx
      · exact hsa
      · exact lw_trans hsa (ha x hx)
    · rw [List.takeWhile_cons_of_pos (by simp [hc]), List.dropWhile_cons_of_pos (by simp [hc])]
      show List.Pairwise _ (a :: putK f L s)
      refine List.pairwise_cons.2 ⟨fun x hx => ?_, ih⟩
      rcases List.mem_cons.1 ((putK_perm f L s).mem_iff.1 hx) with rfl | hx
      · exact hc
      · exact ha x hx
theorem rise_one {α : Type} {f : α → ByteArray} {A B : List α} (h : A.Perm B) (hA : RiseK f A) (hB : RiseK f B) : A = B :=
  List.Perm.eq_of_pairwise (fun _ _ _ _ h1 h2 => (lw_asymm h1 h2).elim) hA hB h
theorem rise_weak {α : Type} {f : α → ByteArray} : ∀ {A : List α}, A.Pairwise (fun x y => lw (f y) (f x) = false) → (A.map f).Nodup → RiseK f A
  | [], _, _ => List.Pairwise.nil
  | a :: A, h, hn => by
    obtain ⟨h1, h2⟩ := List.pairwise_cons.1 h
    rw [List.map_cons, List.nodup_cons] at hn
    refine List.pairwise_cons.2 ⟨fun x hx => ?_, rise_weak h2 hn.2⟩
    cases hd : lw (f a) (f x)
    · exact absurd (lw_total hd (h1 x hx)) (fun e => hn.1 (by rw [e]; exact List.mem_map.2 ⟨x, hx, rfl⟩))
    · rfl
end Go.Proofs.YtfikkkodepfdkaaDoor
