/- Rows of bytes that come in; the texts that are made of them. -/
import Derived.Test.YtfikkkodepfdkaaDoorpkL
import Derived.Test.YtfikkkodepfdkaaDoorpkC
namespace Go.Proofs.YtfikkkodepfdkaaDoor
set_option linter.unusedVariables false
open Go.RowKit Go.ChangeShapes
/-- Bytes that lie where a slice points. -/
def BR (w : World) (v : Value) (zs : List Nat) : Prop := ∃ ad c, v = .slice ad zs.length c ∧ ∀ (j : Nat) (x : Nat), zs[j]? = some x → x ≤ 255 ∧ ∃ b off, ad = some ⟨b, off, none⟩ ∧ w.cell? ⟨b, off + j, none⟩ = some (.int .u8 (x : Int))
theorem BR.stay {w w' : World} {v : Value} {zs : List Nat} (h : BR w v zs) (hb : Below w.heap.size w w') : BR w' v zs := by
  obtain ⟨ad, c, e, h⟩ := h
  refine ⟨ad, c, e, fun j x hx => ?_⟩
  obtain ⟨h0, b, off, e1, e2⟩ := h j x hx
  exact ⟨h0, b, off, e1, cell_stay e2 hb⟩
def BRR (w : World) (v : Value) (Z : List (List Nat)) : Prop := ∃ ad c, v = .slice ad Z.length c ∧ ∀ (j : Nat) (zs : List Nat), Z[j]? = some zs → zs.length ≤ maxLen ∧ ∃ b off u, ad = some ⟨b, off, none⟩ ∧ w.cell? ⟨b, off + j, none⟩ = some u ∧ BR w u zs
theorem BRR.stay {w w' : World} {v : Value} {Z : List (List Nat)} (h : BRR w v Z) (hb : Below w.heap.size w w') : BRR w' v Z := by
  obtain ⟨ad, c, e, h⟩ := h
  refine ⟨ad, c, e, fun j x hx => ?_⟩
  obtain ⟨h0, b, off, u, e1, e2, e3⟩ := h j x hx
  exact ⟨h0, b, off, u, e1, cell_stay e2 hb, e3.stay hb⟩
/-- The letters that bytes stand for. -/
def mlt (b : Nat) (zs : List Nat) : List Int := zs.map fun x => ((97 + x % b : Nat) : Int)
def mtx (m b : Nat) (zs : List Nat) : ByteArray := strOfNums (mlt b (zs.take m))
theorem mtx_size (m b : Nat) (zs : List Nat) : (mtx m b zs).size ≤ m := by
  unfold mtx mlt
  rw [strOfNums_size, List.length_map, List.length_take]
  omega
theorem take_more (m j : Nat) (zs : List Nat) (x : Nat) (h : zs[j]? = some x) (hj : j < m) : ((zs.take (j + 1)).take m) = (zs.take j).take m ++ [x] := by
  have hl := (List.getElem?_eq_some_iff.1 h).1
  rw [List.take_take, Nat.min_eq_right (by omega), List.take_take, Nat.min_eq_right (by omega), List.take_add_one, h]
  rfl
theorem take_same (m j : Nat) (zs : List Nat) (hj : m ≤ j) : ((zs.take (j + 1)).take m) = (zs.take j).take m := by
  rw [List.take_take, List.take_take, Nat.min_eq_left (by omega), Nat.min_eq_left hj]
theorem mlt_app (b : Nat) (xs : List Nat) (x : Nat) : cellsOf (mlt b (xs ++ [x])) = cellsOf (mlt b xs) ++ [.int .u8 ((97 + x % b : Nat) : Int)] := by
  simp [cellsOf, mlt]
theorem u8_sum (r : Nat) (h : r ≤ 100) : IntKind.u8.wrap (97 + (r : Int)) = ((97 + r : Nat) : Int) := by
  have h1 : (97 + (r : Int)) = ((97 + r : Nat) : Int) := by omega
  rw [h1]
  simp [IntKind.wrap, IntKind.bits, IntKind.signed]
  omega
set_option maxRecDepth 100000 in
theorem mtext_any {w : World} {v : Value} {zs : List Nat} (h : BR w v zs) (hl : zs.length ≤ maxLen) :
    Calls Tryd.prog 20 #[v] w fun e w' => e = .returned (.string (mtx 7 3 zs)) ∧ Below w.heap.size w w' := by
  obtain ⟨ad, c, rfl, hc⟩ := h
  have HC : Hid (∀ (j : Nat) (x : Nat), zs[j]? = some x → x ≤ 255 ∧ ∃ b off, ad = some ⟨b, off, none⟩ ∧ w.cell? ⟨b, off + j, none⟩ = some (.int .u8 (x : Int))) := hc
  clear hc
  obtain ⟨n, hn⟩ : ∃ n, zs.length = n := ⟨_, rfl⟩
  have HN : Hid (zs.length = n) := hn
  have hn2 : n ≤ 9223372036854775807 := by
    have : maxLen ≤ 9223372036854775807 := by unfold maxLen; omega
    omega
  obtain ⟨T, hTx⟩ : ∃ T, mtx 7 3 zs = T := ⟨_, rfl⟩
  have HTX : Hid (mtx 7 3 zs = T) := hTx
  rw [hn, hTx]
  obtain ⟨i5, hi5, hz0, hz1, hz2⟩ := info_parts info5
  clear hn hl hTx
  go_enter Tryd.func20, Tryd.ntmps20
  go_wp2
  go_loopg [3, 8] n (fun g l iv wr => ∃ (j : Nat) (l3 : Value), l = l3 ∧ j ≤ n ∧ g = n - j ∧ iv = .int .i64 j ∧ Hid (wr.ownsRow w.heap.size 5 1 l3 (mlt 3 ((zs.take j).take 7)).length (cellsOf (mlt 3 ((zs.take j).take 7)))) ∧ Hid (Up w.heap.size w wr))
  case atStart => exact ⟨0, _, rfl, Nat.zero_le _, rfl, rfl, World.ownsRow_nil _ _ _ _, Up.refl w⟩
  case round =>
    obtain ⟨j, l3, rfl, hj, hg, rfl, HO, HU⟩ := hrel
    have z0 : (0 : Int) ≤ (j : Int) := by omega
    by_cases hlt : j < n
    · have z1 : (j : Int) < (n : Int) := by omega
      obtain ⟨x, hx⟩ : ∃ x, zs[j]? = some x := ⟨_, List.getElem?_eq_getElem (by rw [HN.out]; exact hlt)⟩
      obtain ⟨hx255, b, off, rfl, hcx⟩ := HC.out j x hx
      have hcw := cell_stay hcx HU.out.1
      by_cases h7 : j < 7
      · have z2 : (j : Int) < 7 := by omega
        obtain ⟨r, hr⟩ : ∃ r, x % 3 = r := ⟨_, rfl⟩
        have m1 : Int.tmod (x : Int) 3 = (r : Int) := by rw [← hr]; exact nat_mod x 3
        have m2 := u8_sum r (by omega)
        have hle7 : (mlt 3 ((zs.take j).take 7)).length ≤ 7 := by unfold mlt; rw [List.length_map, List.length_take]; omega
        have HNX : Hid (cellsOf (mlt 3 ((zs.take (j + 1)).take 7)) = cellsOf (mlt 3 ((zs.take j).take 7)) ++ [.int .u8 ((97 + r : Nat) : Int)]) := by
          show _ = _
          rw [take_more 7 j zs x hx h7, mlt_app, hr]
        have HNL : Hid ((mlt 3 ((zs.take (j + 1)).take 7)).length = (mlt 3 ((zs.take j).take 7)).length + 1) := by
          show _ = _
          rw [take_more 7 j zs x hx h7]
          simp [mlt]
        clear hx hcx hr hx255
        go_wp2_with (at_builtin; refine wpList_append_own _ rfl _ _ 43 rfl w.heap.size 5 i5 _ 1 1 Tryd.underlying43 hi5 hz0 hz1 hz2 rfl (by decide) _ _ _ rfl (HO.out.alloc _) ⟨wr.heap.size, 0, none⟩ 1 1 [.int .u8 ((97 + r : Nat) : Int)] rfl rfl (World.news_of_block (Array.getElem?_push_size (xs := wr.heap) (x := .cells #[.int .u8 ((97 + r : Nat) : Int)] 5))) (one_one _ rfl) (by unfold maxLen; omega) (by omega) (by have := HU.out.2; simp only [World.size_alloc]; omega) ?_)
        intro v' w3 hown2 hgr hnil
        have HO2 : Hid (w3.ownsRow w.heap.size 5 1 v' (mlt 3 ((zs.take (j + 1)).take 7)).length (cellsOf (mlt 3 ((zs.take (j + 1)).take 7)))) := by
          show w3.ownsRow _ _ _ _ _ _
          rw [HNX.out, HNL.out]
          exact hown2
        have HU2 : Hid (Up w.heap.size w w3) := (HU.out.alloc _).grown hgr (own_base HO.out)
        clear hown2 hgr hnil HO HU hcw
        go_wp2
        go_roundg (n - (j + 1))
        case measure => omega
        case rel => exact ⟨j + 1, _, rfl, by omega, rfl, by go_num, HO2, HU2⟩
      · have z2 : ¬ (j : Int) < 7 := by omega
        have HO2 : Hid (wr.ownsRow w.heap.size 5 1 u3 (mlt 3 ((zs.take (j + 1)).take 7)).length (cellsOf (mlt 3 ((zs.take (j + 1)).take 7)))) := by
          show wr.ownsRow _ _ _ _ _ _
          rw [take_same 7 j zs (by omega)]
          exact HO.out
        clear hx hcx
        go_wp2
        go_roundg (n - (j + 1))
        case measure => omega
        case rel => exact ⟨j + 1, _, rfl, by omega, rfl, by go_num, HO2, HU⟩
    · obtain rfl : j = n := by omega
      have z1 : ¬ (j : Int) < (j : Int) := by omega
      have hcv := own_text HO.out
      have e : strOfNums (mlt 3 ((zs.take j).take 7)) = T := by
        rw [← HTX.out, List.take_of_length_le (l := zs) (by rw [HN.out]; exact Nat.le_refl _)]
        rfl
      rw [e] at hcv
      clear e
      go_wp2_with fail
      go_ret
      exact ⟨rfl, HU.out.1⟩
end Go.Proofs.YtfikkkodepfdkaaDoor
