/- Sorted: texts as words that rise. The law TrieHas: its closure, its parts. The law TrieHas. Nodes are as many as there are beginnings; one word more. How many nodes lie below a node. trie.Ends. -/
import Derived.Deep.DeepCutAuto
import Derived.Lib.MinMax
import Derived.Deep.OwnRows
import Derived.Deep.Heap
import Derived.Test.YtfikkkodepfdkaaDoorpkB
namespace Go.Proofs.YtfikkkodepfdkaaDoor
set_option linter.unusedVariables false
open Go.RowKit Go.ChangeShapes
/-- A row of texts of its own. -/
def OS (w : World) (b : Nat) (v : Value) (L : List ByteArray) : Prop := w.ownsRow b 9 1 v L.length (L.map Value.string)
theorem OS.stay {w w' : World} {b : Nat} {v : Value} {L : List ByteArray} (h : OS w b v L) (hb : Below w.heap.size w w') : OS w' b v L := own_stay h hb
theorem OS.form {w : World} {b : Nat} {v : Value} {L : List ByteArray} (h : OS w b v L) : ∃ ad c, v = .slice ad L.length c ∧ L.length ≤ c ∧ (ad = none → L = [] ∧ c = 0) ∧ ∀ a, ad = some a → ∃ g, a = ⟨g, 0, none⟩ ∧ b ≤ g ∧ g < w.heap.size ∧ ∀ j, (hj : j < L.length) → w.cell? ⟨g, j, none⟩ = some (.string L[j]) := by
  have h0 : w.ownsRow b 9 1 v L.length (L.map Value.string) := h
  obtain ⟨hl, ⟨rfl, h1⟩ | ⟨g, cap, cur, rfl, hg, hh, h3⟩⟩ := h
  · exact ⟨none, 0, by rw [h1], by omega, fun _ => ⟨List.eq_nil_of_length_eq_zero h1, rfl⟩, fun a ha => by cases ha⟩
  · refine ⟨_, cap, rfl, h3.1, (fun e => by cases e), fun a ha => ?_⟩
    cases ha
    exact ⟨g, rfl, hg, lt_of_heap hh, own_cells h0⟩
theorem OS.tl {w : World} {b : Nat} {v : Value} {L : List ByteArray} (h : OS w b v L) : TL w v L := by
  obtain ⟨ad, c, rfl, _, h1, h2⟩ := h.form
  refine ⟨ad, c, rfl, fun j s hs => ?_⟩
  obtain ⟨hj, e⟩ := List.getElem?_eq_some_iff.1 hs
  cases ad with
  | none => rw [(h1 rfl).1] at hj; simp at hj
  | some a =>
    obtain ⟨g, rfl, _, _, hc⟩ := h2 a rfl
    exact ⟨g, 0, rfl, by rw [Nat.zero_add, hc j hj, e]⟩
theorem rcells_rs (s : ByteArray) : rcells s (kS s) = (rs s).map i32c := by
  simp [rcells, rs, rl, i32c]
theorem rs_len (s : ByteArray) : (rs s).length = kS s := by simp [rs, rl]
theorem kS_le (s : ByteArray) : kS s ≤ s.size := (kS_ends s).le
theorem txt_take (f : List Int) (m : Nat) (hm : m ≤ f.length) : txt (fun j => f.getD j 0) m = (f.take m).flatMap enc := by
  induction m with
  | zero => simp [txt]
  | succ m ih =>
    rw [txt_succ, ih (by omega), ← List.take_append_getElem (show m < f.length by omega), List.flatMap_append]
    simp [List.getD, show m < f.length by omega]
theorem own_rsl {w : World} {b : Nat} {v : Value} {f : List Int} (h : w.ownsRow b 21 1 v f.length (f.map i32c)) : ∃ ad c, v = .slice ad f.length c ∧ f.length ≤ c ∧ ∀ m, m ≤ f.length → RSl w (.slice ad m c) m (fun j => f.getD j 0) := by
  have h0 := h
  obtain ⟨hl, ⟨rfl, h1⟩ | ⟨g, cap, cur, rfl, hg, hh, h3⟩⟩ := h
  · exact ⟨none, 0, by rw [h1], by omega, fun m hm => Or.inl ⟨none, 0, by rw [show m = 0 by omega], by omega⟩⟩
  · refine ⟨_, cap, rfl, h3.1, fun m hm => Or.inr ⟨g, 0, cap, rfl, fun i hi => ?_⟩⟩
    rw [Nat.zero_add, World.ownsRow.cellAt h0 i (by omega)]
    simp [List.getD, i32c, show i < f.length by omega]
/-- Where all ahead are less and this one isn't, a word stands there or nowhere. -/
theorem not_in {L : List ByteArray} {t : ByteArray} (hr : RiseK id L) {k : Nat} (h1 : ∀ j, (hj : j < L.length) → j < k → lw L[j] t = true) (h2 : ∀ hk : k < L.length, lw L[k] t = false ∧ L[k] ≠ t) : t ∉ L := by
  intro hm
  obtain ⟨j, hj, e⟩ := List.getElem_of_mem hm
  rcases Nat.lt_trichotomy j k with q | q | q
  · have := h1 j hj q
    rw [e, lw_irrefl] at this
    cases this
  · subst q; exact (h2 hj).2 e
  · have hk : k < L.length := by omega
    have hp := List.pairwise_iff_getElem.1 hr k j hk hj q
    have hp' : lw L[k] L[j] = true := hp
    rw [e, (h2 hk).1] at hp'
    cases hp'
theorem eq_str (x t : ByteArray) : (x.toList == t.toList) = decide (x = t) := by
  rw [Lib.toList_data, Lib.toList_data]
  by_cases h : x = t
  · simp [h]
  · have h2 : ¬ x.data = t.data := fun e => h (ByteArray.ext e)
    simp [h, h2]
set_option maxHeartbeats 4000000 in
set_option maxRecDepth 100000 in
theorem sorted_any (w : World) (hT : Tabs w) (v : Value) (Ls : List ByteArray) (hv : TL w v Ls) (hl : Ls.length ≤ 2000000) (hsz : ∀ s ∈ Ls, s.size ≤ 2000000) :
    Calls Tryd.prog 9 #[v] w fun e w' => ∃ v', e = .returned v' ∧ OS w' w.heap.size v' (srtL Ls) ∧ Up w.heap.size w w' := by
  have HT : Hid (Tabs w) := hT
  obtain ⟨ad, c, rfl, hc⟩ := hv
  have HC : Hid (∀ (j : Nat) (s : ByteArray), Ls[j]? = some s → ∃ b off, ad = some ⟨b, off, none⟩ ∧ w.cell? ⟨b, off + j, none⟩ = some (.string s)) := hc
  have HZ : Hid (∀ s ∈ Ls, s.size ≤ 2000000) := hsz
  clear hT hc hsz
  obtain ⟨i0, hi, hz0, hz1, hz2⟩ := info_parts info21
  obtain ⟨i9, hi9, hz90, hz91, hz92⟩ := info_parts info9
  generalize en : Ls.length = n at *
  have EN : Hid (Ls.length = n) := en
  clear en
  go_enter Tryd.func9, Tryd.ntmps9
  go_wp2
  go_loopg [3, 12] n (fun g ov iv wr => ∃ i : Nat, i ≤ n ∧ i ≤ 61 ∧ g = n - i ∧ iv = .int .i64 i ∧ Hid (OS wr w.heap.size ov (srtG (Ls.take i))) ∧ Hid (Up w.heap.size w wr))
  case atStart => exact ⟨0, Nat.zero_le _, by omega, rfl, rfl, ⟨rfl, Or.inl ⟨rfl, rfl⟩⟩, Up.refl w⟩
  case round =>
    obtain ⟨i, hin, hi61, hg, rfl, HO, HU⟩ := hrel
    have z0 : (0 : Int) ≤ (i : Int) := by omega
    obtain ⟨ado, co, rfl, hco, hnone, hsome⟩ := HO.out.form
    by_cases hlt : i < n
    · have z1 : (i : Int) < (n : Int) := by omega
      obtain ⟨s, hs⟩ : ∃ s, Ls[i]? = some s := ⟨_, List.getElem?_eq_getElem (by rw [EN.out]; exact hlt)⟩
      obtain ⟨b, off, rfl, hc0⟩ := HC.out i s hs
      have hc1 := cell_stay hc0 HU.out.1
      have HS : Hid (Ls[i]? = some s) := hs
      have hss := HZ.out s (List.mem_of_getElem? hs)
      clear hc0 hs
      by_cases h61 : i = 61
      · subst h61
        have z2 : (60 : Int) < ((61 : Nat) : Int) := by omega
        go_wp2
        go_ret
        exact ⟨_, rfl, HO.out, HU.out⟩
      · have z2 : ¬ (60 : Int) < (i : Int) := by omega
        have c1 := runes_any s wr (by omega) (tabs_stay HT.out HU.out.1)
        go_wp2_with fail
        refine c1.mono ?_
        rintro e w1 ⟨k, v20, rfl, hE, hO1, hb1⟩
        obtain rfl : k = kS s := ((kS_is hE).symm)
        rw [rcells_rs, ← rs_len] at hO1
        have HR : Hid (w1.ownsRow wr.heap.size 21 1 v20 (rs s).length ((rs s).map i32c)) := hO1
        have HU1 : Hid (Up wr.heap.size wr w1) := (Up.refl wr).stay hb1
        have hRl : (rs s).length ≤ 2000000 := by rw [rs_len]; have := kS_le s; omega
        obtain ⟨a20, c20, rfl, hc20, -⟩ := own_rsl hO1
        generalize eR : (rs s).length = nR at *
        have ER : Hid (nR = (rs s).length) := eR.symm
        clear hE hO1 hb1 c1 eR
        go_wp2
        go_loopg [6, 22] nR (fun g rv jv wx => ∃ j : Nat, j ≤ nR ∧ g = nR - j ∧ jv = .int .i64 j ∧ Hid (wx.ownsRow w1.heap.size 21 1 rv (((rs s).take j).filter fun r => decide (0 ≤ r)).length ((((rs s).take j).filter fun r => decide (0 ≤ r)).map i32c)) ∧ Hid (Up w1.heap.size w1 wx))
        case atStart => exact ⟨0, Nat.zero_le _, rfl, rfl, ⟨rfl, Or.inl ⟨rfl, rfl⟩⟩, Up.refl w1⟩
        case round =>
          obtain ⟨j, hj, hg2, rfl, HF, HU2⟩ := hrel
          by_cases hjn : j < nR
          · have y1 : (j : Int) < (nR : Int) := by omega
            have y2 : (0 : Int) ≤ (j : Int) := by omega
            obtain ⟨x, hx⟩ : ∃ x, (rs s)[j]? = some x := ⟨_, List.getElem?_eq_getElem (by rw [← ER.out]; exact hjn)⟩
            obtain ⟨g20, rfl⟩ : ∃ g20, a20 = some ⟨g20, 0, none⟩ := by
              obtain ⟨_, ⟨e1, e2⟩ | ⟨g, cap, _, e1, _⟩⟩ := HR.out
              · omega
              · injection e1 with e1 _ _; exact ⟨g, e1⟩
            have hcx : wr.cell? ⟨g20, j, none⟩ = some (.int .i32 x) := by
              rw [(own_stay HR.out HU2.out.1).cellAt j (by omega), List.getElem?_map, hx]; rfl
            have hft : ((rs s).take (j + 1)).filter (fun r => decide (0 ≤ r)) = ((rs s).take j).filter (fun r => decide (0 ≤ r)) ++ (if 0 ≤ x then [x] else []) := by
              obtain ⟨h1, h2⟩ := List.getElem?_eq_some_iff.1 hx
              rw [← List.take_append_getElem h1, List.filter_append, h2]
              by_cases h : 0 ≤ x <;> simp [h]
            have hfl : (((rs s).take j).filter fun r => decide (0 ≤ r)).length ≤ j := Nat.le_trans (List.length_filter_le _ _) (by rw [List.length_take]; omega)
            have HFT : Hid (((rs s).take (j + 1)).filter (fun r => decide (0 ≤ r)) = ((rs s).take j).filter (fun r => decide (0 ≤ r)) ++ (if 0 ≤ x then [x] else [])) := hft
            clear hx hft
            generalize ef : ((rs s).take j).filter (fun r => decide (0 ≤ r)) = f at *
            by_cases h0x : 0 ≤ x
            · go_wp2_with (at_builtin; refine app_src rfl _ _ 37 rfl w1.heap.size 21 i0 _ 1 4 Tryd.underlying37 hi hz0 hz1 hz2 rfl (by decide) _ f.length (f.map i32c) rfl (HF.out.alloc _) _ 1 [.int .i32 x] rfl (srcs_new wr #[.int .i32 x] 21 1 1 1 rfl) (one_one _ rfl) (by unfold maxLen; omega) (by omega) (by have := HU2.out.2; simp only [World.size_alloc]; omega) ?_)
              intro v31 w2 hO2 hg2'
              have HF2 : Hid (w2.ownsRow w1.heap.size 21 1 v31 (((rs s).take (j + 1)).filter fun r => decide (0 ≤ r)).length ((((rs s).take (j + 1)).filter fun r => decide (0 ≤ r)).map i32c)) := by
                show w2.ownsRow _ _ _ _ _ _
                rw [HFT.out, if_pos h0x, List.length_append, List.map_append]
                exact hO2
              have HU3 : Hid (Up w1.heap.size w1 w2) := (HU2.out.alloc _).grown hg2' (own_base HF.out)
              clear hO2 hg2'
              go_wp2
              go_roundg (nR - (j + 1))
              case measure => omega
              case rel => exact ⟨j + 1, by omega, rfl, by go_num, HF2, HU3⟩
            · have HF2 : Hid (wr.ownsRow w1.heap.size 21 1 u6 (((rs s).take (j + 1)).filter fun r => decide (0 ≤ r)).length ((((rs s).take (j + 1)).filter fun r => decide (0 ≤ r)).map i32c)) := by
                show wr.ownsRow _ _ _ _ _ _
                rw [HFT.out, if_neg h0x, List.append_nil]
                exact HF.out
              go_wp2
              go_roundg (nR - (j + 1))
              case measure => omega
              case rel => exact ⟨j + 1, by omega, rfl, by go_num, HF2, HU2⟩
          · obtain rfl : j = nR := by omega
            have y1 : ¬ (j : Int) < (j : Int) := by omega
            have hgr : ((rs s).take j).filter (fun r => decide (0 ≤ r)) = gr s := by
              rw [List.take_of_length_le (by rw [ER.out]; exact Nat.le_refl _)]; rfl
            rw [hgr] at HF
            obtain ⟨a6, c6, rfl, hc6, hR6⟩ := own_rsl HF.out
            have hgl : (gr s).length ≤ 2000000 := Nat.le_trans (List.length_filter_le _ _) (by rw [← ER.out]; exact hRl)
            obtain ⟨m, hm⟩ : ∃ m, min (gr s).length 12 = m := ⟨_, rfl⟩
            have hm' : min ((gr s).length : Int) 12 = (m : Int) := by omega
            have y3 : (m : Int) ≤ (c6 : Int) := by omega
            have y4 : (0 : Int) ≤ (m : Int) := by omega
            have y5 : m ≤ c6 := by omega
            have c2 := text_any (fun j => (gr s).getD j 0) m (.slice a6 m c6) wr (by omega) (hR6 m (by omega))
            have htx : strOfNums (txt (fun j => (gr s).getD j 0) m) = wd12 s := by
              rw [txt_take _ _ (by omega)]
              unfold wd12
              congr 2
              rw [← hm, List.take_eq_take_iff]
              omega
            rw [htx] at c2
            clear htx hR6 hgr hm
            go_wp2_with fail
            refine c2.mono ?_
            rintro e w3 ⟨rfl, hb3⟩
            have HO3 : Hid (OS w3 w.heap.size (.slice ado (srtG (Ls.take i)).length co) (srtG (Ls.take i))) := ((HO.out.stay HU1.out.1).stay HU2.out.1).stay hb3
            have HU3 : Hid (Up w.heap.size w w3) := ((HU.out.stay HU1.out.1).stay HU2.out.1).stay hb3
            have hgood := srtG_good (Ls.take i) [] ⟨List.Pairwise.nil, fun x hx => by cases hx⟩
            have HRI : Hid (RiseK id (srtG (Ls.take i))) := hgood.1.1
            have hLl : (srtG (Ls.take i)).length ≤ 61 := by
              have h1 : (srtG (Ls.take i)).length ≤ ([] : List ByteArray).length + (Ls.take i).length := hgood.2
              rw [List.length_take] at h1
              simp at h1
              omega
            have HNX : Hid (srtG (Ls.take (i + 1)) = insP (srtG (Ls.take i)) (wd12 s)) := by
              show _ = _
              obtain ⟨h1, h2⟩ := List.getElem?_eq_some_iff.1 HS.out
              unfold srtG
              rw [← List.take_append_getElem h1, List.foldl_append, h2]
              rfl
            clear hb3 c2 hgood hsome hnone hco
            generalize eL : srtG (Ls.take i) = L at *
            generalize et : wd12 s = t at *
            clear eL et
            obtain ⟨_, _, hov, hco, hnone, hsome⟩ := HO3.out.form
            injection hov with hov1 hov2 hov3
            subst hov1 hov3
            have HNO : Hid (ado = none → L = [] ∧ co = 0) := hnone
            have HSO : Hid (∀ a, ado = some a → ∃ g, a = ⟨g, 0, none⟩ ∧ w.heap.size ≤ g ∧ g < w3.heap.size ∧ ∀ j, (hj : j < L.length) → w3.cell? ⟨g, j, none⟩ = some (.string L[j])) := hsome
            clear hov2 hnone hsome HF hgl y3 y4 y5 hm' hc6 HO
            obtain ⟨nL, hnL⟩ : ∃ q, L.length = q := ⟨_, rfl⟩
            have HL : Hid (L.length = nL) := hnL
            rw [hnL] at hLl hco HO3 ⊢
            clear hnL
            go_wp2
            go_loopg [9] nL (fun g kv wx => ∃ k : Nat, k ≤ nL ∧ g = nL - k ∧ kv = .int .i64 k ∧ wx = w3 ∧ Hid (∀ j, (hj : j < L.length) → j < k → lw L[j] t = true))
            case atStart => exact ⟨0, Nat.zero_le _, rfl, rfl, rfl, fun j _ hj => absurd hj (Nat.not_lt_zero j)⟩
            case round =>
              obtain ⟨k, hkn, hg3, rfl, hw, HJ⟩ := hrel
              subst wr
              have x0 : (0 : Int) ≤ (k : Int) := by omega
              have hlen := HL.out
              by_cases hgo : ∃ hlt : k < L.length, lw L[k] t = true
              · obtain ⟨hlt3, hq⟩ := hgo
                have x1 : (k : Int) < (nL : Int) := by omega
                obtain ⟨a, ha⟩ : ∃ a, ado = some a := by
                  cases ado with
                  | none => have := (HNO.out rfl).1; subst this; simp at hlt3
                  | some a => exact ⟨a, rfl⟩
                obtain ⟨g, rfl, _, _, hcs⟩ := HSO.out a ha
                subst ha
                have hck := hcs k hlt3
                have HJ2 : Hid (∀ j, (hj : j < L.length) → j < k + 1 → lw L[j] t = true) := fun j hj hl => by
                  rcases Nat.lt_succ_iff_lt_or_eq.1 hl with h | h
                  · exact HJ.out j hj h
                  · subst h; exact hq
                rw [← lw_less] at hq
                generalize L[k] = x at hck hq
                have hk2 : k < nL := by omega
                clear hlen hlt3 hcs
                go_wp2
                go_roundg (nL - (k + 1))
                case measure => omega
                case rel => exact ⟨k + 1, by omega, rfl, by go_num, rfl, HJ2⟩
              · have hno : ∀ hk : k < L.length, lw L[k] t = false := fun hk => by
                  cases hc : lw L[k] t with
                  | false => rfl
                  | true => exact absurd ⟨hk, hc⟩ hgo
                clear hgo
                have EMP := empty_size t
                by_cases hkL : k < nL
                · have x1 : (k : Int) < (nL : Int) := by omega
                  have x2 : (k : Int) ≤ (nL : Int) := by omega
                  have x3 : (k : Int) ≤ (co : Int) := by omega
                  have x4 : (nL : Int) ≤ (co : Int) := by omega
                  have x5 : ((k : Int) == (nL : Int)) = false := by simp; omega
                  have hkl : k < L.length := by omega
                  obtain ⟨a, ha⟩ : ∃ a, ado = some a := by
                    cases ado with
                    | none => have := (HNO.out rfl).1; subst this; simp at hkl
                    | some a => exact ⟨a, rfl⟩
                  obtain ⟨g, rfl, hgb, hgw, hcs⟩ := HSO.out a ha
                  subst ha
                  have hck := hcs k hkl
                  have hq := hno hkl
                  have HNI : Hid (L[k] ≠ t → t ∉ L) := fun hne => not_in HRI.out HJ.out (fun hk => ⟨hno hk, hne⟩)
                  have HIM : Hid (L[k] = t → t ∈ L) := fun h => by rw [← h]; exact List.getElem_mem hkl
                  have HPS : Hid (putK id L t = L.take k ++ t :: L.drop k) := put_split L t k HJ.out (by omega) hno
                  rw [← lw_less] at hq
                  generalize L[k] = x at hck hq HNI HIM
                  have EQ := eq_str x t
                  by_cases ht0 : t.size = 0
                  · have he : t.toList.isEmpty = true := by rw [EMP]; simpa using ht0
                    have HIN : Hid (insP L t = L) := by show _ = _; unfold insP; rw [if_pos (Or.inl ht0)]
                    clear EMP hcs hno EQ
                    go_wp2
                    go_roundg (n - (i + 1))
                    case measure => omega
                    case rel =>
                      refine ⟨i + 1, by omega, by omega, rfl, by go_num, ?_, HU3.out⟩
                      show OS _ _ _ _
                      rw [HNX.out, HIN.out]
                      have := HO3.out
                      exact this
                  · have he : t.toList.isEmpty = false := by rw [EMP]; simpa using ht0
                    by_cases hxt : x = t
                    · have HIN : Hid (insP L t = L) := by show _ = _; unfold insP; rw [if_pos (Or.inr (HIM.out hxt))]
                      have hxt' : (x.toList == t.toList) = true := by rw [EQ]; simpa using hxt
                      clear EMP hcs hno EQ hxt
                      go_wp2
                      go_roundg (n - (i + 1))
                      case measure => omega
                      case rel =>
                        refine ⟨i + 1, by omega, by omega, rfl, by go_num, ?_, HU3.out⟩
                        show OS _ _ _ _
                        rw [HNX.out, HIN.out]
                        have := HO3.out
                        exact this
                    · have HIN : Hid (insP L t = L.take k ++ t :: L.drop k) := by show _ = _; unfold insP; rw [if_neg (by simp only [not_or]; exact ⟨ht0, HNI.out hxt⟩)]; exact HPS.out
                      have hxt' : (x.toList == t.toList) = false := by rw [EQ]; simpa using hxt
                      have HSA : ∀ c, Hid (Srcs w3 (.slice (some ⟨g, 0, none⟩) k c) k 1 ((L.take k).map Value.string)) := fun c => srcs_part hcs (by simp; omega) (fun j x hx => by
                        rw [Nat.zero_add]
                        rw [List.getElem?_take] at hx
                        split at hx
                        · exact hx
                        · cases hx)
                      have HSB : ∀ c, Hid (Srcs w3 (.slice (if co = k then some ⟨g, 0, none⟩ else some ⟨g, k, none⟩) (nL - k) c) (nL - k) 1 ((L.drop k).map Value.string)) := fun c => by
                        show Srcs _ _ _ _ _
                        split
                        · exact ⟨by simp; omega, Or.inl ⟨_, c, by rw [show nL - k = 0 by omega], by omega⟩⟩
                        · exact srcs_part hcs (by simp; omega) (fun j x hx => by rw [List.getElem?_drop] at hx; exact hx)
                      clear EMP hcs hno EQ hxt
                      go_upto_region 18 with fail
                      refine wp_region_held_drew (S := fun w' => Up w3.heap.size w3 w') (by kernel_rfl) (Up.drew (Up.refl w3)) (fun hHeld => ?_)
                      (try dsimp only at hHeld)
                      obtain ⟨x0, hx0⟩ : ∃ x0, w3.drew = x0 := ⟨_, rfl⟩
                      rw [hx0] at hHeld ⊢
                      clear hx0
                      refine takeH (i := 1) (v := ?_) (d := (some 70)) rfl (by kernel_rfl) (by kernel_rfl) (by kernel_rfl) rfl (fun _ _ _ h => h) (Or.inl ⟨by kernel_rfl, ?_⟩) (by assumption) ?_; rotate_left
                      · (intro w hSw; (try dsimp only at hSw); first | (go_simp; done) | (go_simp; with_reducible rfl))
                      (try simp only [Act.put, List.setIfInBounds_toArray, List.set_cons_zero, List.set_cons_succ])
                      refine takeH (i := 2) (v := ?_) (d := (some 71)) rfl (by kernel_rfl) (by kernel_rfl) (by kernel_rfl) rfl (fun _ _ _ h => h) (Or.inl ⟨by kernel_rfl, ?_⟩) (by assumption) ?_; rotate_left
                      · (intro w hSw; (try dsimp only at hSw); first | (go_simp; done) | (go_simp; with_reducible rfl))
                      (try simp only [Act.put, List.setIfInBounds_toArray, List.set_cons_zero, List.set_cons_succ])
                      refine takeH (i := 3) (v := ?_) (d := (some 72)) rfl (by kernel_rfl) (by kernel_rfl) (by kernel_rfl) rfl (fun _ _ _ h => h) (Or.inl ⟨by kernel_rfl, ?_⟩) (by assumption) ?_; rotate_left
                      · (intro w hSw; (try dsimp only at hSw); first | (go_simp; done) | (go_simp; with_reducible rfl))
                      (try simp only [Act.put, List.setIfInBounds_toArray, List.set_cons_zero, List.set_cons_succ])
                      refine takeH (i := 5) (v := ?_) (d := (some 74)) rfl (by kernel_rfl) (by kernel_rfl) (by kernel_rfl) rfl (fun _ _ _ h => h) (Or.inl ⟨by kernel_rfl, ?_⟩) (by assumption) ?_; rotate_left
                      · (intro w hSw; (try dsimp only at hSw); first | (go_simp; done) | (go_simp; with_reducible rfl))
                      (try simp only [Act.put, List.setIfInBounds_toArray, List.set_cons_zero, List.set_cons_succ])
                      refine takeH (i := 8) (v := ?_) (d := (some 77)) rfl (by kernel_rfl) (by kernel_rfl) (by kernel_rfl) rfl (fun _ _ _ h => h) (Or.inl ⟨by kernel_rfl, ?_⟩) (by assumption) ?_; rotate_left
                      · (intro w hSw; (try dsimp only at hSw); first | (go_simp; done) | (go_simp; with_reducible rfl))
                      (try simp only [Act.put, List.setIfInBounds_toArray, List.set_cons_zero, List.set_cons_succ])
                      refine takeH (i := 9) (v := ?_) (d := (some 78)) rfl (by kernel_rfl) (by kernel_rfl) (by kernel_rfl) rfl (fun _ _ _ h => h) (Or.inl ⟨by kernel_rfl, ?_⟩) (by assumption) ?_; rotate_left
                      · (intro w hSw; (try dsimp only at hSw); first | (go_simp; done) | (go_simp; with_reducible rfl))
                      (try simp only [Act.put, List.setIfInBounds_toArray, List.set_cons_zero, List.set_cons_succ])
                      refine takeH (i := 10) (v := ?_) (d := (some 79)) rfl (by kernel_rfl) (by kernel_rfl) (by kernel_rfl) rfl (fun _ _ _ h => h) (Or.inl ⟨by kernel_rfl, ?_⟩) (by assumption) ?_; rotate_left
                      · (intro w hSw; (try dsimp only at hSw); first | (go_simp; done) | (go_simp; with_reducible rfl))
                      (try simp only [Act.put, List.setIfInBounds_toArray, List.set_cons_zero, List.set_cons_succ])
                      refine wpAnyH_ready (rs := [0, 6]) (by kernel_rfl) (by simp) (AllReadyH.cons rfl (fun K hK => ?_) (AllReadyH.cons rfl (fun K hK => ?_) AllReadyH.nil))
                      · rw [if_pos (by kernel_rfl)]
                        go_simp
                        have O20 : Hid ((x0.alloc (.cells #[] 9)).ownsRow w3.heap.size 9 1 (.slice (some ⟨x0.heap.size, 0, none⟩) 0 0) 0 []) := World.ownsRow_lit x0 #[] 0 hHeld.2 (Nat.zero_le _) rfl
                        refine hK.out _ _ (hHeld.alloc _ : Up w3.heap.size w3 _) (fun hHeld => ?_)
                        clear hK K
                        (try dsimp only at hHeld)
                        (try simp only [Act.put, List.setIfInBounds_toArray, List.set_cons_zero, List.set_cons_succ])
                        obtain ⟨x1, hx1⟩ : ∃ x1, x0.alloc (.cells #[] 9) = x1 := ⟨_, rfl⟩
                        rw [hx1] at hHeld O20 ⊢
                        refine wpAnyH_ready (rs := [4, 6]) (by kernel_rfl) (by simp) (AllReadyH.cons rfl (fun K hK => ?_) (AllReadyH.cons rfl (fun K hK => ?_) AllReadyH.nil))
                        · rw [if_pos (by kernel_rfl)]
                          refine app_src_wp (.tmp 69) (.tmp 72) 22 rfl w3.heap.size 9 i9 _ 1 16 Tryd.underlying22 hi9 hz90 hz91 hz92 rfl (by decide) _ _ _ rfl O20.out _ _ _ rfl ((HSA _).out.stay hHeld.1) (str_one _) (by unfold maxLen; omega) (by omega) hHeld.2 ?_
                          intro v24 x2 ho24 hg24
                          change K (Act.put _ (some 73) _) _
                          have O24 : Hid (x2.ownsRow w3.heap.size 9 1 v24 (0 + k) ([] ++ (L.take k).map Value.string)) := ho24
                          have hu24 : Up w3.heap.size w3 x2 := hHeld.grown hg24 (own_base O20.out)
                          clear ho24 hg24 O20
                          refine hK.out _ _ (hu24 : Up w3.heap.size w3 _) (fun hHeld => ?_)
                          clear hK K
                          (try dsimp only at hHeld)
                          (try simp only [Act.put, List.setIfInBounds_toArray, List.set_cons_zero, List.set_cons_succ])
                          clear hu24
                          refine wpAnyH_ready (rs := [6]) (by kernel_rfl) (by simp) (AllReadyH.cons rfl (fun K hK => ?_) AllReadyH.nil)
                          rw [if_pos (by kernel_rfl)]
                          go_simp
                          have S26 : Hid (Srcs (x2.alloc (.cells #[.string t] 9)) (.slice (some ⟨x2.heap.size, 0, none⟩) 1 1) 1 1 [.string t]) := srcs_new x2 #[.string t] 9 1 1 1 rfl
                          have O24' := O24.out.alloc (.cells #[.string t] 9)
                          clear O24
                          have O24 : Hid (World.ownsRow _ _ _ _ _ _ _) := O24'
                          clear O24'
                          refine hK.out _ _ (hHeld.alloc _ : Up w3.heap.size w3 _) (fun hHeld => ?_)
                          clear hK K
                          (try dsimp only at hHeld)
                          (try simp only [Act.put, List.setIfInBounds_toArray, List.set_cons_zero, List.set_cons_succ])
                          obtain ⟨x3, hx3⟩ : ∃ x3, x2.alloc (.cells #[.string t] 9) = x3 := ⟨_, rfl⟩
                          rw [hx3] at hHeld O24 S26 ⊢
                          refine wpAnyH_ready (rs := [7]) (by kernel_rfl) (by simp) (AllReadyH.cons rfl (fun K hK => ?_) AllReadyH.nil)
                          rw [if_pos (by kernel_rfl)]
                          refine app_src_wp (.tmp 73) (.tmp 75) 22 rfl w3.heap.size 9 i9 _ 1 16 Tryd.underlying22 hi9 hz90 hz91 hz92 rfl (by decide) _ _ _ rfl O24.out _ _ _ rfl S26.out (one_one _ rfl) (by unfold maxLen; omega) (by omega) hHeld.2 ?_
                          intro v27 y1 ho27 hg27
                          change K (Act.put _ (some 76) _) _
                          have O27 : Hid (y1.ownsRow w3.heap.size 9 1 v27 (0 + k + 1) ([] ++ (L.take k).map Value.string ++ [.string t])) := ho27
                          have hu27 : Up w3.heap.size w3 y1 := hHeld.grown hg27 (own_base O24.out)
                          clear ho27 hg27 O24 S26
                          refine hK.out _ _ (hu27 : Up w3.heap.size w3 _) (fun hHeld => ?_)
                          clear hK K
                          (try dsimp only at hHeld)
                          (try simp only [Act.put, List.setIfInBounds_toArray, List.set_cons_zero, List.set_cons_succ])
                          clear hu27
                          refine wpAnyH_ready (rs := [11]) (by kernel_rfl) (by simp) (AllReadyH.cons rfl (fun K hK => ?_) AllReadyH.nil)
                          rw [if_pos (by kernel_rfl)]
                          refine app_src_wp (.tmp 76) (.tmp 79) 22 rfl w3.heap.size 9 i9 _ 1 16 Tryd.underlying22 hi9 hz90 hz91 hz92 rfl (by decide) _ _ _ rfl O27.out _ _ _ rfl ((HSB _).out.stay hHeld.1) (str_one _) (by unfold maxLen; omega) (by omega) hHeld.2 ?_
                          intro v31 y2 ho31 hg31
                          change K (Act.put _ (some 80) _) _
                          have O31 : Hid (y2.ownsRow w3.heap.size 9 1 v31 (0 + k + 1 + (nL - k)) ([] ++ (L.take k).map Value.string ++ [.string t] ++ (L.drop k).map Value.string)) := ho31
                          have hu31 : Up w3.heap.size w3 y2 := hHeld.grown hg31 (own_base O27.out)
                          clear ho31 hg31 O27
                          refine hK.out _ _ (hu31 : Up w3.heap.size w3 _) (fun hHeld => ?_)
                          clear hK K
                          (try dsimp only at hHeld)
                          (try simp only [Act.put, List.setIfInBounds_toArray, List.set_cons_zero, List.set_cons_succ])
                          clear hu31
                          refine takeH (i := 12) (v := ?_) (d := (some 3)) rfl (by kernel_rfl) (by kernel_rfl) (by kernel_rfl) rfl (fun _ _ _ h => h) (Or.inl ⟨by kernel_rfl, ?_⟩) (by assumption) ?_; rotate_left
                          · (intro w hSw; (try dsimp only at hSw); first | (go_simp; done) | (go_simp; with_reducible rfl))
                          (try simp only [Act.put, List.setIfInBounds_toArray, List.set_cons_zero, List.set_cons_succ])
                          refine wpAnyH_done (by kernel_rfl) ?_ _
                          have HU9 : Hid (Up w3.heap.size w3 y2) := hHeld
                          clear hHeld
                          have HO4 : Hid (OS y2 w.heap.size v31 (srtG (Ls.take (i + 1)))) := by
                            show y2.ownsRow _ _ _ _ _ _
                            rw [HNX.out, HIN.out]
                            have hown3 := O31.out
                            have e : (List.take k L ++ t :: List.drop k L).length = 0 + k + 1 + (nL - k) := by first | (simp; done) | (simp; omega)
                            rw [e, List.map_append, List.map_cons]
                            have h2 := own_mono hown3 HU3.out.2
                            simpa using h2
                          have HU4 : Hid (Up w.heap.size w y2) := HU3.out.stay HU9.out.1
                          clear O31 HU9
                          go_wp2
                          all_goals
                            go_roundg (n - (i + 1))
                            case measure => omega
                            case rel => exact ⟨i + 1, by omega, by omega, rfl, by go_num, HO4, HU4⟩
                        · rw [if_pos (by kernel_rfl)]
                          go_simp
                          have S26 : Hid (Srcs (x1.alloc (.cells #[.string t] 9)) (.slice (some ⟨x1.heap.size, 0, none⟩) 1 1) 1 1 [.string t]) := srcs_new x1 #[.string t] 9 1 1 1 rfl
                          have O20' := O20.out.alloc (.cells #[.string t] 9)
                          clear O20
                          have O20 : Hid (World.ownsRow _ _ _ _ _ _ _) := O20'
                          clear O20'
                          have hne : x0.heap.size < x1.heap.size := by rw [← hx1]; simp
                          refine hK.out _ _ (hHeld.alloc _ : Up w3.heap.size w3 _) (fun hHeld => ?_)
                          clear hK K
                          (try dsimp only at hHeld)
                          (try simp only [Act.put, List.setIfInBounds_toArray, List.set_cons_zero, List.set_cons_succ])
                          obtain ⟨x2, hx2⟩ : ∃ x2, x1.alloc (.cells #[.string t] 9) = x2 := ⟨_, rfl⟩
                          rw [hx2] at hHeld O20 S26 ⊢
                          refine wpAnyH_ready (rs := [4]) (by kernel_rfl) (by simp) (AllReadyH.cons rfl (fun K hK => ?_) AllReadyH.nil)
                          rw [if_pos (by kernel_rfl)]
                          refine app_src_wp (.tmp 69) (.tmp 72) 22 rfl w3.heap.size 9 i9 _ 1 16 Tryd.underlying22 hi9 hz90 hz91 hz92 rfl (by decide) _ _ _ rfl O20.out _ _ _ rfl ((HSA _).out.stay hHeld.1) (str_one _) (by unfold maxLen; omega) (by omega) hHeld.2 ?_
                          intro v24 x3 ho24 hg24
                          change K (Act.put _ (some 73) _) _
                          have O24 : Hid (x3.ownsRow w3.heap.size 9 1 v24 (0 + k) ([] ++ (L.take k).map Value.string)) := ho24
                          have S26' := S26.out.grown hg24 (fun e => by have e' : some x0.heap.size = some x1.heap.size := e; injection e' with e'; omega)
                          clear S26
                          have S26 : Hid (Srcs _ _ _ _ _) := S26'
                          clear S26'
                          have hu24 : Up w3.heap.size w3 x3 := hHeld.grown hg24 (own_base O20.out)
                          clear ho24 hg24 O20
                          refine hK.out _ _ (hu24 : Up w3.heap.size w3 _) (fun hHeld => ?_)
                          clear hK K
                          (try dsimp only at hHeld)
                          (try simp only [Act.put, List.setIfInBounds_toArray, List.set_cons_zero, List.set_cons_succ])
                          clear hu24
                          refine wpAnyH_ready (rs := [7]) (by kernel_rfl) (by simp) (AllReadyH.cons rfl (fun K hK => ?_) AllReadyH.nil)
                          rw [if_pos (by kernel_rfl)]
                          refine app_src_wp (.tmp 73) (.tmp 75) 22 rfl w3.heap.size 9 i9 _ 1 16 Tryd.underlying22 hi9 hz90 hz91 hz92 rfl (by decide) _ _ _ rfl O24.out _ _ _ rfl S26.out (one_one _ rfl) (by unfold maxLen; omega) (by omega) hHeld.2 ?_
                          intro v27 y1 ho27 hg27
                          change K (Act.put _ (some 76) _) _
                          have O27 : Hid (y1.ownsRow w3.heap.size 9 1 v27 (0 + k + 1) ([] ++ (L.take k).map Value.string ++ [.string t])) := ho27
                          have hu27 : Up w3.heap.size w3 y1 := hHeld.grown hg27 (own_base O24.out)
                          clear ho27 hg27 O24 S26
                          refine hK.out _ _ (hu27 : Up w3.heap.size w3 _) (fun hHeld => ?_)
                          clear hK K
                          (try dsimp only at hHeld)
                          (try simp only [Act.put, List.setIfInBounds_toArray, List.set_cons_zero, List.set_cons_succ])
                          clear hu27
                          refine wpAnyH_ready (rs := [11]) (by kernel_rfl) (by simp) (AllReadyH.cons rfl (fun K hK => ?_) AllReadyH.nil)
                          rw [if_pos (by kernel_rfl)]
                          refine app_src_wp (.tmp 76) (.tmp 79) 22 rfl w3.heap.size 9 i9 _ 1 16 Tryd.underlying22 hi9 hz90 hz91 hz92 rfl (by decide) _ _ _ rfl O27.out _ _ _ rfl ((HSB _).out.stay hHeld.1) (str_one _) (by unfold maxLen; omega) (by omega) hHeld.2 ?_
                          intro v31 y2 ho31 hg31
                          change K (Act.put _ (some 80) _) _
                          have O31 : Hid (y2.ownsRow w3.heap.size 9 1 v31 (0 + k + 1 + (nL - k)) ([] ++ (L.take k).map Value.string ++ [.string t] ++ (L.drop k).map Value.string)) := ho31
                          have hu31 : Up w3.heap.size w3 y2 := hHeld.grown hg31 (own_base O27.out)
                          clear ho31 hg31 O27
                          refine hK.out _ _ (hu31 : Up w3.heap.size w3 _) (fun hHeld => ?_)
                          clear hK K
                          (try dsimp only at hHeld)
                          (try simp only [Act.put, List.setIfInBounds_toArray, List.set_cons_zero, List.set_cons_succ])
                          clear hu31
                          refine takeH (i := 12) (v := ?_) (d := (some 3)) rfl (by kernel_rfl) (by kernel_rfl) (by kernel_rfl) rfl (fun _ _ _ h => h) (Or.inl ⟨by kernel_rfl, ?_⟩) (by assumption) ?_; rotate_left
                          · (intro w hSw; (try dsimp only at hSw); first | (go_simp; done) | (go_simp; with_reducible rfl))
                          (try simp only [Act.put, List.setIfInBounds_toArray, List.set_cons_zero, List.set_cons_succ])
                          refine wpAnyH_done (by kernel_rfl) ?_ _
                          have HU9 : Hid (Up w3.heap.size w3 y2) := hHeld
                          clear hHeld
                          have HO4 : Hid (OS y2 w.heap.size v31 (srtG (Ls.take (i + 1)))) := by
                            show y2.ownsRow _ _ _ _ _ _
                            rw [HNX.out, HIN.out]
                            have hown3 := O31.out
                            have e : (List.take k L ++ t :: List.drop k L).length = 0 + k + 1 + (nL - k) := by first | (simp; done) | (simp; omega)
                            rw [e, List.map_append, List.map_cons]
                            have h2 := own_mono hown3 HU3.out.2
                            simpa using h2
                          have HU4 : Hid (Up w.heap.size w y2) := HU3.out.stay HU9.out.1
                          clear O31 HU9
                          go_wp2
                          all_goals
                            go_roundg (n - (i + 1))
                            case measure => omega
                            case rel => exact ⟨i + 1, by omega, by omega, rfl, by go_num, HO4, HU4⟩
                      · rw [if_pos (by kernel_rfl)]
                        go_simp
                        have S26 : Hid (Srcs (x0.alloc (.cells #[.string t] 9)) (.slice (some ⟨x0.heap.size, 0, none⟩) 1 1) 1 1 [.string t]) := srcs_new x0 #[.string t] 9 1 1 1 rfl
                        refine hK.out _ _ (hHeld.alloc _ : Up w3.heap.size w3 _) (fun hHeld => ?_)
                        clear hK K
                        (try dsimp only at hHeld)
                        (try simp only [Act.put, List.setIfInBounds_toArray, List.set_cons_zero, List.set_cons_succ])
                        obtain ⟨x1, hx1⟩ : ∃ x1, x0.alloc (.cells #[.string t] 9) = x1 := ⟨_, rfl⟩
                        rw [hx1] at hHeld S26 ⊢
                        refine wpAnyH_ready (rs := [0]) (by kernel_rfl) (by simp) (AllReadyH.cons rfl (fun K hK => ?_) AllReadyH.nil)
                        rw [if_pos (by kernel_rfl)]
                        go_simp
                        have O20 : Hid ((x1.alloc (.cells #[] 9)).ownsRow w3.heap.size 9 1 (.slice (some ⟨x1.heap.size, 0, none⟩) 0 0) 0 []) := World.ownsRow_lit x1 #[] 0 hHeld.2 (Nat.zero_le _) rfl
                        have S26' := S26.out.stay ((Below.refl _ _).alloc (Nat.le_refl _) (.cells #[] 9))
                        clear S26
                        have S26 : Hid (Srcs _ _ _ _ _) := S26'
                        clear S26'
                        have hne : x0.heap.size < x1.heap.size := by rw [← hx1]; simp
                        refine hK.out _ _ (hHeld.alloc _ : Up w3.heap.size w3 _) (fun hHeld => ?_)
                        clear hK K
                        (try dsimp only at hHeld)
                        (try simp only [Act.put, List.setIfInBounds_toArray, List.set_cons_zero, List.set_cons_succ])
                        obtain ⟨x2, hx2⟩ : ∃ x2, x1.alloc (.cells #[] 9) = x2 := ⟨_, rfl⟩
                        rw [hx2] at hHeld O20 S26 ⊢
                        refine wpAnyH_ready (rs := [4]) (by kernel_rfl) (by simp) (AllReadyH.cons rfl (fun K hK => ?_) AllReadyH.nil)
                        rw [if_pos (by kernel_rfl)]
                        refine app_src_wp (.tmp 69) (.tmp 72) 22 rfl w3.heap.size 9 i9 _ 1 16 Tryd.underlying22 hi9 hz90 hz91 hz92 rfl (by decide) _ _ _ rfl O20.out _ _ _ rfl ((HSA _).out.stay hHeld.1) (str_one _) (by unfold maxLen; omega) (by omega) hHeld.2 ?_
                        intro v24 x3 ho24 hg24
                        change K (Act.put _ (some 73) _) _
                        have O24 : Hid (x3.ownsRow w3.heap.size 9 1 v24 (0 + k) ([] ++ (L.take k).map Value.string)) := ho24
                        have S26' := S26.out.grown hg24 (fun e => by have e' : some x1.heap.size = some x0.heap.size := e; injection e' with e'; omega)
                        clear S26
                        have S26 : Hid (Srcs _ _ _ _ _) := S26'
                        clear S26'
                        have hu24 : Up w3.heap.size w3 x3 := hHeld.grown hg24 (own_base O20.out)
                        clear ho24 hg24 O20
                        refine hK.out _ _ (hu24 : Up w3.heap.size w3 _) (fun hHeld => ?_)
                        clear hK K
                        (try dsimp only at hHeld)
                        (try simp only [Act.put, List.setIfInBounds_toArray, List.set_cons_zero, List.set_cons_succ])
                        clear hu24
                        refine wpAnyH_ready (rs := [7]) (by kernel_rfl) (by simp) (AllReadyH.cons rfl (fun K hK => ?_) AllReadyH.nil)
                        rw [if_pos (by kernel_rfl)]
                        refine app_src_wp (.tmp 73) (.tmp 75) 22 rfl w3.heap.size 9 i9 _ 1 16 Tryd.underlying22 hi9 hz90 hz91 hz92 rfl (by decide) _ _ _ rfl O24.out _ _ _ rfl S26.out (one_one _ rfl) (by unfold maxLen; omega) (by omega) hHeld.2 ?_
                        intro v27 y1 ho27 hg27
                        change K (Act.put _ (some 76) _) _
                        have O27 : Hid (y1.ownsRow w3.heap.size 9 1 v27 (0 + k + 1) ([] ++ (L.take k).map Value.string ++ [.string t])) := ho27
                        have hu27 : Up w3.heap.size w3 y1 := hHeld.grown hg27 (own_base O24.out)
                        clear ho27 hg27 O24 S26
                        refine hK.out _ _ (hu27 : Up w3.heap.size w3 _) (fun hHeld => ?_)
                        clear hK K
                        (try dsimp only at hHeld)
                        (try simp only [Act.put, List.setIfInBounds_toArray, List.set_cons_zero, List.set_cons_succ])
                        clear hu27
                        refine wpAnyH_ready (rs := [11]) (by kernel_rfl) (by simp) (AllReadyH.cons rfl (fun K hK => ?_) AllReadyH.nil)
                        rw [if_pos (by kernel_rfl)]
                        refine app_src_wp (.tmp 76) (.tmp 79) 22 rfl w3.heap.size 9 i9 _ 1 16 Tryd.underlying22 hi9 hz90 hz91 hz92 rfl (by decide) _ _ _ rfl O27.out _ _ _ rfl ((HSB _).out.stay hHeld.1) (str_one _) (by unfold maxLen; omega) (by omega) hHeld.2 ?_
                        intro v31 y2 ho31 hg31
                        change K (Act.put _ (some 80) _) _
                        have O31 : Hid (y2.ownsRow w3.heap.size 9 1 v31 (0 + k + 1 + (nL - k)) ([] ++ (L.take k).map Value.string ++ [.string t] ++ (L.drop k).map Value.string)) := ho31
                        have hu31 : Up w3.heap.size w3 y2 := hHeld.grown hg31 (own_base O27.out)
                        clear ho31 hg31 O27
                        refine hK.out _ _ (hu31 : Up w3.heap.size w3 _) (fun hHeld => ?_)
                        clear hK K
                        (try dsimp only at hHeld)
                        (try simp only [Act.put, List.setIfInBounds_toArray, List.set_cons_zero, List.set_cons_succ])
                        clear hu31
                        refine takeH (i := 12) (v := ?_) (d := (some 3)) rfl (by kernel_rfl) (by kernel_rfl) (by kernel_rfl) rfl (fun _ _ _ h => h) (Or.inl ⟨by kernel_rfl, ?_⟩) (by assumption) ?_; rotate_left
                        · (intro w hSw; (try dsimp only at hSw); first | (go_simp; done) | (go_simp; with_reducible rfl))
                        (try simp only [Act.put, List.setIfInBounds_toArray, List.set_cons_zero, List.set_cons_succ])
                        refine wpAnyH_done (by kernel_rfl) ?_ _
                        have HU9 : Hid (Up w3.heap.size w3 y2) := hHeld
                        clear hHeld
                        have HO4 : Hid (OS y2 w.heap.size v31 (srtG (Ls.take (i + 1)))) := by
                          show y2.ownsRow _ _ _ _ _ _
                          rw [HNX.out, HIN.out]
                          have hown3 := O31.out
                          have e : (List.take k L ++ t :: List.drop k L).length = 0 + k + 1 + (nL - k) := by first | (simp; done) | (simp; omega)
                          rw [e, List.map_append, List.map_cons]
                          have h2 := own_mono hown3 HU3.out.2
                          simpa using h2
                        have HU4 : Hid (Up w.heap.size w y2) := HU3.out.stay HU9.out.1
                        clear O31 HU9
                        go_wp2
                        all_goals
                          go_roundg (n - (i + 1))
                          case measure => omega
                          case rel => exact ⟨i + 1, by omega, by omega, rfl, by go_num, HO4, HU4⟩
                · obtain rfl : k = nL := by omega
                  have x1 : ¬ (k : Int) < (k : Int) := by omega
                  have x2 : (k : Int) ≤ (k : Int) := by omega
                  have x3 : (k : Int) ≤ (co : Int) := by omega
                  have HPS : Hid (putK id L t = L.take k ++ t :: L.drop k) := put_split L t k HJ.out (by omega) hno
                  have HNI : Hid (t ∉ L) := not_in HRI.out HJ.out (fun hk => absurd hk (by omega))
                  by_cases ht0 : t.size = 0
                  · have he : t.toList.isEmpty = true := by rw [EMP]; simpa using ht0
                    have HIN : Hid (insP L t = L) := by show _ = _; unfold insP; rw [if_pos (Or.inl ht0)]
                    clear EMP hno
                    go_wp2
                    go_roundg (n - (i + 1))
                    case measure => omega
                    case rel =>
                      refine ⟨i + 1, by omega, by omega, rfl, by go_num, ?_, HU3.out⟩
                      show OS _ _ _ _
                      rw [HNX.out, HIN.out]
                      have := HO3.out
                      exact this
                  · have he : t.toList.isEmpty = false := by rw [EMP]; simpa using ht0
                    have HIN : Hid (insP L t = L.take k ++ t :: L.drop k) := by show _ = _; unfold insP; rw [if_neg (by simp only [not_or]; exact ⟨ht0, HNI.out⟩)]; exact HPS.out
                    cases ado with
                    | none =>
                      obtain ⟨rfl, rfl⟩ := HNO.out rfl
                      obtain rfl : k = 0 := by simpa using hlen.symm
                      have HSA : ∀ c, Hid (Srcs w3 (.slice none 0 c) 0 1 (([] : List ByteArray).map Value.string)) := fun c => ⟨rfl, Or.inl ⟨_, c, rfl, rfl⟩⟩
                      clear EMP hno
                      go_upto_region 18 with fail
                      refine wp_region_held_drew (S := fun w' => Up w3.heap.size w3 w') (by kernel_rfl) (Up.drew (Up.refl w3)) (fun hHeld => ?_)
                      (try dsimp only at hHeld)
                      obtain ⟨x0, hx0⟩ : ∃ x0, w3.drew = x0 := ⟨_, rfl⟩
                      rw [hx0] at hHeld ⊢
                      clear hx0
                      refine takeH (i := 1) (v := ?_) (d := (some 70)) rfl (by kernel_rfl) (by kernel_rfl) (by kernel_rfl) rfl (fun _ _ _ h => h) (Or.inl ⟨by kernel_rfl, ?_⟩) (by assumption) ?_; rotate_left
                      · (intro w hSw; (try dsimp only at hSw); first | (go_simp; done) | (go_simp; with_reducible rfl))
                      (try simp only [Act.put, List.setIfInBounds_toArray, List.set_cons_zero, List.set_cons_succ])
                      refine takeH (i := 2) (v := ?_) (d := (some 71)) rfl (by kernel_rfl) (by kernel_rfl) (by kernel_rfl) rfl (fun _ _ _ h => h) (Or.inl ⟨by kernel_rfl, ?_⟩) (by assumption) ?_; rotate_left
                      · (intro w hSw; (try dsimp only at hSw); first | (go_simp; done) | (go_simp; with_reducible rfl))
                      (try simp only [Act.put, List.setIfInBounds_toArray, List.set_cons_zero, List.set_cons_succ])
                      refine takeH (i := 3) (v := ?_) (d := (some 72)) rfl (by kernel_rfl) (by kernel_rfl) (by kernel_rfl) rfl (fun _ _ _ h => h) (Or.inl ⟨by kernel_rfl, ?_⟩) (by assumption) ?_; rotate_left
                      · (intro w hSw; (try dsimp only at hSw); first | (go_simp; done) | (go_simp; with_reducible rfl))
                      (try simp only [Act.put, List.setIfInBounds_toArray, List.set_cons_zero, List.set_cons_succ])
                      refine takeH (i := 5) (v := ?_) (d := (some 74)) rfl (by kernel_rfl) (by kernel_rfl) (by kernel_rfl) rfl (fun _ _ _ h => h) (Or.inl ⟨by kernel_rfl, ?_⟩) (by assumption) ?_; rotate_left
                      · (intro w hSw; (try dsimp only at hSw); first | (go_simp; done) | (go_simp; with_reducible rfl))
                      (try simp only [Act.put, List.setIfInBounds_toArray, List.set_cons_zero, List.set_cons_succ])
                      refine takeH (i := 8) (v := ?_) (d := (some 77)) rfl (by kernel_rfl) (by kernel_rfl) (by kernel_rfl) rfl (fun _ _ _ h => h) (Or.inl ⟨by kernel_rfl, ?_⟩) (by assumption) ?_; rotate_left
                      · (intro w hSw; (try dsimp only at hSw); first | (go_simp; done) | (go_simp; with_reducible rfl))
                      (try simp only [Act.put, List.setIfInBounds_toArray, List.set_cons_zero, List.set_cons_succ])
                      refine takeH (i := 9) (v := ?_) (d := (some 78)) rfl (by kernel_rfl) (by kernel_rfl) (by kernel_rfl) rfl (fun _ _ _ h => h) (Or.inl ⟨by kernel_rfl, ?_⟩) (by assumption) ?_; rotate_left
                      · (intro w hSw; (try dsimp only at hSw); first | (go_simp; done) | (go_simp; with_reducible rfl))
                      (try simp only [Act.put, List.setIfInBounds_toArray, List.set_cons_zero, List.set_cons_succ])
                      refine takeH (i := 10) (v := ?_) (d := (some 79)) rfl (by kernel_rfl) (by kernel_rfl) (by kernel_rfl) rfl (fun _ _ _ h => h) (Or.inl ⟨by kernel_rfl, ?_⟩) (by assumption) ?_; rotate_left
                      · (intro w hSw; (try dsimp only at hSw); first | (go_simp; done) | (go_simp; with_reducible rfl))
                      (try simp only [Act.put, List.setIfInBounds_toArray, List.set_cons_zero, List.set_cons_succ])
                      refine wpAnyH_ready (rs := [0, 6]) (by kernel_rfl) (by simp) (AllReadyH.cons rfl (fun K hK => ?_) (AllReadyH.cons rfl (fun K hK => ?_) AllReadyH.nil))
                      · rw [if_pos (by kernel_rfl)]
                        go_simp
                        have O20 : Hid ((x0.alloc (.cells #[] 9)).ownsRow w3.heap.size 9 1 (.slice (some ⟨x0.heap.size, 0, none⟩) 0 0) 0 []) := World.ownsRow_lit x0 #[] 0 hHeld.2 (Nat.zero_le _) rfl
                        refine hK.out _ _ (hHeld.alloc _ : Up w3.heap.size w3 _) (fun hHeld => ?_)
                        clear hK K
                        (try dsimp only at hHeld)
                        (try simp only [Act.put, List.setIfInBounds_toArray, List.set_cons_zero, List.set_cons_succ])
                        obtain ⟨x1, hx1⟩ : ∃ x1, x0.alloc (.cells #[] 9) = x1 := ⟨_, rfl⟩
                        rw [hx1] at hHeld O20 ⊢
                        refine wpAnyH_ready (rs := [4, 6]) (by kernel_rfl) (by simp) (AllReadyH.cons rfl (fun K hK => ?_) (AllReadyH.cons rfl (fun K hK => ?_) AllReadyH.nil))
                        · rw [if_pos (by kernel_rfl)]
                          refine app_src_wp (.tmp 69) (.tmp 72) 22 rfl w3.heap.size 9 i9 _ 1 16 Tryd.underlying22 hi9 hz90 hz91 hz92 rfl (by decide) _ _ _ rfl O20.out _ _ _ rfl ((HSA _).out.stay hHeld.1) (str_one _) (by unfold maxLen; omega) (by omega) hHeld.2 ?_
                          intro v24 x2 ho24 hg24
                          change K (Act.put _ (some 73) _) _
                          have O24 : Hid (x2.ownsRow w3.heap.size 9 1 v24 (0 + 0) ([] ++ ([] : List ByteArray).map Value.string)) := ho24
                          have hu24 : Up w3.heap.size w3 x2 := hHeld.grown hg24 (own_base O20.out)
                          clear ho24 hg24 O20
                          refine hK.out _ _ (hu24 : Up w3.heap.size w3 _) (fun hHeld => ?_)
                          clear hK K
                          (try dsimp only at hHeld)
                          (try simp only [Act.put, List.setIfInBounds_toArray, List.set_cons_zero, List.set_cons_succ])
                          clear hu24
                          refine wpAnyH_ready (rs := [6]) (by kernel_rfl) (by simp) (AllReadyH.cons rfl (fun K hK => ?_) AllReadyH.nil)
                          rw [if_pos (by kernel_rfl)]
                          go_simp
                          have S26 : Hid (Srcs (x2.alloc (.cells #[.string t] 9)) (.slice (some ⟨x2.heap.size, 0, none⟩) 1 1) 1 1 [.string t]) := srcs_new x2 #[.string t] 9 1 1 1 rfl
                          have O24' := O24.out.alloc (.cells #[.string t] 9)
                          clear O24
                          have O24 : Hid (World.ownsRow _ _ _ _ _ _ _) := O24'
                          clear O24'
                          refine hK.out _ _ (hHeld.alloc _ : Up w3.heap.size w3 _) (fun hHeld => ?_)
                          clear hK K
                          (try dsimp only at hHeld)
                          (try simp only [Act.put, List.setIfInBounds_toArray, List.set_cons_zero, List.set_cons_succ])
                          obtain ⟨x3, hx3⟩ : ∃ x3, x2.alloc (.cells #[.string t] 9) = x3 := ⟨_, rfl⟩
                          rw [hx3] at hHeld O24 S26 ⊢
                          refine wpAnyH_ready (rs := [7]) (by kernel_rfl) (by simp) (AllReadyH.cons rfl (fun K hK => ?_) AllReadyH.nil)
                          rw [if_pos (by kernel_rfl)]
                          refine app_src_wp (.tmp 73) (.tmp 75) 22 rfl w3.heap.size 9 i9 _ 1 16 Tryd.underlying22 hi9 hz90 hz91 hz92 rfl (by decide) _ _ _ rfl O24.out _ _ _ rfl S26.out (one_one _ rfl) (by unfold maxLen; omega) (by omega) hHeld.2 ?_
                          intro v27 y1 ho27 hg27
                          change K (Act.put _ (some 76) _) _
                          have O27 : Hid (y1.ownsRow w3.heap.size 9 1 v27 (0 + 0 + 1) ([] ++ ([] : List ByteArray).map Value.string ++ [.string t])) := ho27
                          have hu27 : Up w3.heap.size w3 y1 := hHeld.grown hg27 (own_base O24.out)
                          clear ho27 hg27 O24 S26
                          refine hK.out _ _ (hu27 : Up w3.heap.size w3 _) (fun hHeld => ?_)
                          clear hK K
                          (try dsimp only at hHeld)
                          (try simp only [Act.put, List.setIfInBounds_toArray, List.set_cons_zero, List.set_cons_succ])
                          clear hu27
                          refine wpAnyH_ready (rs := [11]) (by kernel_rfl) (by simp) (AllReadyH.cons rfl (fun K hK => ?_) AllReadyH.nil)
                          rw [if_pos (by kernel_rfl)]
                          refine app_src_wp (.tmp 76) (.tmp 79) 22 rfl w3.heap.size 9 i9 _ 1 16 Tryd.underlying22 hi9 hz90 hz91 hz92 rfl (by decide) _ _ _ rfl O27.out _ _ _ rfl ((HSA _).out.stay hHeld.1) (str_one _) (by unfold maxLen; omega) (by omega) hHeld.2 ?_
                          intro v31 y2 ho31 hg31
                          change K (Act.put _ (some 80) _) _
                          have O31 : Hid (y2.ownsRow w3.heap.size 9 1 v31 (0 + 0 + 1 + (0 - 0)) ([] ++ ([] : List ByteArray).map Value.string ++ [.string t] ++ ([] : List ByteArray).map Value.string)) := ho31
                          have hu31 : Up w3.heap.size w3 y2 := hHeld.grown hg31 (own_base O27.out)
                          clear ho31 hg31 O27
                          refine hK.out _ _ (hu31 : Up w3.heap.size w3 _) (fun hHeld => ?_)
                          clear hK K
                          (try dsimp only at hHeld)
                          (try simp only [Act.put, List.setIfInBounds_toArray, List.set_cons_zero, List.set_cons_succ])
                          clear hu31
                          refine takeH (i := 12) (v := ?_) (d := (some 3)) rfl (by kernel_rfl) (by kernel_rfl) (by kernel_rfl) rfl (fun _ _ _ h => h) (Or.inl ⟨by kernel_rfl, ?_⟩) (by assumption) ?_; rotate_left
                          · (intro w hSw; (try dsimp only at hSw); first | (go_simp; done) | (go_simp; with_reducible rfl))
                          (try simp only [Act.put, List.setIfInBounds_toArray, List.set_cons_zero, List.set_cons_succ])
                          refine wpAnyH_done (by kernel_rfl) ?_ _
                          have HU9 : Hid (Up w3.heap.size w3 y2) := hHeld
                          clear hHeld
                          have HO4 : Hid (OS y2 w.heap.size v31 (srtG (Ls.take (i + 1)))) := by
                            show y2.ownsRow _ _ _ _ _ _
                            rw [HNX.out, HIN.out]
                            have hown3 := O31.out
                            have e : (List.take 0 ([] : List ByteArray) ++ t :: List.drop 0 ([] : List ByteArray)).length = 0 + 0 + 1 + (0 - 0) := by first | (simp; done) | (simp; omega)
                            rw [e, List.map_append, List.map_cons]
                            have h2 := own_mono hown3 HU3.out.2
                            simpa using h2
                          have HU4 : Hid (Up w.heap.size w y2) := HU3.out.stay HU9.out.1
                          clear O31 HU9
                          go_wp2
                          all_goals
                            go_roundg (n - (i + 1))
                            case measure => omega
                            case rel => exact ⟨i + 1, by omega, by omega, rfl, by go_num, HO4, HU4⟩
                        · rw [if_pos (by kernel_rfl)]
                          go_simp
                          have S26 : Hid (Srcs (x1.alloc (.cells #[.string t] 9)) (.slice (some ⟨x1.heap.size, 0, none⟩) 1 1) 1 1 [.string t]) := srcs_new x1 #[.string t] 9 1 1 1 rfl
                          have O20' := O20.out.alloc (.cells #[.string t] 9)
                          clear O20
                          have O20 : Hid (World.ownsRow _ _ _ _ _ _ _) := O20'
                          clear O20'
                          have hne : x0.heap.size < x1.heap.size := by rw [← hx1]; simp
                          refine hK.out _ _ (hHeld.alloc _ : Up w3.heap.size w3 _) (fun hHeld => ?_)
                          clear hK K
                          (try dsimp only at hHeld)
                          (try simp only [Act.put, List.setIfInBounds_toArray, List.set_cons_zero, List.set_cons_succ])
                          obtain ⟨x2, hx2⟩ : ∃ x2, x1.alloc (.cells #[.string t] 9) = x2 := ⟨_, rfl⟩
                          rw [hx2] at hHeld O20 S26 ⊢
                          refine wpAnyH_ready (rs := [4]) (by kernel_rfl) (by simp) (AllReadyH.cons rfl (fun K hK => ?_) AllReadyH.nil)
                          rw [if_pos (by kernel_rfl)]
                          refine app_src_wp (.tmp 69) (.tmp 72) 22 rfl w3.heap.size 9 i9 _ 1 16 Tryd.underlying22 hi9 hz90 hz91 hz92 rfl (by decide) _ _ _ rfl O20.out _ _ _ rfl ((HSA _).out.stay hHeld.1) (str_one _) (by unfold maxLen; omega) (by omega) hHeld.2 ?_
                          intro v24 x3 ho24 hg24
                          change K (Act.put _ (some 73) _) _
                          have O24 : Hid (x3.ownsRow w3.heap.size 9 1 v24 (0 + 0) ([] ++ ([] : List ByteArray).map Value.string)) := ho24
                          have S26' := S26.out.grown hg24 (fun e => by have e' : some x0.heap.size = some x1.heap.size := e; injection e' with e'; omega)
                          clear S26
                          have S26 : Hid (Srcs _ _ _ _ _) := S26'
                          clear S26'
                          have hu24 : Up w3.heap.size w3 x3 := hHeld.grown hg24 (own_base O20.out)
                          clear ho24 hg24 O20
                          refine hK.out _ _ (hu24 : Up w3.heap.size w3 _) (fun hHeld => ?_)
                          clear hK K
                          (try dsimp only at hHeld)
                          (try simp only [Act.put, List.setIfInBounds_toArray, List.set_cons_zero, List.set_cons_succ])
                          clear hu24
                          refine wpAnyH_ready (rs := [7]) (by kernel_rfl) (by simp) (AllReadyH.cons rfl (fun K hK => ?_) AllReadyH.nil)
                          rw [if_pos (by kernel_rfl)]
                          refine app_src_wp (.tmp 73) (.tmp 75) 22 rfl w3.heap.size 9 i9 _ 1 16 Tryd.underlying22 hi9 hz90 hz91 hz92 rfl (by decide) _ _ _ rfl O24.out _ _ _ rfl S26.out (one_one _ rfl) (by unfold maxLen; omega) (by omega) hHeld.2 ?_
                          intro v27 y1 ho27 hg27
                          change K (Act.put _ (some 76) _) _
                          have O27 : Hid (y1.ownsRow w3.heap.size 9 1 v27 (0 + 0 + 1) ([] ++ ([] : List ByteArray).map Value.string ++ [.string t])) := ho27
                          have hu27 : Up w3.heap.size w3 y1 := hHeld.grown hg27 (own_base O24.out)
                          clear ho27 hg27 O24 S26
                          refine hK.out _ _ (hu27 : Up w3.heap.size w3 _) (fun hHeld => ?_)
                          clear hK K
                          (try dsimp only at hHeld)
                          (try simp only [Act.put, List.setIfInBounds_toArray, List.set_cons_zero, List.set_cons_succ])
                          clear hu27
                          refine wpAnyH_ready (rs := [11]) (by kernel_rfl) (by simp) (AllReadyH.cons rfl (fun K hK => ?_) AllReadyH.nil)
                          rw [if_pos (by kernel_rfl)]
                          refine app_src_wp (.tmp 76) (.tmp 79) 22 rfl w3.heap.size 9 i9 _ 1 16 Tryd.underlying22 hi9 hz90 hz91 hz92 rfl (by decide) _ _ _ rfl O27.out _ _ _ rfl ((HSA _).out.stay hHeld.1) (str_one _) (by unfold maxLen; omega) (by omega) hHeld.2 ?_
                          intro v31 y2 ho31 hg31
                          change K (Act.put _ (some 80) _) _
                          have O31 : Hid (y2.ownsRow w3.heap.size 9 1 v31 (0 + 0 + 1 + (0 - 0)) ([] ++ ([] : List ByteArray).map Value.string ++ [.string t] ++ ([] : List ByteArray).map Value.string)) := ho31
                          have hu31 : Up w3.heap.size w3 y2 := hHeld.grown hg31 (own_base O27.out)
                          clear ho31 hg31 O27
                          refine hK.out _ _ (hu31 : Up w3.heap.size w3 _) (fun hHeld => ?_)
                          clear hK K
                          (try dsimp only at hHeld)
                          (try simp only [Act.put, List.setIfInBounds_toArray, List.set_cons_zero, List.set_cons_succ])
                          clear hu31
                          refine takeH (i := 12) (v := ?_) (d := (some 3)) rfl (by kernel_rfl) (by kernel_rfl) (by kernel_rfl) rfl (fun _ _ _ h => h) (Or.inl ⟨by kernel_rfl, ?_⟩) (by assumption) ?_; rotate_left
                          · (intro w hSw; (try dsimp only at hSw); first | (go_simp; done) | (go_simp; with_reducible rfl))
                          (try simp only [Act.put, List.setIfInBounds_toArray, List.set_cons_zero, List.set_cons_succ])
                          refine wpAnyH_done (by kernel_rfl) ?_ _
                          have HU9 : Hid (Up w3.heap.size w3 y2) := hHeld
                          clear hHeld
                          have HO4 : Hid (OS y2 w.heap.size v31 (srtG (Ls.take (i + 1)))) := by
                            show y2.ownsRow _ _ _ _ _ _
                            rw [HNX.out, HIN.out]
                            have hown3 := O31.out
                            have e : (List.take 0 ([] : List ByteArray) ++ t :: List.drop 0 ([] : List ByteArray)).length = 0 + 0 + 1 + (0 - 0) := by first | (simp; done) | (simp; omega)
                            rw [e, List.map_append, List.map_cons]
                            have h2 := own_mono hown3 HU3.out.2
                            simpa using h2
                          have HU4 : Hid (Up w.heap.size w y2) := HU3.out.stay HU9.out.1
                          clear O31 HU9
                          go_wp2
                          all_goals
                            go_roundg (n - (i + 1))
                            case measure => omega
                            case rel => exact ⟨i + 1, by omega, by omega, rfl, by go_num, HO4, HU4⟩
                      · rw [if_pos (by kernel_rfl)]
                        go_simp
                        have S26 : Hid (Srcs (x0.alloc (.cells #[.string t] 9)) (.slice (some ⟨x0.heap.size, 0, none⟩) 1 1) 1 1 [.string t]) := srcs_new x0 #[.string t] 9 1 1 1 rfl
                        refine hK.out _ _ (hHeld.alloc _ : Up w3.heap.size w3 _) (fun hHeld => ?_)
                        clear hK K
                        (try dsimp only at hHeld)
                        (try simp only [Act.put, List.setIfInBounds_toArray, List.set_cons_zero, List.set_cons_succ])
                        obtain ⟨x1, hx1⟩ : ∃ x1, x0.alloc (.cells #[.string t] 9) = x1 := ⟨_, rfl⟩
                        rw [hx1] at hHeld S26 ⊢
                        refine wpAnyH_ready (rs := [0]) (by kernel_rfl) (by simp) (AllReadyH.cons rfl (fun K hK => ?_) AllReadyH.nil)
                        rw [if_pos (by kernel_rfl)]
                        go_simp
                        have O20 : Hid ((x1.alloc (.cells #[] 9)).ownsRow w3.heap.size 9 1 (.slice (some ⟨x1.heap.size, 0, none⟩) 0 0) 0 []) := World.ownsRow_lit x1 #[] 0 hHeld.2 (Nat.zero_le _) rfl
                        have S26' := S26.out.stay ((Below.refl _ _).alloc (Nat.le_refl _) (.cells #[] 9))
                        clear S26
                        have S26 : Hid (Srcs _ _ _ _ _) := S26'
                        clear S26'
                        have hne : x0.heap.size < x1.heap.size := by rw [← hx1]; simp
                        refine hK.out _ _ (hHeld.alloc _ : Up w3.heap.size w3 _) (fun hHeld => ?_)
                        clear hK K
                        (try dsimp only at hHeld)
                        (try simp only [Act.put, List.setIfInBounds_toArray, List.set_cons_zero, List.set_cons_succ])
                        obtain ⟨x2, hx2⟩ : ∃ x2, x1.alloc (.cells #[] 9) = x2 := ⟨_, rfl⟩
                        rw [hx2] at hHeld O20 S26 ⊢
                        refine wpAnyH_ready (rs := [4]) (by kernel_rfl) (by simp) (AllReadyH.cons rfl (fun K hK => ?_) AllReadyH.nil)
                        rw [if_pos (by kernel_rfl)]
                        refine app_src_wp (.tmp 69) (.tmp 72) 22 rfl w3.heap.size 9 i9 _ 1 16 Tryd.underlying22 hi9 hz90 hz91 hz92 rfl (by decide) _ _ _ rfl O20.out _ _ _ rfl ((HSA _).out.stay hHeld.1) (str_one _) (by unfold maxLen; omega) (by omega) hHeld.2 ?_
                        intro v24 x3 ho24 hg24
                        change K (Act.put _ (some 73) _) _
                        have O24 : Hid (x3.ownsRow w3.heap.size 9 1 v24 (0 + 0) ([] ++ ([] : List ByteArray).map Value.string)) := ho24
                        have S26' := S26.out.grown hg24 (fun e => by have e' : some x1.heap.size = some x0.heap.size := e; injection e' with e'; omega)
                        clear S26
                        have S26 : Hid (Srcs _ _ _ _ _) := S26'
                        clear S26'
                        have hu24 : Up w3.heap.size w3 x3 := hHeld.grown hg24 (own_base O20.out)
                        clear ho24 hg24 O20
                        refine hK.out _ _ (hu24 : Up w3.heap.size w3 _) (fun hHeld => ?_)
                        clear hK K
                        (try dsimp only at hHeld)
                        (try simp only [Act.put, List.setIfInBounds_toArray, List.set_cons_zero, List.set_cons_succ])
                        clear hu24
                        refine wpAnyH_ready (rs := [7]) (by kernel_rfl) (by simp) (AllReadyH.cons rfl (fun K hK => ?_) AllReadyH.nil)
                        rw [if_pos (by kernel_rfl)]
                        refine app_src_wp (.tmp 73) (.tmp 75) 22 rfl w3.heap.size 9 i9 _ 1 16 Tryd.underlying22 hi9 hz90 hz91 hz92 rfl (by decide) _ _ _ rfl O24.out _ _ _ rfl S26.out (one_one _ rfl) (by unfold maxLen; omega) (by omega) hHeld.2 ?_
                        intro v27 y1 ho27 hg27
                        change K (Act.put _ (some 76) _) _
                        have O27 : Hid (y1.ownsRow w3.heap.size 9 1 v27 (0 + 0 + 1) ([] ++ ([] : List ByteArray).map Value.string ++ [.string t])) := ho27
                        have hu27 : Up w3.heap.size w3 y1 := hHeld.grown hg27 (own_base O24.out)
                        clear ho27 hg27 O24 S26
                        refine hK.out _ _ (hu27 : Up w3.heap.size w3 _) (fun hHeld => ?_)
                        clear hK K
                        (try dsimp only at hHeld)
                        (try simp only [Act.put, List.setIfInBounds_toArray, List.set_cons_zero, List.set_cons_succ])
                        clear hu27
                        refine wpAnyH_ready (rs := [11]) (by kernel_rfl) (by simp) (AllReadyH.cons rfl (fun K hK => ?_) AllReadyH.nil)
                        rw [if_pos (by kernel_rfl)]
                        refine app_src_wp (.tmp 76) (.tmp 79) 22 rfl w3.heap.size 9 i9 _ 1 16 Tryd.underlying22 hi9 hz90 hz91 hz92 rfl (by decide) _ _ _ rfl O27.out _ _ _ rfl ((HSA _).out.stay hHeld.1) (str_one _) (by unfold maxLen; omega) (by omega) hHeld.2 ?_
                        intro v31 y2 ho31 hg31
                        change K (Act.put _ (some 80) _) _
                        have O31 : Hid (y2.ownsRow w3.heap.size 9 1 v31 (0 + 0 + 1 + (0 - 0)) ([] ++ ([] : List ByteArray).map Value.string ++ [.string t] ++ ([] : List ByteArray).map Value.string)) := ho31
                        have hu31 : Up w3.heap.size w3 y2 := hHeld.grown hg31 (own_base O27.out)
                        clear ho31 hg31 O27
                        refine hK.out _ _ (hu31 : Up w3.heap.size w3 _) (fun hHeld => ?_)
                        clear hK K
                        (try dsimp only at hHeld)
                        (try simp only [Act.put, List.setIfInBounds_toArray, List.set_cons_zero, List.set_cons_succ])
                        clear hu31
                        refine takeH (i := 12) (v := ?_) (d := (some 3)) rfl (by kernel_rfl) (by kernel_rfl) (by kernel_rfl) rfl (fun _ _ _ h => h) (Or.inl ⟨by kernel_rfl, ?_⟩) (by assumption) ?_; rotate_left
                        · (intro w hSw; (try dsimp only at hSw); first | (go_simp; done) | (go_simp; with_reducible rfl))
                        (try simp only [Act.put, List.setIfInBounds_toArray, List.set_cons_zero, List.set_cons_succ])
                        refine wpAnyH_done (by kernel_rfl) ?_ _
                        have HU9 : Hid (Up w3.heap.size w3 y2) := hHeld
                        clear hHeld
                        have HO4 : Hid (OS y2 w.heap.size v31 (srtG (Ls.take (i + 1)))) := by
                          show y2.ownsRow _ _ _ _ _ _
                          rw [HNX.out, HIN.out]
                          have hown3 := O31.out
                          have e : (List.take 0 ([] : List ByteArray) ++ t :: List.drop 0 ([] : List ByteArray)).length = 0 + 0 + 1 + (0 - 0) := by first | (simp; done) | (simp; omega)
                          rw [e, List.map_append, List.map_cons]
                          have h2 := own_mono hown3 HU3.out.2
                          simpa using h2
                        have HU4 : Hid (Up w.heap.size w y2) := HU3.out.stay HU9.out.1
                        clear O31 HU9
                        go_wp2
                        all_goals
                          go_roundg (n - (i + 1))
                          case measure => omega
                          case rel => exact ⟨i + 1, by omega, by omega, rfl, by go_num, HO4, HU4⟩
                    | some a =>
                      obtain ⟨g, rfl, hgb, hgw, hcs⟩ := HSO.out a rfl
                      have HSA : ∀ c, Hid (Srcs w3 (.slice (some ⟨g, 0, none⟩) k c) k 1 ((L.take k).map Value.string)) := fun c => srcs_part hcs (by simp; omega) (fun j x hx => by
                        rw [Nat.zero_add]
                        rw [List.getElem?_take] at hx
                        split at hx
                        · exact hx
                        · cases hx)
                      have HSB : ∀ c, Hid (Srcs w3 (.slice (if co = k then some ⟨g, 0, none⟩ else some ⟨g, k, none⟩) 0 c) 0 1 ((L.drop k).map Value.string)) := fun c => by
                        show Srcs _ _ _ _ _
                        split
                        · exact ⟨by simp; omega, Or.inl ⟨_, c, by rw [show (0 : Nat) = 0 from rfl], by omega⟩⟩
                        · exact srcs_part hcs (by simp; omega) (fun j x hx => by rw [List.getElem?_drop] at hx; exact hx)
                      clear EMP hno hcs
                      go_upto_region 18 with fail
                      refine wp_region_held_drew (S := fun w' => Up w3.heap.size w3 w') (by kernel_rfl) (Up.drew (Up.refl w3)) (fun hHeld => ?_)
                      (try dsimp only at hHeld)
                      obtain ⟨x0, hx0⟩ : ∃ x0, w3.drew = x0 := ⟨_, rfl⟩
                      rw [hx0] at hHeld ⊢
                      clear hx0
                      refine takeH (i := 1) (v := ?_) (d := (some 70)) rfl (by kernel_rfl) (by kernel_rfl) (by kernel_rfl) rfl (fun _ _ _ h => h) (Or.inl ⟨by kernel_rfl, ?_⟩) (by assumption) ?_; rotate_left
                      · (intro w hSw; (try dsimp only at hSw); first | (go_simp; done) | (go_simp; with_reducible rfl))
                      (try simp only [Act.put, List.setIfInBounds_toArray, List.set_cons_zero, List.set_cons_succ])
                      refine takeH (i := 2) (v := ?_) (d := (some 71)) rfl (by kernel_rfl) (by kernel_rfl) (by kernel_rfl) rfl (fun _ _ _ h => h) (Or.inl ⟨by kernel_rfl, ?_⟩) (by assumption) ?_; rotate_left
                      · (intro w hSw; (try dsimp only at hSw); first | (go_simp; done) | (go_simp; with_reducible rfl))
                      (try simp only [Act.put, List.setIfInBounds_toArray, List.set_cons_zero, List.set_cons_succ])
                      refine takeH (i := 3) (v := ?_) (d := (some 72)) rfl (by kernel_rfl) (by kernel_rfl) (by kernel_rfl) rfl (fun _ _ _ h => h) (Or.inl ⟨by kernel_rfl, ?_⟩) (by assumption) ?_; rotate_left
                      · (intro w hSw; (try dsimp only at hSw); first | (go_simp; done) | (go_simp; with_reducible rfl))
                      (try simp only [Act.put, List.setIfInBounds_toArray, List.set_cons_zero, List.set_cons_succ])
                      refine takeH (i := 5) (v := ?_) (d := (some 74)) rfl (by kernel_rfl) (by kernel_rfl) (by kernel_rfl) rfl (fun _ _ _ h => h) (Or.inl ⟨by kernel_rfl, ?_⟩) (by assumption) ?_; rotate_left
                      · (intro w hSw; (try dsimp only at hSw); first | (go_simp; done) | (go_simp; with_reducible rfl))
                      (try simp only [Act.put, List.setIfInBounds_toArray, List.set_cons_zero, List.set_cons_succ])
                      refine takeH (i := 8) (v := ?_) (d := (some 77)) rfl (by kernel_rfl) (by kernel_rfl) (by kernel_rfl) rfl (fun _ _ _ h => h) (Or.inl ⟨by kernel_rfl, ?_⟩) (by assumption) ?_; rotate_left
                      · (intro w hSw; (try dsimp only at hSw); first | (go_simp; done) | (go_simp; with_reducible rfl))
                      (try simp only [Act.put, List.setIfInBounds_toArray, List.set_cons_zero, List.set_cons_succ])
                      refine takeH (i := 9) (v := ?_) (d := (some 78)) rfl (by kernel_rfl) (by kernel_rfl) (by kernel_rfl) rfl (fun _ _ _ h => h) (Or.inl ⟨by kernel_rfl, ?_⟩) (by assumption) ?_; rotate_left
                      · (intro w hSw; (try dsimp only at hSw); first | (go_simp; done) | (go_simp; with_reducible rfl))
                      (try simp only [Act.put, List.setIfInBounds_toArray, List.set_cons_zero, List.set_cons_succ])
                      refine takeH (i := 10) (v := ?_) (d := (some 79)) rfl (by kernel_rfl) (by kernel_rfl) (by kernel_rfl) rfl (fun _ _ _ h => h) (Or.inl ⟨by kernel_rfl, ?_⟩) (by assumption) ?_; rotate_left
                      · (intro w hSw; (try dsimp only at hSw); first | (go_simp; done) | (go_simp; with_reducible rfl))
                      (try simp only [Act.put, List.setIfInBounds_toArray, List.set_cons_zero, List.set_cons_succ])
                      refine wpAnyH_ready (rs := [0, 6]) (by kernel_rfl) (by simp) (AllReadyH.cons rfl (fun K hK => ?_) (AllReadyH.cons rfl (fun K hK => ?_) AllReadyH.nil))
                      · rw [if_pos (by kernel_rfl)]
                        go_simp
                        have O20 : Hid ((x0.alloc (.cells #[] 9)).ownsRow w3.heap.size 9 1 (.slice (some ⟨x0.heap.size, 0, none⟩) 0 0) 0 []) := World.ownsRow_lit x0 #[] 0 hHeld.2 (Nat.zero_le _) rfl
                        refine hK.out _ _ (hHeld.alloc _ : Up w3.heap.size w3 _) (fun hHeld => ?_)
                        clear hK K
                        (try dsimp only at hHeld)
                        (try simp only [Act.put, List.setIfInBounds_toArray, List.set_cons_zero, List.set_cons_succ])
                        obtain ⟨x1, hx1⟩ : ∃ x1, x0.alloc (.cells #[] 9) = x1 := ⟨_, rfl⟩
                        rw [hx1] at hHeld O20 ⊢
                        refine wpAnyH_ready (rs := [4, 6]) (by kernel_rfl) (by simp) (AllReadyH.cons rfl (fun K hK => ?_) (AllReadyH.cons rfl (fun K hK => ?_) AllReadyH.nil))
                        · rw [if_pos (by kernel_rfl)]
                          refine app_src_wp (.tmp 69) (.tmp 72) 22 rfl w3.heap.size 9 i9 _ 1 16 Tryd.underlying22 hi9 hz90 hz91 hz92 rfl (by decide) _ _ _ rfl O20.out _ _ _ rfl ((HSA _).out.stay hHeld.1) (str_one _) (by unfold maxLen; omega) (by omega) hHeld.2 ?_
                          intro v24 x2 ho24 hg24
                          change K (Act.put _ (some 73) _) _
                          have O24 : Hid (x2.ownsRow w3.heap.size 9 1 v24 (0 + k) ([] ++ (L.take k).map Value.string)) := ho24
                          have hu24 : Up w3.heap.size w3 x2 := hHeld.grown hg24 (own_base O20.out)
                          clear ho24 hg24 O20
                          refine hK.out _ _ (hu24 : Up w3.heap.size w3 _) (fun hHeld => ?_)
                          clear hK K
                          (try dsimp only at hHeld)
                          (try simp only [Act.put, List.setIfInBounds_toArray, List.set_cons_zero, List.set_cons_succ])
                          clear hu24
                          refine wpAnyH_ready (rs := [6]) (by kernel_rfl) (by simp) (AllReadyH.cons rfl (fun K hK => ?_) AllReadyH.nil)
                          rw [if_pos (by kernel_rfl)]
                          go_simp
                          have S26 : Hid (Srcs (x2.alloc (.cells #[.string t] 9)) (.slice (some ⟨x2.heap.size, 0, none⟩) 1 1) 1 1 [.string t]) := srcs_new x2 #[.string t] 9 1 1 1 rfl
                          have O24' := O24.out.alloc (.cells #[.string t] 9)
                          clear O24
                          have O24 : Hid (World.ownsRow _ _ _ _ _ _ _) := O24'
                          clear O24'
                          refine hK.out _ _ (hHeld.alloc _ : Up w3.heap.size w3 _) (fun hHeld => ?_)
                          clear hK K
                          (try dsimp only at hHeld)
                          (try simp only [Act.put, List.setIfInBounds_toArray, List.set_cons_zero, List.set_cons_succ])
                          obtain ⟨x3, hx3⟩ : ∃ x3, x2.alloc (.cells #[.string t] 9) = x3 := ⟨_, rfl⟩
                          rw [hx3] at hHeld O24 S26 ⊢
                          refine wpAnyH_ready (rs := [7]) (by kernel_rfl) (by simp) (AllReadyH.cons rfl (fun K hK => ?_) AllReadyH.nil)
                          rw [if_pos (by kernel_rfl)]
                          refine app_src_wp (.tmp 73) (.tmp 75) 22 rfl w3.heap.size 9 i9 _ 1 16 Tryd.underlying22 hi9 hz90 hz91 hz92 rfl (by decide) _ _ _ rfl O24.out _ _ _ rfl S26.out (one_one _ rfl) (by unfold maxLen; omega) (by omega) hHeld.2 ?_
                          intro v27 y1 ho27 hg27
                          change K (Act.put _ (some 76) _) _
                          have O27 : Hid (y1.ownsRow w3.heap.size 9 1 v27 (0 + k + 1) ([] ++ (L.take k).map Value.string ++ [.string t])) := ho27
                          have hu27 : Up w3.heap.size w3 y1 := hHeld.grown hg27 (own_base O24.out)
                          clear ho27 hg27 O24 S26
                          refine hK.out _ _ (hu27 : Up w3.heap.size w3 _) (fun hHeld => ?_)
                          clear hK K
                          (try dsimp only at hHeld)
                          (try simp only [Act.put, List.setIfInBounds_toArray, List.set_cons_zero, List.set_cons_succ])
                          clear hu27
                          refine wpAnyH_ready (rs := [11]) (by kernel_rfl) (by simp) (AllReadyH.cons rfl (fun K hK => ?_) AllReadyH.nil)
                          rw [if_pos (by kernel_rfl)]
                          refine app_src_wp (.tmp 76) (.tmp 79) 22 rfl w3.heap.size 9 i9 _ 1 16 Tryd.underlying22 hi9 hz90 hz91 hz92 rfl (by decide) _ _ _ rfl O27.out _ _ _ rfl ((HSB _).out.stay hHeld.1) (str_one _) (by unfold maxLen; omega) (by omega) hHeld.2 ?_
                          intro v31 y2 ho31 hg31
                          change K (Act.put _ (some 80) _) _
                          have O31 : Hid (y2.ownsRow w3.heap.size 9 1 v31 (0 + k + 1 + 0) ([] ++ (L.take k).map Value.string ++ [.string t] ++ (L.drop k).map Value.string)) := ho31
                          have hu31 : Up w3.heap.size w3 y2 := hHeld.grown hg31 (own_base O27.out)
                          clear ho31 hg31 O27
                          refine hK.out _ _ (hu31 : Up w3.heap.size w3 _) (fun hHeld => ?_)
                          clear hK K
                          (try dsimp only at hHeld)
                          (try simp only [Act.put, List.setIfInBounds_toArray, List.set_cons_zero, List.set_cons_succ])
                          clear hu31
                          refine takeH (i := 12) (v := ?_) (d := (some 3)) rfl (by kernel_rfl) (by kernel_rfl) (by kernel_rfl) rfl (fun _ _ _ h => h) (Or.inl ⟨by kernel_rfl, ?_⟩) (by assumption) ?_; rotate_left
                          · (intro w hSw; (try dsimp only at hSw); first | (go_simp; done) | (go_simp; with_reducible rfl))
                          (try simp only [Act.put, List.setIfInBounds_toArray, List.set_cons_zero, List.set_cons_succ])
                          refine wpAnyH_done (by kernel_rfl) ?_ _
                          have HU9 : Hid (Up w3.heap.size w3 y2) := hHeld
                          clear hHeld
                          have HO4 : Hid (OS y2 w.heap.size v31 (srtG (Ls.take (i + 1)))) := by
                            show y2.ownsRow _ _ _ _ _ _
                            rw [HNX.out, HIN.out]
                            have hown3 := O31.out
                            have e : (List.take k L ++ t :: List.drop k L).length = 0 + k + 1 + 0 := by first | (simp; done) | (simp; omega)
                            rw [e, List.map_append, List.map_cons]
                            have h2 := own_mono hown3 HU3.out.2
                            simpa using h2
                          have HU4 : Hid (Up w.heap.size w y2) := HU3.out.stay HU9.out.1
                          clear O31 HU9
                          go_wp2
                          all_goals
                            go_roundg (n - (i + 1))
                            case measure => omega
                            case rel => exact ⟨i + 1, by omega, by omega, rfl, by go_num, HO4, HU4⟩
                        · rw [if_pos (by kernel_rfl)]
                          go_simp
                          have S26 : Hid (Srcs (x1.alloc (.cells #[.string t] 9)) (.slice (some ⟨x1.heap.size, 0, none⟩) 1 1) 1 1 [.string t]) := srcs_new x1 #[.string t] 9 1 1 1 rfl
                          have O20' := O20.out.alloc (.cells #[.string t] 9)
                          clear O20
                          have O20 : Hid (World.ownsRow _ _ _ _ _ _ _) := O20'
                          clear O20'
                          have hne : x0.heap.size < x1.heap.size := by rw [← hx1]; simp
                          refine hK.out _ _ (hHeld.alloc _ : Up w3.heap.size w3 _) (fun hHeld => ?_)
                          clear hK K
                          (try dsimp only at hHeld)
                          (try simp only [Act.put, List.setIfInBounds_toArray, List.set_cons_zero, List.set_cons_succ])
                          obtain ⟨x2, hx2⟩ : ∃ x2, x1.alloc (.cells #[.string t] 9) = x2 := ⟨_, rfl⟩
                          rw [hx2] at hHeld O20 S26 ⊢
                          refine wpAnyH_ready (rs := [4]) (by kernel_rfl) (by simp) (AllReadyH.cons rfl (fun K hK => ?_) AllReadyH.nil)
                          rw [if_pos (by kernel_rfl)]
                          refine app_src_wp (.tmp 69) (.tmp 72) 22 rfl w3.heap.size 9 i9 _ 1 16 Tryd.underlying22 hi9 hz90 hz91 hz92 rfl (by decide) _ _ _ rfl O20.out _ _ _ rfl ((HSA _).out.stay hHeld.1) (str_one _) (by unfold maxLen; omega) (by omega) hHeld.2 ?_
                          intro v24 x3 ho24 hg24
                          change K (Act.put _ (some 73) _) _
                          have O24 : Hid (x3.ownsRow w3.heap.size 9 1 v24 (0 + k) ([] ++ (L.take k).map Value.string)) := ho24
                          have S26' := S26.out.grown hg24 (fun e => by have e' : some x0.heap.size = some x1.heap.size := e; injection e' with e'; omega)
                          clear S26
                          have S26 : Hid (Srcs _ _ _ _ _) := S26'
                          clear S26'
                          have hu24 : Up w3.heap.size w3 x3 := hHeld.grown hg24 (own_base O20.out)
                          clear ho24 hg24 O20
                          refine hK.out _ _ (hu24 : Up w3.heap.size w3 _) (fun hHeld => ?_)
                          clear hK K
                          (try dsimp only at hHeld)
                          (try simp only [Act.put, List.setIfInBounds_toArray, List.set_cons_zero, List.set_cons_succ])
                          clear hu24
                          refine wpAnyH_ready (rs := [7]) (by kernel_rfl) (by simp) (AllReadyH.cons rfl (fun K hK => ?_) AllReadyH.nil)
                          rw [if_pos (by kernel_rfl)]
                          refine app_src_wp (.tmp 73) (.tmp 75) 22 rfl w3.heap.size 9 i9 _ 1 16 Tryd.underlying22 hi9 hz90 hz91 hz92 rfl (by decide) _ _ _ rfl O24.out _ _ _ rfl S26.out (one_one _ rfl) (by unfold maxLen; omega) (by omega) hHeld.2 ?_
                          intro v27 y1 ho27 hg27
                          change K (Act.put _ (some 76) _) _
                          have O27 : Hid (y1.ownsRow w3.heap.size 9 1 v27 (0 + k + 1) ([] ++ (L.take k).map Value.string ++ [.string t])) := ho27
                          have hu27 : Up w3.heap.size w3 y1 := hHeld.grown hg27 (own_base O24.out)
                          clear ho27 hg27 O24 S26
                          refine hK.out _ _ (hu27 : Up w3.heap.size w3 _) (fun hHeld => ?_)
                          clear hK K
                          (try dsimp only at hHeld)
                          (try simp only [Act.put, List.setIfInBounds_toArray, List.set_cons_zero, List.set_cons_succ])
                          clear hu27
                          refine wpAnyH_ready (rs := [11]) (by kernel_rfl) (by simp) (AllReadyH.cons rfl (fun K hK => ?_) AllReadyH.nil)
                          rw [if_pos (by kernel_rfl)]
                          refine app_src_wp (.tmp 76) (.tmp 79) 22 rfl w3.heap.size 9 i9 _ 1 16 Tryd.underlying22 hi9 hz90 hz91 hz92 rfl (by decide) _ _ _ rfl O27.out _ _ _ rfl ((HSB _).out.stay hHeld.1) (str_one _) (by unfold maxLen; omega) (by omega) hHeld.2 ?_
                          intro v31 y2 ho31 hg31
                          change K (Act.put _ (some 80) _) _
                          have O31 : Hid (y2.ownsRow w3.heap.size 9 1 v31 (0 + k + 1 + 0) ([] ++ (L.take k).map Value.string ++ [.string t] ++ (L.drop k).map Value.string)) := ho31
                          have hu31 : Up w3.heap.size w3 y2 := hHeld.grown hg31 (own_base O27.out)
                          clear ho31 hg31 O27
                          refine hK.out _ _ (hu31 : Up w3.heap.size w3 _) (fun hHeld => ?_)
                          clear hK K
                          (try dsimp only at hHeld)
                          (try simp only [Act.put, List.setIfInBounds_toArray, List.set_cons_zero, List.set_cons_succ])
                          clear hu31
                          refine takeH (i := 12) (v := ?_) (d := (some 3)) rfl (by kernel_rfl) (by kernel_rfl) (by kernel_rfl) rfl (fun _ _ _ h => h) (Or.inl ⟨by kernel_rfl, ?_⟩) (by assumption) ?_; rotate_left
                          · (intro w hSw; (try dsimp only at hSw); first | (go_simp; done) | (go_simp; with_reducible rfl))
                          (try simp only [Act.put, List.setIfInBounds_toArray, List.set_cons_zero, List.set_cons_succ])
                          refine wpAnyH_done (by kernel_rfl) ?_ _
                          have HU9 : Hid (Up w3.heap.size w3 y2) := hHeld
                          clear hHeld
                          have HO4 : Hid (OS y2 w.heap.size v31 (srtG (Ls.take (i + 1)))) := by
                            show y2.ownsRow _ _ _ _ _ _
                            rw [HNX.out, HIN.out]
                            have hown3 := O31.out
                            have e : (List.take k L ++ t :: List.drop k L).length = 0 + k + 1 + 0 := by first | (simp; done) | (simp; omega)
                            rw [e, List.map_append, List.map_cons]
                            have h2 := own_mono hown3 HU3.out.2
                            simpa using h2
                          have HU4 : Hid (Up w.heap.size w y2) := HU3.out.stay HU9.out.1
                          clear O31 HU9
                          go_wp2
                          all_goals
                            go_roundg (n - (i + 1))
                            case measure => omega
                            case rel => exact ⟨i + 1, by omega, by omega, rfl, by go_num, HO4, HU4⟩
                      · rw [if_pos (by kernel_rfl)]
                        go_simp
                        have S26 : Hid (Srcs (x0.alloc (.cells #[.string t] 9)) (.slice (some ⟨x0.heap.size, 0, none⟩) 1 1) 1 1 [.string t]) := srcs_new x0 #[.string t] 9 1 1 1 rfl
                        refine hK.out _ _ (hHeld.alloc _ : Up w3.heap.size w3 _) (fun hHeld => ?_)
                        clear hK K
                        (try dsimp only at hHeld)
                        (try simp only [Act.put, List.setIfInBounds_toArray, List.set_cons_zero, List.set_cons_succ])
                        obtain ⟨x1, hx1⟩ : ∃ x1, x0.alloc (.cells #[.string t] 9) = x1 := ⟨_, rfl⟩
                        rw [hx1] at hHeld S26 ⊢
                        refine wpAnyH_ready (rs := [0]) (by kernel_rfl) (by simp) (AllReadyH.cons rfl (fun K hK => ?_) AllReadyH.nil)
                        rw [if_pos (by kernel_rfl)]
                        go_simp
                        have O20 : Hid ((x1.alloc (.cells #[] 9)).ownsRow w3.heap.size 9 1 (.slice (some ⟨x1.heap.size, 0, none⟩) 0 0) 0 []) := World.ownsRow_lit x1 #[] 0 hHeld.2 (Nat.zero_le _) rfl
                        have S26' := S26.out.stay ((Below.refl _ _).alloc (Nat.le_refl _) (.cells #[] 9))
                        clear S26
                        have S26 : Hid (Srcs _ _ _ _ _) := S26'
                        clear S26'
                        have hne : x0.heap.size < x1.heap.size := by rw [← hx1]; simp
                        refine hK.out _ _ (hHeld.alloc _ : Up w3.heap.size w3 _) (fun hHeld => ?_)
                        clear hK K
                        (try dsimp only at hHeld)
                        (try simp only [Act.put, List.setIfInBounds_toArray, List.set_cons_zero, List.set_cons_succ])
                        obtain ⟨x2, hx2⟩ : ∃ x2, x1.alloc (.cells #[] 9) = x2 := ⟨_, rfl⟩
                        rw [hx2] at hHeld O20 S26 ⊢
                        refine wpAnyH_ready (rs := [4]) (by kernel_rfl) (by simp) (AllReadyH.cons rfl (fun K hK => ?_) AllReadyH.nil)
                        rw [if_pos (by kernel_rfl)]
                        refine app_src_wp (.tmp 69) (.tmp 72) 22 rfl w3.heap.size 9 i9 _ 1 16 Tryd.underlying22 hi9 hz90 hz91 hz92 rfl (by decide) _ _ _ rfl O20.out _ _ _ rfl ((HSA _).out.stay hHeld.1) (str_one _) (by unfold maxLen; omega) (by omega) hHeld.2 ?_
                        intro v24 x3 ho24 hg24
                        change K (Act.put _ (some 73) _) _
                        have O24 : Hid (x3.ownsRow w3.heap.size 9 1 v24 (0 + k) ([] ++ (L.take k).map Value.string)) := ho24
                        have S26' := S26.out.grown hg24 (fun e => by have e' : some x1.heap.size = some x0.heap.size := e; injection e' with e'; omega)
                        clear S26
                        have S26 : Hid (Srcs _ _ _ _ _) := S26'
                        clear S26'
                        have hu24 : Up w3.heap.size w3 x3 := hHeld.grown hg24 (own_base O20.out)
                        clear ho24 hg24 O20
                        refine hK.out _ _ (hu24 : Up w3.heap.size w3 _) (fun hHeld => ?_)
                        clear hK K
                        (try dsimp only at hHeld)
                        (try simp only [Act.put, List.setIfInBounds_toArray, List.set_cons_zero, List.set_cons_succ])
                        clear hu24
                        refine wpAnyH_ready (rs := [7]) (by kernel_rfl) (by simp) (AllReadyH.cons rfl (fun K hK => ?_) AllReadyH.nil)
                        rw [if_pos (by kernel_rfl)]
                        refine app_src_wp (.tmp 73) (.tmp 75) 22 rfl w3.heap.size 9 i9 _ 1 16 Tryd.underlying22 hi9 hz90 hz91 hz92 rfl (by decide) _ _ _ rfl O24.out _ _ _ rfl S26.out (one_one _ rfl) (by unfold maxLen; omega) (by omega) hHeld.2 ?_
                        intro v27 y1 ho27 hg27
                        change K (Act.put _ (some 76) _) _
                        have O27 : Hid (y1.ownsRow w3.heap.size 9 1 v27 (0 + k + 1) ([] ++ (L.take k).map Value.string ++ [.string t])) := ho27
                        have hu27 : Up w3.heap.size w3 y1 := hHeld.grown hg27 (own_base O24.out)
                        clear ho27 hg27 O24 S26
                        refine hK.out _ _ (hu27 : Up w3.heap.size w3 _) (fun hHeld => ?_)
                        clear hK K
                        (try dsimp only at hHeld)
                        (try simp only [Act.put, List.setIfInBounds_toArray, List.set_cons_zero, List.set_cons_succ])
                        clear hu27
                        refine wpAnyH_ready (rs := [11]) (by kernel_rfl) (by simp) (AllReadyH.cons rfl (fun K hK => ?_) AllReadyH.nil)
                        rw [if_pos (by kernel_rfl)]
                        refine app_src_wp (.tmp 76) (.tmp 79) 22 rfl w3.heap.size 9 i9 _ 1 16 Tryd.underlying22 hi9 hz90 hz91 hz92 rfl (by decide) _ _ _ rfl O27.out _ _ _ rfl ((HSB _).out.stay hHeld.1) (str_one _) (by unfold maxLen; omega) (by omega) hHeld.2 ?_
                        intro v31 y2 ho31 hg31
                        change K (Act.put _ (some 80) _) _
                        have O31 : Hid (y2.ownsRow w3.heap.size 9 1 v31 (0 + k + 1 + 0) ([] ++ (L.take k).map Value.string ++ [.string t] ++ (L.drop k).map Value.string)) := ho31
                        have hu31 : Up w3.heap.size w3 y2 := hHeld.grown hg31 (own_base O27.out)
                        clear ho31 hg31 O27
                        refine hK.out _ _ (hu31 : Up w3.heap.size w3 _) (fun hHeld => ?_)
                        clear hK K
                        (try dsimp only at hHeld)
                        (try simp only [Act.put, List.setIfInBounds_toArray, List.set_cons_zero, List.set_cons_succ])
                        clear hu31
                        refine takeH (i := 12) (v := ?_) (d := (some 3)) rfl (by kernel_rfl) (by kernel_rfl) (by kernel_rfl) rfl (fun _ _ _ h => h) (Or.inl ⟨by kernel_rfl, ?_⟩) (by assumption) ?_; rotate_left
                        · (intro w hSw; (try dsimp only at hSw); first | (go_simp; done) | (go_simp; with_reducible rfl))
                        (try simp only [Act.put, List.setIfInBounds_toArray, List.set_cons_zero, List.set_cons_succ])
                        refine wpAnyH_done (by kernel_rfl) ?_ _
                        have HU9 : Hid (Up w3.heap.size w3 y2) := hHeld
                        clear hHeld
                        have HO4 : Hid (OS y2 w.heap.size v31 (srtG (Ls.take (i + 1)))) := by
                          show y2.ownsRow _ _ _ _ _ _
                          rw [HNX.out, HIN.out]
                          have hown3 := O31.out
                          have e : (List.take k L ++ t :: List.drop k L).length = 0 + k + 1 + 0 := by first | (simp; done) | (simp; omega)
                          rw [e, List.map_append, List.map_cons]
                          have h2 := own_mono hown3 HU3.out.2
                          simpa using h2
                        have HU4 : Hid (Up w.heap.size w y2) := HU3.out.stay HU9.out.1
                        clear O31 HU9
                        go_wp2
                        all_goals
                          go_roundg (n - (i + 1))
                          case measure => omega
                          case rel => exact ⟨i + 1, by omega, by omega, rfl, by go_num, HO4, HU4⟩
    · obtain rfl : i = n := by omega
      have z1 : ¬ (i : Int) < (i : Int) := by omega
      go_wp2
      go_ret
      refine ⟨_, rfl, ?_, HU.out⟩
      have e : Ls.take i = Ls.take 61 := by rw [List.take_of_length_le (by rw [EN.out]; exact Nat.le_refl _), List.take_of_length_le (by rw [EN.out]; exact hi61)]
      unfold srtL
      rw [← e]
      exact HO.out
end Go.Proofs.YtfikkkodepfdkaaDoor
namespace Go.Proofs.YtfikkkodepfdkaaDoor
set_option linter.unusedVariables false
open Go.RowKit Go.ChangeShapes
/-- It tells whether. -/
def Tells (e : Ending) (p : Prop) : Prop := ∃ b : Bool, e = .returned (.bool b) ∧ (b = true ↔ p)
theorem has_words {L : List ByteArray} (hg : ∀ s ∈ L, GoodW s) (x : ByteArray) : (decide (x.size ≤ 64) && decide (rs x ∈ L.map rs)) = true ↔ x ∈ L := by
  rw [Bool.and_eq_true, decide_eq_true_eq, decide_eq_true_eq]
  constructor
  · rintro ⟨_, h⟩
    obtain ⟨y, hy, e⟩ := List.mem_map.1 h
    have h2 := (hg y hy).2.2.1
    have h3 : (-1 : Int) ∉ rs x := by rw [← e]; exact h2
    rw [rs_inj h3 h2 e.symm]
    exact hy
  · intro h
    have := (hg x h).2.1
    exact ⟨by omega, List.mem_map_of_mem h⟩
/-- What Sorted's words make is a trie that tells them. -/
theorem made_has (w : World) (hT : Tabs w) (v : Value) (L : List ByteArray) (hv : TL w v L) (hr : RiseK id L) (hg : ∀ s ∈ L, GoodW s) (hL : L.length ≤ 200) :
    Calls Tryd.prog 10 #[v] w fun e w' => Below w.heap.size w w' ∧ ∃ vN l, e = .returned (.tuple #[.pointer (some ⟨w.heap.size + 1, 0, none⟩), .int .i64 0]) ∧ TrieM w' w.heap.size (w.heap.size + 1) L.length vN l ∧ l.map Nd.p = (makeP L).2 ∧ OkP (makeP L).2 ∧ (makeP L).2.length ≤ 300000 ∧ 0 < (makeP L).2.length := by
  have hz := makeP_zero hr hg (by omega)
  refine (make_any w hT v L hv (by omega) (fun s hs => by have := (hg s hs).2.1; omega)).mono ?_
  rintro e w' ⟨hb, ⟨h1, _⟩ | ⟨_, h2⟩⟩
  · exact absurd hz h1
  · exact ⟨hb, h2⟩
theorem has_made {w0 w : World} {T m : Nat} {vN : Value} {l : List Nd} {L : List ByteArray} (h : TrieM w w0.heap.size T m vN l) (hT : Tabs w) (hl : l.map Nd.p = (makeP L).2) (hok : OkP (makeP L).2) (h3 : (makeP L).2.length ≤ 300000) (h4 : 0 < (makeP L).2.length) (hr : RiseK id L) (hg : ∀ s ∈ L, GoodW s) (hL : L.length ≤ 200) (x : ByteArray) (hx : x.size ≤ 1000000) :
    Calls Tryd.prog 24 #[.pointer (some ⟨T, 0, none⟩), .string x] w fun e w' => Tells e (x ∈ L) ∧ Below w.heap.size w w' := by
  have hz := makeP_zero hr hg (by omega)
  obtain ⟨q1, q2, q3⟩ := makeP_has hz
  have hlen : l.length = (makeP L).2.length := by rw [← hl, List.length_map]
  refine (has_any h hT (by rw [hl]; exact hok) (by rw [hl]; exact q1) (by omega) (by omega) x hx).mono ?_
  rintro e w' ⟨rfl, hb⟩
  refine ⟨⟨_, rfl, ?_⟩, hb⟩
  rw [hl, q3]
  exact has_words hg x
end Go.Proofs.YtfikkkodepfdkaaDoor
namespace Go.Proofs.YtfikkkodepfdkaaDoor
set_option linter.unusedVariables false
open Go.RowKit Go.ChangeShapes
theorem u8_nat {x : Int} (h : (Lit.int .u8 x).wf = true) : ∃ n : Nat, x = (n : Int) ∧ n ≤ 255 := by
  have h2 : 0 ≤ x ∧ x ≤ 255 := by simpa [Lit.wf, IntKind.min, IntKind.max, IntKind.signed, IntKind.bits] using h
  exact ⟨x.toNat, by omega, by omega⟩
theorem Up.drewN {B : Nat} {a w : World} (h : Up B a w) : ∀ n, Up B a (w.drewN n)
  | 0 => h
  | n + 1 => by
    have := (Up.drewN h n).drew
    exact this
/-- A variable that a closure holds. -/
def Box (w : World) (X : Nat) (v : Value) : Prop := w.rowIs X 22 1 (fun _ => v)
theorem Box.cell {w : World} {X : Nat} {v : Value} (h : Box w X v) : w.cell? ⟨X, 0, none⟩ = some v := World.rowIs.cell h (i := 0) (by omega)
theorem Box.frozen {w : World} {X : Nat} {v : Value} (h : Box w X v) : w.frozen? ⟨X, 0, none⟩ = false := World.rowIs.frozen h 0
theorem Box.stay {w w' : World} {X : Nat} {v : Value} (h : Box w X v) (hb : Below w.heap.size w w') : Box w' X v := World.rowIs.of_block h (hb.block X (World.rowIs.lt h))
theorem Box.new (w : World) (v : Value) : Box (w.alloc (.cells #[v] 22)) w.heap.size v := World.rowIs_alloc w #[v] 22 (fun _ => v) (fun i hi => by
  have : i = 0 := by simpa using hi
  subst this
  rfl)
theorem Box.set {w : World} {X : Nat} {v : Value} (h : Box w X v) (u : Value) : Box (w.setCell ⟨X, 0, none⟩ u) X u := World.rowIs.congr (World.rowIs.set h 0 u) (fun i hi => by
  have : i = 0 := by omega
  simp [this])
theorem OS.far {w : World} {b X : Nat} {v u : Value} {L : List ByteArray} (h : OS w b v L) (hX : X < b) : OS (w.setCell ⟨X, 0, none⟩ u) b v L := own_of_blocks h (fun k hk => by
  have := own_base h k hk
  exact Go.Deep.blk_setCell_other w _ _ k (by show k ≠ X; omega))
end Go.Proofs.YtfikkkodepfdkaaDoor
namespace Go.Proofs.YtfikkkodepfdkaaDoor
set_option linter.unusedVariables false
theorem nodup_le : ∀ (A C : List (List Int)), A.Nodup → (∀ x ∈ A, x ∈ C) → A.length ≤ C.length
  | [], C, _, _ => Nat.zero_le _
  | a :: A, C, hn, hs => by
    rw [List.nodup_cons] at hn
    have ha := hs a (List.mem_cons_self ..)
    have h := nodup_le A (C.erase a) hn.2 (fun x hx => (List.mem_erase_of_ne (fun e => hn.1 (by rw [← e]; exact hx))).2 (hs x (List.mem_cons_of_mem _ hx)))
    rw [List.length_erase_of_mem ha] at h
    have := List.length_pos_of_mem ha
    simp only [List.length_cons]
    omega
/-- The nodes' beginnings: just those of words, each once. -/
theorem nodes_is {L : List ByteArray} (h : (makeP L).1 = 0) : ∃ B : List (List Int), B.Nodup ∧ B.length = (makeP L).2.length ∧ ∀ q, q ∈ B ↔ (q = [] ∨ ∃ s ∈ L, q <+: rs s) := by
  have he : (-1 : Int) ∉ rs ⟨#[]⟩ := by
    have h0 : rs ⟨#[]⟩ = [] := sm_rs [] (fun b hb => by cases hb)
    rw [h0]; exact List.not_mem_nil
  obtain ⟨B, hI, hE, _⟩ := make_inv L 0 ⟨#[]⟩ [pn0] [[]] [] h inv0 end0 he (fun x hx => by cases hx)
  refine ⟨B, ?_, hI.len, fun q => ⟨fun hq => ?_, fun hq => ?_⟩⟩
  · unfold List.Nodup
    rw [List.pairwise_iff_getElem]
    intro i j hi hj hij e
    have := hI.uniq i j B[i] (List.getElem?_eq_getElem hi) (by rw [e]; exact List.getElem?_eq_getElem hj)
    omega
  · obtain ⟨i, hi⟩ := List.getElem?_of_mem hq
    rcases hI.pre i q hi with e | ⟨u, hu, e⟩
    · exact Or.inl e
    · right
      simp only [List.append_nil, List.mem_reverse, List.mem_map] at hu
      obtain ⟨s, hs, rfl⟩ := hu
      exact ⟨s, hs, e⟩
  · rcases hq with rfl | ⟨s, hs, t, e⟩
    · exact List.mem_of_getElem? hI.b0
    · obtain ⟨c, hc⟩ := hE.has (rs s) (by simp only [List.append_nil, List.mem_reverse, List.mem_map]; exact ⟨s, hs, rfl⟩)
      obtain ⟨i, hi⟩ := hI.closed q t.length t c (Nat.le_refl _) (by rw [e]; exact hc)
      exact List.mem_of_getElem? hi
theorem more_nodes {L M : List ByteArray} {t : ByteArray} (h : (makeP L).1 = 0) (h' : (makeP M).1 = 0) (hm : ∀ x, x ∈ M ↔ x = t ∨ x ∈ L) : (makeP L).2.length ≤ (makeP M).2.length ∧ (makeP M).2.length ≤ (makeP L).2.length + (rs t).length := by
  obtain ⟨B, n1, l1, q1⟩ := nodes_is h
  obtain ⟨C, n2, l2, q2⟩ := nodes_is h'
  rw [← l1, ← l2]
  constructor
  · refine nodup_le B C n1 fun x hx => (q2 x).2 ?_
    rcases (q1 x).1 hx with e | ⟨s, hs, e⟩
    · exact Or.inl e
    · exact Or.inr ⟨s, (hm s).2 (Or.inr hs), e⟩
  · have hh := nodup_le C (B ++ (List.range (rs t).length).map fun i => (rs t).take (i + 1)) n2 fun x hx => by
      rw [List.mem_append]
      rcases (q2 x).1 hx with e | ⟨s, hs, e⟩
      · exact Or.inl ((q1 x).2 (Or.inl e))
      · rcases (hm s).1 hs with rfl | hs
        · by_cases hx0 : x = []
          · exact Or.inl ((q1 x).2 (Or.inl hx0))
          · right
            rw [List.mem_map]
            have hl : x.length ≤ (rs s).length := e.length_le
            have hp : 0 < x.length := List.length_pos_iff.2 hx0
            refine ⟨x.length - 1, by simp; omega, ?_⟩
            rw [show x.length - 1 + 1 = x.length by omega]
            exact (List.prefix_iff_eq_take.1 e).symm
        · exact Or.inl ((q1 x).2 (Or.inr ⟨s, hs, e⟩))
    simpa using hh
end Go.Proofs.YtfikkkodepfdkaaDoor
namespace Go.Proofs.YtfikkkodepfdkaaDoor
set_option linter.unusedVariables false
/-- So many beginnings go on from this one. -/
def below (B : List (List Int)) (p : List Int) : Nat := B.countP fun q => decide (p <+: q ∧ q ≠ p)
def onP (B : List (List Int)) (p : List Int) : Nat := B.countP fun q => decide (p <+: q)
theorem on_below {B : List (List Int)} (hn : B.Nodup) {p : List Int} (hp : p ∈ B) : onP B p = below B p + 1 := by
  unfold onP below
  induction B with
  | nil => cases hp
  | cons a B ih =>
    rw [List.nodup_cons] at hn
    rw [List.countP_cons, List.countP_cons]
    by_cases e : a = p
    · subst e
      have h0 : ∀ q ∈ B, decide (a <+: q) = decide (a <+: q ∧ q ≠ a) := fun q hq => by
        have hne : q ≠ a := fun h => hn.1 (by rw [← h]; exact hq)
        simp [hne]
      rw [List.countP_congr (fun q hq => by rw [h0 q hq])]
      simp
    · have hp' : p ∈ B := by
        rcases List.mem_cons.1 hp with h | h
        · exact absurd h.symm e
        · exact h
      rw [ih hn.2 hp']
      have : decide (p <+: a) = decide (p <+: a ∧ a ≠ p) := by simp [e]
      rw [this]
      omega
/-- One of these goes on, at most. -/
theorem one_next (p q : List Int) : ∀ (R : List Int), R.Nodup → (R.map fun r => if p ++ [r] <+: q then 1 else 0).sum = if (∃ r ∈ R, p ++ [r] <+: q) then 1 else 0
  | [], _ => by simp
  | a :: R, hn => by
    rw [List.nodup_cons] at hn
    rw [List.map_cons, List.sum_cons, one_next p q R hn.2]
    by_cases ha : p ++ [a] <+: q
    · have hno : ¬ ∃ r ∈ R, p ++ [r] <+: q := by
        rintro ⟨r, hr, h⟩
        have := List.prefix_of_prefix_length_le h ha (by simp)
        have e : p ++ [r] = p ++ [a] := this.eq_of_length (by simp)
        have : r = a := by simpa using e
        exact hn.1 (by rw [← this]; exact hr)
      rw [if_pos ha, if_neg hno, if_pos ⟨a, List.mem_cons_self .., ha⟩]
    · rw [if_neg ha, Nat.zero_add]
      by_cases h : ∃ r ∈ R, p ++ [r] <+: q
      · obtain ⟨r, hr, h⟩ := h
        rw [if_pos ⟨r, hr, h⟩, if_pos ⟨r, List.mem_cons_of_mem _ hr, h⟩]
      · rw [if_neg h, if_neg]
        rintro ⟨r, hr, h'⟩
        rcases List.mem_cons.1 hr with rfl | hr
        · exact ha h'
        · exact h ⟨r, hr, h'⟩
theorem sum_add (R : List Int) (f g : Int → Nat) : (R.map fun r => f r + g r).sum = (R.map f).sum + (R.map g).sum := by
  induction R with
  | nil => rfl
  | cons a R ih => simp only [List.map_cons, List.sum_cons, ih]; omega
/-- What goes on from a beginning goes on by one of its signs. -/
theorem sum_on (p : List Int) (R : List Int) (hR : R.Nodup) : ∀ (B : List (List Int)), (∀ q ∈ B, p <+: q → q ≠ p → ∃ r ∈ R, p ++ [r] <+: q) → (R.map fun r => onP B (p ++ [r])).sum = below B p
  | [], _ => by
    show (R.map fun r => 0).sum = 0
    induction R with
    | nil => rfl
    | cons a R ih => rw [List.nodup_cons] at hR; simp [ih hR.2]
  | q :: B, h => by
    have ih := sum_on p R hR B (fun x hx => h x (List.mem_cons_of_mem _ hx))
    have e : (R.map fun r => onP (q :: B) (p ++ [r])) = R.map fun r => onP B (p ++ [r]) + if p ++ [r] <+: q then 1 else 0 := by
      apply List.map_congr_left
      intro r _
      unfold onP
      rw [List.countP_cons]
      by_cases hq : p ++ [r] <+: q <;> simp [hq]
    rw [e, sum_add, ih, one_next p q R hR]
    unfold below
    rw [List.countP_cons]
    by_cases hq : p <+: q ∧ q ≠ p
    · rw [if_pos (h q (List.mem_cons_self ..) hq.1 hq.2)]
      simp [hq]
    · rw [if_neg]
      · simp only [hq, decide_false]
        simp
      · rintro ⟨r, _, hr⟩
        refine hq ⟨(List.prefix_append p [r]).trans hr, fun e => ?_⟩
        rw [e] at hr
        have := hr.length_le
        simp at this
        omega
end Go.Proofs.YtfikkkodepfdkaaDoor
namespace Go.Proofs.YtfikkkodepfdkaaDoor
set_option linter.unusedVariables false
open Go.RowKit Go.ChangeShapes
set_option maxRecDepth 100000 in
theorem ends_any {w : World} {base T m : Nat} {vN : Value} {l : List Nd} (h : TrieM w base T m vN l) {i : Nat} {n : Nd} (hn : l[i]? = some n) (h2 : l.length ≤ 1000000) :
    Calls Tryd.prog 72 #[.pointer (some ⟨T, 0, none⟩), .int .i64 (i : Int)] w fun e w' => e = .returned (.bool n.p.e) ∧ Below w.heap.size w w' := by
  obtain ⟨nr, nk, p⟩ := n
  obtain ⟨ar, cr, er⟩ := own_slice (h.rr i _ hn)
  obtain ⟨ak, ck, ek⟩ := own_slice (h.kk i _ hn)
  dsimp only at er ek
  subst er ek
  have c1 := node_any h hn h2
  have hf : ∀ w : World, (Instr.field 70 (.agg #[.slice ar p.R.length cr, .slice ak p.K.length ck, .bool p.e]) 2).run Tryd.prog w = .ok (.bool p.e) w := fun w => by
    first | rfl | kernel_rfl | (simp [Instr.field, run_underlying Tryd.underlying70, part, go_sem]; done) | (simp [Instr.field, run_underlying Tryd.underlying70])
  clear h hn
  go_enter Tryd.func72, Tryd.ntmps72
  go_wp2_with fail
  refine c1.mono ?_
  rintro e w1 ⟨rfl, hb⟩
  have HB : Hid (Below w.heap.size w w1) := hb
  clear c1 hb
  go_wp2
  go_ret
  exact ⟨rfl, HB.out⟩
end Go.Proofs.YtfikkkodepfdkaaDoor
