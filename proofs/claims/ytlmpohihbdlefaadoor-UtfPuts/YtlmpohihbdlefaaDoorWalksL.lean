/- ref.Runes; what string(b) is. -/
import Derived.Test.YtlmpohihbdlefaaDoorWalksF
import Derived.Test.YtlmpohihbdlefaaDoorWalksJ
namespace Go.Proofs.YtlmpohihbdlefaaDoor
set_option linter.unusedVariables false
open Go.RowKit Go.ChangeShapes
theorem own_mono {w : World} {base base' e size n : Nat} {v : Value} {xs : List Value} (h : w.ownsRow base e size v n xs) (hb : base' ≤ base) : w.ownsRow base' e size v n xs := by
  obtain ⟨h1, h2 | ⟨g, cap, cur, rfl, hg, h3⟩⟩ := h
  · exact ⟨h1, Or.inl h2⟩
  · exact ⟨h1, Or.inr ⟨g, cap, cur, rfl, Nat.le_trans hb hg, h3⟩⟩
theorem bw_below (w : World) (e : TypeId) (s : ByteArray) : Below w.heap.size w (Lib.bytesWorld w e s) :=
  ⟨rfl, rfl, rfl, by rw [Lib.bytesWorld_size]; omega, fun k hk => Lib.bytesWorld_at_old w e s k hk⟩
theorem get_toList (s : ByteArray) (j : Nat) (h : j < s.size) : s.data.toList.getD j 0 = s.get! j := by
  have h' : j < s.data.size := h
  show s.data.toList.getD j 0 = s.data[j]!
  rw [getElem!_pos s.data j h', List.getD, Array.getElem?_toList, Array.getElem?_eq_getElem h', Option.getD_some]
theorem by_conv (w : World) (s : ByteArray) : By (Lib.bytesWorld w 5 s) w.heap.size 0 s := by
  intro j hj
  rw [Nat.zero_add, Lib.bytesWorld_cell w 5 s j hj, get_toList s j hj]
set_option maxHeartbeats 1000000 in
theorem rrunes_any (s : ByteArray) (w : World) (hn : s.size ≤ 5000) :
    Calls Tryd.prog 16 #[.string s] w fun e w' => ∃ k v, e = .returned v ∧ Ends s k ∧ w'.ownsRow w.heap.size 21 1 v k (rcells s k) ∧ Below w.heap.size w w' := by
  have hcv := Lib.run_convert_string_bytes (P := Tryd.prog) w 9 22 5 s (u := .string) Tryd.underlying9 Tryd.underlying22 Tryd.underlying5
  have cu := runits_any s w.heap.size 0 (grownCap w s.size 0 5) (Lib.bytesWorld w 5 s) hn (grownCap_ge w s.size 0 5) (by_conv w s)
  have HU0 : Hid (Up w.heap.size w (Lib.bytesWorld w 5 s)) := ⟨bw_below w 5 s, (bw_below w 5 s).size⟩
  generalize Lib.bytesWorld w 5 s = W1 at hcv cu HU0
  generalize grownCap w s.size 0 5 = cap at hcv cu
  obtain ⟨i0, hi, hz0, hz1, hz2⟩ := info_parts info21
  go_enter Tryd.func16, Tryd.ntmps16
  go_wp2_with fail
  refine cu.mono ?_
  rintro e w1 ⟨n, v, rfl, he, hown, hb1⟩
  have HU1 : Hid (Up w.heap.size w w1) := HU0.out.stay hb1
  have HE : Hid (Ends s n) := he
  have hnk := he.le
  clear cu hcv HU0 hb1 he
  have hown0 := hown
  obtain ⟨hl, ⟨rfl, rfl⟩ | ⟨g, c, cur, rfl, _⟩⟩ := hown
  · go_wp2
    go_loopg [3, 5] (0) (fun g l i wr => l = .slice none 0 0 ∧ i = .int .i64 0 ∧ wr = w1)
    case atStart => exact ⟨rfl, rfl, rfl⟩
    case round =>
      obtain ⟨rfl, rfl, rfl⟩ := hrel
      go_wp2_with fail
      go_ret
      exact ⟨0, _, rfl, HE.out, World.ownsRow_nil _ _ _ _, HU1.out.1⟩
  · have HS : Hid (Us w1 g n s) := us_of hown0
    clear hown0 hl
    go_wp2
    go_loopg [3, 5] n (fun m l i wr => ∃ k : Nat, k ≤ n ∧ m = n - k ∧ i = .int .i64 k ∧ Hid (wr.ownsRow w1.heap.size 21 1 l k (rcells s k)) ∧ Hid (Up w1.heap.size w1 wr))
    case atStart => exact ⟨0, Nat.zero_le _, rfl, rfl, ⟨rfl, Or.inl ⟨rfl, rfl⟩⟩, Up.refl w1⟩
    case round =>
      obtain ⟨k, hk, hm, rfl, HO, HU⟩ := hrel
      by_cases hlt : k < n
      · have z0 : (0 : Int) ≤ (k : Int) := by omega
        have z1 : (k : Int) < (n : Int) := by omega
        obtain ⟨a0, a1, a2, a3⟩ := (HS.out.stay HU.out.1) k hlt
        go_wp2_with (at_builtin; refine wpList_append_own _ rfl _ _ 30 rfl w1.heap.size 21 i0 _ 1 4 Tryd.underlying30 hi hz0 hz1 hz2 rfl (by decide) _ _ _ rfl (HO.out.alloc _) ⟨wr.heap.size, 0, none⟩ 1 1 [.int .i32 (rn s (pos s k))] rfl rfl ?c1 ?c2 ?c3 ?c4 ?c5 ?_)
        case c1 =>
          intro j u hj
          match j, hj with
          | 0, hj => simp at hj; subst hj; simp [Addr.add]
          | (j + 1), hj => simp at hj
        case c2 => intro u hu; simp at hu; rcases hu with rfl; rfl
        case c3 => unfold maxLen; omega
        case c4 => omega
        case c5 => have := HU.out.2; simp only [World.size_alloc]; omega
        intro v' w3 hown2 hgr hnil
        have HO2 : Hid (w3.ownsRow w1.heap.size 21 1 v' (k + 1) (rcells s (k + 1))) := by
          show w3.ownsRow _ _ _ _ _ _
          rw [rcells_succ]; exact hown2
        have HU2 : Hid (Up w1.heap.size w1 w3) := (HU.out.alloc _).grown hgr (own_base HO.out)
        clear hown2 hgr hnil HO HU a0 a1 a2 a3
        go_wp2
        go_roundg (n - (k + 1))
        case measure => omega
        case rel => exact ⟨k + 1, by omega, rfl, by go_num, HO2, HU2⟩
      · obtain rfl : k = n := by omega
        go_wp2_with fail
        go_ret
        exact ⟨k, _, rfl, HE.out, own_mono HO.out HU1.out.2, HU1.out.1.trans (HU.out.1.mono HU1.out.2)⟩
/-- What string(b) is. -/
theorem nums_of (s : ByteArray) : strOfNums ((List.range s.size).map fun j => ((s.get! j).toNat : Int)) = s := by
  apply ByteArray.ext
  apply Array.ext'
  rw [strOfNums_data]
  apply List.ext_getElem?
  intro j
  by_cases h : j < s.size
  · have h' : j < s.data.size := h
    simp only [List.map_map, List.getElem?_map, List.getElem?_range h, Option.map_some, Function.comp_apply, Int.toNat_natCast]
    rw [Array.getElem?_toList, Array.getElem?_eq_getElem h']
    show some (UInt8.ofNat (s.data[j]!).toNat) = _
    rw [getElem!_pos s.data j h']
    simp
  · have h' : ¬ j < s.data.size := h
    rw [List.getElem?_eq_none (by simp; omega), List.getElem?_eq_none (by simp; omega)]
theorem str_of {w : World} {v : Value} {s : ByteArray} (h : BSl w v s) : (convert 22 9 v).run Tryd.prog w = .ok (.string s) w := by
  rcases h with ⟨ad, c, rfl, h⟩ | ⟨b, off, cap, rfl, h1, h2, h⟩
  · have he : s = ByteArray.empty := by
      apply ByteArray.ext
      exact Array.eq_empty_of_size_eq_zero h
    subst he
    cases ad with
    | none => exact run_convert_bytes_nil w 22 5 Tryd.underlying22 Tryd.underlying5 0 c 9 Tryd.underlying9
    | some a =>
      rw [run_convert_bytes_string w 22 9 5 _ 0 c Tryd.underlying22 Tryd.underlying5 Tryd.underlying9, run_bytesToString w a 0 c [] (by
        have := run_loadCells_list (P := Tryd.prog) w a [] (fun j v hj => by simp at hj)
        simpa using this)]
      rfl
  · have hr := run_convert_bytes_arg w 22 5 Tryd.underlying22 Tryd.underlying5 b off s.size cap ((List.range s.size).map fun j => ((s.get! j).toNat : Int)) (by simp) (fun i hi => by
      rw [h i hi]
      simp [List.getD, List.getElem?_range hi]) 9 Tryd.underlying9
    rw [nums_of] at hr
    exact hr
end Go.Proofs.YtlmpohihbdlefaaDoor
