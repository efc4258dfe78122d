/- utf.Runes. -/
import Derived.Test.YtlmpohihbdlefaaDoorWalksE
namespace Go.Proofs.YtlmpohihbdlefaaDoor
set_option linter.unusedVariables false
open Go.RowKit Go.ChangeShapes
/-- The cells of so many runes. -/
def rcells (s : ByteArray) (k : Nat) : List Value := (List.range k).map fun j => .int .i32 (rn s (pos s j))
theorem rcells_succ (s : ByteArray) (k : Nat) : rcells s (k + 1) = rcells s k ++ [.int .i32 (rn s (pos s k))] := by
  simp [rcells, List.range_succ]
theorem info21 : (Tryd.prog.info? 21).map (fun i => (i.zero, i.size, i.bytes)) = some (some (.int .i32 0), 1, 4) := by kernel_rfl
theorem extract_from (s : ByteArray) (p : Nat) : s.extract p s.size = from_ s p := by
  apply ByteArray.ext
  rw [ByteArray.data_extract]
  rfl
theorem dec_string (s : ByteArray) (p : Nat) (w : World) (hp : p < s.size) (hT : Tabs w) :
    Calls Tryd.prog 24 #[.string (s.extract p s.size)] w fun e w' => e = .returned (.tuple #[.int .i32 (Utf8.decode s p).1, .int .i64 (Utf8.decode s p).2]) ∧ Below w.heap.size w w' := by
  have c := Tryd.utf8_DecodeRuneInString (s.extract p s.size) w hT
  rw [show Lib.decodeGo (s.extract p s.size) = Utf8.decode s p by rw [extract_from]; exact from_decodeGo s p hp] at c
  exact c
set_option maxHeartbeats 1000000 in
theorem runes_any (s : ByteArray) (w : World) (hn : s.size ≤ 5000) (hT : Tabs w) :
    Calls Tryd.prog 15 #[.string s] w fun e w' => ∃ k v, e = .returned v ∧ Ends s k ∧ w'.ownsRow w.heap.size 21 1 v k (rcells s k) ∧ Below w.heap.size w w' := by
  have HT : Hid (Tabs w) := hT
  clear hT
  obtain ⟨i0, hi, hz0, hz1, hz2⟩ := info_parts info21
  go_enter Tryd.func15, Tryd.ntmps15
  go_wp2
  go_loopg [3, 4] (s.size) (fun g l i wr => ∃ k, g = s.size - pos s k ∧ i = .int .i64 (pos s k) ∧ Hid (∀ j, j < k → pos s j < s.size) ∧ Hid (wr.ownsRow w.heap.size 21 1 l k (rcells s k)) ∧ Hid (Up w.heap.size w wr))
  case atStart => exact ⟨0, rfl, rfl, fun j hj => absurd hj (Nat.not_lt_zero j), ⟨rfl, Or.inl ⟨rfl, rfl⟩⟩, Up.refl w⟩
  case round =>
    obtain ⟨k, hg, rfl, HP, HO, HU⟩ := hrel
    have hle := pos_le s k HP.out
    by_cases hlt : pos s k < s.size
    · have z0 : (0 : Int) ≤ (pos s k : Int) := by omega
      have z1 : ((pos s k : Nat) : Int) < (s.size : Int) := by omega
      have z2 : ((pos s k : Nat) : Int) ≤ (s.size : Int) := by omega
      obtain ⟨y1, y2, y3⟩ := wd_pos s (pos s k) hlt
      have hk := pos_ge s k HP.out
      have c24 := dec_string s (pos s k) wr hlt (tabs_stay HT.out HU.out.1)
      go_wp2_with fail
      refine c24.mono ?_
      rintro e w1 ⟨rfl, hb1⟩
      have HO1 : Hid (w1.ownsRow w.heap.size 21 1 u3 k (rcells s k)) := own_stay HO.out hb1
      have HU1 : Hid (Up w.heap.size w w1) := HU.out.stay hb1
      clear hb1 c24 HO HU
      go_wp2_with fail
      refine (known_any (Utf8.decode s (pos s k)) _).mono ?_
      rintro e w2 ⟨rfl, rfl⟩
      go_wp2_with (at_builtin; refine wpList_append_own _ rfl _ _ 30 rfl w.heap.size 21 i0 _ 1 4 Tryd.underlying30 hi hz0 hz1 hz2 rfl (by decide) _ _ _ rfl (HO1.out.alloc _) ⟨w2.heap.size, 0, none⟩ 1 1 [.int .i32 (rn s (pos s k))] rfl rfl ?c1 ?c2 ?c3 ?c4 ?c5 ?_)
      case c1 =>
        intro j u hj
        match j, hj with
        | 0, hj => simp at hj; subst hj; simp [Addr.add, rn]
        | (j + 1), hj => simp at hj
      case c2 => intro u hu; simp at hu; rcases hu with rfl; rfl
      case c3 => unfold maxLen; omega
      case c4 => omega
      case c5 => have := HU1.out.2; simp only [World.size_alloc]; omega
      intro v' w3 hown2 hgr hnil
      have HO2 : Hid (w3.ownsRow w.heap.size 21 1 v' (k + 1) (rcells s (k + 1))) := by
        show w3.ownsRow _ _ _ _ _ _
        rw [rcells_succ]; exact hown2
      have HU2 : Hid (Up w.heap.size w w3) := (HU1.out.alloc _).grown hgr (own_base HO1.out)
      clear hown2 hgr hnil HO1 HU1
      have hw : (Utf8.decode s (pos s k)).2 = wd s (pos s k) := rfl
      rw [hw]
      go_wp2
      go_roundg (s.size - pos s (k + 1))
      case measure => simp only [pos]; omega
      case rel => exact ⟨k + 1, rfl, by simp [pos], fun j hj => by
        rcases Nat.lt_succ_iff_lt_or_eq.1 hj with h | h
        · exact HP.out j h
        · rw [h]; exact hlt, HO2, HU2⟩
    · have z1 : ¬ ((pos s k : Nat) : Int) < (s.size : Int) := by omega
      go_wp2_with fail
      go_ret
      exact ⟨k, _, rfl, ⟨by omega, HP.out⟩, HO.out, HU.out.1⟩
end Go.Proofs.YtlmpohihbdlefaaDoor
