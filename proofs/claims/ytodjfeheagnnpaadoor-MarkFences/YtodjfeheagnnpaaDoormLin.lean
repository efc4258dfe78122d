/- mark: trimmed, closed, opens, defines. -/
import Derived.Test.YtodjfeheagnnpaaDoormRow
import Derived.Test.YtodjfeheagnnpaaDoorhIdx
namespace Go.Proofs.YtodjfeheagnnpaaDoor
set_option linter.unusedVariables false
open Go.RowKit Go.ChangeShapes
theorem bl_all : (List.range 256).all (fun k => ([32, 9, 13, 10] : List UInt8).contains k.toUInt8 == blB (k : Int)) = true := by kernel_rfl
theorem bl_has {x : Int} (h : 0 ≤ x ∧ x < 256) : ([32, 9, 13, 10] : List UInt8).contains (x.toNat.toUInt8) = blB x := by
  have h1 := List.all_eq_true.1 bl_all x.toNat (List.mem_range.2 (by omega))
  have h2 : ((x.toNat : Nat) : Int) = x := by omega
  rw [h2] at h1
  exact eq_of_beq h1
theorem cl_snoc (c : Nat → Int) (n : Nat) : cl c (n + 1) = cl c n ++ [c n] := by simp [cl, List.range_succ]
theorem trim_len {c : Nat → Int} : ∀ n, (∀ i, i < n → 0 ≤ c i ∧ c i < 256) → (Lib.trimRightS (Lib.bytesOf (cl c n)) [32, 9, 13, 10]).length = tmN c n
  | 0, _ => rfl
  | n + 1, h => by
    have ih := trim_len n fun i hi => h i (by omega)
    have hb := bl_has (h n (by omega))
    show _ = if blB (c n) = true then tmN c n else n + 1
    have e : Lib.bytesOf (cl c (n + 1)) = Lib.bytesOf (cl c n) ++ [(c n).toNat.toUInt8] := by rw [cl_snoc]; simp [Lib.bytesOf]
    unfold Lib.trimRightS at ih ⊢
    rw [e, List.reverse_append]
    show (List.dropWhile _ ((c n).toNat.toUInt8 :: (Lib.bytesOf (cl c n)).reverse)).reverse.length = _
    rw [List.dropWhile_cons]
    cases hbb : blB (c n) with
    | true => rw [hb, hbb]; simpa using ih
    | false =>
      rw [hb, hbb]
      have hl : (Lib.bytesOf (cl c n)).length = n := by simp [Lib.bytesOf, cl_len]
      simp [hl]
theorem trimmed_at {w : World} {ad : Option Addr} {n cap : Nat} {c : Nat → Int} (hC : ∀ i, i < n → 0 ≤ c i ∧ c i < 256) (h : BC w ad n c) (hn : n ≤ 1000000) (hcap : n ≤ cap) (hbig : cap ≤ 9223372036854775807) :
    Calls Tryd.prog 43 #[.slice ad n cap] w fun e w' => e = .returned (.slice ad (tmN c n) cap) ∧ Below w.heap.size w w' := by
  have ct := Tryd.bytes_TrimRight ad n cap (cl c n) ⟨#[32, 9, 13, 10]⟩ w (cl_len c n) hcap hbig h.inn (fun x hx => by
    obtain ⟨i, hi, rfl⟩ := List.mem_map.1 hx
    exact hC i (List.mem_range.1 hi)) (by decide) (by
      intro j b hb
      match j, hb with
      | 0, hb => cases hb; decide
      | 1, hb => cases hb; decide
      | 2, hb => cases hb; decide
      | 3, hb => cases hb; decide
      | j + 4, hb => simp at hb)
  have e := trim_len n hC
  change (Lib.trimRightS (Lib.bytesOf (cl c n)) (ByteArray.mk #[32, 9, 13, 10]).data.toList).length = tmN c n at e
  rw [e] at ct
  clear e hC h
  go_enter Tryd.func43, Tryd.ntmps43
  go_wp2_with fail
  refine ct.mono ?_
  rintro e w1 ⟨rfl, hb⟩
  go_wp2
  go_ret
  exact ⟨rfl, hb⟩
theorem closed_at {w : World} {b off n cap : Nat} {c : Nat → Int} (hC : Ch c n) (h : BC w (some ⟨b, off, none⟩) n c) (hn : n ≤ 1000000) (hcap : n ≤ cap) (hbig : cap ≤ 9223372036854775807) (s : Int) (k : Nat) (hk : k ≤ 1000000) :
    Calls Tryd.prog 45 #[.agg #[.int .u8 s, .int .i64 k], .slice (some ⟨b, off, none⟩) n cap] w fun e w' => e = .returned (.bool (clP s k c n)) ∧ Below w.heap.size w w' := by
  obtain ⟨W, hW⟩ : ∃ W, w.alloc (.cells #[.int .u8 s, .int .i64 k] 65) = W := ⟨_, rfl⟩
  have hB0 : Below w.heap.size w W := by rw [← hW]; exact below_alloc w _
  have hW0 : W.heap[w.heap.size]? = some (.cells #[.int .u8 s, .int .i64 k] 65) := by rw [← hW]; exact heap_alloc_new _ _
  have ct := body_at hC (h.stay hB0) hn hcap hbig
  have hch := bd_ch hC
  have hle := bdN_le c n
  obtain ⟨d, hd⟩ : ∃ d, bdC c n = d := ⟨_, rfl⟩
  obtain ⟨m, hm⟩ : ∃ m, bdN c n = m := ⟨_, rfl⟩
  have hcl : clP s k c n = (decide (k ≤ tmN d m) && decide (rwP s d (tmN d m) = tmN d m)) := by unfold clP; rw [hd, hm]
  rw [hd, hm] at ct hch
  rw [hm] at hle
  obtain ⟨Q, hQ⟩ : ∃ Q, clP s k c n = Q := ⟨_, rfl⟩
  have HQ : Hid (Q = (decide (k ≤ tmN d m) && decide (rwP s d (tmN d m) = tmN d m))) := by show Q = _; rw [← hQ]; exact hcl
  rw [hQ]
  have HC : Hid (Ch d m) := hch
  clear hd hm hcl hQ hch hC h
  go_enter Tryd.func45, Tryd.ntmps45
  go_wp2_with fail
  refine ct.mono ?_
  rintro e w1 ⟨v, rfl, ⟨⟨ad, cap1, rfl, hbc, hc1, hc2, hadd⟩⟩, hb1⟩
  have hb01 : Below w.heap.size w w1 := hB0.trans (hb1.mono hB0.size)
  have ct2 := trimmed_at HC.out.1 hbc (by omega) hc1 hc2
  have h1 := blk_stay hW0 hb1
  obtain ⟨t, ht⟩ : ∃ t, tmN d m = t := ⟨_, rfl⟩
  rw [ht] at ct2
  have htm := tmN_le d m
  rw [ht] at htm
  have HT : Hid (tmN d m = t) := ht
  have HBC : Hid (BC w1 ad m d) := hbc
  have HB1 : Hid (Below w.heap.size w w1) := hb01
  clear ct ht hbc hb1 hb01 hW hB0 hadd
  go_wp2_with fail
  refine ct2.mono ?_
  rintro e w2 ⟨rfl, hb2⟩
  have h2 := blk_stay h1 hb2
  have HB2 : Hid (Below w.heap.size w w2) := HB1.out.trans (hb2.mono HB1.out.size)
  have ct3 := row_any (cap := cap1) ((HBC.out.stay hb2).upto htm) (by omega) s
  obtain ⟨r, hr⟩ : ∃ r, rwP s d t = r := ⟨_, rfl⟩
  rw [hr] at ct3
  have HR : Hid (rwP s d t = r) := hr
  have x0 : w2.cell? ⟨w.heap.size, 0, none⟩ = some (.int .u8 s) := by simp [World.cell?, h2]
  have x1 : w2.cell? ⟨w.heap.size, 1, none⟩ = some (.int .i64 k) := by simp [World.cell?, h2]
  clear ct2 hb2 h1 h2 hr hW0
  by_cases hkt : k ≤ t
  · have z1 : (k : Int) ≤ (t : Int) := by omega
    cases hrt : ((r : Int) == (t : Int)) with
    | true =>
      have hrt' : r = t := by have : (r : Int) = (t : Int) := by simpa using hrt
                              omega
      have HE : Hid (Q = true) := by show Q = true; rw [HQ.out, HT.out, HR.out]; simp [hkt, hrt']
      clear hrt'
      go_wp2_with fail
      refine ct3.mono ?_
      rintro e w3 ⟨rfl, hw⟩
      subst w3
      go_wp2
      go_ret
      exact ⟨by rw [HE.out]; rfl, HB2.out⟩
    | false =>
      have hrt' : ¬ r = t := fun e => by rw [e] at hrt; simp at hrt
      have HE : Hid (Q = false) := by show Q = false; rw [HQ.out, HT.out, HR.out]; simp [hrt']
      clear hrt'
      go_wp2_with fail
      refine ct3.mono ?_
      rintro e w3 ⟨rfl, hw⟩
      subst w3
      go_wp2
      go_ret
      exact ⟨by rw [HE.out]; rfl, HB2.out⟩
  · have z1 : ¬ (k : Int) ≤ (t : Int) := by omega
    have HE : Hid (Q = false) := by show Q = false; rw [HQ.out, HT.out, HR.out]; simp [hkt]
    go_wp2
    go_ret
    exact ⟨by rw [HE.out]; rfl, HB2.out⟩
theorem cutP_at {w : World} {b off : Nat} {p2 : Option Addr} {n cap m d : Nat} {c : Nat → Int} {t : List Int} (hC : Ch c n) (h1 : BC w (some ⟨b, off, none⟩) n c) (hcap : n ≤ cap) (h2 : BC w p2 m (fun j => t.getD j 0)) (hm : t.length = m) (ht : Byt t) (h0 : t ≠ []) (h : oc t c 0 = true) :
    Calls Tryd.prog 35 #[.slice (some ⟨b, off, none⟩) n cap, .slice p2 m d] w fun e w' => e = .returned (.tuple #[.slice (if cap = m then some ⟨b, off, none⟩ else some ⟨b, off + m, none⟩) (n - m) (cap - m), .bool true]) ∧ w' = w := by
  have := Tryd.bytes_CutPrefix_all (some ⟨b, off, none⟩) p2 n cap m d (cl c n) t w (cl_len c n) hm hcap h1.inn (fun hm0 => by
    obtain ⟨b, off, e, hc⟩ := h2.at hm0
    exact ⟨b, off, e, hc⟩)
  subst hm
  have e1 : Lib.trimPrefixV (some ⟨b, off, none⟩) n cap (cl c n) t = .slice (if cap = t.length then some ⟨b, off, none⟩ else some ⟨b, off + t.length, none⟩) (n - t.length) (cap - t.length) := by
    have h' := h
    rw [← pre_oc hC t ht] at h'
    cases t with
    | nil => exact absurd rfl h0
    | cons x t =>
      show Lib.bytesTrimPrefix b off n cap (cl c n) (x :: t) = _
      unfold Lib.bytesTrimPrefix
      rw [if_pos h']
      rfl
  rw [pre_oc hC t ht, h, e1] at this
  exact this
theorem idx_nil {w : World} {ad : Option Addr} {n cap : Nat} {c : Nat → Int} (hC : Ch c n) (h1 : BC w ad n c) (ha : (ad = none ∧ n = 0 ∧ cap = 0) ∨ ∃ b off, ad = some ⟨b, off, none⟩) (q : Int) (hq : 0 ≤ q ∧ q < 256) :
    Calls Tryd.prog 54 #[.slice ad n cap, .int .u8 q] w fun e w' => ∃ z, e = .returned (.int .i64 z) ∧ w' = w := by
  rcases ha with ⟨rfl, rfl, rfl⟩ | ⟨b, off, rfl⟩
  · exact (Tryd.bytes_IndexByte_nil q w).mono fun e w' ⟨h3, h4⟩ => ⟨_, h3, h4⟩
  · exact (idxB_any hC h1 (by simp) q hq).mono fun e w' ⟨h3, h4⟩ => ⟨_, h3, h4⟩
theorem oc1f (x : Int) (c : Nat → Int) : oc [x] c = fun j => c j == x := funext fun i => oc1 x c i
theorem ix_one {x : Int} {c : Nat → Int} {n i : Nat} (h : i ≤ n) : ixI [x] (sf c i) (n - i) = if fs (fun j => c j == x) n i < n then (fs (fun j => c j == x) n i : Int) - i else -1 := by
  have := ix_bh (t := [x]) (c := c) h
  rw [oc1f] at this
  exact this
set_option maxRecDepth 100000 in
theorem defines_at {w : World} {b off n cap : Nat} {c : Nat → Int} (hC : Ch c n) (h : BC w (some ⟨b, off, none⟩) n c) (hn : n ≤ 1000000) (hcap : n ≤ cap) (hbig : cap ≤ 9223372036854775807) :
    Calls Tryd.prog 48 #[.slice (some ⟨b, off, none⟩) n cap] w fun e w' => e = .returned (.bool (dfP c n)) ∧ Below w.heap.size w w' := by
  have ct := body_at hC h hn hcap hbig
  have hch := bd_ch hC
  have hle := bdN_le c n
  obtain ⟨d, hd⟩ : ∃ d, bdC c n = d := ⟨_, rfl⟩
  obtain ⟨m, hm⟩ : ∃ m, bdN c n = m := ⟨_, rfl⟩
  have hdf : dfP c n = ((d 0 == 91) && decide (1 < fs (fun j => d j == 93) m 1) && decide (fs (fun j => d j == 93) m 1 < m) && (d (fs (fun j => d j == 93) m 1 + 1) == 58)) := by unfold dfP dfJ; rw [hd, hm]
  rw [hd, hm] at ct hch
  rw [hm] at hle
  obtain ⟨Q, hQ⟩ : ∃ Q, dfP c n = Q := ⟨_, rfl⟩
  have HQ : Hid (Q = ((d 0 == 91) && decide (1 < fs (fun j => d j == 93) m 1) && decide (fs (fun j => d j == 93) m 1 < m) && (d (fs (fun j => d j == 93) m 1 + 1) == 58))) := by show Q = _; rw [← hQ]; exact hdf
  rw [hQ]
  have HC : Hid (Ch d m) := hch
  have hcA := fun (w' : World) => Go.Lib.run_convert_bytes_const (P := Tryd.prog) w' 22 5 #[.int .u8 91] 1 1 Tryd.underlying22 Tryd.underlying5
  have hcB := fun (w' : World) => Go.Lib.run_convert_bytes_const (P := Tryd.prog) w' 22 5 #[.int .u8 93, .int .u8 58] 2 2 Tryd.underlying22 Tryd.underlying5
  clear hd hm hdf hQ hch hC h
  go_enter Tryd.func48, Tryd.ntmps48
  go_wp2_with fail
  refine ct.mono ?_
  rintro e w1 ⟨v, rfl, ⟨⟨ad, cap1, rfl, hbc, hc1, hc2, hadd⟩⟩, hb1⟩
  obtain ⟨W, hW⟩ : ∃ W, w1.alloc (.cells #[.int .u8 91] 5 (1, 2)) = W := ⟨_, rfl⟩
  have hL1 : BC W (some ⟨w1.heap.size, 0, none⟩) 1 (fun j => [91].getD j 0) := by rw [← hW]; exact lit_bc w1 [91] (1, 2)
  have hBW : Below w1.heap.size w1 W := by rw [← hW]; exact below_alloc w1 _
  have HB1 : Hid (Below w.heap.size w W) := hb1.trans (hBW.mono hb1.size)
  have hbcW := hbc.stay hBW
  clear ct hbc
  by_cases h91 : d 0 = 91
  · have hm0 : 0 < m := by
      rcases Nat.eq_zero_or_pos m with h0 | h0
      · rw [HC.out.2 0 (by omega)] at h91; exact absurd h91 (by decide)
      · exact h0
    obtain ⟨b1, off1, rfl, -⟩ := hbcW.at hm0
    have ct1 := cutP_at (p2 := some ⟨w1.heap.size, 0, none⟩) (m := 1) (d := 1) (t := [91]) HC.out hbcW hc1 hL1 rfl (byt1 91 (by omega)) (by simp) (by rw [oc1]; simpa using h91)
    obtain ⟨ad2, had2⟩ : ∃ ad2, (if cap1 = 1 then some (⟨b1, off1, none⟩ : Addr) else some ⟨b1, off1 + 1, none⟩) = ad2 := ⟨_, rfl⟩
    have hbc2 := BC.from hbcW 1 hm0 hc1
    rw [had2] at ct1 hbc2
    obtain ⟨b2, off2, rfl⟩ : ∃ b2 off2, ad2 = some ⟨b2, off2, none⟩ := by rw [← had2]; split <;> exact ⟨_, _, rfl⟩
    have ct2 := idxB_any (cap := cap1 - 1) (HC.out.from 1 hm0) hbc2 (by simp) 93 (by omega)
    have hix : ixI [93] (fun j => d (1 + j)) (m - 1) = if fs (fun j => d j == 93) m 1 < m then (fs (fun j => d j == 93) m 1 : Int) - (1 : Nat) else -1 := ix_one hm0
    rw [hix] at ct2
    have HF1 : Hid (fs (fun j => d j == 93) m 1 < m → d (fs (fun j => d j == 93) m 1) = 93) := fun hf => by simpa using fs_hit hf
    have hge := fs_ge (fun j => d j == 93) m 1
    obtain ⟨J, hJ⟩ : ∃ J, fs (fun j => d j == 93) m 1 = J := ⟨_, rfl⟩
    rw [hJ] at ct2 HF1 HQ hge
    have HB2 : Hid (BC W (some ⟨b2, off2, none⟩) (m - 1) (fun j => d (1 + j))) := hbc2
    clear had2 hbc2 hbcW hL1 hix hJ
    by_cases hj : J < m ∧ 1 < J
    · obtain ⟨hj1, hj2⟩ := hj
      rw [if_pos hj1] at ct2
      have z0 : (0 : Int) < (J : Int) - (1 : Nat) := by omega
      obtain ⟨W2, hW2⟩ : ∃ W2, W.alloc (.cells #[.int .u8 93, .int .u8 58] 5 (2, 3)) = W2 := ⟨_, rfl⟩
      have hL2 : BC W2 (some ⟨W.heap.size, 0, none⟩) 2 (fun j => [93, 58].getD j 0) := by rw [← hW2]; exact lit_bc W [93, 58] (2, 3)
      have hB2 : Below W.heap.size W W2 := by rw [← hW2]; exact below_alloc W _
      have HB3 : Hid (Below w.heap.size w W2) := HB1.out.trans (hB2.mono HB1.out.size)
      obtain ⟨y, hy⟩ : ∃ y : Nat, y = J - 1 := ⟨_, rfl⟩
      have hyi : (J : Int) - (1 : Nat) = (y : Int) := by omega
      rw [hyi] at ct2 z0
      obtain ⟨ad3, had3⟩ : ∃ ad3, (if cap1 - 1 = y then some (⟨b2, off2, none⟩ : Addr) else some ⟨b2, off2 + y, none⟩) = ad3 := ⟨_, rfl⟩
      have hbc3 := BC.from (HB2.out.stay hB2) y (by omega) (show m - 1 ≤ cap1 - 1 by omega)
      rw [had3] at hbc3
      have ct3 := hasP_any (cap := cap1 - 1 - y) (d := 2) ((HC.out.from 1 hm0).from y (by omega)) hbc3 (by omega) hL2 rfl (byt_lit [93, 58] rfl)
      have hoc : oc [93, 58] (fun j => d (1 + (y + j))) 0 = (d (J + 1) == 58) := by
        have e1 : d (1 + (y + 0)) = 93 := by rw [show 1 + (y + 0) = J by omega]; exact HF1.out hj1
        have e2 : d (1 + (y + (0 + 1))) = d (J + 1) := by congr 1; omega
        show ((d (1 + (y + 0)) == 93) && ((d (1 + (y + (0 + 1))) == 58) && true)) = _
        rw [e1, e2]
        simp
      rw [hoc] at ct3
      obtain ⟨g, hg⟩ : ∃ g, (d (J + 1) == 58) = g := ⟨_, rfl⟩
      rw [hg] at ct3
      have HE : Hid (Q = g) := by show Q = g; rw [HQ.out, h91, hg]; simp [hj1, hj2]
      have q1 : (0 : Int) ≤ (y : Int) := by omega
      have q2 : (y : Int) ≤ ((m - 1 : Nat) : Int) := by omega
      have q3 : ((m - 1 : Nat) : Int) ≤ ((cap1 - 1 : Nat) : Int) := by omega
      obtain ⟨m1, hm1⟩ : ∃ m1, m - 1 = m1 := ⟨_, rfl⟩
      obtain ⟨p1, hp1⟩ : ∃ p1, cap1 - 1 = p1 := ⟨_, rfl⟩
      rw [hm1] at ct1 ct2 ct3 q2 q3
      rw [hp1] at ct1 ct2 ct3 q3 had3
      clear hoc hbc3 hL2 hg hyi hy hm1 hp1 HB2 HF1
      go_wp2_with fail
      refine ct1.mono ?_
      rintro e w2 ⟨rfl, hw⟩
      subst w2
      clear ct1 hW
      go_wp2_with fail
      refine ct2.mono ?_
      rintro e w2 ⟨rfl, hw⟩
      subst w2
      clear ct2
      go_wp2_with fail
      refine ct3.mono ?_
      rintro e w2 ⟨rfl, hw⟩
      subst w2
      go_wp2
      go_ret
      exact ⟨by rw [HE.out]; rfl, HB3.out⟩
    · have HE : Hid (Q = false) := by
        show Q = false
        rw [HQ.out]
        by_cases hj1 : J < m
        · have : ¬ 1 < J := fun h2 => hj ⟨hj1, h2⟩
          simp [this]
        · simp [hj1]
      obtain ⟨z, hz⟩ : ∃ z, (if J < m then (J : Int) - (1 : Nat) else -1) = z := ⟨_, rfl⟩
      rw [hz] at ct2
      have z0 : ¬ (0 : Int) < z := by
        rw [← hz]
        split
        · rename_i hj1
          have : ¬ 1 < J := fun h2 => hj ⟨hj1, h2⟩
          omega
        · omega
      clear hz hj
      go_wp2_with fail
      refine ct1.mono ?_
      rintro e w2 ⟨rfl, hw⟩
      subst w2
      clear ct1 hW
      go_wp2_with fail
      refine ct2.mono ?_
      rintro e w2 ⟨rfl, hw⟩
      subst w2
      go_wp2
      go_ret
      exact ⟨by rw [HE.out]; rfl, HB1.out⟩
  · have HE : Hid (Q = false) := by show Q = false; rw [HQ.out]; simp [h91]
    have ct1 := cutP_no (p2 := some ⟨w1.heap.size, 0, none⟩) (m := 1) (d := 1) (t := [91]) HC.out hbcW hc1 hL1 rfl (byt1 91 (by omega)) (by rw [oc1]; simpa using h91)
    have ct2 := idx_nil HC.out hbcW hadd 93 (by omega)
    clear hbcW hL1 hadd
    go_wp2_with fail
    refine ct1.mono ?_
    rintro e w2 ⟨rfl, hw⟩
    subst w2
    clear ct1 hW
    go_wp2_with fail
    refine ct2.mono ?_
    rintro e w2 ⟨z, rfl, hw⟩
    subst w2
    go_wp2
    go_ret
    exact ⟨by rw [HE.out]; rfl, HB1.out⟩
end Go.Proofs.YtodjfeheagnnpaaDoor
