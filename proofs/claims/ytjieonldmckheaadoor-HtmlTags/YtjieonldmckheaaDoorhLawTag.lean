/- HtmlTags. -/
import Derived.Test.YtjieonldmckheaaDoorhRrd2
import Derived.Test.YtjieonldmckheaaDoorhPcs
import Derived.Test.YtjieonldmckheaaDoorhCln
namespace Go.Proofs.YtjieonldmckheaaDoor
set_option linter.unusedVariables false
open Go.RowKit Go.ChangeShapes
/-- What a reader answers at any number. -/
def rdT (c : Nat → Int) (n : Nat) (i : Int) : Tg × Bool := if 0 ≤ i ∧ i < n then (match tg c n i.toNat with
  | some t => (t, true)
  | none => (⟨0, [], false, []⟩, false)) else (⟨0, [], false, []⟩, false)
def RdA (r : Tg × Bool) (w : World) (ev : Ending) (w' : World) : Prop :=
  ∃ pv, ev = .returned (.tuple #[.agg #[.int .i64 (r.1.e : Int), .string (strOfNums r.1.nm), .bool r.1.cl, pv], .bool r.2]) ∧ PR w' w.heap.size pv r.1.pr ∧ Below w.heap.size w w'
theorem rdT_out {c : Nat → Int} {n : Nat} {i : Int} (h : i < 0 ∨ (n : Int) ≤ i) : rdT c n i = (⟨0, [], false, []⟩, false) := by
  unfold rdT
  rw [if_neg (by omega)]
theorem rdT_in {c : Nat → Int} {n : Nat} (i : Nat) (h : i < n) : rdT c n (i : Int) = (match tg c n i with
  | some t => (t, true)
  | none => (⟨0, [], false, []⟩, false)) := by
  unfold rdT
  rw [if_pos (by omega), Int.toNat_natCast]
theorem rdA_of {c : Nat → Int} {n i : Nat} {w w' : World} {ev : Ending} (hi : i < n) (h : RdP c n i w ev w') : RdA (rdT c n (i : Int)) w ev w' := by
  rw [rdT_in i hi]
  rcases h with ⟨h1, h2, h3⟩ | ⟨t, pv, h1, h2, h3, h4⟩
  · rw [h1]
    exact ⟨.slice none 0 0, h2, World.ownsRow_nil _ _ _ _, h3⟩
  · rw [h1]
    exact ⟨pv, h2, h3, h4⟩
theorem rdT_ok {c : Nat → Int} {n : Nat} (hC : Ch c n) (i : Int) : (rdT c n i).1.e ≤ n ∧ (rdT c n i).1.pr.length ≤ n := by
  unfold rdT
  split
  · cases ht : tg c n i.toNat with
    | none => exact ⟨Nat.zero_le _, Nat.zero_le _⟩
    | some t =>
      have := tg_ok hC ht
      exact ⟨this.2.1, this.2.2.2.2.2.2⟩
  · exact ⟨Nat.zero_le _, Nat.zero_le _⟩
theorem read_all {w : World} {ad : Option Addr} {n cap : Nat} {c : Nat → Int} (hC : Ch c n) (h : BC w ad n c) (hn : n ≤ 65536) (hcap : n ≤ cap) (i : Int) :
    Calls Tryd.prog 17 #[.slice ad n cap, .int .i64 i] w (RdA (rdT c n i) w) := by
  by_cases hi : 0 ≤ i ∧ i < n
  · obtain ⟨j, rfl⟩ : ∃ j : Nat, i = (j : Int) := ⟨i.toNat, by omega⟩
    obtain ⟨b, off, rfl, _⟩ := h.at (show 0 < n by omega)
    exact (read_any hC h (by omega) hcap j (by omega)).mono fun ev w' hp => rdA_of (by omega) hp
  · rw [rdT_out (by omega)]
    refine (read_out (w := w) (ad := ad) (n := n) (cap := cap) i (by omega)).mono fun ev w' hp => ⟨.slice none 0 0, hp.1, World.ownsRow_nil _ _ _ _, hp.2⟩
theorem rread_all {s : ByteArray} {c : Nat → Int} {n : Nat} (h : SC s c n) (hn : n ≤ 65536) (i : Int) (w : World) :
    Calls Tryd.prog 18 #[.string s, .int .i64 i] w (RdA (rdT c n i) w) := by
  by_cases hi : 0 ≤ i ∧ i < n
  · obtain ⟨j, rfl⟩ : ∃ j : Nat, i = (j : Int) := ⟨i.toNat, by omega⟩
    exact (rread_any h (by omega) j (by omega) w).mono fun ev w' hp => rdA_of (by omega) hp
  · rw [rdT_out (by omega)]
    exact (rread_out h (by omega) i (by omega) w).mono fun ev w' hp => ⟨.slice none 0 0, hp.1, World.ownsRow_nil _ _ _ _, hp.2⟩
/-- Numbers in a row of their own. -/
def i64L (l : List Int) : List Value := l.map fun x => .int .i64 x
def OI (w : World) (base : Nat) (v : Value) (l : List Int) : Prop := w.ownsRow base 3 1 v l.length (i64L l)
theorem OI.stay {w w' : World} {base : Nat} {v : Value} {l : List Int} (h : OI w base v l) (hb : Below w.heap.size w w') : OI w' base v l := own_stay h hb
theorem info3 : (Tryd.prog.info? 3).map (fun i => (i.zero, i.size, i.bytes)) = some (some (.int .i64 0), 1, 8) := by kernel_rfl
theorem i64_one (a : Int) : ∀ u ∈ [Value.int .i64 a], u.oneCell' = true := by
  intro u hu
  simp only [List.mem_singleton] at hu
  subst hu
  rfl
set_option maxRecDepth 100000 in
set_option maxHeartbeats 2000000 in
theorem tags_law {w : World} (hG : Glo w) {ba : Option Addr} {bn bcap : Nat} {bc : Nat → Int} (hbC : Ch bc bn) (hb : BC w ba bn bc) (hbcap : bn ≤ bcap) (hbn : bn ≤ maxLen)
    {la : Option Addr} {ln lcap : Nat} {lc : Nat → Int} (hlC : Ch lc ln) (hl : BC w la ln lc) (hln : ln ≤ maxLen) (at0 : Int) :
    Calls Tryd.prog 4 #[.slice ba bn bcap, .slice la ln lcap, .int .i64 at0] w fun ev w' => ev = .returned (.bool true) ∧ Below w.heap.size w w' := by
  have ca := awake_any w hG
  have HH : Hid (Glo w ∧ Ch bc bn ∧ BC w ba bn bc ∧ bn ≤ maxLen ∧ Ch lc ln ∧ BC w la ln lc ∧ ln ≤ maxLen) := ⟨hG, hbC, hb, hbn, hlC, hl, hln⟩
  have CPs : Hid (∀ w', Calls Tryd.prog 11 #[] w' fun ev w'' => ∃ G, ev = .returned (.slice (some ⟨G, 0, none⟩) 40 40) ∧ PS w'' G psP ∧ Below w'.heap.size w' w'') := pieces_any
  clear hG hbC hb hlC hl hln hbn hbcap
  go_enter Tryd.func4, Tryd.ntmps4
  go_wp2_with fail
  refine ca.mono ?_
  rintro ev w1 ⟨rfl, hb1⟩
  have HB1 : Hid (Below w.heap.size w w1) := hb1
  clear ca hb1
  by_cases h5 : (500 : Int) < (bn : Int)
  · go_wp2
    go_ret
    exact ⟨rfl, HB1.out⟩
  · have cp := CPs.out w1
    clear CPs
    go_wp2_with fail
    refine cp.mono ?_
    rintro ev w2 ⟨G, rfl, hps, hb2⟩
    have HB2 : Hid (Below w.heap.size w w2) := HB1.out.trans (hb2.mono HB1.out.size)
    obtain ⟨S, hS⟩ : ∃ S, bts psP bc bn (nl lc ln) = S := ⟨_, rfl⟩
    have cb : Calls Tryd.prog 10 #[.slice (some ⟨G, 0, none⟩) 40 40, .slice la ln lcap, .slice ba bn bcap] w2 fun ev w' => ∃ v, ev = .returned v ∧ OB w' w2.heap.size v S ∧ Below w2.heap.size w2 w' := by
      rw [← hS]
      exact bits_any (pc := 40) (rcap := bcap) (lcap := lcap) hps (pslen (by decide)) (psbyt (by decide)) (by decide) HH.out.2.2.2.2.1 (HH.out.2.2.2.2.2.1.stay HB2.out) HH.out.2.2.2.2.2.2 HH.out.2.1 (HH.out.2.2.1.stay HB2.out) HH.out.2.2.2.1
    have hnS : S.length ≤ 6000 := by rw [← hS]; exact bts_len (pslen (by decide)) _ _ _
    have hcS : Ch (cL S) S.length := by
      rw [← hS]
      exact cL_ch (bts_byt (psbyt (by decide)) HH.out.2.1 _)
    obtain ⟨n, hn⟩ : ∃ n, S.length = n := ⟨_, rfl⟩
    rw [hn] at hnS hcS
    have HN : Hid (S.length = n ∧ Ch (cL S) n) := ⟨hn, hcS⟩
    clear hS hps hb2 hcS hn cp
    go_wp2_with fail
    refine cb.mono ?_
    rintro ev w3 ⟨v3, rfl, ho3, hb3⟩
    obtain ⟨ad, cap, rfl, hcap⟩ := ho3.form
    have HB3 : Hid (Below w.heap.size w w3) := HB2.out.trans (hb3.mono HB2.out.size)
    have HC3 : Hid (BC w3 ad n (cL S)) := by
      have := ho3.bc
      rw [HN.out.1] at this
      exact this
    rw [HN.out.1] at hcap ⊢
    obtain ⟨c, hc⟩ : ∃ c, cL S = c := ⟨_, rfl⟩
    rw [hc] at HC3 HN
    clear cb hb3 ho3 hc
    obtain ⟨W, hW⟩ : ∃ W, w3.alloc (.cells #[.int .i64 at0] 3) = W := ⟨_, rfl⟩
    have hbW : Below w3.heap.size w3 W := by rw [← hW]; exact below_alloc w3 _
    have HOW : Hid (OI W w3.heap.size (.slice (some ⟨w3.heap.size, 0, none⟩) 1 1) [at0]) := by
      show OI _ _ _ _
      rw [← hW]
      exact World.ownsRow_lit w3 #[.int .i64 at0] 1 (Nat.le_refl _) (by unfold maxLen; omega) rfl
    have HUW : Hid (Up w3.heap.size w3 W) := ⟨hbW, hbW.size⟩
    go_wp2_with fail
    clear hW hbW
    obtain ⟨i0, hi0, hzz0, hzz1, hzz2⟩ := info_parts info3
    obtain ⟨D, hD⟩ : ∃ D, w3.heap.size = D := ⟨_, rfl⟩
    have HDD : Hid (w3.heap.size = D) := hD
    rw [hD] at HOW HUW ⊢
    clear hD
    go_loopg [8, 30] n (fun q lv iv wr => ∃ (k : Nat) (pa : Option Addr) (m pc : Nat), k ≤ n ∧ m ≤ k + 1 ∧ q = n - k ∧ iv = .int .i64 k ∧ lv = .slice pa m pc ∧ Hid (∃ l, l.length = m ∧ OI wr D (.slice pa m pc) l) ∧ Hid (Up D w3 wr))
    case atStart => exact ⟨0, some ⟨D, 0, none⟩, 1, 1, Nat.zero_le _, Nat.le_refl _, rfl, rfl, rfl, ⟨[at0], rfl, HOW.out⟩, HUW⟩
    case round =>
      obtain ⟨k, pa, m, pc, hk, hm, hq, rfl, rfl, HO, HU⟩ := hrel
      by_cases hlt : k < n
      · have z1 : (k : Int) < (n : Int) := by omega
        have z2 : (0 : Int) ≤ (k : Int) := by omega
        obtain ⟨b, off, rfl, hcl⟩ := HC3.out.at (show 0 < n by omega)
        have y1 : wr.cell? ⟨b, off + k, none⟩ = some (.int .u8 (c k)) := cell_stay (hcl k hlt) (by rw [HDD.out]; exact HU.out.1)
        generalize c k = x at y1
        clear hcl
        by_cases h60 : x = 60
        · subst h60
          by_cases h30 : (m : Int) < 30
          · obtain ⟨l, hl, ho⟩ := HO.out
            have ho2 : wr.ownsRow D 3 1 (.slice pa m pc) m (i64L l) := by
              have h1 := ho
              unfold OI at h1
              rw [hl] at h1
              exact h1
            have HO2 : Hid (wr.ownsRow D 3 1 (.slice pa m pc) m (i64L l) ∧ l.length = m) := ⟨ho2, hl⟩
            have hDs : D ≤ wr.heap.size := HU.out.2
            clear hl ho ho2 HO
            go_wp2_with (at_builtin; refine wpList_append_lies _ rfl _ _ 40 rfl D 3 i0 _ 1 8 Tryd.underlying40 hi0 hzz0 hzz1 hzz2 rfl (by decide) _ _ _ rfl (HO2.out.1.alloc _) ⟨wr.heap.size, 0, none⟩ 1 1 [.int .i64 (k : Int)] rfl rfl (World.news_of_block (heap_alloc_new _ _)) (i64_one _) (by omega) (by unfold maxLen; omega) (by omega) (by simp; omega) (wr.heap.size + 1) (by simp) ?_)
            intro g1 cap1 w5 ho1 hg1 ha1 hlt1
            have HU5 : Hid (Up D w3 w5) := (HU.out.alloc _).grown hg1 (fun j hj => own_base HO2.out.1 j hj)
            have HO5 : Hid (∃ l, l.length = m + 1 ∧ OI w5 D (.slice (some ⟨g1, 0, none⟩) (m + 1) cap1) l) := by
              refine ⟨l ++ [(k : Int)], by rw [List.length_append, HO2.out.2]; rfl, ?_⟩
              unfold OI
              rw [List.length_append, HO2.out.2]
              have : i64L (l ++ [(k : Int)]) = i64L l ++ [.int .i64 (k : Int)] := by simp [i64L]
              rw [this]
              exact ho1
            clear ho1 hg1 ha1 hlt1 y1
            go_wp2
            go_roundg (n - (k + 1))
            case measure => omega
            case rel => exact ⟨k + 1, some ⟨g1, 0, none⟩, m + 1, cap1, by omega, by omega, rfl, by go_num, rfl, HO5, HU5⟩
          · go_wp2
            go_roundg (n - (k + 1))
            case measure => omega
            case rel => exact ⟨k + 1, pa, m, pc, by omega, by omega, rfl, by go_num, rfl, HO, HU⟩
        · have k60 : (x == 60) = false := by simpa using h60
          go_wp2
          go_roundg (n - (k + 1))
          case measure => omega
          case rel => exact ⟨k + 1, pa, m, pc, by omega, by omega, rfl, by go_num, rfl, HO, HU⟩
      · obtain rfl : k = n := by omega
        have z1 : ¬ (k : Int) < (k : Int) := by omega
        obtain ⟨l, hl, ho⟩ := HO.out
        have HLL : Hid (l.length = m) := hl
        have HO0 : Hid (OI wr D (.slice pa m pc) l) := ho
        clear hl ho HO
        go_wp2_with fail
        go_loopg [49] m (fun q iv wr => ∃ k : Nat, k ≤ m ∧ q = m - k ∧ iv = .int .i64 k ∧ Hid (OI wr D (.slice pa m pc) l) ∧ Hid (Up D w3 wr))
        case atStart => exact ⟨0, Nat.zero_le _, rfl, rfl, HO0, HU⟩
        case round =>
          obtain ⟨j, hj, hq2, rfl, HO3, HU3⟩ := hrel
          by_cases hjl : j < m
          · have z4 : (j : Int) < (m : Int) := by omega
            have z5 : (0 : Int) ≤ (j : Int) := by omega
            have ho2 : wr.ownsRow D 3 1 (.slice pa m pc) m (i64L l) := by
              have h1 := HO3.out
              unfold OI at h1
              rw [HLL.out] at h1
              exact h1
            obtain ⟨gp, rfl, -, -⟩ := own_at ho2 (by omega)
            obtain ⟨x, hx⟩ : ∃ x, l[j]? = some x := ⟨_, List.getElem?_eq_getElem (by rw [HLL.out]; exact hjl)⟩
            have y1 : wr.cell? ⟨gp, j, none⟩ = some (.int .i64 x) := by
              rw [World.ownsRow.cellAt ho2 j (by omega)]
              simp [i64L, hx]
            clear ho2 hx
            obtain ⟨wq, hwq⟩ : ∃ wq, wq = wr := ⟨_, rfl⟩
            rw [← hwq] at HO3 HU3 y1 ⊢
            clear hwq wr
            have HBq : Hid (Below w3.heap.size w3 wq) := by show Below _ _ _; rw [HDD.out]; exact HU3.out.1
            have cr := read_all HN.out.2 (HC3.out.stay HBq.out) (by omega) hcap x
            have hok := rdT_ok HN.out.2 x
            obtain ⟨r, hr⟩ : ∃ r, rdT c k x = r := ⟨_, rfl⟩
            have HR : Hid (rdT c k x = r) := hr
            rw [hr] at cr hok
            clear hr
            obtain ⟨QR, hQR⟩ : ∃ QR, RdA r wq = QR := ⟨_, rfl⟩
            rw [hQR] at cr
            have HQR : Hid (RdA r wq = QR) := hQR
            clear hQR
            go_wp2_with fail
            refine cr.mono ?_
            intro ev w5 hev
            rw [← HQR.out] at hev
            clear cr HQR
            obtain ⟨pv, rfl, hp5, hb5⟩ := hev
            obtain ⟨pd, pcc, rfl⟩ := hp5.form
            obtain ⟨⟨te, tnm, tcl, tpr⟩, tk⟩ := r
            obtain ⟨X, hX⟩ : ∃ X, strOfNums tnm = X := ⟨_, rfl⟩
            obtain ⟨pn, hpn⟩ : ∃ pn, tpr.length = pn := ⟨_, rfl⟩
            have HXN : Hid (strOfNums tnm = X ∧ tpr.length = pn) := ⟨hX, hpn⟩
            dsimp only at hok hp5 ⊢
            rw [hX, hpn]
            rw [hpn] at hok hp5
            obtain ⟨V, hV⟩ : ∃ V, w5.alloc (.cells #[.int .i64 (te : Int), .string X, .bool tcl, .slice pd pn pcc] 43) = V := ⟨_, rfl⟩
            have hbV : Below w5.heap.size w5 V := by rw [← hV]; exact below_alloc w5 _
            have hV0 : V.heap[w5.heap.size]? = some (.cells #[.int .i64 (te : Int), .string X, .bool tcl, .slice pd pn pcc] 43) := by rw [← hV]; exact heap_alloc_new _ _
            have HBV : Hid (Below wq.heap.size wq V) := hb5.trans (hbV.mono hb5.size)
            have HPV : Hid (PR V wq.heap.size (.slice pd pn pcc) tpr) := hp5.stay hbV
            have HCV : Hid (BC V ad k c) := (HC3.out.stay HBq.out).stay HBV.out
            have hs := str_bc (cap := cap) HCV.out
            have crr := rread_all (sc_nums HN.out.2) (by omega) x V
            obtain ⟨sx, hsx⟩ : ∃ sx, strOfNums (cl c k) = sx := ⟨_, rfl⟩
            rw [hsx] at hs crr
            rw [HR.out] at crr
            obtain ⟨QR, hQR⟩ : ∃ QR, RdA (⟨te, tnm, tcl, tpr⟩, tk) V = QR := ⟨_, rfl⟩
            rw [hQR] at crr
            have HQR : Hid (RdA (⟨te, tnm, tcl, tpr⟩, tk) V = QR) := hQR
            have HV0 : Hid (V.heap[w5.heap.size]? = some (.cells #[.int .i64 (te : Int), .string X, .bool tcl, .slice pd pn pcc] 43)) := hV0
            clear hQR hX hpn hb5 hbV hV0 hsx hp5
            go_wp2_with fail
            refine crr.mono ?_
            intro ev w6 hev
            rw [← HQR.out] at hev
            clear crr HQR hs
            obtain ⟨qv, rfl, hp6, hb6⟩ := hev
            obtain ⟨qd, qcc, rfl⟩ := hp6.form
            dsimp only at hp6 ⊢
            rw [HXN.out.1, HXN.out.2]
            rw [HXN.out.2] at hp6
            obtain ⟨V2, hV2⟩ : ∃ V2, w6.alloc (.cells #[.int .i64 (te : Int), .string X, .bool tcl, .slice qd pn qcc] 46) = V2 := ⟨_, rfl⟩
            have hbV2 : Below w6.heap.size w6 V2 := by rw [← hV2]; exact below_alloc w6 _
            have hV20 : V2.heap[w6.heap.size]? = some (.cells #[.int .i64 (te : Int), .string X, .bool tcl, .slice qd pn qcc] 46) := by rw [← hV2]; exact heap_alloc_new _ _
            have hb62 : Below V.heap.size V V2 := hb6.trans (hbV2.mono hb6.size)
            have hV1 := blk_stay HV0.out hb62
            have csm := rsame_any te X tcl (HPV.out.stay hb62) (hp6.stay hbV2) (by rw [HXN.out.2]; omega) (by omega)
            have HB2 : Hid (Below wq.heap.size wq V2) := HBV.out.trans (hb62.mono HBV.out.size)
            have a0 : V2.cell? ⟨w5.heap.size, 0, none⟩ = some (.int .i64 (te : Int)) := by simp [World.cell?, hV1]
            have a1 : V2.cell? ⟨w5.heap.size, 1, none⟩ = some (.string X) := by simp [World.cell?, hV1]
            have a2 : V2.cell? ⟨w5.heap.size, 2, none⟩ = some (.bool tcl) := by simp [World.cell?, hV1]
            have a3 : V2.cell? ⟨w5.heap.size, 3, none⟩ = some (.slice pd pn pcc) := by simp [World.cell?, hV1]
            have b0 : V2.cell? ⟨w6.heap.size, 0, none⟩ = some (.int .i64 (te : Int)) := by simp [World.cell?, hV20]
            have b1 : V2.cell? ⟨w6.heap.size, 1, none⟩ = some (.string X) := by simp [World.cell?, hV20]
            have b2 : V2.cell? ⟨w6.heap.size, 2, none⟩ = some (.bool tcl) := by simp [World.cell?, hV20]
            have b3 : V2.cell? ⟨w6.heap.size, 3, none⟩ = some (.slice qd pn qcc) := by simp [World.cell?, hV20]
            clear hp6 hb6 hbV2 hV20 hb62 hV1
            cases tk with
            | true =>
              go_wp2_with fail
              refine csm.mono ?_
              rintro ev w7 ⟨rfl, hb7⟩
              have HB7 : Hid (Below wq.heap.size wq w7) := HB2.out.trans (hb7.mono HB2.out.size)
              clear csm hb7 a0 a1 a2 a3 b0 b1 b2 b3 hV2
              go_wp2
              go_roundg (m - (j + 1))
              case measure => omega
              case rel => exact ⟨j + 1, by omega, rfl, by go_num, HO3.out.stay HB7.out, HU3.out.stay HB7.out⟩
            | false =>
              go_wp2_with fail
              refine csm.mono ?_
              rintro ev w7 ⟨rfl, hb7⟩
              have HB7 : Hid (Below wq.heap.size wq w7) := HB2.out.trans (hb7.mono HB2.out.size)
              clear csm hb7 a0 a1 a2 a3 b0 b1 b2 b3 hV2
              go_wp2
              go_roundg (m - (j + 1))
              case measure => omega
              case rel => exact ⟨j + 1, by omega, rfl, by go_num, HO3.out.stay HB7.out, HU3.out.stay HB7.out⟩
          · have z4 : ¬ (j : Int) < (m : Int) := by omega
            go_wp2
            go_ret
            refine ⟨rfl, HB3.out.trans (Below.mono ?_ HB3.out.size)⟩
            rw [HDD.out]
            exact HU3.out.1
end Go.Proofs.YtjieonldmckheaaDoor
