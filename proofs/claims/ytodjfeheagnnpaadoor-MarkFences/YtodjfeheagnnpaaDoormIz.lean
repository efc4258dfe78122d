/- bytes.IndexAny at blanks, line ends and pointed brackets: what is known of signs and of the text; the walk; what a pointed bracket begins. -/
import Derived.Test.YtodjfeheagnnpaaDoormLnk
import Derived.Laws.Runes
import Derived.Lib.IndexAny
import Derived.Lib.IndexEntry
import Derived.Shelf.Bytes.SlTrimWalks
import Derived.Deep.WholeRow
namespace Go.Proofs.YtodjfeheagnnpaaDoor
set_option linter.unusedVariables false
open Go.RowKit Go.ChangeShapes
def chS : ByteArray := ⟨#[32, 9, 13, 10, 60, 62]⟩
theorem ch_all : (List.range 256).all (fun k => chS.data.toList.contains k.toUInt8 == anB (k : Int)) = true := by kernel_rfl
theorem ch_has {x : Int} (h : 0 ≤ x ∧ x < 256) : chS.data.toList.contains (x.toNat.toUInt8) = anB x := by
  have := List.all_eq_true.1 ch_all x.toNat (List.mem_range.2 (by omega))
  have e : ((x.toNat : Nat) : Int) = x := by omega
  rw [e] at this
  simpa using this
theorem ib_val {x : Int} (h : 0 ≤ x ∧ x < 256) : decide ((0 : Int) ≤ Lib.indexByte chS.data.toList (x.toNat.toUInt8)) = anB x := by
  rw [← Lib.contains_iff_indexByte]
  exact ch_has h
theorem an_big {x : Int} (h : 128 ≤ x) : anB x = false := by
  unfold anB
  simp
  omega
theorem ch_small : ∀ j, (h : j < chS.size) → ((chS[j]'h).toNat : Int) < 128 := by decide
/-- What is read at a byte of 128 or more. -/
structure Big (s : ByteArray) (i : Nat) : Prop where
  k : 128 ≤ (Utf8.decode s i).1
  kt : (Utf8.decode s i).1 ≤ 1114111
  w : 1 ≤ (Utf8.decode s i).2 ∧ (Utf8.decode s i).2 ≤ 4
  e : i + (Utf8.decode s i).2 ≤ s.size
  b : ∀ j, j < (Utf8.decode s i).2 → 128 ≤ bt s (i + j)
  v : (Utf8.decode s i).1 ≠ 65533 → Utf8.valid ((Utf8.decode s i).1 : Int) = true ∧ (Utf8.encode ((Utf8.decode s i).1 : Int)).size = (Utf8.decode s i).2
theorem enc_big {r : Int} (ho : okR r = true) (h : 128 ≤ r) : ∀ (j : Nat) (x : Int), (enc r)[j]? = some x → 128 ≤ x := by
  have hr := (okR_iff r).1 ho
  intro j x hx
  have hx' : x ∈ enc r := List.mem_of_getElem? hx
  unfold enc at hx'
  rw [if_neg (by rw [ho]; decide), if_neg (by omega)] at hx'
  split at hx'
  · simp at hx'; omega
  · split at hx'
    · simp at hx'; omega
    · simp at hx'; omega
theorem encode_len {r : Int} (hv : Utf8.valid r = true) (h : 128 ≤ r) : (Utf8.encode r).size = lenR r := by
  have h0 : ¬ r.toNat < 128 := by omega
  have e1 : lenR r = if r < 2048 then 2 else if r < 65536 then 3 else 4 := by unfold lenR; rw [if_neg (show ¬ r < 128 by omega)]
  rw [e1]
  unfold Utf8.encode
  simp only [hv, if_true, h0, if_false]
  by_cases h1 : r < 2048
  · rw [if_pos h1, if_pos (show r.toNat < 2048 by omega)]; rfl
  · rw [if_neg h1, if_neg (show ¬ r.toNat < 2048 by omega)]
    by_cases h2 : r < 65536
    · rw [if_pos h2, if_pos (show r.toNat < 65536 by omega)]; rfl
    · rw [if_neg h2, if_neg (show ¬ r.toNat < 65536 by omega)]; rfl
theorem big_of {s : ByteArray} {i : Nat} (hi : i < s.size) (h : 128 ≤ bt s i) : Big s i := by
  rcases sign_or s i hi with hs | ⟨hd, -, -⟩
  · have hr := (okR_iff _).1 hs.1
    have h128 : 128 ≤ rn s i := by
      rcases Int.lt_or_le (rn s i) 128 with h1 | h1
      · have h2 : (enc (rn s i))[0]? = some (rn s i) := by
          unfold enc
          rw [if_neg (by rw [hs.1]; decide), if_pos h1]
          rfl
        have := hs.2.2 0 _ h2
        rw [Nat.add_zero] at this
        omega
      · exact h1
    have hread := hs.read
    have hl := lenR_pos (rn s i)
    have hk : (((rn s i).toNat : Nat) : Int) = rn s i := by omega
    have hv : Utf8.valid (rn s i) = true := by unfold Utf8.valid; simp; omega
    refine ⟨?_, ?_, ?_, ?_, ?_, fun _ => ?_⟩
    · rw [hread]; dsimp only; omega
    · rw [hread]; dsimp only; omega
    · rw [hread]; exact hl
    · rw [hread]; exact hs.2.1
    · rw [hread]
      intro j hj
      dsimp only at hj
      have hj2 : j < (enc (rn s i)).length := by rw [enc_len _ hs.1]; exact hj
      have h3 := hs.2.2 j _ (List.getElem?_eq_getElem hj2)
      have h4 := enc_big hs.1 h128 j _ (List.getElem?_eq_getElem hj2)
      omega
    · rw [hread]
      dsimp only
      rw [hk]
      exact ⟨hv, encode_len hv h128⟩
  · refine ⟨by rw [hd]; decide, by rw [hd]; decide, by rw [hd]; decide, by rw [hd]; dsimp only; omega, ?_, fun hne => absurd (by rw [hd]) hne⟩
    rw [hd]
    intro j hj
    obtain rfl : j = 0 := by dsimp only at hj; omega
    exact h
theorem oc_all {c : Nat → Int} : ∀ (t : List Int) (i : Nat), oc t c i = true → ∀ k x, t[k]? = some x → c (i + k) = x
  | [], _, _, k, x, hx => by simp at hx
  | y :: t, i, h, k, x, hx => by
    have h' : (c i == y) = true ∧ oc t c (i + 1) = true := by
      have : ((c i == y) && oc t c (i + 1)) = true := h
      simpa using this
    cases k with
    | zero => simp at hx; subst hx; simpa using h'.1
    | succ k =>
      have := oc_all t (i + 1) h'.2 k x (by simpa using hx)
      rw [show i + (k + 1) = i + 1 + k by omega]
      exact this
/-- No sign beyond ASCII is in the text. -/
theorem ix_big {r : Int} (hv : Utf8.valid r = true) (h : 128 ≤ r) : Lib.index chS.data.toList (Utf8.encode r).data.toList = -1 := by
  obtain ⟨f1, f2, f3⟩ := encode_facts r hv h
  obtain ⟨t, ht⟩ : ∃ t : List Int, (Utf8.encode r).data.toList.map (fun b : UInt8 => (b.toNat : Int)) = t := ⟨_, rfl⟩
  have hb : Byt t := fun x hx => by
    rw [← ht] at hx
    obtain ⟨b, _, rfl⟩ := List.mem_map.1 hx
    have := UInt8.toNat_lt b
    omega
  have hbo : Lib.bytesOf t = (Utf8.encode r).data.toList := by
    rw [← ht]
    unfold Lib.bytesOf
    rw [List.map_map]
    conv => rhs; rw [← List.map_id (Utf8.encode r).data.toList]
    refine List.map_congr_left fun b _ => ?_
    simp
  have hlen : t.length = (Utf8.encode r).size := by rw [← ht, List.length_map]; rfl
  have hch : Lib.bytesOf (cl (cL [32, 9, 13, 10, 60, 62]) 6) = chS.data.toList := by kernel_rfl
  rw [← hch, ← hbo, index_ix (c := cL [32, 9, 13, 10, 60, 62]) (n := 6) (cL_ch (byt_lit [32, 9, 13, 10, 60, 62] rfl)) t hb (fun e => by rw [e] at hlen; simp at hlen; omega)]
  unfold ixI
  rw [if_neg]
  intro hlt
  have ho := fs_hit hlt
  have hl : (Utf8.encode r).size - 1 < (Utf8.encode r).size := by omega
  have hx : t[(Utf8.encode r).size - 1]? = some ((((Utf8.encode r)[(Utf8.encode r).size - 1]'hl).toNat : Nat) : Int) := by
    rw [← ht, List.getElem?_map]
    have : (Utf8.encode r).data.toList[(Utf8.encode r).size - 1]? = some ((Utf8.encode r)[(Utf8.encode r).size - 1]'hl) := by
      rw [Array.getElem?_toList]
      exact Array.getElem?_eq_getElem hl
    rw [this]
    rfl
  have h1 := oc_all t _ ho _ _ hx
  have h2 := f3 hl
  have h3 : ∀ j, cL [32, 9, 13, 10, 60, 62] j < 128 := fun j => by
    rcases Nat.lt_or_ge j 6 with hj | hj
    · rcases (show j = 0 ∨ j = 1 ∨ j = 2 ∨ j = 3 ∨ j = 4 ∨ j = 5 by omega) with rfl | rfl | rfl | rfl | rfl | rfl <;> decide
    · rw [cL_out (by simpa using hj)]; decide
  have h4 := h3 (fs (oc t (cL [32, 9, 13, 10, 60, 62])) 6 0 + ((Utf8.encode r).size - 1))
  omega
end Go.Proofs.YtodjfeheagnnpaaDoor
namespace Go.Proofs.YtodjfeheagnnpaaDoor
set_option linter.unusedVariables false
open Go.RowKit Go.ChangeShapes
theorem su_any (n : Int) (w : World) : Calls Tryd.prog 93 #[.int .i64 n] w fun e w' => e = .returned (.bool (decide (8 < n))) ∧ w' = w := by
  go_enter Tryd.func93, Tryd.ntmps93
  go_wp2
  go_ret
  exact ⟨rfl, rfl⟩
theorem ib_run (x : Int) (w : World) : (callFunc 91 #[.string ⟨#[32, 9, 13, 10, 60, 62]⟩, .int .u8 x]).run Tryd.prog w = .ok (.value (.int .i64 (Lib.indexByte chS.data.toList x.toNat.toUInt8))) w := by
  rw [run_callFunc_extern Tryd.func91 (by kernel_rfl) (by kernel_rfl) (by kernel_rfl) (e := Extern.BytealgIndexByte.indexByte) (by kernel_rfl), Lib.run_indexByteString]
  rfl
theorem is_run {r : Int} (hv : Utf8.valid r = true) (h : 128 ≤ r) {w : World} {m : Int} (hm : w.cell? ⟨1, 0, none⟩ = some (.int .i64 m)) (hb : ((Utf8.encode r).size : Int) ≤ m) : (callFunc 94 #[.string ⟨#[32, 9, 13, 10, 60, 62]⟩, .string (Utf8.encode r)]).run Tryd.prog w = .ok (.value (.int .i64 (-1))) w := by
  obtain ⟨f1, f2, -⟩ := encode_facts r hv h
  have := Lib.run_indexString (P := Tryd.prog) chS (Utf8.encode r) w 1 m (by kernel_rfl) hm f1 hb (by decide)
  rw [ix_big hv h] at this
  rw [run_callFunc_extern Tryd.func94 (by kernel_rfl) (by kernel_rfl) (by kernel_rfl) (e := Extern.BytealgIndex.index) (by kernel_rfl)]
  show ((Extern.BytealgIndex.index #[.string chS, .string (Utf8.encode r)]).run Tryd.prog w).andThen _ = _
  rw [this]
  rfl
theorem ia_hit {c : Nat → Int} {n i : Nat} (hi : i < n) (h : ∀ j, j < i → anB (c j) = false) (hh : anB (c i) = true) : iaV c n = (i : Int) := by
  have e : fs (fun j => anB (c j)) n 0 = i := fs_is (Nat.zero_le _) (Nat.le_of_lt hi) (fun k _ hk => h k hk) (fun _ => hh)
  unfold iaV
  rw [e, if_pos hi]
theorem ia_none {c : Nat → Int} {n : Nat} (h : ∀ j, j < n → anB (c j) = false) : iaV c n = -1 := by
  have e : fs (fun j => anB (c j)) n 0 = n := fs_is (Nat.zero_le _) (Nat.le_refl _) (fun k _ hk => h k hk) (fun hh => absurd hh (Nat.lt_irrefl _))
  unfold iaV
  rw [e, if_neg (Nat.lt_irrefl _)]
set_option maxRecDepth 100000 in
set_option maxHeartbeats 2000000 in
theorem ia_short {w : World} {b off n cap : Nat} {c : Nat → Int} (hC : Ch c n) (h : BC w (some ⟨b, off, none⟩) n c) (hn : n = 0 ∨ (2 ≤ n ∧ n ≤ 8)) (hcap : n ≤ cap) (hbig : cap ≤ 9223372036854775807) (hG : GlM w) :
    Calls Tryd.prog 88 #[.slice (some ⟨b, off, none⟩) n cap, .string ⟨#[32, 9, 13, 10, 60, 62]⟩] w fun e w' => e = .returned (.int .i64 (iaV c n)) ∧ Below w.heap.size w w' := by
  have HH : Hid (BC w (some ⟨b, off, none⟩) n c ∧ Ch c n ∧ GlM w) := ⟨h, hC, hG⟩
  have k1 : ((n : Int) == 1) = false := by simp only [beq_eq_false_iff_ne]; omega
  have cS := su_any (n : Int) w
  rw [decide_eq_false (show ¬ (8 : Int) < (n : Int) by omega)] at cS
  have z3 : (n : Int) ≤ (cap : Int) := by omega
  have hn8 : n ≤ 8 := by omega
  obtain ⟨Z, hZ⟩ : ∃ Z, iaV c n = Z := ⟨_, rfl⟩
  have HZ : Hid (iaV c n = Z) := hZ
  rw [hZ]
  clear h hC hG hZ hn
  go_enter Tryd.func88, Tryd.ntmps88
  go_wp2_with fail
  refine cS.mono ?_
  rintro e w1 ⟨rfl, hw⟩
  subst w1
  clear cS
  go_wp2
  go_loopg [12] n (fun q iv wr => ∃ i : Nat, q = n - i ∧ i ≤ n ∧ iv = .int .i64 i ∧ Hid (∀ j, j < i → anB (c j) = false) ∧ Hid (Below w.heap.size w wr))
  case atStart => exact ⟨0, rfl, Nat.zero_le _, rfl, fun j hj => absurd hj (Nat.not_lt_zero _), Below.refl _ _⟩
  case round =>
    obtain ⟨i, hq, hi, rfl, HN, HB⟩ := hrel
    by_cases hlt : i < n
    · have z1 : (i : Int) < (n : Int) := by omega
      have z2 : (0 : Int) ≤ (i : Int) := by omega
      have z4 : (i : Int) ≤ (n : Int) := by omega
      obtain ⟨b', off', eb, hc⟩ := HH.out.1 i hlt
      injection eb with eb
      injection eb with e1 e2 _
      subst e1 e2
      have hcw := cell_stay hc HB.out
      have hxb := HH.out.2.1.1 i hlt
      obtain ⟨x, hx⟩ : ∃ x, c i = x := ⟨_, rfl⟩
      have HX : Hid (c i = x) := hx
      rw [hx] at hcw hxb
      clear hc hx
      by_cases h128 : x < 128
      · have hib := ib_run x
        have hiv := ib_val hxb
        obtain ⟨q', hq'⟩ : ∃ q', Lib.indexByte chS.data.toList x.toNat.toUInt8 = q' := ⟨_, rfl⟩
        rw [hq'] at hiv
        have hib' : ∀ w', (callFunc 91 #[.string ⟨#[32, 9, 13, 10, 60, 62]⟩, .int .u8 x]).run Tryd.prog w' = .ok (.value (.int .i64 q')) w' := fun w' => by rw [hib w', hq']
        clear hib hq'
        cases ha : anB x with
        | true =>
          rw [ha] at hiv
          have k2 : (0 : Int) ≤ q' := of_decide_eq_true hiv
          have HF : Hid ((i : Int) = Z) := by show _ = _; rw [← HZ.out, ia_hit hlt HN.out (by rw [HX.out]; exact ha)]
          clear hiv ha
          go_wp2
          go_ret
          exact ⟨by rw [← HF.out]; rfl, HB.out⟩
        | false =>
          rw [ha] at hiv
          have k2 : ¬ (0 : Int) ≤ q' := of_decide_eq_false hiv
          have HN2 : Hid (∀ j, j < i + 1 → anB (c j) = false) := fun j hj => by
            rcases Nat.lt_or_ge j i with h1 | h1
            · exact HN.out j h1
            · obtain rfl : j = i := by omega
              rw [HX.out]; exact ha
          clear hiv ha
          go_wp2
          go_roundg (n - (i + 1))
          case measure => omega
          case rel => exact ⟨i + 1, rfl, by omega, by go_num, HN2.out, HB⟩
      · have k2 : ¬ x < 128 := h128
        have hbt : 128 ≤ bt (bs c n) i := by
          have := bs_bt HH.out.2.1.1 hlt
          rw [HX.out] at this
          omega
        have hBig := big_of (s := bs c n) (i := i) (by rw [bs_size]; exact hlt) hbt
        have cD := Tryd.utf8_DecodeRune (Lns.from_ (bs c n) i) b (off + i) (cap - i) wr (HH.out.2.2.stay HB.out).2 (fun j hj => by
          rw [Lns.from_get, Nat.add_assoc]
          exact bs_by HH.out.2.1.1 (HH.out.1.stay HB.out) (i + j) (by rw [Lns.from_size] at hj; omega))
        rw [Lns.from_decodeGo (bs c n) i (by rw [bs_size]; exact hlt), Lns.from_size, bs_size] at cD
        have hb2 := hBig.b
        have hk := hBig.k
        have hkt := hBig.kt
        have hw := hBig.w
        have he := hBig.e
        have hv := hBig.v
        rw [bs_size] at he
        obtain ⟨K, hK⟩ : ∃ K, (Utf8.decode (bs c n) i).1 = K := ⟨_, rfl⟩
        obtain ⟨Wd, hWd⟩ : ∃ Wd, (Utf8.decode (bs c n) i).2 = Wd := ⟨_, rfl⟩
        rw [hK] at hk hkt hv
        rw [hWd] at hw he hb2 hv
        rw [hK, hWd] at cD
        have HNX : Hid (∀ j, j < i + Wd → anB (c j) = false) := fun j hj => by
          rcases Nat.lt_or_ge j i with h1 | h1
          · exact HN.out j h1
          · have h2 := hb2 (j - i) (by omega)
            rw [show i + (j - i) = j by omega] at h2
            have h3 := bs_bt HH.out.2.1.1 (show j < n by omega)
            exact an_big (by omega)
        have HV : Hid (K ≠ 65533 → Utf8.valid (K : Int) = true ∧ (Utf8.encode (K : Int)).size = Wd) := hv
        have y5 : ¬ cap = i := by omega
        clear hBig hbt hb2 hK hWd hv
        go_wp2_with fail
        refine cD.mono ?_
        rintro e w1 ⟨rfl, hb1⟩
        have HB1 : Hid (Below w.heap.size w w1) := HB.out.trans (hb1.mono HB.out.size)
        clear cD hb1
        by_cases hKe : K = 65533
        · have k3 : ((K : Int) != 65533) = false := by rw [hKe]; rfl
          have hKe2 : 65533 ≤ K := by omega
          clear hKe
          obtain ⟨wI, hwI⟩ : ∃ wI, wI = w1 := ⟨_, rfl⟩
          subst hwI
          go_wp2
          go_loopg [15] 6 (fun q _ wx => ∃ j : Nat, j + q = 6 ∧ wx = wI.iter ⟨#[32, 9, 13, 10, 60, 62]⟩ j)
          case atStart => exact ⟨0, rfl, rfl⟩
          case round =>
            obtain ⟨j, hj6, hwx⟩ := hrel
            subst hwx
            cases gk with
            | zero =>
              obtain rfl : j = 6 := by omega
              have hnx := run_next_end (P := Tryd.prog) wI ⟨#[32, 9, 13, 10, 60, 62]⟩ 6
              have HBX : Hid (Below w.heap.size w (wI.iter ⟨#[32, 9, 13, 10, 60, 62]⟩ 6)) := HB1.out.trans ((below_alloc wI _).mono HB1.out.size)
              go_wp2
              go_roundg (n - (i + Wd))
              case measure => omega
              case rel => exact ⟨i + Wd, rfl, by omega, by go_num, HNX.out, HBX⟩
            | succ gg =>
              have hj5 : j < (chS).size := by show j < 6; omega
              have hsm := ch_small j hj5
              have hnx := fun ty => run_next_ascii (P := Tryd.prog) wI ⟨#[32, 9, 13, 10, 60, 62]⟩ j ty hj5 (by have := hsm; have h9 : ((chS[j]'hj5).toNat : Int) < 128 := this; show (chS[j]'hj5).toNat < 128; omega)
              obtain ⟨y, hy⟩ : ∃ y, (chS[j]'hj5).toNat = y := ⟨_, rfl⟩
              rw [show ((⟨#[32, 9, 13, 10, 60, 62]⟩ : ByteArray)[j]'hj5).toNat = y from hy] at hnx
              rw [hy] at hsm
              have kne : ((K : Int) == (y : Int)) = false := by simp only [beq_eq_false_iff_ne]; omega
              clear hy hsm
              go_wp2
              go_roundg gg
              case measure => omega
              case rel => exact ⟨j + 1, by omega, rfl⟩
        · have k3 : ((K : Int) != 65533) = true := by simp only [bne_iff_ne, ne_eq]; omega
          have k4 : ((6 : Int) == (Wd : Int)) = false := by simp only [beq_eq_false_iff_ne]; omega
          have hve := HV.out hKe
          obtain ⟨m, hm⟩ := (HH.out.2.2.stay HB1.out).1
          by_cases hmw : (Wd : Int) ≤ m
          · have hix := is_run hve.1 (show (128 : Int) ≤ (K : Int) by omega) hm (by rw [hve.2]; exact hmw)
            have HBX : Hid (Below w.heap.size w w1) := HB1
            clear hve hKe
            go_wp2
            go_roundg (n - (i + Wd))
            case measure => omega
            case rel => exact ⟨i + Wd, rfl, by omega, by go_num, HNX.out, HBX⟩
          · clear hve hKe
            obtain ⟨wI, hwI⟩ : ∃ wI, wI = w1 := ⟨_, rfl⟩
            subst hwI
            go_wp2
            go_loopg [15] 6 (fun q _ wx => ∃ j : Nat, j + q = 6 ∧ wx = wI.iter ⟨#[32, 9, 13, 10, 60, 62]⟩ j)
            case atStart => exact ⟨0, rfl, rfl⟩
            case round =>
              obtain ⟨j, hj6, hwx⟩ := hrel
              subst hwx
              cases gk with
              | zero =>
                obtain rfl : j = 6 := by omega
                have hnx := run_next_end (P := Tryd.prog) wI ⟨#[32, 9, 13, 10, 60, 62]⟩ 6
                have HBX : Hid (Below w.heap.size w (wI.iter ⟨#[32, 9, 13, 10, 60, 62]⟩ 6)) := HB1.out.trans ((below_alloc wI _).mono HB1.out.size)
                go_wp2
                go_roundg (n - (i + Wd))
                case measure => omega
                case rel => exact ⟨i + Wd, rfl, by omega, by go_num, HNX.out, HBX⟩
              | succ gg =>
                have hj5 : j < (chS).size := by show j < 6; omega
                have hsm := ch_small j hj5
                have hnx := fun ty => run_next_ascii (P := Tryd.prog) wI ⟨#[32, 9, 13, 10, 60, 62]⟩ j ty hj5 (by have := hsm; have h9 : ((chS[j]'hj5).toNat : Int) < 128 := this; show (chS[j]'hj5).toNat < 128; omega)
                obtain ⟨y, hy⟩ : ∃ y, (chS[j]'hj5).toNat = y := ⟨_, rfl⟩
                rw [show ((⟨#[32, 9, 13, 10, 60, 62]⟩ : ByteArray)[j]'hj5).toNat = y from hy] at hnx
                rw [hy] at hsm
                have kne : ((K : Int) == (y : Int)) = false := by simp only [beq_eq_false_iff_ne]; omega
                clear hy hsm
                go_wp2
                go_roundg gg
                case measure => omega
                case rel => exact ⟨j + 1, by omega, rfl⟩
    · obtain rfl : i = n := by omega
      have z1 : ¬ (i : Int) < (i : Int) := by omega
      have HF : Hid ((-1 : Int) = Z) := by show _ = _; rw [← HZ.out, ia_none HN.out]
      go_wp2
      go_ret
      exact ⟨by rw [← HF.out]; rfl, HB.out⟩
end Go.Proofs.YtodjfeheagnnpaaDoor
namespace Go.Proofs.YtodjfeheagnnpaaDoor
set_option linter.unusedVariables false
open Go.RowKit Go.ChangeShapes
set_option maxRecDepth 100000 in
set_option maxHeartbeats 2000000 in
theorem ia_one {w : World} {b off cap : Nat} {c : Nat → Int} (hC : Ch c 1) (h : BC w (some ⟨b, off, none⟩) 1 c) (hcap : 1 ≤ cap) (hbig : cap ≤ 9223372036854775807) :
    Calls Tryd.prog 88 #[.slice (some ⟨b, off, none⟩) 1 cap, .string ⟨#[32, 9, 13, 10, 60, 62]⟩] w fun e w' => e = .returned (.int .i64 (iaV c 1)) ∧ Below w.heap.size w w' := by
  obtain ⟨b', off', eb, hc⟩ := h 0 (by decide)
  injection eb with eb
  injection eb with e1 e2 _
  subst e1 e2
  rw [Nat.add_zero] at hc
  have hxb := hC.1 0 (by decide)
  obtain ⟨x, hx⟩ : ∃ x, c 0 = x := ⟨_, rfl⟩
  have HX : Hid (c 0 = x) := hx
  rw [hx] at hc hxb
  obtain ⟨Z, hZ⟩ : ∃ Z, iaV c 1 = Z := ⟨_, rfl⟩
  have HZ : Hid (iaV c 1 = Z) := hZ
  rw [hZ]
  clear h hC hx hZ
  by_cases h128 : x < 128
  · have k2 : ¬ 128 ≤ x := by omega
    have hiv := ib_val hxb
    obtain ⟨q', hq'⟩ : ∃ q', Lib.indexByte chS.data.toList x.toNat.toUInt8 = q' := ⟨_, rfl⟩
    rw [hq'] at hiv
    have hib' : ∀ w', (callFunc 91 #[.string ⟨#[32, 9, 13, 10, 60, 62]⟩, .int .u8 x]).run Tryd.prog w' = .ok (.value (.int .i64 q')) w' := fun w' => by rw [ib_run x w', hq']
    clear hq'
    cases ha : anB x with
    | true =>
      rw [ha] at hiv
      have k3 : (0 : Int) ≤ q' := of_decide_eq_true hiv
      have HF : Hid ((0 : Int) = Z) := by show _ = _; rw [← HZ.out, ia_hit (i := 0) (by decide) (fun j hj => absurd hj (Nat.not_lt_zero _)) (by rw [HX.out]; exact ha)]; rfl
      clear hiv ha
      go_enter Tryd.func88, Tryd.ntmps88
      go_wp2
      go_ret
      exact ⟨by rw [← HF.out]; rfl, Below.refl _ _⟩
    | false =>
      rw [ha] at hiv
      have k3 : ¬ (0 : Int) ≤ q' := of_decide_eq_false hiv
      have HF : Hid ((-1 : Int) = Z) := by
        show _ = _
        rw [← HZ.out, ia_none fun j hj => ?_]
        obtain rfl : j = 0 := by omega
        rw [HX.out]; exact ha
      clear hiv ha
      go_enter Tryd.func88, Tryd.ntmps88
      go_wp2
      go_ret
      exact ⟨by rw [← HF.out]; rfl, Below.refl _ _⟩
  · have k2 : 128 ≤ x := by omega
    have HF : Hid ((-1 : Int) = Z) := by
      show _ = _
      rw [← HZ.out, ia_none fun j hj => ?_]
      obtain rfl : j = 0 := by omega
      rw [HX.out]; exact an_big k2
    go_enter Tryd.func88, Tryd.ntmps88
    go_wp2
    go_loopg [5] 6 (fun q _ wx => ∃ j : Nat, j + q = 6 ∧ wx = w.iter ⟨#[32, 9, 13, 10, 60, 62]⟩ j)
    case atStart => exact ⟨0, rfl, rfl⟩
    case round =>
      obtain ⟨j, hj6, hwx⟩ := hrel
      subst hwx
      cases gk with
      | zero =>
        obtain rfl : j = 6 := by omega
        have hnx := run_next_end (P := Tryd.prog) w ⟨#[32, 9, 13, 10, 60, 62]⟩ 6
        go_wp2
        go_ret
        exact ⟨by rw [← HF.out]; rfl, below_alloc w _⟩
      | succ gg =>
        have hj5 : j < (chS).size := by show j < 6; omega
        have hsm := ch_small j hj5
        have hnx := fun ty => run_next_ascii (P := Tryd.prog) w ⟨#[32, 9, 13, 10, 60, 62]⟩ j ty hj5 (by have := hsm; have h9 : ((chS[j]'hj5).toNat : Int) < 128 := this; show (chS[j]'hj5).toNat < 128; omega)
        obtain ⟨y, hy⟩ : ∃ y, (chS[j]'hj5).toNat = y := ⟨_, rfl⟩
        rw [show ((⟨#[32, 9, 13, 10, 60, 62]⟩ : ByteArray)[j]'hj5).toNat = y from hy] at hnx
        rw [hy] at hsm
        have kne : ((y : Int) == 65533) = false := by simp only [beq_eq_false_iff_ne]; omega
        clear hy hsm
        go_wp2
        go_roundg gg
        case measure => omega
        case rel => exact ⟨j + 1, by omega, rfl⟩
theorem lays11 : Go.Proofs.SlLaysV.n11 Tryd.prog Tryd.laysV7_ren := { Tryd.laysV7 with }
theorem lays16 : Go.Proofs.SlLaysV.n16 Tryd.prog Tryd.laysV7_ren := { Tryd.laysV7 with }
theorem mas_any (w : World) : Calls Tryd.prog 68 #[.string ⟨#[32, 9, 13, 10, 60, 62]⟩] w fun e w' => e = .returned (.tuple #[.agg (Lib.setCells chS.data.toList), .bool true]) ∧ Below w.heap.size w w' := by
  have := Any.bytes_makeASCIISet lays11 (fun w => by kernel_rfl) (by kernel_rfl) chS w (by decide) (fun j b hb => by
    have h1 : ∀ b ∈ chS.data.toList, b.toNat < 128 := by decide
    exact h1 b (List.mem_of_getElem? hb))
  refine this.mono ?_
  rintro e w' ⟨rfl, rfl⟩
  exact ⟨rfl, below_alloc w _⟩
theorem has_any {w : World} {T : Nat} {t : TypeId} (h : w.heap[T]? = some (.cells (Lib.setCells chS.data.toList) t)) {x : Int} (hx : 0 ≤ x ∧ x < 256) :
    Calls Tryd.prog 79 #[.pointer (some ⟨T, 0, none⟩), .int .u8 x] w fun e w' => e = .returned (.bool (anB x)) ∧ w' = w := by
  have e1 : ((x.toNat.toUInt8).toNat : Int) = x := by simp; omega
  have e2 : w.cell? ⟨T, (x.toNat.toUInt8).toNat, none⟩ = some (.bool (anB x)) := by
    simp only [World.cell?, h]
    rw [Lib.setCells_at, ch_has hx]
    rfl
  have := Any.bytes_asciiSet_contains lays16 T (x.toNat.toUInt8) (anB x) w e2
  rw [e1] at this
  exact this
set_option maxRecDepth 100000 in
set_option maxHeartbeats 2000000 in
theorem ia_long {w : World} {b off n cap : Nat} {c : Nat → Int} (hC : Ch c n) (h : BC w (some ⟨b, off, none⟩) n c) (hn : 8 < n) (hn6 : n ≤ 65536) (hcap : n ≤ cap) (hbig : cap ≤ 9223372036854775807) :
    Calls Tryd.prog 88 #[.slice (some ⟨b, off, none⟩) n cap, .string ⟨#[32, 9, 13, 10, 60, 62]⟩] w fun e w' => e = .returned (.int .i64 (iaV c n)) ∧ Below w.heap.size w w' := by
  have HH : Hid (BC w (some ⟨b, off, none⟩) n c ∧ Ch c n) := ⟨h, hC⟩
  have k1 : ((n : Int) == 1) = false := by simp only [beq_eq_false_iff_ne]; omega
  have cS := su_any (n : Int) w
  rw [decide_eq_true (show (8 : Int) < (n : Int) by omega)] at cS
  have cM := mas_any w
  obtain ⟨Z, hZ⟩ : ∃ Z, iaV c n = Z := ⟨_, rfl⟩
  have HZ : Hid (iaV c n = Z) := hZ
  rw [hZ]
  have hss := Lib.setCells_size chS.data.toList
  obtain ⟨SC, hSC⟩ : ∃ SC, Lib.setCells chS.data.toList = SC := ⟨_, rfl⟩
  have HSC : Hid (Lib.setCells chS.data.toList = SC) := hSC
  rw [hSC] at cM hss
  clear h hC hZ hSC
  go_enter Tryd.func88, Tryd.ntmps88
  go_wp2_with fail
  refine cS.mono ?_
  rintro e w1 ⟨rfl, hw⟩
  subst w1
  clear cS
  go_wp2_with fail
  refine cM.mono ?_
  rintro e w2 ⟨rfl, hb2⟩
  clear cM
  have hsc := run_storeCells_new (P := Tryd.prog) w2 108 Tryd.zeroCells108 SC (by rw [hss]; kernel_rfl) (by rw [hss]; kernel_rfl) (by rw [← HSC.out]; exact Lib.setCells_one _)
  obtain ⟨V, hV⟩ : ∃ V, w2.alloc (.cells SC 108) = V := ⟨_, rfl⟩
  have HV : Hid (V.heap[w2.heap.size]? = some (.cells (Lib.setCells chS.data.toList) 108) ∧ Below w.heap.size w V) := by
    refine ⟨?_, ?_⟩
    · rw [← hV, HSC.out]; exact heap_alloc_new _ _
    · rw [← hV]; exact hb2.trans ((below_alloc w2 _).mono hb2.size)
  clear hb2
  go_wp2_with fail
  (try rw [hV])
  obtain ⟨T, hT⟩ : ∃ T, w2.heap.size = T := ⟨_, rfl⟩
  rw [hT] at HV
  (try rw [hT])
  clear hsc hV hT
  go_loopg [62] n (fun q iv wr => ∃ i : Nat, q = n - i ∧ i ≤ n ∧ iv = .int .i64 i ∧ Hid (∀ j, j < i → anB (c j) = false) ∧ wr = V)
  case atStart => exact ⟨0, rfl, Nat.zero_le _, rfl, fun j hj => absurd hj (Nat.not_lt_zero _), rfl⟩
  case round =>
    obtain ⟨i, hq, hi, rfl, HN, hw⟩ := hrel
    subst hw
    by_cases hlt : i < n
    · have z1 : (i : Int) < (n : Int) := by omega
      have z2 : (0 : Int) ≤ (i : Int) := by omega
      obtain ⟨b', off', eb, hc⟩ := HH.out.1 i hlt
      injection eb with eb
      injection eb with e1 e2 _
      subst e1 e2
      have hcw := cell_stay hc HV.out.2
      have hxb := HH.out.2.1 i hlt
      obtain ⟨x, hx⟩ : ∃ x, c i = x := ⟨_, rfl⟩
      have HX : Hid (c i = x) := hx
      rw [hx] at hcw hxb
      have cH := has_any HV.out.1 hxb
      clear hc hx
      cases ha : anB x with
      | true =>
        rw [ha] at cH
        have HF : Hid ((i : Int) = Z) := by show _ = _; rw [← HZ.out, ia_hit hlt HN.out (by rw [HX.out]; exact ha)]
        clear ha
        go_wp2_with fail
        refine cH.mono ?_
        rintro e w4 ⟨rfl, hw⟩
        subst w4
        clear cH
        go_wp2
        go_ret
        exact ⟨by rw [← HF.out]; rfl, HV.out.2⟩
      | false =>
        rw [ha] at cH
        have HN2 : Hid (∀ j, j < i + 1 → anB (c j) = false) := fun j hj => by
          rcases Nat.lt_or_ge j i with h1 | h1
          · exact HN.out j h1
          · obtain rfl : j = i := by omega
            rw [HX.out]; exact ha
        clear ha
        go_wp2_with fail
        refine cH.mono ?_
        rintro e w4 ⟨rfl, hw⟩
        subst w4
        clear cH
        go_wp2
        go_roundg (n - (i + 1))
        case measure => omega
        case rel => exact ⟨i + 1, rfl, by omega, by go_num, HN2.out, rfl⟩
    · obtain rfl : i = n := by omega
      have z1 : ¬ (i : Int) < (i : Int) := by omega
      have HF : Hid ((-1 : Int) = Z) := by show _ = _; rw [← HZ.out, ia_none HN.out]
      go_wp2
      go_ret
      exact ⟨by rw [← HF.out]; rfl, HV.out.2⟩
theorem ia_ok : IaOk := by
  intro w b off n cap c hC h hn hcap hbig hG
  rcases (show n = 1 ∨ 8 < n ∨ (n = 0 ∨ (2 ≤ n ∧ n ≤ 8)) by omega) with h1 | h1 | h1
  · subst h1; exact ia_one hC h hcap hbig
  · exact ia_long hC h h1 hn hcap hbig
  · exact ia_short hC h h1 hcap hbig hG
/-- What a < begins is as it is told, whatever the text. -/
theorem an_ok {c : Nat → Int} {n : Nat} (hC : Ch c n) (hn : n ≤ 40000) (e : Nat) (he : e ≤ n) : AnOk (tr c e) e := angle_ok (link_ok ia_ok (tr_ch hC he) (by omega))
end Go.Proofs.YtodjfeheagnnpaaDoor
