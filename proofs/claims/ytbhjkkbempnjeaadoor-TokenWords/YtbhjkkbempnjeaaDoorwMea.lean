/- decode: an entity by what is between its & and its ;. -/
import Derived.Test.YtbhjkkbempnjeaaDoorwSgn
namespace Go.Proofs.YtbhjkkbempnjeaaDoor
set_option linter.unusedVariables false
open Go.RowKit Go.ChangeShapes
/-- What the table of names holds. -/
def entV : List Value := [.string ⟨#[97, 109, 112]⟩, .int .i32 38, .string ⟨#[97, 112, 111, 115]⟩, .int .i32 39, .string ⟨#[103, 116]⟩, .int .i32 62, .string ⟨#[108, 116]⟩, .int .i32 60, .string ⟨#[110, 98, 115, 112]⟩, .int .i32 160, .string ⟨#[113, 117, 111, 116]⟩, .int .i32 34]
def Ent (w : World) : Prop := ∀ j v, entV[j]? = some v → w.cell? ⟨2, j, none⟩ = some v
theorem Ent.stay {w w' : World} (h : Ent w) (hb : Below w.heap.size w w') : Ent w' := fun j v hv => cell_stay (h j v hv) hb
/-- A sign that may be there, as the program answers it. -/
def opt (o : Option Int) : Value := match o with
  | some r => .tuple #[.int .i32 r, .bool true]
  | none => .tuple #[.int .i32 0, .bool false]
theorem sgn_opt (x : Int) : sgn x = opt (if okN x = true then some x else none) := by
  unfold sgn
  by_cases h : okN x = true
  · rw [if_pos h, if_pos h]; rfl
  · rw [if_neg h, if_neg h]; rfl
/-- The number behind a #. -/
def nmb (r : List Int) : Int := if r.getD 0 0 = 120 ∨ r.getD 0 0 = 88 then num 16 (r.drop 1) else num 10 r
theorem cut_yes {r : List Int} {S : ByteArray} (hs : strOfNums (35 :: r) = S) (w : World) :
    Calls Tryd.prog 76 #[.string S, .string ⟨#[35]⟩] w fun e w' => e = .returned (.tuple #[.string (strOfNums r), .bool true]) ∧ w' = w := by
  have hc := Tryd.strings_CutPrefix S ⟨#[35]⟩ w
  have hd : S.data.toList = 35 :: r.map (fun x => UInt8.ofNat x.toNat) := by rw [← hs, strOfNums_data]; rfl
  have hp : (⟨#[35]⟩ : ByteArray).data.toList = [35] := rfl
  have h1 : Lib.hasPrefix (35 :: r.map (fun x => UInt8.ofNat x.toNat)) [35] = true := by simp [Lib.hasPrefix]
  have h2 : (⟨(Lib.trimPrefix (35 :: r.map (fun x => UInt8.ofNat x.toNat)) [35]).toArray⟩ : ByteArray) = strOfNums r := by
    unfold Lib.trimPrefix
    rw [if_pos h1]
    rfl
  rw [hd, hp, h1, h2] at hc
  exact hc
theorem cut_no {m : List Int} (hm : Byt m) {S : ByteArray} (hs : strOfNums m = S) (h0 : m.getD 0 0 ≠ 35) (w : World) :
    Calls Tryd.prog 76 #[.string S, .string ⟨#[35]⟩] w fun e w' => e = .returned (.tuple #[.string S, .bool false]) ∧ w' = w := by
  have hc := Tryd.strings_CutPrefix S ⟨#[35]⟩ w
  have hd : S.data.toList = m.map (fun x => UInt8.ofNat x.toNat) := by rw [← hs, strOfNums_data]
  have hp : (⟨#[35]⟩ : ByteArray).data.toList = [35] := rfl
  have h1 : Lib.hasPrefix (m.map (fun x => UInt8.ofNat x.toNat)) [35] = false := by
    cases m with
    | nil => rfl
    | cons x l =>
      have hx := hm x List.mem_cons_self
      have hne : x ≠ 35 := h0
      simp only [Lib.hasPrefix, List.map_cons, List.isPrefixOf]
      have e : ((35 : UInt8) == UInt8.ofNat x.toNat) = false := by
        simp only [beq_eq_false_iff_ne, ne_eq]
        intro h
        have := congrArg UInt8.toNat h
        rw [UInt8.toNat_ofNat', Nat.mod_eq_of_lt (by omega)] at this
        have e2 : (35 : UInt8).toNat = 35 := rfl
        omega
      rw [e]
      rfl
  have h2 : (⟨(Lib.trimPrefix (m.map (fun x => UInt8.ofNat x.toNat)) [35]).toArray⟩ : ByteArray) = S := by
    unfold Lib.trimPrefix
    rw [if_neg (by rw [h1]; decide), ← hd]
  rw [hd, hp, h1, h2] at hc
  exact hc
theorem str_eq {m : List Int} (t : List Int) (ht : Byt t) (hm : Byt m) : ((strOfNums t).toList == (strOfNums m).toList) = (m == t) := by
  rw [← nums_beq hm ht, Lib.toList_data (strOfNums t), strOfNums_data]
  rw [Bool.eq_iff_iff, beq_iff_eq, beq_iff_eq]
  exact ⟨fun h => h.symm, fun h => h.symm⟩
theorem byt_get {m : List Int} {S : ByteArray} (hm : Byt m) (hs : strOfNums m = S) {i : Nat} (h : i < S.size) : ((S[i]'h).toNat : Int) = m.getD i 0 := by
  have h1 := (sc_list hm hs).2.2.1 i h
  have h2 : i < m.length := by rw [← hs, strOfNums_size] at h; exact h
  have h3 : (cl (cL m) m.length)[i]? = some (cL m i) := cl_at _ _ _ h2
  rw [cl_cL] at h3
  rw [h1, List.getD_eq_getElem?_getD, h3]
  rfl
set_option maxRecDepth 100000 in
theorem numbered_any {r : List Int} (hr : Byt r) (hn : r.length ≤ 100000) {S : ByteArray} (hs : strOfNums r = S) (w : World) (hE : Ers w) :
    Calls Tryd.prog 77 #[.string S] w fun e w' => e = .returned (sgn (nmb r)) ∧ Below w.heap.size w w' := by
  have hsz : S.size = r.length := by rw [← hs, strOfNums_size]
  by_cases h0 : r = []
  · subst h0
    obtain rfl : S = ⟨#[]⟩ := hs.symm
    have cs := sign10 hr hn hs w hE
    have hx : nmb [] = num 10 [] := rfl
    rw [hx]
    obtain ⟨v, hv⟩ : ∃ v, num 10 [] = v := ⟨_, rfl⟩
    have hv2 : v = -1 := by rw [← hv]; rfl
    rw [hv] at cs ⊢
    have hno : sgn v = .tuple #[.int .i32 0, .bool false] := sgn_no (by rw [hv2]; rfl)
    rw [hno] at cs ⊢
    clear hv hv2 hx hno hE hs hr hn hsz
    go_enter Tryd.func77, Tryd.ntmps77
    go_wp2_with fail
    refine cs.mono ?_
    rintro e w1 ⟨rfl, hb1⟩
    clear cs
    go_wp2
    refine bodyPost_ret (v := .tuple #[.int .i32 0, .bool false]) (by simp [results, Tryd.results77, go_sem]) rfl ?_
    exact ⟨rfl, hb1⟩
  · have hlen : 0 < r.length := by
      cases r with
      | nil => exact absurd rfl h0
      | cons x l => simp
    have hemp : S.toList.isEmpty = false := by
      rw [← decide_eq_emptyBytes]
      refine decide_eq_false (fun h => ?_)
      have h2 : S.size = 0 := (congrArg ByteArray.size h).trans rfl
      omega
    have hpos : 0 < S.size := by omega
    obtain ⟨X, hX⟩ : ∃ X : Nat, r.getD 0 0 = (X : Int) := by
      refine ⟨(r.getD 0 0).toNat, ?_⟩
      have := byt_get hr hs hpos
      omega
    have hX0 : ((S[0]'hpos).toNat : Int) = (X : Int) := by rw [byt_get hr hs hpos, hX]
    have hpos2 : (1 : Int) ≤ (S.size : Int) := by omega
    by_cases hx : X = 120 ∨ X = 88
    · have hm : nmb r = num 16 (r.drop 1) := by unfold nmb; rw [hX, if_pos (by omega)]
      rw [hm]
      have cs := sign16 (byt_drop hr 1) (by rw [List.length_drop]; omega) (ext_drop hs 1) w hE
      obtain ⟨v, hv⟩ : ∃ v, num 16 (r.drop 1) = v := ⟨_, rfl⟩
      rw [hv] at cs ⊢
      clear hm hv hE hs hr hn hsz h0 hlen hX
      obtain ⟨a, b, hab⟩ : ∃ a b, sgn v = .tuple #[.int .i32 a, .bool b] := by
        unfold sgn
        split
        · exact ⟨_, _, rfl⟩
        · exact ⟨_, _, rfl⟩
      rw [hab] at cs ⊢
      clear hab
      rcases hx with rfl | rfl
      · go_enter Tryd.func77, Tryd.ntmps77
        go_wp2_with fail
        refine cs.mono ?_
        rintro e w1 ⟨rfl, hb1⟩
        clear cs
        go_wp2
        refine bodyPost_ret (v := .tuple #[.int .i32 a, .bool b]) (by simp [results, Tryd.results77, go_sem]) rfl ?_
        exact ⟨rfl, hb1⟩
      · go_enter Tryd.func77, Tryd.ntmps77
        go_wp2_with fail
        refine cs.mono ?_
        rintro e w1 ⟨rfl, hb1⟩
        clear cs
        go_wp2
        refine bodyPost_ret (v := .tuple #[.int .i32 a, .bool b]) (by simp [results, Tryd.results77, go_sem]) rfl ?_
        exact ⟨rfl, hb1⟩
    · have hm : nmb r = num 10 r := by unfold nmb; rw [hX, if_neg (by omega)]
      rw [hm]
      have v0 : ((X : Int) == 120) = false := beq_eq_false_iff_ne.2 (by omega)
      have v1 : ((X : Int) == 88) = false := beq_eq_false_iff_ne.2 (by omega)
      have cs := sign10 hr hn hs w hE
      obtain ⟨v, hv⟩ : ∃ v, num 10 r = v := ⟨_, rfl⟩
      rw [hv] at cs ⊢
      clear hm hv hE hs hr hn hsz h0 hlen hX hx
      obtain ⟨a, b, hab⟩ : ∃ a b, sgn v = .tuple #[.int .i32 a, .bool b] := by
        unfold sgn
        split
        · exact ⟨_, _, rfl⟩
        · exact ⟨_, _, rfl⟩
      rw [hab] at cs ⊢
      clear hab
      go_enter Tryd.func77, Tryd.ntmps77
      go_wp2_with fail
      refine cs.mono ?_
      rintro e w1 ⟨rfl, hb1⟩
      clear cs
      go_wp2
      refine bodyPost_ret (v := .tuple #[.int .i32 a, .bool b]) (by simp [results, Tryd.results77, go_sem]) rfl ?_
      exact ⟨rfl, hb1⟩
def nmL : List (List Int) := [[97, 109, 112], [97, 112, 111, 115], [103, 116], [108, 116], [110, 98, 115, 112], [113, 117, 111, 116]]
theorem nm_step {m t : List Int} {k : Nat} (h : ∀ j t, j < k → nmL[j]? = some t → m ≠ t) (ht : nmL[k]? = some t) (hm : m ≠ t) : ∀ j t, j < k + 1 → nmL[j]? = some t → m ≠ t := fun j u hj hu => by
  rcases Nat.lt_or_ge j k with h1 | h1
  · exact h j u h1 hu
  · obtain rfl : j = k := by omega
    rw [ht] at hu
    injection hu with hu
    rw [← hu]; exact hm
theorem lk_no6 {m : List Int} (h : ∀ j t, j < 6 → nmL[j]? = some t → m ≠ t) : lk m = none := by
  unfold lk
  rw [if_neg (h 0 _ (by omega) rfl), if_neg (h 1 _ (by omega) rfl), if_neg (h 2 _ (by omega) rfl), if_neg (h 3 _ (by omega) rfl), if_neg (h 4 _ (by omega) rfl), if_neg (h 5 _ (by omega) rfl)]
theorem lk_hash {r : List Int} : lk (35 :: r) = none := by
  unfold lk
  rw [if_neg (by simp), if_neg (by simp), if_neg (by simp), if_neg (by simp), if_neg (by simp), if_neg (by simp)]
theorem enV_hash (r : List Int) : opt (enV (35 :: r)) = sgn (nmb r) := by
  have h1 : enV (35 :: r) = if okN (enN (35 :: r)) = true then some (enN (35 :: r)) else none := by
    unfold enV
    rw [lk_hash]
  rw [h1, ← sgn_opt]
  cases r with
  | nil => rfl
  | cons x l =>
    have e : enN (35 :: x :: l) = nmb (x :: l) := by
      unfold enN nmb
      rw [if_pos ⟨rfl, by simp⟩]
      rfl
    rw [e]
theorem enV_plain {m : List Int} (h0 : m.getD 0 0 ≠ 35) : enV m = lk m := by
  have hn : enN m = -1 := by unfold enN; rw [if_neg (fun h => h0 h.1)]
  unfold enV
  rw [hn]
  cases lk m with
  | some r => rfl
  | none => rfl
set_option maxRecDepth 100000 in
set_option maxHeartbeats 2000000 in
theorem meant_any {m : List Int} (hm : Byt m) (hn : m.length ≤ 100000) {S : ByteArray} (hs : strOfNums m = S) (w : World) (hE : Ers w) (hT : Ent w) :
    Calls Tryd.prog 64 #[.string S] w fun e w' => e = .returned (opt (enV m)) ∧ Below w.heap.size w w' := by
  by_cases h0 : m.getD 0 0 = 35
  · obtain ⟨r, rfl⟩ : ∃ r, m = 35 :: r := by
      cases m with
      | nil => simp at h0
      | cons x l => exact ⟨l, by have e : x = 35 := h0
                                 rw [e]⟩
    rw [enV_hash]
    have cc := cut_yes hs w
    have hr : Byt r := fun x hx => hm x (List.mem_cons_of_mem _ hx)
    obtain ⟨T, hT2⟩ : ∃ T, strOfNums r = T := ⟨_, rfl⟩
    rw [hT2] at cc
    have cn := numbered_any hr (by simp at hn; omega) hT2 w hE
    obtain ⟨a, b, hab⟩ : ∃ a b, sgn (nmb r) = .tuple #[.int .i32 a, .bool b] := by
      unfold sgn
      split
      · exact ⟨_, _, rfl⟩
      · exact ⟨_, _, rfl⟩
    rw [hab] at cn ⊢
    clear hab hT2 hr hs hm hn hE hT h0
    go_enter Tryd.func64, Tryd.ntmps64
    go_wp2_with fail
    refine cc.mono ?_
    rintro e w1 ⟨rfl, hw⟩
    subst w1
    go_wp2_with fail
    refine cn.mono ?_
    rintro e w1 ⟨rfl, hb1⟩
    clear cc cn
    go_wp2
    refine bodyPost_ret (v := .tuple #[.int .i32 a, .bool b]) (by simp [results, Tryd.results64, go_sem]) rfl ?_
    exact ⟨rfl, hb1⟩
  · rw [enV_plain h0]
    have cc := cut_no hm hs h0 w
    have k0 : w.cell? ⟨2, 0, none⟩ = some (.string (strOfNums [97, 109, 112])) := hT 0 _ rfl
    have k1 : w.cell? ⟨2, 1, none⟩ = some (.int .i32 38) := hT 1 _ rfl
    obtain ⟨n0, hn0⟩ : ∃ s, strOfNums [97, 109, 112] = s := ⟨_, rfl⟩
    rw [hn0] at k0
    have m0 : (n0.toList == S.toList) = (m == [97, 109, 112]) := by
      rw [← hn0, ← hs]; exact str_eq _ (byt_lit _ rfl) hm
    have k2 : w.cell? ⟨2, 2, none⟩ = some (.string (strOfNums [97, 112, 111, 115])) := hT 2 _ rfl
    have k3 : w.cell? ⟨2, 3, none⟩ = some (.int .i32 39) := hT 3 _ rfl
    obtain ⟨n1, hn1⟩ : ∃ s, strOfNums [97, 112, 111, 115] = s := ⟨_, rfl⟩
    rw [hn1] at k2
    have m1 : (n1.toList == S.toList) = (m == [97, 112, 111, 115]) := by
      rw [← hn1, ← hs]; exact str_eq _ (byt_lit _ rfl) hm
    have k4 : w.cell? ⟨2, 4, none⟩ = some (.string (strOfNums [103, 116])) := hT 4 _ rfl
    have k5 : w.cell? ⟨2, 5, none⟩ = some (.int .i32 62) := hT 5 _ rfl
    obtain ⟨n2, hn2⟩ : ∃ s, strOfNums [103, 116] = s := ⟨_, rfl⟩
    rw [hn2] at k4
    have m2 : (n2.toList == S.toList) = (m == [103, 116]) := by
      rw [← hn2, ← hs]; exact str_eq _ (byt_lit _ rfl) hm
    have k6 : w.cell? ⟨2, 6, none⟩ = some (.string (strOfNums [108, 116])) := hT 6 _ rfl
    have k7 : w.cell? ⟨2, 7, none⟩ = some (.int .i32 60) := hT 7 _ rfl
    obtain ⟨n3, hn3⟩ : ∃ s, strOfNums [108, 116] = s := ⟨_, rfl⟩
    rw [hn3] at k6
    have m3 : (n3.toList == S.toList) = (m == [108, 116]) := by
      rw [← hn3, ← hs]; exact str_eq _ (byt_lit _ rfl) hm
    have k8 : w.cell? ⟨2, 8, none⟩ = some (.string (strOfNums [110, 98, 115, 112])) := hT 8 _ rfl
    have k9 : w.cell? ⟨2, 9, none⟩ = some (.int .i32 160) := hT 9 _ rfl
    obtain ⟨n4, hn4⟩ : ∃ s, strOfNums [110, 98, 115, 112] = s := ⟨_, rfl⟩
    rw [hn4] at k8
    have m4 : (n4.toList == S.toList) = (m == [110, 98, 115, 112]) := by
      rw [← hn4, ← hs]; exact str_eq _ (byt_lit _ rfl) hm
    have k10 : w.cell? ⟨2, 10, none⟩ = some (.string (strOfNums [113, 117, 111, 116])) := hT 10 _ rfl
    have k11 : w.cell? ⟨2, 11, none⟩ = some (.int .i32 34) := hT 11 _ rfl
    obtain ⟨n5, hn5⟩ : ∃ s, strOfNums [113, 117, 111, 116] = s := ⟨_, rfl⟩
    rw [hn5] at k10
    have m5 : (n5.toList == S.toList) = (m == [113, 117, 111, 116]) := by
      rw [← hn5, ← hs]; exact str_eq _ (byt_lit _ rfl) hm
    obtain ⟨V, hV⟩ : ∃ V, opt (lk m) = V := ⟨_, rfl⟩
    have HV : Hid (opt (lk m) = V) := hV
    rw [hV]
    have HM : Hid ((n0.toList == S.toList) = (m == [97, 109, 112]) ∧ (n1.toList == S.toList) = (m == [97, 112, 111, 115]) ∧ (n2.toList == S.toList) = (m == [103, 116]) ∧ (n3.toList == S.toList) = (m == [108, 116]) ∧ (n4.toList == S.toList) = (m == [110, 98, 115, 112]) ∧ (n5.toList == S.toList) = (m == [113, 117, 111, 116])) := ⟨m0, m1, m2, m3, m4, m5⟩
    clear hV hs hm hn hE hT h0 m0 hn0 m1 hn1 m2 hn2 m3 hn3 m4 hn4 m5 hn5
    go_enter Tryd.func64, Tryd.ntmps64
    go_wp2_with fail
    refine cc.mono ?_
    rintro e w1 ⟨rfl, hw⟩
    subst w1
    clear cc
    go_upto_region 4 with fail
    go_wp2
    clear k0 k1 k2 k3 k4 k5 k6 k7 k8 k9 k10 k11
    go_loopg [19] 6 (fun q kv wr => ∃ k : Nat, k ≤ 6 ∧ q = 6 - k ∧ kv = .int .i64 k ∧ Hid (∀ j t, j < k → nmL[j]? = some t → m ≠ t) ∧ Hid (Below w.heap.size w wr))
    case atStart => exact ⟨0, Nat.zero_le _, rfl, rfl, fun j t hj => absurd hj (Nat.not_lt_zero _), Below.refl _ _⟩
    case round =>
      obtain ⟨k, hk, hq, rfl, HN, HW⟩ := hrel
      by_cases hlt : k < 6
      · have hcs : k = 0 ∨ k = 1 ∨ k = 2 ∨ k = 3 ∨ k = 4 ∨ k = 5 := by omega
        rcases hcs with rfl | rfl | rfl | rfl | rfl | rfl
        · have hix : ∀ w, (Instr.index 106 (.agg #[.string n0, .int .i32 38, .string n1, .int .i32 39, .string n2, .int .i32 62, .string n3, .int .i32 60, .string n4, .int .i32 160, .string n5, .int .i32 34]) (.int .i64 0)).run Tryd.prog w = .ok (.agg #[.string n0, .int .i32 38]) w := fun w => by kernel_rfl
          obtain ⟨W, hW⟩ : ∃ W, wr.alloc (.cells #[.string n0, .int .i32 38] 105) = W := ⟨_, rfl⟩
          have hbV : Below wr.heap.size wr W := by rw [← hW]; exact below_alloc wr _
          have hV0 : W.heap[wr.heap.size]? = some (.cells #[.string n0, .int .i32 38] 105) := by rw [← hW]; exact heap_alloc_new _ _
          have c0 : W.cell? ⟨wr.heap.size, 0, none⟩ = some (.string n0) := by simp [World.cell?, hV0]
          have c1 : W.cell? ⟨wr.heap.size, 1, none⟩ = some (.int .i32 38) := by simp [World.cell?, hV0]
          have HW2 : Hid (Below w.heap.size w W) := HW.out.trans (hbV.mono HW.out.size)
          obtain ⟨B, hB⟩ : ∃ B, wr.heap.size = B := ⟨_, rfl⟩
          rw [hB] at c0 c1
          clear hV0 hbV HW
          by_cases hmk : m = [97, 109, 112]
          · have f0 : (n0.toList == S.toList) = true := by rw [HM.out.1]; exact beq_iff_eq.2 hmk
            have HV2 : Hid (opt (some 38) = V) := by show _ = _; rw [← HV.out, hmk]; rfl
            clear HV HN hmk
            go_wp2
            refine bodyPost_ret (v := opt (some 38)) (by simp [results, Tryd.results64, go_sem, opt]) rfl ?_
            exact ⟨by rw [HV2.out], HW2.out⟩
          · have f0 : (n0.toList == S.toList) = false := by rw [HM.out.1]; exact beq_eq_false_iff_ne.2 hmk
            have HN2 : Hid (∀ j t, j < 0 + 1 → nmL[j]? = some t → m ≠ t) := nm_step HN.out rfl hmk
            clear HN hmk
            go_wp2
            go_roundg (6 - (0 + 1))
            case measure => omega
            case rel => exact ⟨0 + 1, by omega, rfl, by go_num, HN2, HW2⟩
        · have hix : ∀ w, (Instr.index 106 (.agg #[.string n0, .int .i32 38, .string n1, .int .i32 39, .string n2, .int .i32 62, .string n3, .int .i32 60, .string n4, .int .i32 160, .string n5, .int .i32 34]) (.int .i64 1)).run Tryd.prog w = .ok (.agg #[.string n1, .int .i32 39]) w := fun w => by kernel_rfl
          obtain ⟨W, hW⟩ : ∃ W, wr.alloc (.cells #[.string n1, .int .i32 39] 105) = W := ⟨_, rfl⟩
          have hbV : Below wr.heap.size wr W := by rw [← hW]; exact below_alloc wr _
          have hV0 : W.heap[wr.heap.size]? = some (.cells #[.string n1, .int .i32 39] 105) := by rw [← hW]; exact heap_alloc_new _ _
          have c0 : W.cell? ⟨wr.heap.size, 0, none⟩ = some (.string n1) := by simp [World.cell?, hV0]
          have c1 : W.cell? ⟨wr.heap.size, 1, none⟩ = some (.int .i32 39) := by simp [World.cell?, hV0]
          have HW2 : Hid (Below w.heap.size w W) := HW.out.trans (hbV.mono HW.out.size)
          obtain ⟨B, hB⟩ : ∃ B, wr.heap.size = B := ⟨_, rfl⟩
          rw [hB] at c0 c1
          clear hV0 hbV HW
          by_cases hmk : m = [97, 112, 111, 115]
          · have f1 : (n1.toList == S.toList) = true := by rw [HM.out.2.1]; exact beq_iff_eq.2 hmk
            have HV2 : Hid (opt (some 39) = V) := by show _ = _; rw [← HV.out, hmk]; rfl
            clear HV HN hmk
            go_wp2
            refine bodyPost_ret (v := opt (some 39)) (by simp [results, Tryd.results64, go_sem, opt]) rfl ?_
            exact ⟨by rw [HV2.out], HW2.out⟩
          · have f1 : (n1.toList == S.toList) = false := by rw [HM.out.2.1]; exact beq_eq_false_iff_ne.2 hmk
            have HN2 : Hid (∀ j t, j < 1 + 1 → nmL[j]? = some t → m ≠ t) := nm_step HN.out rfl hmk
            clear HN hmk
            go_wp2
            go_roundg (6 - (1 + 1))
            case measure => omega
            case rel => exact ⟨1 + 1, by omega, rfl, by go_num, HN2, HW2⟩
        · have hix : ∀ w, (Instr.index 106 (.agg #[.string n0, .int .i32 38, .string n1, .int .i32 39, .string n2, .int .i32 62, .string n3, .int .i32 60, .string n4, .int .i32 160, .string n5, .int .i32 34]) (.int .i64 2)).run Tryd.prog w = .ok (.agg #[.string n2, .int .i32 62]) w := fun w => by kernel_rfl
          obtain ⟨W, hW⟩ : ∃ W, wr.alloc (.cells #[.string n2, .int .i32 62] 105) = W := ⟨_, rfl⟩
          have hbV : Below wr.heap.size wr W := by rw [← hW]; exact below_alloc wr _
          have hV0 : W.heap[wr.heap.size]? = some (.cells #[.string n2, .int .i32 62] 105) := by rw [← hW]; exact heap_alloc_new _ _
          have c0 : W.cell? ⟨wr.heap.size, 0, none⟩ = some (.string n2) := by simp [World.cell?, hV0]
          have c1 : W.cell? ⟨wr.heap.size, 1, none⟩ = some (.int .i32 62) := by simp [World.cell?, hV0]
          have HW2 : Hid (Below w.heap.size w W) := HW.out.trans (hbV.mono HW.out.size)
          obtain ⟨B, hB⟩ : ∃ B, wr.heap.size = B := ⟨_, rfl⟩
          rw [hB] at c0 c1
          clear hV0 hbV HW
          by_cases hmk : m = [103, 116]
          · have f2 : (n2.toList == S.toList) = true := by rw [HM.out.2.2.1]; exact beq_iff_eq.2 hmk
            have HV2 : Hid (opt (some 62) = V) := by show _ = _; rw [← HV.out, hmk]; rfl
            clear HV HN hmk
            go_wp2
            refine bodyPost_ret (v := opt (some 62)) (by simp [results, Tryd.results64, go_sem, opt]) rfl ?_
            exact ⟨by rw [HV2.out], HW2.out⟩
          · have f2 : (n2.toList == S.toList) = false := by rw [HM.out.2.2.1]; exact beq_eq_false_iff_ne.2 hmk
            have HN2 : Hid (∀ j t, j < 2 + 1 → nmL[j]? = some t → m ≠ t) := nm_step HN.out rfl hmk
            clear HN hmk
            go_wp2
            go_roundg (6 - (2 + 1))
            case measure => omega
            case rel => exact ⟨2 + 1, by omega, rfl, by go_num, HN2, HW2⟩
        · have hix : ∀ w, (Instr.index 106 (.agg #[.string n0, .int .i32 38, .string n1, .int .i32 39, .string n2, .int .i32 62, .string n3, .int .i32 60, .string n4, .int .i32 160, .string n5, .int .i32 34]) (.int .i64 3)).run Tryd.prog w = .ok (.agg #[.string n3, .int .i32 60]) w := fun w => by kernel_rfl
          obtain ⟨W, hW⟩ : ∃ W, wr.alloc (.cells #[.string n3, .int .i32 60] 105) = W := ⟨_, rfl⟩
          have hbV : Below wr.heap.size wr W := by rw [← hW]; exact below_alloc wr _
          have hV0 : W.heap[wr.heap.size]? = some (.cells #[.string n3, .int .i32 60] 105) := by rw [← hW]; exact heap_alloc_new _ _
          have c0 : W.cell? ⟨wr.heap.size, 0, none⟩ = some (.string n3) := by simp [World.cell?, hV0]
          have c1 : W.cell? ⟨wr.heap.size, 1, none⟩ = some (.int .i32 60) := by simp [World.cell?, hV0]
          have HW2 : Hid (Below w.heap.size w W) := HW.out.trans (hbV.mono HW.out.size)
          obtain ⟨B, hB⟩ : ∃ B, wr.heap.size = B := ⟨_, rfl⟩
          rw [hB] at c0 c1
          clear hV0 hbV HW
          by_cases hmk : m = [108, 116]
          · have f3 : (n3.toList == S.toList) = true := by rw [HM.out.2.2.2.1]; exact beq_iff_eq.2 hmk
            have HV2 : Hid (opt (some 60) = V) := by show _ = _; rw [← HV.out, hmk]; rfl
            clear HV HN hmk
            go_wp2
            refine bodyPost_ret (v := opt (some 60)) (by simp [results, Tryd.results64, go_sem, opt]) rfl ?_
            exact ⟨by rw [HV2.out], HW2.out⟩
          · have f3 : (n3.toList == S.toList) = false := by rw [HM.out.2.2.2.1]; exact beq_eq_false_iff_ne.2 hmk
            have HN2 : Hid (∀ j t, j < 3 + 1 → nmL[j]? = some t → m ≠ t) := nm_step HN.out rfl hmk
            clear HN hmk
            go_wp2
            go_roundg (6 - (3 + 1))
            case measure => omega
            case rel => exact ⟨3 + 1, by omega, rfl, by go_num, HN2, HW2⟩
        · have hix : ∀ w, (Instr.index 106 (.agg #[.string n0, .int .i32 38, .string n1, .int .i32 39, .string n2, .int .i32 62, .string n3, .int .i32 60, .string n4, .int .i32 160, .string n5, .int .i32 34]) (.int .i64 4)).run Tryd.prog w = .ok (.agg #[.string n4, .int .i32 160]) w := fun w => by kernel_rfl
          obtain ⟨W, hW⟩ : ∃ W, wr.alloc (.cells #[.string n4, .int .i32 160] 105) = W := ⟨_, rfl⟩
          have hbV : Below wr.heap.size wr W := by rw [← hW]; exact below_alloc wr _
          have hV0 : W.heap[wr.heap.size]? = some (.cells #[.string n4, .int .i32 160] 105) := by rw [← hW]; exact heap_alloc_new _ _
          have c0 : W.cell? ⟨wr.heap.size, 0, none⟩ = some (.string n4) := by simp [World.cell?, hV0]
          have c1 : W.cell? ⟨wr.heap.size, 1, none⟩ = some (.int .i32 160) := by simp [World.cell?, hV0]
          have HW2 : Hid (Below w.heap.size w W) := HW.out.trans (hbV.mono HW.out.size)
          obtain ⟨B, hB⟩ : ∃ B, wr.heap.size = B := ⟨_, rfl⟩
          rw [hB] at c0 c1
          clear hV0 hbV HW
          by_cases hmk : m = [110, 98, 115, 112]
          · have f4 : (n4.toList == S.toList) = true := by rw [HM.out.2.2.2.2.1]; exact beq_iff_eq.2 hmk
            have HV2 : Hid (opt (some 160) = V) := by show _ = _; rw [← HV.out, hmk]; rfl
            clear HV HN hmk
            go_wp2
            refine bodyPost_ret (v := opt (some 160)) (by simp [results, Tryd.results64, go_sem, opt]) rfl ?_
            exact ⟨by rw [HV2.out], HW2.out⟩
          · have f4 : (n4.toList == S.toList) = false := by rw [HM.out.2.2.2.2.1]; exact beq_eq_false_iff_ne.2 hmk
            have HN2 : Hid (∀ j t, j < 4 + 1 → nmL[j]? = some t → m ≠ t) := nm_step HN.out rfl hmk
            clear HN hmk
            go_wp2
            go_roundg (6 - (4 + 1))
            case measure => omega
            case rel => exact ⟨4 + 1, by omega, rfl, by go_num, HN2, HW2⟩
        · have hix : ∀ w, (Instr.index 106 (.agg #[.string n0, .int .i32 38, .string n1, .int .i32 39, .string n2, .int .i32 62, .string n3, .int .i32 60, .string n4, .int .i32 160, .string n5, .int .i32 34]) (.int .i64 5)).run Tryd.prog w = .ok (.agg #[.string n5, .int .i32 34]) w := fun w => by kernel_rfl
          obtain ⟨W, hW⟩ : ∃ W, wr.alloc (.cells #[.string n5, .int .i32 34] 105) = W := ⟨_, rfl⟩
          have hbV : Below wr.heap.size wr W := by rw [← hW]; exact below_alloc wr _
          have hV0 : W.heap[wr.heap.size]? = some (.cells #[.string n5, .int .i32 34] 105) := by rw [← hW]; exact heap_alloc_new _ _
          have c0 : W.cell? ⟨wr.heap.size, 0, none⟩ = some (.string n5) := by simp [World.cell?, hV0]
          have c1 : W.cell? ⟨wr.heap.size, 1, none⟩ = some (.int .i32 34) := by simp [World.cell?, hV0]
          have HW2 : Hid (Below w.heap.size w W) := HW.out.trans (hbV.mono HW.out.size)
          obtain ⟨B, hB⟩ : ∃ B, wr.heap.size = B := ⟨_, rfl⟩
          rw [hB] at c0 c1
          clear hV0 hbV HW
          by_cases hmk : m = [113, 117, 111, 116]
          · have f5 : (n5.toList == S.toList) = true := by rw [HM.out.2.2.2.2.2]; exact beq_iff_eq.2 hmk
            have HV2 : Hid (opt (some 34) = V) := by show _ = _; rw [← HV.out, hmk]; rfl
            clear HV HN hmk
            go_wp2
            refine bodyPost_ret (v := opt (some 34)) (by simp [results, Tryd.results64, go_sem, opt]) rfl ?_
            exact ⟨by rw [HV2.out], HW2.out⟩
          · have f5 : (n5.toList == S.toList) = false := by rw [HM.out.2.2.2.2.2]; exact beq_eq_false_iff_ne.2 hmk
            have HN2 : Hid (∀ j t, j < 5 + 1 → nmL[j]? = some t → m ≠ t) := nm_step HN.out rfl hmk
            clear HN hmk
            go_wp2
            go_roundg (6 - (5 + 1))
            case measure => omega
            case rel => exact ⟨5 + 1, by omega, rfl, by go_num, HN2, HW2⟩
      · obtain rfl : k = 6 := by omega
        have hlk : lk m = none := lk_no6 HN.out
        have HV2 : Hid (opt none = V) := by show _ = _; rw [← HV.out, hlk]
        clear HV hlk HN
        go_wp2
        refine bodyPost_ret (v := opt none) (by simp [results, Tryd.results64, go_sem, opt]) rfl ?_
        exact ⟨by rw [HV2.out], HW.out⟩
end Go.Proofs.YtbhjkkbempnjeaaDoor
