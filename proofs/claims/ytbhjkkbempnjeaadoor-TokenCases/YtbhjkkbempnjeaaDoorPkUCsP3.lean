/- Words of small letters, put together in a case, plainly. -/
import Derived.Test.YtbhjkkbempnjeaaDoorPkUPts2
import Derived.Test.YtbhjkkbempnjeaaDooruWhl
import Derived.Test.YtbhjkkbempnjeaaDoorPkVRa4
import Derived.Lib.AppendStr
import Derived.Laws.AppendOwnNone
import Derived.Laws.AppendOwn
import Derived.Test.YtbhjkkbempnjeaaDoorPkVF3
import Derived.Lib.SlBytesConst
namespace Go.Proofs.YtbhjkkbempnjeaaDoor
set_option linter.unusedVariables false
open Go.RowKit
/-- Small letters from a to z alone. -/
def SmL (w : List Int) : Prop := ∀ r ∈ w, 97 ≤ r ∧ r ≤ 122
theorem sm_sB {r : Int} (h : 97 ≤ r ∧ r ≤ 122) : sB r = true := by
  unfold sB
  rw [gB_iff]
  omega
theorem sm_gB {r : Int} (h : 97 ≤ r ∧ r ≤ 122) : gB r = false := by
  rw [gB_no]
  omega
theorem sm_up {r : Int} (h : 97 ≤ r ∧ r ≤ 122) : up r = r - 32 := by
  unfold up
  rw [sm_sB h]
  rfl
theorem sm_dn {r : Int} (h : 97 ≤ r ∧ r ≤ 122) : dn r = r := by
  unfold dn
  rw [sm_gB h]
  rfl
theorem gr_gB {r : Int} (h : 97 ≤ r ∧ r ≤ 122) : gB (r - 32) = true := by
  rw [gB_iff]
  omega
theorem lB_great {r : Int} (h : gB r = true) : lB r = true := by unfold lB; rw [h]; rfl
theorem lB_small {r : Int} (h : sB r = true) : lB r = true := by unfold lB; rw [h]; simp
theorem sm_ok {w : List Int} (h : SmL w) : Ok w := fun r hr => lB_ok (lB_small (sm_sB (h r hr)))
theorem wr_sm (w : List Int) (h : SmL w) : wrL 1 w = w := by
  apply List.ext_getElem
  · rw [wrL_len]
  · intro i h1 h2
    rw [wrL_at 1 w i h2, wrt_one, sm_dn (h _ (List.getElem_mem h2))]
theorem wr_first {w : List Int} (h : SmL w) (i : Nat) (hi : i < w.length) : (wrL 2 w)[i]'(by rw [wrL_len]; exact hi) = if i = 0 then w[i] - 32 else w[i] := by
  rw [wrL_at 2 w i hi]
  have h1 := h _ (List.getElem_mem hi)
  cases i with
  | zero => show up _ = _; rw [sm_up h1]; rfl
  | succ i => show dn _ = _; rw [sm_dn h1]; rfl
theorem wr_great {w : List Int} (h : SmL w) (i : Nat) (hi : i < w.length) : (wrL 3 w)[i]'(by rw [wrL_len]; exact hi) = w[i] - 32 := by
  rw [wrL_at 3 w i hi]
  show up _ = _
  rw [sm_up (h _ (List.getElem_mem hi))]
/-- Words with a great first letter, one behind the other. -/
def fstL (W : List (List Int)) : List Int := W.flatMap (wrL 2)
theorem patG_of {R : Nat → Int} : ∀ (W : List (List Int)) (i : Nat), (∀ w ∈ W, SmL w ∧ 2 ≤ w.length) → (∀ j x, (fstL W)[j]? = some x → R (i + j) = x) → PatG R i (W.map List.length)
  | [], i, _, _ => trivial
  | w :: W, i, hW, hR => by
    have hw := hW w (List.mem_cons_self ..)
    have hf : fstL (w :: W) = wrL 2 w ++ fstL W := rfl
    rw [hf] at hR
    have hat : ∀ j (hj : j < w.length), R (i + j) = if j = 0 then w[j] - 32 else w[j] := fun j hj => by
      refine hR j _ ?_
      rw [List.getElem?_append_left (by rw [wrL_len]; exact hj), List.getElem?_eq_getElem (by rw [wrL_len]; exact hj), wr_first hw.1 j hj]
    refine ⟨?_, fun j h1 h2 => ?_, ?_⟩
    · have := hat 0 (by omega)
      rw [Nat.add_zero, if_pos rfl] at this
      rw [this]
      exact gr_gB (hw.1 _ (List.getElem_mem _))
    · have h3 := hat (j - i) (by omega)
      rw [show i + (j - i) = j by omega, if_neg (by omega)] at h3
      rw [h3]
      exact sm_sB (hw.1 _ (List.getElem_mem _))
    · refine patG_of W (i + w.length) (fun x hx => hW x (List.mem_cons_of_mem _ hx)) fun j x hx => ?_
      rw [Nat.add_assoc]
      refine hR (w.length + j) x ?_
      rw [List.getElem?_append_right (by rw [wrL_len]; omega), wrL_len, Nat.add_sub_cancel_left]
      exact hx
theorem fstL_len (W : List (List Int)) : (fstL W).length = (W.map List.length).sum := by
  induction W with
  | nil => rfl
  | cons w W ih =>
    show (wrL 2 w ++ fstL W).length = _
    rw [List.length_append, wrL_len, ih, List.map_cons, List.sum_cons]
theorem fstL_letters {W : List (List Int)} (hW : ∀ w ∈ W, SmL w) : ∀ x ∈ fstL W, lB x = true := by
  intro x hx
  obtain ⟨w, hw, hx⟩ := List.mem_flatMap.1 hx
  obtain ⟨i, hi⟩ := List.mem_iff_getElem?.1 hx
  have hil := (List.getElem?_eq_some_iff.1 hi).1
  rw [wrL_len] at hil
  rw [List.getElem?_eq_getElem (by rw [wrL_len]; exact hil), wr_first (hW w hw) i hil] at hi
  have hi := Option.some.inj hi
  rw [← hi]
  split
  · exact lB_great (gr_gB (hW w hw _ (List.getElem_mem _)))
  · exact lB_small (sm_sB (hW w hw _ (List.getElem_mem _)))
end Go.Proofs.YtbhjkkbempnjeaaDoor
/- Bytes put behind bytes of the call's own. -/
namespace Go.Proofs.YtbhjkkbempnjeaaDoor
set_option linter.unusedVariables false
open Go.RowKit Go.ChangeShapes
theorem info5 : (Tryd.prog.info? 5).map (fun i => (i.zero, i.size, i.bytes)) = some (some (.int .u8 0), 1, 1) := by kernel_rfl
theorem u8L_len (l : List Int) : (u8L l).length = l.length := by simp [u8L]
theorem u8L_app (l m : List Int) : u8L (l ++ m) = u8L l ++ u8L m := by simp [u8L]
theorem OB.nil (w : World) (base : Nat) : OB w base (.slice none 0 0) [] := World.ownsRow_nil _ _ _ _
theorem OB.snoc {w : World} {base n : Nat} {v : Value} {l m : List Int} (hn : n = l.length + m.length) (h : w.ownsRow base 5 1 v n (u8L l ++ u8L m)) : OB w base v (l ++ m) := by
  subst hn
  unfold OB
  rw [List.length_append, u8L_app]
  exact h
theorem append_none (P : Program) (w : World) (base : Nat) (t ty e : TypeId) (i : TypeInfo) (size : Nat) (ht : P.underlying t = some (.slice e)) (hi : P.info? e = some i)
    (v : Value) (n c : Nat) (xs : List Value) (hown : w.ownsRow base e size v n xs) :
    (Builtin.append_ #[t, t] ty #[v, .slice none 0 c]).run P w = .ok v w := by
  rcases hown.2 with ⟨rfl, rfl⟩ | ⟨g, cap, cur, rfl, _, _, hnc, _⟩
  · simp [Builtin.append_, run_underlying ht, sizeOf, typeInfo, hi, Builtin.lenOf, Builtin.firstCells]
  · simp [Builtin.append_, run_underlying ht, sizeOf, typeInfo, hi, Builtin.lenOf, Builtin.firstCells, hnc, storeCells]
theorem app_ob_wp {w : World} {o : Oper} {a : Act} {K : Act → World → Prop} {Q : Exit → Act → World → Prop} (s x : Operand)
    (ho : o.op = .call { callee := .builtin .append, args := #[s, x], argTypes := #[22, 22] })
    (base : Nat) (v : Value) (l : List Int) (hs : a.eval s = v) (hown : OB w base v l) (ad : Option Addr) (m cap : Nat) (c : Nat → Int) (hx : a.eval x = .slice ad m cap) (hb : BC w ad m c)
    (h63 : l.length + m ≤ 100000000) (hbase : base ≤ w.heap.size)
    (h : ∀ v' w', OB w' base v' (l ++ cl c m) → w.grownBy w' v.ownBlock → K (a.put o.dst v') w') : o.wp Tryd.prog a w K Q := by
  obtain ⟨i, hi, hz, hsize, hby⟩ := info_parts info5
  have hl : (u8L (cl c m)).length = m * 1 := by simp [u8L, cl_len]
  cases ad with
  | none =>
    have hm : m = 0 := by
      rcases Nat.eq_zero_or_pos m with e | e
      · exact e
      · obtain ⟨b, off, e2, _⟩ := hb 0 e; cases e2
    subst hm
    have hrun := append_none Tryd.prog w base 22 o.type 5 i 1 Tryd.underlying22 hi v l.length cap (u8L l) hown
    unfold Oper.wp
    simp [execOp, ho, resolve, invoke, builtin, hs, hx, hrun, Result.andThen]
    exact h v w (by rw [show cl c 0 = [] from rfl, List.append_nil]; exact hown) (World.grownBy.refl _ _)
  | some ad =>
    refine wp_append_own w s x 22 ho base 5 i (.int .u8 0) 1 1 Tryd.underlying22 hi hz hsize hby rfl (by decide) v l.length (u8L l) hs hown ad m cap (u8L (cl c m)) hx hl (fun j u hu => ?_) (u8L_one _) (by unfold maxLen; omega) (by omega) hbase (fun v' w' h2 h3 _ => h v' w' (OB.snoc (by rw [cl_len]) h2) h3)
    have hj : j < m := by
      have := (List.getElem?_eq_some_iff.1 hu).1
      rw [hl] at this; omega
    rw [hb.add rfl j hj, ← hu]
    simp [u8L, cl_at c m j hj]
theorem app_ob {w : World} {ops : Array Oper} {rest : List Oper} {o : Oper} {a : Act} {Q : Exit → Act → World → Prop} (hgd : o.guard = none) (s x : Operand)
    (ho : o.op = .call { callee := .builtin .append, args := #[s, x], argTypes := #[22, 22] })
    (base : Nat) (v : Value) (l : List Int) (hs : a.eval s = v) (hown : OB w base v l) (ad : Option Addr) (m cap : Nat) (c : Nat → Int) (hx : a.eval x = .slice ad m cap) (hb : BC w ad m c)
    (h63 : l.length + m ≤ 100000000) (hbase : base ≤ w.heap.size)
    (h : ∀ v' w', OB w' base v' (l ++ cl c m) → w.grownBy w' v.ownBlock → wpList Tryd.prog ops Q rest (a.put o.dst v') w') : wpList Tryd.prog ops Q (o :: rest) a w :=
  wpList_plain hgd fun _ hK => app_ob_wp s x ho base v l hs hown ad m cap c hx hb h63 hbase fun v' w' h2 h3 => hK _ _ (h v' w' h2 h3)
theorem str_cells {t : List Int} (ht : Byt t) : Lib.strCells (strOfNums t) = u8L t := by
  unfold Lib.strCells u8L
  rw [strOfNums_data, List.map_map]
  refine List.map_congr_left fun x hx => ?_
  have := ht x hx
  simp only [Function.comp_apply, UInt8.toNat_ofNat']
  rw [Nat.mod_eq_of_lt (by omega)]
  congr 1
  omega
theorem app_str_wp {w : World} {o : Oper} {a : Act} {K : Act → World → Prop} {Q : Exit → Act → World → Prop} (sl x : Operand)
    (ho : o.op = .call { callee := .builtin .append, args := #[sl, x], argTypes := #[22, 9] })
    (base : Nat) (v : Value) (l : List Int) (hs : a.eval sl = v) (hown : OB w base v l) (s : ByteArray) (t : List Int) (ht : Byt t) (hst : strOfNums t = s) (hx : a.eval x = .string s)
    (h63 : l.length + t.length ≤ 100000000) (hbase : base ≤ w.heap.size)
    (h : ∀ v' w', OB w' base v' (l ++ t) → w.grownBy w' v.ownBlock → K (a.put o.dst v') w') : o.wp Tryd.prog a w K Q := by
  obtain ⟨i, hi, hz, hsize, hby⟩ := info_parts info5
  subst hst
  have hsz := strOfNums_size t
  obtain ⟨v', w', hr, h2, h3, h4⟩ := Lib.run_append_own_string (P := Tryd.prog) w base 22 9 o.type 5 i Tryd.underlying22 Tryd.underlying9 hi hz hsize hby v l.length (u8L l) hown (strOfNums t) (by unfold maxLen; omega) (by omega) hbase
  unfold Oper.wp execOp
  simp only [ho, resolve, invoke, builtin, Sem.run_bind, Sem.run_pure, Result.andThen_ok, List.map_toArray, List.map_cons, List.map_nil, hs, hx, hr]
  refine h v' w' (OB.snoc rfl ?_) h3
  rw [str_cells ht, hsz] at h2
  exact h2
theorem app_str {w : World} {ops : Array Oper} {rest : List Oper} {o : Oper} {a : Act} {Q : Exit → Act → World → Prop} (hgd : o.guard = none) (sl x : Operand)
    (ho : o.op = .call { callee := .builtin .append, args := #[sl, x], argTypes := #[22, 9] })
    (base : Nat) (v : Value) (l : List Int) (hs : a.eval sl = v) (hown : OB w base v l) (s : ByteArray) (t : List Int) (ht : Byt t) (hst : strOfNums t = s) (hx : a.eval x = .string s)
    (h63 : l.length + t.length ≤ 100000000) (hbase : base ≤ w.heap.size)
    (h : ∀ v' w', OB w' base v' (l ++ t) → w.grownBy w' v.ownBlock → wpList Tryd.prog ops Q rest (a.put o.dst v') w') : wpList Tryd.prog ops Q (o :: rest) a w :=
  wpList_plain hgd fun _ hK => app_str_wp sl x ho base v l hs hown s t ht hst hx h63 hbase fun v' w' h2 h3 => hK _ _ (h v' w' h2 h3)
theorem cl_take (c : Nat → Int) (n i : Nat) (h : i < n) : (cl c n).take (i + 1) = (cl c n).take i ++ [c i] := by rw [List.take_add_one, cl_at c n i h]; rfl
theorem cl_byt {c : Nat → Int} {n : Nat} (h : Ch c n) : Byt (cl c n) := fun x hx => by
  obtain ⟨j, hj, rfl⟩ := List.mem_map.1 hx
  exact h.1 j (List.mem_range.1 hj)
/-- A row that was laid out for it. -/
theorem ob_lit (w : World) (base : Nat) (hb : base ≤ w.heap.size) (l : List Int) (h0 : l.length ≤ 1000) {A : Array Value} (hA : (u8L l).toArray = A) : OB (w.alloc (.cells A 5)) base (.slice (some ⟨w.heap.size, 0, none⟩) l.length l.length) l := by
  subst hA
  have := World.ownsRow_lit (base := base) (e := 5) (size := 1) w (u8L l).toArray l.length hb (by unfold maxLen; omega) (by simp [u8L])
  simpa [OB] using this
theorem ob_form {w : World} {base : Nat} {v : Value} {l : List Int} (h : OB w base v l) : ∃ ad c, v = .slice ad l.length c ∧ l.length ≤ c ∧ c ≤ 9223372036854775807 := by
  have hml : maxLen ≤ 9223372036854775807 := by unfold maxLen; omega
  unfold OB at h
  obtain ⟨_, ⟨rfl, h2⟩ | ⟨g, cap, cur, rfl, _, _, h3, h4, _⟩⟩ := h
  · exact ⟨none, 0, by rw [h2], by omega, by omega⟩
  · exact ⟨_, _, rfl, h3, by omega⟩
/-- One byte that was laid out for it. -/
theorem one_bc (w : World) (x : Int) : BC (w.alloc (.cells #[.int .u8 x] 5)) (some ⟨w.heap.size, 0, none⟩) 1 (cL [x]) := fun i hi => by
  obtain rfl : i = 0 := by omega
  refine ⟨_, _, rfl, ?_⟩
  have := heap_alloc_new w (.cells #[.int .u8 x] 5)
  simp only [World.cell?, this]
  rfl
theorem cl_one (x : Int) : cl (cL [x]) 1 = [x] := rfl
end Go.Proofs.YtbhjkkbempnjeaaDoor
/- token: Awake, over what Words answers. -/
namespace Go.Proofs.YtbhjkkbempnjeaaDoor
set_option linter.unusedVariables false
open Go.RowKit Go.ChangeShapes
theorem ex_ends : Ends (strOfNums (cl (cL exT) 19)) 19 := by
  refine ⟨by kernel_rfl, fun j hj => ?_⟩
  have h : ((List.range 19).all fun j => decide (pos (strOfNums (cl (cL exT) 19)) j < (strOfNums (cl (cL exT) 19)).size)) = true := by kernel_rfl
  exact of_decide_eq_true (List.all_eq_true.1 h j (List.mem_range.2 hj))
theorem ex_words : wordsL (cL exT) 19 (unS (strOfNums (cl (cL exT) 19)) 19) 1 64 = [⟨⟨#[112, 97, 114, 115, 101]⟩, 0, 5, true⟩, ⟨⟨#[72, 84, 77, 76]⟩, 5, 4, true⟩, ⟨⟨#[70, 105, 108, 101]⟩, 9, 4, true⟩, ⟨⟨#[100, 111, 110, 39, 116]⟩, 14, 5, true⟩] := by kernel_rfl
set_option maxRecDepth 100000 in
set_option maxHeartbeats 2000000 in
theorem awake_any (WO : WordsOk) (w : World) (hT : Lns.Tabs w) : Calls Tryd.prog 8 #[] w fun e w' => e = .returned (.bool true) ∧ Below w.heap.size w w' := by
  have hcA := fun (w' : World) => Go.Lib.run_convert_bytes_const (P := Tryd.prog) w' 22 5 #[.int .u8 112, .int .u8 97, .int .u8 114, .int .u8 115, .int .u8 101, .int .u8 72, .int .u8 84, .int .u8 77, .int .u8 76, .int .u8 70, .int .u8 105, .int .u8 108, .int .u8 101, .int .u8 32, .int .u8 100, .int .u8 111, .int .u8 110, .int .u8 39, .int .u8 116] 19 19 Tryd.underlying22 Tryd.underlying5
  obtain ⟨W, hW⟩ : ∃ W, w.alloc (.cells #[.int .u8 112, .int .u8 97, .int .u8 114, .int .u8 115, .int .u8 101, .int .u8 72, .int .u8 84, .int .u8 77, .int .u8 76, .int .u8 70, .int .u8 105, .int .u8 108, .int .u8 101, .int .u8 32, .int .u8 100, .int .u8 111, .int .u8 110, .int .u8 39, .int .u8 116] 5 (19, 20)) = W := ⟨_, rfl⟩
  have hL1 : BC W (some ⟨w.heap.size, 0, none⟩) 19 (cL exT) := by
    rw [← hW]
    exact (lit_bc w exT (19, 20)).congr fun i hi => by
      have hi' : i < exT.length := hi
      simp [cL, List.getElem?_eq_getElem hi']
  have hB1 : Below w.heap.size w W := by rw [← hW]; exact below_alloc w _
  have HB1 : Hid (Below w.heap.size w W) := hB1
  have HL1 : Hid (BC W (some ⟨w.heap.size, 0, none⟩) 19 (cL exT)) := hL1
  have HT : Hid (Lns.Tabs W) := Lns.tabs_stay hT hB1
  have HWO : Hid WordsOk := WO
  have hch : ∀ j, j < 19 → 0 ≤ cL exT j ∧ cL exT j < 256 := (cL_ch (byt_lit exT rfl)).1
  have HCH : Hid (∀ j, j < 19 → 0 ≤ cL exT j ∧ cL exT j < 256) := hch
  have cu := unitsB_any HT.out hch hL1 (cap := 19) (Nat.le_refl _) (by decide)
  clear hL1 hB1 hT WO hch
  go_enter Tryd.func8, Tryd.ntmps8
  go_wp2_with fail
  refine cu.mono ?_
  rintro e w1 ⟨k, v, rfl, he, -, hR, hb1⟩
  obtain rfl := he.one ex_ends
  have HB2 : Hid (Below w.heap.size w w1) := HB1.out.trans (hb1.mono HB1.out.size)
  have cw := HWO.out w1 _ 19 19 (cL exT) v _ 1 64 HCH.out (HL1.out.stay hb1) (Nat.le_refl _) (by decide) (by decide) hR.us (unS_fit he) (by rw [unS_len]; decide) (unS_bd he (by rw [strOfNums_size, cl_len]; decide)) (by decide) (by decide)
  rw [ex_words] at cw
  clear cu hR hb1 he hcA hW
  go_wp2_with fail
  refine cw.mono ?_
  rintro e w2 ⟨v2, rfl, ⟨A, C, rfl, hC, hh⟩, hb2⟩
  have HB3 : Hid (Below w.heap.size w w2) := HB2.out.trans (hb2.mono HB2.out.size)
  obtain ⟨b, off, rfl, -, a1, -⟩ := hh 0 _ rfl
  obtain ⟨b', off', e1, -, a2, -⟩ := hh 1 _ rfl
  injection e1 with e1
  injection e1 with e1 e2 _
  subst e1 e2
  obtain ⟨b', off', e1, -, a3, -⟩ := hh 2 _ rfl
  injection e1 with e1
  injection e1 with e1 e2 _
  subst e1 e2
  obtain ⟨b', off', e1, -, a4, -, -, a5⟩ := hh 3 _ rfl
  injection e1 with e1
  injection e1 with e1 e2 _
  subst e1 e2
  rw [Nat.zero_mul, Nat.add_zero] at a1
  dsimp only at a1 a2 a3 a4 a5
  clear cw hb2 hh
  have hl : ([⟨⟨#[112, 97, 114, 115, 101]⟩, 0, 5, true⟩, ⟨⟨#[72, 84, 77, 76]⟩, 5, 4, true⟩, ⟨⟨#[70, 105, 108, 101]⟩, 9, 4, true⟩, ⟨⟨#[100, 111, 110, 39, 116]⟩, 14, 5, true⟩] : List W4).length = 4 := rfl
  rw [hl]
  rw [hl] at hC
  clear hl
  go_wp2
  go_ret
  exact ⟨rfl, HB3.out⟩
end Go.Proofs.YtbhjkkbempnjeaaDoor
