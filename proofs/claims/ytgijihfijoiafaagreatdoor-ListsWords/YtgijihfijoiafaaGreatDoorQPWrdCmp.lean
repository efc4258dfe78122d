/- lists.Words. -/
import Derived.Test.YtgijihfijoiafaaGreatDoorQPGSortGShelfS
import Derived.Test.YtgijihfijoiafaaGreatDoorQPEchWds
import Derived.Test.YtgijihfijoiafaaGreatDoorQPReaFxs
import Derived.Laws.Cover1
namespace Go.Proofs.YtgijihfijoiafaaGreatDoor
set_option linter.unusedVariables false
open Go.RowKit Go.ChangeShapes

abbrev nmW : ByteArray := ⟨#[119, 111, 114, 100, 115]⟩
/-- Words, rising. -/
def srt (L : List ByteArray) : List ByteArray := ((L.map (·.data.toList)).mergeSort fun x y => decide (x ≤ y)).map fun l => ⟨l.toArray⟩
theorem enterW (args : Array Value) (w : World) : (callFunc 31 args).run Tryz.prog w = .ok (.enter 31 args) w := Proofs.enters_of Tryz.func31 (by kernel_rfl) rfl args w
open Go.Sort in
theorem grow_below {B : Nat} {w0 w : World} {os : Array Obj} (h : Below B w0 w) (hB : B ≤ w.heap.size) : Below B w0 (grow w os) :=
  ⟨h.os, h.tape, h.output, by have := h.size; simp [grow]; omega, fun k hk => by
    rw [← h.block k hk]
    simp only [grow]
    exact Array.getElem?_append_left (by omega)⟩
open Go.Sort in
theorem putRow_size {α : Type} [Inhabited α] (enc : α → Value) (w : World) (q g : Nat) (d : Array α) : (putRow enc (Sort.ahead w q) g 0 d).heap.size = w.heap.size := by
  simp [putRow, mapBlock, Sort.ahead]
theorem srt_cells (L : List ByteArray) : ((L.map (·.data.toList)).mergeSort fun x y => decide (x ≤ y)).map Proofs.encStr = (srt L).map Value.string := by
  unfold srt
  rw [List.map_map]
  rfl
theorem srt_len (L : List ByteArray) : (srt L).length = L.length := by
  unfold srt
  rw [List.length_map, List.length_mergeSort, List.length_map]
open Go.Sort in
theorem sort_any (L : List ByteArray) (base : Nat) (v : Value) (w : World) (hn : L.length ≤ 100000) (h : w.ownsRow base 9 1 v L.length (L.map Value.string)) :
    Calls Tryz.prog 33 #[v] w fun e w' => e = .returned (.tuple #[]) ∧ w'.ownsRow base 9 1 v L.length ((srt L).map Value.string) ∧ ∀ B w0, Below B w0 w → B ≤ base → B ≤ w.heap.size → Below B w0 w' := by
  by_cases hv : v = .slice none 0 0
  · subst hv
    have hz : L = [] := by
      obtain ⟨h1, ⟨_, h2⟩ | ⟨g, cap, cur, h3, _⟩⟩ := h
      · exact List.eq_nil_of_length_eq_zero h2
      · cases h3
    subst hz
    refine (Tryz.slices_Sort_string_none none 0 w).mono ?_
    rintro e w' ⟨rfl, rfl⟩
    exact ⟨rfl, by rw [show srt [] = [] by simp [srt]]; exact World.ownsRow_nil _ _ _ _, fun B w0 hb _ _ => hb⟩
  · have h' := h
    rw [← Lib.map_encStr] at h'
    obtain ⟨g, cap, rfl, hg, hgl, hnc, hcm, hzn, hH⟩ := Lib.holds_of_ownsRow h' hv
    have hcon := Tryz.slices_Sort_string g 0 cap (L.map (·.data.toList)) w hH hgl (by rw [hzn]; omega)
    rw [hzn] at hcon
    refine hcon.mono ?_
    rintro e w' ⟨rfl, n, os, rfl⟩
    have ho := Lib.ownsRow_putRow (q := n) (k := L.length) (ys := (L.map (·.data.toList)).mergeSort fun x y => decide (x ≤ y)) h' (by rw [List.length_mergeSort, hzn]) (Nat.le_refl _)
    rw [List.take_of_length_le (by rw [List.length_mergeSort, hzn]; exact Nat.le_refl _), srt_cells] at ho
    refine ⟨rfl, ?_, fun B w0 hb h1 h2 => grow_below (Lib.below_putRow hb (by omega)) (by rw [putRow_size]; exact h2)⟩
    exact own_block ho (fun k _ hk => by simp only [grow]; exact Array.getElem?_append_left hk)
theorem winv_start (w : World) (X : Nat) (hX : w.heap.size + 4 ≤ X) : WInv w X ⟨0, []⟩ ((((w.alloc (.cells #[.slice none 0 0] 28)).alloc (.map #[] 0)).alloc (.cells #[.int .i64 0] 3)).alloc (.cells #[.map (some (w.heap.size + 1))] 63)) := by
  refine ⟨((((Up.refl w).alloc _).alloc _).alloc _).alloc _ |>.1, ?_, ?_, ⟨0, Nat.le_refl _, ?_⟩, ⟨.slice none 0 0, ?_, World.ownsRow_nil _ _ _ _⟩, hX, Nat.zero_le _, Nat.le_refl _⟩
  · have h := Bk.new ((w.alloc (.cells #[.slice none 0 0] 28)).alloc (.map #[] 0)) #[.int .i64 0] 3
    simp only [World.size_alloc] at h
    exact h.alloc _
  · have h := Bk.new (((w.alloc (.cells #[.slice none 0 0] 28)).alloc (.map #[] 0)).alloc (.cells #[.int .i64 0] 3)) #[.map (some (w.heap.size + 1))] 63
    simp only [World.size_alloc] at h
    exact h
  · have h := Bag.made (w.alloc (.cells #[.slice none 0 0] 28))
    simp only [World.size_alloc] at h
    exact (h.stay ((Below.refl _ _).alloc (Nat.le_refl _) _)).stay ((Below.refl _ _).alloc (Nat.le_refl _) _)
  · exact (((Bk.new w #[.slice none 0 0] 28).alloc _).alloc _).alloc _
set_option maxRecDepth 100000 in
set_option maxHeartbeats 2000000 in
theorem words_run (s : ByteArray) (v : Value) (m : Int) (w : World) (hs : s.size ≤ 40000) (hT : Tabs w) (hb : Lns.BSl w v s) (hm : w.cell? ⟨3, 0, none⟩ = some (.int .i64 m)) (hL : longL (linesL s) 0 = 0) :
    Calls Tryz.prog 14 #[v] w fun e w' => ∃ st c ln, runR wstep (linesL s) 0 ⟨0, []⟩ = (st, c, ln) ∧ Below w.heap.size w w' ∧
      ((c = 0 ∧ ∃ u, e = .returned (.tuple #[u, .nilIface]) ∧ w'.ownsRow w.heap.size 9 1 u st.L.length ((srt st.L).map Value.string)) ∨
       (c ≠ 0 ∧ ∃ b, e = .returned (.tuple #[.slice none 0 0, val [⟨b, nmW, ln⟩] c]) ∧ Lie w' [⟨b, nmW, ln⟩] c)) := by
  have hmm := @run_makeMap Tryz.prog
  have hmf : ∀ (fn : Fn) (first cap : Array Value) (w : World), (Instr.makeFunc fn first cap).run Tryz.prog w = .ok (.func fn first cap) w := fun _ _ _ _ => rfl
  have HB : Hid (Lns.BSl w v s) := hb
  have HT : Hid (Tabs w) := hT
  obtain ⟨vd, vc, rfl⟩ := hb.form
  have HM : Hid (w.cell? ⟨3, 0, none⟩ = some (.int .i64 m)) := hm
  clear hb hT hm
  go_enter Tryz.func14, Tryz.ntmps14
  go_wp2_with fail
  have hsz : ((((w.alloc (.cells #[.slice none 0 0] 28)).alloc (.map #[] 0)).alloc (.cells #[.int .i64 0] 3)).alloc (.cells #[.map (some (w.heap.size + 1))] 63)).heap.size = w.heap.size + 4 := by simp
  have HW : Hid (∀ X, w.heap.size + 4 ≤ X → WInv w X ⟨0, []⟩ ((((w.alloc (.cells #[.slice none 0 0] 28)).alloc (.map #[] 0)).alloc (.cells #[.int .i64 0] 3)).alloc (.cells #[.map (some (w.heap.size + 1))] 63))) := winv_start w
  have HU : Hid (Up w.heap.size w ((((w.alloc (.cells #[.slice none 0 0] 28)).alloc (.map #[] 0)).alloc (.cells #[.int .i64 0] 3)).alloc (.cells #[.map (some (w.heap.size + 1))] 63))) := (((((Up.refl w).alloc _).alloc _).alloc _).alloc _)
  generalize (((w.alloc (.cells #[.slice none 0 0] 28)).alloc (.map #[] 0)).alloc (.cells #[.int .i64 0] 3)).alloc (.cells #[.map (some (w.heap.size + 1))] 63) = W at hsz HW HU ⊢
  have hbel := HU.out.1
  have hbs : Below w.heap.size w W := hbel
  refine (each_run nmW s (.slice vd s.size vc) 31 #[.pointer (some ⟨w.heap.size + 2, 0, none⟩), .pointer (some ⟨w.heap.size + 3, 0, none⟩), .pointer (some ⟨w.heap.size, 0, none⟩)] (WInv w) (fun _ => True) wstep ⟨0, []⟩ m W hs (tabs_up HT.out hbs) (HB.out.stay hbs)
    (fun X st w' h => (h.up.cell (World.block_lt_of_cell? w _ HM.out)).trans HM.out) (fun r w' => enterW _ w') trivial (fun _ _ _ _ => trivial)
    (fun X st r w' _ h1 h2 h3 h4 => words1_any w HT.out X st r w' h1 h3 h4) (fun X st w' w'' h1 h2 => h1.stay h2) (fun X w' h1 h2 => (HW.out X (by omega)).stay h1) hL).mono ?_
  clear hbel hbs hsz HW HU
  rintro e w1 ⟨X, st, c, ln, hrun, hI, ⟨rfl, _, rfl⟩ | ⟨hc, b, rfl, hlie⟩⟩
  · obtain ⟨u, hu, hol⟩ := hI.l
    obtain ⟨ad, cp, rfl⟩ := own_form hol
    have hcv := hu.cell 0 rfl
    have hul := hu.lt
    have hx := hI.x
    have hcl := hI.c
    have hnl := hI.n
    have HP : Hid (Below w.heap.size w w1) := hI.up
    have HR : Hid (runR wstep (linesL s) 0 ⟨0, []⟩ = (st, 0, ln)) := hrun
    have c4 := sort_any st.L (X + 1) _ w1 (by omega) hol
    clear hI hu hrun hol
    go_wp2_with fail
    refine c4.mono ?_
    rintro e w2 ⟨rfl, ho2, hbb⟩
    have hk := hbb (w.heap.size + 1) w1 (Below.refl _ _) (by omega) (by omega)
    have hcv2 : w2.cell? ⟨w.heap.size, 0, none⟩ = _ := (hk.cell (by simp)).trans hcv
    have HO : Hid (w2.ownsRow (X + 1) 9 1 (.slice ad st.L.length cp) st.L.length ((srt st.L).map Value.string)) := ho2
    have HP2 : Hid (Below w.heap.size w w2) := HP.out.trans (hk.mono (by omega))
    clear hbb hk ho2 c4 hcv
    go_wp2
    refine bodyPost_ret (v := .tuple #[.slice ad st.L.length cp, .nilIface]) (by simp [results, Tryz.results14, go_sem]) rfl ?_
    exact ⟨st, 0, ln, HR.out, HP2.out, Or.inl ⟨rfl, _, rfl, Lns.own_mono HO.out (by omega)⟩⟩
  · have HP : Hid (Below w.heap.size w w1) := hI.up
    have HR : Hid (runR wstep (linesL s) 0 ⟨0, []⟩ = (st, c, ln)) := hrun
    have HL : Hid (Lie w1 [⟨b, nmW, ln⟩] c) := hlie
    clear hI hrun hlie
    unfold val
    go_wp2
    refine bodyPost_ret (v := .tuple #[.slice none 0 0, val [⟨b, nmW, ln⟩] c]) (by simp [results, Tryz.results14, go_sem, val]) rfl ?_
    exact ⟨st, c, ln, HR.out, HP.out, Or.inr ⟨hc, b, rfl, HL.out⟩⟩
end Go.Proofs.YtgijihfijoiafaaGreatDoor
/- cmp.Compare of texts; slices.SortFunc of corrections. -/
namespace Go.Proofs.YtgijihfijoiafaaGreatDoor
set_option linter.unusedVariables false
open Go.RowKit Go.ChangeShapes Go.Sort Go.Shelf Go.Lib

theorem isNaN_any (s : ByteArray) (w : World) : Calls Tryz.prog 69 #[.string s] w fun e w' => e = .returned (.bool false) ∧ w' = w := by
  go_enter Tryz.func69, Tryz.ntmps69
  go_wp2
  go_ret
  exact ⟨rfl, rfl⟩
def cmpS (s t : ByteArray) : Int := bif Op.bytesLess s.toList t.toList then -1 else bif !(Op.bytesLess s.toList t.toList || s.toList == t.toList) then 1 else 0
theorem cmp_any (s t : ByteArray) (w : World) : Calls Tryz.prog 43 #[.string s, .string t] w fun e w' => e = .returned (.int .i64 (cmpS s t)) ∧ w' = w := by
  unfold cmpS
  generalize ha : Op.bytesLess s.toList t.toList = a
  generalize hb : (!(a || s.toList == t.toList)) = b
  go_enter Tryz.func43, Tryz.ntmps43
  go_wp2_with (first | (go_at_call 69; refine (isNaN_any _ _).mono ?_; rintro e w1 ⟨rfl, rfl⟩) | fail)
  all_goals go_ret
  all_goals simp_all
theorem cmpS_lt (s t : ByteArray) : decide (cmpS s t < 0) = Op.bytesLess s.toList t.toList := by
  unfold cmpS
  cases Op.bytesLess s.toList t.toList
  · cases s.toList == t.toList <;> rfl
  · rfl
def fenc (x : Fx) : List Value := [.string x.f, x.v]
def cfx (x y : Fx) : Int := cmpS x.f y.f
theorem lt_cfx (x y : Fx) : Proofs.ltOf cfx x y = ltStr x.f.data.toList y.f.data.toList := by
  show decide (cmpS x.f y.f < 0) = _
  rw [cmpS_lt, Lib.toList_data, Lib.toList_data, bytesLess_eq]
  rfl
theorem swo_cfx : SWO (Proofs.ltOf cfx) where
  irrefl x := by rw [lt_cfx]; exact swo_ltStr.irrefl _
  trans x y z h1 h2 := by rw [lt_cfx] at *; exact swo_ltStr.trans _ _ _ h1 h2
  ntrans x y z h1 h2 := by rw [lt_cfx] at *; exact swo_ltStr.ntrans _ _ _ h1 h2
theorem clos2_any (x y : Fx) (W : World) : Calls Tryz.prog 42 #[.agg #[.string x.f, x.v], .agg #[.string y.f, y.v]] W fun e w' => e = .returned (.int .i64 (cfx x y)) ∧ ∃ q os', w' = grow (W.drewN q) os' := by
  have hcon := fun W' => cmp_any x.f y.f W'
  show Calls _ _ _ _ fun e w' => e = .returned (.int .i64 (cmpS x.f y.f)) ∧ _
  unfold Fx.v
  generalize cmpS x.f y.f = r at hcon ⊢
  go_enter Tryz.func42, Tryz.ntmps42
  go_wp2_with (go_at_call 43; refine (hcon _).mono ?_; rintro e w' ⟨rfl, rfl⟩)
  go_ret
  exact ⟨rfl, 0, _, by rw [alloc_eq_grow, alloc_eq_grow, grow_grow]; rfl⟩
theorem flat_cells [Inhabited Fx] : ∀ (xs : List Fx) (j : Nat), j < xs.length * 2 → (fcells xs)[j]? = some ((fenc xs[j / 2]!)[j % 2]!)
  | [], j, h => by simp at h
  | x :: xs, j, h => by
    match j, h with
    | 0, _ => rfl
    | 1, _ => rfl
    | j + 2, h =>
      have h1 : (j + 2) / 2 = j / 2 + 1 := by omega
      have h2 : (j + 2) % 2 = j % 2 := by omega
      have ih := flat_cells xs j (by simp at h; omega)
      rw [h1, h2]
      show (fcells xs)[j]? = _
      rw [ih]
      simp
theorem fcells_len (xs : List Fx) : (fcells xs).length = xs.length * 2 := by
  induction xs with
  | nil => rfl
  | cons x xs ih => show (fcells xs).length + 1 + 1 = _; rw [ih]; simp; omega
theorem flat_toList [Inhabited Fx] (xs : List Fx) : (flatK fenc 2 xs.toArray).toList = fcells xs := by
  apply List.ext_getElem?
  intro j
  by_cases h : j < xs.length * 2
  · rw [flat_cells xs j h, Array.getElem?_toList]
    have hs : j < (flatK fenc 2 xs.toArray).size := by simp; omega
    rw [Array.getElem?_eq_getElem hs]
    have := get_flatK fenc 2 xs.toArray j (by simpa using h)
    rw [getElem!_pos (flatK fenc 2 xs.toArray) j hs] at this
    rw [this]
    simp
  · rw [List.getElem?_eq_none (by simp; omega), List.getElem?_eq_none (by rw [fcells_len]; omega)]
theorem enter2 (args : Array Value) (w : World) : (callFunc 42 args).run Tryz.prog w = .ok (.enter 42 args) w := Proofs.enters_of Tryz.func42 (by kernel_rfl) rfl args w
/-- Corrections, rising. -/
def Rise (ys : List Fx) : Prop := ys.Pairwise fun x y => ltStr y.f.data.toList x.f.data.toList = false
theorem sortF_any (xs : List Fx) (base : Nat) (v : Value) (w : World) (hn : xs.length ≤ 100000) (h : w.ownsRow base 49 2 v xs.length (fcells xs)) :
    Calls Tryz.prog 41 #[v, .func (.func 42) #[] #[]] w fun e w' => e = .returned (.tuple #[]) ∧ ∃ ys, ys.Perm xs ∧ Rise ys ∧ w'.ownsRow base 49 2 v xs.length (fcells ys) ∧ (∀ B w0, Below B w0 w → B ≤ base → B ≤ w.heap.size → Below B w0 w') ∧
      (∀ k, k < w.heap.size → v.ownBlock ≠ some k → w'.heap[k]? = w.heap[k]?) := by
  have hinh : Inhabited Fx := ⟨⟨⟨#[]⟩, [], none, 0⟩⟩
  obtain ⟨h1, ⟨rfl, h2⟩ | ⟨g, cap, cur, rfl, hg, hh, hnc, hcm, hcs, htk⟩⟩ := h
  · have hz : xs = [] := List.eq_nil_of_length_eq_zero h2
    subst hz
    refine Calls.mono (show Calls Tryz.prog 41 _ _ _ from AnyF.slices_SortFunc_none Tryz.sortF none 0 _ w) ?_
    rintro e w' ⟨rfl, rfl⟩
    exact ⟨rfl, [], List.Perm.refl _, List.Pairwise.nil, World.ownsRow_nil _ _ _ _, fun B w0 hb _ _ => hb, fun _ _ _ => rfl⟩
  · have hgl := lt_of_heap hh
    have hH : HoldsK fenc 2 w g 0 xs.toArray := by
      intro j hj
      have hj' : j < xs.length * 2 := by simpa using hj
      refine ⟨?_, by simp [World.frozen?, hh]⟩
      have e1 : (cur.toList.take (xs.length * 2))[j]? = (fcells xs)[j]? := by rw [htk]
      rw [List.getElem?_take, if_pos hj', Array.getElem?_toList] at e1
      have e2 : (flatK fenc 2 xs.toArray).toList[j]? = (fcells xs)[j]? := by rw [flat_toList]
      rw [Array.getElem?_toList, Array.getElem?_eq_getElem hj] at e2
      simp only [World.cell?, hh, Nat.zero_add]
      simp only [Option.isSome_none, Bool.false_eq_true, if_false]
      rw [e1, ← e2, getElem!_pos (flatK fenc 2 xs.toArray) j hj]
      rfl
    have hcon := AnyQ.slices_SortFunc Tryz.sortF 2 Tryz.isAgg49 Tryz.sizeOf49 fenc (fun _ => rfl) (fun x v hv => by simp [fenc, Fx.v] at hv; rcases hv with rfl | rfl <;> rfl) cfx swo_cfx 42 #[] g 0 cap xs.toArray w enter2 (fun _ _ _ _ x y => clos2_any x y _) hH hgl (by simp; omega)
    change Calls Tryz.prog 41 _ _ _ at hcon
    simp only [List.size_toArray] at hcon
    refine hcon.mono ?_
    rintro e w' ⟨rfl, d', n, os, hp, hs, rfl⟩
    have hds : d'.size = xs.length := by simpa using hp.1
    have hpm : d'.toList.Perm xs := by
      have := hp.2.2
      rw [← hds, Array.extract_size, hds] at this
      simpa using this
    have hps : (putRow id (Sort.ahead w n) g 0 (flatK fenc 2 d')).heap.size = w.heap.size := putRow_size id w n g _
    have hother : ∀ k, k ≠ g → (putRow id (Sort.ahead w n) g 0 (flatK fenc 2 d')).heap[k]? = w.heap[k]? := fun k hk => by
      simp [putRow, mapBlock, Sort.ahead, Array.getElem?_modify, hk.symm]
    have hgrow : ∀ k, k < w.heap.size → (sortWorldK fenc 2 w g 0 n d' os).heap[k]? = (putRow id (Sort.ahead w n) g 0 (flatK fenc 2 d')).heap[k]? := fun k hk => by
      show ((putRow id (Sort.ahead w n) g 0 (flatK fenc 2 d')).heap ++ os)[k]? = _
      exact Array.getElem?_append_left (by rw [hps]; exact hk)
    refine ⟨rfl, d'.toList, hpm, ?_, ?_, ?_, ?_⟩
    · unfold Rise
      rw [List.pairwise_iff_getElem]
      intro i j hi hj hij
      have := hs i j (Nat.zero_le _) hij (by rw [← hds]; simpa using hj)
      rw [lt_cfx] at this
      have hi' : i < d'.size := by simpa using hi
      have hj' : j < d'.size := by simpa using hj
      rw [getElem!_pos d' i hi', getElem!_pos d' j hj'] at this
      simpa using this
    · refine ⟨by rw [fcells_len]; simp [hds], .inr ⟨g, cap, putCells id 0 (flatK fenc 2 d') cur, rfl, hg, ?_, hnc, hcm, by simpa [putCells] using hcs, ?_⟩⟩
      · rw [hgrow g hgl]
        simp [putRow, mapBlock, Sort.ahead, Array.getElem?_modify, hh, onCells]
      · apply List.ext_getElem?
        intro j
        rw [List.getElem?_take, Array.getElem?_toList]
        by_cases hj : j < xs.length * 2
        · have hjc : j < cur.size := by omega
          have hjf : j < (flatK fenc 2 d').size := by simp [hds]; omega
          have e2 : (flatK fenc 2 d').toList[j]? = (fcells d'.toList)[j]? := by rw [← flat_toList]
          rw [Array.getElem?_toList, Array.getElem?_eq_getElem hjf] at e2
          simp only [if_pos hj, putCells, Array.getElem?_mapIdx, Array.getElem?_eq_getElem hjc, Option.map_some]
          rw [if_pos (by omega), ← e2]
          simp only [id, Nat.sub_zero]
          rw [getElem!_pos (flatK fenc 2 d') j hjf]
        · rw [if_neg hj, List.getElem?_eq_none (by rw [fcells_len]; simp [hds]; omega)]
    · intro B w0 hb h1 h2
      refine grow_below (Lib.below_putRow hb (by omega)) (by show B ≤ (putRow id (Sort.ahead w n) g 0 (flatK fenc 2 d')).heap.size; rw [putRow_size]; exact h2)
    · intro k hk hne
      rw [hgrow k hk]
      exact hother k (fun e => hne (by rw [e]; rfl))
end Go.Proofs.YtgijihfijoiafaaGreatDoor
