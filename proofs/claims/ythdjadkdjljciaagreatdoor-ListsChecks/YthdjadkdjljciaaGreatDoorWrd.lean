/- lists.Words. -/
import Derived.Test.YthdjadkdjljciaaGreatDoorWds
namespace Go.Proofs.YthdjadkdjljciaaGreatDoor
set_option linter.unusedVariables false
open Go.RowKit Go.ChangeShapes

abbrev nmW : ByteArray := ⟨#[119, 111, 114, 100, 115]⟩
/-- Words, rising. -/
def srt (L : List ByteArray) : List ByteArray := ((L.map (·.data.toList)).mergeSort fun x y => decide (x ≤ y)).map fun l => ⟨l.toArray⟩
theorem enterW (args : Array Value) (w : World) : (callFunc 31 args).run Tryz.prog w = .ok (.enter 31 args) w := Proofs.enters_of Tryz.func31 (by kernel_rfl) rfl args w
open Go.Sort in
theorem grow_below {B : Nat} {w0 w : World} {os : Array Obj} (h : Below B w0 w) (hB : B ≤ w.heap.size) : Below B w0 (grow w os) :=
  ⟨h.os, h.tape, h.output, by have := h.size; simp [grow]; omega, fun k hk => by
    rw [← h.block k hk]
    simp only [grow]
    exact Array.getElem?_append_left (by omega)⟩
open Go.Sort in
theorem putRow_size {α : Type} [Inhabited α] (enc : α → Value) (w : World) (q g : Nat) (d : Array α) : (putRow enc (Sort.ahead w q) g 0 d).heap.size = w.heap.size := by
  simp [putRow, mapBlock, Sort.ahead]
theorem srt_cells (L : List ByteArray) : ((L.map (·.data.toList)).mergeSort fun x y => decide (x ≤ y)).map Proofs.encStr = (srt L).map Value.string := by
  unfold srt
  rw [List.map_map]
  rfl
theorem srt_len (L : List ByteArray) : (srt L).length = L.length := by
  unfold srt
  rw [List.length_map, List.length_mergeSort, List.length_map]
open Go.Sort in
theorem sort_any (L : List ByteArray) (base : Nat) (v : Value) (w : World) (hn : L.length ≤ 100000) (h : w.ownsRow base 9 1 v L.length (L.map Value.string)) :
    Calls Tryz.prog 33 #[v] w fun e w' => e = .returned (.tuple #[]) ∧ w'.ownsRow base 9 1 v L.length ((srt L).map Value.string) ∧ ∀ B w0, Below B w0 w → B ≤ base → B ≤ w.heap.size → Below B w0 w' := by
  by_cases hv : v = .slice none 0 0
  · subst hv
    have hz : L = [] := by
      obtain ⟨h1, ⟨_, h2⟩ | ⟨g, cap, cur, h3, _⟩⟩ := h
      · exact List.eq_nil_of_length_eq_zero h2
      · cases h3
    subst hz
    refine (Tryz.slices_Sort_string_none none 0 w).mono ?_
    rintro e w' ⟨rfl, rfl⟩
    exact ⟨rfl, by rw [show srt [] = [] by simp [srt]]; exact World.ownsRow_nil _ _ _ _, fun B w0 hb _ _ => hb⟩
  · have h' := h
    rw [← Lib.map_encStr] at h'
    obtain ⟨g, cap, rfl, hg, hgl, hnc, hcm, hzn, hH⟩ := Lib.holds_of_ownsRow h' hv
    have hcon := Tryz.slices_Sort_string g 0 cap (L.map (·.data.toList)) w hH hgl (by rw [hzn]; omega)
    rw [hzn] at hcon
    refine hcon.mono ?_
    rintro e w' ⟨rfl, n, os, rfl⟩
    have ho := Lib.ownsRow_putRow (q := n) (k := L.length) (ys := (L.map (·.data.toList)).mergeSort fun x y => decide (x ≤ y)) h' (by rw [List.length_mergeSort, hzn]) (Nat.le_refl _)
    rw [List.take_of_length_le (by rw [List.length_mergeSort, hzn]; exact Nat.le_refl _), srt_cells] at ho
    refine ⟨rfl, ?_, fun B w0 hb h1 h2 => grow_below (Lib.below_putRow hb (by omega)) (by rw [putRow_size]; exact h2)⟩
    exact own_block ho (fun k _ hk => by simp only [grow]; exact Array.getElem?_append_left hk)
theorem winv_start (w : World) (X : Nat) (hX : w.heap.size + 4 ≤ X) : WInv w X ⟨0, []⟩ ((((w.alloc (.cells #[.slice none 0 0] 28)).alloc (.map #[] 0)).alloc (.cells #[.int .i64 0] 3)).alloc (.cells #[.map (some (w.heap.size + 1))] 63)) := by
  refine ⟨((((Up.refl w).alloc _).alloc _).alloc _).alloc _ |>.1, ?_, ?_, ⟨0, Nat.le_refl _, ?_⟩, ⟨.slice none 0 0, ?_, World.ownsRow_nil _ _ _ _⟩, hX, Nat.zero_le _, Nat.le_refl _⟩
  · have h := Bk.new ((w.alloc (.cells #[.slice none 0 0] 28)).alloc (.map #[] 0)) #[.int .i64 0] 3
    simp only [World.size_alloc] at h
    exact h.alloc _
  · have h := Bk.new (((w.alloc (.cells #[.slice none 0 0] 28)).alloc (.map #[] 0)).alloc (.cells #[.int .i64 0] 3)) #[.map (some (w.heap.size + 1))] 63
    simp only [World.size_alloc] at h
    exact h
  · have h := Bag.made (w.alloc (.cells #[.slice none 0 0] 28))
    simp only [World.size_alloc] at h
    exact (h.stay ((Below.refl _ _).alloc (Nat.le_refl _) _)).stay ((Below.refl _ _).alloc (Nat.le_refl _) _)
  · exact (((Bk.new w #[.slice none 0 0] 28).alloc _).alloc _).alloc _
set_option maxRecDepth 100000 in
set_option maxHeartbeats 2000000 in
theorem words_run (s : ByteArray) (v : Value) (m : Int) (w : World) (hs : s.size ≤ 40000) (hT : Tabs w) (hb : Lns.BSl w v s) (hm : w.cell? ⟨3, 0, none⟩ = some (.int .i64 m)) (hL : longL (linesL s) 0 = 0) :
    Calls Tryz.prog 14 #[v] w fun e w' => ∃ st c ln, runR wstep (linesL s) 0 ⟨0, []⟩ = (st, c, ln) ∧ Below w.heap.size w w' ∧
      ((c = 0 ∧ ∃ u, e = .returned (.tuple #[u, .nilIface]) ∧ w'.ownsRow w.heap.size 9 1 u st.L.length ((srt st.L).map Value.string)) ∨
       (c ≠ 0 ∧ ∃ b, e = .returned (.tuple #[.slice none 0 0, val [⟨b, nmW, ln⟩] c]) ∧ Lie w' [⟨b, nmW, ln⟩] c)) := by
  have hmm := @run_makeMap Tryz.prog
  have hmf : ∀ (fn : Fn) (first cap : Array Value) (w : World), (Instr.makeFunc fn first cap).run Tryz.prog w = .ok (.func fn first cap) w := fun _ _ _ _ => rfl
  have HB : Hid (Lns.BSl w v s) := hb
  have HT : Hid (Tabs w) := hT
  obtain ⟨vd, vc, rfl⟩ := hb.form
  have HM : Hid (w.cell? ⟨3, 0, none⟩ = some (.int .i64 m)) := hm
  clear hb hT hm
  go_enter Tryz.func14, Tryz.ntmps14
  go_wp2_with fail
  have hsz : ((((w.alloc (.cells #[.slice none 0 0] 28)).alloc (.map #[] 0)).alloc (.cells #[.int .i64 0] 3)).alloc (.cells #[.map (some (w.heap.size + 1))] 63)).heap.size = w.heap.size + 4 := by simp
  have HW : Hid (∀ X, w.heap.size + 4 ≤ X → WInv w X ⟨0, []⟩ ((((w.alloc (.cells #[.slice none 0 0] 28)).alloc (.map #[] 0)).alloc (.cells #[.int .i64 0] 3)).alloc (.cells #[.map (some (w.heap.size + 1))] 63))) := winv_start w
  have HU : Hid (Up w.heap.size w ((((w.alloc (.cells #[.slice none 0 0] 28)).alloc (.map #[] 0)).alloc (.cells #[.int .i64 0] 3)).alloc (.cells #[.map (some (w.heap.size + 1))] 63))) := (((((Up.refl w).alloc _).alloc _).alloc _).alloc _)
  generalize (((w.alloc (.cells #[.slice none 0 0] 28)).alloc (.map #[] 0)).alloc (.cells #[.int .i64 0] 3)).alloc (.cells #[.map (some (w.heap.size + 1))] 63) = W at hsz HW HU ⊢
  have hbel := HU.out.1
  have hbs : Below w.heap.size w W := hbel
  refine (each_run nmW s (.slice vd s.size vc) 31 #[.pointer (some ⟨w.heap.size + 2, 0, none⟩), .pointer (some ⟨w.heap.size + 3, 0, none⟩), .pointer (some ⟨w.heap.size, 0, none⟩)] (WInv w) (fun _ => True) wstep ⟨0, []⟩ m W hs (tabs_up HT.out hbs) (HB.out.stay hbs)
    (fun X st w' h => (h.up.cell (World.block_lt_of_cell? w _ HM.out)).trans HM.out) (fun r w' => enterW _ w') trivial (fun _ _ _ _ => trivial)
    (fun X st r w' _ h1 h2 h3 h4 => words1_any w HT.out X st r w' h1 h3 h4) (fun X st w' w'' h1 h2 => h1.stay h2) (fun X w' h1 h2 => (HW.out X (by omega)).stay h1) hL).mono ?_
  clear hbel hbs hsz HW HU
  rintro e w1 ⟨X, st, c, ln, hrun, hI, ⟨rfl, _, rfl⟩ | ⟨hc, b, rfl, hlie⟩⟩
  · obtain ⟨u, hu, hol⟩ := hI.l
    obtain ⟨ad, cp, rfl⟩ := own_form hol
    have hcv := hu.cell 0 rfl
    have hul := hu.lt
    have hx := hI.x
    have hcl := hI.c
    have hnl := hI.n
    have HP : Hid (Below w.heap.size w w1) := hI.up
    have HR : Hid (runR wstep (linesL s) 0 ⟨0, []⟩ = (st, 0, ln)) := hrun
    have c4 := sort_any st.L (X + 1) _ w1 (by omega) hol
    clear hI hu hrun hol
    go_wp2_with fail
    refine c4.mono ?_
    rintro e w2 ⟨rfl, ho2, hbb⟩
    have hk := hbb (w.heap.size + 1) w1 (Below.refl _ _) (by omega) (by omega)
    have hcv2 : w2.cell? ⟨w.heap.size, 0, none⟩ = _ := (hk.cell (by simp)).trans hcv
    have HO : Hid (w2.ownsRow (X + 1) 9 1 (.slice ad st.L.length cp) st.L.length ((srt st.L).map Value.string)) := ho2
    have HP2 : Hid (Below w.heap.size w w2) := HP.out.trans (hk.mono (by omega))
    clear hbb hk ho2 c4 hcv
    go_wp2
    refine bodyPost_ret (v := .tuple #[.slice ad st.L.length cp, .nilIface]) (by simp [results, Tryz.results14, go_sem]) rfl ?_
    exact ⟨st, 0, ln, HR.out, HP2.out, Or.inl ⟨rfl, _, rfl, Lns.own_mono HO.out (by omega)⟩⟩
  · have HP : Hid (Below w.heap.size w w1) := hI.up
    have HR : Hid (runR wstep (linesL s) 0 ⟨0, []⟩ = (st, c, ln)) := hrun
    have HL : Hid (Lie w1 [⟨b, nmW, ln⟩] c) := hlie
    clear hI hrun hlie
    unfold val
    go_wp2
    refine bodyPost_ret (v := .tuple #[.slice none 0 0, val [⟨b, nmW, ln⟩] c]) (by simp [results, Tryz.results14, go_sem, val]) rfl ?_
    exact ⟨st, c, ln, HR.out, HP.out, Or.inr ⟨hc, b, rfl, HL.out⟩⟩
end Go.Proofs.YthdjadkdjljciaaGreatDoor
