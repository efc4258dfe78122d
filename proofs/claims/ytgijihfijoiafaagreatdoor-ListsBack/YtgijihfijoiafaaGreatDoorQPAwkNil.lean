/- Awake. -/
import Derived.Test.YtgijihfijoiafaaGreatDoorQPFixExm
import Derived.Lib.SlBytesConst
import Derived.Test.YtgijihfijoiafaaGreatDoorQPCodBag
namespace Go.Proofs.YtgijihfijoiafaaGreatDoor
set_option linter.unusedVariables false
open Go.RowKit Go.ChangeShapes

theorem by_lit (w : World) (cs : Array Value) (fr : Nat × Nat) (s : ByteArray) (h : ∀ j, j < s.size → cs[j]? = some (.int .u8 (s.get! j).toNat)) : Lns.By (w.alloc (.cells cs 5 fr)) w.heap.size 0 s := by
  intro j hj
  rw [Nat.zero_add, ← h j hj]
  simp [World.cell?, World.alloc, -World.alloc_eq]
theorem bsl1 (w : World) : Lns.BSl (w.alloc (.cells #[.int .u8 116, .int .u8 101, .int .u8 104, .int .u8 32, .int .u8 45, .int .u8 62, .int .u8 32, .int .u8 116, .int .u8 104, .int .u8 101, .int .u8 10, .int .u8 104, .int .u8 97, .int .u8 118, .int .u8 32, .int .u8 45, .int .u8 62, .int .u8 32, .int .u8 104, .int .u8 97, .int .u8 118, .int .u8 101, .int .u8 44, .int .u8 32, .int .u8 104, .int .u8 97, .int .u8 108, .int .u8 102, .int .u8 32, .int .u8 35, .int .u8 32, .int .u8 120] 5 (32, 33))) (.slice (some ⟨w.heap.size, 0, none⟩) 32 32) ex1 := Or.inr ⟨w.heap.size, 0, 32, rfl, by decide, by decide, by_lit _ _ _ ex1 (fun j hj => by
  match j, hj with
  | 0, _ => rfl
  | 1, _ => rfl
  | 2, _ => rfl
  | 3, _ => rfl
  | 4, _ => rfl
  | 5, _ => rfl
  | 6, _ => rfl
  | 7, _ => rfl
  | 8, _ => rfl
  | 9, _ => rfl
  | 10, _ => rfl
  | 11, _ => rfl
  | 12, _ => rfl
  | 13, _ => rfl
  | 14, _ => rfl
  | 15, _ => rfl
  | 16, _ => rfl
  | 17, _ => rfl
  | 18, _ => rfl
  | 19, _ => rfl
  | 20, _ => rfl
  | 21, _ => rfl
  | 22, _ => rfl
  | 23, _ => rfl
  | 24, _ => rfl
  | 25, _ => rfl
  | 26, _ => rfl
  | 27, _ => rfl
  | 28, _ => rfl
  | 29, _ => rfl
  | 30, _ => rfl
  | 31, _ => rfl
  | j + 32, h => exact absurd h (by show ¬ (j + 32 < 32); omega))⟩
theorem bsl2 (w : World) : Lns.BSl (w.alloc (.cells #[.int .u8 98, .int .u8 10, .int .u8 65, .int .u8 10, .int .u8 98] 5 (5, 6))) (.slice (some ⟨w.heap.size, 0, none⟩) 5 5) ex2 := Or.inr ⟨w.heap.size, 0, 5, rfl, by decide, by decide, by_lit _ _ _ ex2 (fun j hj => by
  match j, hj with
  | 0, _ => rfl
  | 1, _ => rfl
  | 2, _ => rfl
  | 3, _ => rfl
  | 4, _ => rfl
  | j + 5, h => exact absurd h (by show ¬ (j + 5 < 5); omega))⟩
/-- What Fixes answers of the first example, as far as it is looked at. -/
theorem fixes_ex (v : Value) (m : Int) (w : World) (hT : Tabs w) (hb : Lns.BSl w v ex1) (hm : w.cell? ⟨3, 0, none⟩ = some (.int .i64 m)) :
    Calls Tryz.prog 18 #[v] w fun e w' => ∃ g cap ad c, e = .returned (.tuple #[.slice (some ⟨g, 0, none⟩) 2 cap, .nilIface]) ∧ w'.cell? ⟨g, 0, none⟩ = some (.string x_hav) ∧ w'.cell? ⟨g, 1, none⟩ = some (.slice ad 2 c) ∧ Below w.heap.size w w' := by
  refine (fixes_run ex1 v m w (by decide) hT hb hm long1).mono ?_
  rintro e w' ⟨st, c, ln, hr, hb', ⟨rfl, u, ys, rfl, ho, hp, hs, hx⟩ | ⟨hc, _⟩⟩
  · rw [run1] at hr
    obtain ⟨rfl, _⟩ := Prod.mk.inj hr
    have hl : ys.length = 2 := by have := hp.length_eq; simpa using this
    match ys, hl, hp, hs, ho, hx with
    | [a, b], _, hp, hs, ho, hx =>
      have h1 : Sort.ltStr b.f.data.toList a.f.data.toList = false := (List.pairwise_cons.1 hs).1 b (by simp)
      have hm1 : a.p ∈ [(x_teh, [x_the]), (x_hav, [x_have, x_half])] := hp.mem_iff.1 (by simp)
      have hm2 : b.p ∈ [(x_teh, [x_the]), (x_hav, [x_have, x_half])] := hp.mem_iff.1 (by simp)
      have hm3 : (x_hav, [x_have, x_half]) ∈ [a.p, b.p] := hp.mem_iff.2 (by simp)
      have ha : a.p = (x_hav, [x_have, x_half]) := by
        rcases List.mem_cons.1 hm1 with h | h
        · exfalso
          rcases List.mem_cons.1 hm3 with h' | h'
          · rw [h] at h'
            have := congrArg (fun x => x.1.data.toList) h'
            exact absurd this (by decide)
          · have hbp : b.p = (x_hav, [x_have, x_half]) := by simpa using (List.mem_singleton.1 h').symm
            have e1 : a.f = x_teh := congrArg Prod.fst h
            have e2 : b.f = x_hav := congrArg Prod.fst hbp
            rw [e1, e2] at h1
            exact absurd h1 (by decide)
        · simpa using h
      have e1 : a.f = x_hav := congrArg Prod.fst ha
      have e2 : a.l = [x_have, x_half] := congrArg Prod.snd ha
      obtain ⟨h3, ⟨rfl, h4⟩ | ⟨g, cap, cur, rfl, hg, hh, h5⟩⟩ := ho
      · cases h4
      · have ho2 : w'.ownsRow w.heap.size 49 2 (.slice (some ⟨g, 0, none⟩) 2 cap) 2 (fcells [a, b]) := ⟨h3, Or.inr ⟨g, cap, cur, rfl, hg, hh, h5⟩⟩
        refine ⟨g, cap, a.ad, a.c, rfl, ?_, ?_, hb'⟩
        · rw [ho2.cellAt 0 (by decide), ← e1]; rfl
        · rw [ho2.cellAt 1 (by decide)]
          show some a.v = _
          unfold Fx.v
          rw [e2]
          rfl
  · rw [run1] at hr
    have := congrArg (fun x => x.2.1) hr
    exact absurd this.symm hc
theorem words_ex (v : Value) (m : Int) (w : World) (hT : Tabs w) (hb : Lns.BSl w v ex2) (hm : w.cell? ⟨3, 0, none⟩ = some (.int .i64 m)) :
    Calls Tryz.prog 14 #[v] w fun e w' => ∃ g cap, e = .returned (.tuple #[.slice (some ⟨g, 0, none⟩) 2 cap, .nilIface]) ∧ w'.cell? ⟨g, 0, none⟩ = some (.string x_a) ∧ Below w.heap.size w w' := by
  refine (words_run ex2 v m w (by decide) hT hb hm long2).mono ?_
  rintro e w' ⟨st, c, ln, hr, hb', ⟨rfl, u, rfl, ho⟩ | ⟨hc, _⟩⟩
  · rw [run2] at hr
    obtain ⟨rfl, _⟩ := Prod.mk.inj hr
    simp only [srt2] at ho
    obtain ⟨h3, ⟨rfl, h4⟩ | ⟨g, cap, cur, rfl, hg, hh, h5⟩⟩ := ho
    · cases h4
    · have ho2 : w'.ownsRow w.heap.size 9 1 (.slice (some ⟨g, 0, none⟩) 2 cap) 2 ([x_a, x_b].map Value.string) := ⟨h3, Or.inr ⟨g, cap, cur, rfl, hg, hh, h5⟩⟩
      exact ⟨g, cap, rfl, by rw [ho2.cellAt 0 (by decide)]; rfl, hb'⟩
  · rw [run2] at hr
    have := congrArg (fun x => x.2.1) hr
    exact absurd this.symm hc
set_option maxHeartbeats 1000000 in
set_option maxRecDepth 100000 in
theorem awake_any (m : Int) (w : World) (hT : Tabs w) (hm : w.cell? ⟨3, 0, none⟩ = some (.int .i64 m)) :
    Calls Tryz.prog 11 #[] w fun e w' => e = .returned (.bool true) ∧ Below w.heap.size w w' := by
  have HT : Hid (Tabs w) := hT
  have HM : Hid (w.cell? ⟨3, 0, none⟩ = some (.int .i64 m)) := hm
  have hml := World.block_lt_of_cell? w _ hm
  clear hT hm
  have hcA := Go.Lib.run_convert_bytes_const (P := Tryz.prog) w 27 5 #[.int .u8 116, .int .u8 101, .int .u8 104, .int .u8 32, .int .u8 45, .int .u8 62, .int .u8 32, .int .u8 116, .int .u8 104, .int .u8 101, .int .u8 10, .int .u8 104, .int .u8 97, .int .u8 118, .int .u8 32, .int .u8 45, .int .u8 62, .int .u8 32, .int .u8 104, .int .u8 97, .int .u8 118, .int .u8 101, .int .u8 44, .int .u8 32, .int .u8 104, .int .u8 97, .int .u8 108, .int .u8 102, .int .u8 32, .int .u8 35, .int .u8 32, .int .u8 120] 32 32 Tryz.underlying27 Tryz.underlying5
  have hcB := fun (w' : World) => Go.Lib.run_convert_bytes_const (P := Tryz.prog) w' 27 5 #[.int .u8 98, .int .u8 10, .int .u8 65, .int .u8 10, .int .u8 98] 5 5 Tryz.underlying27 Tryz.underlying5
  have HU0 : Hid (Up w.heap.size w (w.alloc (.cells #[.int .u8 116, .int .u8 101, .int .u8 104, .int .u8 32, .int .u8 45, .int .u8 62, .int .u8 32, .int .u8 116, .int .u8 104, .int .u8 101, .int .u8 10, .int .u8 104, .int .u8 97, .int .u8 118, .int .u8 32, .int .u8 45, .int .u8 62, .int .u8 32, .int .u8 104, .int .u8 97, .int .u8 118, .int .u8 101, .int .u8 44, .int .u8 32, .int .u8 104, .int .u8 97, .int .u8 108, .int .u8 102, .int .u8 32, .int .u8 35, .int .u8 32, .int .u8 120] 5 (32, 33)))) := (Up.refl w).alloc _
  have HB0 : Hid (Lns.BSl (w.alloc (.cells #[.int .u8 116, .int .u8 101, .int .u8 104, .int .u8 32, .int .u8 45, .int .u8 62, .int .u8 32, .int .u8 116, .int .u8 104, .int .u8 101, .int .u8 10, .int .u8 104, .int .u8 97, .int .u8 118, .int .u8 32, .int .u8 45, .int .u8 62, .int .u8 32, .int .u8 104, .int .u8 97, .int .u8 118, .int .u8 101, .int .u8 44, .int .u8 32, .int .u8 104, .int .u8 97, .int .u8 108, .int .u8 102, .int .u8 32, .int .u8 35, .int .u8 32, .int .u8 120] 5 (32, 33))) (.slice (some ⟨w.heap.size, 0, none⟩) 32 32) ex1) := bsl1 w
  go_enter Tryz.func11, Tryz.ntmps11
  go_wp2_with fail
  refine (fixes_ex _ m _ (tabs_up HT.out HU0.out.1) HB0.out ((HU0.out.1.cell hml).trans HM.out)).mono ?_
  rintro e w1 ⟨g, cap, ad, c, rfl, hc0, hc1, hb1⟩
  have HU1 : Hid (Up w.heap.size w w1) := HU0.out.stay hb1
  have hcB1 := hcB w1
  have HB1 : Hid (Lns.BSl (w1.alloc (.cells #[.int .u8 98, .int .u8 10, .int .u8 65, .int .u8 10, .int .u8 98] 5 (5, 6))) (.slice (some ⟨w1.heap.size, 0, none⟩) 5 5) ex2) := bsl2 w1
  have HU2 : Hid (Up w.heap.size w (w1.alloc (.cells #[.int .u8 98, .int .u8 10, .int .u8 65, .int .u8 10, .int .u8 98] 5 (5, 6)))) := HU1.out.alloc _
  have HUU : Hid (Below w1.heap.size w1 (w1.alloc (.cells #[.int .u8 98, .int .u8 10, .int .u8 65, .int .u8 10, .int .u8 98] 5 (5, 6)))) := (Below.refl _ _).alloc (Nat.le_refl _) _
  clear hcA hcB hb1 HB0 HU0
  go_wp2_with fail
  refine (words_ex _ m _ (tabs_up HT.out HU2.out.1) HB1.out ((HU2.out.1.cell hml).trans HM.out)).mono ?_
  rintro e w2 ⟨g2, cap2, rfl, hd0, hb2⟩
  have HU3 : Hid (Up w.heap.size w w2) := HU2.out.stay hb2
  have hc0' := cell_stay (cell_stay hc0 HUU.out) hb2
  have hc1' := cell_stay (cell_stay hc1 HUU.out) hb2
  clear hb2 hc0 hc1 HU2 HUU HB1 hcB1
  go_wp2
  go_ret
  exact ⟨rfl, HU3.out.1⟩
end Go.Proofs.YtgijihfijoiafaaGreatDoor
/- Each over no error at all. -/
namespace Go.Proofs.YtgijihfijoiafaaGreatDoor
set_option linter.unusedVariables false
open Go.RowKit Go.ChangeShapes Go.Shelf
attribute [local go_sem] Oper.semAt_some

theorem chain_nil (bw bo : Nat) (mp : Value) (A : Nat) (cap : Array Value) (w : World)
    (hw : Bk w bw #[.slice (some ⟨bo, 0, none⟩) 1 1, mp, .nilIface, .int .i64 0, .int .i64 256, .int .i64 0, .func (.func 75) #[] #[]] 122)
    (ho : Bk w bo #[.nilIface] 30) :
    Calls Tryz.prog 78 #[.pointer (some ⟨bw, 0, none⟩), .func (.func A) #[] cap] w fun e w' =>
      e = .returned (.bool true) ∧ Kpt w.heap.size (· = bw) w w' ∧ w'.cell? ⟨bw, 0, none⟩ = some (.slice (some ⟨bo, 0, none⟩) 0 1) := by
  have c0 := hw.cell 0 rfl
  have f0 := hw.frozen 0
  have d0 := ho.cell 0 rfl
  have hbo := ho.lt
  have hbw := hw.lt
  have hsz : (w.setCell ⟨bw, 0, none⟩ (.slice (some ⟨bo, 0, none⟩) 0 1)).heap.size = w.heap.size := by simp
  have HF : Hid (Kpt w.heap.size (· = bw) w ((((w.setCell ⟨bw, 0, none⟩ (.slice (some ⟨bo, 0, none⟩) 0 1)).alloc (.cells #[.nilIface, .int .i64 0, .int .i64 0] 175))).alloc (.cells #[.nilIface, .int .i64 0, .int .i64 256] 120)) ∧ ((((w.setCell ⟨bw, 0, none⟩ (.slice (some ⟨bo, 0, none⟩) 0 1)).alloc (.cells #[.nilIface, .int .i64 0, .int .i64 0] 175))).alloc (.cells #[.nilIface, .int .i64 0, .int .i64 256] 120)).cell? ⟨bw, 0, none⟩ = some (.slice (some ⟨bo, 0, none⟩) 0 1)) :=
    ⟨(((Kpt.refl w.heap.size (· = bw) w).setCell (q := ⟨bw, 0, none⟩) (Or.inr rfl) _).alloc (by rw [hsz]; exact Nat.le_refl _) _).alloc (by simp) _, (((hw.set 0 (.slice (some ⟨bo, 0, none⟩) 0 1)).alloc _).alloc _).cell 0 rfl⟩
  clear hw ho hsz
  go_enter Tryz.func78, Tryz.ntmps78
  go_wp2
  go_loopg [6] 0 (fun g err wr => err = .nilIface ∧ Hid (Kpt w.heap.size (· = bw) w wr ∧ wr.cell? ⟨bw, 0, none⟩ = some (.slice (some ⟨bo, 0, none⟩) 0 1)))
  case atStart => exact ⟨rfl, HF⟩
  case round =>
    obtain ⟨rfl, HW⟩ := hrel
    go_wp2
    go_ret
    exact ⟨rfl, HW.out⟩
theorem eachA_nil (l : Nat) (pe : Addr) (w : World) (he : w.cell? pe = some .nilIface) :
    Calls Tryz.prog 74 #[.func (.yield l) #[] #[], .pointer (some pe)] w fun e w' => (∃ v, e = .returned v) ∧ Below w.heap.size w w' := by
  have hmf : ∀ (fn : Fn) (first cap : Array Value) (w : World), (Instr.makeFunc fn first cap).run Tryz.prog w = .ok (.func fn first cap) w := fun _ _ _ _ => rfl
  have hmm := @run_makeMap Tryz.prog
  have hsf := fun a (w : World) => run_store Tryz.prog w a (.func (.func 75) #[] #[]) .plain rfl
  have he1 := cell_alloc he (.cells #[.func (.yield l) #[] #[]] 116)
  have hu : Up w.heap.size w ((((w.alloc (.cells #[.func (.yield l) #[] #[]] 116)).alloc (.cells #[.nilIface] 30)).alloc (.map #[] 0)).alloc (.cells #[.slice (some ⟨w.heap.size + 1, 0, none⟩) 1 1, .map (some (w.heap.size + 1 + 1)), .nilIface, .int .i64 0, .int .i64 256, .int .i64 0, .func (.func 75) #[] #[]] 122)) := ((((Up.refl w).alloc _).alloc _).alloc _).alloc _
  have hB3 : Bk ((((w.alloc (.cells #[.func (.yield l) #[] #[]] 116)).alloc (.cells #[.nilIface] 30)).alloc (.map #[] 0)).alloc (.cells #[.slice (some ⟨w.heap.size + 1, 0, none⟩) 1 1, .map (some (w.heap.size + 1 + 1)), .nilIface, .int .i64 0, .int .i64 256, .int .i64 0, .func (.func 75) #[] #[]] 122)) (w.heap.size + 1 + 1 + 1) #[.slice (some ⟨w.heap.size + 1, 0, none⟩) 1 1, .map (some (w.heap.size + 1 + 1)), .nilIface, .int .i64 0, .int .i64 256, .int .i64 0, .func (.func 75) #[] #[]] 122 := by
    have := Bk.new (((w.alloc (.cells #[.func (.yield l) #[] #[]] 116)).alloc (.cells #[.nilIface] 30)).alloc (.map #[] 0)) #[.slice (some ⟨w.heap.size + 1, 0, none⟩) 1 1, .map (some (w.heap.size + 1 + 1)), .nilIface, .int .i64 0, .int .i64 256, .int .i64 0, .func (.func 75) #[] #[]] 122
    simpa using this
  have hB1 : Bk ((((w.alloc (.cells #[.func (.yield l) #[] #[]] 116)).alloc (.cells #[.nilIface] 30)).alloc (.map #[] 0)).alloc (.cells #[.slice (some ⟨w.heap.size + 1, 0, none⟩) 1 1, .map (some (w.heap.size + 1 + 1)), .nilIface, .int .i64 0, .int .i64 256, .int .i64 0, .func (.func 75) #[] #[]] 122)) (w.heap.size + 1) #[.nilIface] 30 := by
    have := ((Bk.new (w.alloc (.cells #[.func (.yield l) #[] #[]] 116)) #[.nilIface] 30).alloc (.map #[] 0)).alloc (.cells #[.slice (some ⟨w.heap.size + 1, 0, none⟩) 1 1, .map (some (w.heap.size + 1 + 1)), .nilIface, .int .i64 0, .int .i64 256, .int .i64 0, .func (.func 75) #[] #[]] 122)
    simpa using this
  have hsz : (((((w.alloc (.cells #[.func (.yield l) #[] #[]] 116)).alloc (.cells #[.nilIface] 30)).alloc (.map #[] 0)).alloc (.cells #[.slice (some ⟨w.heap.size + 1, 0, none⟩) 1 1, .map (some (w.heap.size + 1 + 1)), .nilIface, .int .i64 0, .int .i64 256, .int .i64 0, .func (.func 75) #[] #[]] 122))).heap.size = w.heap.size + 4 := by simp
  go_enter Tryz.func74, Tryz.ntmps74
  go_wp2
  generalize ((((w.alloc (.cells #[.func (.yield l) #[] #[]] 116)).alloc (.cells #[.nilIface] 30)).alloc (.map #[] 0)).alloc (.cells #[.slice (some ⟨w.heap.size + 1, 0, none⟩) 1 1, .map (some (w.heap.size + 1 + 1)), .nilIface, .int .i64 0, .int .i64 256, .int .i64 0, .func (.func 75) #[] #[]] 122)) = W0 at *
  have cc := chain_nil (w.heap.size + 1 + 1 + 1) (w.heap.size + 1) (.map (some (w.heap.size + 1 + 1))) 76 #[.pointer (some ⟨w.heap.size, 0, none⟩)] W0 hB3 hB1
  have d0 := hB3.cell 0 rfl
  have HU : Hid (Up w.heap.size w W0) := hu
  clear hB3 hB1 hsf hmm hmf he he1 hu
  go_loopg [18] 1 (fun g t18 wr => ((g = 1 ∧ Hid (wr = W0)) ∨ (g = 0 ∧ Hid (Below w.heap.size w wr) ∧ wr.cell? ⟨w.heap.size + 1 + 1 + 1, 0, none⟩ = some (.slice (some ⟨w.heap.size + 1, 0, none⟩) 0 1))))
  case atStart => exact Or.inl ⟨rfl, rfl⟩
  case round =>
    rcases hrel with ⟨hg, HW⟩ | ⟨hg, HF, hc⟩
    · obtain rfl := HW.out
      go_wp2_with fail
      refine cc.mono ?_
      rintro e w1 ⟨rfl, hk, hc⟩
      have HF : Hid (Below w.heap.size w w1) := HU.out.1.trans (hk.below (by omega) (by intro k h; omega))
      clear cc hk d0
      go_wp2
      go_roundg 0
      case measure => omega
      case rel => exact Or.inr ⟨rfl, HF, hc⟩
    · clear cc d0
      go_wp2
      go_end0
      exact ⟨⟨_, rfl⟩, HF.out⟩
theorem eachN_nil (l : Nat) (pe : Addr) (w : World) (he : w.cell? pe = some .nilIface) :
    Calls Tryz.prog 83 #[.func (.yield l) #[] #[], .pointer (some pe)] w fun e w' => (∃ v, e = .returned v) ∧ Below w.heap.size w w' := by
  have hmf : ∀ (fn : Fn) (first cap : Array Value) (w : World), (Instr.makeFunc fn first cap).run Tryz.prog w = .ok (.func fn first cap) w := fun _ _ _ _ => rfl
  have hmm := @run_makeMap Tryz.prog
  have hsf := fun a (w : World) => run_store Tryz.prog w a (.func (.func 75) #[] #[]) .plain rfl
  have he1 := cell_alloc he (.cells #[.func (.yield l) #[] #[]] 116)
  have hu : Up w.heap.size w ((((w.alloc (.cells #[.func (.yield l) #[] #[]] 116)).alloc (.cells #[.nilIface] 30)).alloc (.map #[] 0)).alloc (.cells #[.slice (some ⟨w.heap.size + 1, 0, none⟩) 1 1, .map (some (w.heap.size + 1 + 1)), .nilIface, .int .i64 0, .int .i64 256, .int .i64 0, .func (.func 75) #[] #[]] 122)) := ((((Up.refl w).alloc _).alloc _).alloc _).alloc _
  have hB3 : Bk ((((w.alloc (.cells #[.func (.yield l) #[] #[]] 116)).alloc (.cells #[.nilIface] 30)).alloc (.map #[] 0)).alloc (.cells #[.slice (some ⟨w.heap.size + 1, 0, none⟩) 1 1, .map (some (w.heap.size + 1 + 1)), .nilIface, .int .i64 0, .int .i64 256, .int .i64 0, .func (.func 75) #[] #[]] 122)) (w.heap.size + 1 + 1 + 1) #[.slice (some ⟨w.heap.size + 1, 0, none⟩) 1 1, .map (some (w.heap.size + 1 + 1)), .nilIface, .int .i64 0, .int .i64 256, .int .i64 0, .func (.func 75) #[] #[]] 122 := by
    have := Bk.new (((w.alloc (.cells #[.func (.yield l) #[] #[]] 116)).alloc (.cells #[.nilIface] 30)).alloc (.map #[] 0)) #[.slice (some ⟨w.heap.size + 1, 0, none⟩) 1 1, .map (some (w.heap.size + 1 + 1)), .nilIface, .int .i64 0, .int .i64 256, .int .i64 0, .func (.func 75) #[] #[]] 122
    simpa using this
  have hB1 : Bk ((((w.alloc (.cells #[.func (.yield l) #[] #[]] 116)).alloc (.cells #[.nilIface] 30)).alloc (.map #[] 0)).alloc (.cells #[.slice (some ⟨w.heap.size + 1, 0, none⟩) 1 1, .map (some (w.heap.size + 1 + 1)), .nilIface, .int .i64 0, .int .i64 256, .int .i64 0, .func (.func 75) #[] #[]] 122)) (w.heap.size + 1) #[.nilIface] 30 := by
    have := ((Bk.new (w.alloc (.cells #[.func (.yield l) #[] #[]] 116)) #[.nilIface] 30).alloc (.map #[] 0)).alloc (.cells #[.slice (some ⟨w.heap.size + 1, 0, none⟩) 1 1, .map (some (w.heap.size + 1 + 1)), .nilIface, .int .i64 0, .int .i64 256, .int .i64 0, .func (.func 75) #[] #[]] 122)
    simpa using this
  have hsz : (((((w.alloc (.cells #[.func (.yield l) #[] #[]] 116)).alloc (.cells #[.nilIface] 30)).alloc (.map #[] 0)).alloc (.cells #[.slice (some ⟨w.heap.size + 1, 0, none⟩) 1 1, .map (some (w.heap.size + 1 + 1)), .nilIface, .int .i64 0, .int .i64 256, .int .i64 0, .func (.func 75) #[] #[]] 122))).heap.size = w.heap.size + 4 := by simp
  go_enter Tryz.func83, Tryz.ntmps83
  go_wp2
  generalize ((((w.alloc (.cells #[.func (.yield l) #[] #[]] 116)).alloc (.cells #[.nilIface] 30)).alloc (.map #[] 0)).alloc (.cells #[.slice (some ⟨w.heap.size + 1, 0, none⟩) 1 1, .map (some (w.heap.size + 1 + 1)), .nilIface, .int .i64 0, .int .i64 256, .int .i64 0, .func (.func 75) #[] #[]] 122)) = W0 at *
  have cc := chain_nil (w.heap.size + 1 + 1 + 1) (w.heap.size + 1) (.map (some (w.heap.size + 1 + 1))) 84 #[.pointer (some ⟨w.heap.size, 0, none⟩)] W0 hB3 hB1
  have d0 := hB3.cell 0 rfl
  have HU : Hid (Up w.heap.size w W0) := hu
  clear hB3 hB1 hsf hmm hmf he he1 hu
  go_loopg [18] 1 (fun g t18 wr => ((g = 1 ∧ Hid (wr = W0)) ∨ (g = 0 ∧ Hid (Below w.heap.size w wr) ∧ wr.cell? ⟨w.heap.size + 1 + 1 + 1, 0, none⟩ = some (.slice (some ⟨w.heap.size + 1, 0, none⟩) 0 1))))
  case atStart => exact Or.inl ⟨rfl, rfl⟩
  case round =>
    rcases hrel with ⟨hg, HW⟩ | ⟨hg, HF, hc⟩
    · obtain rfl := HW.out
      go_wp2_with fail
      refine cc.mono ?_
      rintro e w1 ⟨rfl, hk, hc⟩
      have HF : Hid (Below w.heap.size w w1) := HU.out.1.trans (hk.below (by omega) (by intro k h; omega))
      clear cc hk d0
      go_wp2
      go_roundg 0
      case measure => omega
      case rel => exact Or.inr ⟨rfl, HF, hc⟩
    · clear cc d0
      go_wp2
      go_end0
      exact ⟨⟨_, rfl⟩, HF.out⟩
theorem each_mk_nil (w : World) :
    Calls Tryz.prog 46 #[.nilIface] w fun e w' => e = .returned (.func (.func 74) #[] #[.pointer (some ⟨w.heap.size, 0, none⟩)]) ∧ w' = w.alloc (.cells #[.nilIface] 30) := by
  have hmf : ∀ (fn : Fn) (first cap : Array Value) (w : World), (Instr.makeFunc fn first cap).run Tryz.prog w = .ok (.func fn first cap) w := fun _ _ _ _ => rfl
  go_enter Tryz.func46, Tryz.ntmps46
  go_wp2
  go_ret
  exact ⟨rfl, rfl⟩
theorem each_mkN_nil (w : World) :
    Calls Tryz.prog 48 #[.nilIface] w fun e w' => e = .returned (.func (.func 83) #[] #[.pointer (some ⟨w.heap.size, 0, none⟩)]) ∧ w' = w.alloc (.cells #[.nilIface] 30) := by
  have hmf : ∀ (fn : Fn) (first cap : Array Value) (w : World), (Instr.makeFunc fn first cap).run Tryz.prog w = .ok (.func fn first cap) w := fun _ _ _ _ => rfl
  go_enter Tryz.func48, Tryz.ntmps48
  go_wp2
  go_ret
  exact ⟨rfl, rfl⟩
end Go.Proofs.YtgijihfijoiafaaGreatDoor
