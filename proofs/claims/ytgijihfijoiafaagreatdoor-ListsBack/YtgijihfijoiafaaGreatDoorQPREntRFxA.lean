/- The reference's entry. -/
import Derived.Test.YtgijihfijoiafaaGreatDoorQPRSmFRPcs
import Derived.Test.YtgijihfijoiafaaGreatDoorQPRBytRFld
import Derived.Test.YtgijihfijoiafaaGreatDoorQPRChkRWrd
import Derived.Test.YtgijihfijoiafaaGreatDoorQPRTrSRRow
import Derived.Test.YtgijihfijoiafaaGreatDoorQPReaFxs
import Derived.Test.YtgijihfijoiafaaGreatDoorQPRRowLRis
import Derived.Test.YtgijihfijoiafaaGreatDoorQPSrcRPut
namespace Go.Proofs.YtgijihfijoiafaaGreatDoor
set_option linter.unusedVariables false
open Go.RowKit Go.ChangeShapes
theorem sides_no (r : ByteArray) (h : Lib.index r.data.toList [45, 62] < 0) : sides r = false := by
  unfold sides Lib.cut
  rw [if_neg (by omega)]
theorem sides_yes (r : ByteArray) (k : Nat) (h : Lib.index r.data.toList [45, 62] = k) : sides r = true ∧ sideA r = r.extract 0 k ∧ sideB r = r.extract (k + 2) r.size := by
  unfold sides sideA sideB Lib.cut
  rw [if_pos (by rw [h]; omega), h]
  refine ⟨rfl, ?_, ?_⟩
  · apply ByteArray.ext
    apply Array.toList_inj.1
    rw [up_list]
    simp
  · apply ByteArray.ext
    apply Array.toList_inj.1
    rw [Lib.extract_to_end]
    simp
theorem bare_rt (s : ByteArray) : (⟨(rt (pB false) (s.data.toList.dropWhile (pB false))).toArray⟩ : ByteArray) = bareB s := by
  unfold bareB bareL
  rw [trimS_F]
theorem rbare_any (s : ByteArray) (w : World) (hs : s.size ≤ 40000) :
    Calls Tryz.prog 62 #[.string s, .bool false] w fun e w' => e = .returned (.string (bareB s)) ∧ w' = w := by
  have h := rtrim_any s false w hs
  rw [bare_rt] at h
  exact h
/-- Where a list of texts lies (a block of its own; any, where there is none). -/
theorem tsg_list {w : World} {base : Nat} {u : Value} {M : List ByteArray} (h : w.ownsRow base 9 1 u M.length (M.map Value.string)) (hM : 0 < M.length) : ∃ g, base ≤ g ∧ (∀ j, (hj : j < M.length) → (∃ c, u = .slice (some ⟨g, 0, none⟩) M.length c) ∧ w.cell? ⟨g, j, none⟩ = some (.string M[j])) ∧ g < w.heap.size := by
  have h0 := h
  obtain ⟨_, ⟨rfl, h2⟩ | ⟨g, cap, cur, rfl, hg, hh, h3⟩⟩ := h
  · omega
  · exact ⟨g, hg, fun j hj => ⟨⟨cap, rfl⟩, own_cells h0 j hj⟩, lt_of_heap hh⟩
theorem pcs_pos : ∀ (f : Nat) (s : ByteArray), 0 < (pcs f s).length
  | 0, s => by simp [pcs]
  | f + 1, s => by
    unfold pcs
    split
    · simp
    · simp
theorem pcs_mem : ∀ (f : Nat) (s : ByteArray), ∀ x ∈ pcs f s, x.size ≤ s.size
  | 0, s, x, h => by simp [pcs] at h; rw [h]; exact Nat.le_refl _
  | f + 1, s, x, h => by
    unfold pcs at h
    split at h
    · simp at h; rw [h]; exact Nat.le_refl _
    · rcases List.mem_cons.1 h with rfl | h
      · rw [ByteArray.size_extract]; omega
      · have := pcs_mem f _ x h
        rw [ByteArray.size_extract] at this
        omega
/-- What stands while pieces are taken. -/
structure EInv (w w3 : World) (X g : Nat) (F : ByteArray) (L : List ByteArray) (wr : World) : Prop where
  up : Below w.heap.size w wr
  r0 : Bk wr w.heap.size #[.string ⟨#[]⟩, .slice none 0 0] 49
  x : ∃ v, Bk wr X #[.string F, v] 49 ∧ wr.ownsRow w3.heap.size 9 1 v L.length (L.map Value.string)
  p : wr.heap[g]? = w3.heap[g]?
  s : w3.heap.size ≤ wr.heap.size
theorem EInv.stay {w w3 wr w' : World} {X g : Nat} {F : ByteArray} {L : List ByteArray} (h : EInv w w3 X g F L wr) (hg : g < w3.heap.size) (hb : Below wr.heap.size wr w') : EInv w w3 X g F L w' := by
  obtain ⟨v, hv, ho⟩ := h.x
  have hs := h.s
  exact ⟨h.up.trans (hb.mono h.up.size), h.r0.stay hb, ⟨v, hv.stay hb, own_stay ho hb⟩, (hb.block g (by omega)).trans h.p, Nat.le_trans h.s hb.size⟩
theorem cstep_in (L : List ByteArray) (r : ByteArray) (h1 : (bareB r).size ≠ 0) (h2 : chk (bareB r) = 0) (h3 : fld (bareB r) ∈ L) : cstep L r = (L, 0) := by
  unfold cstep; rw [if_neg h1, if_neg (by simp [h2]), if_pos h3]
theorem cstep_out (L : List ByteArray) (r : ByteArray) (h1 : (bareB r).size ≠ 0) (h2 : chk (bareB r) = 0) (h3 : ¬ fld (bareB r) ∈ L) : cstep L r = (L ++ [fld (bareB r)], 0) := by
  unfold cstep; rw [if_neg h1, if_neg (by simp [h2]), if_neg h3]
theorem cstep_bad (L : List ByteArray) (r : ByteArray) (h1 : (bareB r).size ≠ 0) (h2 : chk (bareB r) ≠ 0) : cstep L r = (L, chk (bareB r)) := by
  unfold cstep; rw [if_neg h1, if_pos h2]
theorem cstep_nil (L : List ByteArray) (r : ByteArray) (h1 : (bareB r).size = 0) : cstep L r = (L, 7) := by
  unfold cstep; rw [if_pos h1]
open Classical in
set_option maxHeartbeats 2000000 in
set_option maxRecDepth 100000 in
theorem rentry_any (r : ByteArray) (w : World) (hs : r.size ≤ 4096) :
    Calls Tryz.prog 44 #[.string r] w fun e w' => ∃ F L v c, entry r = ((F, L), c) ∧ e = .returned (.tuple #[.agg #[.string F, v], .int .i64 c]) ∧ w'.ownsRow w.heap.size 9 1 v L.length (L.map Value.string) ∧ Below w.heap.size w w' := by
  obtain ⟨Z, hZ⟩ : ∃ Z, entry r = Z := ⟨_, rfl⟩
  rw [hZ]
  unfold entry at hZ
  have hB0 : Below w.heap.size w (w.alloc (.cells #[.string ⟨#[]⟩, .slice none 0 0] 49)) := (Below.refl _ _).alloc (Nat.le_refl _) _
  have b0 := Bk.new w #[.string ⟨#[]⟩, .slice none 0 0] 49
  have c1 := rfind_any r ⟨#[45, 62]⟩ (w.alloc (.cells #[.string ⟨#[]⟩, .slice none 0 0] 49)) (by omega) (by decide)
  have hir := Lib.index_room r.data.toList [45, 62]
  have hno := sides_no r
  have hye := sides_yes r
  change Calls _ _ _ _ (fun e w' => e = .returned (.int .i64 (Lib.index r.data.toList [45, 62])) ∧ w' = _) at c1
  generalize Lib.index r.data.toList [45, 62] = q at c1 hir hno hye
  by_cases hq : q < 0
  · rw [if_pos (hno hq)] at hZ
    have HZ : Hid (((⟨#[]⟩, []), (7 : Int)) = Z) := hZ
    clear hZ hno hye hir
    go_enter Tryz.func44, Tryz.ntmps44
    go_wp2_with fail
    refine c1.mono ?_
    rintro e w1 ⟨rfl, hw1⟩
    rw [← hw1] at b0 hB0
    clear hw1 c1
    have HP : Hid (Below w.heap.size w w1) := hB0
    clear hB0
    have k0 := b0
    have e0 := k0.cell 0 rfl
    have e1 := k0.cell 1 rfl
    have g0 := k0.frozen 0
    have g1 := k0.frozen 1
    have x2 := (k0.set 0 (.string ⟨#[]⟩)).set 1 (.slice none 0 0)
    have y0 : ((w1.setCell ⟨w.heap.size, 0, none⟩ (.string ⟨#[]⟩)).setCell ⟨w.heap.size, 1, none⟩ (.slice none 0 0)).cell? ⟨w.heap.size, 0, none⟩ = some (.string ⟨#[]⟩) := x2.cell 0 rfl
    have y1 : ((w1.setCell ⟨w.heap.size, 0, none⟩ (.string ⟨#[]⟩)).setCell ⟨w.heap.size, 1, none⟩ (.slice none 0 0)).cell? ⟨w.heap.size, 1, none⟩ = some (.slice none 0 0) := x2.cell 1 rfl
    have hfin : Below w.heap.size w ((w1.setCell ⟨w.heap.size, 0, none⟩ (.string ⟨#[]⟩)).setCell ⟨w.heap.size, 1, none⟩ (.slice none 0 0)) := ((HP.out).setCell (Nat.le_refl _) _).setCell (Nat.le_refl _) _
    clear x2 k0
    go_wp2
    refine bodyPost_ret (v := .tuple #[.agg #[.string ⟨#[]⟩, (.slice none 0 0)], .int .i64 7]) (by simp [results, Tryz.results44, go_sem, y0, y1]) rfl ?_
    exact ⟨⟨#[]⟩, [], (.slice none 0 0), 7, HZ.out.symm, rfl, World.ownsRow_nil _ _ _ _, hfin⟩
  · obtain ⟨k, rfl⟩ : ∃ k : Nat, q = k := ⟨q.toNat, by omega⟩
    obtain ⟨hsd, hsa, hsb⟩ := hye k rfl
    have hrm := hir (by omega)
    have e1 : r.data.toList.length = r.size := by simp
    rw [e1] at hrm
    simp only [List.length_cons, List.length_nil] at hrm
    rw [if_neg (by rw [hsd]; simp), hsa, hsb] at hZ
    have hls : (r.extract 0 k).size ≤ 4096 := by rw [ByteArray.size_extract]; omega
    have hrs : (r.extract (k + 2) r.size).size ≤ 4096 := by rw [ByteArray.size_extract]; omega
    have z0 : (0 : Int) ≤ (k : Int) := by omega
    have z1 : (k : Int) ≤ (r.size : Int) := by omega
    have z2 : (0 : Int) ≤ (k : Int) + 2 := by omega
    have z3 : (k : Int) + 2 ≤ (r.size : Int) := by omega
    have hbs := bareB_size (r.extract 0 k)
    have cb := fun w' => rbare_any (r.extract 0 k) w' (by omega)
    have cp := fun w' => rpieces_any (r.extract (k + 2) r.size).size (r.extract (k + 2) r.size) w' (Nat.le_refl _) (by omega)
    have hpl := pcs_len (r.extract (k + 2) r.size).size (r.extract (k + 2) r.size) (Nat.le_refl _)
    have hpos := pcs_pos (r.extract (k + 2) r.size).size (r.extract (k + 2) r.size)
    have hpm := pcs_mem (r.extract (k + 2) r.size).size (r.extract (k + 2) r.size)
    generalize bareB (r.extract 0 k) = b at hZ hbs cb
    generalize pcs (r.extract (k + 2) r.size).size (r.extract (k + 2) r.size) = M at hZ cp hpl hpm hpos
    have hpl2 : M.length ≤ 5000 := by omega
    have hb5 : b.size ≤ 4096 := by omega
    have HPM : Hid (∀ x ∈ M, x.size ≤ 4096) := fun x hx => Nat.le_trans (hpm x hx) hrs
    clear hno hye hir hrm e1 hsd hsa hsb hls hq hpl hpm hbs hrs
    go_enter Tryz.func44, Tryz.ntmps44
    go_wp2_with fail
    refine c1.mono ?_
    rintro e w1 ⟨rfl, hw1⟩
    rw [← hw1] at b0 hB0
    clear hw1 c1
    have HP1 : Hid (Below w.heap.size w w1) := hB0
    have K1 : Hid (Bk w1 w.heap.size #[.string ⟨#[]⟩, .slice none 0 0] 49) := b0
    clear hB0 b0
    go_wp2_with fail
    refine (cb _).mono ?_
    rintro e w2 ⟨rfl, hw2⟩
    subst w2
    clear cb
    go_wp2_with fail
    refine (rcheck_any b _ (by omega)).mono ?_
    rintro e w2 ⟨rfl, hb2⟩
    have HP : Hid (Below w.heap.size w w2) := HP1.out.trans (hb2.mono HP1.out.size)
    have K2 : Hid (Bk w2 w.heap.size #[.string ⟨#[]⟩, .slice none 0 0] 49) := K1.out.stay hb2
    clear hb2 HP1 K1
    by_cases hc : chk b = 0
    · rw [if_neg (by simp [hc])] at hZ
      rw [hc]
      clear hc
      go_wp2_with fail
      refine (rfold_any b _ (by omega)).mono ?_
      rintro e w3 ⟨rfl, hb3⟩
      have HP3 : Hid (Below w.heap.size w w3) := HP.out.trans (hb3.mono HP.out.size)
      have K3 : Hid (Bk w3 w.heap.size #[.string ⟨#[]⟩, .slice none 0 0] 49) := K2.out.stay hb3
      clear hb3 HP K2
      generalize fld b = F at hZ ⊢
      have bx := Bk.new w3 #[.string F, .slice none 0 0] 49
      have hal : Below w3.heap.size w3 (w3.alloc (.cells #[.string F, .slice none 0 0] 49)) := (Below.refl _ _).alloc (Nat.le_refl _) _
      have hwlt : w.heap.size < w3.heap.size := K3.out.lt
      go_wp2_with fail
      generalize hW4 : w3.alloc (.cells #[.string F, .slice none 0 0] 49) = w4 at bx hal ⊢
      have HP4 : Hid (Below w.heap.size w w4) := HP3.out.trans (hal.mono HP3.out.size)
      have K4 : Hid (Bk w4 w.heap.size #[.string ⟨#[]⟩, .slice none 0 0] 49) := K3.out.stay hal
      have X4 : Hid (Bk w4 w3.heap.size #[.string F, .slice none 0 0] 49) := bx
      have hs4 : w4.heap.size = w3.heap.size + 1 := by rw [← hW4]; simp
      clear hW4 bx hal HP3 K3
      refine (cp _).mono ?_
      rintro e w5 ⟨u, rfl, hou, hb5'⟩
      have HP5 : Hid (Below w.heap.size w w5) := HP4.out.trans (hb5'.mono HP4.out.size)
      have K5 : Hid (Bk w5 w.heap.size #[.string ⟨#[]⟩, .slice none 0 0] 49) := K4.out.stay hb5'
      have X5 : Hid (Bk w5 w3.heap.size #[.string F, .slice none 0 0] 49) := X4.out.stay hb5'
      have hs5 : w3.heap.size + 1 ≤ w5.heap.size := by have := hb5'.size; omega
      have hs45 : w3.heap.size < w4.heap.size := by omega
      clear cp hb5' HP4 K4 X4 hs4
      obtain ⟨g, hgb, hgt, hgu⟩ := tsg_list hou hpos
      obtain ⟨ua, uc, rfl⟩ := own_form hou
      clear hou
      obtain ⟨X, hXe⟩ : ∃ X, w3.heap.size = X := ⟨_, rfl⟩
      rw [hXe] at X5 hwlt hs5 hs45 ⊢
      clear hXe
      obtain ⟨n, hn⟩ : ∃ n, M.length = n := ⟨_, rfl⟩
      have HN : Hid (M.length = n) := hn
      have HTG : Hid (∀ j, (hj : j < M.length) → ua = some ⟨g, 0, none⟩ ∧ w5.cell? ⟨g, j, none⟩ = some (.string M[j])) := fun j hj => by
        obtain ⟨⟨c, h1⟩, h2⟩ := hgt j hj
        cases h1
        exact ⟨rfl, h2⟩
      have HGL : Hid (g < w5.heap.size) := hgu
      have HGX : Hid (g ≠ X) := by show g ≠ X; omega
      rw [hn] at hpl2 ⊢
      obtain ⟨ZZ, hZZ⟩ : ∃ ZZ, runP cstep M [] = ZZ := ⟨_, rfl⟩
      rw [hZZ] at hZ
      have HZ0 : Hid (runP cstep M [] = ZZ) := hZZ
      have HZ : Hid ((if ZZ.2 ≠ 0 then ((⟨#[]⟩, []), ZZ.2) else ((F, ZZ.1), 0)) = Z) := hZ
      clear hZZ
      clear hZ hn hgt hgu hgb
      go_wp2_with fail
      go_loopg [9] (n) (fun gh iv wr => ∃ k : Nat, ∃ L : List ByteArray, k ≤ n ∧ gh = n - k ∧ iv = .int .i64 k ∧ Hid (EInv w w5 X g F L wr) ∧ Hid (L.length ≤ k) ∧ Hid (runP cstep (M.drop k) L = ZZ))
      case atStart => exact ⟨0, [], Nat.zero_le _, rfl, rfl, ⟨HP5.out, K5.out, ⟨_, X5.out, World.ownsRow_nil _ _ _ _⟩, rfl, Nat.le_refl _⟩, Nat.le_refl _, HZ0⟩
      case round =>
        obtain ⟨i, L, hi, hgh, rfl, HI, HLL, HR⟩ := hrel
        by_cases hlt : i < n
        · have hlt' : i < M.length := by rw [HN.out]; exact hlt
          obtain ⟨hua, hcm⟩ := HTG.out i hlt'
          subst hua
          have y0 : (0 : Int) ≤ (i : Int) := by omega
          have y1 : (i : Int) < (n : Int) := by omega
          have hcc : wr.cell? ⟨g, i, none⟩ = some (.string M[i]) := (World.cell?_of_block HI.out.p).trans hcm
          have hml := HPM.out _ (List.getElem_mem hlt')
          have HR1 := HR.out
          rw [List.drop_eq_getElem_cons hlt'] at HR1
          unfold runP at HR1
          have hll := HLL.out
          have cb := fun w' => rbare_any M[i] w' (by omega)
          have hbs := bareB_size M[i]
          have s1 := cstep_nil L M[i]
          have s2 := cstep_bad L M[i]
          have s3 := cstep_in L M[i]
          have s4 := cstep_out L M[i]
          generalize M[i] = m at hcc hml HR1 cb hbs s1 s2 s3 s4
          generalize bareB m = d at cb hbs s1 s2 s3 s4
          obtain ⟨vx, hvx, hox⟩ := HI.out.x
          have HVX : Hid (Bk wr X #[.string F, vx] 49) := hvx
          have HOX : Hid (wr.ownsRow w5.heap.size 9 1 vx L.length (L.map Value.string)) := hox
          clear hcm hvx hox hlt'
          go_wp2_with fail
          refine (cb _).mono ?_
          rintro e w2' ⟨rfl, hw2⟩
          subst w2'
          clear cb hcc
          by_cases hd0 : d.size = 0
          · have hs := s1 hd0
            rw [hs] at HR1
            simp only [show (7 : Int) = 0 ↔ False from by decide, if_false] at HR1
            have HZ7 : Hid (((⟨#[]⟩, []), (7 : Int)) = Z) := by
              show _ = _
              rw [← HZ.out, ← HR1]
              rfl
            have HPX : Hid (Below w.heap.size w wr) := HI.out.up
            clear s1 s2 s3 s4 HR1 HR HZ hs
            obtain rfl : d = ⟨#[]⟩ := by
              cases d with
              | mk d => congr 1; exact Array.eq_empty_of_size_eq_zero hd0
            have k0 := HI.out.r0
            have e0 := k0.cell 0 rfl
            have e1 := k0.cell 1 rfl
            have g0 := k0.frozen 0
            have g1 := k0.frozen 1
            have x2 := (k0.set 0 (.string ⟨#[]⟩)).set 1 (.slice none 0 0)
            have y0 : ((wr.setCell ⟨w.heap.size, 0, none⟩ (.string ⟨#[]⟩)).setCell ⟨w.heap.size, 1, none⟩ (.slice none 0 0)).cell? ⟨w.heap.size, 0, none⟩ = some (.string ⟨#[]⟩) := x2.cell 0 rfl
            have y1 : ((wr.setCell ⟨w.heap.size, 0, none⟩ (.string ⟨#[]⟩)).setCell ⟨w.heap.size, 1, none⟩ (.slice none 0 0)).cell? ⟨w.heap.size, 1, none⟩ = some (.slice none 0 0) := x2.cell 1 rfl
            have hfin : Below w.heap.size w ((wr.setCell ⟨w.heap.size, 0, none⟩ (.string ⟨#[]⟩)).setCell ⟨w.heap.size, 1, none⟩ (.slice none 0 0)) := ((HPX.out).setCell (Nat.le_refl _) _).setCell (Nat.le_refl _) _
            clear x2 k0
            go_wp2
            refine bodyPost_ret (v := .tuple #[.agg #[.string ⟨#[]⟩, (.slice none 0 0)], .int .i64 7]) (by simp [results, Tryz.results44, go_sem, y0, y1]) rfl ?_
            exact ⟨⟨#[]⟩, [], (.slice none 0 0), 7, HZ7.out.symm, rfl, World.ownsRow_nil _ _ _ _, hfin⟩
          · have hne : d.toList.isEmpty = false := by
              cases e : d.toList.isEmpty
              · rfl
              · exfalso
                have h2 := toList_length d
                rw [List.isEmpty_iff.1 e] at h2
                exact hd0 h2.symm
            have hds : d.size ≤ 4096 := by omega
            clear s1
            go_wp2_with fail
            refine (rcheck_any d _ (by omega)).mono ?_
            rintro e w6 ⟨rfl, hb6⟩
            have HI6 : Hid (EInv w w5 X g F L w6) := HI.out.stay HGL.out hb6
            have HV6 : Hid (Bk w6 X #[.string F, vx] 49) := HVX.out.stay hb6
            have HO6 : Hid (w6.ownsRow w5.heap.size 9 1 vx L.length (L.map Value.string)) := own_stay HOX.out hb6
            clear hb6 HI HVX HOX
            by_cases hdc : chk d = 0
            · rw [hdc]
              have s3' := s3 hd0 hdc
              have s4' := s4 hd0 hdc
              clear s2 s3 s4 hdc
              go_wp2_with fail
              refine (rfold_any d _ (by omega)).mono ?_
              rintro e w7 ⟨rfl, hb7⟩
              have HI7 : Hid (EInv w w5 X g F L w7) := HI6.out.stay HGL.out hb7
              have HV7 : Hid (Bk w7 X #[.string F, vx] 49) := HV6.out.stay hb7
              have HO7 : Hid (w7.ownsRow w5.heap.size 9 1 vx L.length (L.map Value.string)) := own_stay HO6.out hb7
              clear hb7 HI6 HV6 HO6
              have f1 := HV7.out.cell 1 rfl
              have f2 := HV7.out.frozen 1
              have ch := rhas_any L w5.heap.size vx (fld d) w7 (by omega) HO7.out
              generalize fld d = f at ch s3' s4'
              by_cases hin : f ∈ L
              · rw [s3' hin] at HR1
                rw [decide_eq_true hin] at ch
                have HR2 : Hid (runP cstep (M.drop (i + 1)) L = ZZ) := by show _ = _; rw [← HR1]; simp
                have HLL2 : Hid (L.length ≤ i + 1) := by show _ ≤ _; omega
                clear s3' s4' hin HR1 HR
                go_wp2_with fail
                refine ch.mono ?_
                rintro e w8 ⟨rfl, hw8⟩
                subst w8
                clear ch f1 f2
                go_wp2
                go_roundg (n - (i + 1))
                case measure => omega
                case rel => exact ⟨i + 1, L, hlt, rfl, by go_num, HI7, HLL2, HR2⟩
              · rw [s4' hin] at HR1
                rw [decide_eq_false hin] at ch
                have HR2 : Hid (runP cstep (M.drop (i + 1)) (L ++ [f]) = ZZ) := by show _ = _; rw [← HR1]; simp
                have HLL2 : Hid ((L ++ [f]).length ≤ i + 1) := by show _ ≤ _; simp; omega
                clear s3' s4' hin HR1 HR
                go_wp2_with fail
                refine ch.mono ?_
                rintro e w8 ⟨rfl, hw8⟩
                subst w8
                clear ch
                obtain ⟨i0, hi0, hz0, hz1, hz2⟩ := info_parts Lns.info9
                go_wp2_with (at_builtin; refine wpList_append_own _ rfl _ _ 28 rfl w5.heap.size 9 i0 _ 1 16 Tryz.underlying28 hi0 hz0 hz1 hz2 rfl (by decide) _ _ _ rfl (HO7.out.alloc _) ⟨w7.heap.size, 0, none⟩ 1 1 [.string f] rfl rfl (Lns.one_new _ _ _) (Lns.one_one _ rfl) (by unfold maxLen; omega) (by omega) (by have := HI7.out.s; simp only [World.size_alloc]; omega) ?_)
                intro v' w9 ho9 hg9 hnil
                have hI7 := HI7.out
                have hsz9 := hg9.size
                simp only [World.size_alloc] at hsz9
                have hbk : ∀ k, k < w5.heap.size → w9.heap[k]? = w7.heap[k]? := fun k hk => by
                  have hs7 := hI7.s
                  refine (hg9.block k (by simp; omega) (fun e => ?_)).trans (((Below.refl w7.heap.size w7).alloc (Nat.le_refl _) _).block k (by omega))
                  have := own_base HO7.out k e.symm
                  omega
                have hX5 : X < w5.heap.size := by omega
                have hV9 : Bk w9 X #[.string F, vx] 49 := (hbk X hX5).trans HV7.out
                have hc9 := hV9.cell 1 rfl
                have hf9 := hV9.frozen 1
                have HE : Hid (EInv w w5 X g F (L ++ [f]) (w9.setCell ⟨X, 1, none⟩ v')) := by
                  have hb9 : Below w.heap.size w w9 := ⟨hg9.os.trans hI7.up.os, hg9.tape.trans hI7.up.tape, hg9.output.trans hI7.up.output, by have := hI7.up.size; omega, fun k hk => (hbk k (by omega)).trans (hI7.up.block k hk)⟩
                  refine ⟨hb9.setCell (by show w.heap.size ≤ X; omega) _, Bk.other ((hbk _ (by omega)).trans hI7.r0) (by show w.heap.size ≠ X; omega) _, ⟨v', hV9.set 1 _, ?_⟩, ?_, ?_⟩
                  · have := own_block (w' := w9.setCell ⟨X, 1, none⟩ v') ho9 (fun k hk _ => Below.heap_setCell w9 _ _ _ (by show k ≠ X; omega))
                    simpa using this
                  · refine (Below.heap_setCell w9 _ _ _ (by show g ≠ X; exact HGX.out)).trans ((hbk g HGL.out).trans hI7.p)
                  · have := hI7.s
                    simp [World.setCell]
                    omega
                obtain ⟨va, vc, hvf⟩ := own_form ho9
                subst hvf
                clear ho9 hg9 hnil hI7 hsz9 hbk hV9 HI7 HV7 HO7 f1 f2
                go_wp2
                go_roundg (n - (i + 1))
                case measure => omega
                case rel => exact ⟨i + 1, L ++ [f], hlt, rfl, by go_num, HE, HLL2, HR2⟩
            · rw [s2 hd0 hdc] at HR1
              have HZ7 : Hid (((⟨#[]⟩, []), chk d) = Z) := by
                show _ = _
                simp only [if_neg hdc] at HR1
                rw [← HZ.out, ← HR1, if_pos hdc]
              have HPX : Hid (Below w.heap.size w w6) := HI6.out.up
              clear s2 s3 s4 HR1 HR HZ
              generalize chk d = z at hdc HZ7 ⊢
              have k0 := HI6.out.r0
              have e0 := k0.cell 0 rfl
              have e1 := k0.cell 1 rfl
              have g0 := k0.frozen 0
              have g1 := k0.frozen 1
              have x2 := (k0.set 0 (.string ⟨#[]⟩)).set 1 (.slice none 0 0)
              have y0 : ((w6.setCell ⟨w.heap.size, 0, none⟩ (.string ⟨#[]⟩)).setCell ⟨w.heap.size, 1, none⟩ (.slice none 0 0)).cell? ⟨w.heap.size, 0, none⟩ = some (.string ⟨#[]⟩) := x2.cell 0 rfl
              have y1 : ((w6.setCell ⟨w.heap.size, 0, none⟩ (.string ⟨#[]⟩)).setCell ⟨w.heap.size, 1, none⟩ (.slice none 0 0)).cell? ⟨w.heap.size, 1, none⟩ = some (.slice none 0 0) := x2.cell 1 rfl
              have hfin : Below w.heap.size w ((w6.setCell ⟨w.heap.size, 0, none⟩ (.string ⟨#[]⟩)).setCell ⟨w.heap.size, 1, none⟩ (.slice none 0 0)) := ((HPX.out).setCell (Nat.le_refl _) _).setCell (Nat.le_refl _) _
              clear x2 k0
              go_wp2
              refine bodyPost_ret (v := .tuple #[.agg #[.string ⟨#[]⟩, (.slice none 0 0)], .int .i64 z]) (by simp [results, Tryz.results44, go_sem, y0, y1]) rfl ?_
              exact ⟨⟨#[]⟩, [], (.slice none 0 0), z, HZ7.out.symm, rfl, World.ownsRow_nil _ _ _ _, hfin⟩
        · obtain rfl : i = n := by omega
          have HR1 := HR.out
          rw [← HN.out, List.drop_length] at HR1
          have HZ7 : Hid (((F, L), (0 : Int)) = Z) := by
            show _ = _
            rw [← HZ.out, ← HR1]
            rfl
          have HPX : Hid (Below w.heap.size w wr) := HI.out.up
          obtain ⟨vx, hvx, hox⟩ := HI.out.x
          obtain ⟨va, vc, hvf⟩ := own_form hox
          subst hvf
          have q0 := hvx.cell 0 rfl
          have q1 := hvx.cell 1 rfl
          have hoo : ((wr.setCell ⟨w.heap.size, 0, none⟩ (.string F)).setCell ⟨w.heap.size, 1, none⟩ (.slice va L.length vc)).ownsRow w.heap.size 9 1 (.slice va L.length vc) L.length (L.map Value.string) := by
            refine Lns.own_mono (own_block hox (fun k h1 h2 => ?_)) (by omega)
            exact (Below.heap_setCell _ _ _ _ (by show k ≠ w.heap.size; omega)).trans (Below.heap_setCell _ _ _ _ (by show k ≠ w.heap.size; omega))
          have HOO : Hid _ := hoo
          clear hoo hox hvx HR1 HR HZ
          have k0 := HI.out.r0
          have e0 := k0.cell 0 rfl
          have e1 := k0.cell 1 rfl
          have g0 := k0.frozen 0
          have g1 := k0.frozen 1
          have x2 := (k0.set 0 (.string F)).set 1 (.slice va L.length vc)
          have y0 : ((wr.setCell ⟨w.heap.size, 0, none⟩ (.string F)).setCell ⟨w.heap.size, 1, none⟩ (.slice va L.length vc)).cell? ⟨w.heap.size, 0, none⟩ = some (.string F) := x2.cell 0 rfl
          have y1 : ((wr.setCell ⟨w.heap.size, 0, none⟩ (.string F)).setCell ⟨w.heap.size, 1, none⟩ (.slice va L.length vc)).cell? ⟨w.heap.size, 1, none⟩ = some (.slice va L.length vc) := x2.cell 1 rfl
          have hfin : Below w.heap.size w ((wr.setCell ⟨w.heap.size, 0, none⟩ (.string F)).setCell ⟨w.heap.size, 1, none⟩ (.slice va L.length vc)) := ((HPX.out).setCell (Nat.le_refl _) _).setCell (Nat.le_refl _) _
          clear x2 k0
          go_wp2
          refine bodyPost_ret (v := .tuple #[.agg #[.string F, (.slice va L.length vc)], .int .i64 0]) (by simp [results, Tryz.results44, go_sem, y0, y1]) rfl ?_
          exact ⟨F, L, (.slice va L.length vc), 0, HZ7.out.symm, rfl, HOO.out, hfin⟩
    · rw [if_pos hc] at hZ
      have HZ : Hid (((⟨#[]⟩, []), chk b) = Z) := hZ
      clear hZ cp HPM
      generalize chk b = z at hc HZ ⊢
      have k0 := K2.out
      have e0 := k0.cell 0 rfl
      have e1 := k0.cell 1 rfl
      have g0 := k0.frozen 0
      have g1 := k0.frozen 1
      have x2 := (k0.set 0 (.string ⟨#[]⟩)).set 1 (.slice none 0 0)
      have y0 : ((w2.setCell ⟨w.heap.size, 0, none⟩ (.string ⟨#[]⟩)).setCell ⟨w.heap.size, 1, none⟩ (.slice none 0 0)).cell? ⟨w.heap.size, 0, none⟩ = some (.string ⟨#[]⟩) := x2.cell 0 rfl
      have y1 : ((w2.setCell ⟨w.heap.size, 0, none⟩ (.string ⟨#[]⟩)).setCell ⟨w.heap.size, 1, none⟩ (.slice none 0 0)).cell? ⟨w.heap.size, 1, none⟩ = some (.slice none 0 0) := x2.cell 1 rfl
      have hfin : Below w.heap.size w ((w2.setCell ⟨w.heap.size, 0, none⟩ (.string ⟨#[]⟩)).setCell ⟨w.heap.size, 1, none⟩ (.slice none 0 0)) := ((HP.out).setCell (Nat.le_refl _) _).setCell (Nat.le_refl _) _
      clear x2 k0
      go_wp2
      refine bodyPost_ret (v := .tuple #[.agg #[.string ⟨#[]⟩, (.slice none 0 0)], .int .i64 z]) (by simp [results, Tryz.results44, go_sem, y0, y1]) rfl ?_
      exact ⟨⟨#[]⟩, [], (.slice none 0 0), z, HZ.out.symm, rfl, World.ownsRow_nil _ _ _ _, hfin⟩
end Go.Proofs.YtgijihfijoiafaaGreatDoor
/- The reference's Fixes. -/
namespace Go.Proofs.YtgijihfijoiafaaGreatDoor
set_option linter.unusedVariables false
open Go.RowKit Go.ChangeShapes
set_option maxRecDepth 100000 in
theorem rfixes_long (s : ByteArray) (v : Value) (w : World) (hs : s.size ≤ 40000) (hb : Lns.BSl w v s) (j : Nat) (hL : longL (linesL s) 0 = j + 1) :
    Calls Tryz.prog 19 #[v] w fun e w' => e = .returned (.tuple #[.slice none 0 0, .int .i64 3, .int .i64 (j + 1)]) ∧ Below w.heap.size w w' := by
  have ct := rrows_long s v w hs hb j hL
  obtain ⟨vd, vc, rfl⟩ := hb.form
  clear hb hL
  have z : (0 : Int) < (j : Int) + 1 := by omega
  go_enter Tryz.func19, Tryz.ntmps19
  go_wp2_with fail
  refine ct.mono ?_
  rintro e w1 ⟨rfl, hb1⟩
  have HB : Hid (Below w.heap.size w w1) := hb1
  clear ct hb1
  go_wp2
  go_ret3
  exact ⟨rfl, HB.out⟩
/-- The corrections so far, rising, are those that the program keeps in their order. -/
structure RF (st : FSt) (xs : List Fx) : Prop where
  p : (xs.map Fx.p).Perm st.1
  r : RiseK Fx.f xs
  n : st.1.length ≤ 4096
  g : st.2 = false
theorem RF.len {st : FSt} {xs : List Fx} (h : RF st xs) : xs.length = st.1.length := by have := h.p.length_eq; simpa using this
theorem RF.mem {st : FSt} {xs : List Fx} (h : RF st xs) (F : ByteArray) : F ∈ st.1.map Prod.fst ↔ F ∈ xs.map Fx.f := by
  have h1 := (h.p.map Prod.fst).mem_iff (a := F)
  rw [List.map_map] at h1
  exact h1.symm
theorem fx_find {xs : List Fx} {F : ByteArray} {i : Nat} (hr : RiseK Fx.f xs) (h1 : ∀ j, (hj : j < xs.length) → j < i → lw xs[j].f F = true) (h2 : ∀ hi : i < xs.length, lw xs[i].f F = false) (hi : ∀ hi : i < xs.length, xs[i].f ≠ F) : F ∉ xs.map Fx.f := by
  intro hm
  obtain ⟨x, hx, rfl⟩ := List.mem_map.1 hm
  obtain ⟨j, hj, rfl⟩ := List.getElem_of_mem hx
  rcases Nat.lt_trichotomy j i with h | h | h
  · have := h1 j hj h
    rw [lw_irrefl] at this
    cases this
  · subst h
    exact hi hj rfl
  · have hl := List.pairwise_iff_getElem.1 hr i j (by omega) hj h
    have := h2 (by omega)
    rw [this] at hl
    cases hl
theorem fx_split (xs : List Fx) (s : Fx) (i : Nat) (h1 : ∀ j, (hj : j < xs.length) → j < i → lw xs[j].f s.f = true) (hi : i ≤ xs.length) (h2 : ∀ hi : i < xs.length, lw xs[i].f s.f = false) : putK Fx.f xs s = xs.take i ++ s :: xs.drop i := by
  have key : ∀ (L : List Fx) (i : Nat), (∀ j, (hj : j < L.length) → j < i → lw L[j].f s.f = true) → i ≤ L.length → (∀ hi : i < L.length, lw L[i].f s.f = false) → L.takeWhile (fun x => lw x.f s.f) = L.take i ∧ L.dropWhile (fun x => lw x.f s.f) = L.drop i := by
    intro L
    induction L with
    | nil => intro i _ hi _; simp at hi; subst hi; simp
    | cons a L ih =>
      intro i h1 hi h2
      cases i with
      | zero =>
        have h0 : lw a.f s.f = false := h2 (by simp)
        simp [h0]
      | succ i =>
        have h0 : lw a.f s.f = true := h1 0 (by simp) (by omega)
        obtain ⟨e1, e2⟩ := ih i (fun j hj hl => h1 (j + 1) (by simpa using hj) (by omega)) (by simpa using hi) (fun hl => h2 (by simpa using hl))
        simp [h0, e1, e2]
  obtain ⟨e1, e2⟩ := key xs i h1 hi h2
  unfold putK
  rw [e1, e2]
theorem fcells_app (a b : List Fx) : fcells (a ++ b) = fcells a ++ fcells b := by simp [fcells]
theorem fcells_one (xs : List Fx) : ∀ u ∈ fcells xs, u.oneCell' = true := by
  intro u hu
  obtain ⟨x, _, hx⟩ := List.mem_flatMap.1 hu
  rcases List.mem_cons.1 hx with rfl | hx
  · rfl
  · rcases List.mem_cons.1 hx with rfl | hx
    · rfl
    · cases hx
theorem fx_part {w : World} {g i m c : Nat} {xs M : List Fx} (h : ∀ j, (hj : j < xs.length) → w.cell? ⟨g, j * 2, none⟩ = some (.string xs[j].f) ∧ w.cell? ⟨g, j * 2 + 1, none⟩ = some xs[j].v) (hm : M.length = m) (hM : ∀ j x, M[j]? = some x → xs[i + j]? = some x) : Srcs w (.slice (some ⟨g, i * 2, none⟩) m c) m 2 (fcells M) := by
  refine ⟨by rw [fcells_len2, hm], Or.inr ⟨g, i * 2, c, rfl, fun j u hu => ?_⟩⟩
  have hjl : j < M.length * 2 := by
    have := (List.getElem?_eq_some_iff.1 hu).1
    rw [fcells_len2] at this
    exact this
  have hq : j / 2 < M.length := by omega
  obtain ⟨a1, a2⟩ := fcells_at M (j / 2) hq
  obtain ⟨h1, h2⟩ := List.getElem?_eq_some_iff.1 (hM (j / 2) M[j / 2] (List.getElem?_eq_getElem hq))
  obtain ⟨b1, b2⟩ := h (i + j / 2) h1
  rw [h2] at b1 b2
  rcases Nat.mod_two_eq_zero_or_one j with hj | hj
  · have e : j = j / 2 * 2 := by omega
    rw [e] at hu
    rw [a1] at hu
    rw [show i * 2 + j = (i + j / 2) * 2 by omega, b1, hu]
  · have e : j = j / 2 * 2 + 1 := by omega
    rw [e] at hu
    rw [a2] at hu
    rw [show i * 2 + j = (i + j / 2) * 2 + 1 by omega, b2, hu]
/-- What the loop over rows keeps in memory. -/
structure RM (w1 : World) (xs : List Fx) (ov : Value) (wr : World) : Prop where
  o : wr.ownsRow w1.heap.size 49 2 ov xs.length (fcells xs)
  t : ∀ x ∈ xs, wr.ownsRow w1.heap.size 9 1 x.v x.l.length (x.l.map Value.string)
  u : Up w1.heap.size w1 wr
theorem RM.stay {w1 wr w' : World} {xs : List Fx} {ov : Value} (h : RM w1 xs ov wr) (hb : Below wr.heap.size wr w') : RM w1 xs ov w' := ⟨own_stay h.o hb, fun x hx => own_stay (h.t x hx) hb, h.u.stay hb⟩
end Go.Proofs.YtgijihfijoiafaaGreatDoor
