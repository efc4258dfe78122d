/- The law TrieNodes: its closure. -/
import Derived.Test.YtbmmjpmgkkljgaaDoortWkP
import Derived.Deep.RegionHeld3
import Derived.Deep.OwnRows
import Derived.Deep.DeepCutAuto
namespace Go.Proofs.YtbmmjpmgkkljgaaDoor
set_option linter.unusedVariables false
open Go.RowKit Go.ChangeShapes
def P1 (b : Nat) : Value := .pointer (some ⟨b, 0, none⟩)
/-- What the closure holds. -/
structure NS (w : World) (bt be bo bw bs bk me mw T base m0 ne nw : Nat) (vN : Value) (l : List Nd) (L WK : List ByteArray) : Prop where
  ct : w.cell? ⟨bt, 0, none⟩ = some (.pointer (some ⟨T, 0, none⟩))
  ce : w.cell? ⟨be, 0, none⟩ = some (.map (some me))
  cw : w.cell? ⟨bw, 0, none⟩ = some (.map (some mw))
  co : w.cell? ⟨bo, 0, none⟩ = some (.bool true)
  ck : w.cell? ⟨bk, 0, none⟩ = some (.func (.func 19) #[] #[P1 bt, P1 be, P1 bo, P1 bw, P1 bs, P1 bk])
  tr : TrieM w base T m0 vN l
  bE : BagB w me ne L
  bW : BagB w mw nw WK
  ap : bt ≠ bs ∧ be ≠ bs ∧ bw ≠ bs ∧ bo ≠ bs ∧ bk ≠ bs ∧ me ≠ bs ∧ mw ≠ bs
  ft : ∀ k, Foot T vN l k → k ≠ bs
theorem cell_went {w w' : World} {bs : Nat} {a : Addr} {v : Value} (h : w.cell? a = some v) (hw : Went w w' (· = bs) (· = bs)) (hn : a.block ≠ bs) : w'.cell? a = some v :=
  (World.cell?_of_block (hw.far a.block (World.block_lt_of_cell? w _ h) hn)).trans h
theorem NS.went {w w' : World} {bt be bo bw bs bk me mw T base m0 ne nw : Nat} {vN : Value} {l : List Nd} {L WK : List ByteArray} (h : NS w bt be bo bw bs bk me mw T base m0 ne nw vN l L WK) (hw : Went w w' (· = bs) (· = bs)) : NS w' bt be bo bw bs bk me mw T base m0 ne nw vN l L WK := by
  obtain ⟨a1, a2, a3, a4, a5, a6, a7⟩ := h.ap
  exact ⟨cell_went h.ct hw a1, cell_went h.ce hw a2, cell_went h.cw hw a3, cell_went h.co hw a4, cell_went h.ck hw a5,
    h.tr.keep fun k hk => hw.far k (h.tr.lt k hk).2 (h.ft k hk), h.bE.block (hw.far me h.bE.lt a6), h.bW.block (hw.far mw h.bW.lt a7), h.ap, h.ft⟩
/-- So many have been seen. -/
def Seen (w : World) (bs m : Nat) : Prop := w.rowIs bs 3 1 (fun _ => .int .i64 (m : Int))
theorem Seen.cell {w : World} {bs m : Nat} (h : Seen w bs m) : w.cell? ⟨bs, 0, none⟩ = some (.int .i64 (m : Int)) := World.rowIs.cell h (i := 0) (by omega)
theorem Seen.frozen {w : World} {bs m : Nat} (h : Seen w bs m) : w.frozen? ⟨bs, 0, none⟩ = false := World.rowIs.frozen h 0
theorem Seen.stay {w w' : World} {bs m : Nat} (h : Seen w bs m) (hb : Below w.heap.size w w') : Seen w' bs m := World.rowIs.of_block h (hb.block bs (World.rowIs.lt h))
theorem Seen.set {w : World} {bs m : Nat} (h : Seen w bs m) (m' : Nat) : Seen (w.setCell ⟨bs, 0, none⟩ (.int .i64 (m' : Int))) bs m' := World.rowIs.congr (World.rowIs.set h 0 _) (fun i hi => by
  have : i = 0 := by omega
  simp [this])
theorem went_set (w : World) (bs : Nat) (v : Value) : Went w (w.setCell ⟨bs, 0, none⟩ v) (· = bs) (· = bs) :=
  ⟨rfl, rfl, rfl, by simp [World.setCell], fun k _ hk => Go.Deep.blk_setCell_other w _ _ k hk, fun k hk => Or.inl hk⟩
theorem went_below {w w' : World} {bs : Nat} (h : Below w.heap.size w w') : Went w w' (· = bs) (· = bs) := Went.of_below h
theorem went_drew {w w' : World} {bs : Nat} (h : Went w w' (· = bs) (· = bs)) : Went w w'.drew (· = bs) (· = bs) := ⟨h.os, h.tape, h.output, h.size, h.far, h.new⟩
theorem own_went {w w' : World} {bs base e size n : Nat} {v : Value} {xs : List Value} (h : w.ownsRow base e size v n xs) (hw : Went w w' (· = bs) (· = bs)) (hb : bs < base) : w'.ownsRow base e size v n xs :=
  own_of_blocks h fun k hk => hw.far k (h.lt k hk).2 (by have := (h.lt k hk).1; omega)
theorem sum_take (R : List Int) (f : Int → Nat) (j : Nat) (r : Int) (h : R[j]? = some r) : ((R.take (j + 1)).map f).sum = ((R.take j).map f).sum + f r := by
  obtain ⟨h1, h2⟩ := List.getElem?_eq_some_iff.1 h
  rw [← List.take_append_getElem h1, List.map_append, List.sum_append, h2]
  simp
set_option maxHeartbeats 4000000 in
set_option maxRecDepth 100000 in
theorem walk_any {bt be bo bw bs bk me mw T base m0 ne nw : Nat} {vN : Value} {l : List Nd} {L WK : List ByteArray} {B : List (List Int)} (hNP : NP L (l.map Nd.p) B) (hl : l.length ≤ 300000) (hWK : ∀ (c : Nat) (q : List Int), B[c]? = some q → q ≠ [] → tx q ∈ WK) :
    ∀ (d i : Nat) (p : List Int), B[i]? = some p → p.length + d = 13 → ∀ (w : World) (m : Nat), NS w bt be bo bw bs bk me mw T base m0 ne nw vN l L WK → Seen w bs m → m + below B p ≤ 1000000 →
      Calls Tryd.prog 19 #[.int .i64 (i : Int), .string (tx p), .int .i64 (p.length : Int), P1 bt, P1 be, P1 bo, P1 bw, P1 bs, P1 bk] w fun e w' => (∃ u, e = .returned u) ∧ Went w w' (· = bs) (· = bs) ∧ Seen w' bs (m + below B p)
  | 0, i, p, hp, hd, w, m, hN, hS, hm => by
    have := (hNP.ok hp).2
    omega
  | d + 1, i, p, hp, hd, w, m, hN, hS, hm => by
    have hp12 := (hNP.ok hp).2
    have hNPo := hNP.inv.len
    obtain ⟨n, hn⟩ : ∃ n, l[i]? = some n := by
      have : i < l.length := by
        have h1 := (List.getElem?_eq_some_iff.1 hp).1
        rw [hNPo, List.length_map] at h1
        exact h1
      exact ⟨_, List.getElem?_eq_getElem this⟩
    have hPn : (l.map Nd.p)[i]? = some n.p := by rw [List.getElem?_map, hn]; rfl
    have hok := hNP.inv.ok n.p (List.mem_of_getElem? hPn)
    rw [List.length_map] at hok
    have hsum := hNP.sum hp hPn
    have he := hNP.e_is hp hPn
    have IH := walk_any (bt := bt) (be := be) (bo := bo) (bw := bw) (bs := bs) (bk := bk) (me := me) (mw := mw) (T := T) (base := base) (m0 := m0) (ne := ne) (nw := nw) (vN := vN) (WK := WK) hNP hl hWK d
    have HIH : Hid (∀ (i : Nat) (p : List Int), B[i]? = some p → p.length + d = 13 → ∀ (w : World) (m : Nat), NS w bt be bo bw bs bk me mw T base m0 ne nw vN l L WK → Seen w bs m → m + below B p ≤ 1000000 →
      Calls Tryd.prog 19 #[.int .i64 (i : Int), .string (tx p), .int .i64 (p.length : Int), P1 bt, P1 be, P1 bo, P1 bw, P1 bs, P1 bk] w fun e w' => (∃ u, e = .returned u) ∧ Went w w' (· = bs) (· = bs) ∧ Seen w' bs (m + below B p)) := IH
    have HN : Hid (NS w bt be bo bw bs bk me mw T base m0 ne nw vN l L WK) := hN
    have HS : Hid (Seen w bs m) := hS
    have HNP : Hid (NP L (l.map Nd.p) B) := hNP
    have HP : Hid (B[i]? = some p) := hp
    have HPN : Hid ((l.map Nd.p)[i]? = some n.p) := hPn
    have HSM : Hid ((n.p.R.map fun r => onP B (p ++ [r])).sum = below B p) := hsum
    have HWK : Hid (∀ (c : Nat) (q : List Int), B[c]? = some q → q ≠ [] → tx q ∈ WK) := hWK
    have ht48 := tx_size p
    have c1 := kids_any hN.tr hn (by omega) (by omega) (by omega)
    have hct := hN.ct
    obtain ⟨nR, hnR⟩ : ∃ x, n.p.R.length = x := ⟨_, rfl⟩
    have hnK : n.p.K.length = nR := by rw [← hok.1, hnR]
    rw [hnR, hnK] at c1
    have HNR : Hid (n.p.R.length = nR ∧ n.p.K.length = nR) := ⟨hnR, hnK⟩
    have hbsw : bs < w.heap.size := World.rowIs.lt hS
    have hnR3 : nR ≤ 300000 := by omega
    unfold P1
    clear hsum IH hN hS hp hPn hNP hWK hnR hnK hok hNPo
    go_enter Tryd.func19, Tryd.ntmps19
    go_wp2_with fail
    refine c1.mono ?_
    rintro e w1 ⟨vr, vk, rfl, hR, hK, hb1⟩
    have HRr : Hid (w1.ownsRow w.heap.size 21 1 vr nR (n.p.R.map i32c)) := hR
    have HKk : Hid (w1.ownsRow w.heap.size 3 1 vk nR (n.p.K.map i64c)) := hK
    obtain ⟨ar, cr, rfl⟩ := own_slice hR
    obtain ⟨ak, ck, rfl⟩ := own_slice hK
    have HW1 : Hid (Went w w1 (· = bs) (· = bs)) := went_below hb1
    have HN1 : Hid (NS w1 bt be bo bw bs bk me mw T base m0 ne nw vN l L WK) := HN.out.went (went_below hb1)
    have HS1 : Hid (Seen w1 bs m) := HS.out.stay hb1
    have hs1 : w.heap.size ≤ w1.heap.size := hb1.size
    clear hR hK hb1 c1 hct
    obtain ⟨b, eb⟩ : ∃ b, n.p.e = b := ⟨_, rfl⟩
    rw [eb] at he
    have HBE : Hid (b = true ↔ tx p ∈ L) := he
    have HSX : Hid (∀ w', Up w1.heap.size w1 w' → w'.cell? ⟨bt, 0, none⟩ = some (.pointer (some ⟨T, 0, none⟩)) ∧ w'.cell? ⟨be, 0, none⟩ = some (.map (some me)) ∧ (Instr.lookup 36 (.map (some me)) (.string (tx p)) false).run Tryd.prog w' = .ok (.bool b) w' ∧ Up w1.heap.size w1 w') := fun w' hu => by
      have hN := HN1.out.went (went_below hu.1)
      refine ⟨hN.ct, hN.ce, ?_, hu⟩
      have hlk := hN.bE.look (tx p) (by omega)
      cases hb : b with
      | true => exact hlk.1 (HBE.out.1 hb)
      | false => exact hlk.2 (fun h => by have := HBE.out.2 h; rw [hb] at this; cases this)
    have HEN : Hid (∀ w', Up w1.heap.size w1 w' → Calls Tryd.prog 21 #[.pointer (some ⟨T, 0, none⟩), .int .i64 (i : Int)] w' fun e w'' => e = .returned (.bool b) ∧ (fun w' => w'.cell? ⟨bt, 0, none⟩ = some (.pointer (some ⟨T, 0, none⟩)) ∧ w'.cell? ⟨be, 0, none⟩ = some (.map (some me)) ∧ (Instr.lookup 36 (.map (some me)) (.string (tx p)) false).run Tryd.prog w' = .ok (.bool b) w' ∧ Up w1.heap.size w1 w') w'') := fun w' hu => by
      have hN := HN1.out.went (went_below hu.1)
      refine (ends_any hN.tr hn (by omega)).mono ?_
      rintro e w'' ⟨rfl, hb⟩
      exact ⟨by rw [eb], HSX.out w'' (hu.stay hb)⟩
    have hct1 := HN1.out.ct
    have hce1 := HN1.out.ce
    have g1 : (b != b) = false := by simp
    have g2 : ¬ (70 : Int) < (p.length : Int) := by omega
    clear he eb
    go_upto_region 1 with fail
    have HG2 : Hid (decide ((70 : Int) < (p.length : Int)) = false) := decide_eq_false (by omega)
    go_cut [40] (fun tv wx => tv = .bool false ∧ Hid (Up w1.heap.size w1 wx))
    case first =>
      go_region_held3 (fun w' => w'.cell? ⟨bt, 0, none⟩ = some (.pointer (some ⟨T, 0, none⟩)) ∧ w'.cell? ⟨be, 0, none⟩ = some (.map (some me)) ∧ (Instr.lookup 36 (.map (some me)) (.string (tx p)) false).run Tryd.prog w' = .ok (.bool b) w' ∧ Up w1.heap.size w1 w') (first | exact HSX.out _ ((Up.refl w1).drew) | assumption) (first | (go_at_call 21; refine (HEN.out _ (by first | exact (Up.refl w1).drew | assumption)).mono ?_; rintro e w' ⟨rfl, hw'⟩))
      all_goals
        go_wp2
        go_meet
        case rel => exact ⟨by first | rfl | exact congrArg Value.bool HG2.out, hw'.2.2.2⟩
    case rest =>
      obtain ⟨rfl, HUe⟩ := hcut
      have HN2 : Hid (NS wc bt be bo bw bs bk me mw T base m0 ne nw vN l L WK) := HN1.out.went (went_below HUe.out.1)
      have HW2 : Hid (Went w wc (· = bs) (· = bs)) := HW1.out.trans (went_below HUe.out.1)
      have HS2 : Hid (Seen wc bs m) := HS1.out.stay HUe.out.1
      have HR2 : Hid (wc.ownsRow w.heap.size 21 1 (.slice ar nR cr) nR (n.p.R.map i32c)) := own_stay HRr.out HUe.out.1
      have HK2 : Hid (wc.ownsRow w.heap.size 3 1 (.slice ak nR ck) nR (n.p.K.map i64c)) := own_stay HKk.out HUe.out.1
      clear hct1 hce1 HN1 HW1 HS1 HRr HKk HEN HSX HBE hn
      go_wp2
      go_loopg [43] nR (fun g jv wx => ∃ j : Nat, j ≤ nR ∧ g = nR - j ∧ jv = .int .i64 j ∧ Hid (Went wc wx (· = bs) (· = bs)) ∧ Hid (Seen wx bs (m + ((n.p.R.take j).map fun r => onP B (p ++ [r])).sum)))
      case atStart => exact ⟨0, Nat.zero_le _, rfl, rfl, Went.refl _ _, HS2.out⟩
      case round =>
        obtain ⟨j, hjn, hg, rfl, HWx, HSx⟩ := hrel
        have y0 : (0 : Int) ≤ (j : Int) := by omega
        by_cases hlt : j < nR
        · have y1 : (j : Int) < (nR : Int) := by omega
          obtain ⟨r, hr⟩ : ∃ r, n.p.R[j]? = some r := ⟨_, List.getElem?_eq_getElem (by rw [HNR.out.1]; exact hlt)⟩
          obtain ⟨c, hc, hbc, hon⟩ := HNP.out.kid HP.out HPN.out hr
          obtain ⟨gr, rfl⟩ : ∃ gr, ar = some ⟨gr, 0, none⟩ := by
            obtain ⟨_, ⟨e1, e2⟩ | ⟨g', cap, _, e1, _⟩⟩ := HR2.out
            · omega
            · injection e1 with e1 _ _; exact ⟨g', e1⟩
          obtain ⟨gk', rfl⟩ : ∃ gr, ak = some ⟨gr, 0, none⟩ := by
            obtain ⟨_, ⟨e1, e2⟩ | ⟨g', cap, _, e1, _⟩⟩ := HK2.out
            · omega
            · injection e1 with e1 _ _; exact ⟨g', e1⟩
          have hRx := own_went HR2.out HWx.out hbsw
          have hKx := own_went HK2.out HWx.out hbsw
          have hcr : wr.cell? ⟨gr, j, none⟩ = some (.int .i32 r) := by
            rw [hRx.cellAt j (by omega), List.getElem?_map, hr]; rfl
          have hNx := HN2.out.went HWx.out
          have HNX : Hid (NS wr bt be bo bw bs bk me mw T base m0 ne nw vN l L WK) := hNx
          have HRX : Hid (wr.ownsRow w.heap.size 21 1 (.slice (some ⟨gr, 0, none⟩) nR cr) nR (n.p.R.map i32c)) := hRx
          have HKX : Hid (wr.ownsRow w.heap.size 3 1 (.slice (some ⟨gk', 0, none⟩) nR ck) nR (n.p.K.map i64c)) := hKx
          have HJ : Hid (n.p.R[j]? = some r ∧ n.p.K[j]? = some c ∧ B[c]? = some (p ++ [r]) ∧ onP B (p ++ [r]) = below B (p ++ [r]) + 1) := ⟨hr, hc, hbc, hon⟩
          clear hr hc hbc hon hRx hKx hNx
          obtain ⟨wa, hwa⟩ : ∃ x, wr.alloc (.cells #[.int .i32 r] 21) = x := ⟨_, rfl⟩
          have hba : Below wr.heap.size wr wa := by rw [← hwa]; exact (Below.refl _ _).alloc (Nat.le_refl _) _
          have HBA : Hid (Below wr.heap.size wr wa) := hba
          have cT := text_any (fun _ => r) 1 (.slice (some ⟨wr.heap.size, 0, none⟩) 1 1) wa (by omega) (Or.inr ⟨_, _, _, rfl, fun q hq => by
            obtain rfl : q = 0 := by omega
            rw [← hwa]
            simp⟩)
          have htx1 : strOfNums (txt (fun _ => r) 1) = tx [r] := by simp [txt, tx]
          rw [htx1] at cT
          clear hba htx1
          go_wp2_with fail
          refine cT.mono ?_
          rintro e wb ⟨rfl, hbb⟩
          have hWb : Went wr wb (· = bs) (· = bs) := went_below (HBA.out.trans (hbb.mono HBA.out.size))
          have hBb : Below wr.heap.size wr wb := HBA.out.trans (hbb.mono HBA.out.size)
          have HNB : Hid (NS wb bt be bo bw bs bk me mw T base m0 ne nw vN l L WK) := HNX.out.went hWb
          have HRB : Hid (wb.ownsRow w.heap.size 21 1 (.slice (some ⟨gr, 0, none⟩) nR cr) nR (n.p.R.map i32c)) := own_stay HRX.out hBb
          have HKB : Hid (wb.ownsRow w.heap.size 3 1 (.slice (some ⟨gk', 0, none⟩) nR ck) nR (n.p.K.map i64c)) := own_stay HKX.out hBb
          have HSB : Hid (Seen wb bs (m + ((n.p.R.take j).map fun r => onP B (p ++ [r])).sum)) := HSx.out.stay hBb
          have HWB : Hid (Went wc wb (· = bs) (· = bs)) := HWx.out.trans hWb
          clear hbb hWb hBb cT HBA hwa wa HNX HRX HKX hcr
          have hcat := tx_app p r
          have ht1 := tx_size [r]
          have ht2 := tx_size (p ++ [r])
          simp only [List.length_append, List.length_singleton] at ht1 ht2
          have q1 : ¬ 9223372036854775807 < (tx p).size + (tx [r]).size := by omega
          have hcw := HNB.out.cw
          have hlk := (HNB.out.bW.look (tx (p ++ [r])) (by omega)).1 (HWK.out c _ HJ.out.2.2.1 (by simp))
          obtain ⟨M, eM⟩ : ∃ M, m + ((n.p.R.take j).map fun r => onP B (p ++ [r])).sum = M := ⟨_, rfl⟩
          rw [eM] at HSB
          have HEM : Hid (m + ((n.p.R.take (j + 1)).map fun r => onP B (p ++ [r])).sum = M + 1 + below B (p ++ [r])) := by
            show _ = _
            rw [sum_take n.p.R _ j r HJ.out.1, HJ.out.2.2.2, ← eM]
            omega
          have HMB : Hid (M + 1 + below B (p ++ [r]) ≤ 1000000) := by
            show _ ≤ _
            rw [← HEM.out]
            have h1 : ((n.p.R.take (j + 1)).map fun r => onP B (p ++ [r])).sum ≤ (n.p.R.map fun r => onP B (p ++ [r])).sum := by
              have h2 := congrArg (fun l => (l.map fun r => onP B (p ++ [r])).sum) (List.take_append_drop (j + 1) n.p.R)
              simp only [List.map_append, List.sum_append] at h2
              omega
            rw [HSM.out] at h1
            omega
          clear eM
          go_upto_region 7 with fail
          go_cut [69] (fun tv wx => tv = .bool false ∧ wb = wx)
          case first =>
            rcases Nat.eq_zero_or_pos j with h0 | h0
            · subst h0
              go_wp2
              go_meet
              case rel => exact ⟨rfl, rfl⟩
            · obtain ⟨j', rfl⟩ : ∃ j', j = j' + 1 := ⟨j - 1, by omega⟩
              obtain ⟨r', hr'⟩ : ∃ r, n.p.R[j']? = some r := ⟨_, List.getElem?_eq_getElem (by rw [HNR.out.1]; omega)⟩
              have hcr' : wb.cell? ⟨gr, j', none⟩ = some (.int .i32 r') := by
                rw [HRB.out.cellAt j' (by omega), List.getElem?_map, hr']; rfl
              have hrr : r' < r := (HNP.out.inv.rise i n.p HPN.out).lt hr' HJ.out.1 (by omega)
              have hrr' : ¬ r ≤ r' := by omega
              have v1 : (0 : Int) < (j' : Int) + 1 := by omega
              have v2 : (j' : Int) + 1 - 1 = (j' : Int) := by omega
              have v3 : (j' : Int) < (nR : Int) := by omega
              have v4 : (0 : Int) ≤ (j' : Int) := by omega
              clear hr'
              go_wp2
              go_meet
              case rel => exact ⟨rfl, rfl⟩
          case rest =>
            obtain ⟨rfl, hwb⟩ := hcut
            subst hwb
            have hsc := HSB.out.cell
            have hsf := HSB.out.frozen
            have hM6 : M ≤ 1000000 := by have := HMB.out; omega
            obtain ⟨ws, hws⟩ : ∃ x, wb.setCell ⟨bs, 0, none⟩ (.int .i64 ((M : Int) + 1)) = x := ⟨_, rfl⟩
            have hWs : Went wb ws (· = bs) (· = bs) := by rw [← hws]; exact went_set wb bs _
            have HSS : Hid (Seen ws bs (M + 1)) := by
              show Seen _ _ _
              rw [← hws]
              exact HSB.out.set (M + 1)
            have HNS : Hid (NS ws bt be bo bw bs bk me mw T base m0 ne nw vN l L WK) := HNB.out.went hWs
            have HKS : Hid (ws.ownsRow w.heap.size 3 1 (.slice (some ⟨gk', 0, none⟩) nR ck) nR (n.p.K.map i64c)) := own_went HKB.out hWs hbsw
            have HWS : Hid (Went _ ws (· = bs) (· = bs)) := HWB.out.trans hWs
            have hkc : ws.cell? ⟨gk', j, none⟩ = some (.int .i64 (c : Int)) := by
              rw [HKS.out.cellAt j (by omega), List.getElem?_map, HJ.out.2.1]; rfl
            have hbk := HNS.out.ck
            unfold P1 at hbk
            have hgk : gk' ≠ bs := by
              have := own_base HKS.out gk' rfl
              omega
            have HSX : Hid ((fun w' => w'.cell? ⟨bk, 0, none⟩ = some (.func (.func 19) #[] #[Value.pointer (some ⟨bt, 0, none⟩), Value.pointer (some ⟨be, 0, none⟩), Value.pointer (some ⟨bo, 0, none⟩), Value.pointer (some ⟨bw, 0, none⟩), Value.pointer (some ⟨bs, 0, none⟩), Value.pointer (some ⟨bk, 0, none⟩)]) ∧ w'.cell? ⟨gk', j, none⟩ = some (.int .i64 (c : Int))) ws.drew) := ⟨hbk, hkc⟩
            have hlen : (((p ++ [r]).length : Nat) : Int) = (p.length : Int) + 1 := by simp
            have HCL : Hid (Calls Tryd.prog 19 #[.int .i64 (c : Int), .string (tx (p ++ [r])), .int .i64 ((p.length : Int) + 1), Value.pointer (some ⟨bt, 0, none⟩), Value.pointer (some ⟨be, 0, none⟩), Value.pointer (some ⟨bo, 0, none⟩), Value.pointer (some ⟨bw, 0, none⟩), Value.pointer (some ⟨bs, 0, none⟩), Value.pointer (some ⟨bk, 0, none⟩)] ws.drew fun e w'' => (∃ u, e = .returned u) ∧ ((fun w' => w'.cell? ⟨bk, 0, none⟩ = some (.func (.func 19) #[] #[Value.pointer (some ⟨bt, 0, none⟩), Value.pointer (some ⟨be, 0, none⟩), Value.pointer (some ⟨bo, 0, none⟩), Value.pointer (some ⟨bw, 0, none⟩), Value.pointer (some ⟨bs, 0, none⟩), Value.pointer (some ⟨bk, 0, none⟩)]) ∧ w'.cell? ⟨gk', j, none⟩ = some (.int .i64 (c : Int))) w'' ∧ (Went ws w'' (· = bs) (· = bs) ∧ Seen w'' bs (M + 1 + below B (p ++ [r]))))) := by
              have hx := HIH.out c (p ++ [r]) HJ.out.2.2.1 (by simp; omega) ws.drew (M + 1) (HNS.out.went (went_drew (Went.refl _ _))) (World.rowIs.drew HSS.out) HMB.out
              rw [hlen] at hx
              refine Calls.mono hx ?_
              rintro e w'' ⟨hu, hw, hse⟩
              have hw' : Went ws w'' (· = bs) (· = bs) := (went_drew (Went.refl _ _)).trans hw
              exact ⟨hu, ⟨cell_went hbk hw' HNS.out.ap.2.2.2.2.1, cell_went hkc hw' hgk⟩, hw', hse⟩
            clear hWs HNB HRB HKB HSB HWB hcw hlk hlen
            have hwl : IntKind.i64.wrap ((p.length : Int) + 1) = (p.length : Int) + 1 := (IntWalk.i64_left _).trans (IntWalk.wrap64_in _ (by omega))
            go_upto_region 10 with fail
            go_region_held3 (fun w' => w'.cell? ⟨bk, 0, none⟩ = some (.func (.func 19) #[] #[Value.pointer (some ⟨bt, 0, none⟩), Value.pointer (some ⟨be, 0, none⟩), Value.pointer (some ⟨bo, 0, none⟩), Value.pointer (some ⟨bw, 0, none⟩), Value.pointer (some ⟨bs, 0, none⟩), Value.pointer (some ⟨bk, 0, none⟩)]) ∧ w'.cell? ⟨gk', j, none⟩ = some (.int .i64 (c : Int))) (first | exact HSX.out | assumption) (first | (go_at_call 19; refine Calls.mono HCL.out ?_; rintro e w' ⟨⟨u, rfl⟩, hS', hX'⟩))
            all_goals
              go_wp2
              go_roundg (nR - (j + 1))
              case measure => omega
              case rel =>
                refine ⟨j + 1, by omega, rfl, by go_num, HWS.out.trans hX'.1, ?_⟩
                show Seen _ _ _
                rw [HEM.out]
                exact hX'.2
        · obtain rfl : j = nR := by omega
          have y1 : ¬ (j : Int) < (j : Int) := by omega
          have HFIN : Hid (Seen wr bs (m + below B p)) := by
            have := HSx.out
            rw [List.take_of_length_le (by rw [HNR.out.1]; exact Nat.le_refl _), HSM.out] at this
            exact this
          go_wp2
          go_end0
          exact ⟨⟨_, rfl⟩, HW2.out.trans HWx.out, HFIN.out⟩
end Go.Proofs.YtbmmjpmgkkljgaaDoor
