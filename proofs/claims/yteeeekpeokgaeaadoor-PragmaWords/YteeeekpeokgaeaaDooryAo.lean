/- A line of a file: what it asks. -/
import Derived.Test.YteeeekpeokgaeaaDoorPkYCtS2
import Derived.Test.YteeeekpeokgaeaaDooryLe
namespace Go.Proofs.YteeeekpeokgaeaaDoor
set_option linter.unusedVariables false
open Go.RowKit Go.ChangeShapes Tns
set_option maxHeartbeats 8000000 in
set_option maxRecDepth 100000 in
theorem alone_any {w0 w : World} (s : ByteArray) (hs : s.size ≤ 8000) {R F b n : Nat} {va : Value} {o x : Bool} {ws : List ByteArray} (hT : PT w0) (hu : Up w0.heap.size w0 w) (hb0 : w0.heap.size ≤ b) (hF0 : w0.heap.size ≤ F)
    (hF : RdC w F R o x) (hR : w.heap[R]? = some (.cells #[va, .map (some b)] 49)) (hB : BgP w b n ws) (hn : n ≤ 700000000) :
    Calls Tryd.prog 19 #[.pointer (some ⟨F, 0, none⟩), .string s] w fun e w' => ∃ n', e = .returned (.bool (scn s 0 ⟨o, o || x, false, ws⟩).a) ∧ RdC w' F R (scn s 0 ⟨o, o || x, false, ws⟩).o (scn s 0 ⟨o, o || x, false, ws⟩).x ∧ BgP w' b n' (scn s 0 ⟨o, o || x, false, ws⟩).w ∧ n' ≤ n + s.size * 8001 ∧ KpP w.heap.size (fun k => k = b ∨ k = F) w w' := by
  obtain ⟨Q, hQ⟩ : ∃ z, scn s 0 ⟨o, o || x, false, ws⟩ = z := ⟨_, rfl⟩
  have HQ : Hid (scn s 0 ⟨o, o || x, false, ws⟩ = Q) := hQ
  rw [hQ]
  have HH : Hid (PT w0 ∧ Up w0.heap.size w0 w ∧ w0.heap.size ≤ b ∧ w0.heap.size ≤ F ∧ w.heap[R]? = some (.cells #[va, .map (some b)] 49) ∧ R ≠ b ∧ F ≠ R ∧ F ≠ b) := ⟨hT, hu, hb0, hF0, hR, hB.ne hR, hF.ne hR, hB.ne hF⟩
  have HL : Hid (R < w.heap.size ∧ F < w.heap.size ∧ b < w.heap.size ∧ s.size ≤ 8000 ∧ n ≤ 700000000) := ⟨(Array.getElem?_eq_some_iff.1 hR).1, hF.lt, hB.lt, hs, hn⟩
  obtain ⟨k0, k1, k2, f1, f2⟩ := hF.cells
  have HF1 : Hid (RdC (w.setCell ⟨F, 2, none⟩ (.bool false)) F R o false) := hF.setX false
  have HB1 : Hid (BgP (w.setCell ⟨F, 2, none⟩ (.bool false)) b n ws) := hB.setCell (fun e => HH.out.2.2.2.2.2.2.2 e.symm) _
  have HK1 : Hid (KpP w.heap.size (fun k => k = b ∨ k = F) w (w.setCell ⟨F, 2, none⟩ (.bool false))) := (KpP.refl _ _ _).setCell (Or.inr (Or.inr rfl)) _
  clear hQ hT hu hb0 hF0 hF hR hB hs hn
  go_enter Tryd.func19, Tryd.ntmps19
  go_upto_region 1 with fail
  go_cut [5] (fun v wc => v = .bool (o || x) ∧ w = wc)
  case first =>
    cases o
    · go_wp2
      go_meet
      case rel => exact ⟨rfl, rfl⟩
    · go_wp2
      go_meet
      case rel => exact ⟨rfl, rfl⟩
  case rest =>
    obtain ⟨rfl, hwc⟩ := hcut
    subst hwc
    obtain ⟨W, hW⟩ : ∃ W, w.setCell ⟨F, 2, none⟩ (.bool false) = W := ⟨_, rfl⟩
    rw [hW] at HF1 HB1 HK1
    obtain ⟨al, hal⟩ : ∃ z, (o || x) = z := ⟨_, rfl⟩
    rw [hal] at HQ ⊢
    clear k0 k1 hal
    go_upto_region 3 with fail
    (try rw [hW])
    clear hW k2 f1 f2
    go_loopg [1, 5] s.size (fun gf lv av wr => ∃ (t : ByteArray) (p : Ps) (n' : Nat), lv = .string t ∧ av = .bool p.a ∧ t.size ≤ gf ∧ Hid (scn t 0 p = Q) ∧ Hid (RdC wr F R p.o p.x) ∧ Hid (BgP wr b n' p.w) ∧ Hid (n' + t.size * 8001 ≤ n + s.size * 8001 ∧ t.size ≤ s.size) ∧ Hid (KpP w.heap.size (fun k => k = b ∨ k = F) w wr))
    case atStart => exact ⟨s, ⟨o, al, false, ws⟩, n, rfl, rfl, Nat.le_refl _, HQ, HF1, HB1, ⟨Nat.le_refl _, Nat.le_refl _⟩, HK1⟩
    case round =>
      obtain ⟨t, ⟨po, pa, px, pw⟩, n', rfl, rfl, hg, HS, HF, HB, HN, HK⟩ := hrel
      dsimp only at HF HB
      have HUr : Hid (Up w0.heap.size w0 wr) := HK.out.up HH.out.2.1 (fun k hk => by rcases hk with rfl | rfl; exact HH.out.2.2.1; exact HH.out.2.2.2.1)
      have hPT := HH.out.1.stay HUr.out.1
      have hts : t.size ≤ 8000 ∧ n' ≤ 800000000 := by have h1 := HL.out.2.2.2; have h2 := HN.out; omega
      rcases idx_or t with hix | ⟨i, hix⟩
      · have cc := cut_no hix wr hts.1 hPT
        have HQe : Hid (⟨po, pa, px, pw⟩ = Q) := (scn_none hix).symm.trans HS.out
        clear hix hPT
        go_wp2_with fail
        refine cc.mono ?_
        rintro e w1 ⟨rfl, hb1⟩
        have HF1 : Hid (RdC w1 F R po px) := HF.out.stay hb1
        have HB1 : Hid (BgP w1 b n' pw) := HB.out.stay hb1
        have HK1 : Hid (KpP w.heap.size (fun k => k = b ∨ k = F) w w1) := HK.out.trans (KpP.of (hb1.mono HK.out.size))
        clear cc hb1
        go_wp2
        go_ret
        refine ⟨n', ?_, ?_, ?_, ?_, HK1.out⟩
        · rw [← HQe.out]
          rfl
        · rw [← HQe.out]
          exact HF1.out
        · rw [← HQe.out]
          exact HB1.out
        · have h2 := HN.out
          omega
      · have cc := cut_yes hix wr hts.1 hPT
        obtain ⟨hi6, hsc⟩ := scn_cut (p := ⟨po, pa, px, pw⟩) hix
        have hzb := frm_size t (i + 6)
        obtain ⟨bh, hbh⟩ : ∃ z, frm t (i + 6) = z := ⟨_, rfl⟩
        rw [hbh] at cc hsc hzb
        have cl := fun w' => tl_small bh w'
        have hle := low_ge (s := bh) bh.size 0 (by omega)
        have hzl := frm_size bh (low bh 0)
        obtain ⟨e0, he0⟩ : ∃ z, low bh 0 = z := ⟨_, rfl⟩
        rw [he0] at cl hle hzl hsc
        obtain ⟨ln, hln⟩ : ∃ z, frm bh e0 = z := ⟨_, rfl⟩
        rw [hln] at cl hzl hsc
        obtain ⟨Y, hY⟩ : ∃ z, bh.extract 0 e0 = z := ⟨_, rfl⟩
        rw [hY] at hsc
        have HSc : Hid (scn ln 0 (ask Y ln ⟨po, pa, px, pw⟩) = Q) := hsc.symm.trans HS.out
        have z1 : IntKind.i64.wrap ((bh.size : Int) - (ln.size : Int)) = (e0 : Int) := by
          rw [IntWalk.i64_in _ (by omega)]
          omega
        have z2 : (0 : Int) ≤ (e0 : Int) := by omega
        have z3 : (e0 : Int) ≤ (bh.size : Int) := by omega
        have HZ : Hid (ln.size + 6 ≤ t.size ∧ t.size ≤ 8000 ∧ n' ≤ 800000000) := ⟨by omega, hts.1, hts.2⟩
        obtain ⟨ip, hip⟩ : ∃ z, t.extract 0 i = z := ⟨_, rfl⟩
        rw [hip] at cc
        clear hix hPT hi6 hsc hzb hbh hle hzl he0 hln hip hts HS
        go_wp2_with fail
        refine cc.mono ?_
        rintro e w1 ⟨rfl, hb1⟩
        have cl1 := cl w1
        clear cc cl
        go_wp2_with fail
        refine cl1.mono ?_
        rintro e w2 ⟨rfl, hb2⟩
        have hb12 := hb1.trans (hb2.mono hb1.size)
        have HF2 : Hid (RdC w2 F R po px) := HF.out.stay hb12
        have HB2 : Hid (BgP w2 b n' pw) := HB.out.stay hb12
        have HK2 : Hid (KpP w.heap.size (fun k => k = b ∨ k = F) w w2) := HK.out.trans (KpP.of (hb12.mono HK.out.size))
        obtain ⟨k0, k1, k2, f1, f2⟩ := HF2.out.cells
        clear cl1 hb1 hb2 hb12 HF HB HK HUr
        by_cases hsOff : Y = sOff
        · have eOff : (Y.toList == [111, 102, 102]) = true := tl_eq sOff_l hsOff
          have HSd : Hid (scn ln 0 ⟨true, true, px, pw⟩ = Q) := by
            show _ = _
            rw [← HSc.out, ask_off hsOff]
          clear HSc hsOff
          have HF3 : Hid (RdC (w2.setCell ⟨F, 1, none⟩ (.bool true)) F R true px) := HF2.out.setO true
          have HB3 : Hid (BgP (w2.setCell ⟨F, 1, none⟩ (.bool true)) b n' pw) := HB2.out.setCell (fun e => HH.out.2.2.2.2.2.2.2 e.symm) _
          have HK3 : Hid (KpP w.heap.size (fun k => k = b ∨ k = F) w (w2.setCell ⟨F, 1, none⟩ (.bool true))) := HK2.out.setCell (Or.inr (Or.inr rfl)) _
          obtain ⟨V, hV⟩ : ∃ V, w2.setCell ⟨F, 1, none⟩ (.bool true) = V := ⟨_, rfl⟩
          rw [hV] at HF3 HB3 HK3
          clear HF2 HB2 HK2
          go_wp2
          (try rw [hV])
          go_roundg (ln.size)
          case measure => have h := HZ.out; omega
          case rel => exact ⟨ln, ⟨true, true, px, pw⟩, n', rfl, rfl, Nat.le_refl _, HSd, HF3, HB3, (by show _ ∧ _; have h := HZ.out; have h2 := HN.out; omega), HK3⟩
        · have _hx := True.intro
          by_cases hsOn : Y = sOn
          · have eOn : (Y.toList == [111, 110]) = true := tl_eq sOn_l hsOn
            have eOff : (Y.toList == [111, 102, 102]) = false := tl_ne sOff_l hsOff
            have HSd : Hid (scn ln 0 ⟨false, pa, px, pw⟩ = Q) := by
              show _ = _
              rw [← HSc.out, ask_on hsOn]
            clear HSc hsOff hsOn
            have HF3 : Hid (RdC (w2.setCell ⟨F, 1, none⟩ (.bool false)) F R false px) := HF2.out.setO false
            have HB3 : Hid (BgP (w2.setCell ⟨F, 1, none⟩ (.bool false)) b n' pw) := HB2.out.setCell (fun e => HH.out.2.2.2.2.2.2.2 e.symm) _
            have HK3 : Hid (KpP w.heap.size (fun k => k = b ∨ k = F) w (w2.setCell ⟨F, 1, none⟩ (.bool false))) := HK2.out.setCell (Or.inr (Or.inr rfl)) _
            obtain ⟨V, hV⟩ : ∃ V, w2.setCell ⟨F, 1, none⟩ (.bool false) = V := ⟨_, rfl⟩
            rw [hV] at HF3 HB3 HK3
            clear HF2 HB2 HK2
            go_wp2
            (try rw [hV])
            go_roundg (ln.size)
            case measure => have h := HZ.out; omega
            case rel => exact ⟨ln, ⟨false, pa, px, pw⟩, n', rfl, rfl, Nat.le_refl _, HSd, HF3, HB3, (by show _ ∧ _; have h := HZ.out; have h2 := HN.out; omega), HK3⟩
          · have _hx := True.intro
            by_cases hsLine : Y = sLine
            · have eLine : (Y.toList == [108, 105, 110, 101]) = true := tl_eq sLine_l hsLine
              have eOff : (Y.toList == [111, 102, 102]) = false := tl_ne sOff_l hsOff
              have eOn : (Y.toList == [111, 110]) = false := tl_ne sOn_l hsOn
              have HSd : Hid (scn ln 0 ⟨po, true, px, pw⟩ = Q) := by
                show _ = _
                rw [← HSc.out, ask_line hsLine]
              clear HSc hsOff hsOn hsLine
              go_wp2
              go_roundg (ln.size)
              case measure => have h := HZ.out; omega
              case rel => exact ⟨ln, ⟨po, true, px, pw⟩, n', rfl, rfl, Nat.le_refl _, HSd, HF2, HB2, (by show _ ∧ _; have h := HZ.out; have h2 := HN.out; omega), HK2⟩
            · have _hx := True.intro
              by_cases hsNext : Y = sNext
              · have eNext : (Y.toList == [110, 101, 120, 116]) = true := tl_eq sNext_l hsNext
                have eOff : (Y.toList == [111, 102, 102]) = false := tl_ne sOff_l hsOff
                have eOn : (Y.toList == [111, 110]) = false := tl_ne sOn_l hsOn
                have eLine : (Y.toList == [108, 105, 110, 101]) = false := tl_ne sLine_l hsLine
                have HSd : Hid (scn ln 0 ⟨po, pa, true, pw⟩ = Q) := by
                  show _ = _
                  rw [← HSc.out, ask_next hsNext]
                clear HSc hsOff hsOn hsLine hsNext
                have HF3 : Hid (RdC (w2.setCell ⟨F, 2, none⟩ (.bool true)) F R po true) := HF2.out.setX true
                have HB3 : Hid (BgP (w2.setCell ⟨F, 2, none⟩ (.bool true)) b n' pw) := HB2.out.setCell (fun e => HH.out.2.2.2.2.2.2.2 e.symm) _
                have HK3 : Hid (KpP w.heap.size (fun k => k = b ∨ k = F) w (w2.setCell ⟨F, 2, none⟩ (.bool true))) := HK2.out.setCell (Or.inr (Or.inr rfl)) _
                obtain ⟨V, hV⟩ : ∃ V, w2.setCell ⟨F, 2, none⟩ (.bool true) = V := ⟨_, rfl⟩
                rw [hV] at HF3 HB3 HK3
                clear HF2 HB2 HK2
                go_wp2
                (try rw [hV])
                go_roundg (ln.size)
                case measure => have h := HZ.out; omega
                case rel => exact ⟨ln, ⟨po, pa, true, pw⟩, n', rfl, rfl, Nat.le_refl _, HSd, HF3, HB3, (by show _ ∧ _; have h := HZ.out; have h2 := HN.out; omega), HK3⟩
              · have _hx := True.intro
                by_cases hsWords : Y = sWords
                · have eWords : (Y.toList == [119, 111, 114, 100, 115]) = true := tl_eq sWords_l hsWords
                  have eOff : (Y.toList == [111, 102, 102]) = false := tl_ne sOff_l hsOff
                  have eOn : (Y.toList == [111, 110]) = false := tl_ne sOn_l hsOn
                  have eLine : (Y.toList == [108, 105, 110, 101]) = false := tl_ne sLine_l hsLine
                  have eNext : (Y.toList == [110, 101, 120, 116]) = false := tl_ne sNext_l hsNext
                  have HSd : Hid (scn ln 0 ⟨po, pa, px, pw ++ knw ln⟩ = Q) := by
                    show _ = _
                    rw [← HSc.out, ask_words hsWords]
                  clear HSc hsOff hsOn hsLine hsNext hsWords
                  have hR2 : w2.heap[R]? = some (.cells #[va, .map (some b)] 49) := by
                    rw [HK2.out.block R HL.out.1 (fun e => by rcases e with e | e; exact HH.out.2.2.2.2.2.1 e; exact HH.out.2.2.2.2.2.2.1 e.symm)]
                    exact HH.out.2.2.2.2.1
                  have cw := learn_any (w0 := w0) ln (by have h := HZ.out; omega) HH.out.1 (HK2.out.up HH.out.2.1 (fun k hk => by rcases hk with rfl | rfl; exact HH.out.2.2.1; exact HH.out.2.2.2.1)) HH.out.2.2.1 hR2 HB2.out (by have h := HZ.out; omega)
                  clear hR2
                  go_wp2_with fail
                  refine cw.mono ?_
                  rintro e w3 ⟨rfl, n3, hb3, hn3, hk3⟩
                  have HB3 : Hid (BgP w3 b n3 (pw ++ knw ln)) := hb3
                  have HF3 : Hid (RdC w3 F R po px) := HF2.out.kp hk3 HF2.out.lt (fun e => HH.out.2.2.2.2.2.2.2 e)
                  have HK3 : Hid (KpP w.heap.size (fun k => k = b ∨ k = F) w w3) := HK2.out.trans ((hk3.wide (fun k hk => Or.inl hk)).mono HK2.out.size)
                  have HN3 : Hid (n3 ≤ n' + ln.size) := hn3
                  clear cw hb3 hn3 hk3 k0 k1 k2 f1 f2
                  go_wp2
                  go_roundg (ln.size)
                  case measure => have h := HZ.out; omega
                  case rel => exact ⟨ln, ⟨po, pa, px, pw ++ knw ln⟩, n3, rfl, rfl, Nat.le_refl _, HSd, HF3, HB3, (by show _ ∧ _; have h := HZ.out; have h2 := HN.out; have h3 := HN3.out; omega), HK3⟩
                · have HSd : Hid (scn ln 0 ⟨po, pa, px, pw⟩ = Q) := by
                    show _ = _
                    rw [← HSc.out, ask_none hsOff hsOn hsLine hsNext hsWords]
                  have eOff : (Y.toList == [111, 102, 102]) = false := tl_ne sOff_l hsOff
                  have eOn : (Y.toList == [111, 110]) = false := tl_ne sOn_l hsOn
                  have eLine : (Y.toList == [108, 105, 110, 101]) = false := tl_ne sLine_l hsLine
                  have eNext : (Y.toList == [110, 101, 120, 116]) = false := tl_ne sNext_l hsNext
                  have eWords : (Y.toList == [119, 111, 114, 100, 115]) = false := tl_ne sWords_l hsWords
                  clear HSc hsOff hsOn hsLine hsNext hsWords
                  go_wp2
                  go_roundg (ln.size)
                  case measure => have h := HZ.out; omega
                  case rel => exact ⟨ln, ⟨po, pa, px, pw⟩, n', rfl, rfl, Nat.le_refl _, HSd, HF2, HB2, (by show _ ∧ _; have h := HZ.out; have h2 := HN.out; omega), HK2⟩
end Go.Proofs.YteeeekpeokgaeaaDoor
