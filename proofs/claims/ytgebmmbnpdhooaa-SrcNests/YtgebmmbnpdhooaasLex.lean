/- src: Lex. -/
import Derived.Test.YtgebmmbnpdhooaasFam
namespace Go.Proofs.Ytgebmmbnpdhooaa
set_option linter.unusedVariables false
open Go.RowKit Go.ChangeShapes
theorem fam_any (w : World) {f : Int} (hf : 4 ≤ f ∧ f ≤ 8) : Calls Try.prog 18 #[.int .u8 f] w (FP (fam f) w) := by
  have h : f = 4 ∨ f = 5 ∨ f = 6 ∨ f = 7 ∨ f = 8 := by omega
  rcases h with rfl | rfl | rfl | rfl | rfl
  · exact fam4 w
  · exact fam5 w
  · exact fam6 w
  · exact fam7 w
  · exact fam8 w
/-- What Lex answers. -/
def LxP (F : Fm) (c : Nat → Int) (n : Nat) (w : World) (ev : Ending) (w' : World) : Prop := ∃ T g, ev = .returned (.tuple #[.pointer (some ⟨T, 0, none⟩), .int .i64 0]) ∧ w.heap.size ≤ T ∧ w.heap.size ≤ g ∧ Sh w' T g n (lxA F c n) ∧ Up w.heap.size w w'
theorem lex_no {w : World} {f : Int} (hf : f < 4 ∨ 8 < f) (v : Value) : Calls Try.prog 12 #[.int .u8 f, v] w fun ev w' => ev = .returned (.tuple #[.pointer none, .int .i64 2]) ∧ Below w.heap.size w w' := by
  have cf := fam_no (w := w) hf
  clear hf
  go_enter Try.func12, Try.ntmps12
  go_wp2_with fail
  refine cf.mono ?_
  rintro ev w1 ⟨_, ⟨a0, a1, a2, a3, a4, a5, rfl⟩, rfl, hb⟩
  have HB : Hid (∀ o, Below w.heap.size w (w1.alloc o)) := fun o => hb.trans ((below_alloc w1 o).mono hb.size)
  clear cf hb
  go_wp2
  refine bodyPost_ret (v := .tuple #[.pointer none, .int .i64 2]) (by simp [results, Try.results12, go_sem]) rfl ?_
  exact ⟨rfl, HB.out _⟩
theorem kcells {w W : World} {a0 a1 a2 a3 a4 a5 : Value} {T : Nat} (hW : w.alloc (.cells #[a0, a1, a2, a3, a4, a5] T) = W) : W.cell? ⟨w.heap.size, 0, none⟩ = some a0 ∧ W.cell? ⟨w.heap.size, 1, none⟩ = some a1 ∧ W.cell? ⟨w.heap.size, 2, none⟩ = some a2 ∧ W.cell? ⟨w.heap.size, 3, none⟩ = some a3 ∧ W.cell? ⟨w.heap.size, 4, none⟩ = some a4 ∧ W.cell? ⟨w.heap.size, 5, none⟩ = some a5 := by
  subst hW
  have h := heap_alloc_new w (.cells #[a0, a1, a2, a3, a4, a5] T)
  simp only [World.cell?, h]
  exact ⟨rfl, rfl, rfl, rfl, rfl, rfl⟩
set_option maxRecDepth 100000 in
set_option maxHeartbeats 16000000 in
theorem lex_any {w : World} {ad : Option Addr} {n cap : Nat} {c : Nat → Int} (hC : Ch c n) (h : BC w ad n c) (hn : n ≤ 65536) (hcap : n ≤ cap) (hbig : cap ≤ 9223372036854775807) {f : Int} (hf : 4 ≤ f ∧ f ≤ 8) :
    Calls Try.prog 12 #[.int .u8 f, .slice ad n cap] w (LxP (fam f) c n w) := by
  have cf := fam_any w hf
  have hgd := gd_fam f
  obtain ⟨F, hF⟩ : ∃ F, fam f = F := ⟨_, rfl⟩
  rw [hF] at cf hgd ⊢
  clear hF hf
  have HH : Hid (Ch c n ∧ BC w ad n c ∧ GdF F) := ⟨hC, h, hgd⟩
  obtain ⟨Q, hQ⟩ : ∃ Q, LxP F c n w = Q := ⟨_, rfl⟩
  rw [hQ]
  have HQ : Hid (LxP F c n w = Q) := hQ
  clear hC h hQ hgd
  go_enter Try.func12, Try.ntmps12
  go_wp2_with fail
  refine cf.mono ?_
  rintro ev w1 ⟨gq, rfl, hg1, hg2, hqr, hb1⟩
  unfold fv
  obtain ⟨Ml, hMl⟩ : ∃ x, strOfNums F.line = x := ⟨_, rfl⟩
  obtain ⟨Mo, hMo⟩ : ∃ x, strOfNums F.opn = x := ⟨_, rfl⟩
  obtain ⟨Ms, hMs⟩ : ∃ x, strOfNums F.sht = x := ⟨_, rfl⟩
  obtain ⟨ap, hap⟩ : ∃ x, F.apart = x := ⟨_, rfl⟩
  obtain ⟨ns, hns⟩ : ∃ x, F.nst = x := ⟨_, rfl⟩
  obtain ⟨ql, hql⟩ : ∃ x, F.qs.length = x := ⟨_, rfl⟩
  rw [hMl, hMo, hMs, hap, hns, hql]
  have HBX : Hid (∀ T b off i, boxC F gq T b off n cap i = #[.string Ml, .bool ap, .string Mo, .string Ms, .bool ns, .slice (some ⟨gq, 0, none⟩) ql ql, .pointer (some ⟨T, 0, none⟩), .slice (some ⟨b, off, none⟩) n cap, .int .i64 i]) := fun T b off i => by
    unfold boxC
    rw [hMl, hMo, hMs, hap, hns, hql]
  clear hMl hMo hMs hap hns hql
  obtain ⟨V, hV⟩ : ∃ V, w1.alloc (.cells #[.string Ml, .bool ap, .string Mo, .string Ms, .bool ns, .slice (some ⟨gq, 0, none⟩) ql ql] 53) = V := ⟨_, rfl⟩
  have hbV : Below w1.heap.size w1 V := by rw [← hV]; exact below_alloc w1 _
  obtain ⟨KB, hKB⟩ : ∃ KB, w1.heap.size = KB := ⟨_, rfl⟩
  have hk := kcells hV
  rw [hKB] at hk
  have HV : Hid (Below w.heap.size w V ∧ QR V gq F.qs ∧ gq < V.heap.size ∧ w.heap.size ≤ gq) := ⟨hb1.trans (hbV.mono hb1.size), hqr.stay hbV, Nat.lt_of_lt_of_le hg2 hbV.size, hg1⟩
  have cn := new_ok n hn V
  have HK : Hid (V.cell? ⟨KB, 0, none⟩ = some (.string Ml) ∧ V.cell? ⟨KB, 1, none⟩ = some (.bool ap) ∧ V.cell? ⟨KB, 2, none⟩ = some (.string Mo) ∧ V.cell? ⟨KB, 3, none⟩ = some (.string Ms) ∧ V.cell? ⟨KB, 4, none⟩ = some (.bool ns) ∧ V.cell? ⟨KB, 5, none⟩ = some (.slice (some ⟨gq, 0, none⟩) ql ql)) := hk
  clear hbV hk hb1 hqr hg1 hg2 cf
  go_wp2_with fail
  refine cn.mono ?_
  rintro ev w2 ⟨T, g, rfl, hT, hg, hS, hU⟩
  obtain ⟨y0, y1, y2, y3, y4, y5⟩ : w2.cell? ⟨KB, 0, none⟩ = some (.string Ml) ∧ w2.cell? ⟨KB, 1, none⟩ = some (.bool ap) ∧ w2.cell? ⟨KB, 2, none⟩ = some (.string Mo) ∧ w2.cell? ⟨KB, 3, none⟩ = some (.string Ms) ∧ w2.cell? ⟨KB, 4, none⟩ = some (.bool ns) ∧ w2.cell? ⟨KB, 5, none⟩ = some (.slice (some ⟨gq, 0, none⟩) ql ql) := by
    obtain ⟨a0, a1, a2, a3, a4, a5⟩ := HK.out
    exact ⟨cell_stay a0 hU.1, cell_stay a1 hU.1, cell_stay a2 hU.1, cell_stay a3 hU.1, cell_stay a4 hU.1, cell_stay a5 hU.1⟩
  have hw2 : Below w.heap.size w w2 := HV.out.1.trans (hU.1.mono HV.out.1.size)
  have HW2 : Hid (Below w.heap.size w w2 ∧ QR w2 gq F.qs ∧ gq < w2.heap.size ∧ w.heap.size ≤ T ∧ w.heap.size ≤ g ∧ Sh w2 T g n (fun _ => 1) ∧ V.heap.size ≤ T ∧ V.heap.size ≤ g) := ⟨hw2, HV.out.2.1.stay hU.1, Nat.lt_of_lt_of_le HV.out.2.2.1 hU.2, Nat.le_trans HV.out.1.size hT, Nat.le_trans HV.out.1.size hg, hS, hT, hg⟩
  clear cn hT hg hS hU hV hw2
  obtain ⟨W, hW⟩ : ∃ W, w2.alloc (.cells #[.string Ml, .bool ap, .string Mo, .string Ms, .bool ns, .slice (some ⟨gq, 0, none⟩) ql ql, .pointer (some ⟨T, 0, none⟩), .slice ad n cap, .int .i64 0] 59) = W := ⟨_, rfl⟩
  have hBW : Below w2.heap.size w2 W := by rw [← hW]; exact below_alloc w2 _
  have hbx : W.heap[w2.heap.size]? = some (.cells #[.string Ml, .bool ap, .string Mo, .string Ms, .bool ns, .slice (some ⟨gq, 0, none⟩) ql ql, .pointer (some ⟨T, 0, none⟩), .slice ad n cap, .int .i64 0] 59 (0, 0)) := by rw [← hW]; exact heap_alloc_new _ _
  obtain ⟨B, hB⟩ : ∃ B, w2.heap.size = B := ⟨_, rfl⟩
  rw [hB] at hbx
  have HB : Hid (w2.heap.size = B) := hB
  have HWW : Hid (Up w.heap.size w W) := ⟨HW2.out.1.trans (hBW.mono HW2.out.1.size), Nat.le_trans HW2.out.1.size hBW.size⟩
  have HSW : Hid (Sh W T g n (fun _ => 1)) := HW2.out.2.2.2.2.2.1.stay hBW
  have HQW : Hid (QR W gq F.qs ∧ gq < W.heap.size) := ⟨HW2.out.2.1.stay hBW, Nat.lt_of_lt_of_le HW2.out.2.2.1 hBW.size⟩
  by_cases h0 : n = 0
  · subst h0
    have x7 : W.cell? ⟨B, 7, none⟩ = some (.slice ad 0 cap) := by simp [World.cell?, hbx]
    have x8 : W.cell? ⟨B, 8, none⟩ = some (.int .i64 0) := by simp [World.cell?, hbx]
    clear hbx hBW
    go_wp2_with fail
    go_loopg [43] 0 (fun q v wr => q = 0 ∧ wr = W)
    case atStart => exact ⟨rfl, rfl⟩
    case round =>
      obtain ⟨_, rfl⟩ := hrel
      have HF : Hid (∀ k, Sh (wr.drewN k) T g 0 (lxA F c 0) ∧ Up w.heap.size w (wr.drewN k)) := fun k => ⟨(HSW.out.stay (below_drewN (Below.refl _ _) k)).congr fun i hi => by omega, HWW.out.drewN' k⟩
      go_wp2_with fail
      go_quiet (fail)
      go_wp2
      rw [← HQ.out]
      exact ⟨T, g, rfl, HW2.out.2.2.2.1, HW2.out.2.2.2.2.1, (HF.out _).1, (HF.out _).2⟩
  · obtain ⟨b, off, rfl, hc0⟩ := HH.out.2.1.at (show 0 < n by omega)
    have hb := World.block_lt_of_cell? w _ (hc0 0 (by omega))
    dsimp only at hb
    have hTl := HW2.out.2.2.2.2.2.1.lt
    have hgl := HW2.out.2.2.2.2.2.1.row.lt
    have hs1 := HW2.out.2.2
    have hs2 := HV.out.2.2
    have hs : Sta w.heap.size b n cap B T g gq F c := ⟨HH.out.1, hn, hcap, hbig, HH.out.2.2, by omega, by omega, by omega, by omega, by omega, by omega, by omega, by omega⟩
    have hE : En w w.heap.size W b off n cap B T g gq F c (fun _ => 1) 0 := ⟨HH.out.2.1.stay HWW.out.1, by rw [HBX.out]; exact hbx, HSW.out, HQW.out.1, HWW.out, HQW.out.2⟩
    have HS : Hid (Sta w.heap.size b n cap B T g gq F c) := hs
    obtain ⟨A, hA⟩ : ∃ A, pt (fun _ => (1 : Int)) (lx F c n 0) 0 n = A := ⟨_, rfl⟩
    have HA : Hid (pt (fun _ => (1 : Int)) (lx F c n 0) 0 n = A ∧ ∀ i, i < n → A i = lxA F c n i) := ⟨hA, fun i hi => by
      rw [← hA]
      unfold pt lxA
      rw [if_pos ⟨Nat.zero_le _, hi⟩]⟩
    have HE : Hid (En w w.heap.size W b off n cap B T g gq F c (fun _ => 1) 0) := hE
    clear hs hE hs1 hs2 hTl hgl hb hc0 hA hbx hBW h0
    go_wp2_with fail
    go_loopg [43] n (fun q v wr => ∃ i, q = n - i ∧ i ≤ n ∧ Hid (∃ L, En w w.heap.size wr b off n cap B T g gq F c L i ∧ pt L (lx F c n i) i n = A))
    case atStart => exact ⟨0, rfl, Nat.zero_le _, ⟨_, HE.out, HA.out.1⟩⟩
    case round =>
      obtain ⟨i, hq, hi, HX⟩ := hrel
      obtain ⟨L, hE', hA'⟩ := HX.out
      have HE2 : Hid (En w w.heap.size wr b off n cap B T g gq F c L i) := hE'
      obtain ⟨x0, x1, x2, x3, x4, x5, x6, x7, x8⟩ := hE'.cells
      clear x0 x1 x2 x3 x4 x5 x6 HX hE' hW y0 y1 y2 y3 y4 y5
      by_cases hlt : i < n
      · have z1 : (i : Int) < (n : Int) := by omega
        rw [pt_lx HS.out.gd HS.out.ch hlt] at hA'
        have hle := nx_le HS.out.gd HS.out.ch hlt
        have HN : Hid (pt (pt L (nx F c n i).2 i (nx F c n i).1) (lx F c n (nx F c n i).1) (nx F c n i).1 n = A) := hA'
        have CT : Hid (∀ k, Calls Try.prog 20 #[.pointer (some ⟨B, 0, none⟩)] (wr.drewN k) (TP w w.heap.size b off n cap B T g gq F c L i)) := fun k => thing_any HS.out (HE2.out.stay (below_drewN (Below.refl _ _) k)) hlt
        clear hA'
        go_wp2_with fail
        go_quiet (fail)
        go_wp2_with fail
        refine (CT.out _).mono ?_
        rintro ev w4 ⟨rfl, h4⟩
        have HE4 : Hid (En w w.heap.size w4 b off n cap B T g gq F c (pt L (nx F c n i).2 i (nx F c n i).1) (nx F c n i).1) := h4
        clear h4 x7 x8
        go_wp2
        go_roundg (n - (nx F c n i).1)
        case measure => omega
        case rel => exact ⟨_, rfl, hle.2, ⟨_, HE4.out, HN.out⟩⟩
      · have hin : i = n := by omega
        subst hin
        have z1 : ¬ (i : Int) < (i : Int) := by omega
        rw [pt_none _ _ (Nat.le_refl _)] at hA'
        have HF : Hid (∀ k, Sh (wr.drewN k) T g i (lxA F c i) ∧ Up w.heap.size w (wr.drewN k)) := fun k => ⟨(HE2.out.sh.stay (below_drewN (Below.refl _ _) k)).congr fun j hj => by rw [hA']; exact HA.out.2 j hj, HE2.out.up.drewN' k⟩
        clear hA' hlt
        go_wp2_with fail
        go_quiet (fail)
        go_wp2
        rw [← HQ.out]
        exact ⟨T, g, rfl, HW2.out.2.2.2.1, HW2.out.2.2.2.2.1, (HF.out _).1, (HF.out _).2⟩
end Go.Proofs.Ytgebmmbnpdhooaa
