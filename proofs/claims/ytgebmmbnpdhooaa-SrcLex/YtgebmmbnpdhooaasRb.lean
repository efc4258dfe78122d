/- The reference: remarks between; strings. -/
import Derived.Test.YtgebmmbnpdhooaasRa
import Derived.Test.YtgebmmbnpdhooaasStrB
namespace Go.Proofs.Ytgebmmbnpdhooaa
set_option linter.unusedVariables false
open Go.RowKit Go.ChangeShapes
theorem setN_one (L : Nat → Int) (l : Int) (k e : Nat) (h : k + 1 = e) : setN L k l = setL L l (k : Int) (e : Int) := by
  funext j
  unfold setN setL
  by_cases h1 : j = k
  · rw [if_pos h1, if_pos (by omega)]
  · rw [if_neg h1, if_neg (by omega)]
/-- What is left of a remark, in the reference. -/
def RB (w : World) (g n : Nat) (F : Fm) (c A : Nat → Int) (E d i : Nat) (wr : World) : Prop := ∃ L, LR wr g n L ∧ w.grownBy wr (some g) ∧ wr.heap.size = w.heap.size ∧ pt L (rm F c n d i).2 i (rm F c n d i).1 = A ∧ (rm F c n d i).1 = E
def RP (w : World) (g n : Nat) (A : Nat → Int) (E : Nat) (ev : Ending) (w' : World) : Prop := ev = .returned (.int .i64 (E : Nat)) ∧ LR w' g n A ∧ w.grownBy w' (some g) ∧ w'.heap.size = w.heap.size
theorem grown_step {w w1 w2 : World} {g : Nat} (h1 : w.grownBy w1 (some g)) (h2 : w1.grownBy w2 (some g)) : w.grownBy w2 (some g) := grown_trans h1 h2
set_option maxRecDepth 100000 in
set_option maxHeartbeats 16000000 in
theorem rblock_any {w : World} {g n : Nat} {L : Nat → Int} (hR : LR w g n L) {s : ByteArray} {c : Nat → Int} (hs : SC s c n) (hn : n ≤ 65536) {F : Fm} (hF : GdF F) (ho : F.opn = [47, 42]) (hsh : F.sht = [42, 47]) {ns : Bool} (hns : F.nst = ns) {i a : Nat} (ha : i + 2 = a) (han : a ≤ n) :
    Calls Try.prog 25 #[.slice (some ⟨g, 0, none⟩) n n, .string s, .int .i64 i, .bool ns] w (RP w g n (pt (setL L 3 (i : Int) (a : Int)) (rm F c n 1 a).2 a (rm F c n 1 a).1) (rm F c n 1 a).1) := by
  have c1 := rput_any hR hn 3 i a han
  have hsz := hs.1
  have hC := hs.2.1
  have ho1 : 1 ≤ F.opn.length := by rw [ho]; decide
  have hs1 : 1 ≤ F.sht.length := by rw [hsh]; decide
  have HM : Hid (1 ≤ F.opn.length ∧ 1 ≤ F.sht.length ∧ F.opn.length = 2 ∧ F.sht.length = 2) := ⟨ho1, hs1, by rw [ho]; rfl, by rw [hsh]; rfl⟩
  have HR : Hid (∀ d i, i ≤ n → i ≤ (rm F c n d i).1 ∧ (rm F c n d i).1 ≤ n) := fun d i hi => rm_le hC hF ho1 hs1 hi
  have HOL : Hid (∀ i, oc F.sht c i = true → i + 2 ≤ n) := fun i hi => by have := oc_len hC.2 F.sht hF.sb i (by rw [hsh]; decide) hi; rw [hsh] at this; exact this
  have HOO : Hid (∀ i, oc F.opn c i = true → i + 2 ≤ n) := fun i hi => by have := oc_len hC.2 F.opn hF.ob i (by rw [ho]; decide) hi; rw [ho] at this; exact this
  have CS : Hid (∀ (wr : World) (i' : Nat), i' ≤ n → Calls Try.prog 24 #[.string s, .int .i64 i', .string ⟨#[42, 47]⟩] wr fun ev w' => ev = .returned (.bool (oc F.sht c i')) ∧ w' = wr) := fun wr i' hi' => by
    rw [hsh]
    exact rat_any hs (by omega) i' (by omega) _ [42, 47] (byt_lit _ rfl) (by kernel_rfl) (by decide) (by decide) wr
  have CO : Hid (∀ (wr : World) (i' : Nat), i' ≤ n → Calls Try.prog 24 #[.string s, .int .i64 i', .string ⟨#[47, 42]⟩] wr fun ev w' => ev = .returned (.bool (oc F.opn c i')) ∧ w' = wr) := fun wr i' hi' => by
    rw [ho]
    exact rat_any hs (by omega) i' (by omega) _ [47, 42] (byt_lit _ rfl) (by kernel_rfl) (by decide) (by decide) wr
  obtain ⟨L1, hL1⟩ : ∃ L1, setL L 3 (i : Int) (a : Int) = L1 := ⟨_, rfl⟩
  rw [hL1] at c1 ⊢
  obtain ⟨A, hA⟩ : ∃ A, pt L1 (rm F c n 1 a).2 a (rm F c n 1 a).1 = A := ⟨_, rfl⟩
  obtain ⟨E, hE⟩ : ∃ E, (rm F c n 1 a).1 = E := ⟨_, rfl⟩
  have HAE : Hid (pt L1 (rm F c n 1 a).2 a (rm F c n 1 a).1 = A ∧ (rm F c n 1 a).1 = E) := ⟨hA, hE⟩
  rw [hA, hE]
  obtain ⟨Q, hQ⟩ : ∃ Q, RP w g n A E = Q := ⟨_, rfl⟩
  rw [hQ]
  have HQ : Hid (RP w g n A E = Q) := hQ
  have HNS : Hid (F.nst = ns) := hns
  have hia : IntKind.i64.wrap ((i : Int) + 2) = (a : Int) := by rw [Go.IntWalk.i64_in _ (by omega)]; omega
  clear hR hs hC hA hE hQ ho hsh hns ho1 hs1 hF hL1 ha
  go_enter Try.func25, Try.ntmps25
  go_wp2_with fail
  refine c1.mono ?_
  rintro ev w1 ⟨rfl, h1, h2, h3⟩
  have HE1 : Hid (LR w1 g n L1 ∧ w.grownBy w1 (some g) ∧ w1.heap.size = w.heap.size) := ⟨h1, h2, h3⟩
  clear c1 h1 h2 h3
  go_wp2_with fail
  clear hia
  go_loopg [2, 9] (n - a) (fun q iv dv wr => ∃ d i' : Nat, q = n - i' ∧ i' ≤ n ∧ d ≤ 32 ∧ iv = .int .i64 i' ∧ dv = .int .i64 d ∧ Hid (RB w g n F c A E d i' wr))
  case atStart => exact ⟨1, a, rfl, han, by omega, by go_num, by go_num, ⟨L1, HE1.out.1, HE1.out.2.1, HE1.out.2.2, HAE.out⟩⟩
  case round =>
    obtain ⟨d, i', hq, hi', hd, rfl, rfl, HX⟩ := hrel
    obtain ⟨L', hE', hg', hz', hA', hEE⟩ := HX.out
    have HB : Hid (LR wr g n L' ∧ w.grownBy wr (some g) ∧ wr.heap.size = w.heap.size) := ⟨hE', hg', hz'⟩
    clear HX HE1 HAE hE' hg' hz'
    by_cases hz : d = 0 ∨ n ≤ i'
    · rw [rm_end hz] at hA' hEE
      dsimp only at hA' hEE
      rw [pt_none _ _ (Nat.le_refl _)] at hA'
      have HF : Hid (RP w g n A E (.returned (.int .i64 (i' : Nat))) wr) := by
        show RP w g n A E _ wr
        rw [← hA', ← hEE]
        exact ⟨rfl, HB.out⟩
      clear hA' hEE
      by_cases hin : i' < n
      · have z2 : (i' : Int) < (n : Int) := by omega
        obtain rfl : d = 0 := by omega
        clear hz
        go_wp2
        rw [← HQ.out]
        exact HF.out
      · have z2 : ¬ (i' : Int) < (n : Int) := by omega
        clear hz
        go_wp2
        rw [← HQ.out]
        exact HF.out
    · have hd0 : d ≠ 0 := fun e => hz (Or.inl e)
      have hlt : i' < n := by omega
      have z1 : (0 : Int) < (d : Int) := by omega
      have z2 : (i' : Int) < (n : Int) := by omega
      have z3 : (0 : Int) ≤ (i' : Int) := by omega
      clear hz
      have cs0 := CS.out wr i' hi'
      cases hc : oc F.sht c i' with
      | true =>
        rw [hc] at cs0
        rw [rm_sht HM.out.1 HM.out.2.1 hd0 hlt hc] at hA' hEE
        have hol := HOL.out i' hc
        obtain ⟨e, he⟩ : ∃ e, i' + 2 = e := ⟨_, rfl⟩
        rw [HM.out.2.2.2, he] at hA' hEE
        have hr := HR.out (d - 1) e (by omega)
        rw [pt_ahd _ _ _ (by omega) hr.1] at hA'
        have HN : Hid (pt (setL L' 3 (i' : Int) (e : Int)) (rm F c n (d - 1) e).2 e (rm F c n (d - 1) e).1 = A ∧ (rm F c n (d - 1) e).1 = E) := ⟨hA', hEE⟩
        have HEM : Hid (i' + 2 = e ∧ e ≤ n) := ⟨he, by omega⟩
        obtain ⟨d1, hd1⟩ : ∃ d1, d - 1 = d1 := ⟨_, rfl⟩
        rw [hd1] at HN
        have zd : IntKind.i64.wrap ((d : Int) - 1) = (d1 : Int) := by rw [Go.IntWalk.i64_in _ (by omega)]; omega
        have ze : IntKind.i64.wrap ((i' : Int) + 2) = (e : Int) := by rw [Go.IntWalk.i64_in _ (by omega)]; omega
        have hd2 : d1 ≤ 32 := by omega
        have c4 := rput_any HB.out.1 hn 3 i' e HEM.out.2
        clear hA' hEE hc hol he hr hd1
        have hd0 := Nat.pos_of_ne_zero hd0
        go_wp2_with fail
        refine cs0.mono ?_
        rintro ev w2 ⟨rfl, hw⟩
        subst w2
        go_wp2_with fail
        refine c4.mono ?_
        rintro ev w3 ⟨rfl, h3, h4, h5⟩
        have HE3 : Hid (LR w3 g n (setL L' 3 (i' : Int) (e : Int)) ∧ w.grownBy w3 (some g) ∧ w3.heap.size = w.heap.size) := ⟨h3, grown_step HB.out.2.1 h4, h5.trans HB.out.2.2⟩
        clear c4 h3 h4 h5 cs0
        go_wp2
        go_roundg (n - e)
        case measure => have := HEM.out; omega
        case rel => exact ⟨d1, e, rfl, HEM.out.2, hd2, rfl, rfl, ⟨_, HE3.out.1, HE3.out.2.1, HE3.out.2.2, HN.out⟩⟩
      | false =>
        rw [hc] at cs0
        cases hnn : (!F.nst || !oc F.opn c i') with
        | true =>
          rw [rm_pro hd0 hlt hc hnn] at hA' hEE
          obtain ⟨e, he⟩ : ∃ e, i' + 1 = e := ⟨_, rfl⟩
          rw [he] at hA' hEE
          have hr := HR.out d e (by omega)
          rw [pt_ahd _ _ _ (by omega) hr.1] at hA'
          have HN : Hid (pt (setL L' 1 (i' : Int) (e : Int)) (rm F c n d e).2 e (rm F c n d e).1 = A ∧ (rm F c n d e).1 = E) := ⟨hA', hEE⟩
          have HEM : Hid (i' + 1 = e ∧ e ≤ n) := ⟨he, by omega⟩
          have HNN : Hid ((!ns || !oc F.opn c i') = true) := by rw [← HNS.out]; exact hnn
          have ze : IntKind.i64.wrap ((i' : Int) + 1) = (e : Int) := by rw [Go.IntWalk.i64_in _ (by omega)]; omega
          have hcell := HB.out.1.cell hlt
          have hfz := HB.out.1.frozen i'
          have HE3 : Hid (LR (wr.setCell ⟨g, i', none⟩ (.int .u8 1)) g n (setL L' 1 (i' : Int) (e : Int)) ∧ w.grownBy (wr.setCell ⟨g, i', none⟩ (.int .u8 1)) (some g) ∧ (wr.setCell ⟨g, i', none⟩ (.int .u8 1)).heap.size = w.heap.size) := by
            refine ⟨?_, grown_set HB.out.2.1 i' _, ?_⟩
            · rw [← setN_one L' 1 i' e he]
              exact HB.out.1.set i' 1
            · rw [← HB.out.2.2]
              simp
          clear hA' hEE hc he hr hnn
          have hd0 := Nat.pos_of_ne_zero hd0
          cases ns with
          | false =>
            go_wp2_with fail
            refine cs0.mono ?_
            rintro ev w2 ⟨rfl, hw⟩
            subst w2
            clear cs0
            go_wp2
            go_roundg (n - e)
            case measure => have := HEM.out; omega
            case rel => exact ⟨d, e, rfl, HEM.out.2, hd, rfl, rfl, ⟨_, HE3.out.1, HE3.out.2.1, HE3.out.2.2, HN.out⟩⟩
          | true =>
            have h1 := HNN.out
            rw [Bool.not_true, Bool.false_or] at h1
            have h2 : oc F.opn c i' = false := by revert h1; cases oc F.opn c i' <;> simp
            have co := CO.out wr i' hi'
            rw [h2] at co
            clear h1 h2
            go_wp2_with fail
            refine cs0.mono ?_
            rintro ev w2 ⟨rfl, hw⟩
            subst w2
            clear cs0
            go_wp2_with fail
            refine co.mono ?_
            rintro ev w2 ⟨rfl, hw⟩
            subst w2
            clear co
            go_wp2
            go_roundg (n - e)
            case measure => have := HEM.out; omega
            case rel => exact ⟨d, e, rfl, HEM.out.2, hd, rfl, rfl, ⟨_, HE3.out.1, HE3.out.2.1, HE3.out.2.2, HN.out⟩⟩
        | false =>
          have hns2 : ns = true := by
            rw [HNS.out] at hnn
            revert hnn
            cases ns <;> simp
          have hop : oc F.opn c i' = true := by
            revert hnn
            cases oc F.opn c i' <;> simp
          subst hns2
          have hoo := HOO.out i' hop
          have co := CO.out wr i' hi'
          rw [hop] at co
          by_cases hd32 : d = 32
          · subst hd32
            rw [rm_opq hlt hc hnn] at hA' hEE
            dsimp only at hA' hEE
            rw [pt_one] at hA'
            have c5 := rput_any HB.out.1 hn 6 i' n (Nat.le_refl _)
            rw [hA'] at c5
            have HEE : Hid (n = E) := hEE
            clear hA' hEE hc hnn hoo hop
            go_wp2_with fail
            refine cs0.mono ?_
            rintro ev w2 ⟨rfl, hw⟩
            subst w2
            clear cs0
            go_wp2_with fail
            refine co.mono ?_
            rintro ev w2 ⟨rfl, hw⟩
            subst w2
            clear co
            go_wp2_with fail
            refine c5.mono ?_
            rintro ev w5 ⟨rfl, h3, h4, h5⟩
            have HF : Hid (RP w g n A E (.returned (.int .i64 (n : Nat))) w5) := by
              show RP w g n A E _ w5
              rw [← HEE.out]
              exact ⟨rfl, h3, grown_step HB.out.2.1 h4, h5.trans HB.out.2.2⟩
            clear c5 h3 h4 h5
            go_wp2
            rw [← HQ.out]
            exact HF.out
          · rw [rm_opn HM.out.1 HM.out.2.1 hd0 hd32 hlt hc hnn] at hA' hEE
            obtain ⟨e, he⟩ : ∃ e, i' + 2 = e := ⟨_, rfl⟩
            rw [HM.out.2.2.1, he] at hA' hEE
            have hr := HR.out (d + 1) e (by omega)
            rw [pt_ahd _ _ _ (by omega) hr.1] at hA'
            have HN : Hid (pt (setL L' 3 (i' : Int) (e : Int)) (rm F c n (d + 1) e).2 e (rm F c n (d + 1) e).1 = A ∧ (rm F c n (d + 1) e).1 = E) := ⟨hA', hEE⟩
            have HEM : Hid (i' + 2 = e ∧ e ≤ n) := ⟨he, by omega⟩
            obtain ⟨d1, hd1⟩ : ∃ d1, d + 1 = d1 := ⟨_, rfl⟩
            rw [hd1] at HN
            have zd : IntKind.i64.wrap ((d : Int) + 1) = (d1 : Int) := by rw [Go.IntWalk.i64_in _ (by omega)]; omega
            have ze : IntKind.i64.wrap ((i' : Int) + 2) = (e : Int) := by rw [Go.IntWalk.i64_in _ (by omega)]; omega
            have z32 : ((d : Int) == 32) = false := by simp; omega
            have hd2 : d1 ≤ 32 := by omega
            have c5 := rput_any HB.out.1 hn 3 i' e HEM.out.2
            clear hA' hEE hc he hr hd1 hnn hoo hd32 hop
            have hd0 := Nat.pos_of_ne_zero hd0
            go_wp2_with fail
            refine cs0.mono ?_
            rintro ev w2 ⟨rfl, hw⟩
            subst w2
            clear cs0
            go_wp2_with fail
            refine co.mono ?_
            rintro ev w2 ⟨rfl, hw⟩
            subst w2
            clear co
            go_wp2_with fail
            refine c5.mono ?_
            rintro ev w5 ⟨rfl, h3, h4, h5⟩
            have HE5 : Hid (LR w5 g n (setL L' 3 (i' : Int) (e : Int)) ∧ w.grownBy w5 (some g) ∧ w5.heap.size = w.heap.size) := ⟨h3, grown_step HB.out.2.1 h4, h5.trans HB.out.2.2⟩
            clear c5 h3 h4 h5
            go_wp2
            go_roundg (n - e)
            case measure => have := HEM.out; omega
            case rel => exact ⟨d1, e, rfl, HEM.out.2, hd2, rfl, rfl, ⟨_, HE5.out.1, HE5.out.2.1, HE5.out.2.2, HN.out⟩⟩
end Go.Proofs.Ytgebmmbnpdhooaa
