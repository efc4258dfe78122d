/- tex: Lex. -/
import Derived.Test.YtlgfmhhhecaddaaDoorxBsl
import Derived.Test.YtlgfmhhhecaddaaDoorxBeg
import Derived.Test.YtlgfmhhhecaddaaDoorxVrb
import Derived.Test.YtlgfmhhhecaddaaDoorxMat
import Derived.Test.YtlgfmhhhecaddaaDoorxCmd
namespace Go.Proofs.YtlgfmhhhecaddaaDoor
set_option linter.unusedVariables false
open Go.RowKit Go.ChangeShapes
theorem bk_cmd {c : Nat → Int} {n i : Nat} (h92 : c i = 92) (hl : ltB (c (i + 1)) = true) (L : Nat → Int) : nxE c n i = cmE c n i ∧ nxL L c n i = cmL L c n i := by
  have h40 : c (i + 1) ≠ 40 := fun e => by rw [e] at hl; exact absurd hl (by decide)
  have h91 : c (i + 1) ≠ 91 := fun e => by rw [e] at hl; exact absurd hl (by decide)
  unfold nxE nxL
  rw [h92, if_neg (by decide), if_neg (by decide), if_pos rfl, if_neg (by decide), if_neg (by decide), if_pos rfl]
  unfold bkE bkL
  rw [if_neg h40, if_neg h91, if_pos hl, if_neg h40, if_neg h91, if_pos hl]
  exact ⟨rfl, rfl⟩
theorem nx_bsl {c : Nat → Int} {n i : Nat} (h92 : c i = 92) (L : Nat → Int) : nxE c n i = bkE c n i ∧ nxL L c n i = bkL L c n i := by
  unfold nxE nxL
  rw [h92, if_neg (by decide), if_neg (by decide), if_pos rfl, if_neg (by decide), if_neg (by decide), if_pos rfl]
  exact ⟨rfl, rfl⟩
/-- What is left of a file, by the step that comes next. -/
def Lf (c : Nat → Int) (n : Nat) (A : Nat → Int) (B : Nat) (q : Nat) (v : Value) (i : Nat) (L : Nat → Int) : Prop :=
  (v = .nilFunc ∧ q = 0 ∧ i = n ∧ L = A)
  ∨ (v = .func (.func 19) #[.pointer (some ⟨B, 0, none⟩)] #[] ∧ q = 4 * (n - i) + 4 ∧ lx c n i L = A)
  ∨ (v = .func (.func 24) #[.pointer (some ⟨B, 0, none⟩)] #[] ∧ q = 4 * (n - i) + 3 ∧ i < n ∧ c i = 37 ∧ lx c n i L = A)
  ∨ (v = .func (.func 25) #[.pointer (some ⟨B, 0, none⟩)] #[] ∧ q = 4 * (n - i) + 3 ∧ i < n ∧ c i = 36 ∧ lx c n i L = A)
  ∨ (v = .func (.func 26) #[.pointer (some ⟨B, 0, none⟩)] #[] ∧ q = 4 * (n - i) + 3 ∧ i < n ∧ c i = 92 ∧ lx c n i L = A)
  ∨ (v = .func (.func 42) #[.pointer (some ⟨B, 0, none⟩)] #[] ∧ q = 4 * (n - i) + 2 ∧ i < n ∧ c i = 92 ∧ ltB (c (i + 1)) = true ∧ lx c n i L = A)
  ∨ (v = .func (.func 50) #[.pointer (some ⟨B, 0, none⟩)] #[] ∧ q = 4 * (n - i) + 5 ∧ lx c n (vbE c n i) (vbL L c n i) = A)
  ∨ (v = .func (.func 51) #[.pointer (some ⟨B, 0, none⟩)] #[] ∧ q = 4 * (n - i) + 5 ∧ lx c n (bgE c n i) (bgL L c n i) = A)
  ∨ (v = .func (.func 52) #[.pointer (some ⟨B, 0, none⟩)] #[] ∧ q = 4 * (n - i) + 5 ∧ lx c n (gps c n i) (gpL L c n i) = A)
theorem thing_zero {w : World} {ad : Option Addr} {cap B : Nat} {T : Addr} (h : w.heap[B]? = some (.cells #[.pointer (some T), .slice ad 0 cap, .int .i64 0] 48 (0, 0))) :
    Calls Tryd.prog 19 #[.pointer (some ⟨B, 0, none⟩)] w fun ev w' => ev = .returned .nilFunc ∧ Below w.heap.size w w' := by
  have x1 : w.cell? ⟨B, 1, none⟩ = some (.slice ad 0 cap) := by simp [World.cell?, h]
  have x2 : w.cell? ⟨B, 2, none⟩ = some (.int .i64 0) := by simp [World.cell?, h]
  have HB : Hid (∀ q, Below w.heap.size w (w.drewN q)) := fun q => below_drewN (Below.refl _ _) q
  clear h
  go_enter Tryd.func19, Tryd.ntmps19
  go_wp2_with fail
  go_quiet (fail)
  go_wp2
  go_ret
  exact ⟨rfl, HB.out _⟩
theorem neq_nil (w : World) : (binOp .neq 50 .nilFunc .nilFunc).run Tryd.prog w = .ok (.bool false) w := by kernel_rfl
theorem neq_fun (f B : Nat) (w : World) : (binOp .neq 50 (.func (.func f) #[.pointer (some ⟨B, 0, none⟩)] #[]) .nilFunc).run Tryd.prog w = .ok (.bool true) w := by kernel_rfl
/-- What Lex answers. -/
def LxP (c : Nat → Int) (n : Nat) (w : World) (ev : Ending) (w' : World) : Prop := ∃ T g, ev = .returned (.tuple #[.pointer (some ⟨T, 0, none⟩), .int .i64 0]) ∧ w.heap.size ≤ T ∧ w.heap.size ≤ g ∧ Sh w' T g n (lxA c n) ∧ Up w.heap.size w w'
set_option maxRecDepth 100000 in
set_option maxHeartbeats 16000000 in
theorem lex_any {w : World} {ad : Option Addr} {n cap : Nat} {c : Nat → Int} (hC : Ch c n) (h : BC w ad n c) (hn : n ≤ 65536) (hcap : n ≤ cap) (hbig : cap ≤ 9223372036854775807) (hG : GlX w) :
    Calls Tryd.prog 12 #[.slice ad n cap] w (LxP c n w) := by
  have cn := new_ok n hn w
  have HH : Hid (Ch c n ∧ BC w ad n c ∧ GlX w) := ⟨hC, h, hG⟩
  obtain ⟨Q, hQ⟩ : ∃ Q, LxP c n w = Q := ⟨_, rfl⟩
  rw [hQ]
  have HQ : Hid (LxP c n w = Q) := hQ
  clear hC h hG hQ
  go_enter Tryd.func12, Tryd.ntmps12
  go_wp2_with fail
  refine cn.mono ?_
  rintro ev w1 ⟨T, g, rfl, hT, hg, hS, hU⟩
  have HS1 : Hid (Sh w1 T g n (fun _ => 1) ∧ Up w.heap.size w w1 ∧ w.heap.size ≤ T ∧ w.heap.size ≤ g) := ⟨hS, hU, hT, hg⟩
  clear cn hS hU hT hg
  obtain ⟨W, hW⟩ : ∃ W, w1.alloc (.cells #[.pointer (some ⟨T, 0, none⟩), .slice ad n cap, .int .i64 0] 48) = W := ⟨_, rfl⟩
  have hBW : Below w1.heap.size w1 W := by rw [← hW]; exact below_alloc w1 _
  have hbx : W.heap[w1.heap.size]? = some (.cells #[.pointer (some ⟨T, 0, none⟩), .slice ad n cap, .int .i64 0] 48 (0, 0)) := by rw [← hW]; exact heap_alloc_new _ _
  have HUW : Hid (Up w.heap.size w W) := HS1.out.2.1.stay hBW
  have HSW : Hid (Sh W T g n (fun _ => 1)) := HS1.out.1.stay hBW
  by_cases h0 : n = 0
  · subst h0
    have ct := thing_zero hbx
    clear hbx hBW
    go_wp2_with fail
    refine ct.mono ?_
    rintro ev w2 ⟨rfl, hb2⟩
    have HF : Hid (Sh w2 T g 0 (fun _ => 1) ∧ Up w.heap.size w w2) := ⟨HSW.out.stay hb2, HUW.out.stay hb2⟩
    clear ct hb2 hW
    go_wp2_with fail
    go_loopg [7] 0 (fun q v wr => q = 0 ∧ v = .nilFunc ∧ wr = w2)
    case atStart => exact ⟨rfl, rfl, rfl⟩
    case round =>
      obtain ⟨_, rfl, rfl⟩ := hrel
      have hne := neq_nil wr
      go_wp2
      rw [← HQ.out]
      exact ⟨T, g, rfl, HS1.out.2.2.1, HS1.out.2.2.2, HF.out.1, HF.out.2⟩
  · obtain ⟨b, off, rfl, hc0⟩ := HH.out.2.1.at (show 0 < n by omega)
    have hb := World.block_lt_of_cell? w _ (hc0 0 (by omega))
    dsimp only at hb
    have hTl := HS1.out.1.lt
    have hgl := HS1.out.1.row.lt
    have hu2 := HS1.out.2.1.2
    have hs1 := HS1.out.2.2
    obtain ⟨B, hB⟩ : ∃ B, w1.heap.size = B := ⟨_, rfl⟩
    have HB : Hid (w1.heap.size = B) := hB
    have hs : Sta w.heap.size b n cap B T g c := ⟨HH.out.1, hn, hcap, hbig, by omega, by omega, by omega, by omega, HH.out.2.2.big, by omega, by omega⟩
    have hE : En w w.heap.size W b off n cap B T g c (fun _ => 1) 0 := ⟨HH.out.2.1.stay HUW.out.1, by rw [← hB]; exact hbx, HSW.out, HH.out.2.2.stay HUW.out.1, HUW.out⟩
    have HS : Hid (Sta w.heap.size b n cap B T g c) := hs
    obtain ⟨A, hA⟩ : ∃ A, lxA c n = A := ⟨_, rfl⟩
    have HA : Hid (lx c n 0 (fun _ => 1) = A ∧ lxA c n = A) := ⟨hA, hA⟩
    have HE : Hid (En w w.heap.size W b off n cap B T g c (fun _ => 1) 0) := hE
    have CT : Hid (∀ (wr : World) (L : Nat → Int) (i : Nat), i ≤ n → En w w.heap.size wr b off n cap B T g c L i → lx c n i L = A → Calls Tryd.prog 19 #[.pointer (some ⟨B, 0, none⟩)] wr fun ev w' => ∃ v q L' i', ev = .returned v ∧ i' ≤ n ∧ En w w.heap.size w' b off n cap B T g c L' i' ∧ Lf c n A B q v i' L' ∧ q < 4 * (n - i) + 4) := fun wr L i hi h' hA' => by
      have hs := HS.out
      rcases Nat.lt_or_ge i n with hlt | hge
      · have h1 := lx_one hs.ch hlt L
        by_cases h37 : c i = 37
        · refine (thing_rem hs h' hlt h37).mono ?_
          rintro ev w2 ⟨rfl, hE2⟩
          exact ⟨_, 4 * (n - i) + 3, L, i, rfl, hi, hE2, Or.inr (Or.inr (Or.inl ⟨rfl, rfl, hlt, h37, hA'⟩)), by omega⟩
        by_cases h36 : c i = 36
        · refine (thing_mat hs h' hlt h36).mono ?_
          rintro ev w2 ⟨rfl, hE2⟩
          exact ⟨_, 4 * (n - i) + 3, L, i, rfl, hi, hE2, Or.inr (Or.inr (Or.inr (Or.inl ⟨rfl, rfl, hlt, h36, hA'⟩))), by omega⟩
        by_cases h92 : c i = 92
        · refine (thing_bsl hs h' hlt h92).mono ?_
          rintro ev w2 ⟨rfl, hE2⟩
          exact ⟨_, 4 * (n - i) + 3, L, i, rfl, hi, hE2, Or.inr (Or.inr (Or.inr (Or.inr (Or.inl ⟨rfl, rfl, hlt, h92, hA'⟩)))), by omega⟩
        have e1 : nxE c n i = i + 1 := by unfold nxE; rw [if_neg h37, if_neg h36, if_neg h92]
        cases hm : mkB (c i) with
        | true =>
          refine (thing_mk hs h' hlt hm).mono ?_
          rintro ev w2 ⟨rfl, hE2⟩
          refine ⟨_, 4 * (n - (i + 1)) + 4, _, i + 1, rfl, hlt, hE2, Or.inr (Or.inl ⟨rfl, rfl, ?_⟩), by omega⟩
          have e2 : nxL L c n i = setL L 2 (i : Int) ((i + 1 : Nat) : Int) := by unfold nxL; rw [if_neg h37, if_neg h36, if_neg h92, if_pos hm]
          rw [← hA', h1, e1, e2]
        | false =>
          refine (thing_pr hs h' hlt hm h37 h36 h92).mono ?_
          rintro ev w2 ⟨rfl, hE2⟩
          refine ⟨_, 4 * (n - (i + 1)) + 4, _, i + 1, rfl, hlt, hE2, Or.inr (Or.inl ⟨rfl, rfl, ?_⟩), by omega⟩
          have e2 : nxL L c n i = setL L 1 (i : Int) ((i + 1 : Nat) : Int) := by unfold nxL; rw [if_neg h37, if_neg h36, if_neg h92, if_neg (by rw [hm]; exact Bool.false_ne_true)]
          rw [← hA', h1, e1, e2]
      · obtain rfl : i = n := by omega
        refine (thing_end hs h').mono ?_
        rintro ev w2 ⟨rfl, hE2⟩
        refine ⟨_, 0, L, i, rfl, hi, hE2, Or.inl ⟨rfl, rfl, rfl, ?_⟩, by omega⟩
        rw [← hA', lx_end (Nat.le_refl _)]
    clear hs hE hb hc0 hTl hgl hu2 hs1 hbx hBW hA hB
    go_wp2_with fail
    rw [HB.out]
    refine (CT.out W _ 0 (Nat.zero_le _) HE.out HA.out.1).mono ?_
    rintro ev w2 ⟨v, q0, L0, i0, rfl, hi0, hE0, hL0, hq0⟩
    have HL0 : Hid (∃ L i, i ≤ n ∧ En w w.heap.size w2 b off n cap B T g c L i ∧ Lf c n A B q0 v i L) := ⟨L0, i0, hi0, hE0, hL0⟩
    clear hi0 hE0 hL0 hW hq0
    go_wp2_with fail
    go_loopg [7] q0 (fun q v wr => Hid (∃ L i, i ≤ n ∧ En w w.heap.size wr b off n cap B T g c L i ∧ Lf c n A B q v i L))
    case atStart => exact HL0.out
    case round =>
      obtain ⟨L, i, hi, hE, hF⟩ := hrel.out
      clear hrel HL0
      have HE2 : Hid (En w w.heap.size wr b off n cap B T g c L i) := hE
      clear hE
      rcases hF with ⟨rfl, rfl, rfl, rfl⟩ | ⟨rfl, rfl, hA1⟩ | ⟨rfl, rfl, hlt, hc1, hA1⟩ | ⟨rfl, rfl, hlt, hc1, hA1⟩ | ⟨rfl, rfl, hlt, hc1, hA1⟩ | ⟨rfl, rfl, hlt, hc1, hl1, hA1⟩ | ⟨rfl, rfl, hA1⟩ | ⟨rfl, rfl, hA1⟩ | ⟨rfl, rfl, hA1⟩
      · have hne := neq_nil wr
        go_wp2
        rw [← HQ.out]
        refine ⟨T, g, rfl, HS1.out.2.2.1, HS1.out.2.2.2, ?_, HE2.out.up⟩
        rw [HA.out.2]
        exact HE2.out.sh
      · have cc := CT.out wr L i hi HE2.out hA1
        clear hA1
        clear HE2
        have hne := fun f => neq_fun f B wr
        go_wp2_with fail
        refine cc.mono ?_
        rintro ev w3 ⟨v3, q3, L3, i3, rfl, hi3, hE3, hL3, hq3⟩
        have HL3 : Hid (∃ L i, i ≤ n ∧ En w w.heap.size w3 b off n cap B T g c L i ∧ Lf c n A B q3 v3 i L) := ⟨L3, i3, hi3, hE3, hL3⟩
        clear hi3 hE3 hL3 cc
        go_wp2
        go_roundg q3
        case measure => omega
        case rel => exact HL3.out
      · have h1 := lx_one HS.out.ch hlt L
        have hle := bh_gt HS.out.ch hlt
        have cc : Calls Tryd.prog 24 #[.pointer (some ⟨B, 0, none⟩)] wr (fun ev w' => ∃ v q L' i', ev = .returned v ∧ i' ≤ n ∧ En w w.heap.size w' b off n cap B T g c L' i' ∧ Lf c n A B q v i' L' ∧ q < 4 * (n - i) + 3) := by
          refine (remark_any HS.out HE2.out hlt).mono ?_
          rintro ev w2 ⟨rfl, hE2⟩
          refine ⟨_, 4 * (n - bh [10] c n i) + 4, _, bh [10] c n i, rfl, hle.2, hE2, Or.inr (Or.inl ⟨rfl, rfl, ?_⟩), by omega⟩
          rw [← hA1, h1]
          unfold nxE nxL
          rw [if_pos hc1, if_pos hc1]
        clear hA1 h1 hle hc1
        clear HE2
        have hne := fun f => neq_fun f B wr
        go_wp2_with fail
        refine cc.mono ?_
        rintro ev w3 ⟨v3, q3, L3, i3, rfl, hi3, hE3, hL3, hq3⟩
        have HL3 : Hid (∃ L i, i ≤ n ∧ En w w.heap.size w3 b off n cap B T g c L i ∧ Lf c n A B q3 v3 i L) := ⟨L3, i3, hi3, hE3, hL3⟩
        clear hi3 hE3 hL3 cc
        go_wp2
        go_roundg q3
        case measure => omega
        case rel => exact HL3.out
      · have h1 := lx_one HS.out.ch hlt L
        have hle := mtE_le (c := c) hlt
        have cc : Calls Tryd.prog 25 #[.pointer (some ⟨B, 0, none⟩)] wr (fun ev w' => ∃ v q L' i', ev = .returned v ∧ i' ≤ n ∧ En w w.heap.size w' b off n cap B T g c L' i' ∧ Lf c n A B q v i' L' ∧ q < 4 * (n - i) + 3) := by
          refine (math_any HS.out HE2.out hlt).mono ?_
          rintro ev w2 ⟨rfl, hE2⟩
          refine ⟨_, 4 * (n - mtE c n i) + 4, _, mtE c n i, rfl, hle.2, hE2, Or.inr (Or.inl ⟨rfl, rfl, ?_⟩), by omega⟩
          rw [← hA1, h1]
          unfold nxE nxL
          rw [if_neg (by rw [hc1]; decide), if_pos hc1, if_neg (by rw [hc1]; decide), if_pos hc1]
        clear hA1 h1 hle hc1
        clear HE2
        have hne := fun f => neq_fun f B wr
        go_wp2_with fail
        refine cc.mono ?_
        rintro ev w3 ⟨v3, q3, L3, i3, rfl, hi3, hE3, hL3, hq3⟩
        have HL3 : Hid (∃ L i, i ≤ n ∧ En w w.heap.size w3 b off n cap B T g c L i ∧ Lf c n A B q3 v3 i L) := ⟨L3, i3, hi3, hE3, hL3⟩
        clear hi3 hE3 hL3 cc
        go_wp2
        go_roundg q3
        case measure => omega
        case rel => exact HL3.out
      · have h1 := lx_one HS.out.ch hlt L
        have hle := bkE_le HS.out.ch hlt
        have hnx := nx_bsl (n := n) hc1 L
        rw [hnx.1, hnx.2] at h1
        have cc : Calls Tryd.prog 26 #[.pointer (some ⟨B, 0, none⟩)] wr (fun ev w' => ∃ v q L' i', ev = .returned v ∧ i' ≤ n ∧ En w w.heap.size w' b off n cap B T g c L' i' ∧ Lf c n A B q v i' L' ∧ q < 4 * (n - i) + 3) := by
          by_cases h40 : c (i + 1) = 40
          · have eE : bkE c n i = bh [92, 41] c n (i + 2) := by unfold bkE; rw [if_pos h40]
            have eL : bkL L c n i = setL L 4 (i : Int) ((bh [92, 41] c n (i + 2) : Nat) : Int) := by unfold bkL; rw [if_pos h40]
            rw [eE] at hle
            refine (bsl_par HS.out HE2.out hlt h40).mono ?_
            rintro ev w2 ⟨rfl, hE2⟩
            refine ⟨_, 4 * (n - bh [92, 41] c n (i + 2)) + 4, _, _, rfl, hle.2, hE2, Or.inr (Or.inl ⟨rfl, rfl, ?_⟩), by omega⟩
            rw [← hA1, h1, eE, eL]
          by_cases h91 : c (i + 1) = 91
          · have eE : bkE c n i = bh [92, 93] c n (i + 2) := by unfold bkE; rw [if_neg h40, if_pos h91]
            have eL : bkL L c n i = setL L 4 (i : Int) ((bh [92, 93] c n (i + 2) : Nat) : Int) := by unfold bkL; rw [if_neg h40, if_pos h91]
            rw [eE] at hle
            refine (bsl_brk HS.out HE2.out hlt h91).mono ?_
            rintro ev w2 ⟨rfl, hE2⟩
            refine ⟨_, 4 * (n - bh [92, 93] c n (i + 2)) + 4, _, _, rfl, hle.2, hE2, Or.inr (Or.inl ⟨rfl, rfl, ?_⟩), by omega⟩
            rw [← hA1, h1, eE, eL]
          cases hl : ltB (c (i + 1)) with
          | true =>
            refine (bsl_cmd HS.out HE2.out hlt h40 h91 hl).mono ?_
            rintro ev w2 ⟨rfl, hE2⟩
            exact ⟨_, 4 * (n - i) + 2, L, i, rfl, hi, hE2, Or.inr (Or.inr (Or.inr (Or.inr (Or.inr (Or.inl ⟨rfl, rfl, hlt, hc1, hl, hA1⟩))))), by omega⟩
          | false =>
            have eE : bkE c n i = i + 1 + wdE (bs c n) (i + 1) := by unfold bkE; rw [if_neg h40, if_neg h91, if_neg (by rw [hl]; exact Bool.false_ne_true)]
            have eL : bkL L c n i = setL L 2 (i : Int) ((i + 1 + wdE (bs c n) (i + 1) : Nat) : Int) := by unfold bkL; rw [if_neg h40, if_neg h91, if_neg (by rw [hl]; exact Bool.false_ne_true)]
            rw [eE] at hle
            refine (bsl_oth HS.out HE2.out hlt h40 h91 hl).mono ?_
            rintro ev w2 ⟨rfl, hE2⟩
            refine ⟨_, 4 * (n - (i + 1 + wdE (bs c n) (i + 1))) + 4, _, _, rfl, hle.2, hE2, Or.inr (Or.inl ⟨rfl, rfl, ?_⟩), by omega⟩
            rw [← hA1, h1, eE, eL]
        clear hA1 h1 hle hc1 hnx
        clear HE2
        have hne := fun f => neq_fun f B wr
        go_wp2_with fail
        refine cc.mono ?_
        rintro ev w3 ⟨v3, q3, L3, i3, rfl, hi3, hE3, hL3, hq3⟩
        have HL3 : Hid (∃ L i, i ≤ n ∧ En w w.heap.size w3 b off n cap B T g c L i ∧ Lf c n A B q3 v3 i L) := ⟨L3, i3, hi3, hE3, hL3⟩
        clear hi3 hE3 hL3 cc
        go_wp2
        go_roundg q3
        case measure => omega
        case rel => exact HL3.out
      · have h1 := lx_one HS.out.ch hlt L
        have hnx := bk_cmd (n := n) hc1 hl1 L
        rw [hnx.1, hnx.2] at h1
        have hK := cmK_le (c := c) hlt
        have hK2 : i + 1 < cmK c n i := by
          have hin : i + 1 < n := by
            rcases Nat.lt_or_ge (i + 1) n with h2 | h2
            · exact h2
            · rw [HS.out.ch.2 _ h2] at hl1; exact absurd hl1 (by decide)
          unfold cmK ps
          rw [fs_no hin (by rw [hl1]; rfl)]
          exact fs_ge _ _ _
        have cc : Calls Tryd.prog 42 #[.pointer (some ⟨B, 0, none⟩)] wr (fun ev w' => ∃ v q L' i', ev = .returned v ∧ i' ≤ n ∧ En w w.heap.size w' b off n cap B T g c L' i' ∧ Lf c n A B q v i' L' ∧ q < 4 * (n - i) + 2) := by
          refine (command_any HS.out HE2.out hlt hl1).mono ?_
          rintro ev w2 ⟨rfl, hE2⟩
          rw [← hA1, h1] at *
          by_cases hv : isV (cmN c n i) = true
          · refine ⟨_, 4 * (n - cmK c n i) + 5, _, _, rfl, hK.2, hE2, Or.inr (Or.inr (Or.inr (Or.inr (Or.inr (Or.inr (Or.inl ⟨?_, rfl, ?_⟩)))))), by omega⟩
            · unfold stp cmF; rw [if_pos hv]
            · unfold cmE cmL; rw [if_pos hv, if_pos hv]
          by_cases hb : isBg (cmN c n i) = true
          · refine ⟨_, 4 * (n - cmK c n i) + 5, _, _, rfl, hK.2, hE2, Or.inr (Or.inr (Or.inr (Or.inr (Or.inr (Or.inr (Or.inr (Or.inl ⟨?_, rfl, ?_⟩))))))), by omega⟩
            · unfold stp cmF; rw [if_neg hv, if_pos hb]
            · unfold cmE cmL; rw [if_neg hv, if_neg hv, if_pos hb, if_pos hb]
          by_cases hr : bareB (cmN c n i) = true
          · refine ⟨_, 4 * (n - cmK c n i) + 5, _, _, rfl, hK.2, hE2, Or.inr (Or.inr (Or.inr (Or.inr (Or.inr (Or.inr (Or.inr (Or.inr ⟨?_, rfl, ?_⟩))))))), by omega⟩
            · unfold stp cmF; rw [if_neg hv, if_neg hb, if_pos hr]
            · unfold cmE cmL; rw [if_neg hv, if_neg hv, if_neg hb, if_neg hb, if_pos hr, if_pos hr]
          · refine ⟨_, 4 * (n - cmK c n i) + 4, _, _, rfl, hK.2, hE2, Or.inr (Or.inl ⟨?_, rfl, ?_⟩), by omega⟩
            · unfold stp cmF; rw [if_neg hv, if_neg hb, if_neg hr]
            · unfold cmE cmL; rw [if_neg hv, if_neg hv, if_neg hb, if_neg hb, if_neg hr, if_neg hr]
        clear hA1 h1 hc1 hl1 hnx hK hK2
        clear HE2
        have hne := fun f => neq_fun f B wr
        go_wp2_with fail
        refine cc.mono ?_
        rintro ev w3 ⟨v3, q3, L3, i3, rfl, hi3, hE3, hL3, hq3⟩
        have HL3 : Hid (∃ L i, i ≤ n ∧ En w w.heap.size w3 b off n cap B T g c L i ∧ Lf c n A B q3 v3 i L) := ⟨L3, i3, hi3, hE3, hL3⟩
        clear hi3 hE3 hL3 cc
        go_wp2
        go_roundg q3
        case measure => omega
        case rel => exact HL3.out
      · have hle := vbE_le HS.out.ch hi
        have cc : Calls Tryd.prog 50 #[.pointer (some ⟨B, 0, none⟩)] wr (fun ev w' => ∃ v q L' i', ev = .returned v ∧ i' ≤ n ∧ En w w.heap.size w' b off n cap B T g c L' i' ∧ Lf c n A B q v i' L' ∧ q < 4 * (n - i) + 5) := by
          refine (verb_any HS.out HE2.out hi).mono ?_
          rintro ev w2 ⟨rfl, hE2⟩
          refine ⟨_, 4 * (n - vbE c n i) + 4, _, vbE c n i, rfl, by omega, hE2, Or.inr (Or.inl ⟨rfl, rfl, hA1⟩), by omega⟩
        clear hA1 hle
        clear HE2
        have hne := fun f => neq_fun f B wr
        go_wp2_with fail
        refine cc.mono ?_
        rintro ev w3 ⟨v3, q3, L3, i3, rfl, hi3, hE3, hL3, hq3⟩
        have HL3 : Hid (∃ L i, i ≤ n ∧ En w w.heap.size w3 b off n cap B T g c L i ∧ Lf c n A B q3 v3 i L) := ⟨L3, i3, hi3, hE3, hL3⟩
        clear hi3 hE3 hL3 cc
        go_wp2
        go_roundg q3
        case measure => omega
        case rel => exact HL3.out
      · have hle := bgE_le HS.out.ch hi
        have cc : Calls Tryd.prog 51 #[.pointer (some ⟨B, 0, none⟩)] wr (fun ev w' => ∃ v q L' i', ev = .returned v ∧ i' ≤ n ∧ En w w.heap.size w' b off n cap B T g c L' i' ∧ Lf c n A B q v i' L' ∧ q < 4 * (n - i) + 5) := by
          refine (begin_any HS.out HE2.out hi).mono ?_
          rintro ev w2 ⟨rfl, hE2⟩
          refine ⟨_, 4 * (n - bgE c n i) + 4, _, bgE c n i, rfl, by omega, hE2, Or.inr (Or.inl ⟨rfl, rfl, hA1⟩), by omega⟩
        clear hA1 hle
        clear HE2
        have hne := fun f => neq_fun f B wr
        go_wp2_with fail
        refine cc.mono ?_
        rintro ev w3 ⟨v3, q3, L3, i3, rfl, hi3, hE3, hL3, hq3⟩
        have HL3 : Hid (∃ L i, i ≤ n ∧ En w w.heap.size w3 b off n cap B T g c L i ∧ Lf c n A B q3 v3 i L) := ⟨L3, i3, hi3, hE3, hL3⟩
        clear hi3 hE3 hL3 cc
        go_wp2
        go_roundg q3
        case measure => omega
        case rel => exact HL3.out
      · have hle := gps_le c n _ i (Nat.le_refl _) hi
        have cc : Calls Tryd.prog 52 #[.pointer (some ⟨B, 0, none⟩)] wr (fun ev w' => ∃ v q L' i', ev = .returned v ∧ i' ≤ n ∧ En w w.heap.size w' b off n cap B T g c L' i' ∧ Lf c n A B q v i' L' ∧ q < 4 * (n - i) + 5) := by
          refine (groups_any HS.out HE2.out hi).mono ?_
          rintro ev w2 ⟨rfl, hE2⟩
          refine ⟨_, 4 * (n - gps c n i) + 4, _, gps c n i, rfl, by omega, hE2, Or.inr (Or.inl ⟨rfl, rfl, hA1⟩), by omega⟩
        clear hA1 hle
        clear HE2
        have hne := fun f => neq_fun f B wr
        go_wp2_with fail
        refine cc.mono ?_
        rintro ev w3 ⟨v3, q3, L3, i3, rfl, hi3, hE3, hL3, hq3⟩
        have HL3 : Hid (∃ L i, i ≤ n ∧ En w w.heap.size w3 b off n cap B T g c L i ∧ Lf c n A B q3 v3 i L) := ⟨L3, i3, hi3, hE3, hL3⟩
        clear hi3 hE3 hL3 cc
        go_wp2
        go_roundg q3
        case measure => omega
        case rel => exact HL3.out
end Go.Proofs.YtlgfmhhhecaddaaDoor
