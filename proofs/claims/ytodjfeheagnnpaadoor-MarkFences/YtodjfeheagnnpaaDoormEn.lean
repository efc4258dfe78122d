/- mark: a file that is gone through, in memory; ticks, shut, target. -/
import Derived.Test.YtodjfeheagnnpaaDoormTck
import Derived.Test.YtodjfeheagnnpaaDoorkE
namespace Go.Proofs.YtodjfeheagnnpaaDoor
set_option linter.unusedVariables false
open Go.RowKit Go.ChangeShapes Go.Maps
/-- The variables of the library that are read. -/
def GlM (w : World) : Prop := (∃ m, w.cell? ⟨1, 0, none⟩ = some (.int .i64 m)) ∧ Lns.Tabs w
theorem GlM.stay {w w' : World} (h : GlM w) (hb : Below w.heap.size w w') : GlM w' := by
  obtain ⟨⟨m, hm⟩, hT⟩ := h
  exact ⟨⟨m, cell_stay hm hb⟩, Lns.tabs_stay hT hb⟩
theorem tabs_keep {w w' : World} (h : Lns.Tabs w) (h1 : w'.heap[2]? = w.heap[2]?) (h2 : w'.heap[3]? = w.heap[3]?) : Lns.Tabs w' := by
  have e1 : ∀ i, w'.cell? ⟨2, i, none⟩ = w.cell? ⟨2, i, none⟩ := fun i => by simp only [World.cell?, h1]
  have e2 : ∀ i, w'.cell? ⟨3, i, none⟩ = w.cell? ⟨3, i, none⟩ := fun i => by simp only [World.cell?, h2]
  unfold Lns.Tabs Lib.Utf8Tabs at h ⊢
  simp only [e1, e2]
  exact h
theorem GlM.keep {w w' : World} (h : GlM w) (hk : ∀ g, g ≤ 3 → g < w.heap.size → w'.heap[g]? = w.heap[g]?) : GlM w' := by
  obtain ⟨⟨m, hm⟩, hT⟩ := h
  have l1 := World.block_lt_of_cell? w _ hm
  have l2 := World.block_lt_of_cell? w _ (hT.1 0 (by decide))
  have l3 := World.block_lt_of_cell? w _ (hT.2 0 (by decide)).1
  refine ⟨⟨m, ?_⟩, tabs_keep hT (hk _ (by omega) l2) (hk _ (by omega) l3)⟩
  rw [← hm]
  simp only [World.cell?, hk 1 (by omega) l1]
/-- What doesn't change. -/
structure Sta (b N cap B T gs : Nat) (c : Nat → Int) : Prop where
  ch : Ch c N
  n : N ≤ 40000
  nc : N ≤ cap
  big : cap ≤ 9223372036854775807
  bg : b ≠ gs
  Bg : B ≠ gs
  bB : b ≠ B
  BT : B ≠ T
  g4 : 3 < gs
  B4 : 3 < B
/-- A file in memory: its bytes, what it keeps, its sheet. -/
structure En (w : World) (b off N cap B T gs : Nat) (c L : Nat → Int) (s : Int) (k : Nat) (fr : Bool) (mv : Value) : Prop where
  bc : BC w (some ⟨b, off, none⟩) N c
  fl : Fl w B T (.slice (some ⟨b, off, none⟩) N cap) s k fr mv
  sh : Sh w T gs N L
  gl : GlM w
section
variable {w w' : World} {b off N cap B T gs : Nat} {c L M : Nat → Int} {s : Int} {k : Nat} {fr : Bool} {mv : Value}
theorem En.stay (h : En w b off N cap B T gs c L s k fr mv) (hb : Below w.heap.size w w') : En w' b off N cap B T gs c L s k fr mv := ⟨h.bc.stay hb, h.fl.stay hb, h.sh.stay hb, h.gl.stay hb⟩
theorem En.next (h : En w b off N cap B T gs c L s k fr mv) (hs : Sta b N cap B T gs c) (hS : Sh w' T gs N M) (hg : w.grownBy w' (some gs)) : En w' b off N cap B T gs c M s k fr mv :=
  ⟨h.bc.grown hg hs.bg, h.fl.grown hg hs.Bg, hS, h.gl.keep fun g hg3 hlt => hg.block g hlt (fun e => by have := hs.g4; have := Option.some.inj e; omega)⟩
/-- One of the file's own cells is written. -/
theorem En.setB (h : En w b off N cap B T gs c L s k fr mv) (hs : Sta b N cap B T gs c) (i : Nat) (v : Value) {s' : Int} {k' : Nat} {fr' : Bool} {mv' : Value} (hF : Fl (w.setCell ⟨B, i, none⟩ v) B T (.slice (some ⟨b, off, none⟩) N cap) s' k' fr' mv') :
    En (w.setCell ⟨B, i, none⟩ v) b off N cap B T gs c L s' k' fr' mv' := by
  have hk : ∀ g, g ≠ B → (w.setCell ⟨B, i, none⟩ v).heap[g]? = w.heap[g]? := fun g hg => heap_setCell_other w ⟨B, i, none⟩ g v hg
  refine ⟨fun j hj => ?_, hF, h.sh.keep (hk T (fun e => hs.BT e.symm)) (hk gs (fun e => hs.Bg e.symm)), h.gl.keep fun g hg _ => hk g (by have := hs.B4; omega)⟩
  obtain ⟨b', off', e, hc⟩ := h.bc j hj
  injection e with e
  injection e with e1 e2 _
  subst e1 e2
  refine ⟨b, off, rfl, ?_⟩
  rw [← hc]
  have e3 := hk b hs.bB
  simp only [World.cell?]
  rw [e3]
end
/-- What is told of what stands at a place: where it ends, and the labels. -/
def ThP (w : World) (T gs N E : Nat) (L : Nat → Int) (ev : Ending) (w' : World) : Prop := ev = .returned (.int .i64 (E : Nat)) ∧ Sh w' T gs N L ∧ w.grownBy w' (some gs)
theorem BC.tr {w : World} {ad : Option Addr} {n m : Nat} {c : Nat → Int} (h : BC w ad n c) (hm : m ≤ n) : BC w ad m (tr c m) := (h.upto hm).congr fun i hi => (tr_in hi).symm
set_option maxRecDepth 100000 in
theorem ticks_any {w : World} {b off N cap B T gs g NN : Nat} {c L : Nat → Int} {s : Int} {k : Nat} {fr : Bool} {Mp : Nat → Nat} (hs : Sta b N cap B T gs c) (hE : En w b off N cap B T gs c L s k fr (.map (some g))) (n i0 : Nat) (hn : n ≤ N) (hM : MI w g NN Mp) (hP : LastP (tr c n) n i0 n Mp) (i : Nat) (hi0 : i0 ≤ i) (hi : i < n) (h96 : tr c n i = 96) :
    Calls Tryd.prog 71 #[.pointer (some ⟨B, 0, none⟩), .slice (some ⟨b, off, none⟩) n cap, .int .i64 i] w (ThP w T gs N (tcE (tr c n) n i) (tcL L (tr c n) n i)) := by
  have hC := tr_ch hs.ch hn
  have hbc := hE.bc.tr hn
  have hKp := tcK_pos hi h96
  have hKl := tcK_le (tr c n) (n := n) (i := i) (by omega)
  have hnc : n ≤ cap := Nat.le_trans hn hs.nc
  have hN := hs.n
  obtain ⟨x0, -, -, -, -, x5⟩ := hE.fl.cells
  obtain ⟨d, hd⟩ : ∃ d, tr c n = d := ⟨_, rfl⟩
  rw [hd] at hC hbc hKp hKl hP h96 ⊢
  obtain ⟨K, hK⟩ : ∃ K, tcK d n i = K := ⟨_, rfl⟩
  rw [hK] at hKp hKl
  have hEE : ∀ q, tk K d n (i + K) = some q → tcE d n i = q + K ∧ tcL L d n i = setL L 4 (i : Int) ((q + K : Nat) : Int) := fun q hq => by unfold tcE tcL; rw [hK, hq]; exact ⟨rfl, rfl⟩
  have hLL : tk K d n (i + K) = none → tcE d n i = i + K ∧ tcL L d n i = L := fun hq => by unfold tcE tcL; rw [hK, hq]; exact ⟨rfl, rfl⟩
  have z5 : ¬ cap = i := by omega
  have hfr := BC.from hbc i (by omega) hnc
  rw [if_neg z5] at hfr
  have ct := row_any (cap := cap - i) hfr (by omega) 96
  rw [show (fun j => d (i + j)) = sf d i from rfl, show rwP 96 (sf d i) (n - i) = K from hK] at ct
  have hlk := hM.look K (by omega)
  have hMn := hP.1 K
  have hMK : Hid (∀ p, i0 < p → (d (p - 1) ≠ 96 ∨ d p ≠ 96) → Mp K < p → tk K d n p = none) := fun p h1 h2 h3 => tk_none hC hP hKp _ p (Nat.le_refl _) h1 h2 h3
  obtain ⟨R, hR⟩ : ∃ R, Mp K = R := ⟨_, rfl⟩
  rw [hR] at hlk hMn hMK
  have HS : Hid (Sh w T gs N L) := hE.sh
  have HB : Hid (BC w (some ⟨b, off, none⟩) n d ∧ Ch d n) := ⟨hbc, hC⟩
  have hal : d (i + K) ≠ 96 := by rw [← hK]; exact row_end hC (by omega)
  have HA : Hid (d (i + K) ≠ 96) := hal
  obtain ⟨Q, hQ⟩ : ∃ Q, ThP w T gs N (tcE d n i) (tcL L d n i) = Q := ⟨_, rfl⟩
  have HQ : Hid (ThP w T gs N (tcE d n i) (tcL L d n i) = Q) := hQ
  have HEL : Hid ((∀ q, tk K d n (i + K) = some q → tcE d n i = q + K ∧ tcL L d n i = setL L 4 (i : Int) ((q + K : Nat) : Int)) ∧ (tk K d n (i + K) = none → tcE d n i = i + K ∧ tcL L d n i = L)) := ⟨hEE, hLL⟩
  rw [hQ]
  have z1 : (0 : Int) ≤ (i : Int) := by omega
  have z2 : (i : Int) ≤ (n : Int) := by omega
  have z3 : (n : Int) ≤ (cap : Int) := by omega
  clear hd hK hEE hLL hfr hR hbc hC hM hP hE hs hal hQ h96
  go_enter Tryd.func71, Tryd.ntmps71
  go_wp2_with fail
  refine ct.mono ?_
  rintro e w1 ⟨rfl, hw⟩
  subst w1
  clear ct
  go_wp2
  go_loopg [9] (n + 2 - (i + K)) (fun q iv wr => ∃ p : Nat, q = n + 2 - p ∧ i + K ≤ p ∧ p ≤ n + 1 ∧ iv = .int .i64 p ∧ wr = w ∧ Hid ((d (p - 1) ≠ 96 ∨ d p ≠ 96) ∧ tk K d n p = tk K d n (i + K)))
  case atStart => exact ⟨i + K, rfl, Nat.le_refl _, by omega, by go_num, rfl, Or.inr HA.out, rfl⟩
  case round =>
    obtain ⟨p, hq, hp1, hp2, rfl, rfl, HT⟩ := hrel
    by_cases hpR : p ≤ R
    · have y1 : (p : Int) ≤ (R : Int) := by omega
      have y2 : (0 : Int) ≤ (p : Int) := by omega
      have y3 : (p : Int) ≤ (n : Int) := by omega
      obtain ⟨adp, hadp⟩ : ∃ adp, (if cap = p then some (⟨b, off, none⟩ : Addr) else some ⟨b, off + p, none⟩) = adp := ⟨_, rfl⟩
      have hfr := BC.from HB.out.1 p (by omega) hnc
      rw [hadp] at hfr
      have ct := row_any (cap := cap - p) hfr (by omega) 96
      rw [show (fun j => d (p + j)) = sf d p from rfl] at ct
      have hml := rwP_le 96 (sf d p) (n - p)
      have hre := row_end HB.out.2 (show p ≤ n by omega)
      have hrz : p < n → d p = 96 → 0 < rwP 96 (sf d p) (n - p) := fun h1 h2 => row_zero h1 h2
      have htm : p < n → rwP 96 (sf d p) (n - p) ≠ K → tk K d n p = tk K d n (p + max (rwP 96 (sf d p) (n - p)) 1) := fun h1 h2 => tk_miss h1 h2
      have hth : p < n → rwP 96 (sf d p) (n - p) = K → tk K d n p = some p := fun h1 h2 => tk_hit h1 h2
      obtain ⟨m, hm⟩ : ∃ m, rwP 96 (sf d p) (n - p) = m := ⟨_, rfl⟩
      rw [hm] at ct hml hre hrz htm hth
      have HRR : Hid (d (p + m) ≠ 96 ∧ (p < n → d p = 96 → 0 < m) ∧ (p < n → m ≠ K → tk K d n p = tk K d n (p + max m 1)) ∧ (p < n → m = K → tk K d n p = some p)) := ⟨hre, hrz, htm, hth⟩
      clear hfr hm hre hrz htm hth
      by_cases hmK : m = K
      · have y4 : ((m : Int) == (K : Int)) = true := by rw [hmK]; simp
        have hpn : p < n := by omega
        obtain rfl : adp = some ⟨b, off + p, none⟩ := by rw [← hadp, if_neg (by omega)]
        clear hadp
        have htk := HRR.out.2.2.2 hpn hmK
        have HF : Hid (tk K d n (i + K) = some p) := by show tk K d n (i + K) = some p; rw [← HT.out.2]; exact htk
        have ct2 := set_any HS.out (by omega) 4 (i : Int) ((p : Int) + (m : Int))
        have HMK : Hid (m = K) := hmK
        clear htk hmK
        go_wp2_with fail
        refine ct.mono ?_
        rintro e w1 ⟨rfl, hw⟩
        subst w1
        go_wp2_with fail
        refine ct2.mono ?_
        rintro e w1 ⟨rfl, hS1, hg1, -⟩
        have HS1 : Hid (Sh w1 T gs N (setL L 4 (i : Int) ((p : Int) + (m : Int))) ∧ wr.grownBy w1 (some gs)) := ⟨hS1, hg1⟩
        clear ct ct2 hS1 hg1
        go_wp2
        rw [← HQ.out]
        unfold ThP
        rw [(HEL.out.1 p HF.out).1, (HEL.out.1 p HF.out).2, ← HMK.out]
        refine ⟨?_, ?_, HS1.out.2⟩
        · simp
        · have := HS1.out.1
          rw [show ((p : Int) + (m : Int)) = ((p + m : Nat) : Int) by omega] at this
          exact this
      · have y4 : ((m : Int) == (K : Int)) = false := by simp only [beq_eq_false_iff_ne]; omega
        obtain ⟨u, hu⟩ : ∃ u, max m 1 = u := ⟨_, rfl⟩
        have hmax : max (m : Int) 1 = (u : Int) := by omega
        have HN : Hid ((d (p + u - 1) ≠ 96 ∨ d (p + u) ≠ 96) ∧ tk K d n (p + u) = tk K d n (i + K)) := by
          refine ⟨?_, ?_⟩
          · rcases Nat.eq_zero_or_pos m with h0 | h0
            · left
              rw [show p + u - 1 = p by omega]
              intro h96
              rcases Nat.lt_or_ge p n with h1 | h1
              · have := HRR.out.2.1 h1 h96
                omega
              · rw [HB.out.2.2 p h1] at h96
                exact absurd h96 (by decide)
            · right
              rw [show p + u = p + m by omega]
              exact HRR.out.1
          · rw [← HT.out.2]
            rcases Nat.lt_or_ge p n with h1 | h1
            · rw [HRR.out.2.2.1 h1 hmK, hu]
            · rw [tk_end h1, tk_end (show n ≤ p + u by omega)]
        clear hu hmK
        go_wp2_with fail
        refine ct.mono ?_
        rintro e w1 ⟨rfl, hw⟩
        subst w1
        go_wp2
        go_roundg (n + 2 - (p + u))
        case measure => omega
        case rel => exact ⟨p + u, rfl, by omega, by omega, by go_num, rfl, HN.out⟩
    · have y1 : ¬ (p : Int) ≤ (R : Int) := by omega
      have HN : Hid (tk K d n (i + K) = none) := by show tk K d n (i + K) = none; rw [← HT.out.2]; exact hMK.out p (by omega) HT.out.1 (by omega)
      go_wp2
      rw [← HQ.out]
      unfold ThP
      rw [(HEL.out.2 HN.out).1, (HEL.out.2 HN.out).2]
      refine ⟨?_, HS.out, grown_of (Below.refl _ _) _⟩
      simp
end Go.Proofs.YtodjfeheagnnpaaDoor
