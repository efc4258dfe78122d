/- ListsLine. -/
import Derived.Test.YtgijihfijoiafaaGreatDoorQPAwkNil
import Derived.Test.YtgijihfijoiafaaGreatDoorQLin
namespace Go.Proofs.YtgijihfijoiafaaGreatDoor
set_option linter.unusedVariables false
open Go.RowKit Go.ChangeShapes

/-- Ints lie in memory. -/
def Ints (w : World) (ad : Option Addr) (n : Nat) (F : Nat → Int) : Prop := n = 0 ∨ ∃ b off, ad = some ⟨b, off, none⟩ ∧ ∀ i, i < n → w.cell? ⟨b, off + i, none⟩ = some (.int .i64 (F i))
/-- The first above nothing, from k on. -/
def wantL (F : Nat → Int) : Nat → Nat → Int
  | 0, _ => 0
  | d + 1, k => if 0 < F k then F k else wantL F d (k + 1)
set_option maxHeartbeats 1000000 in
set_option maxRecDepth 100000 in
theorem line_law (ad : Option Addr) (n cap : Nat) (F : Nat → Int) (c m : Int) (w : World) (hT : Tabs w) (hm : w.cell? ⟨3, 0, none⟩ = some (.int .i64 m)) (hE : Ety w) (hF : Ints w ad n F) :
    Calls Tryz.prog 9 #[.slice ad n cap, .int .i64 c] w fun e w' => e = .returned (.bool true) ∧ Below w.heap.size w w' := by
  have ca := awake_any m w hT hm
  clear hT hm
  go_enter Tryz.func9, Tryz.ntmps9
  go_wp2_with fail
  refine ca.mono ?_
  rintro e w1 ⟨rfl, hb1⟩
  have HU1 : Hid (Up w.heap.size w w1) := (Up.refl w).stay hb1
  have HE : Hid (Ety w1) := hE.stay hb1
  clear ca hb1 hE
  by_cases h30 : n ≤ 30
  · have h30' : ¬ (30 : Int) < (n : Int) := by omega
    have HF : Hid (Ints w ad n F) := hF
    clear hF
    by_cases hc : c = 0
    · subst hc
      go_wp2_with fail
      refine (of_nil w1).mono ?_
      rintro e w2 ⟨rfl, hw⟩
      subst w2
      go_wp2
      go_loopg [5, 6, 7] (n) (fun g ev want iv wr => ∃ k : Nat, k ≤ n ∧ g = k ∧ iv = .int .i64 ((k : Int) - 1) ∧ ev = .nilIface ∧ (∃ z, want = .int .i64 z) ∧ wr = w1)
      case atStart => exact ⟨n, Nat.le_refl _, rfl, rfl, rfl, ⟨0, rfl⟩, rfl⟩
      case round =>
        obtain ⟨k, hk, hg, rfl, rfl, ⟨z, rfl⟩, rfl⟩ := hrel
        match k, hk, hg with
        | 0, hk, hg =>
          go_wp2_with fail
          refine (line_nil _).mono ?_
          rintro e w3 ⟨rfl, hb3⟩
          have HU3 : Hid (Up w.heap.size w w3) := HU1.out.stay hb3
          clear hb3
          go_wp2
          go_ret
          exact ⟨rfl, HU3.out.1⟩
        | k + 1, hk, hg =>
          obtain h0 | ⟨b, off, rfl, hcc⟩ := HF.out
          · omega
          · have hck := cell_stay (hcc k (by omega)) HU1.out.1
            have z0 : (0 : Int) ≤ (k : Int) := by omega
            have z1 : (k : Int) < (n : Int) := by omega
            have hidx : ((k + 1 : Nat) : Int) - 1 = (k : Int) := by omega
            rw [hidx]
            have hge : ¬ (k : Int) < 0 := by omega
            obtain ⟨f, hf⟩ : ∃ f, F k = f := ⟨_, rfl⟩
            rw [hf] at hck
            clear hidx
            go_wp2_with fail
            refine (new_nil _ _ _).mono ?_
            rintro e w3 ⟨rfl, hw⟩
            subst w3
            by_cases hp : 0 < f
            · go_wp2
              go_roundg (k)
              case measure => omega
              case rel => exact ⟨k, by omega, rfl, rfl, rfl, ⟨_, rfl⟩, rfl⟩
            · go_wp2
              go_roundg (k)
              case measure => omega
              case rel => exact ⟨k, by omega, rfl, rfl, rfl, ⟨_, rfl⟩, rfl⟩
    · have hcb : (c == 0) = false := by simpa using hc
      go_wp2_with fail
      refine (of_any c w1 hcb).mono ?_
      rintro e w2 ⟨rfl, hw⟩
      subst w2
      go_wp2
      go_loopg [5, 6, 7] (n) (fun g ev want iv wr => ∃ (k : Nat) (l : List Nd), k ≤ n ∧ g = k ∧ iv = .int .i64 ((k : Int) - 1) ∧ ev = val l c ∧ want = .int .i64 (lin l) ∧ l.length + k = n ∧ Hid (Lie wr l c) ∧ Hid (Up w1.heap.size w1 wr))
      case atStart => exact ⟨n, [], Nat.le_refl _, rfl, rfl, rfl, rfl, by simp, trivial, Up.refl w1⟩
      case round =>
        obtain ⟨k, l, hk, hg, rfl, rfl, rfl, hln, HL, HU⟩ := hrel
        obtain ⟨T0, v0, hv0⟩ := val_shape l c
        match k, hk, hg, hln with
        | 0, hk, hg, hln =>
          have cl := line_any l c wr (by omega) HL.out (HE.out.stay HU.out.1)
          have hl0 : l.length = n := by omega
          rw [hv0] at cl ⊢
          generalize lin l = z at cl ⊢
          have HLN : Hid (l.length + 0 = n) := hln
          clear hln hv0 hl0
          go_wp2_with fail
          refine cl.mono ?_
          rintro e w3 ⟨rfl, hb3⟩
          have HU3 : Hid (Up w.heap.size w w3) := (HU1.out.stay (HU.out.1)).stay hb3
          clear hb3
          go_wp2
          go_ret
          exact ⟨rfl, HU3.out.1⟩
        | k + 1, hk, hg, hln =>
          obtain h0 | ⟨b, off, rfl, hcc⟩ := HF.out
          · omega
          · have hck := cell_stay (cell_stay (hcc k (by omega)) HU1.out.1) HU.out.1
            have z0 : (0 : Int) ≤ (k : Int) := by omega
            have z1 : (k : Int) < (n : Int) := by omega
            have hidx : ((k + 1 : Nat) : Int) - 1 = (k : Int) := by omega
            rw [hidx]
            have hge : ¬ (k : Int) < 0 := by omega
            obtain ⟨f, hf⟩ : ∃ f, F k = f := ⟨_, rfl⟩
            rw [hf] at hck
            have hnw := Lie.new HL.out ⟨#[120]⟩ f
            have hcn := ((HU.out.alloc (.cells #[.string ⟨#[120]⟩, .int .i64 f, val l c] 83)).1)
            have hck2 := cell_alloc hck (.cells #[.string ⟨#[120]⟩, .int .i64 f, val l c] 83)
            have HNW : Hid (Lie (wr.alloc (.cells #[.string ⟨#[120]⟩, .int .i64 f, val l c] 83)) (⟨wr.heap.size, ⟨#[120]⟩, f⟩ :: l) c) := hnw
            have HUN : Hid (Up w1.heap.size w1 (wr.alloc (.cells #[.string ⟨#[120]⟩, .int .i64 f, val l c] 83))) := HU.out.alloc _
            rw [hv0] at HNW HUN hck2 ⊢
            have HLN : Hid (l.length + (k + 1) = n) := hln
            obtain ⟨z, hz⟩ : ∃ z, lin l = z := ⟨_, rfl⟩
            rw [hz]
            have HZ : Hid (lin l = z) := hz
            clear hidx hln hnw hcn hz hv0
            go_wp2_with fail
            refine (new_any _ _ _ _ _).mono ?_
            rintro e w3 ⟨rfl, hw⟩
            subst w3
            by_cases hp : 0 < f
            · have hlin : lin (⟨wr.heap.size, ⟨#[120]⟩, f⟩ :: l) = f := by simp [lin, hp]
              have HLI : Hid (lin (⟨wr.heap.size, ⟨#[120]⟩, f⟩ :: l) = f) := hlin
              clear hlin
              go_wp2
              go_roundg (k)
              case measure => omega
              case rel => exact ⟨k, ⟨wr.heap.size, ⟨#[120]⟩, f⟩ :: l, by omega, rfl, rfl, rfl, by rw [HLI.out], by have := HLN.out; simp; omega, HNW, HUN⟩
            · have hlin : lin (⟨wr.heap.size, ⟨#[120]⟩, f⟩ :: l) = z := by simp [lin, hp]; exact HZ.out
              have HLI : Hid (lin (⟨wr.heap.size, ⟨#[120]⟩, f⟩ :: l) = z) := hlin
              clear hlin
              go_wp2
              go_roundg (k)
              case measure => omega
              case rel => exact ⟨k, ⟨wr.heap.size, ⟨#[120]⟩, f⟩ :: l, by omega, rfl, rfl, rfl, by rw [HLI.out], by have := HLN.out; simp; omega, HNW, HUN⟩
  · have h30' : (30 : Int) < (n : Int) := by omega
    go_wp2
    go_ret
    exact ⟨rfl, HU1.out.1⟩
end Go.Proofs.YtgijihfijoiafaaGreatDoor
