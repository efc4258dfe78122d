/- What Apart answers for any row of spans. -/
import Derived.Test.YtmhbdiaihjhmiaaKit
import Derived.Deep.LoopGhost
namespace Go.Proofs.Ytmhbdiaihjhmiaa
open Go.RowKit Go.ChangeShapes
/-- n spans lie in block b from off on. -/
def Spans (w : World) (b off n : Nat) (F : Nat → Int × Int) : Prop := ∀ i, i < n → b < w.heap.size ∧ w.cell? ⟨b, off + i * 2, none⟩ = some (.int .i64 (F i).1) ∧ w.cell? ⟨b, off + i * 2 + 1, none⟩ = some (.int .i64 (F i).2)
theorem Spans.stay {w w' : World} {b off n : Nat} {F : Nat → Int × Int} (h : Spans w b off n F) (hb : Below w.heap.size w w') : Spans w' b off n F :=
  fun i hi => ⟨Nat.lt_of_lt_of_le (h i hi).1 hb.size, (hb.cell (p := ⟨b, off + i * 2, none⟩) (h i hi).1).trans (h i hi).2.1, (hb.cell (p := ⟨b, off + i * 2 + 1, none⟩) (h i hi).1).trans (h i hi).2.2⟩
def lastF (F : Nat → Int × Int) : Nat → Int
  | 0 => 0
  | k + 1 => (F k).1 + (F k).2
def apB (F : Nat → Int × Int) : Nat → Bool
  | 0 => true
  | k + 1 => apB F k && (sndB (F k).1 (F k).2 && decide (lastF F k ≤ (F k).1))
def cvB (F : Nat → Int × Int) : Nat → Bool
  | 0 => true
  | k + 1 => cvB F k && (sndB (F k).1 (F k).2 && ((F k).2 != 0 && (F k).1 == lastF F k))
theorem Spans.alloc {w : World} {b off n : Nat} {F : Nat → Int × Int} (h : Spans w b off n F) (o : Obj) : Spans (w.alloc o) b off n F := h.stay ((Below.refl _ _).alloc (Nat.le_refl _) o)
theorem Spans.drew {w : World} {b off n : Nat} {F : Nat → Int × Int} (h : Spans w b off n F) : Spans w.drew b off n F := h.stay ((Below.refl _ _).drew)
theorem apB_no (F : Nat → Int × Int) (k : Nat) (h : (sndB (F k).1 (F k).2 && decide (lastF F k ≤ (F k).1)) = false) : ∀ n, k < n → apB F n = false
  | 0, hk => absurd hk (Nat.not_lt_zero _)
  | n + 1, hk => by
    by_cases e : k = n
    · subst e; simp only [apB, h, Bool.and_false]
    · simp only [apB, apB_no F k h n (by omega), Bool.false_and]
theorem apB_yes (F : Nat → Int × Int) (k : Nat) (h0 : apB F k = true) (h1 : sndB (F k).1 (F k).2 = true) (h2 : lastF F k ≤ (F k).1) : apB F (k + 1) = true := by
  simp only [apB, h0, h1, h2, decide_true, Bool.and_self]
theorem cvB_no (F : Nat → Int × Int) (k : Nat) (h : (sndB (F k).1 (F k).2 && ((F k).2 != 0 && (F k).1 == lastF F k)) = false) : ∀ n, k < n → cvB F n = false
  | 0, hk => absurd hk (Nat.not_lt_zero _)
  | n + 1, hk => by
    by_cases e : k = n
    · subst e; simp only [cvB, h, Bool.and_false]
    · simp only [cvB, cvB_no F k h n (by omega), Bool.false_and]
theorem ret_bool {a b : Bool} (h : a = b) : Ending.returned (.bool a) = .returned (.bool b) := by rw [h]
set_option maxHeartbeats 1000000 in
theorem apart_any (b off n c : Nat) (F : Nat → Int × Int) (w : World) (hn : n ≤ 1000) (hr : Spans w b off n F) :
    Calls Try.prog 18 #[.slice (some ⟨b, off, none⟩) n c] w fun e w' => e = .returned (.bool (apB F n)) ∧ Below w.heap.size w w' := by
  have HR : Hid (Spans w b off n F) := hr
  clear hr
  go_enter Try.func18, Try.ntmps18
  go_wp2
  go_loopg [3, 8] n (fun g last i wr => ∃ k : Nat, k ≤ n ∧ g = n - k ∧ i = .int .i64 k ∧ last = .int .i64 (lastF F k) ∧ Hid (apB F k = true) ∧ Hid (Up w.heap.size w wr) ∧ Hid (Spans wr b off n F))
  case atStart => exact ⟨0, Nat.zero_le _, by omega, rfl, rfl, rfl, Up.refl w, HR.out⟩
  case round =>
    obtain ⟨k, hk, hg, rfl, rfl, HA, HU, HS⟩ := hrel
    by_cases hlt : k < n
    · obtain ⟨hb, c0, c1⟩ := HS.out k hlt
      cases h1 : sndB (F k).1 (F k).2
      · have HF : Hid (apB F n = false) := apB_no F k (by simp [h1]) n hlt
        go_wp2_with (go_at_call 20; refine (sound_any _ _ _).mono ?_; rintro e w' ⟨rfl, rfl⟩)
        go_ret
        exact ⟨ret_bool HF.out.symm, ((HU.out.alloc _).alloc _).1⟩
      · by_cases h2 : lastF F k ≤ (F k).1
        · have HN : Hid (apB F (k + 1) = true) := apB_yes F k HA.out h1 h2
          go_wp2_with (first | (go_at_call 20; refine (sound_any _ _ _).mono ?_; rintro e w' ⟨rfl, rfl⟩) | (go_at_call 21; refine (end_any _ _ _ h1).mono ?_; rintro e w' ⟨rfl, rfl⟩))
          go_roundg (n - (k + 1))
          case measure => omega
          case rel => exact ⟨k + 1, by omega, rfl, by go_num, rfl, HN, ((HU.out.alloc _).alloc _).alloc _, ((HS.out.alloc _).alloc _).alloc _⟩
        · have HF : Hid (apB F n = false) := apB_no F k (by simp [h1]; omega) n hlt
          go_wp2_with (go_at_call 20; refine (sound_any _ _ _).mono ?_; rintro e w' ⟨rfl, rfl⟩)
          go_ret
          exact ⟨ret_bool HF.out.symm, ((HU.out.alloc _).alloc _).1⟩
    · obtain rfl : k = n := by omega
      go_wp2_with fail
      go_ret
      exact ⟨ret_bool HA.out.symm, HU.out.1⟩
set_option maxHeartbeats 1000000 in
theorem cover_any (b off n c : Nat) (F : Nat → Int × Int) (m : Int) (w : World) (hn : n ≤ 1000) (hr : Spans w b off n F) :
    Calls Try.prog 19 #[.slice (some ⟨b, off, none⟩) n c, .int .i64 m] w fun e w' => e = .returned (.bool (cvB F n && (lastF F n == m))) ∧ Below w.heap.size w w' := by
  have HR : Hid (Spans w b off n F) := hr
  clear hr
  go_enter Try.func19, Try.ntmps19
  go_wp2
  go_loopg [5, 10] n (fun g last i wr => ∃ k : Nat, k ≤ n ∧ g = n - k ∧ i = .int .i64 k ∧ last = .int .i64 (lastF F k) ∧ Hid (cvB F k = true) ∧ Hid (Up w.heap.size w wr) ∧ Hid (Spans wr b off n F))
  case atStart => exact ⟨0, Nat.zero_le _, by omega, rfl, rfl, rfl, Up.refl w, HR.out⟩
  case round =>
    obtain ⟨k, hk, hg, rfl, rfl, HA, HU, HS⟩ := hrel
    by_cases hlt : k < n
    · obtain ⟨hb, c0, c1⟩ := HS.out k hlt
      cases h1 : sndB (F k).1 (F k).2
      · have HF : Hid (cvB F n = false) := cvB_no F k (by simp [h1]) n hlt
        go_wp2_with (go_at_call 20; refine (sound_any _ _ _).mono ?_; rintro e w' ⟨rfl, rfl⟩)
        go_ret
        exact ⟨ret_bool (by rw [HF.out, Bool.false_and]), ((HU.out.alloc _).alloc _).1⟩
      · cases h2 : ((F k).2 == 0)
        · cases h3 : ((F k).1 == lastF F k)
          · have HF : Hid (cvB F n = false) := cvB_no F k (by simp [h3]) n hlt
            have h3' : ((F k).1 != lastF F k) = true := by simp only [bne, h3, Bool.not_false]
            go_wp2_with (go_at_call 20; refine (sound_any _ _ _).mono ?_; rintro e w' ⟨rfl, rfl⟩)
            go_ret
            exact ⟨ret_bool (by rw [HF.out, Bool.false_and]), ((HU.out.alloc _).alloc _).1⟩
          · have HN : Hid (cvB F (k + 1) = true) := by
              have := HA.out
              show cvB F (k + 1) = true
              simp only [cvB, this, h1, h3, bne, h2, Bool.not_false, Bool.and_self]
            have h3' : ((F k).1 != lastF F k) = false := by simp only [bne, h3, Bool.not_true]
            go_wp2_with (first | (go_at_call 20; refine (sound_any _ _ _).mono ?_; rintro e w' ⟨rfl, rfl⟩) | (go_at_call 21; refine (end_any _ _ _ h1).mono ?_; rintro e w' ⟨rfl, rfl⟩))
            go_roundg (n - (k + 1))
            case measure => omega
            case rel => exact ⟨k + 1, by omega, rfl, by go_num, rfl, HN, ((HU.out.alloc _).alloc _).alloc _, ((HS.out.alloc _).alloc _).alloc _⟩
        · have HF : Hid (cvB F n = false) := cvB_no F k (by simp only [bne, h2, Bool.not_true, Bool.false_and, Bool.and_false]) n hlt
          go_wp2_with (go_at_call 20; refine (sound_any _ _ _).mono ?_; rintro e w' ⟨rfl, rfl⟩)
          go_ret
          exact ⟨ret_bool (by rw [HF.out, Bool.false_and]), ((HU.out.alloc _).alloc _).1⟩
    · obtain rfl : k = n := by omega
      go_wp2_with fail
      go_ret
      exact ⟨ret_bool (by rw [HA.out, Bool.true_and]), HU.out.1⟩
end Go.Proofs.Ytmhbdiaihjhmiaa
