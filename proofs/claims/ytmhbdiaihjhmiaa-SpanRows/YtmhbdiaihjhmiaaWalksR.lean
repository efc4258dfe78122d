/- SpanRows returns true for any row of spans, any number and either way of gluing, and writes nothing that was there. -/
import Derived.Test.YtmhbdiaihjhmiaaWalksQ
import Derived.Deep.RegionHeld3
namespace Go.Proofs.Ytmhbdiaihjhmiaa
open Go.RowKit Go.ChangeShapes
theorem Up.set {B g o : Nat} {a w : World} (h : Up B a w) (hg : B ≤ g) (u : Value) : Up B a (w.setCell ⟨g, o, none⟩ u) := ⟨h.1.setCell (p := ⟨g, o, none⟩) hg u, by simpa using h.2⟩
theorem own_put {w : World} {g n k : Nat} {G : Nat → Int × Int} (h : Own w g n G) (hk : k < n) (v : Value) :
    (w.setCell ⟨g, (k + 1) * 2, none⟩ v).cell? ⟨g, k * 2, none⟩ = some (.int .i64 (G k).1) ∧ (w.setCell ⟨g, (k + 1) * 2, none⟩ v).cell? ⟨g, k * 2 + 1, none⟩ = some (.int .i64 (G k).2) := by
  rw [World.cell?_setCell_other (h := by intro e; simp at e <;> omega), World.cell?_setCell_other (h := by intro e; simp at e <;> omega)]
  exact h.1 k hk
set_option maxRecDepth 100000 in
set_option maxHeartbeats 2000000 in
theorem rows_any (ad : Option Addr) (n c : Nat) (F : Nat → Int × Int) (m : Int) (gl : Bool) (w : World) (hn : n ≤ 100) (hnone : ad = none → n = 0 ∧ c = 0) (hc : ∀ d, ad = some d → ∀ j, j < n * 2 → w.cell? (d.add j) = some (cellOf F j)) :
    Calls Try.prog 6 #[.slice ad n c, .int .i64 m, .bool gl] w fun e w' => e = .returned (.bool true) ∧ Below w.heap.size w w' := by
  have HC : Hid (∀ d, ad = some d → ∀ j, j < n * 2 → w.cell? (d.add j) = some (cellOf F j)) := hc
  have HN : Hid (ad = none → n = 0 ∧ c = 0) := hnone
  clear hc hnone
  go_enter Try.func6, Try.ntmps6
  go_wp2_with fail
  refine (awake_any _).mono ?_
  rintro e w1 ⟨rfl, hb1⟩
  have HC1 : Hid (∀ d, ad = some d → ∀ j, j < n * 2 → w1.cell? (d.add j) = some (cellOf F j)) := fun d hd j hj => (hb1.cell (World.block_lt_of_cell? w _ (HC.out d hd j hj))).trans (HC.out d hd j hj)
  have HU1 : Hid (Up w.heap.size w w1) := (Up.refl w).stay hb1
  clear hb1 HC
  go_wp2_with (at_builtin; refine app_law w1 rfl (.tmp 18) (.tmp 19) rfl rfl ad n c F rfl hn HN.out HC1.out ?_; intro g cap w2 hO hg hB)
  have HU2 : Hid (Up w.heap.size w w2) := HU1.out.stay hB
  have HG : Hid (w.heap.size ≤ g) := Nat.le_trans HU1.out.2 hg
  have HO2 : Hid (∃ G, Own w2 g n G) := ⟨F, hO⟩
  clear HN HC1 HU1 hg hB hO
  go_loopg [23] n (fun k i wr => ∃ k' : Nat, k' ≤ n ∧ k = n - k' ∧ i = .int .i64 k' ∧ Hid (Up w.heap.size w wr) ∧ Hid (∃ G, Own wr g n G))
  case atStart => exact ⟨0, Nat.zero_le _, by omega, rfl, HU2, HO2⟩
  case round =>
    obtain ⟨k, hk, hgk, rfl, HU, HO⟩ := hrel
    clear HU2 HO2
    by_cases hlt : k < n
    · cases gl
      · go_wp2_with fail
        go_roundg (n - (k + 1))
        case measure => omega
        case rel => exact ⟨k + 1, by omega, rfl, by go_num, HU, HO⟩
      · obtain ⟨G, hG⟩ := HO.out
        clear HO
        have HOG : Hid (Own wr g n G) := hG
        obtain ⟨c0, c1⟩ := hG.1 k hlt
        have hfz := hG.2.1
        have hgz := hG.2.2
        clear hG
        cases hs : sndB (G k).1 (G k).2
        · go_wp2_with (go_at_call 12; refine (refSound_any _ _ _).mono ?_; rintro e w' ⟨rfl, rfl⟩)
          go_roundg (n - (k + 1))
          case measure => omega
          case rel => exact ⟨k + 1, by omega, rfl, by go_num, HU.out.alloc _, ⟨G, HOG.out.alloc _⟩⟩
        · obtain ⟨⟨q1, q2⟩, q3, q4⟩ := (snd_iff _ _).1 hs
          by_cases h0 : k = 0
          · subst h0
            go_wp2_with (go_at_call 12; refine (refSound_any _ _ _).mono ?_; rintro e w' ⟨rfl, rfl⟩)
            go_roundg (n - (0 + 1))
            case measure => omega
            case rel => exact ⟨0 + 1, by omega, rfl, by go_num, ((HU.out.set HG.out _).set HG.out _).alloc _, ⟨_, ((HOG.out.putLen 0 _).putAt 0 _).alloc _⟩⟩
          · obtain ⟨k', rfl⟩ : ∃ k', k = k' + 1 := ⟨k - 1, by omega⟩
            clear h0
            go_wp2_with (go_at_call 12; refine (refSound_any _ _ _).mono ?_; rintro e w' ⟨rfl, rfl⟩)
            obtain ⟨G2, hW⟩ : ∃ G2, Own (((wr.setCell ⟨g, (k' + 1) * 2 + 1, none⟩ (.int .i64 (1 + (G (k' + 1)).2 % 50))).setCell ⟨g, (k' + 1) * 2, none⟩ (.int .i64 0)).alloc (.cells #[.int .i64 (G (k' + 1)).1, .int .i64 (G (k' + 1)).2] 23)) g n G2 := ⟨_, ((HOG.out.putLen (k' + 1) _).putAt (k' + 1) _).alloc _⟩
            have HW : Hid (Own (((wr.setCell ⟨g, (k' + 1) * 2 + 1, none⟩ (.int .i64 (1 + (G (k' + 1)).2 % 50))).setCell ⟨g, (k' + 1) * 2, none⟩ (.int .i64 0)).alloc (.cells #[.int .i64 (G (k' + 1)).1, .int .i64 (G (k' + 1)).2] 23)) g n G2) := hW
            have HUW : Hid (Up w.heap.size w (((wr.setCell ⟨g, (k' + 1) * 2 + 1, none⟩ (.int .i64 (1 + (G (k' + 1)).2 % 50))).setCell ⟨g, (k' + 1) * 2, none⟩ (.int .i64 0)).alloc (.cells #[.int .i64 (G (k' + 1)).1, .int .i64 (G (k' + 1)).2] 23))) := ((HU.out.set HG.out _).set HG.out _).alloc _
            obtain ⟨t0, t1⟩ := hW.1 (k' + 1) hlt
            have tf := hW.2.1
            have hwk : IntKind.i64.wrap (k' : Int) = k' := Go.IntWalk.i64_in _ (by omega)
            have p0 : (0 : Int) ≤ (k' : Int) := by omega
            have p1 : (k' : Int) < (n : Int) := by omega
            have p2 : (0 : Int) ≤ (k' : Int) + 1 := by omega
            clear hW c0 c1 hfz hgz HU HOG q1 q2 q3 q4 hs
            go_region_held3 (fun w' => w'.cell? ⟨g, k' * 2, none⟩ = some (.int .i64 (G2 k').1) ∧ w'.cell? ⟨g, k' * 2 + 1, none⟩ = some (.int .i64 (G2 k').2)) (first | exact HW.out.drew.1 k' (by omega) | exact own_put HW.out.drew (by omega) _) (fail)
            go_wp2_with fail
            go_roundg (n - (k' + 1 + 1))
            case measure => omega
            case rel => exact ⟨k' + 1 + 1, by omega, rfl, by go_num, (HUW.out.set HG.out _).drew, ⟨_, (HW.out.putAt (k' + 1) _).drew⟩⟩
    · obtain ⟨G, hG⟩ := HO.out
      have HOG : Hid (Own wr g n G) := hG
      clear HO hG
      obtain rfl : k = n := by omega
      go_wp2_with fail
      go_loopg [8, 9, 10, 72] k (fun j ap cv la i wq => ∃ k' : Nat, k' ≤ k ∧ j = k - k' ∧ ap = .bool (apB G k') ∧ cv = .bool (cvB G k') ∧ la = .int .i64 (lastF G k') ∧ i = .int .i64 k' ∧ Hid (Up w.heap.size w wq) ∧ Hid (Own wq g k G))
      case atStart => exact ⟨0, Nat.zero_le _, by omega, rfl, rfl, rfl, rfl, HU, HOG⟩
      case round =>
        obtain ⟨j, hj, hgj, rfl, rfl, rfl, rfl, HV, HP⟩ := hrel
        clear HU HOG hgk hk hlt
        by_cases hlt2 : j < k
        · obtain ⟨c0, c1⟩ := HP.out.1 j hlt2
          have hgz := HP.out.2.2
          cases hs : sndB (G j).1 (G j).2
          · have ha : apB G k = false := apB_no G j (by simp [hs]) k hlt2
            have hv : cvB G k = false := cvB_no G j (by simp [hs]) k hlt2
            go_wp2_with (go_at_call 12; refine (refSound_any _ _ _).mono ?_; rintro e w' ⟨rfl, rfl⟩)
            refine (apart_any g 0 k cap G _ (by omega) ((HP.out.alloc _).alloc _).spans).mono ?_
            rintro e w5 ⟨rfl, hb5⟩
            have HU5 : Hid (Up w.heap.size w w5) := ((HV.out.alloc _).alloc _).stay hb5
            have HO5 : Hid (Own w5 g k G) := ((HP.out.alloc _).alloc _).stay hb5
            clear hb5
            go_wp2_with fail
            refine (cover_any g 0 k cap G m _ (by omega) HO5.out.spans).mono ?_
            rintro e w6 ⟨rfl, hb6⟩
            have HU6 : Hid (Up w.heap.size w w6) := HU5.out.stay hb6
            clear hb6
            go_wp2_with fail
            go_ret
            exact ⟨rfl, HU6.out.1⟩
          · obtain ⟨⟨q1, q2⟩, q3, q4⟩ := (snd_iff _ _).1 hs
            cases hap : apB G j
            · have HA1 : Hid (apB G (j + 1) = false) := by show apB G (j + 1) = false; simp [apB, hap]
              cases hcv : cvB G j
              · have HC1 : Hid (cvB G (j + 1) = false) := by show cvB G (j + 1) = false; simp [cvB, hcv]
                go_wp2_with (go_at_call 12; refine (refSound_any _ _ _).mono ?_; rintro e w' ⟨rfl, rfl⟩)
                go_roundg (k - (j + 1))
                case measure => omega
                case rel => exact ⟨j + 1, by omega, rfl, by rw [HA1.out], by rw [HC1.out], rfl, by go_num, (HV.out.alloc _).alloc _, (HP.out.alloc _).alloc _⟩
              · cases heq : ((G j).1 == lastF G j)
                · have HC1 : Hid (cvB G (j + 1) = false) := by show cvB G (j + 1) = false; simp only [cvB, heq, Bool.and_false]
                  go_wp2_with (go_at_call 12; refine (refSound_any _ _ _).mono ?_; rintro e w' ⟨rfl, rfl⟩)
                  go_roundg (k - (j + 1))
                  case measure => omega
                  case rel => exact ⟨j + 1, by omega, rfl, by rw [HA1.out], by rw [HC1.out], rfl, by go_num, (HV.out.alloc _).alloc _, (HP.out.alloc _).alloc _⟩
                · have E : Hid ((G j).1 = lastF G j) := eq_of_beq heq
                  have HQ : Hid (((G j).1 == lastF G j) = true) := heq
                  clear heq
                  rw [E.out] at c0 hs q1 q2
                  by_cases hz : 0 < (G j).2
                  · have HC1 : Hid (cvB G (j + 1) = true) := by
                      show cvB G (j + 1) = true
                      have hz' : ((G j).2 != 0) = true := by simp; omega
                      simp only [cvB, hcv, E.out, hs, beq_self_eq_true, hz', Bool.and_self]
                    go_wp2_with (go_at_call 12; refine (refSound_any _ _ _).mono ?_; rintro e w' ⟨rfl, rfl⟩)
                    go_roundg (k - (j + 1))
                    case measure => omega
                    case rel => exact ⟨j + 1, by omega, rfl, by rw [HA1.out], by rw [HC1.out], by show _ = Value.int .i64 ((G j).1 + (G j).2); rw [E.out], by go_num, (HV.out.alloc _).alloc _, (HP.out.alloc _).alloc _⟩
                  · have HC1 : Hid (cvB G (j + 1) = false) := by
                      show cvB G (j + 1) = false
                      have hz' : ((G j).2 != 0) = false := by simp; omega
                      simp only [cvB, hz', Bool.false_and, Bool.and_false]
                    have d3 : decide (0 < (G j).2) = false := by simpa using hz
                    go_wp2_with (go_at_call 12; refine (refSound_any _ _ _).mono ?_; rintro e w' ⟨rfl, rfl⟩)
                    go_roundg (k - (j + 1))
                    case measure => omega
                    case rel => exact ⟨j + 1, by omega, rfl, by rw [HA1.out], by rw [HC1.out], by show _ = Value.int .i64 ((G j).1 + (G j).2); rw [E.out], by go_num, (HV.out.alloc _).alloc _, (HP.out.alloc _).alloc _⟩
            · by_cases h2 : lastF G j ≤ (G j).1
              · have HA1 : Hid (apB G (j + 1) = true) := by show apB G (j + 1) = true; simp [apB, hap, hs, h2]
                cases hcv : cvB G j
                · have HC1 : Hid (cvB G (j + 1) = false) := by show cvB G (j + 1) = false; simp [cvB, hcv]
                  go_wp2_with (go_at_call 12; refine (refSound_any _ _ _).mono ?_; rintro e w' ⟨rfl, rfl⟩)
                  go_roundg (k - (j + 1))
                  case measure => omega
                  case rel => exact ⟨j + 1, by omega, rfl, by rw [HA1.out], by rw [HC1.out], rfl, by go_num, (HV.out.alloc _).alloc _, (HP.out.alloc _).alloc _⟩
                · cases heq : ((G j).1 == lastF G j)
                  · have HC1 : Hid (cvB G (j + 1) = false) := by show cvB G (j + 1) = false; simp only [cvB, heq, Bool.and_false]
                    go_wp2_with (go_at_call 12; refine (refSound_any _ _ _).mono ?_; rintro e w' ⟨rfl, rfl⟩)
                    go_roundg (k - (j + 1))
                    case measure => omega
                    case rel => exact ⟨j + 1, by omega, rfl, by rw [HA1.out], by rw [HC1.out], rfl, by go_num, (HV.out.alloc _).alloc _, (HP.out.alloc _).alloc _⟩
                  · have E : Hid ((G j).1 = lastF G j) := eq_of_beq heq
                    have HQ : Hid (((G j).1 == lastF G j) = true) := heq
                    clear heq
                    rw [E.out] at c0 hs q1 q2
                    by_cases hz : 0 < (G j).2
                    · have HC1 : Hid (cvB G (j + 1) = true) := by
                        show cvB G (j + 1) = true
                        have hz' : ((G j).2 != 0) = true := by simp; omega
                        simp only [cvB, hcv, E.out, hs, beq_self_eq_true, hz', Bool.and_self]
                      go_wp2_with (go_at_call 12; refine (refSound_any _ _ _).mono ?_; rintro e w' ⟨rfl, rfl⟩)
                      go_roundg (k - (j + 1))
                      case measure => omega
                      case rel => exact ⟨j + 1, by omega, rfl, by rw [HA1.out], by rw [HC1.out], by show _ = Value.int .i64 ((G j).1 + (G j).2); rw [E.out], by go_num, (HV.out.alloc _).alloc _, (HP.out.alloc _).alloc _⟩
                    · have HC1 : Hid (cvB G (j + 1) = false) := by
                        show cvB G (j + 1) = false
                        have hz' : ((G j).2 != 0) = false := by simp; omega
                        simp only [cvB, hz', Bool.false_and, Bool.and_false]
                      have d3 : decide (0 < (G j).2) = false := by simpa using hz
                      go_wp2_with (go_at_call 12; refine (refSound_any _ _ _).mono ?_; rintro e w' ⟨rfl, rfl⟩)
                      go_roundg (k - (j + 1))
                      case measure => omega
                      case rel => exact ⟨j + 1, by omega, rfl, by rw [HA1.out], by rw [HC1.out], by show _ = Value.int .i64 ((G j).1 + (G j).2); rw [E.out], by go_num, (HV.out.alloc _).alloc _, (HP.out.alloc _).alloc _⟩
              · have HA1 : Hid (apB G (j + 1) = false) := by show apB G (j + 1) = false; simp [apB, h2]
                have d2 : decide (lastF G j ≤ (G j).1) = false := by simpa using h2
                cases hcv : cvB G j
                · have HC1 : Hid (cvB G (j + 1) = false) := by show cvB G (j + 1) = false; simp [cvB, hcv]
                  go_wp2_with (go_at_call 12; refine (refSound_any _ _ _).mono ?_; rintro e w' ⟨rfl, rfl⟩)
                  go_roundg (k - (j + 1))
                  case measure => omega
                  case rel => exact ⟨j + 1, by omega, rfl, by rw [HA1.out], by rw [HC1.out], rfl, by go_num, (HV.out.alloc _).alloc _, (HP.out.alloc _).alloc _⟩
                · cases heq : ((G j).1 == lastF G j)
                  · have HC1 : Hid (cvB G (j + 1) = false) := by show cvB G (j + 1) = false; simp only [cvB, heq, Bool.and_false]
                    go_wp2_with (go_at_call 12; refine (refSound_any _ _ _).mono ?_; rintro e w' ⟨rfl, rfl⟩)
                    go_roundg (k - (j + 1))
                    case measure => omega
                    case rel => exact ⟨j + 1, by omega, rfl, by rw [HA1.out], by rw [HC1.out], rfl, by go_num, (HV.out.alloc _).alloc _, (HP.out.alloc _).alloc _⟩
                  · exact absurd (Int.le_of_eq (eq_of_beq heq).symm) h2
        · obtain rfl : j = k := by omega
          cases hv : cvB G j
          · cases ha : apB G j
            all_goals
              go_wp2_with fail
              refine (apart_any g 0 j cap G _ (by omega) HP.out.spans).mono ?_
              rintro e w5 ⟨rfl, hb5⟩
              have HU5 : Hid (Up w.heap.size w w5) := HV.out.stay hb5
              have HO5 : Hid (Own w5 g j G) := HP.out.stay hb5
              clear hb5
              go_wp2_with fail
              refine (cover_any g 0 j cap G m _ (by omega) HO5.out.spans).mono ?_
              rintro e w6 ⟨rfl, hb6⟩
              have HU6 : Hid (Up w.heap.size w w6) := HU5.out.stay hb6
              clear hb6
              go_wp2_with fail
              go_ret
              exact ⟨rfl, HU6.out.1⟩
          · cases hm : (lastF G j == m)
            all_goals
              cases ha : apB G j
              all_goals
                go_wp2_with fail
                refine (apart_any g 0 j cap G _ (by omega) HP.out.spans).mono ?_
                rintro e w5 ⟨rfl, hb5⟩
                have HU5 : Hid (Up w.heap.size w w5) := HV.out.stay hb5
                have HO5 : Hid (Own w5 g j G) := HP.out.stay hb5
                clear hb5
                go_wp2_with fail
                refine (cover_any g 0 j cap G m _ (by omega) HO5.out.spans).mono ?_
                rintro e w6 ⟨rfl, hb6⟩
                have HU6 : Hid (Up w.heap.size w w6) := HU5.out.stay hb6
                have HO6 : Hid (Own w6 g j G) := HO5.out.stay hb6
                clear hb6
                go_wp2_with fail
                refine (cover_any g 0 j cap G (lastF G j) _ (by omega) HO6.out.spans).mono ?_
                rintro e w7 ⟨rfl, hb7⟩
                have HU7 : Hid (Up w.heap.size w w7) := HU6.out.stay hb7
                clear hb7
                go_wp2_with fail
                go_ret
                exact ⟨rfl, HU7.out.1⟩
set_option maxHeartbeats 2000000 in
theorem rows_big (ad : Option Addr) (n c : Nat) (m : Int) (gl : Bool) (w : World) (hn : 100 < n) (hm : n ≤ maxLen) :
    Calls Try.prog 6 #[.slice ad n c, .int .i64 m, .bool gl] w fun e w' => e = .returned (.bool true) ∧ Below w.heap.size w w' := by
  unfold maxLen at hm
  go_enter Try.func6, Try.ntmps6
  go_wp2_with fail
  refine (awake_any _).mono ?_
  rintro e w1 ⟨rfl, hb1⟩
  go_wp2_with fail
  go_ret
  exact ⟨rfl, hb1⟩
theorem rows_all (ad : Option Addr) (n c : Nat) (F : Nat → Int × Int) (m : Int) (gl : Bool) (w : World) (hm : n ≤ maxLen) (hnone : ad = none → n = 0 ∧ c = 0) (hc : ∀ d, ad = some d → ∀ j, j < n * 2 → w.cell? (d.add j) = some (cellOf F j)) :
    Calls Try.prog 6 #[.slice ad n c, .int .i64 m, .bool gl] w fun e w' => e = .returned (.bool true) ∧ Below w.heap.size w w' := by
  by_cases hn : n ≤ 100
  · exact rows_any ad n c F m gl w hn hnone hc
  · exact rows_big ad n c m gl w (by omega) hm
end Go.Proofs.Ytmhbdiaihjhmiaa
