/- The library contracts at this program: IndexByte. -/
import Derived.Shelf.Bytes.SlIndexAt
import Derived.Shelf.Bytes.IndexByte
import Derived.Test.YtbhjkkbempnjeaaDoorProg
import Derived.Test.YtbhjkkbempnjeaaDoorwMea
namespace Go.Proofs
open Go.Shelf
def Tryd.lays187_ren : Go.Shelf.Ren := ⟨fun | 187 => 63 | 255 => 75 | n => n, fun | 37 => 22 | 5 => 5 | 3 => 3 | n => n, fun | n => n⟩
theorem Tryd.lays187 : Go.Proofs.Lays.n187 Tryd.prog Tryd.lays187_ren := {
  mixed := by kernel_rfl
  f187 := Tryd.func63.trans (congrArg some (by kernel_rfl))
  f255 := Tryd.func75.trans (congrArg some (by kernel_rfl))
  t3 := Tryd.underlying3
  a3 := Tryd.isAgg3
  z3 := Tryd.sizeOf3
  v3 := Tryd.zeroValue3
  t5 := Tryd.underlying5
  a5 := Tryd.isAgg5
  z5 := Tryd.sizeOf5
  v5 := Tryd.zeroValue5
  t37 := Tryd.underlying22
  a37 := Tryd.isAgg22
  z37 := Tryd.sizeOf22
  v37 := Tryd.zeroValue22 }
open Go.RowKit Go.Lib in
theorem Tryd.bytes_IndexByte_at (a : Addr) (n c : Nat) (xs : List Int) (cv : Int) (w : World) (hx : xs.length = n) (hc : ∀ i, i < n → w.cell? (a.add i) = some (.int .u8 (xs.getD i 0))) :
    Calls Tryd.prog 63 #[.slice (some a) n c, .int .u8 cv] w fun e w' => e = .returned (.int .i64 (Lib.indexByte (Lib.bytesOf xs) cv.toNat.toUInt8)) ∧ w' = w := Any.bytes_IndexByte_at Tryd.lays187 a n c xs cv w hx hc
theorem Tryd.bytes_IndexByte_nil (cv : Int) (w : World) :
    Calls Tryd.prog 63 #[.slice none 0 0, .int .u8 cv] w fun e w' => e = .returned (.int .i64 (-1)) ∧ w' = w := Any.bytes_IndexByte_nil Tryd.lays187 cv w
end Go.Proofs
/- decode.Entity. -/
namespace Go.Proofs.YtbhjkkbempnjeaaDoor
set_option linter.unusedVariables false
open Go.RowKit Go.ChangeShapes
theorem idxS_any {w : World} {a : Addr} {m cap : Nat} {c : Nat → Int} (hC : ∀ j, j < m → 0 ≤ c j ∧ c j < 256) (h1 : BC w (some a) m c) :
    Calls Tryd.prog 63 #[.slice (some a) m cap, .int .u8 59] w fun e w' => e = .returned (.int .i64 (if fs (fun j => c j == 59) m 0 < m then (fs (fun j => c j == 59) m 0 : Int) else -1)) ∧ w' = w := by
  have hb := Tryd.bytes_IndexByte_at a m cap (cl c m) 59 w (cl_len c m) (fun i hi => by rw [cl_getD c m i hi]; exact h1.add rfl i hi)
  obtain ⟨c', hc'⟩ : ∃ c' : Nat → Int, c' = fun j => if j < m then c j else -1 := ⟨_, rfl⟩
  have hin : ∀ j, j < m → c' j = c j := fun j hj => by rw [hc']; exact if_pos hj
  have hCh : Ch c' m := ⟨fun j hj => by rw [hin j hj]; exact hC j hj, fun j hj => by rw [hc']; exact if_neg (by omega)⟩
  have hcl : cl c m = cl c' m := List.map_congr_left fun j hj => (hin j (List.mem_range.1 hj)).symm
  have hfs : fs (oc [59] c') m 0 = fs (fun j => c j == 59) m 0 := by
    refine fs_is (Nat.zero_le _) (fs_le _ (Nat.zero_le _)) (fun k _ hk => ?_) (fun hlt => ?_)
    · have h2 := fs_before (P := fun j => c j == 59) (n := m) (i := 0) (k := k) (Nat.zero_le _) hk
      have h3 := fs_le (fun j => c j == 59) (n := m) (i := 0) (Nat.zero_le _)
      rw [oc1, hin k (by omega)]
      exact h2
    · have h2 := fs_hit (P := fun j => c j == 59) (n := m) (i := 0) hlt
      rw [oc1, hin _ hlt]
      exact h2
  rw [← Lib.index_one, show [((59 : Int).toNat.toUInt8)] = Lib.bytesOf [59] from rfl, hcl, index_ix hCh [59] (byt1 59 (by decide)) (by simp)] at hb
  unfold ixI at hb
  rw [hfs] at hb
  exact hb
set_option maxRecDepth 100000 in
set_option maxHeartbeats 2000000 in
theorem ent_any {w : World} {ad : Option Addr} {n cap : Nat} {c : Nat → Int} (hC : ∀ j, j < n → 0 ≤ c j ∧ c j < 256) (hb : BC w ad n c) (hcap : n ≤ cap) (h0 : 0 < n) (hn : n ≤ 100000) (hbig : cap ≤ 9223372036854775807) (hE : Ers w) (hT : Ent w) :
    Calls Tryd.prog 46 #[.slice ad n cap] w fun e w' => e = .returned (ans (nv c n)) ∧ Below w.heap.size w w' := by
  obtain ⟨b, off, rfl, hc0⟩ := hb 0 (by omega)
  rw [Nat.add_zero] at hc0
  obtain ⟨m, hm⟩ : ∃ m, min n 13 = m := ⟨_, rfl⟩
  have hmin : min (n : Int) 13 = (m : Int) := by omega
  have hmn : m ≤ n := by omega
  have hm0 : 0 < m := by omega
  have hci := idxS_any (cap := cap) (fun j hj => hC j (by omega)) (hb.upto hmn)
  have z1 : (0 : Int) ≤ (m : Int) := by omega
  have z2 : (m : Int) ≤ (cap : Int) := by omega
  have z3 : m ≤ cap := by omega
  have z4 : (0 : Int) < (n : Int) := by omega
  by_cases hp : fs (fun j => c j == 59) m 0 < m
  · rw [if_pos hp] at hci
    have hhit := fs_hit (P := fun j => c j == 59) (n := m) (i := 0) hp
    have hbef : ∀ k, k < fs (fun j => c j == 59) m 0 → c k ≠ 59 := fun k hk => by
      have := fs_before (P := fun j => c j == 59) (n := m) (i := 0) (k := k) (Nat.zero_le _) hk
      simpa using this
    obtain ⟨q, hq⟩ : ∃ q, fs (fun j => c j == 59) m 0 = q := ⟨_, rfl⟩
    rw [hq] at hci hhit hbef hp
    have h59 : c q = 59 := by simpa using hhit
    by_cases h38 : c 0 = 38
    · obtain ⟨p, rfl⟩ : ∃ p, q = p + 1 := ⟨q - 1, by
        have : q ≠ 0 := fun e => by rw [e, h38] at h59; exact absurd h59 (by decide)
        omega⟩
      have hnv := nv_hit (n := n) (i := p + 1) h38 (by omega) (by omega) h59 (fun k _ hk => hbef k hk)
      rw [show p + 1 - 1 = p by omega] at hnv
      have hfr := (BC.from hb 1 (by omega) hcap).upto (m := p) (by omega)
      rw [if_neg (by omega)] at hfr
      have hcv := str_bc (cap := cap - 1) hfr
      obtain ⟨S, hS⟩ : ∃ S, strOfNums (cl (fun j => c (1 + j)) p) = S := ⟨_, rfl⟩
      rw [hS] at hcv
      obtain ⟨l, hl⟩ : ∃ l, cl (fun j => c (1 + j)) p = l := ⟨_, rfl⟩
      rw [hl] at hS hnv
      have hll : l.length ≤ 100000 := by rw [← hl, cl_len]; omega
      have hlb : Byt l := by rw [← hl]; exact cl_byt2 fun j hj => hC (1 + j) (by omega)
      have cm := meant_any hlb hll hS w hE hT
      have hci' : Calls Tryd.prog 63 #[.slice (some ⟨b, off, none⟩) m cap, .int .u8 59] w fun e w' => e = .returned (.int .i64 ((p : Int) + 1)) ∧ w' = w := by
        have e : ((p + 1 : Nat) : Int) = (p : Int) + 1 := by omega
        rw [e] at hci
        exact hci
      have hc1 : ¬ cap = 1 := by omega
      have y1 : (0 : Int) ≤ (p : Int) + 1 := by omega
      have y2 : ¬ (p : Int) + 1 < 0 := by omega
      have y3 : (1 : Int) ≤ (p : Int) + 1 := by omega
      have y4 : (p : Int) + 1 ≤ (cap : Int) := by omega
      have y5 : wrap64 ((p : Int) + 1 + 1) = (p : Int) + 1 + 1 := by rw [← wrap_is]; exact IntWalk.i64_in _ (by omega)
      rw [hnv]
      rw [h38] at hc0
      clear hC hb hci hhit hbef hq h59 h38 hnv hfr hS hl hll hlb hE hT hm hp hcap
      cases hv : enV l with
      | some r =>
        rw [hv] at cm
        simp only [opt] at cm
        show Calls _ _ _ _ fun e w' => e = .returned (ans (some (r, p + 1 + 1))) ∧ _
        clear hv
        go_enter Tryd.func46, Tryd.ntmps46
        go_wp2_with fail
        refine hci'.mono ?_
        rintro e w1 ⟨rfl, hw⟩
        subst w1
        go_wp2_with fail
        refine cm.mono ?_
        rintro e w1 ⟨rfl, hb1⟩
        clear cm hci'
        go_wp2
        refine bodyPost_ret (v := ans (some (r, p + 1 + 1))) (by simp [results, Tryd.results46, go_sem, ans, y5]) rfl ?_
        exact ⟨rfl, hb1⟩
      | none =>
        rw [hv] at cm
        simp only [opt] at cm
        show Calls _ _ _ _ fun e w' => e = .returned (ans none) ∧ _
        clear hv
        go_enter Tryd.func46, Tryd.ntmps46
        go_wp2_with fail
        refine hci'.mono ?_
        rintro e w1 ⟨rfl, hw⟩
        subst w1
        go_wp2_with fail
        refine cm.mono ?_
        rintro e w1 ⟨rfl, hb1⟩
        clear cm hci'
        go_wp2
        refine bodyPost_ret (v := ans none) (by simp [results, Tryd.results46, go_sem, ans]) rfl ?_
        exact ⟨rfl, hb1⟩
    · rw [nv_first (Or.inr h38)]
      have hk : (c 0 != 38) = true := by simpa using h38
      obtain ⟨x, hx⟩ : ∃ x, c 0 = x := ⟨_, rfl⟩
      rw [hx] at hc0 hk
      have y2 : ¬ (q : Int) < 0 := by omega
      clear hC hb hhit hbef hq h59 h38 hE hT hm hp hx hcap
      go_enter Tryd.func46, Tryd.ntmps46
      go_wp2_with fail
      refine hci.mono ?_
      rintro e w1 ⟨rfl, hw⟩
      subst w1
      go_wp2
      refine bodyPost_ret (v := ans none) (by simp [results, Tryd.results46, go_sem, ans]) rfl ?_
      exact ⟨rfl, Below.refl _ _⟩
  · rw [if_neg hp] at hci
    rw [nv_out fun k _ hk => by
      have hle := fs_le (fun j => c j == 59) (n := m) (i := 0) (Nat.zero_le _)
      have h2 := fs_before (P := fun j => c j == 59) (n := m) (i := 0) (k := k) (Nat.zero_le _) (by omega)
      simpa using h2]
    clear hC hb hc0 hE hT hm hp hcap
    go_enter Tryd.func46, Tryd.ntmps46
    go_wp2_with fail
    refine hci.mono ?_
    rintro e w1 ⟨rfl, hw⟩
    subst w1
    go_wp2
    refine bodyPost_ret (v := ans none) (by simp [results, Tryd.results46, go_sem, ans]) rfl ?_
    exact ⟨rfl, Below.refl _ _⟩
end Go.Proofs.YtbhjkkbempnjeaaDoor
