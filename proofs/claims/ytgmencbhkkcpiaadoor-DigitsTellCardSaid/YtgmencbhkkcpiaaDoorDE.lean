/- Contracts of strconv: FormatUint at base 10. -/
import Derived.Test.YtgmencbhkkcpiaaDoorDB
import Derived.Test.YtgmencbhkkcpiaaDoorShelfB
import Derived.Deep.RegionHeld3
import Derived.Lib.ItoaMem
import Derived.Lib.AppendIntMem
import Derived.Lib.Walk
import Derived.BigCall
import Derived.BigGuard
namespace Go.Proofs.YtgmencbhkkcpiaaDoor
open Go Go.RowKit Go.Lib Go.Sort

abbrev u8v : UInt8 → Value := fun b => .int .u8 (b.toNat : Int)
/-- a new row of bytes, all nought, from its first place on. -/
theorem noughts (w : World) (T : TypeId) (k : Nat) (hk : k ≤ 24) : Holds u8v (w.alloc (.cells Lib.zeros24 T)) w.heap.size 0 (Array.replicate k (0 : UInt8)) := fun j hj => by
  have hj' : j < k := by simpa using hj
  refine ⟨?_, World.frozen?_alloc_new _ _ _ _⟩
  rw [World.cell?_alloc_new, Lib.zeros24_at _ (by omega), getElem!_pos _ j hj]
  simp
set_option maxRecDepth 100000 in
set_option maxHeartbeats 6400000 in
theorem ifu_small (i : Nat) (hi : i < 100) (w : World) : Calls Tryd.prog 58 #[.int .u64 i, .int .i64 10] w fun e w' => e = .returned (.string ⟨(Lib.decDigits i).toArray⟩) ∧ w' = w := by
  go_enter Tryd.func58, Tryd.ntmps58
  go_wp2_with fail
  refine (Tryd.internal_strconv_small i hi _).mono ?_
  rintro e w' ⟨rfl, rfl⟩
  go_wp2
  go_ret
  exact ⟨rfl, rfl⟩
set_option maxRecDepth 100000 in
set_option maxHeartbeats 6400000 in
theorem ifu_big (u : Nat) (h1 : 100 ≤ u) (hu64 : u < 18446744073709551616) (w : World) (htab : Lib.TabIs Tryd.prog w "internal/strconv.uint64pow10" .u64 Lib.pow10Tab) :
    Calls Tryd.prog 58 #[.int .u64 u, .int .i64 10] w fun e w' => e = .returned (.string ⟨(Lib.decDigits u).toArray⟩) ∧ Below w.heap.size w w' := by
  have hu1 : 1 ≤ u := by omega
  have hnd : Lib.nDigits u ≤ 20 := by have := Lib.numDigits_eq u hu1 hu64; split at this <;> omega
  have hlt := Lib.lt_pow_nDigits u
  obtain ⟨k, hk⟩ : ∃ k, Lib.nDigits u = k := ⟨_, rfl⟩
  have hH := Lib.hid (noughts w 94 k (by omega))
  have hfmt := Tryd.internal_strconv_formatBase10 w.heap.size 0 24 u (Array.replicate k 0) (w.alloc (.cells Lib.zeros24 94)) hH.out (by rw [Array.size_replicate, ← hk]; exact hlt) hu64 (by rw [Array.size_replicate]; omega)
  rw [Array.size_replicate] at hfmt
  have hnum := Tryd.internal_strconv_numDigits u hu1 hu64 (w.alloc (.cells Lib.zeros24 94)) (Lib.tabIs_alloc htab _)
  rw [hk] at hnum
  have HF := Lib.hid hfmt
  have HNU := Lib.hid hnum
  have HKK := Lib.hid hk
  have HB := Lib.hid (And.intro hnd (show k ≤ 24 by omega))
  clear hfmt hnum hk hlt hnd
  go_enter Tryd.func58, Tryd.ntmps58
  go_wp2_with fail
  refine HNU.out.mono ?_
  rintro e w' ⟨rfl, rfl⟩
  have hk0 : (0 : Int) ≤ (k : Int) := by omega
  have hk24 : (k : Int) ≤ 24 := by have := HB.out.2; omega
  go_wp2_with fail
  refine HF.out.mono ?_
  rintro e w' ⟨rfl, q, v', dk, hw', hF⟩
  have hcv : (convert 34 9 (.slice (some ⟨w.heap.size, 0, none⟩) k 24)).run Tryd.prog w' = .ok (.string ⟨(Lib.decDigits u).toArray⟩) w' := by
    rw [hw']
    have h := run_convert_bytes_back (P := Tryd.prog) ((putRow u8v (w.alloc (.cells Lib.zeros24 94)) w.heap.size 0 dk).drewN q) 34 9 5 ⟨w.heap.size, 0, none⟩ 24 (Lib.decDigits u) Tryd.underlying34 Tryd.underlying5 Tryd.underlying9 (fun j hj => by
      have hj' : j < k := by rw [Lib.decDigits_length, HKK.out] at hj; exact hj
      rw [← HKK.out] at hF
      rw [Lib.row_is_numeral hF j hj, Lib.add_plain, World.cell?_drewN]
      exact cell?_putRow u8v _ w.heap.size 0 _ dk hH.out (by rw [hF.size, Array.size_replicate, HKK.out]) j (by rw [hF.size, HKK.out]; exact hj'))
    rw [Lib.decDigits_length, HKK.out] at h
    exact h
  have hbl : Below w.heap.size w w' := by
    rw [hw', alloc_eq_grow]
    obtain ⟨os', _, e⟩ := putRow_grow_new u8v w #[.cells Lib.zeros24 94] w.heap.size 0 dk (Nat.le_refl _)
    rw [e]
    exact Lib.below_grow _ w (Nat.le_refl _) q os'
  have HBL := Lib.hid hbl
  clear hw' hF hbl
  go_wp2
  go_ret
  exact ⟨rfl, HBL.out⟩
set_option maxHeartbeats 1000000 in
theorem fu10_any (u : Nat) (hu64 : u < 18446744073709551616) (w : World) (htab : Lib.TabIs Tryd.prog w "internal/strconv.uint64pow10" .u64 Lib.pow10Tab) :
    Calls Tryd.prog 37 #[.int .u64 u, .int .i64 10] w fun e w' => e = .returned (.string ⟨(Lib.decDigits u).toArray⟩) ∧ Below w.heap.size w w' := by
  have hc : Calls Tryd.prog 58 #[.int .u64 u, .int .i64 10] w fun e w' => e = .returned (.string ⟨(Lib.decDigits u).toArray⟩) ∧ Below w.heap.size w w' := by
    by_cases h : u < 100
    · exact (ifu_small u h w).mono fun e w' ⟨he, hw⟩ => ⟨he, by subst hw; exact Below.refl _ _⟩
    · exact ifu_big u (by omega) hu64 w htab
  have HC := Lib.hid hc
  clear hc
  go_enter Tryd.func37, Tryd.ntmps37
  go_wp2_with fail
  refine HC.out.mono ?_
  rintro e w' ⟨rfl, hb⟩
  have HB := Lib.hid hb
  clear hb
  go_wp2
  go_ret
  exact ⟨rfl, HB.out⟩
end Go.Proofs.YtgmencbhkkcpiaaDoor
