/- The length of 32 bits and the noughts at its low end; the table that is read for them. -/
import Derived.Test.YtopkndkicdgafaaDoorLeaf
import Derived.Test.YtopkndkicdgafaaDoorShelf
namespace Go.Proofs.YtopkndkicdgafaaDoor
open Go.RowKit
theorem len32_any (w : World) (x : Nat) (hx : x < Bs) : Calls Tryd.prog 87 #[d32 x] w fun e w' => e = .returned (.int .i64 (nb x)) ∧ w = w' := by
  rw [Bs_eq] at hx
  refine (Tryd.bits_Len32 x w (by omega) (by omega)).mono fun e w' h => ?_
  rw [Int.toNat_natCast, libLen x (by omega)] at h
  exact ⟨h.1, h.2.symm⟩
theorem lz32_any (w : World) (x : Nat) (hx : x < Bs) : Calls Tryd.prog 93 #[d32 x] w fun e w' => e = .returned (.int .i64 ((32 - nb x : Nat) : Int)) ∧ w = w' := by
  have hb : nb x ≤ 32 := nb_le_of_lt (by rw [← Bs_pow]; exact hx)
  rw [Bs_eq] at hx
  refine (Tryd.bits_LeadingZeros32 x w (by omega) (by omega)).mono fun e w' h => ?_
  rw [Int.toNat_natCast, libLen x (by omega)] at h
  exact ⟨by rw [h.1]; exact ret_int (by omega), h.2.symm⟩
/-- the table of math/bits lies where it is laid. -/
def Tab (w : World) : Prop := ∀ j, j < 32 → w.cell? ⟨2, j, none⟩ = some (.int .u8 (Lib.deBruijn32tab.getD j 0 : Nat))
theorem Tab.below {B : Nat} {w w' : World} (h : Tab w) (hb : Below B w w') (hB : 2 < B) : Tab w' := fun j hj => by
  rw [hb.cell (p := ⟨_, j, none⟩) hB]; exact h j hj
theorem Tab.lt {w : World} (h : Tab w) : 2 < w.heap.size := by
  have h0 := h 0 (by omega)
  apply Nat.lt_of_not_le
  intro c
  unfold World.cell? at h0
  rw [Array.getElem?_eq_none c] at h0
  cases h0
theorem Tab.bel {w w' : World} (h : Tab w) (hb : Below w.heap.size w w') : Tab w' := h.below hb h.lt
theorem tz_lib (x : Nat) (h0 : x ≠ 0) (h : x < 2 ^ 32) : Lib.ctz 32 x = tz x := by
  obtain ⟨m, hm, _⟩ := Lib.ctzFrom_spec 32 x (by omega) h
  have e : Lib.ctz 32 x = Lib.ctzFrom 32 x := by simp [Lib.ctz, h0]
  rw [e]; conv => rhs; rw [hm]
  rw [tz_of]
set_option maxHeartbeats 1000000 in
theorem tz32_core (w : World) (x k idx : Nat) (hx0 : ((x : Int) == 0) = false)
    (key : bits BinOp.and IntKind.u32 (x : Int) (-(x : Int) % 4294967296) * 125613361 % 4294967296 / 134217728 = (idx : Int))
    (hi : idx < 32) (hk : k < 32) (hcell : w.cell? ⟨2, idx, none⟩ = some (.int .u8 k)) :
    Calls Tryd.prog 88 #[d32 x] w fun e w' => e = .returned (.int .i64 k) ∧ w = w' := by
  go_enter Tryd.func88, Tryd.ntmps88
  go_wp2_with (simp only [key])
  go_ret
  exact ⟨rfl, rfl⟩
theorem key32 (q : Nat) : (q : Int) * 125613361 % 4294967296 / 134217728 = ((q * 125613361 % 4294967296 / 134217728 : Nat) : Int) := by
  have h : (q : Int) * 125613361 = ((q * 125613361 : Nat) : Int) := rfl
  rw [h, Int.natCast_ediv, Int.natCast_emod]; rfl
theorem tz32_any (w : World) (x : Nat) (hx : x < Bs) (h0 : x ≠ 0) (hT : Tab w) : Calls Tryd.prog 88 #[d32 x] w fun e w' => e = .returned (.int .i64 (tz x)) ∧ w = w' := by
  rw [Bs_eq] at hx
  obtain ⟨h1, h2⟩ := Lib.lowest_bit 32 x h0 hx
  rw [tz_lib x h0 hx] at h1 h2
  obtain ⟨h3, h4⟩ := Lib.deBruijn32_at (tz x) h2
  have hp : 2 ^ tz x < 4294967296 := Nat.pow_lt_pow_right (by omega) h2
  have e1 : bits BinOp.and IntKind.u32 (x : Int) (-(x : Int) % 4294967296) = ((2 ^ tz x : Nat) : Int) := by
    rw [show -(x : Int) % 4294967296 = ((4294967296 - x : Nat) : Int) from by omega, u32_and_nat _ _ hx (by omega)]
    exact congrArg _ h1
  refine tz32_core w x (tz x) (2 ^ tz x * 125613361 % 4294967296 / 134217728) (by simpa using h0) ?_ h3 h2 ?_
  · rw [e1]
    exact key32 _
  · rw [hT _ h3, h4]
end Go.Proofs.YtopkndkicdgafaaDoor
