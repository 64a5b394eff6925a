/- The document's rounding of dyads. -/
import Derived.Test.YtbamplgleeofhaaDoorEvq
import Derived.Test.YtbamplgleeofhaaDoorEvo
namespace Go.Proofs.YtbamplgleeofhaaDoor.Ev
open Go Go.RowKit
set_option linter.unusedSimpArgs false
set_option linter.unusedVariables false
def s_qgrid : FnSpec := ⟨.agg [.I, .i .i64], fun ds => match ds with | [x, .int .i64 E, .int .i64 _] => canD x ∧ -30000 ≤ E ∧ E ≤ 30000 ∧ -30000 ≤ dx x | _ => False, fun ds i => match ds with | [x, .int _ E, .int _ mode] => (match i with | 0 => gm (dm x) (dx x) E mode | _ => ge (dm x) (dx x) E mode) | _ => 0, fun _ _ => false, fun _ _ => 0, fun _ _ => []⟩
theorem qgrid_arg {ds : List D} (h : s_qgrid.p ds) : ∃ x e k, ds = [x, .int .i64 e, .int .i64 k] ∧ canD x ∧ -30000 ≤ e ∧ e ≤ 30000 ∧ -30000 ≤ dx x := by
  match ds, h with
  | [x, .int .i64 e, .int .i64 k], h => exact ⟨x, e, k, rfl, h⟩
def s_qGrid : FnSpec := ⟨.agg [.I, .i .i64], fun ds => match ds with | [x, .int .i64 _, .int .i64 _] => canD x ∧ -30000 ≤ dx x | _ => False, fun ds i => match ds with | [x, .int _ E, .int _ mode] => (match i with | 0 => gm (dm x) (dx x) (clampE E) mode | _ => ge (dm x) (dx x) (clampE E) mode) | _ => 0, fun _ _ => false, fun _ _ => 0, fun _ _ => []⟩
theorem qGrid_arg {ds : List D} (h : s_qGrid.p ds) : ∃ x e k, ds = [x, .int .i64 e, .int .i64 k] ∧ canD x ∧ -30000 ≤ dx x := by
  match ds, h with
  | [x, .int .i64 e, .int .i64 k], h => exact ⟨x, e, k, rfl, h⟩
def s_qTo : FnSpec := ⟨.agg [.I, .i .i64], fun ds => match ds with | [x, .int .i64 _, .int .i64 _] => canD x ∧ -10000 ≤ dx x ∧ dx x ≤ 10000 ∧ Fit (dm x) 9000 | _ => False, fun ds i => match ds with | [x, .int _ p, .int _ mode] => (match i with | 0 => gm (dm x) (dx x) (stepI (dm x) (dx x) p) mode | _ => ge (dm x) (dx x) (stepI (dm x) (dx x) p) mode) | _ => 0, fun _ _ => false, fun _ _ => 0, fun _ _ => []⟩
theorem qTo_arg {ds : List D} (h : s_qTo.p ds) : ∃ x e k, ds = [x, .int .i64 e, .int .i64 k] ∧ canD x ∧ -10000 ≤ dx x ∧ dx x ≤ 10000 ∧ Fit (dm x) 9000 := by
  match ds, h with
  | [x, .int .i64 e, .int .i64 k], h => exact ⟨x, e, k, rfl, h⟩
def s_qUlp : FnSpec := sp2 (.agg [.I, .i .i64]) (fun x y => (canD x ∧ -10000 ≤ dx x ∧ dx x ≤ 10000 ∧ Fit (dm x) 9000) ∧ isi .i64 y) (fun x y i => if dm x = 0 then 0 else match i with | 0 => 1 | _ => stepI (dm x) (dx x) (dz y)) (fun _ _ _ => false)
theorem qUlp_arg {ds : List D} (h : s_qUlp.p ds) : ∃ x e, ds = [x, .int .i64 e] ∧ canD x ∧ -10000 ≤ dx x ∧ dx x ≤ 10000 ∧ Fit (dm x) 9000 := by
  obtain ⟨x, y, rfl, h1, hy⟩ := sp2_arg h
  obtain ⟨k, rfl⟩ := isi_arg hy
  exact ⟨x, k, rfl, h1⟩
theorem clamp20E (k : Int) : (if (if 20000 < k then 20000 else k) > -20000 then if 20000 < k then 20000 else k else -20000) = clampE k := clamp20 k
theorem clamp20e (k : Int) : (if min k 20000 > -20000 then min k 20000 else -20000) = clampE k := by
  unfold clampE
  split <;> omega
theorem held_1 : heldN 1 = 1 := rfl
theorem docI_down {z md : Int} {g : Nat} (h : (md == 0) = true) : docI z g md = z / 2 ^ g := if_pos (beq_iff_eq.1 h)
theorem docI_up {z md : Int} {g : Nat} (h : (md == 0) = false) (h1 : (md == 1) = true) : docI z g md = z / 2 ^ g + 1 := by
  unfold docI
  rw [if_neg (fun h2 => by rw [h2] at h; exact absurd h (by decide)), if_pos (beq_iff_eq.1 h1)]
theorem docI_near {z md : Int} {g : Nat} (h : (md == 0) = false) (h1 : (md == 1) = false) : docI z g md = if 0 < sg ((z - z / 2 ^ g * 2 ^ g) * 2 ^ 1 - 1 * 2 ^ g) ∨ (sg ((z - z / 2 ^ g * 2 ^ g) * 2 ^ 1 - 1 * 2 ^ g) = 0 ∧ (z / 2 ^ g).natAbs % 2 = 1) then z / 2 ^ g + 1 else z / 2 ^ g := by
  unfold docI
  rw [if_neg (fun h2 => by rw [h2] at h; exact absurd h (by decide)), if_neg (fun h2 => by rw [h2] at h1; exact absurd h1 (by decide))]
theorem docI_gt {z md : Int} {g : Nat} (h : (md == 0) = false) (h1 : (md == 1) = false) (h2 : decide (0 < sg ((z - z / 2 ^ g * 2 ^ g) * 2 ^ 1 - 1 * 2 ^ g)) = !false) : docI z g md = z / 2 ^ g + 1 := by
  rw [docI_near h h1, if_pos (.inl (of_decide_eq_true h2))]
theorem docI_odd {z md : Int} {g : Nat} (h : (md == 0) = false) (h1 : (md == 1) = false) (h2 : (z - z / 2 ^ g * 2 ^ g) * 2 ^ 1 - 1 * 2 ^ g = 0) (h3 : decide ((z / 2 ^ g).natAbs % 2 = 1) = true) : docI z g md = z / 2 ^ g + 1 := by
  rw [docI_near h h1, if_pos (.inr ⟨(sg_eq _).2 h2, of_decide_eq_true h3⟩)]
theorem docI_even {z md : Int} {g : Nat} (h : (md == 0) = false) (h1 : (md == 1) = false) (h2 : ¬0 < sg ((z - z / 2 ^ g * 2 ^ g) * 2 ^ 1 - 1 * 2 ^ g)) (h3 : decide ((z / 2 ^ g).natAbs % 2 = 1) = false) : docI z g md = z / 2 ^ g := by
  rw [docI_near h h1, if_neg (fun h4 => h4.elim h2 fun h5 => of_decide_eq_false h3 h5.2)]
theorem docI_null {z md : Int} {g : Nat} (h : (md == 0) = false) (h1 : (md == 1) = false) (h2 : ¬0 < sg ((z - z / 2 ^ g * 2 ^ g) * 2 ^ 1 - 1 * 2 ^ g)) (h3 : decide (0 < ((N0.ln (z / 2 ^ g) : Nat) : Int)) = !true) : docI z g md = z / 2 ^ g := by
  rw [docI_near h h1, if_neg (fun h4 => h4.elim h2 fun h5 => by
    have := ln_zeroI (of_decide_eq_false h3)
    rw [this] at h5; exact absurd h5.2 (by decide))]
theorem docI_lt {z md : Int} {g : Nat} (h : (md == 0) = false) (h1 : (md == 1) = false) (h2 : ¬0 < sg ((z - z / 2 ^ g * 2 ^ g) * 2 ^ 1 - 1 * 2 ^ g)) (h3 : decide ((z - z / 2 ^ g * 2 ^ g) * 2 ^ 1 - 1 * 2 ^ g = 0) = !true) : docI z g md = z / 2 ^ g := by
  rw [docI_near h h1, if_neg (fun h4 => h4.elim h2 fun h5 => of_decide_eq_false h3 ((sg_eq _).1 h5.1))]
theorem head_and {q : Int} (h : 0 < ((N0.ln q : Nat) : Int)) : ((IntKind.u32.wrap (BitVec.ofInt IntKind.u32.bits (std.cellV (N0.lm q) (0 + Int.toNat 0 * 1)) &&& BitVec.ofInt IntKind.u32.bits 1).toNat : Int) == 1) = decide (q.natAbs % 2 = 1) := by
  obtain ⟨es, he⟩ := lm_head (ln_posI h)
  rw [he]
  show ((IntKind.u32.wrap (BitVec.ofInt IntKind.u32.bits ((q.natAbs % Bs : Nat) : Int) &&& BitVec.ofInt IntKind.u32.bits 1).toNat : Int) == 1) = _
  rw [and1 (q.natAbs % Bs) (Nat.mod_lt _ (by decide)), Bs_eq, Bool.eq_iff_iff, decide_eq_true_eq, decide_eq_true_eq]
  omega
theorem head_get {q : Int} (h : 0 < ((N0.ln q : Nat) : Int)) : ∃ z, (N0.lm q)[0 + Int.toNat 0 * 1]? = some (D.int IntKind.u32 z) := by
  obtain ⟨es, he⟩ := lm_head (ln_posI h)
  rw [he]; exact ⟨_, rfl⟩
theorem fit_fl {z : Int} {k : Nat} (h : Fit z k) (g : Nat) : Fit (z / 2 ^ g) k := h.le (Int.natAbs_ediv_le_natAbs _ _)
theorem fit_p1 {z : Int} {k : Nat} (h : Fit z k) : Fit (z + 1) (k + 1) := by
  unfold Fit at *
  have : 0 < 2 ^ k := Nat.pow_pos (by decide)
  rw [Nat.pow_succ]; omega
theorem fit_mi {z v : Int} {k : Nat} (h : Fit z k) (h' : Fit v k) : Fit (z - v) (k + 1) := by
  unfold Fit at *
  rw [Nat.pow_succ]; omega
theorem fit_lnN {z : Int} {k b : Nat} (h : Fit z k) (hb : k ≤ 32 * b) : N0.ln z ≤ b := Fit.ln h hb
theorem fit_1p (g : Nat) : Fit (1 * 2 ^ g) (g + 1) := by
  unfold Fit
  rw [Int.one_mul, Int.natAbs_pow]
  exact Nat.pow_lt_pow_right (by decide) (by omega)
theorem max_min1 (k : Int) : (if (if 4000 < k then 4000 else k) > 1 then if 4000 < k then 4000 else k else 1) = max 1 (min k 4000) := by
  simp only [Int.min_def, Int.max_def]
  repeat' split
  all_goals omega
theorem max_min2 (k : Int) : (if min k 4000 > 1 then min k 4000 else 1) = max 1 (min k 4000) := by
  simp only [Int.max_def]
  split <;> split <;> omega
theorem topI_in9 {z e : Int} (h : Fit z 9000) (h1 : -10000 ≤ e) (h2 : e ≤ 10000) : -10000 ≤ topI z e ∧ topI z e ≤ 19000 := by
  rcases top_bd (e := e) h with h3 | h3 <;> omega
end Go.Proofs.YtbamplgleeofhaaDoor.Ev
