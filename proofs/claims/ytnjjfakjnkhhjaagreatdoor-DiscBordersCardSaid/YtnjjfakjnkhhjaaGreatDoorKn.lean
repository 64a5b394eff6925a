import Derived.Test.YtnjjfakjnkhhjaaGreatDoorLa
import Derived.ScopeJumps
import Derived.WalkMore
set_option maxHeartbeats 4000000
set_option maxRecDepth 100000
set_option linter.all false
namespace Go.Proofs.YtnjjfakjnkhhjaaGreatDoor
structure Kn (B E v1 v2 rv p0 p1 p2 rp V P : Nat) : Prop where
 hV : V = (v1 * B + v2) * E + rv
 hP : P = ((p0 * B + p1) * B + p2) * E + rp
 rv : rv < E
 rp : rp < E
 v2 : v2 < B
 p1 : p1 < B
 p2 : p2 < B
 v1 : B ≤ 2 * v1
 lt : P < B * V
variable {B E v1 v2 rv p0 p1 p2 rp V P D R : Nat}
theorem Kn.B0 (h : Kn B E v1 v2 rv p0 p1 p2 rp V P) : 0 < B := by have := h.v2; omega
theorem Kn.V0 (h : Kn B E v1 v2 rv p0 p1 p2 rp V P) : B * E ≤ V := by
 have h1 : 1 ≤ v1 := by have := h.v1; have := h.B0; omega
 have h2 : 1 * B ≤ v1 * B := Nat.mul_le_mul h1 (Nat.le_refl _)
 have h3 : B * E ≤ (v1 * B + v2) * E := Nat.mul_le_mul (by omega) (Nat.le_refl _)
 rw [h.hV]; omega
theorem Kn.q_lt (h : Kn B E v1 v2 rv p0 p1 p2 rp V P) : P / V < B := Nat.div_lt_of_lt_mul (by rw [Nat.mul_comm]; exact h.lt)
theorem Kn.V_lt (h : Kn B E v1 v2 rv p0 p1 p2 rp V P) : V < (v1 * B + v2 + 1) * E := by
 rw [h.hV, Nat.add_mul _ 1 E, Nat.one_mul]; have := h.rv; omega
theorem Kn.P_lt (h : Kn B E v1 v2 rv p0 p1 p2 rp V P) : P < ((p0 * B + p1) * B + p2 + 1) * E := by
 rw [h.hP, Nat.add_mul _ 1 E, Nat.one_mul]; have := h.rp; omega
theorem Kn.big (h : Kn B E v1 v2 rv p0 p1 p2 rp V P) (hW : D * v1 + R = p0 * B + p1) (ht : B ≤ D ∨ R * B + p2 < D * v2) : P / V < D := by
 rcases ht with ht | ht
 ·exact Nat.lt_of_lt_of_le h.q_lt ht
 ·apply Nat.lt_of_not_le
  intro hle
  have hV0 : 0 < V := by
   apply Nat.pos_of_ne_zero; intro e
   have := h.lt; rw [e] at this; omega
  have h1 : D * V ≤ P := by
   have := (Nat.le_div_iff_mul_le hV0).1 hle
   exact this
  have h2 : D * (v1 * B + v2) * E ≤ D * V := by
   rw [h.hV, Nat.mul_add D _ rv, ← Nat.mul_assoc]; exact Nat.le_add_right _ _
  have h3 : D * (v1 * B + v2) * E < ((p0 * B + p1) * B + p2 + 1) * E := Nat.lt_of_le_of_lt (Nat.le_trans h2 h1) h.P_lt
  have h4 := Nat.lt_of_mul_lt_mul_right h3
  rw [← hW, Nat.mul_add, ← Nat.mul_assoc, Nat.add_mul] at h4
  omega
theorem Kn.lt_add (h : Kn B E v1 v2 rv p0 p1 p2 rp V P) (h1 : D * V < P + V) : D ≤ P / V + 1 := by
 have hV0 : 0 < V := by
  apply Nat.pos_of_ne_zero; intro e
  have := h.lt; rw [e] at this; omega
 have h2 : P < (P / V + 1) * V := by
  have := Nat.lt_div_mul_add hV0 (a := P)
  rw [Nat.add_mul, Nat.one_mul]; exact this
 have h3 : D * V < (P / V + 1 + 1) * V := by rw [Nat.add_mul _ 1, Nat.one_mul]; omega
 have := Nat.lt_of_mul_lt_mul_right h3
 omega
theorem Kn.near (h : Kn B E v1 v2 rv p0 p1 p2 rp V P) (hW : D * v1 + R = p0 * B + p1) (hD : D < B) (ht : D * v2 ≤ R * B + p2) : D ≤ P / V + 1 := by
 apply h.lt_add
 have h1 : D * V ≤ D * ((v1 * B + v2 + 1) * E) := Nat.mul_le_mul (Nat.le_refl _) (Nat.le_of_lt h.V_lt)
 have h2 : D * ((v1 * B + v2 + 1) * E) = (D * v1 * B + D * v2 + D) * E := by
  rw [← Nat.mul_assoc, Nat.mul_add, Nat.mul_add, ← Nat.mul_assoc, Nat.mul_one]
 have h3 : (D * v1 * B + D * v2 + D) * E ≤ ((p0 * B + p1) * B + p2 + D) * E := by
  apply Nat.mul_le_mul _ (Nat.le_refl _)
  rw [← hW, Nat.add_mul]; omega
 have h4 : ((p0 * B + p1) * B + p2 + D) * E = ((p0 * B + p1) * B + p2) * E + D * E := Nat.add_mul _ _ _
 have h5 : ((p0 * B + p1) * B + p2) * E ≤ P := by rw [h.hP]; exact Nat.le_add_right _ _
 have h6 : (D + 1) * E ≤ B * E := Nat.mul_le_mul hD (Nat.le_refl _)
 rw [Nat.add_mul, Nat.one_mul] at h6
 have h7 := h.V0
 have h8 : 0 < E := by have := h.rv; omega
 omega
theorem Kn.far (h : Kn B E v1 v2 rv p0 p1 p2 rp V P) (hW : D * v1 + R = p0 * B + p1) (hD : D ≤ B) (hR : B ≤ R) : D ≤ P / V := by
 have hV0 : 0 < V := by
  apply Nat.pos_of_ne_zero; intro e
  have := h.lt; rw [e] at this; omega
 apply (Nat.le_div_iff_mul_le hV0).2
 have h0 : V ≤ (v1 + 1) * B * E := by
  refine Nat.le_trans (Nat.le_of_lt h.V_lt) (Nat.mul_le_mul ?_ (Nat.le_refl _))
  rw [Nat.add_mul, Nat.one_mul]; have := h.v2; omega
 have h1 : D * V ≤ D * ((v1 + 1) * B * E) := Nat.mul_le_mul (Nat.le_refl _) h0
 have h2 : D * ((v1 + 1) * B * E) = (D * v1 + D) * (B * E) := by
  rw [Nat.mul_assoc (v1 + 1), ← Nat.mul_assoc D, Nat.mul_add, Nat.mul_one]
 have h3 : (D * v1 + D) * (B * E) ≤ (p0 * B + p1) * (B * E) := Nat.mul_le_mul (by omega) (Nat.le_refl _)
 have h4 : (p0 * B + p1) * (B * E) ≤ P := by
  rw [h.hP, ← Nat.mul_assoc]
  have : (p0 * B + p1) * B * E ≤ ((p0 * B + p1) * B + p2) * E := Nat.mul_le_mul (Nat.le_add_right _ _) (Nat.le_refl _)
  omega
 omega
theorem Kn.p0_le (h : Kn B E v1 v2 rv p0 p1 p2 rp V P) : p0 ≤ v1 := by
 apply Nat.le_of_not_lt
 intro c
 have h1 : (v1 + 1) * B * B * E ≤ P := by
  rw [h.hP]
  have a : (v1 + 1) * B ≤ p0 * B + p1 := Nat.le_trans (Nat.mul_le_mul c (Nat.le_refl _)) (Nat.le_add_right _ _)
  have b : (v1 + 1) * B * B ≤ (p0 * B + p1) * B + p2 := Nat.le_trans (Nat.mul_le_mul a (Nat.le_refl _)) (Nat.le_add_right _ _)
  exact Nat.le_trans (Nat.mul_le_mul b (Nat.le_refl _)) (Nat.le_add_right _ _)
 have h2 : V < (v1 + 1) * B * E := by
  refine Nat.lt_of_lt_of_le h.V_lt (Nat.mul_le_mul ?_ (Nat.le_refl _))
  rw [Nat.add_mul, Nat.one_mul]; have := h.v2; omega
 have h3 : B * V ≤ B * ((v1 + 1) * B * E) := Nat.mul_le_mul (Nat.le_refl _) (Nat.le_of_lt h2)
 have h4 : B * ((v1 + 1) * B * E) = (v1 + 1) * B * B * E := by grind
 have := h.lt
 omega
theorem Kn.first (h : Kn B E v1 v2 rv p0 p1 p2 rp V P) : P / V ≤ (p0 * B + p1) / v1 ∧ (p0 * B + p1) / v1 ≤ B + 1 := by
 have hB := h.B0
 have hv : 0 < v1 := by have := h.v1; omega
 constructor
 ·apply (Nat.le_div_iff_mul_le hv).2
  have h1 : P / V * V ≤ P := Nat.div_mul_le_self _ _
  have h2 : P / V * (v1 * B * E) ≤ P / V * V := Nat.mul_le_mul (Nat.le_refl _) (by
   rw [h.hV]; exact Nat.le_trans (Nat.mul_le_mul (Nat.le_add_right _ _) (Nat.le_refl _)) (Nat.le_add_right _ _))
  have h3 : P < (p0 * B + p1 + 1) * (B * E) := by
   refine Nat.lt_of_lt_of_le h.P_lt ?_
   rw [← Nat.mul_assoc]
   apply Nat.mul_le_mul _ (Nat.le_refl _)
   rw [Nat.add_mul _ 1, Nat.one_mul]; have := h.p2; omega
  have h4 : P / V * (v1 * B * E) = P / V * v1 * (B * E) := by rw [Nat.mul_assoc v1, ← Nat.mul_assoc]
  have h5 : P / V * v1 * (B * E) < (p0 * B + p1 + 1) * (B * E) := by omega
  have := Nat.lt_of_mul_lt_mul_right h5
  omega
 ·have h1 := h.p0_le
  have h2 : p0 * B ≤ v1 * B := Nat.mul_le_mul h1 (Nat.le_refl _)
  have h3 := h.p1
  have h4 := h.v1
  apply Nat.le_of_lt_succ
  rw [Nat.div_lt_iff_lt_mul hv]
  have : (B + 1).succ * v1 = v1 * B + 2 * v1 := by grind
  rw [this]; omega
end Go.Proofs.YtnjjfakjnkhhjaaGreatDoor
namespace Go.Proofs.YtnjjfakjnkhhjaaGreatDoor
open Go.RowKit
def GInv (v1 W q D R : Nat) : Prop := D * v1 + R = W ∧ R < Bs ∧ q ≤ D ∧ D ≤ Bs + 1
def GOk (q D : Nat) : Prop := q ≤ D ∧ D ≤ q + 1 ∧ D < Bs
theorem Kn.end_far {E v1 v2 rv p0 p1 p2 rp V P D R : Nat} (h : Kn Bs E v1 v2 rv p0 p1 p2 rp V P) (hI : GInv v1 (p0 * Bs + p1) (P / V) D R) (hq : P / V < D) (hR : 4294967295 < R + v1) : GOk (P / V) (D - 1) := by
 obtain ⟨h1, h2, h3, h4⟩ := hI
 have e : (D - 1) * v1 + (R + v1) = p0 * Bs + p1 := by
  rw [← h1, Nat.sub_mul, Nat.one_mul]
  have : 1 * v1 ≤ D * v1 := Nat.mul_le_mul (Nat.lt_of_le_of_lt (Nat.zero_le _) hq) (Nat.le_refl _)
  omega
 have h5 := h.far e (by omega) (by rw [Bs_eq]; omega)
 have h6 := h.q_lt
 generalize P / V = q at *
 exact ⟨by omega, by omega, by omega⟩
theorem Kn.end_near {E v1 v2 rv p0 p1 p2 rp V P D R : Nat} (h : Kn Bs E v1 v2 rv p0 p1 p2 rp V P) (hI : GInv v1 (p0 * Bs + p1) (P / V) D R) (hD : D < Bs) (ht : D * v2 ≤ R * Bs + p2) : GOk (P / V) D :=
 ⟨hI.2.2.1, h.near hI.1 hD ht, hD⟩
theorem GInv.next {v1 W q D R : Nat} (h : GInv v1 W q D R) (hq : q < D) (hR : R + v1 ≤ 4294967295) : GInv v1 W q (D - 1) (R + v1) := by
 obtain ⟨h1, h2, h3, h4⟩ := h
 refine ⟨?_, by rw [Bs_eq]; omega, by omega, by omega⟩
 rw [← h1, Nat.sub_mul, Nat.one_mul]
 have : 1 * v1 ≤ D * v1 := Nat.mul_le_mul (by omega) (Nat.le_refl _)
 omega
theorem guess_any (w : World) (g i n n1 n2 cp c g' i' E v1 v2 rv p0 p1 p2 rp V P : Nat) (hn1 : n1 + 1 = n) (hn2 : n2 + 2 = n) (hn : n ≤ 1000000000000)
  (hp0 : w.cell? ⟨g, i + n, none⟩ = some (d32 p0)) (hp1 : w.cell? ⟨g, i + n1, none⟩ = some (d32 p1)) (hp2 : w.cell? ⟨g, i + n2, none⟩ = some (d32 p2))
  (hv1 : w.cell? ⟨g', i' + n1, none⟩ = some (d32 v1)) (hv2 : w.cell? ⟨g', i' + n2, none⟩ = some (d32 v2)) (hp0b : p0 < Bs) (hv1b : v1 < Bs) (hK : Kn Bs E v1 v2 rv p0 p1 p2 rp V P) :
  Calls Tryz.prog 249 #[.slice (some ⟨g, i, none⟩) (n + 1) cp, .slice (some ⟨g', i', none⟩) n c] w fun e w' => ∃ d, e = .returned (d32 d) ∧ GOk (P / V) d ∧ ∃ nq, w' = w.drewN nq := by
 have hv2b := hK.v2
 have hp1b := hK.p1
 have hp2b := hK.p2
 have hv1p : 0 < v1 := by have := hK.v1; rw [Bs_eq] at this; omega
 have hW := join64 p0 p1 hp0b hp1b
 obtain ⟨W, hWe⟩ : ∃ W, W = p0 * Bs + p1 := ⟨_, rfl⟩
 have hW0 : W < 18446744073709551616 := by rw [Bs_eq] at hp0b hp1b hWe; omega
 rw [← hWe] at hW
 have hI0 : GInv v1 (p0 * Bs + p1) (P / V) (W / v1) (W % v1) := by
  rw [hWe]; exact ⟨Nat.div_add_mod' _ _, Nat.lt_trans (Nat.mod_lt _ hv1p) hv1b, hK.first.1, hK.first.2⟩
 obtain ⟨D, hDe⟩ : ∃ D, D = W / v1 := ⟨_, rfl⟩
 obtain ⟨R, hRe⟩ : ∃ R, R = W % v1 := ⟨_, rfl⟩
 rw [← hDe, ← hRe] at hI0
 have hI := Lib.hid hI0
 have hD1 : (W : Int) / (v1 : Int) = (D : Int) := by rw [hDe]; rfl
 have hR1 : (W : Int) % (v1 : Int) = (R : Int) := by rw [hRe]; rfl
 have hDb : D ≤ 4294967297 := hI0.2.2.2
 have hRb : R < 4294967296 := hI0.2.1
 have hD2 : IntKind.u64.wrap (D : Int) = (D : Int) := by rw [IntKind.wrap_u64]; omega
 have hR2 : IntKind.u64.wrap (R : Int) = (R : Int) := by rw [IntKind.wrap_u64]; omega
 have e1 : IntKind.i64.wrap ((n : Int) - 1) = (n1 : Int) := by rw [IntWalk.i64_in _ (by omega)]; omega
 have e2 : IntKind.i64.wrap ((n : Int) - 2) = (n2 : Int) := by rw [IntWalk.i64_in _ (by omega)]; omega
 have e3 : (n : Int) - 2 = (n2 : Int) := by omega
 have b1 : n1 < n := by omega
 have b2 : n2 < n := by omega
 have hvz : ((v1 : Int) == 0) = false := by rw [beq_eq_false_iff_ne]; omega
 have hR3 : (W : Int).tmod (v1 : Int) = (R : Int) := by rw [Int.tmod_eq_emod_of_nonneg (by omega)]; exact hR1
 have hv2c := Lib.hid hv2b
 have hp2c := Lib.hid hp2b
 rw [Bs_eq] at hv1b hp0b hp1b hp2b hv2b
 have hWW := Lib.hid hWe
 clear hI0 hDe hRe hn1 hn2 hWe
 go_enter Tryz.func249, Tryz.ntmps249
 go_wp2
 refine wp_scope_jumps 0 (fun a' w' => (∃ nq, w' = w.drewN nq) ∧ ∃ (D R : Nat) (u11 u12 u13 u14 u15 u16 u17 u18 u19 u20 u21 u22 u23 u24 u25 u26 u27 u28 u29 u30 u31 u32 u33 u34 u35 u36 u37 u38 u39 u40 u41 u42 u43 u44 u45 u46 u47 u48 u49 u50 u51 u52 u53 u54 u55 u56 u57 u58 u59 u60 u61 u62 u63 u64 u65 u66 u67 u68 u69 : Value), a' = { tmps := #[.slice (some ⟨g, i, none⟩) (n + 1) cp, .slice (some ⟨g', i', none⟩) n c, undef, undef, d32 0, .int .i64 n, .int .u64 v1, .int .u64 v2, .int .u64 W, .int .u64 D, .int .u64 R, u11, u12, u13, u14, u15, u16, u17, u18, u19, u20, u21, u22, u23, u24, u25, u26, u27, u28, u29, u30, u31, u32, u33, u34, u35, u36, u37, u38, u39, u40, u41, u42, u43, u44, u45, u46, u47, u48, u49, u50, u51, u52, u53, u54, u55, u56, u57, u58, u59, u60, u61, u62, u63, u64, u65, u66, u67, u68, u69], defers := [] } ∧ GInv v1 (p0 * Bs + p1) (P / V) D R) (fun a' _ => (intOf (a'.tmps.getD 9 undef)).toNat) rfl ?_ ?_
 ·go_wp2
  go_quiet (fail)
  go_wp2
  go_quiet (fail)
  go_wp2
  go_quiet (fail)
  go_wp2
  go_step3
  clear hD1 hR1 hR3 hD2 hR2 e1 e2 hW
  obtain ⟨D', hDD⟩ : ∃ D', D' = D - 1 := ⟨_, rfl⟩
  obtain ⟨R', hRR⟩ : ∃ R', R' = R + v1 := ⟨_, rfl⟩
  have eR : (R : Int) + (v1 : Int) = (R' : Int) := by omega
  by_cases hbig : 4294967296 ≤ D
  ·have hq := Lib.hid (hK.big (D := D) (R := R) hI.out.1 (.inl (by rw [Bs_eq]; exact hbig)))
   have eD : (D : Int) - 1 = (D' : Int) := by omega
   have HD := Lib.hid (And.intro hDD hRR)
   clear hDD hRR
   by_cases hR : R' ≤ 4294967295
   ·go_wp2
    go_step3
    exact ⟨rfl, ⟨_, rfl⟩, D', R', _, _, _, _, _, _, _, _, _, _, _, _, _, _, _, _, _, _, _, _, _, _, _, _, _, _, _, _, _, _, _, _, _, _, _, _, _, _, _, _, _, _, _, _, _, _, _, _, _, _, _, _, _, _, _, _, _, _, _, rfl, by rw [HD.out.1, HD.out.2]; exact hI.out.next hq.out (by rw [← HD.out.2]; exact hR)⟩
   ·go_wp2
    simp only [Exit.jump]
    go_ret
    have hok := hK.end_far hI.out hq.out (by rw [← HD.out.2]; omega)
    rw [← HD.out.1] at hok
    exact ⟨D', ret_int (by first | rfl | (have hb := hok.2.2; rw [Bs_eq] at hb; omega)), hok, _, rfl⟩
  ·have hM0 : D * v2 ≤ 18446744065119617025 := mul_lt_big (by rw [Bs_eq]; omega) hv2c.out
   have hM : (D : Int) * (v2 : Int) = ((D * v2 : Nat) : Int) := rfl
   obtain ⟨M, hMe⟩ : ∃ M, M = D * v2 := ⟨_, rfl⟩
   rw [← hMe] at hM hM0
   have hT := join64 R p2 hI.out.2.1 hp2b
   obtain ⟨T, hTe⟩ : ∃ T, T = R * Bs + p2 := ⟨_, rfl⟩
   have hT0 : T < 18446744073709551616 := by have := hI.out.2.1; rw [Bs_eq] at this hTe; omega
   rw [← hTe] at hT
   by_cases hMT : T < M
   ·have hq := Lib.hid (hK.big (D := D) (R := R) hI.out.1 (.inr (by rw [← hTe, ← hMe]; exact hMT)))
    have eD : (D : Int) - 1 = (D' : Int) := by have := Nat.lt_of_le_of_lt (Nat.zero_le _) hq.out; omega
    have HX := Lib.hid (And.intro hMe hTe)
    have HD := Lib.hid (And.intro hDD hRR)
    clear hMe hTe hDD hRR
    by_cases hR : R' ≤ 4294967295
    ·go_wp2
     go_step3
     exact ⟨rfl, ⟨_, rfl⟩, D', R', _, _, _, _, _, _, _, _, _, _, _, _, _, _, _, _, _, _, _, _, _, _, _, _, _, _, _, _, _, _, _, _, _, _, _, _, _, _, _, _, _, _, _, _, _, _, _, _, _, _, _, _, _, _, _, _, _, _, _, rfl, by rw [HD.out.1, HD.out.2]; exact hI.out.next hq.out (by rw [← HD.out.2]; exact hR)⟩
    ·go_wp2
     simp only [Exit.jump]
     go_ret
     have hok := hK.end_far hI.out hq.out (by rw [← HD.out.2]; omega)
     rw [← HD.out.1] at hok
     exact ⟨D', ret_int (by first | rfl | (have hb := hok.2.2; rw [Bs_eq] at hb; omega)), hok, _, rfl⟩
   ·have hq := Lib.hid (hK.end_near hI.out (by rw [Bs_eq]; omega) (by rw [← hTe, ← hMe]; omega))
    have HX := Lib.hid (And.intro hMe hTe)
    clear hMe hTe hDD hRR
    go_wp2
    simp only [Exit.jump]
    go_ret
    exact ⟨D, ret_int (by omega), hq.out, _, rfl⟩
 ·rintro a' w' ⟨⟨nq, rfl⟩, D, R, u11, u12, u13, u14, u15, u16, u17, u18, u19, u20, u21, u22, u23, u24, u25, u26, u27, u28, u29, u30, u31, u32, u33, u34, u35, u36, u37, u38, u39, u40, u41, u42, u43, u44, u45, u46, u47, u48, u49, u50, u51, u52, u53, u54, u55, u56, u57, u58, u59, u60, u61, u62, u63, u64, u65, u66, u67, u68, u69, rfl, hI0⟩
  have hDb : D ≤ 4294967297 := hI0.2.2.2
  have hRb : R < 4294967296 := hI0.2.1
  have hI := Lib.hid hI0
  clear hI0 hD1 hR1 hR3 hD2 hR2 e1 e2 hW
  obtain ⟨D', hDD⟩ : ∃ D', D' = D - 1 := ⟨_, rfl⟩
  obtain ⟨R', hRR⟩ : ∃ R', R' = R + v1 := ⟨_, rfl⟩
  have eR : (R : Int) + (v1 : Int) = (R' : Int) := by omega
  by_cases hbig : 4294967296 ≤ D
  ·have hq := Lib.hid (hK.big (D := D) (R := R) hI.out.1 (.inl (by rw [Bs_eq]; exact hbig)))
   have eD : (D : Int) - 1 = (D' : Int) := by omega
   have HD := Lib.hid (And.intro hDD hRR)
   clear hDD hRR
   by_cases hR : R' ≤ 4294967295
   ·go_wp2
    go_step3
    exact ⟨rfl, ⟨⟨_, rfl⟩, D', R', _, _, _, _, _, _, _, _, _, _, _, _, _, _, _, _, _, _, _, _, _, _, _, _, _, _, _, _, _, _, _, _, _, _, _, _, _, _, _, _, _, _, _, _, _, _, _, _, _, _, _, _, _, _, _, _, _, _, _, rfl, by rw [HD.out.1, HD.out.2]; exact hI.out.next hq.out (by rw [← HD.out.2]; exact hR)⟩, by have := Nat.lt_of_le_of_lt (Nat.zero_le _) hq.out; have := HD.out.1; simp [intOf]; omega⟩
   ·go_wp2
    simp only [Exit.jump]
    go_ret
    have hok := hK.end_far hI.out hq.out (by rw [← HD.out.2]; omega)
    rw [← HD.out.1] at hok
    exact ⟨D', ret_int (by first | rfl | (have hb := hok.2.2; rw [Bs_eq] at hb; omega)), hok, _, rfl⟩
  ·have hM0 : D * v2 ≤ 18446744065119617025 := mul_lt_big (by rw [Bs_eq]; omega) hv2c.out
   have hM : (D : Int) * (v2 : Int) = ((D * v2 : Nat) : Int) := rfl
   obtain ⟨M, hMe⟩ : ∃ M, M = D * v2 := ⟨_, rfl⟩
   rw [← hMe] at hM hM0
   have hT := join64 R p2 hI.out.2.1 hp2b
   obtain ⟨T, hTe⟩ : ∃ T, T = R * Bs + p2 := ⟨_, rfl⟩
   have hT0 : T < 18446744073709551616 := by have := hI.out.2.1; rw [Bs_eq] at this hTe; omega
   rw [← hTe] at hT
   by_cases hMT : T < M
   ·have hq := Lib.hid (hK.big (D := D) (R := R) hI.out.1 (.inr (by rw [← hTe, ← hMe]; exact hMT)))
    have eD : (D : Int) - 1 = (D' : Int) := by have := Nat.lt_of_le_of_lt (Nat.zero_le _) hq.out; omega
    have HX := Lib.hid (And.intro hMe hTe)
    have HD := Lib.hid (And.intro hDD hRR)
    clear hMe hTe hDD hRR
    by_cases hR : R' ≤ 4294967295
    ·go_wp2
     go_step3
     exact ⟨rfl, ⟨⟨_, rfl⟩, D', R', _, _, _, _, _, _, _, _, _, _, _, _, _, _, _, _, _, _, _, _, _, _, _, _, _, _, _, _, _, _, _, _, _, _, _, _, _, _, _, _, _, _, _, _, _, _, _, _, _, _, _, _, _, _, _, _, _, _, _, rfl, by rw [HD.out.1, HD.out.2]; exact hI.out.next hq.out (by rw [← HD.out.2]; exact hR)⟩, by have := Nat.lt_of_le_of_lt (Nat.zero_le _) hq.out; have := HD.out.1; simp [intOf]; omega⟩
    ·go_wp2
     simp only [Exit.jump]
     go_ret
     have hok := hK.end_far hI.out hq.out (by rw [← HD.out.2]; omega)
     rw [← HD.out.1] at hok
     exact ⟨D', ret_int (by first | rfl | (have hb := hok.2.2; rw [Bs_eq] at hb; omega)), hok, _, rfl⟩
   ·have hq := Lib.hid (hK.end_near hI.out (by rw [Bs_eq]; omega) (by rw [← hTe, ← hMe]; omega))
    have HX := Lib.hid (And.intro hMe hTe)
    clear hMe hTe hDD hRR
    go_wp2
    simp only [Exit.jump]
    go_ret
    exact ⟨D, ret_int (by omega), hq.out, _, rfl⟩
end Go.Proofs.YtnjjfakjnkhhjaaGreatDoor
