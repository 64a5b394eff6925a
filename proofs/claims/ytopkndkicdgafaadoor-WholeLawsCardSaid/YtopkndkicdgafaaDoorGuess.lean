/- Contract: guess. -/
import Derived.Test.YtopkndkicdgafaaDoorLeaf
import Derived.Test.YtopkndkicdgafaaDoorKnuth
import Derived.ScopeJumps
import Derived.WalkMore
namespace Go.Proofs.YtopkndkicdgafaaDoor
open Go.RowKit

/-- what holds of a guess D with its rest R, each time it is asked. -/
def GInv (v1 W q D R : Nat) : Prop := D * v1 + R = W ∧ R < Bs ∧ q ≤ D ∧ D ≤ Bs + 1
/-- a guess that will do. -/
def GOk (q D : Nat) : Prop := q ≤ D ∧ D ≤ q + 1 ∧ D < Bs
theorem Kn.end_far {E v1 v2 rv p0 p1 p2 rp V P D R : Nat} (h : Kn Bs E v1 v2 rv p0 p1 p2 rp V P) (hI : GInv v1 (p0 * Bs + p1) (P / V) D R) (hq : P / V < D) (hR : 4294967295 < R + v1) : GOk (P / V) (D - 1) := by
  obtain ⟨h1, h2, h3, h4⟩ := hI
  have e : (D - 1) * v1 + (R + v1) = p0 * Bs + p1 := by
    rw [← h1, Nat.sub_mul, Nat.one_mul]
    have : 1 * v1 ≤ D * v1 := Nat.mul_le_mul (Nat.lt_of_le_of_lt (Nat.zero_le _) hq) (Nat.le_refl _)
    omega
  have h5 := h.far e (by omega) (by rw [Bs_eq]; omega)
  have h6 := h.q_lt
  generalize P / V = q at *
  exact ⟨by omega, by omega, by omega⟩
theorem Kn.end_near {E v1 v2 rv p0 p1 p2 rp V P D R : Nat} (h : Kn Bs E v1 v2 rv p0 p1 p2 rp V P) (hI : GInv v1 (p0 * Bs + p1) (P / V) D R) (hD : D < Bs) (ht : D * v2 ≤ R * Bs + p2) : GOk (P / V) D :=
  ⟨hI.2.2.1, h.near hI.1 hD ht, hD⟩
theorem GInv.next {v1 W q D R : Nat} (h : GInv v1 W q D R) (hq : q < D) (hR : R + v1 ≤ 4294967295) : GInv v1 W q (D - 1) (R + v1) := by
  obtain ⟨h1, h2, h3, h4⟩ := h
  refine ⟨?_, by rw [Bs_eq]; omega, by omega, by omega⟩
  rw [← h1, Nat.sub_mul, Nat.one_mul]
  have : 1 * v1 ≤ D * v1 := Nat.mul_le_mul (by omega) (Nat.le_refl _)
  omega

set_option maxHeartbeats 4000000 in
set_option maxRecDepth 100000 in
theorem guess_any (w : World) (g i n n1 n2 cp c g' i' E v1 v2 rv p0 p1 p2 rp V P : Nat) (hn1 : n1 + 1 = n) (hn2 : n2 + 2 = n) (hn : n ≤ 1000000000000)
    (hp0 : w.cell? ⟨g, i + n, none⟩ = some (d32 p0)) (hp1 : w.cell? ⟨g, i + n1, none⟩ = some (d32 p1)) (hp2 : w.cell? ⟨g, i + n2, none⟩ = some (d32 p2))
    (hv1 : w.cell? ⟨g', i' + n1, none⟩ = some (d32 v1)) (hv2 : w.cell? ⟨g', i' + n2, none⟩ = some (d32 v2)) (hp0b : p0 < Bs) (hv1b : v1 < Bs) (hK : Kn Bs E v1 v2 rv p0 p1 p2 rp V P) :
    Calls Tryd.prog 94 #[.slice (some ⟨g, i, none⟩) (n + 1) cp, .slice (some ⟨g', i', none⟩) n c] w fun e w' => ∃ d, e = .returned (d32 d) ∧ GOk (P / V) d ∧ ∃ nq, w' = w.drewN nq := by
  have hv2b := hK.v2
  have hp1b := hK.p1
  have hp2b := hK.p2
  have hv1p : 0 < v1 := by have := hK.v1; rw [Bs_eq] at this; omega
  have hW := join64 p0 p1 hp0b hp1b
  obtain ⟨W, hWe⟩ : ∃ W, W = p0 * Bs + p1 := ⟨_, rfl⟩
  have hW0 : W < 18446744073709551616 := by rw [Bs_eq] at hp0b hp1b hWe; omega
  rw [← hWe] at hW
  have hI0 : GInv v1 (p0 * Bs + p1) (P / V) (W / v1) (W % v1) := by
    rw [hWe]; exact ⟨Nat.div_add_mod' _ _, Nat.lt_trans (Nat.mod_lt _ hv1p) hv1b, hK.first.1, hK.first.2⟩
  obtain ⟨D, hDe⟩ : ∃ D, D = W / v1 := ⟨_, rfl⟩
  obtain ⟨R, hRe⟩ : ∃ R, R = W % v1 := ⟨_, rfl⟩
  rw [← hDe, ← hRe] at hI0
  have hI := Lib.hid hI0
  have hD1 : (W : Int) / (v1 : Int) = (D : Int) := by rw [hDe]; rfl
  have hR1 : (W : Int) % (v1 : Int) = (R : Int) := by rw [hRe]; rfl
  have hDb : D ≤ 4294967297 := hI0.2.2.2
  have hRb : R < 4294967296 := hI0.2.1
  have hD2 : IntKind.u64.wrap (D : Int) = (D : Int) := by rw [IntKind.wrap_u64]; omega
  have hR2 : IntKind.u64.wrap (R : Int) = (R : Int) := by rw [IntKind.wrap_u64]; omega
  have e1 : IntKind.i64.wrap ((n : Int) - 1) = (n1 : Int) := by rw [IntWalk.i64_in _ (by omega)]; omega
  have e2 : IntKind.i64.wrap ((n : Int) - 2) = (n2 : Int) := by rw [IntWalk.i64_in _ (by omega)]; omega
  have e3 : (n : Int) - 2 = (n2 : Int) := by omega
  have b1 : n1 < n := by omega
  have b2 : n2 < n := by omega
  have hvz : ((v1 : Int) == 0) = false := by rw [beq_eq_false_iff_ne]; omega
  have hR3 : (W : Int).tmod (v1 : Int) = (R : Int) := by rw [Int.tmod_eq_emod_of_nonneg (by omega)]; exact hR1
  have hv2c := Lib.hid hv2b
  have hp2c := Lib.hid hp2b
  rw [Bs_eq] at hv1b hp0b hp1b hp2b hv2b
  have hWW := Lib.hid hWe
  clear hI0 hDe hRe hn1 hn2 hWe
  go_enter Tryd.func94, Tryd.ntmps94
  go_wp2
  refine wp_scope_jumps 0 (fun a' w' => (∃ nq, w' = w.drewN nq) ∧ ∃ (D R : Nat) (u11 u12 u13 u14 u15 u16 u17 u18 u19 u20 u21 u22 u23 u24 u25 u26 u27 u28 u29 u30 u31 u32 u33 u34 u35 u36 u37 u38 u39 u40 u41 u42 u43 u44 u45 u46 u47 u48 u49 u50 u51 u52 u53 u54 u55 u56 u57 u58 u59 u60 u61 u62 u63 u64 u65 u66 u67 u68 u69 : Value), a' = { tmps := #[.slice (some ⟨g, i, none⟩) (n + 1) cp, .slice (some ⟨g', i', none⟩) n c, undef, undef, d32 0, .int .i64 n, .int .u64 v1, .int .u64 v2, .int .u64 W, .int .u64 D, .int .u64 R, u11, u12, u13, u14, u15, u16, u17, u18, u19, u20, u21, u22, u23, u24, u25, u26, u27, u28, u29, u30, u31, u32, u33, u34, u35, u36, u37, u38, u39, u40, u41, u42, u43, u44, u45, u46, u47, u48, u49, u50, u51, u52, u53, u54, u55, u56, u57, u58, u59, u60, u61, u62, u63, u64, u65, u66, u67, u68, u69], defers := [] } ∧ GInv v1 (p0 * Bs + p1) (P / V) D R) (fun a' _ => (intOf (a'.tmps.getD 9 undef)).toNat) rfl ?_ ?_
  · go_wp2
    go_quiet (fail)
    go_wp2
    go_quiet (fail)
    go_wp2
    go_quiet (fail)
    go_wp2
    go_step3
    clear hD1 hR1 hR3 hD2 hR2 e1 e2 hW
    obtain ⟨D', hDD⟩ : ∃ D', D' = D - 1 := ⟨_, rfl⟩
    obtain ⟨R', hRR⟩ : ∃ R', R' = R + v1 := ⟨_, rfl⟩
    have eR : (R : Int) + (v1 : Int) = (R' : Int) := by omega
    by_cases hbig : 4294967296 ≤ D
    · have hq := Lib.hid (hK.big (D := D) (R := R) hI.out.1 (.inl (by rw [Bs_eq]; exact hbig)))
      have eD : (D : Int) - 1 = (D' : Int) := by omega
      have HD := Lib.hid (And.intro hDD hRR)
      clear hDD hRR
      by_cases hR : R' ≤ 4294967295
      · go_wp2
        go_step3
        exact ⟨rfl, ⟨_, rfl⟩, D', R', _, _, _, _, _, _, _, _, _, _, _, _, _, _, _, _, _, _, _, _, _, _, _, _, _, _, _, _, _, _, _, _, _, _, _, _, _, _, _, _, _, _, _, _, _, _, _, _, _, _, _, _, _, _, _, _, _, _, _, rfl, by rw [HD.out.1, HD.out.2]; exact hI.out.next hq.out (by rw [← HD.out.2]; exact hR)⟩
      · go_wp2
        simp only [Exit.jump]
        go_ret
        have hok := hK.end_far hI.out hq.out (by rw [← HD.out.2]; omega)
        rw [← HD.out.1] at hok
        exact ⟨D', ret_int (by first | rfl | (have hb := hok.2.2; rw [Bs_eq] at hb; omega)), hok, _, rfl⟩
    · have hM0 : D * v2 ≤ 18446744065119617025 := mul_lt_big (by rw [Bs_eq]; omega) hv2c.out
      have hM : (D : Int) * (v2 : Int) = ((D * v2 : Nat) : Int) := rfl
      obtain ⟨M, hMe⟩ : ∃ M, M = D * v2 := ⟨_, rfl⟩
      rw [← hMe] at hM hM0
      have hT := join64 R p2 hI.out.2.1 hp2b
      obtain ⟨T, hTe⟩ : ∃ T, T = R * Bs + p2 := ⟨_, rfl⟩
      have hT0 : T < 18446744073709551616 := by have := hI.out.2.1; rw [Bs_eq] at this hTe; omega
      rw [← hTe] at hT
      by_cases hMT : T < M
      · have hq := Lib.hid (hK.big (D := D) (R := R) hI.out.1 (.inr (by rw [← hTe, ← hMe]; exact hMT)))
        have eD : (D : Int) - 1 = (D' : Int) := by have := Nat.lt_of_le_of_lt (Nat.zero_le _) hq.out; omega
        have HX := Lib.hid (And.intro hMe hTe)
        have HD := Lib.hid (And.intro hDD hRR)
        clear hMe hTe hDD hRR
        by_cases hR : R' ≤ 4294967295
        · go_wp2
          go_step3
          exact ⟨rfl, ⟨_, rfl⟩, D', R', _, _, _, _, _, _, _, _, _, _, _, _, _, _, _, _, _, _, _, _, _, _, _, _, _, _, _, _, _, _, _, _, _, _, _, _, _, _, _, _, _, _, _, _, _, _, _, _, _, _, _, _, _, _, _, _, _, _, _, rfl, by rw [HD.out.1, HD.out.2]; exact hI.out.next hq.out (by rw [← HD.out.2]; exact hR)⟩
        · go_wp2
          simp only [Exit.jump]
          go_ret
          have hok := hK.end_far hI.out hq.out (by rw [← HD.out.2]; omega)
          rw [← HD.out.1] at hok
          exact ⟨D', ret_int (by first | rfl | (have hb := hok.2.2; rw [Bs_eq] at hb; omega)), hok, _, rfl⟩
      · have hq := Lib.hid (hK.end_near hI.out (by rw [Bs_eq]; omega) (by rw [← hTe, ← hMe]; omega))
        have HX := Lib.hid (And.intro hMe hTe)
        clear hMe hTe hDD hRR
        go_wp2
        simp only [Exit.jump]
        go_ret
        exact ⟨D, ret_int (by omega), hq.out, _, rfl⟩
  · rintro a' w' ⟨⟨nq, rfl⟩, D, R, u11, u12, u13, u14, u15, u16, u17, u18, u19, u20, u21, u22, u23, u24, u25, u26, u27, u28, u29, u30, u31, u32, u33, u34, u35, u36, u37, u38, u39, u40, u41, u42, u43, u44, u45, u46, u47, u48, u49, u50, u51, u52, u53, u54, u55, u56, u57, u58, u59, u60, u61, u62, u63, u64, u65, u66, u67, u68, u69, rfl, hI0⟩
    have hDb : D ≤ 4294967297 := hI0.2.2.2
    have hRb : R < 4294967296 := hI0.2.1
    have hI := Lib.hid hI0
    clear hI0 hD1 hR1 hR3 hD2 hR2 e1 e2 hW
    obtain ⟨D', hDD⟩ : ∃ D', D' = D - 1 := ⟨_, rfl⟩
    obtain ⟨R', hRR⟩ : ∃ R', R' = R + v1 := ⟨_, rfl⟩
    have eR : (R : Int) + (v1 : Int) = (R' : Int) := by omega
    by_cases hbig : 4294967296 ≤ D
    · have hq := Lib.hid (hK.big (D := D) (R := R) hI.out.1 (.inl (by rw [Bs_eq]; exact hbig)))
      have eD : (D : Int) - 1 = (D' : Int) := by omega
      have HD := Lib.hid (And.intro hDD hRR)
      clear hDD hRR
      by_cases hR : R' ≤ 4294967295
      · go_wp2
        go_step3
        exact ⟨rfl, ⟨⟨_, rfl⟩, D', R', _, _, _, _, _, _, _, _, _, _, _, _, _, _, _, _, _, _, _, _, _, _, _, _, _, _, _, _, _, _, _, _, _, _, _, _, _, _, _, _, _, _, _, _, _, _, _, _, _, _, _, _, _, _, _, _, _, _, _, rfl, by rw [HD.out.1, HD.out.2]; exact hI.out.next hq.out (by rw [← HD.out.2]; exact hR)⟩, by have := Nat.lt_of_le_of_lt (Nat.zero_le _) hq.out; have := HD.out.1; simp [intOf]; omega⟩
      · go_wp2
        simp only [Exit.jump]
        go_ret
        have hok := hK.end_far hI.out hq.out (by rw [← HD.out.2]; omega)
        rw [← HD.out.1] at hok
        exact ⟨D', ret_int (by first | rfl | (have hb := hok.2.2; rw [Bs_eq] at hb; omega)), hok, _, rfl⟩
    · have hM0 : D * v2 ≤ 18446744065119617025 := mul_lt_big (by rw [Bs_eq]; omega) hv2c.out
      have hM : (D : Int) * (v2 : Int) = ((D * v2 : Nat) : Int) := rfl
      obtain ⟨M, hMe⟩ : ∃ M, M = D * v2 := ⟨_, rfl⟩
      rw [← hMe] at hM hM0
      have hT := join64 R p2 hI.out.2.1 hp2b
      obtain ⟨T, hTe⟩ : ∃ T, T = R * Bs + p2 := ⟨_, rfl⟩
      have hT0 : T < 18446744073709551616 := by have := hI.out.2.1; rw [Bs_eq] at this hTe; omega
      rw [← hTe] at hT
      by_cases hMT : T < M
      · have hq := Lib.hid (hK.big (D := D) (R := R) hI.out.1 (.inr (by rw [← hTe, ← hMe]; exact hMT)))
        have eD : (D : Int) - 1 = (D' : Int) := by have := Nat.lt_of_le_of_lt (Nat.zero_le _) hq.out; omega
        have HX := Lib.hid (And.intro hMe hTe)
        have HD := Lib.hid (And.intro hDD hRR)
        clear hMe hTe hDD hRR
        by_cases hR : R' ≤ 4294967295
        · go_wp2
          go_step3
          exact ⟨rfl, ⟨⟨_, rfl⟩, D', R', _, _, _, _, _, _, _, _, _, _, _, _, _, _, _, _, _, _, _, _, _, _, _, _, _, _, _, _, _, _, _, _, _, _, _, _, _, _, _, _, _, _, _, _, _, _, _, _, _, _, _, _, _, _, _, _, _, _, _, rfl, by rw [HD.out.1, HD.out.2]; exact hI.out.next hq.out (by rw [← HD.out.2]; exact hR)⟩, by have := Nat.lt_of_le_of_lt (Nat.zero_le _) hq.out; have := HD.out.1; simp [intOf]; omega⟩
        · go_wp2
          simp only [Exit.jump]
          go_ret
          have hok := hK.end_far hI.out hq.out (by rw [← HD.out.2]; omega)
          rw [← HD.out.1] at hok
          exact ⟨D', ret_int (by first | rfl | (have hb := hok.2.2; rw [Bs_eq] at hb; omega)), hok, _, rfl⟩
      · have hq := Lib.hid (hK.end_near hI.out (by rw [Bs_eq]; omega) (by rw [← hTe, ← hMe]; omega))
        have HX := Lib.hid (And.intro hMe hTe)
        clear hMe hTe hDD hRR
        go_wp2
        simp only [Exit.jump]
        go_ret
        exact ⟨D, ret_int (by omega), hq.out, _, rfl⟩
end Go.Proofs.YtopkndkicdgafaaDoor
