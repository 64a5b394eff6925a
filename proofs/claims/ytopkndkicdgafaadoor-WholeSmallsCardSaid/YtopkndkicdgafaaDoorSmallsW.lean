/- WholeSmalls: the walk. -/
import Derived.Test.YtopkndkicdgafaaDoorRK
import Derived.Test.YtopkndkicdgafaaDoorArg
import Derived.Deep.RegionHeld3
namespace Go.Proofs.YtopkndkicdgafaaDoor
open Go.RowKit

theorem mul_fits {a b : Int} (ha : -2147483648 ≤ a ∧ a ≤ 2147483647) (hb : -2147483648 ≤ b ∧ b ≤ 2147483647) : -9223372036854775808 ≤ a * b ∧ a * b ≤ 9223372036854775807 := by
  have h : (a * b).natAbs ≤ 2147483648 * 2147483648 := by rw [Int.natAbs_mul]; exact Nat.mul_le_mul (by omega) (by omega)
  omega
theorem div_fits {a : Int} {k : Nat} (ha : -2147483648 ≤ a ∧ a ≤ 2147483647) : -9223372036854775808 ≤ a / 2 ^ k ∧ a / 2 ^ k ≤ 9223372036854775807 := by
  have hp : (0 : Int) < 2 ^ k := Int.pow_pos (by decide)
  have hp1 : (1 : Int) ≤ 2 ^ k := hp
  constructor
  · have h1 : (-2147483648 : Int) ≤ a / 2 ^ k := by
      rw [Int.le_ediv_iff_mul_le hp]
      generalize (2 : Int) ^ k = p at *
      omega
    omega
  · by_cases h0 : 0 ≤ a
    · have := Int.ediv_le_self (2 ^ k) h0; omega
    · have := Int.ediv_neg_of_neg_of_pos (a := a) (by omega) hp; omega
theorem pow_fits {a : Int} {k : Nat} (ha : -2147483648 ≤ a ∧ a ≤ 2147483647) (hk : k < 30) : -9223372036854775808 ≤ a * 2 ^ k ∧ a * 2 ^ k ≤ 9223372036854775807 := by
  have hp : (2 : Nat) ^ k ≤ 2 ^ 29 := Nat.pow_le_pow_right (by decide) (by omega)
  have h : (a * 2 ^ k).natAbs ≤ 2147483648 * 2 ^ 29 := by
    rw [Int.natAbs_mul, Int.natAbs_pow]
    exact Nat.mul_le_mul (by omega) hp
  omega
theorem fits_of {Z : Int} (h : -9223372036854775808 ≤ Z ∧ Z ≤ 9223372036854775807) : (if fits Z = true then Z else 0) = Z ∧ fits Z = true := by
  have hf := (fits_iff Z).2 h
  exact ⟨if_pos hf, hf⟩
theorem heldN_of {k : Nat} (h : k ≤ 100000) : heldN (k : Int) = k := by unfold heldN; omega
set_option maxRecDepth 100000 in
set_option maxHeartbeats 8000000 in
theorem smalls_top (w : World) (a : Int) (wa : (Lit.int .i32 a).wf = true) (b : Int) (wb : (Lit.int .i32 b).wf = true) (n : Int) (wn : (Lit.int .u8 n).wf = true) (hT : Tab w) (hS : SumsT w) (hP : ProductsT w) (hF : FarthestT w) :
    Calls Tryd.prog 14 #[.int .i32 a, .int .i32 b, .int .u8 n] w fun e w' => e = .returned (.bool true) ∧ Below w.heap.size w w' := by
  have ha := bounds_i32 wa
  have hb := bounds_i32 wb
  have hn := bounds_u8 wn
  obtain ⟨k, hk, ek⟩ : ∃ k : Nat, k < 30 ∧ n % 30 = (k : Int) := ⟨(n % 30).toNat, by omega, by omega⟩
  have hkn := Lib.hid (known2_any w hT hP hF)
  obtain ⟨S, eS⟩ : ∃ S, a + b = S := ⟨_, rfl⟩
  obtain ⟨D, eD⟩ : ∃ S, a - b = S := ⟨_, rfl⟩
  obtain ⟨M, eM⟩ : ∃ S, a * b = S := ⟨_, rfl⟩
  obtain ⟨H, eH⟩ : ∃ S, a / 2 ^ k = S := ⟨_, rfl⟩
  obtain ⟨L, eL⟩ : ∃ S, a * 2 ^ k = S := ⟨_, rfl⟩
  have fS := fits_of (Z := S) (by omega)
  have fD := fits_of (Z := D) (by omega)
  have fM := fits_of (Z := M) (by rw [← eM]; exact mul_fits ha hb)
  have fH := fits_of (Z := H) (by rw [← eH]; exact div_fits ha)
  have fL := fits_of (Z := L) (by rw [← eL]; exact pow_fits ha hk)
  have wS : IntKind.i64.wrap S = S := IntWalk.i64_in _ ((fits_iff _).1 fS.2)
  have wD : IntKind.i64.wrap D = D := IntWalk.i64_in _ ((fits_iff _).1 fD.2)
  have wM : IntKind.i64.wrap M = M := IntWalk.i64_in _ ((fits_iff _).1 fM.2)
  have wH : IntKind.i64.wrap H = H := IntWalk.i64_in _ ((fits_iff _).1 fH.2)
  have wL : IntKind.i64.wrap L = L := IntWalk.i64_in _ ((fits_iff _).1 fL.2)
  have hh := heldN_of (k := k) (by omega)
  have FS := Lib.hid fS
  have FD := Lib.hid fD
  have FM := Lib.hid fM
  have FH := Lib.hid fH
  have FL := Lib.hid fL
  have ES := Lib.hid eS
  have ED := Lib.hid eD
  have EM := Lib.hid eM
  have EH : Hid (a / 2 ^ heldN (k : Int) = H) := (by rw [hh]; exact eH : a / 2 ^ heldN (k : Int) = H)
  have EL : Hid (a * 2 ^ heldN (k : Int) = L) := (by rw [hh]; exact eL : a * 2 ^ heldN (k : Int) = L)
  have HA : Hid (-9223372036854775808 ≤ a ∧ a ≤ 9223372036854775807) := (by omega : -9223372036854775808 ≤ a ∧ a ≤ 9223372036854775807)
  have HB : Hid (-9223372036854775808 ≤ b ∧ b ≤ 9223372036854775807) := (by omega : -9223372036854775808 ≤ b ∧ b ≤ 9223372036854775807)
  have HHh : Hid (heldN (k : Int) ≤ 30) := (by rw [hh]; omega : heldN (k : Int) ≤ 30)
  have HT := Lib.hid hT
  have HS := Lib.hid hS
  have HP := Lib.hid hP
  have HF := Lib.hid hF
  clear fS fD fM fH fL hT hS hP hF hh
  go_enter Tryd.func14, Tryd.ntmps14
  go_wp2_with fail
  refine hkn.out.mono ?_
  clear hkn
  rintro e w1 ⟨rfl, bel1⟩
  have t_T1 := Lib.hid (HT.out.bel bel1)
  have t_S1 := Lib.hid (HS.out.bel bel1)
  have t_P1 := Lib.hid (HP.out.bel bel1)
  have t_F1 := Lib.hid (HF.out.bel bel1)
  clear HT HS HP HF
  go_wp2_with fail
  have cc := Lib.hid (wof_g w1 a HA.out rfl)
  refine cc.out.mono ?_
  clear cc
  rintro e v2 ⟨A1, m1, c1, rfl, h1, hm1, kb2⟩
  have t_T2 := Lib.hid (t_T1.out.bel kb2)
  have t_S2 := Lib.hid (t_S1.out.bel kb2)
  have t_P2 := Lib.hid (t_P1.out.bel kb2)
  have t_F2 := Lib.hid (t_F1.out.bel kb2)
  have bel2 := bel1.trans (kb2.mono bel1.size)
  clear kb2 t_T1 t_S1 t_P1 t_F1 bel1
  go_wp2_with fail
  have cc := Lib.hid (wof_g v2 b HB.out rfl)
  refine cc.out.mono ?_
  clear cc
  rintro e v3 ⟨A2, m2, c2, rfl, h2, hm2, kb3⟩
  have l_a3 := h1.bel kb3
  have t_T3 := Lib.hid (t_T2.out.bel kb3)
  have t_S3 := Lib.hid (t_S2.out.bel kb3)
  have t_P3 := Lib.hid (t_P2.out.bel kb3)
  have t_F3 := Lib.hid (t_F2.out.bel kb3)
  have bel3 := bel2.trans (kb3.mono bel2.size)
  clear kb3 h1 t_T2 t_S2 t_P2 t_F2 bel2
  obtain ⟨ga, hga⟩ : ∃ g, g = v3.heap.size := ⟨_, rfl⟩
  obtain ⟨gb, hgb⟩ : ∃ g, g = v3.heap.size + 1 := ⟨_, rfl⟩
  obtain ⟨wd, hwd⟩ : ∃ v, v = (v3.alloc (.cells #[.bool (decide (a < 0)), .slice A1 m1 c1] 43)).alloc (.cells #[.bool (decide (b < 0)), .slice A2 m2 c2] 43) := ⟨_, rfl⟩
  have bga : Box wd ga (decide (a < 0)) A1 m1 c1 := by rw [hwd, hga]; exact (Box.new _ _ _ _ _).alloc _
  have bgb : Box wd gb (decide (b < 0)) A2 m2 c2 := by rw [hwd, hgb]; exact Box.at1 _ _ _ _ _ _
  have cga0 := bga.c0
  have cga1 := bga.c1
  have cgb0 := bgb.c0
  have cgb1 := bgb.c1
  have hbd : Below v3.heap.size v3 wd := by rw [hwd]; exact bel_alloc2 _ _ _
  rw [hwd, hga] at cga0 cga1
  rw [hwd, hgb] at cgb0 cgb1
  go_wp2_with fail
  rw [← hwd, ← hgb, ← hga]
  clear hwd hga hgb cga0 cga1 cgb0 cgb1
  have l_a4 := l_a3.bel hbd
  have l_b4 := h2.bel hbd
  have t_T4 := Lib.hid (t_T3.out.bel hbd)
  have t_S4 := Lib.hid (t_S3.out.bel hbd)
  have t_P4 := Lib.hid (t_P3.out.bel hbd)
  have t_F4 := Lib.hid (t_F3.out.bel hbd)
  have bel4 := bel3.trans (hbd.mono bel3.size)
  clear hbd l_a3 h2 t_T3 t_S3 t_P3 t_F3 bel3
  have b_a4 := bga
  have b_b4 := bgb
  clear bga bgb
  have c_a0_4 := b_a4.c0
  have c_a1_4 := b_a4.c1
  have c_b0_4 := b_b4.c0
  have c_b1_4 := b_b4.c1
  have cc := Lib.hid (wadd_g wd a b _ A1 m1 c1 _ l_a4 (sgn_lim a) _ A2 m2 c2 _ l_b4 (sgn_lim b) t_S4.out (by omega) (by omega) ES.out)
  refine cc.out.mono ?_
  clear cc
  rintro e v5 ⟨A10, m10, c10, rfl, h10, hm10, kb5⟩
  have b_a5 := b_a4.bel kb5
  have b_b5 := b_b4.bel kb5
  have l_a5 := l_a4.bel kb5
  have l_b5 := l_b4.bel kb5
  have t_T5 := Lib.hid (t_T4.out.bel kb5)
  have t_S5 := Lib.hid (t_S4.out.bel kb5)
  have t_P5 := Lib.hid (t_P4.out.bel kb5)
  have t_F5 := Lib.hid (t_F4.out.bel kb5)
  have bel5 := bel4.trans (kb5.mono bel4.size)
  have c_a0_5 := b_a5.c0
  have c_a1_5 := b_a5.c1
  have c_b0_5 := b_b5.c0
  have c_b1_5 := b_b5.c1
  clear kb5 b_a4 c_a0_4 c_a1_4 b_b4 c_b0_4 c_b1_4 l_a4 l_b4 t_T4 t_S4 t_P4 t_F4 bel4
  go_wp2_with fail
  have cc := Lib.hid (wsmall_g v5 S _ A10 m10 c10 _ h10 (sgn_lim S) t_F5.out FS.out.1 FS.out.2)
  refine cc.out.mono ?_
  clear cc
  rintro e v6 ⟨rfl, kb6⟩
  have b_a6 := b_a5.bel kb6
  have b_b6 := b_b5.bel kb6
  have l_a6 := l_a5.bel kb6
  have l_b6 := l_b5.bel kb6
  have l_s6 := h10.bel kb6
  have t_T6 := Lib.hid (t_T5.out.bel kb6)
  have t_S6 := Lib.hid (t_S5.out.bel kb6)
  have t_P6 := Lib.hid (t_P5.out.bel kb6)
  have t_F6 := Lib.hid (t_F5.out.bel kb6)
  have bel6 := bel5.trans (kb6.mono bel5.size)
  have c_a0_6 := b_a6.c0
  have c_a1_6 := b_a6.c1
  have c_b0_6 := b_b6.c0
  have c_b1_6 := b_b6.c1
  clear kb6 b_a5 c_a0_5 c_a1_5 b_b5 c_b0_5 c_b1_5 l_a5 l_b5 h10 t_T5 t_S5 t_P5 t_F5 bel5
  clear l_s6
  go_wp2_with fail
  have cc := Lib.hid (wsub_g v6 a b _ A1 m1 c1 _ l_a6 (sgn_lim a) _ A2 m2 c2 _ l_b6 (sgn_lim b) t_S6.out (by omega) (by omega) ED.out)
  refine cc.out.mono ?_
  clear cc
  rintro e v7 ⟨A11, m11, c11, rfl, h11, hm11, kb7⟩
  have b_a7 := b_a6.bel kb7
  have b_b7 := b_b6.bel kb7
  have l_a7 := l_a6.bel kb7
  have l_b7 := l_b6.bel kb7
  have t_T7 := Lib.hid (t_T6.out.bel kb7)
  have t_S7 := Lib.hid (t_S6.out.bel kb7)
  have t_P7 := Lib.hid (t_P6.out.bel kb7)
  have t_F7 := Lib.hid (t_F6.out.bel kb7)
  have bel7 := bel6.trans (kb7.mono bel6.size)
  have c_a0_7 := b_a7.c0
  have c_a1_7 := b_a7.c1
  have c_b0_7 := b_b7.c0
  have c_b1_7 := b_b7.c1
  clear kb7 b_a6 c_a0_6 c_a1_6 b_b6 c_b0_6 c_b1_6 l_a6 l_b6 t_T6 t_S6 t_P6 t_F6 bel6
  go_wp2_with fail
  have cc := Lib.hid (wsmall_g v7 D _ A11 m11 c11 _ h11 (sgn_lim D) t_F7.out FD.out.1 FD.out.2)
  refine cc.out.mono ?_
  clear cc
  rintro e v8 ⟨rfl, kb8⟩
  have b_a8 := b_a7.bel kb8
  have b_b8 := b_b7.bel kb8
  have l_a8 := l_a7.bel kb8
  have l_b8 := l_b7.bel kb8
  have l_s8 := h11.bel kb8
  have t_T8 := Lib.hid (t_T7.out.bel kb8)
  have t_S8 := Lib.hid (t_S7.out.bel kb8)
  have t_P8 := Lib.hid (t_P7.out.bel kb8)
  have t_F8 := Lib.hid (t_F7.out.bel kb8)
  have bel8 := bel7.trans (kb8.mono bel7.size)
  have c_a0_8 := b_a8.c0
  have c_a1_8 := b_a8.c1
  have c_b0_8 := b_b8.c0
  have c_b1_8 := b_b8.c1
  clear kb8 b_a7 c_a0_7 c_a1_7 b_b7 c_b0_7 c_b1_7 l_a7 l_b7 h11 t_T7 t_S7 t_P7 t_F7 bel7
  clear l_s8
  go_wp2_with fail
  have cc := Lib.hid (wmul_g v8 a b _ A1 m1 c1 _ l_a8 (sgn_lim a) _ A2 m2 c2 _ l_b8 (sgn_lim b) t_P8.out (by omega) (by omega) EM.out)
  refine cc.out.mono ?_
  clear cc
  rintro e v9 ⟨A12, m12, c12, rfl, h12, hm12, kb9⟩
  have b_a9 := b_a8.bel kb9
  have b_b9 := b_b8.bel kb9
  have l_a9 := l_a8.bel kb9
  have l_b9 := l_b8.bel kb9
  have t_T9 := Lib.hid (t_T8.out.bel kb9)
  have t_S9 := Lib.hid (t_S8.out.bel kb9)
  have t_P9 := Lib.hid (t_P8.out.bel kb9)
  have t_F9 := Lib.hid (t_F8.out.bel kb9)
  have bel9 := bel8.trans (kb9.mono bel8.size)
  have c_a0_9 := b_a9.c0
  have c_a1_9 := b_a9.c1
  have c_b0_9 := b_b9.c0
  have c_b1_9 := b_b9.c1
  clear kb9 b_a8 c_a0_8 c_a1_8 b_b8 c_b0_8 c_b1_8 l_a8 l_b8 t_T8 t_S8 t_P8 t_F8 bel8
  go_wp2_with fail
  have cc := Lib.hid (wsmall_g v9 M _ A12 m12 c12 _ h12 (sgn_lim M) t_F9.out FM.out.1 FM.out.2)
  refine cc.out.mono ?_
  clear cc
  rintro e v10 ⟨rfl, kb10⟩
  have b_a10 := b_a9.bel kb10
  have b_b10 := b_b9.bel kb10
  have l_a10 := l_a9.bel kb10
  have l_b10 := l_b9.bel kb10
  have l_s10 := h12.bel kb10
  have t_T10 := Lib.hid (t_T9.out.bel kb10)
  have t_S10 := Lib.hid (t_S9.out.bel kb10)
  have t_P10 := Lib.hid (t_P9.out.bel kb10)
  have t_F10 := Lib.hid (t_F9.out.bel kb10)
  have bel10 := bel9.trans (kb10.mono bel9.size)
  have c_a0_10 := b_a10.c0
  have c_a1_10 := b_a10.c1
  have c_b0_10 := b_b10.c0
  have c_b1_10 := b_b10.c1
  clear kb10 b_a9 c_a0_9 c_a1_9 b_b9 c_b0_9 c_b1_9 l_a9 l_b9 h12 t_T9 t_S9 t_P9 t_F9 bel9
  clear l_s10
  go_wp2_with fail
  have cc := Lib.hid (wshr_g v10 a (k : Int) _ A1 m1 c1 _ l_a10 (sgn_lim a) (by omega) t_T10.out EH.out)
  refine cc.out.mono ?_
  clear cc
  rintro e v11 ⟨A20, m20, c20, rfl, h20, hm20, kb11⟩
  have b_a11 := b_a10.bel kb11
  have b_b11 := b_b10.bel kb11
  have l_a11 := l_a10.bel kb11
  have l_b11 := l_b10.bel kb11
  have t_T11 := Lib.hid (t_T10.out.bel kb11)
  have t_S11 := Lib.hid (t_S10.out.bel kb11)
  have t_P11 := Lib.hid (t_P10.out.bel kb11)
  have t_F11 := Lib.hid (t_F10.out.bel kb11)
  have bel11 := bel10.trans (kb11.mono bel10.size)
  have c_a0_11 := b_a11.c0
  have c_a1_11 := b_a11.c1
  have c_b0_11 := b_b11.c0
  have c_b1_11 := b_b11.c1
  clear kb11 b_a10 c_a0_10 c_a1_10 b_b10 c_b0_10 c_b1_10 l_a10 l_b10 t_T10 t_S10 t_P10 t_F10 bel10
  go_wp2_with fail
  have cc := Lib.hid (wsmall_g v11 H _ A20 m20 c20 _ h20 (sgn_lim H) t_F11.out FH.out.1 FH.out.2)
  refine cc.out.mono ?_
  clear cc
  rintro e v12 ⟨rfl, kb12⟩
  have b_a12 := b_a11.bel kb12
  have b_b12 := b_b11.bel kb12
  have l_a12 := l_a11.bel kb12
  have l_b12 := l_b11.bel kb12
  have l_s12 := h20.bel kb12
  have t_T12 := Lib.hid (t_T11.out.bel kb12)
  have t_S12 := Lib.hid (t_S11.out.bel kb12)
  have t_P12 := Lib.hid (t_P11.out.bel kb12)
  have t_F12 := Lib.hid (t_F11.out.bel kb12)
  have bel12 := bel11.trans (kb12.mono bel11.size)
  have c_a0_12 := b_a12.c0
  have c_a1_12 := b_a12.c1
  have c_b0_12 := b_b12.c0
  have c_b1_12 := b_b12.c1
  clear kb12 b_a11 c_a0_11 c_a1_11 b_b11 c_b0_11 c_b1_11 l_a11 l_b11 h20 t_T11 t_S11 t_P11 t_F11 bel11
  clear l_s12
  go_wp2_with fail
  have cc := Lib.hid (wshl_g v12 a (k : Int) _ A1 m1 c1 _ l_a12 (sgn_lim a) (by omega) EL.out)
  refine cc.out.mono ?_
  clear cc
  rintro e v13 ⟨A21, m21, c21, rfl, h21, hm21, kb13⟩
  have b_a13 := b_a12.bel kb13
  have b_b13 := b_b12.bel kb13
  have l_a13 := l_a12.bel kb13
  have l_b13 := l_b12.bel kb13
  have t_T13 := Lib.hid (t_T12.out.bel kb13)
  have t_S13 := Lib.hid (t_S12.out.bel kb13)
  have t_P13 := Lib.hid (t_P12.out.bel kb13)
  have t_F13 := Lib.hid (t_F12.out.bel kb13)
  have bel13 := bel12.trans (kb13.mono bel12.size)
  have c_a0_13 := b_a13.c0
  have c_a1_13 := b_a13.c1
  have c_b0_13 := b_b13.c0
  have c_b1_13 := b_b13.c1
  clear kb13 b_a12 c_a0_12 c_a1_12 b_b12 c_b0_12 c_b1_12 l_a12 l_b12 t_T12 t_S12 t_P12 t_F12 bel12
  go_wp2_with fail
  have cc := Lib.hid (wsmall_g v13 L _ A21 m21 c21 _ h21 (sgn_lim L) t_F13.out FL.out.1 FL.out.2)
  refine cc.out.mono ?_
  clear cc
  rintro e v14 ⟨rfl, kb14⟩
  have b_a14 := b_a13.bel kb14
  have b_b14 := b_b13.bel kb14
  have l_a14 := l_a13.bel kb14
  have l_b14 := l_b13.bel kb14
  have l_s14 := h21.bel kb14
  have t_T14 := Lib.hid (t_T13.out.bel kb14)
  have t_S14 := Lib.hid (t_S13.out.bel kb14)
  have t_P14 := Lib.hid (t_P13.out.bel kb14)
  have t_F14 := Lib.hid (t_F13.out.bel kb14)
  have bel14 := bel13.trans (kb14.mono bel13.size)
  have c_a0_14 := b_a14.c0
  have c_a1_14 := b_a14.c1
  have c_b0_14 := b_b14.c0
  have c_b1_14 := b_b14.c1
  clear kb14 b_a13 c_a0_13 c_a1_13 b_b13 c_b0_13 c_b1_13 l_a13 l_b13 h21 t_T13 t_S13 t_P13 t_F13 bel13
  clear l_s14
  go_wp2
  go_ret
  exact ⟨rfl, bel14⟩
end Go.Proofs.YtopkndkicdgafaaDoor
