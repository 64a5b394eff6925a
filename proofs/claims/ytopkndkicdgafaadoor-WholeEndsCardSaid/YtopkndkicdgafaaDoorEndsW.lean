/- WholeEnds: the walk. -/
import Derived.Test.YtopkndkicdgafaaDoorRK
import Derived.Test.YtopkndkicdgafaaDoorArg
import Derived.Deep.RegionHeld3
namespace Go.Proofs.YtopkndkicdgafaaDoor
open Go.RowKit

set_option maxRecDepth 100000 in
set_option maxHeartbeats 8000000 in
theorem ends_top (w : World) (n : Int) (wn : (Lit.int .u8 n).wf = true) (hT : Tab w) (hS : SumsT w) (hP : ProductsT w) (hF : FarthestT w) :
    Calls Tryd.prog 15 #[.int .u8 n] w fun e w' => e = .returned (.bool true) ∧ Below w.heap.size w w' := by
  have hn := bounds_u8 wn
  obtain ⟨j, hj, ej⟩ : ∃ j : Nat, j < 3 ∧ n % 3 = (j : Int) := ⟨(n % 3).toNat, by omega, by omega⟩
  have hkn := Lib.hid (known2_any w hT hP hF)
  have h63 : heldN 63 = 63 := by decide
  obtain ⟨I, hI⟩ : ∃ Z : Int, 1 = Z := ⟨_, rfl⟩
  obtain ⟨T, hTt⟩ : ∃ Z : Int, I * 2 ^ heldN 63 = Z := ⟨_, rfl⟩
  have hTv : T = 9223372036854775808 := by rw [← hTt, ← hI, h63]; decide
  obtain ⟨O, hO⟩ : ∃ Z : Int, (j : Int) + 1 = Z := ⟨_, rfl⟩
  obtain ⟨S1, hS1⟩ : ∃ Z : Int, T - O = Z := ⟨_, rfl⟩
  obtain ⟨N1, hN1⟩ : ∃ Z : Int, -T = Z := ⟨_, rfl⟩
  obtain ⟨E1, hE1⟩ : ∃ Z : Int, N1 - O = Z := ⟨_, rfl⟩
  have eV : 9223372036854775807 - (j : Int) = S1 := by omega
  have eW : IntKind.i64.wrap S1 = S1 := IntWalk.i64_in _ (by omega)
  have et : n.tmod 3 = (j : Int) := by rw [Int.tmod_eq_emod_of_nonneg hn.1]; exact ej
  have ew1 : IntKind.u8.wrap (j : Int) = (j : Int) := by rw [IntKind.wrap_u8]; omega
  have ew2 : IntKind.i64.wrap (j : Int) = (j : Int) := IntWalk.i64_in _ (by omega)
  have ew3 : IntKind.i64.wrap (9223372036854775807 - (j : Int)) = S1 := by rw [eV]; exact eW
  have ebb : (S1 == S1) = true := beq_self_eq_true S1
  have eO : IntKind.i64.wrap O = O := IntWalk.i64_in _ (by omega)
  have fS := (fits_iff S1).2 (by omega)
  have fN := (fits_iff N1).2 (by omega)
  have fT : fits T = false := by rw [Bool.eq_false_iff]; intro h; rw [fits_iff] at h; omega
  have fE : fits E1 = false := by rw [Bool.eq_false_iff]; intro h; rw [fits_iff] at h; omega
  have HI : Hid ((-9223372036854775808 : Int) ≤ 1 ∧ (1 : Int) ≤ 9223372036854775807) := (by decide : (-9223372036854775808 : Int) ≤ 1 ∧ (1 : Int) ≤ 9223372036854775807)
  have HOb : Hid (-9223372036854775808 ≤ O ∧ O ≤ 9223372036854775807) := (by omega : -9223372036854775808 ≤ O ∧ O ≤ 9223372036854775807)
  have FS : Hid ((if fits S1 = true then S1 else 0) = S1 ∧ fits S1 = true) := (⟨if_pos fS, fS⟩ : (if fits S1 = true then S1 else 0) = S1 ∧ fits S1 = true)
  have FN : Hid ((if fits N1 = true then N1 else 0) = -9223372036854775808 ∧ fits N1 = true) := (⟨by rw [if_pos fN]; omega, fN⟩ : (if fits N1 = true then N1 else 0) = -9223372036854775808 ∧ fits N1 = true)
  have FT : Hid ((if fits T = true then T else 0) = 0 ∧ fits T = false) := (⟨by rw [fT]; rfl, fT⟩ : (if fits T = true then T else 0) = 0 ∧ fits T = false)
  have FE : Hid ((if fits E1 = true then E1 else 0) = 0 ∧ fits E1 = false) := (⟨by rw [fE]; rfl, fE⟩ : (if fits E1 = true then E1 else 0) = 0 ∧ fits E1 = false)
  have HOF : Hid (∀ w, Calls Tryd.prog 69 #[.int .i64 1] w (TellsI w I 2)) := (fun w => wof_g w 1 (by decide) hI : ∀ w, Calls Tryd.prog 69 #[.int .i64 1] w (TellsI w I 2))
  have HON : Hid (∀ w, Calls Tryd.prog 69 #[.int .i64 (-9223372036854775808)] w (TellsI w N1 2)) := (fun w => wof_g w (-9223372036854775808) (by decide) (by omega) : ∀ w, Calls Tryd.prog 69 #[.int .i64 (-9223372036854775808)] w (TellsI w N1 2))
  have HT1 := Lib.hid hTt
  have HS1 := Lib.hid hS1
  have HN1 := Lib.hid hN1
  have HE1 := Lib.hid hE1
  have HT := Lib.hid hT
  have HS := Lib.hid hS
  have HP := Lib.hid hP
  have HF := Lib.hid hF
  clear fS fN fT fE hTt hS1 hN1 hE1 hT hS hP hF hI hTv
  go_enter Tryd.func15, Tryd.ntmps15
  go_wp2_with fail
  refine hkn.out.mono ?_
  clear hkn
  rintro e w1 ⟨rfl, bel1⟩
  have t_T1 := Lib.hid (HT.out.bel bel1)
  have t_S1 := Lib.hid (HS.out.bel bel1)
  have t_P1 := Lib.hid (HP.out.bel bel1)
  have t_F1 := Lib.hid (HF.out.bel bel1)
  clear HT HS HP HF
  go_wp2_with fail
  have cc := Lib.hid (HOF.out w1)
  refine cc.out.mono ?_
  clear cc
  rintro e v2 ⟨A1, m1, c1, rfl, h1, hm1, kb2⟩
  have t_T2 := Lib.hid (t_T1.out.bel kb2)
  have t_S2 := Lib.hid (t_S1.out.bel kb2)
  have t_P2 := Lib.hid (t_P1.out.bel kb2)
  have t_F2 := Lib.hid (t_F1.out.bel kb2)
  have bel2 := bel1.trans (kb2.mono bel1.size)
  clear kb2 t_T1 t_S1 t_P1 t_F1 bel1
  go_wp2_with fail
  have cc := Lib.hid (wshl_g v2 I 63 _ A1 m1 c1 _ h1 (sgn_lim I) (by omega) HT1.out)
  refine cc.out.mono ?_
  clear cc
  rintro e v3 ⟨A2, m2, c2, rfl, h2, hm2, kb3⟩
  have l_s3 := h1.bel kb3
  have t_T3 := Lib.hid (t_T2.out.bel kb3)
  have t_S3 := Lib.hid (t_S2.out.bel kb3)
  have t_P3 := Lib.hid (t_P2.out.bel kb3)
  have t_F3 := Lib.hid (t_F2.out.bel kb3)
  have bel3 := bel2.trans (kb3.mono bel2.size)
  clear kb3 h1 t_T2 t_S2 t_P2 t_F2 bel2
  have h63 : heldN 63 = 63 := by decide
  rw [h63] at hm2
  clear h63
  clear l_s3
  obtain ⟨gt, hgt⟩ : ∃ g, g = v3.heap.size := ⟨_, rfl⟩
  obtain ⟨wdt, hwd⟩ : ∃ v, v = v3.alloc (.cells #[.bool (decide (T < 0)), .slice A2 m2 c2] 43) := ⟨_, rfl⟩
  have bg : Box wdt gt (decide (T < 0)) A2 m2 c2 := by rw [hwd, hgt]; exact Box.new _ _ _ _ _
  have cg0 := bg.c0
  have cg1 := bg.c1
  have hbd : Below v3.heap.size v3 wdt := by rw [hwd]; exact bel_alloc _ _
  rw [hwd, hgt] at cg0 cg1
  go_wp2_with fail
  rw [← hwd, ← hgt]
  clear hwd hgt cg0 cg1 
  have l_t4 := h2.bel hbd
  have t_T4 := Lib.hid (t_T3.out.bel hbd)
  have t_S4 := Lib.hid (t_S3.out.bel hbd)
  have t_P4 := Lib.hid (t_P3.out.bel hbd)
  have t_F4 := Lib.hid (t_F3.out.bel hbd)
  have bel4 := bel3.trans (hbd.mono bel3.size)
  clear hbd h2 t_T3 t_S3 t_P3 t_F3 bel3
  have b_t4 := bg
  clear bg
  have c_t0_4 := b_t4.c0
  have c_t1_4 := b_t4.c1
  have cc := Lib.hid (wof_g wdt O HOb.out rfl)
  refine cc.out.mono ?_
  clear cc
  rintro e v5 ⟨A3, m3, c3, rfl, h3, hm3, kb5⟩
  have b_t5 := b_t4.bel kb5
  have l_t5 := l_t4.bel kb5
  have t_T5 := Lib.hid (t_T4.out.bel kb5)
  have t_S5 := Lib.hid (t_S4.out.bel kb5)
  have t_P5 := Lib.hid (t_P4.out.bel kb5)
  have t_F5 := Lib.hid (t_F4.out.bel kb5)
  have bel5 := bel4.trans (kb5.mono bel4.size)
  have c_t0_5 := b_t5.c0
  have c_t1_5 := b_t5.c1
  clear kb5 b_t4 c_t0_4 c_t1_4 l_t4 t_T4 t_S4 t_P4 t_F4 bel4
  obtain ⟨go, hgo⟩ : ∃ g, g = v5.heap.size := ⟨_, rfl⟩
  obtain ⟨wdo, hwd⟩ : ∃ v, v = v5.alloc (.cells #[.bool (decide (O < 0)), .slice A3 m3 c3] 43) := ⟨_, rfl⟩
  have bg : Box wdo go (decide (O < 0)) A3 m3 c3 := by rw [hwd, hgo]; exact Box.new _ _ _ _ _
  have cg0 := bg.c0
  have cg1 := bg.c1
  have hbd : Below v5.heap.size v5 wdo := by rw [hwd]; exact bel_alloc _ _
  rw [hwd, hgo] at cg0 cg1
  have cqt0 := (b_t5.alloc (.cells #[.bool (decide (O < 0)), .slice A3 m3 c3] 43)).c0
  have cqt1 := (b_t5.alloc (.cells #[.bool (decide (O < 0)), .slice A3 m3 c3] 43)).c1
  go_wp2_with fail
  rw [← hwd, ← hgo]
  clear hwd hgo cg0 cg1 cqt0 cqt1
  have b_t6 := b_t5.bel hbd
  have l_t6 := l_t5.bel hbd
  have l_o6 := h3.bel hbd
  have t_T6 := Lib.hid (t_T5.out.bel hbd)
  have t_S6 := Lib.hid (t_S5.out.bel hbd)
  have t_P6 := Lib.hid (t_P5.out.bel hbd)
  have t_F6 := Lib.hid (t_F5.out.bel hbd)
  have bel6 := bel5.trans (hbd.mono bel5.size)
  have c_t0_6 := b_t6.c0
  have c_t1_6 := b_t6.c1
  clear hbd b_t5 c_t0_5 c_t1_5 l_t5 h3 t_T5 t_S5 t_P5 t_F5 bel5
  have b_o6 := bg
  clear bg
  have c_o0_6 := b_o6.c0
  have c_o1_6 := b_o6.c1
  have cc := Lib.hid (wsub_g wdo T O _ A2 m2 c2 _ l_t6 (sgn_lim T) _ A3 m3 c3 _ l_o6 (sgn_lim O) t_S6.out (by omega) (by omega) HS1.out)
  refine cc.out.mono ?_
  clear cc
  rintro e v7 ⟨A4, m4, c4, rfl, h4, hm4, kb7⟩
  have b_t7 := b_t6.bel kb7
  have b_o7 := b_o6.bel kb7
  have l_t7 := l_t6.bel kb7
  have l_o7 := l_o6.bel kb7
  have t_T7 := Lib.hid (t_T6.out.bel kb7)
  have t_S7 := Lib.hid (t_S6.out.bel kb7)
  have t_P7 := Lib.hid (t_P6.out.bel kb7)
  have t_F7 := Lib.hid (t_F6.out.bel kb7)
  have bel7 := bel6.trans (kb7.mono bel6.size)
  have c_t0_7 := b_t7.c0
  have c_t1_7 := b_t7.c1
  have c_o0_7 := b_o7.c0
  have c_o1_7 := b_o7.c1
  clear kb7 b_t6 c_t0_6 c_t1_6 b_o6 c_o0_6 c_o1_6 l_t6 l_o6 t_T6 t_S6 t_P6 t_F6 bel6
  go_wp2_with fail
  have cc := Lib.hid (wsmall_g v7 S1 _ A4 m4 c4 _ h4 (sgn_lim S1) t_F7.out FS.out.1 FS.out.2)
  refine cc.out.mono ?_
  clear cc
  rintro e v8 ⟨rfl, kb8⟩
  have b_t8 := b_t7.bel kb8
  have b_o8 := b_o7.bel kb8
  have l_t8 := l_t7.bel kb8
  have l_o8 := l_o7.bel kb8
  have l_s8 := h4.bel kb8
  have t_T8 := Lib.hid (t_T7.out.bel kb8)
  have t_S8 := Lib.hid (t_S7.out.bel kb8)
  have t_P8 := Lib.hid (t_P7.out.bel kb8)
  have t_F8 := Lib.hid (t_F7.out.bel kb8)
  have bel8 := bel7.trans (kb8.mono bel7.size)
  have c_t0_8 := b_t8.c0
  have c_t1_8 := b_t8.c1
  have c_o0_8 := b_o8.c0
  have c_o1_8 := b_o8.c1
  clear kb8 b_t7 c_t0_7 c_t1_7 b_o7 c_o0_7 c_o1_7 l_t7 l_o7 h4 t_T7 t_S7 t_P7 t_F7 bel7
  clear l_s8
  go_wp2_with fail
  have cc := Lib.hid (wneg_g v8 T _ A2 m2 c2 _ l_t8 (sgn_lim T) HN1.out)
  refine cc.out.mono ?_
  clear cc
  rintro e v9 ⟨A5, m5, c5, rfl, h5, hm5, kb9⟩
  have b_t9 := b_t8.bel kb9
  have b_o9 := b_o8.bel kb9
  have l_t9 := l_t8.bel kb9
  have l_o9 := l_o8.bel kb9
  have t_T9 := Lib.hid (t_T8.out.bel kb9)
  have t_S9 := Lib.hid (t_S8.out.bel kb9)
  have t_P9 := Lib.hid (t_P8.out.bel kb9)
  have t_F9 := Lib.hid (t_F8.out.bel kb9)
  have bel9 := bel8.trans (kb9.mono bel8.size)
  have c_t0_9 := b_t9.c0
  have c_t1_9 := b_t9.c1
  have c_o0_9 := b_o9.c0
  have c_o1_9 := b_o9.c1
  clear kb9 b_t8 c_t0_8 c_t1_8 b_o8 c_o0_8 c_o1_8 l_t8 l_o8 t_T8 t_S8 t_P8 t_F8 bel8
  go_wp2_with fail
  have cc := Lib.hid (wsmall_g v9 N1 _ A5 m5 c5 _ h5 (sgn_lim N1) t_F9.out FN.out.1 FN.out.2)
  refine cc.out.mono ?_
  clear cc
  rintro e v10 ⟨rfl, kb10⟩
  have b_t10 := b_t9.bel kb10
  have b_o10 := b_o9.bel kb10
  have l_t10 := l_t9.bel kb10
  have l_o10 := l_o9.bel kb10
  have l_s10 := h5.bel kb10
  have t_T10 := Lib.hid (t_T9.out.bel kb10)
  have t_S10 := Lib.hid (t_S9.out.bel kb10)
  have t_P10 := Lib.hid (t_P9.out.bel kb10)
  have t_F10 := Lib.hid (t_F9.out.bel kb10)
  have bel10 := bel9.trans (kb10.mono bel9.size)
  have c_t0_10 := b_t10.c0
  have c_t1_10 := b_t10.c1
  have c_o0_10 := b_o10.c0
  have c_o1_10 := b_o10.c1
  clear kb10 b_t9 c_t0_9 c_t1_9 b_o9 c_o0_9 c_o1_9 l_t9 l_o9 h5 t_T9 t_S9 t_P9 t_F9 bel9
  clear l_s10
  go_wp2_with fail
  have cc := Lib.hid (wsmall_g v10 T _ A2 m2 c2 _ l_t10 (sgn_lim T) t_F10.out FT.out.1 FT.out.2)
  refine cc.out.mono ?_
  clear cc
  rintro e v11 ⟨rfl, kb11⟩
  have b_t11 := b_t10.bel kb11
  have b_o11 := b_o10.bel kb11
  have l_t11 := l_t10.bel kb11
  have l_o11 := l_o10.bel kb11
  have t_T11 := Lib.hid (t_T10.out.bel kb11)
  have t_S11 := Lib.hid (t_S10.out.bel kb11)
  have t_P11 := Lib.hid (t_P10.out.bel kb11)
  have t_F11 := Lib.hid (t_F10.out.bel kb11)
  have bel11 := bel10.trans (kb11.mono bel10.size)
  have c_t0_11 := b_t11.c0
  have c_t1_11 := b_t11.c1
  have c_o0_11 := b_o11.c0
  have c_o1_11 := b_o11.c1
  clear kb11 b_t10 c_t0_10 c_t1_10 b_o10 c_o0_10 c_o1_10 l_t10 l_o10 t_T10 t_S10 t_P10 t_F10 bel10
  go_wp2_with fail
  have hS0 := And.intro (held0 b_t11) (held0 b_o11)
  go_region_held3 (fun w' => (Box w' gt (decide (T < 0)) A2 m2 c2 ∧ w'.cell? ⟨gt, 0, none⟩ = some (.bool (decide (T < 0))) ∧ w'.cell? ⟨gt, 1, none⟩ = some (.slice A2 m2 c2)) ∧ (Box w' go (decide (O < 0)) A3 m3 c3 ∧ w'.cell? ⟨go, 0, none⟩ = some (.bool (decide (O < 0))) ∧ w'.cell? ⟨go, 1, none⟩ = some (.slice A3 m3 c3)))
    (first
      | exact ⟨held0 (w := v11.drew) b_t11, held0 (w := v11.drew) b_o11⟩
      | exact keep20 (by assumption) hS0)
    (first
      | (go_at_call 63; refine (wneg_g _ T _ A2 m2 c2 _ ?_ (sgn_lim T) HN1.out).mono ?_; exact l_t11.drew; rintro e x1 ⟨A6, m6, c6, rfl, h6, hm6, kx1⟩; have y1 := bel_undrew kx1)
      | (go_at_call 59; refine (wsub_g _ N1 O _ A6 m6 c6 _ ?_ (sgn_lim N1) _ A3 m3 c3 _ ?_ (sgn_lim O) ?_ ?_ ?_ HE1.out).mono ?_; exact h6; exact l_o11.bel y1; exact t_S11.out.bel y1; omega; omega; rintro e x2 ⟨A7, m7, c7, rfl, h7, hm7, kx2⟩; have y2 := bel_next y1 kx2)
      | (go_at_call 65; refine (wsmall_g _ E1 _ A7 m7 c7 _ ?_ (sgn_lim E1) ?_ FE.out.1 FE.out.2).mono ?_; exact h7; exact t_F11.out.bel y2; rintro e x3 ⟨rfl, kx3⟩; have y3 := bel_next y2 kx3))
  clear hS0
  have b_t12 := b_t11.bel y3
  have b_o12 := b_o11.bel y3
  have l_t12 := l_t11.bel y3
  have l_o12 := l_o11.bel y3
  have t_T12 := Lib.hid (t_T11.out.bel y3)
  have t_S12 := Lib.hid (t_S11.out.bel y3)
  have t_P12 := Lib.hid (t_P11.out.bel y3)
  have t_F12 := Lib.hid (t_F11.out.bel y3)
  have bel12 := bel11.trans (y3.mono bel11.size)
  have c_t0_12 := b_t12.c0
  have c_t1_12 := b_t12.c1
  have c_o0_12 := b_o12.c0
  have c_o1_12 := b_o12.c1
  clear y3 b_t11 c_t0_11 c_t1_11 b_o11 c_o0_11 c_o1_11 l_t11 l_o11 t_T11 t_S11 t_P11 t_F11 bel11
  clear y1 y2 h6 h7 kx1 kx2 kx3
  go_wp2_with fail
  have hS0 := And.intro (held0 b_t12) (held0 b_o12)
  go_region_held3 (fun w' => (Box w' gt (decide (T < 0)) A2 m2 c2 ∧ w'.cell? ⟨gt, 0, none⟩ = some (.bool (decide (T < 0))) ∧ w'.cell? ⟨gt, 1, none⟩ = some (.slice A2 m2 c2)) ∧ (Box w' go (decide (O < 0)) A3 m3 c3 ∧ w'.cell? ⟨go, 0, none⟩ = some (.bool (decide (O < 0))) ∧ w'.cell? ⟨go, 1, none⟩ = some (.slice A3 m3 c3)))
    (first
      | exact ⟨held0 (w := x3.drew) b_t12, held0 (w := x3.drew) b_o12⟩
      | exact keep20 (by assumption) hS0)
    (first
      | (go_at_call 69; refine (HON.out _).mono ?_; rintro e x4 ⟨A8, m8, c8, rfl, h8, hm8, kx4⟩; have y4 := bel_undrew kx4)
      | (go_at_call 63; refine (wneg_g _ T _ A2 m2 c2 _ ?_ (sgn_lim T) HN1.out).mono ?_; exact l_t12.bel y4; rintro e x5 ⟨A9, m9, c9, rfl, h9, hm9, kx5⟩; have y5 := bel_next y4 kx5)
      | (go_at_call 50; refine (rsameZ _ N1 N1 A8 m8 c8 ?_ A9 m9 c9 ?_ (decide_eq_true rfl)).mono ?_; exact h8.bel kx5; exact h9; rintro e x6 ⟨rfl, kx6⟩; have y6 := bel_next y5 kx6))
  go_wp2
  go_ret
  exact ⟨rfl, bel12.trans (y6.mono bel12.size)⟩
end Go.Proofs.YtopkndkicdgafaaDoor
