/- NatOrder: the walks, by how the three compare. -/
import Derived.Test.YtbnhpamjklfifaaDoorOrderW
namespace Go.Proofs.YtbnhpamjklfifaaDoor
open Go.RowKit

set_option maxHeartbeats 4000000 in
theorem order_lt_ne (w : World) (A : Option Addr) (n c : Nat) (xs : List Nat) (A' : Option Addr) (n' c' : Nat) (ys : List Nat) (A'' : Option Addr) (n'' c'' : Nat) (zs : List Nat) (k : Nat)
    (h : Lm w A n c xs) (h' : Lm w A' n' c' ys) (h'' : Lm w A'' n'' c'' zs) (hk : k ≤ 255) (hT : Tab w) (f1 : n ≤ 24) (f2 : n' ≤ 24) (f3 : n'' ≤ 24)
    (hx : cmpN (val xs) (val ys) = -1) (y : Int) (hy : cmpN (val ys) (val zs) = y) (hne : ((-1 : Int) != y) = true) :
    Calls Tryd.prog 8 #[.slice A n c, .slice A' n' c', .slice A'' n'' c'', .int .u8 k] w fun e w' => e = .returned (.bool true) ∧ Below w.heap.size w w' := by
  have hkn := Lib.hid (known_any w hT)
  clear hT
  have hx_ := Lib.hid hx
  have hy_ := Lib.hid hy
  clear hx hy
  have hk0 := heldN_small (k := k) hk
  generalize heldN (k : Int) = H at *
  go_enter Tryd.func8, Tryd.ntmps8
  go_wp2_with fail
  refine hkn.out.mono ?_
  clear hkn
  rintro e w1 ⟨rfl, hb⟩
  have a1 := h.bel hb
  have b1 := h'.bel hb
  have c1 := h''.bel hb
  clear h h' h''
  go_wp2_with (go_at_call 11; refine (few_any _ _ _ _).mono ?_; rintro e w' ⟨rfl, rfl⟩)
  go_wp2_with fail
  have cc := Lib.hid (cmp_bel w1 _ _ _ _ _ _ _ _ a1 b1)
  refine cc.out.mono ?_
  clear cc
  rw [hx_.out]
  rintro e v2 ⟨rfl, hb2⟩
  have a_2 := a1.bel hb2
  have b_2 := b1.bel hb2
  have c_2 := c1.bel hb2
  have B_2 := hb.trans (hb2.mono hb.size)
  clear hb2 a1 b1 c1 hb
  go_wp2_with fail
  have cc := Lib.hid (cmp_bel v2 _ _ _ _ _ _ _ _ b_2 c_2)
  refine cc.out.mono ?_
  clear cc
  rw [hy_.out]
  rintro e v3 ⟨rfl, hb3⟩
  have a_3 := a_2.bel hb3
  have b_3 := b_2.bel hb3
  have c_3 := c_2.bel hb3
  have B_3 := B_2.trans (hb3.mono B_2.size)
  clear hb3 a_2 b_2 c_2 B_2
  go_wp2_with fail
  have cc := Lib.hid (cmp_bel v3 _ _ _ _ _ _ _ _ b_3 a_3)
  refine cc.out.mono ?_
  clear cc
  rw [cmpN_swap, hx_.out]
  rintro e v4 ⟨rfl, hb4⟩
  have a_4 := a_3.bel hb4
  have b_4 := b_3.bel hb4
  have c_4 := c_3.bel hb4
  have B_4 := B_3.trans (hb4.mono B_3.size)
  clear hb4 a_3 b_3 c_3 B_3
  go_wp2_with fail
  have cc := Lib.hid (add_any v4 _ _ _ _ _ _ _ _ a_4 c_4 (by omega) (by omega))
  refine cc.out.mono ?_
  clear cc
  rintro e v5 ⟨S1, m1, d1, rfl, s1, hm1, hb5⟩
  have a_5 := a_4.bel hb5
  have b_5 := b_4.bel hb5
  have c_5 := c_4.bel hb5
  have B_5 := B_4.trans (hb5.mono B_4.size)
  clear hb5 a_4 b_4 c_4 B_4
  go_wp2_with fail
  have cc := Lib.hid (add_any v5 _ _ _ _ _ _ _ _ b_5 c_5 (by omega) (by omega))
  refine cc.out.mono ?_
  clear cc
  rintro e v6 ⟨S2, m2, d2, rfl, s2, hm2, hb6⟩
  have a_6 := a_5.bel hb6
  have b_6 := b_5.bel hb6
  have c_6 := c_5.bel hb6
  have s1_6 := s1.bel hb6
  have B_6 := B_5.trans (hb6.mono B_5.size)
  clear hb6 a_5 b_5 c_5 s1 B_5
  go_wp2_with fail
  have cc := Lib.hid (cmp_bel v6 _ _ _ _ _ _ _ _ s1_6 s2)
  refine cc.out.mono ?_
  clear cc
  rw [val_lim, val_lim, cmpN_add, hx_.out]
  rintro e v7 ⟨rfl, hb7⟩
  have a_7 := a_6.bel hb7
  have b_7 := b_6.bel hb7
  have c_7 := c_6.bel hb7
  have s1_7 := s1_6.bel hb7
  have s2_7 := s2.bel hb7
  have B_7 := B_6.trans (hb7.mono B_6.size)
  clear hb7 a_6 b_6 c_6 s1_6 s2 B_6
  clear s1_7
  clear s2_7
  go_wp2_with fail
  have cc := Lib.hid (shl_any v7 _ _ _ _ k a_7 (by omega))
  refine cc.out.mono ?_
  clear cc
  rintro e v8 ⟨S3, m3, d3, rfl, s3, hm3, hb8⟩
  have a_8 := a_7.bel hb8
  have b_8 := b_7.bel hb8
  have c_8 := c_7.bel hb8
  have B_8 := B_7.trans (hb8.mono B_7.size)
  clear hb8 a_7 b_7 c_7 B_7
  go_wp2_with fail
  have cc := Lib.hid (shl_any v8 _ _ _ _ k b_8 (by omega))
  refine cc.out.mono ?_
  clear cc
  rintro e v9 ⟨S4, m4, d4, rfl, s4, hm4, hb9⟩
  have a_9 := a_8.bel hb9
  have b_9 := b_8.bel hb9
  have c_9 := c_8.bel hb9
  have s3_9 := s3.bel hb9
  have B_9 := B_8.trans (hb9.mono B_8.size)
  clear hb9 a_8 b_8 c_8 s3 B_8
  go_wp2_with fail
  have cc := Lib.hid (cmp_bel v9 _ _ _ _ _ _ _ _ s3_9 s4)
  refine cc.out.mono ?_
  clear cc
  rw [val_lim, val_lim, cmpN_mul _ _ _ (Nat.two_pow_pos _), hx_.out]
  rintro e v10 ⟨rfl, hb10⟩
  have a_10 := a_9.bel hb10
  have b_10 := b_9.bel hb10
  have c_10 := c_9.bel hb10
  have s3_10 := s3_9.bel hb10
  have s4_10 := s4.bel hb10
  have B_10 := B_9.trans (hb10.mono B_9.size)
  clear hb10 a_9 b_9 c_9 s3_9 s4 B_9
  clear s3_10
  clear s4_10
  go_wp2_with fail
  have cc := Lib.hid (cmp_bel v10 _ _ _ _ _ _ _ _ a_10 a_10)
  refine cc.out.mono ?_
  clear cc
  rw [cmpN_self]
  rintro e v11 ⟨rfl, hb11⟩
  have a_11 := a_10.bel hb11
  have b_11 := b_10.bel hb11
  have c_11 := c_10.bel hb11
  have B_11 := B_10.trans (hb11.mono B_10.size)
  clear hb11 a_10 b_10 c_10 B_10
  go_wp2_with fail
  obtain ⟨v12, hw12⟩ : ∃ v, v = v11.alloc (.cells #[.int .u32 1] 37) := ⟨_, rfl⟩
  rw [← hw12]
  have hb12 : Below v11.heap.size v11 v12 := by rw [hw12]; exact (Below.refl _ _).alloc (Nat.le_refl _) _
  have one_12 : Lm v12 (some ⟨v11.heap.size, 0, none⟩) 1 1 [1] := by rw [hw12]; exact (Own.list v11 [1]).lm (Ok.of_mem (fun x hx => by rw [Bs_eq]; simp at hx; omega)) (by simp)
  have a_12 := a_11.bel hb12
  have b_12 := b_11.bel hb12
  have c_12 := c_11.bel hb12
  have B_12 := B_11.trans (hb12.mono B_11.size)
  clear hw12 hb12 a_11 b_11 c_11 B_11
  have cc := Lib.hid (add_any v12 _ _ _ _ _ _ _ _ c_12 one_12 (by omega) (by omega))
  refine cc.out.mono ?_
  clear cc
  rintro e v13 ⟨S5, m5, d5, rfl, s5, hm5, hb13⟩
  have a_13 := a_12.bel hb13
  have b_13 := b_12.bel hb13
  have c_13 := c_12.bel hb13
  have one_13 := one_12.bel hb13
  have B_13 := B_12.trans (hb13.mono B_12.size)
  clear hb13 a_12 b_12 c_12 one_12 B_12
  clear one_13
  go_wp2_with fail
  have cc := Lib.hid (mul_any v13 _ _ _ _ _ _ _ _ a_13 s5 (by omega) (by omega))
  refine cc.out.mono ?_
  clear cc
  rintro e v14 ⟨S6, m6, d6, rfl, s6, hm6, hb14⟩
  have a_14 := a_13.bel hb14
  have b_14 := b_13.bel hb14
  have c_14 := c_13.bel hb14
  have s5_14 := s5.bel hb14
  have B_14 := B_13.trans (hb14.mono B_13.size)
  clear hb14 a_13 b_13 c_13 s5 B_13
  clear s5_14
  go_wp2_with fail
  obtain ⟨v15, hw15⟩ : ∃ v, v = v14.alloc (.cells #[.int .u32 1] 37) := ⟨_, rfl⟩
  rw [← hw15]
  have hb15 : Below v14.heap.size v14 v15 := by rw [hw15]; exact (Below.refl _ _).alloc (Nat.le_refl _) _
  have one_15 : Lm v15 (some ⟨v14.heap.size, 0, none⟩) 1 1 [1] := by rw [hw15]; exact (Own.list v14 [1]).lm (Ok.of_mem (fun x hx => by rw [Bs_eq]; simp at hx; omega)) (by simp)
  have a_15 := a_14.bel hb15
  have b_15 := b_14.bel hb15
  have c_15 := c_14.bel hb15
  have s6_15 := s6.bel hb15
  have B_15 := B_14.trans (hb15.mono B_14.size)
  clear hw15 hb15 a_14 b_14 c_14 s6 B_14
  have cc := Lib.hid (add_any v15 _ _ _ _ _ _ _ _ c_15 one_15 (by omega) (by omega))
  refine cc.out.mono ?_
  clear cc
  rintro e v16 ⟨S7, m7, d7, rfl, s7, hm7, hb16⟩
  have a_16 := a_15.bel hb16
  have b_16 := b_15.bel hb16
  have c_16 := c_15.bel hb16
  have s6_16 := s6_15.bel hb16
  have one_16 := one_15.bel hb16
  have B_16 := B_15.trans (hb16.mono B_15.size)
  clear hb16 a_15 b_15 c_15 s6_15 one_15 B_15
  clear one_16
  go_wp2_with fail
  have cc := Lib.hid (mul_any v16 _ _ _ _ _ _ _ _ b_16 s7 (by omega) (by omega))
  refine cc.out.mono ?_
  clear cc
  rintro e v17 ⟨S8, m8, d8, rfl, s8, hm8, hb17⟩
  have a_17 := a_16.bel hb17
  have b_17 := b_16.bel hb17
  have c_17 := c_16.bel hb17
  have s6_17 := s6_16.bel hb17
  have s7_17 := s7.bel hb17
  have B_17 := B_16.trans (hb17.mono B_16.size)
  clear hb17 a_16 b_16 c_16 s6_16 s7 B_16
  clear s7_17
  go_wp2_with fail
  have cc := Lib.hid (cmp_bel v17 _ _ _ _ _ _ _ _ s6_17 s8)
  refine cc.out.mono ?_
  clear cc
  rw [val_lim, val_lim, val_lim, val_single, cmpN_mul _ _ _ (Nat.succ_pos _), hx_.out]
  rintro e v18 ⟨rfl, hb18⟩
  have a_18 := a_17.bel hb18
  have b_18 := b_17.bel hb18
  have c_18 := c_17.bel hb18
  have s6_18 := s6_17.bel hb18
  have s8_18 := s8.bel hb18
  have B_18 := B_17.trans (hb18.mono B_17.size)
  clear hb18 a_17 b_17 c_17 s6_17 s8 B_17
  go_wp2
  go_ret
  exact ⟨rfl, B_18⟩

set_option maxHeartbeats 4000000 in
theorem order_lt_eq (w : World) (A : Option Addr) (n c : Nat) (xs : List Nat) (A' : Option Addr) (n' c' : Nat) (ys : List Nat) (A'' : Option Addr) (n'' c'' : Nat) (zs : List Nat) (k : Nat)
    (h : Lm w A n c xs) (h' : Lm w A' n' c' ys) (h'' : Lm w A'' n'' c'' zs) (hk : k ≤ 255) (hT : Tab w) (f1 : n ≤ 24) (f2 : n' ≤ 24) (f3 : n'' ≤ 24)
    (hx : cmpN (val xs) (val ys) = -1) (hy : cmpN (val ys) (val zs) = -1) :
    Calls Tryd.prog 8 #[.slice A n c, .slice A' n' c', .slice A'' n'' c'', .int .u8 k] w fun e w' => e = .returned (.bool true) ∧ Below w.heap.size w w' := by
  have hkn := Lib.hid (known_any w hT)
  clear hT
  have hx_ := Lib.hid hx
  have hy_ := Lib.hid hy
  clear hx hy
  have hk0 := heldN_small (k := k) hk
  generalize heldN (k : Int) = H at *
  go_enter Tryd.func8, Tryd.ntmps8
  go_wp2_with fail
  refine hkn.out.mono ?_
  clear hkn
  rintro e w1 ⟨rfl, hb⟩
  have a1 := h.bel hb
  have b1 := h'.bel hb
  have c1 := h''.bel hb
  clear h h' h''
  go_wp2_with (go_at_call 11; refine (few_any _ _ _ _).mono ?_; rintro e w' ⟨rfl, rfl⟩)
  go_wp2_with fail
  have cc := Lib.hid (cmp_bel w1 _ _ _ _ _ _ _ _ a1 b1)
  refine cc.out.mono ?_
  clear cc
  rw [hx_.out]
  rintro e v2 ⟨rfl, hb2⟩
  have a_2 := a1.bel hb2
  have b_2 := b1.bel hb2
  have c_2 := c1.bel hb2
  have B_2 := hb.trans (hb2.mono hb.size)
  clear hb2 a1 b1 c1 hb
  go_wp2_with fail
  have cc := Lib.hid (cmp_bel v2 _ _ _ _ _ _ _ _ b_2 c_2)
  refine cc.out.mono ?_
  clear cc
  rw [hy_.out]
  rintro e v3 ⟨rfl, hb3⟩
  have a_3 := a_2.bel hb3
  have b_3 := b_2.bel hb3
  have c_3 := c_2.bel hb3
  have B_3 := B_2.trans (hb3.mono B_2.size)
  clear hb3 a_2 b_2 c_2 B_2
  go_wp2_with fail
  have cc := Lib.hid (cmp_bel v3 _ _ _ _ _ _ _ _ a_3 c_3)
  refine cc.out.mono ?_
  clear cc
  rw [cmpN_trans hx_.out hy_.out]
  rintro e v4 ⟨rfl, hb4⟩
  have a_4 := a_3.bel hb4
  have b_4 := b_3.bel hb4
  have c_4 := c_3.bel hb4
  have B_4 := B_3.trans (hb4.mono B_3.size)
  clear hb4 a_3 b_3 c_3 B_3
  go_wp2_with fail
  have cc := Lib.hid (cmp_bel v4 _ _ _ _ _ _ _ _ b_4 a_4)
  refine cc.out.mono ?_
  clear cc
  rw [cmpN_swap, hx_.out]
  rintro e v5 ⟨rfl, hb5⟩
  have a_5 := a_4.bel hb5
  have b_5 := b_4.bel hb5
  have c_5 := c_4.bel hb5
  have B_5 := B_4.trans (hb5.mono B_4.size)
  clear hb5 a_4 b_4 c_4 B_4
  go_wp2_with fail
  have cc := Lib.hid (add_any v5 _ _ _ _ _ _ _ _ a_5 c_5 (by omega) (by omega))
  refine cc.out.mono ?_
  clear cc
  rintro e v6 ⟨S1, m1, d1, rfl, s1, hm1, hb6⟩
  have a_6 := a_5.bel hb6
  have b_6 := b_5.bel hb6
  have c_6 := c_5.bel hb6
  have B_6 := B_5.trans (hb6.mono B_5.size)
  clear hb6 a_5 b_5 c_5 B_5
  go_wp2_with fail
  have cc := Lib.hid (add_any v6 _ _ _ _ _ _ _ _ b_6 c_6 (by omega) (by omega))
  refine cc.out.mono ?_
  clear cc
  rintro e v7 ⟨S2, m2, d2, rfl, s2, hm2, hb7⟩
  have a_7 := a_6.bel hb7
  have b_7 := b_6.bel hb7
  have c_7 := c_6.bel hb7
  have s1_7 := s1.bel hb7
  have B_7 := B_6.trans (hb7.mono B_6.size)
  clear hb7 a_6 b_6 c_6 s1 B_6
  go_wp2_with fail
  have cc := Lib.hid (cmp_bel v7 _ _ _ _ _ _ _ _ s1_7 s2)
  refine cc.out.mono ?_
  clear cc
  rw [val_lim, val_lim, cmpN_add, hx_.out]
  rintro e v8 ⟨rfl, hb8⟩
  have a_8 := a_7.bel hb8
  have b_8 := b_7.bel hb8
  have c_8 := c_7.bel hb8
  have s1_8 := s1_7.bel hb8
  have s2_8 := s2.bel hb8
  have B_8 := B_7.trans (hb8.mono B_7.size)
  clear hb8 a_7 b_7 c_7 s1_7 s2 B_7
  clear s1_8
  clear s2_8
  go_wp2_with fail
  have cc := Lib.hid (shl_any v8 _ _ _ _ k a_8 (by omega))
  refine cc.out.mono ?_
  clear cc
  rintro e v9 ⟨S3, m3, d3, rfl, s3, hm3, hb9⟩
  have a_9 := a_8.bel hb9
  have b_9 := b_8.bel hb9
  have c_9 := c_8.bel hb9
  have B_9 := B_8.trans (hb9.mono B_8.size)
  clear hb9 a_8 b_8 c_8 B_8
  go_wp2_with fail
  have cc := Lib.hid (shl_any v9 _ _ _ _ k b_9 (by omega))
  refine cc.out.mono ?_
  clear cc
  rintro e v10 ⟨S4, m4, d4, rfl, s4, hm4, hb10⟩
  have a_10 := a_9.bel hb10
  have b_10 := b_9.bel hb10
  have c_10 := c_9.bel hb10
  have s3_10 := s3.bel hb10
  have B_10 := B_9.trans (hb10.mono B_9.size)
  clear hb10 a_9 b_9 c_9 s3 B_9
  go_wp2_with fail
  have cc := Lib.hid (cmp_bel v10 _ _ _ _ _ _ _ _ s3_10 s4)
  refine cc.out.mono ?_
  clear cc
  rw [val_lim, val_lim, cmpN_mul _ _ _ (Nat.two_pow_pos _), hx_.out]
  rintro e v11 ⟨rfl, hb11⟩
  have a_11 := a_10.bel hb11
  have b_11 := b_10.bel hb11
  have c_11 := c_10.bel hb11
  have s3_11 := s3_10.bel hb11
  have s4_11 := s4.bel hb11
  have B_11 := B_10.trans (hb11.mono B_10.size)
  clear hb11 a_10 b_10 c_10 s3_10 s4 B_10
  clear s3_11
  clear s4_11
  go_wp2_with fail
  have cc := Lib.hid (cmp_bel v11 _ _ _ _ _ _ _ _ a_11 a_11)
  refine cc.out.mono ?_
  clear cc
  rw [cmpN_self]
  rintro e v12 ⟨rfl, hb12⟩
  have a_12 := a_11.bel hb12
  have b_12 := b_11.bel hb12
  have c_12 := c_11.bel hb12
  have B_12 := B_11.trans (hb12.mono B_11.size)
  clear hb12 a_11 b_11 c_11 B_11
  go_wp2_with fail
  obtain ⟨v13, hw13⟩ : ∃ v, v = v12.alloc (.cells #[.int .u32 1] 37) := ⟨_, rfl⟩
  rw [← hw13]
  have hb13 : Below v12.heap.size v12 v13 := by rw [hw13]; exact (Below.refl _ _).alloc (Nat.le_refl _) _
  have one_13 : Lm v13 (some ⟨v12.heap.size, 0, none⟩) 1 1 [1] := by rw [hw13]; exact (Own.list v12 [1]).lm (Ok.of_mem (fun x hx => by rw [Bs_eq]; simp at hx; omega)) (by simp)
  have a_13 := a_12.bel hb13
  have b_13 := b_12.bel hb13
  have c_13 := c_12.bel hb13
  have B_13 := B_12.trans (hb13.mono B_12.size)
  clear hw13 hb13 a_12 b_12 c_12 B_12
  have cc := Lib.hid (add_any v13 _ _ _ _ _ _ _ _ c_13 one_13 (by omega) (by omega))
  refine cc.out.mono ?_
  clear cc
  rintro e v14 ⟨S5, m5, d5, rfl, s5, hm5, hb14⟩
  have a_14 := a_13.bel hb14
  have b_14 := b_13.bel hb14
  have c_14 := c_13.bel hb14
  have one_14 := one_13.bel hb14
  have B_14 := B_13.trans (hb14.mono B_13.size)
  clear hb14 a_13 b_13 c_13 one_13 B_13
  clear one_14
  go_wp2_with fail
  have cc := Lib.hid (mul_any v14 _ _ _ _ _ _ _ _ a_14 s5 (by omega) (by omega))
  refine cc.out.mono ?_
  clear cc
  rintro e v15 ⟨S6, m6, d6, rfl, s6, hm6, hb15⟩
  have a_15 := a_14.bel hb15
  have b_15 := b_14.bel hb15
  have c_15 := c_14.bel hb15
  have s5_15 := s5.bel hb15
  have B_15 := B_14.trans (hb15.mono B_14.size)
  clear hb15 a_14 b_14 c_14 s5 B_14
  clear s5_15
  go_wp2_with fail
  obtain ⟨v16, hw16⟩ : ∃ v, v = v15.alloc (.cells #[.int .u32 1] 37) := ⟨_, rfl⟩
  rw [← hw16]
  have hb16 : Below v15.heap.size v15 v16 := by rw [hw16]; exact (Below.refl _ _).alloc (Nat.le_refl _) _
  have one_16 : Lm v16 (some ⟨v15.heap.size, 0, none⟩) 1 1 [1] := by rw [hw16]; exact (Own.list v15 [1]).lm (Ok.of_mem (fun x hx => by rw [Bs_eq]; simp at hx; omega)) (by simp)
  have a_16 := a_15.bel hb16
  have b_16 := b_15.bel hb16
  have c_16 := c_15.bel hb16
  have s6_16 := s6.bel hb16
  have B_16 := B_15.trans (hb16.mono B_15.size)
  clear hw16 hb16 a_15 b_15 c_15 s6 B_15
  have cc := Lib.hid (add_any v16 _ _ _ _ _ _ _ _ c_16 one_16 (by omega) (by omega))
  refine cc.out.mono ?_
  clear cc
  rintro e v17 ⟨S7, m7, d7, rfl, s7, hm7, hb17⟩
  have a_17 := a_16.bel hb17
  have b_17 := b_16.bel hb17
  have c_17 := c_16.bel hb17
  have s6_17 := s6_16.bel hb17
  have one_17 := one_16.bel hb17
  have B_17 := B_16.trans (hb17.mono B_16.size)
  clear hb17 a_16 b_16 c_16 s6_16 one_16 B_16
  clear one_17
  go_wp2_with fail
  have cc := Lib.hid (mul_any v17 _ _ _ _ _ _ _ _ b_17 s7 (by omega) (by omega))
  refine cc.out.mono ?_
  clear cc
  rintro e v18 ⟨S8, m8, d8, rfl, s8, hm8, hb18⟩
  have a_18 := a_17.bel hb18
  have b_18 := b_17.bel hb18
  have c_18 := c_17.bel hb18
  have s6_18 := s6_17.bel hb18
  have s7_18 := s7.bel hb18
  have B_18 := B_17.trans (hb18.mono B_17.size)
  clear hb18 a_17 b_17 c_17 s6_17 s7 B_17
  clear s7_18
  go_wp2_with fail
  have cc := Lib.hid (cmp_bel v18 _ _ _ _ _ _ _ _ s6_18 s8)
  refine cc.out.mono ?_
  clear cc
  rw [val_lim, val_lim, val_lim, val_single, cmpN_mul _ _ _ (Nat.succ_pos _), hx_.out]
  rintro e v19 ⟨rfl, hb19⟩
  have a_19 := a_18.bel hb19
  have b_19 := b_18.bel hb19
  have c_19 := c_18.bel hb19
  have s6_19 := s6_18.bel hb19
  have s8_19 := s8.bel hb19
  have B_19 := B_18.trans (hb19.mono B_18.size)
  clear hb19 a_18 b_18 c_18 s6_18 s8 B_18
  go_wp2
  go_ret
  exact ⟨rfl, B_19⟩

set_option maxHeartbeats 4000000 in
theorem order_eq_ne (w : World) (A : Option Addr) (n c : Nat) (xs : List Nat) (A' : Option Addr) (n' c' : Nat) (ys : List Nat) (A'' : Option Addr) (n'' c'' : Nat) (zs : List Nat) (k : Nat)
    (h : Lm w A n c xs) (h' : Lm w A' n' c' ys) (h'' : Lm w A'' n'' c'' zs) (hk : k ≤ 255) (hT : Tab w) (f1 : n ≤ 24) (f2 : n' ≤ 24) (f3 : n'' ≤ 24)
    (hx : cmpN (val xs) (val ys) = 0) (y : Int) (hy : cmpN (val ys) (val zs) = y) (hne : ((0 : Int) != y) = true) :
    Calls Tryd.prog 8 #[.slice A n c, .slice A' n' c', .slice A'' n'' c'', .int .u8 k] w fun e w' => e = .returned (.bool true) ∧ Below w.heap.size w w' := by
  have hkn := Lib.hid (known_any w hT)
  clear hT
  have hx_ := Lib.hid hx
  have hy_ := Lib.hid hy
  clear hx hy
  have hk0 := heldN_small (k := k) hk
  generalize heldN (k : Int) = H at *
  go_enter Tryd.func8, Tryd.ntmps8
  go_wp2_with fail
  refine hkn.out.mono ?_
  clear hkn
  rintro e w1 ⟨rfl, hb⟩
  have a1 := h.bel hb
  have b1 := h'.bel hb
  have c1 := h''.bel hb
  clear h h' h''
  go_wp2_with (go_at_call 11; refine (few_any _ _ _ _).mono ?_; rintro e w' ⟨rfl, rfl⟩)
  go_wp2_with fail
  have cc := Lib.hid (cmp_bel w1 _ _ _ _ _ _ _ _ a1 b1)
  refine cc.out.mono ?_
  clear cc
  rw [hx_.out]
  rintro e v2 ⟨rfl, hb2⟩
  have a_2 := a1.bel hb2
  have b_2 := b1.bel hb2
  have c_2 := c1.bel hb2
  have B_2 := hb.trans (hb2.mono hb.size)
  clear hb2 a1 b1 c1 hb
  go_wp2_with fail
  have cc := Lib.hid (cmp_bel v2 _ _ _ _ _ _ _ _ b_2 c_2)
  refine cc.out.mono ?_
  clear cc
  rw [hy_.out]
  rintro e v3 ⟨rfl, hb3⟩
  have a_3 := a_2.bel hb3
  have b_3 := b_2.bel hb3
  have c_3 := c_2.bel hb3
  have B_3 := B_2.trans (hb3.mono B_2.size)
  clear hb3 a_2 b_2 c_2 B_2
  go_wp2_with fail
  have cc := Lib.hid (cmp_bel v3 _ _ _ _ _ _ _ _ b_3 a_3)
  refine cc.out.mono ?_
  clear cc
  rw [cmpN_swap, hx_.out]
  rintro e v4 ⟨rfl, hb4⟩
  have a_4 := a_3.bel hb4
  have b_4 := b_3.bel hb4
  have c_4 := c_3.bel hb4
  have B_4 := B_3.trans (hb4.mono B_3.size)
  clear hb4 a_3 b_3 c_3 B_3
  go_wp2_with fail
  have cc := Lib.hid (add_any v4 _ _ _ _ _ _ _ _ a_4 c_4 (by omega) (by omega))
  refine cc.out.mono ?_
  clear cc
  rintro e v5 ⟨S1, m1, d1, rfl, s1, hm1, hb5⟩
  have a_5 := a_4.bel hb5
  have b_5 := b_4.bel hb5
  have c_5 := c_4.bel hb5
  have B_5 := B_4.trans (hb5.mono B_4.size)
  clear hb5 a_4 b_4 c_4 B_4
  go_wp2_with fail
  have cc := Lib.hid (add_any v5 _ _ _ _ _ _ _ _ b_5 c_5 (by omega) (by omega))
  refine cc.out.mono ?_
  clear cc
  rintro e v6 ⟨S2, m2, d2, rfl, s2, hm2, hb6⟩
  have a_6 := a_5.bel hb6
  have b_6 := b_5.bel hb6
  have c_6 := c_5.bel hb6
  have s1_6 := s1.bel hb6
  have B_6 := B_5.trans (hb6.mono B_5.size)
  clear hb6 a_5 b_5 c_5 s1 B_5
  go_wp2_with fail
  have cc := Lib.hid (cmp_bel v6 _ _ _ _ _ _ _ _ s1_6 s2)
  refine cc.out.mono ?_
  clear cc
  rw [val_lim, val_lim, cmpN_add, hx_.out]
  rintro e v7 ⟨rfl, hb7⟩
  have a_7 := a_6.bel hb7
  have b_7 := b_6.bel hb7
  have c_7 := c_6.bel hb7
  have s1_7 := s1_6.bel hb7
  have s2_7 := s2.bel hb7
  have B_7 := B_6.trans (hb7.mono B_6.size)
  clear hb7 a_6 b_6 c_6 s1_6 s2 B_6
  clear s1_7
  clear s2_7
  go_wp2_with fail
  have cc := Lib.hid (shl_any v7 _ _ _ _ k a_7 (by omega))
  refine cc.out.mono ?_
  clear cc
  rintro e v8 ⟨S3, m3, d3, rfl, s3, hm3, hb8⟩
  have a_8 := a_7.bel hb8
  have b_8 := b_7.bel hb8
  have c_8 := c_7.bel hb8
  have B_8 := B_7.trans (hb8.mono B_7.size)
  clear hb8 a_7 b_7 c_7 B_7
  go_wp2_with fail
  have cc := Lib.hid (shl_any v8 _ _ _ _ k b_8 (by omega))
  refine cc.out.mono ?_
  clear cc
  rintro e v9 ⟨S4, m4, d4, rfl, s4, hm4, hb9⟩
  have a_9 := a_8.bel hb9
  have b_9 := b_8.bel hb9
  have c_9 := c_8.bel hb9
  have s3_9 := s3.bel hb9
  have B_9 := B_8.trans (hb9.mono B_8.size)
  clear hb9 a_8 b_8 c_8 s3 B_8
  go_wp2_with fail
  have cc := Lib.hid (cmp_bel v9 _ _ _ _ _ _ _ _ s3_9 s4)
  refine cc.out.mono ?_
  clear cc
  rw [val_lim, val_lim, cmpN_mul _ _ _ (Nat.two_pow_pos _), hx_.out]
  rintro e v10 ⟨rfl, hb10⟩
  have a_10 := a_9.bel hb10
  have b_10 := b_9.bel hb10
  have c_10 := c_9.bel hb10
  have s3_10 := s3_9.bel hb10
  have s4_10 := s4.bel hb10
  have B_10 := B_9.trans (hb10.mono B_9.size)
  clear hb10 a_9 b_9 c_9 s3_9 s4 B_9
  clear s3_10
  clear s4_10
  go_wp2_with fail
  have cc := Lib.hid (cmp_bel v10 _ _ _ _ _ _ _ _ a_10 a_10)
  refine cc.out.mono ?_
  clear cc
  rw [cmpN_self]
  rintro e v11 ⟨rfl, hb11⟩
  have a_11 := a_10.bel hb11
  have b_11 := b_10.bel hb11
  have c_11 := c_10.bel hb11
  have B_11 := B_10.trans (hb11.mono B_10.size)
  clear hb11 a_10 b_10 c_10 B_10
  go_wp2_with fail
  obtain ⟨v12, hw12⟩ : ∃ v, v = v11.alloc (.cells #[.int .u32 1] 37) := ⟨_, rfl⟩
  rw [← hw12]
  have hb12 : Below v11.heap.size v11 v12 := by rw [hw12]; exact (Below.refl _ _).alloc (Nat.le_refl _) _
  have one_12 : Lm v12 (some ⟨v11.heap.size, 0, none⟩) 1 1 [1] := by rw [hw12]; exact (Own.list v11 [1]).lm (Ok.of_mem (fun x hx => by rw [Bs_eq]; simp at hx; omega)) (by simp)
  have a_12 := a_11.bel hb12
  have b_12 := b_11.bel hb12
  have c_12 := c_11.bel hb12
  have B_12 := B_11.trans (hb12.mono B_11.size)
  clear hw12 hb12 a_11 b_11 c_11 B_11
  have cc := Lib.hid (add_any v12 _ _ _ _ _ _ _ _ c_12 one_12 (by omega) (by omega))
  refine cc.out.mono ?_
  clear cc
  rintro e v13 ⟨S5, m5, d5, rfl, s5, hm5, hb13⟩
  have a_13 := a_12.bel hb13
  have b_13 := b_12.bel hb13
  have c_13 := c_12.bel hb13
  have one_13 := one_12.bel hb13
  have B_13 := B_12.trans (hb13.mono B_12.size)
  clear hb13 a_12 b_12 c_12 one_12 B_12
  clear one_13
  go_wp2_with fail
  have cc := Lib.hid (mul_any v13 _ _ _ _ _ _ _ _ a_13 s5 (by omega) (by omega))
  refine cc.out.mono ?_
  clear cc
  rintro e v14 ⟨S6, m6, d6, rfl, s6, hm6, hb14⟩
  have a_14 := a_13.bel hb14
  have b_14 := b_13.bel hb14
  have c_14 := c_13.bel hb14
  have s5_14 := s5.bel hb14
  have B_14 := B_13.trans (hb14.mono B_13.size)
  clear hb14 a_13 b_13 c_13 s5 B_13
  clear s5_14
  go_wp2_with fail
  obtain ⟨v15, hw15⟩ : ∃ v, v = v14.alloc (.cells #[.int .u32 1] 37) := ⟨_, rfl⟩
  rw [← hw15]
  have hb15 : Below v14.heap.size v14 v15 := by rw [hw15]; exact (Below.refl _ _).alloc (Nat.le_refl _) _
  have one_15 : Lm v15 (some ⟨v14.heap.size, 0, none⟩) 1 1 [1] := by rw [hw15]; exact (Own.list v14 [1]).lm (Ok.of_mem (fun x hx => by rw [Bs_eq]; simp at hx; omega)) (by simp)
  have a_15 := a_14.bel hb15
  have b_15 := b_14.bel hb15
  have c_15 := c_14.bel hb15
  have s6_15 := s6.bel hb15
  have B_15 := B_14.trans (hb15.mono B_14.size)
  clear hw15 hb15 a_14 b_14 c_14 s6 B_14
  have cc := Lib.hid (add_any v15 _ _ _ _ _ _ _ _ c_15 one_15 (by omega) (by omega))
  refine cc.out.mono ?_
  clear cc
  rintro e v16 ⟨S7, m7, d7, rfl, s7, hm7, hb16⟩
  have a_16 := a_15.bel hb16
  have b_16 := b_15.bel hb16
  have c_16 := c_15.bel hb16
  have s6_16 := s6_15.bel hb16
  have one_16 := one_15.bel hb16
  have B_16 := B_15.trans (hb16.mono B_15.size)
  clear hb16 a_15 b_15 c_15 s6_15 one_15 B_15
  clear one_16
  go_wp2_with fail
  have cc := Lib.hid (mul_any v16 _ _ _ _ _ _ _ _ b_16 s7 (by omega) (by omega))
  refine cc.out.mono ?_
  clear cc
  rintro e v17 ⟨S8, m8, d8, rfl, s8, hm8, hb17⟩
  have a_17 := a_16.bel hb17
  have b_17 := b_16.bel hb17
  have c_17 := c_16.bel hb17
  have s6_17 := s6_16.bel hb17
  have s7_17 := s7.bel hb17
  have B_17 := B_16.trans (hb17.mono B_16.size)
  clear hb17 a_16 b_16 c_16 s6_16 s7 B_16
  clear s7_17
  go_wp2_with fail
  have cc := Lib.hid (cmp_bel v17 _ _ _ _ _ _ _ _ s6_17 s8)
  refine cc.out.mono ?_
  clear cc
  rw [val_lim, val_lim, val_lim, val_single, cmpN_mul _ _ _ (Nat.succ_pos _), hx_.out]
  rintro e v18 ⟨rfl, hb18⟩
  have a_18 := a_17.bel hb18
  have b_18 := b_17.bel hb18
  have c_18 := c_17.bel hb18
  have s6_18 := s6_17.bel hb18
  have s8_18 := s8.bel hb18
  have B_18 := B_17.trans (hb18.mono B_17.size)
  clear hb18 a_17 b_17 c_17 s6_17 s8 B_17
  go_wp2
  go_ret
  exact ⟨rfl, B_18⟩

set_option maxHeartbeats 4000000 in
theorem order_eq_eq (w : World) (A : Option Addr) (n c : Nat) (xs : List Nat) (A' : Option Addr) (n' c' : Nat) (ys : List Nat) (A'' : Option Addr) (n'' c'' : Nat) (zs : List Nat) (k : Nat)
    (h : Lm w A n c xs) (h' : Lm w A' n' c' ys) (h'' : Lm w A'' n'' c'' zs) (hk : k ≤ 255) (hT : Tab w) (f1 : n ≤ 24) (f2 : n' ≤ 24) (f3 : n'' ≤ 24)
    (hx : cmpN (val xs) (val ys) = 0) (hy : cmpN (val ys) (val zs) = 0) :
    Calls Tryd.prog 8 #[.slice A n c, .slice A' n' c', .slice A'' n'' c'', .int .u8 k] w fun e w' => e = .returned (.bool true) ∧ Below w.heap.size w w' := by
  have hkn := Lib.hid (known_any w hT)
  clear hT
  have hx_ := Lib.hid hx
  have hy_ := Lib.hid hy
  clear hx hy
  have hk0 := heldN_small (k := k) hk
  generalize heldN (k : Int) = H at *
  go_enter Tryd.func8, Tryd.ntmps8
  go_wp2_with fail
  refine hkn.out.mono ?_
  clear hkn
  rintro e w1 ⟨rfl, hb⟩
  have a1 := h.bel hb
  have b1 := h'.bel hb
  have c1 := h''.bel hb
  clear h h' h''
  go_wp2_with (go_at_call 11; refine (few_any _ _ _ _).mono ?_; rintro e w' ⟨rfl, rfl⟩)
  go_wp2_with fail
  have cc := Lib.hid (cmp_bel w1 _ _ _ _ _ _ _ _ a1 b1)
  refine cc.out.mono ?_
  clear cc
  rw [hx_.out]
  rintro e v2 ⟨rfl, hb2⟩
  have a_2 := a1.bel hb2
  have b_2 := b1.bel hb2
  have c_2 := c1.bel hb2
  have B_2 := hb.trans (hb2.mono hb.size)
  clear hb2 a1 b1 c1 hb
  go_wp2_with fail
  have cc := Lib.hid (cmp_bel v2 _ _ _ _ _ _ _ _ b_2 c_2)
  refine cc.out.mono ?_
  clear cc
  rw [hy_.out]
  rintro e v3 ⟨rfl, hb3⟩
  have a_3 := a_2.bel hb3
  have b_3 := b_2.bel hb3
  have c_3 := c_2.bel hb3
  have B_3 := B_2.trans (hb3.mono B_2.size)
  clear hb3 a_2 b_2 c_2 B_2
  go_wp2_with fail
  have cc := Lib.hid (cmp_bel v3 _ _ _ _ _ _ _ _ b_3 a_3)
  refine cc.out.mono ?_
  clear cc
  rw [cmpN_swap, hx_.out]
  rintro e v4 ⟨rfl, hb4⟩
  have a_4 := a_3.bel hb4
  have b_4 := b_3.bel hb4
  have c_4 := c_3.bel hb4
  have B_4 := B_3.trans (hb4.mono B_3.size)
  clear hb4 a_3 b_3 c_3 B_3
  go_wp2_with fail
  have cc := Lib.hid (add_any v4 _ _ _ _ _ _ _ _ a_4 c_4 (by omega) (by omega))
  refine cc.out.mono ?_
  clear cc
  rintro e v5 ⟨S1, m1, d1, rfl, s1, hm1, hb5⟩
  have a_5 := a_4.bel hb5
  have b_5 := b_4.bel hb5
  have c_5 := c_4.bel hb5
  have B_5 := B_4.trans (hb5.mono B_4.size)
  clear hb5 a_4 b_4 c_4 B_4
  go_wp2_with fail
  have cc := Lib.hid (add_any v5 _ _ _ _ _ _ _ _ b_5 c_5 (by omega) (by omega))
  refine cc.out.mono ?_
  clear cc
  rintro e v6 ⟨S2, m2, d2, rfl, s2, hm2, hb6⟩
  have a_6 := a_5.bel hb6
  have b_6 := b_5.bel hb6
  have c_6 := c_5.bel hb6
  have s1_6 := s1.bel hb6
  have B_6 := B_5.trans (hb6.mono B_5.size)
  clear hb6 a_5 b_5 c_5 s1 B_5
  go_wp2_with fail
  have cc := Lib.hid (cmp_bel v6 _ _ _ _ _ _ _ _ s1_6 s2)
  refine cc.out.mono ?_
  clear cc
  rw [val_lim, val_lim, cmpN_add, hx_.out]
  rintro e v7 ⟨rfl, hb7⟩
  have a_7 := a_6.bel hb7
  have b_7 := b_6.bel hb7
  have c_7 := c_6.bel hb7
  have s1_7 := s1_6.bel hb7
  have s2_7 := s2.bel hb7
  have B_7 := B_6.trans (hb7.mono B_6.size)
  clear hb7 a_6 b_6 c_6 s1_6 s2 B_6
  clear s1_7
  clear s2_7
  go_wp2_with fail
  have cc := Lib.hid (shl_any v7 _ _ _ _ k a_7 (by omega))
  refine cc.out.mono ?_
  clear cc
  rintro e v8 ⟨S3, m3, d3, rfl, s3, hm3, hb8⟩
  have a_8 := a_7.bel hb8
  have b_8 := b_7.bel hb8
  have c_8 := c_7.bel hb8
  have B_8 := B_7.trans (hb8.mono B_7.size)
  clear hb8 a_7 b_7 c_7 B_7
  go_wp2_with fail
  have cc := Lib.hid (shl_any v8 _ _ _ _ k b_8 (by omega))
  refine cc.out.mono ?_
  clear cc
  rintro e v9 ⟨S4, m4, d4, rfl, s4, hm4, hb9⟩
  have a_9 := a_8.bel hb9
  have b_9 := b_8.bel hb9
  have c_9 := c_8.bel hb9
  have s3_9 := s3.bel hb9
  have B_9 := B_8.trans (hb9.mono B_8.size)
  clear hb9 a_8 b_8 c_8 s3 B_8
  go_wp2_with fail
  have cc := Lib.hid (cmp_bel v9 _ _ _ _ _ _ _ _ s3_9 s4)
  refine cc.out.mono ?_
  clear cc
  rw [val_lim, val_lim, cmpN_mul _ _ _ (Nat.two_pow_pos _), hx_.out]
  rintro e v10 ⟨rfl, hb10⟩
  have a_10 := a_9.bel hb10
  have b_10 := b_9.bel hb10
  have c_10 := c_9.bel hb10
  have s3_10 := s3_9.bel hb10
  have s4_10 := s4.bel hb10
  have B_10 := B_9.trans (hb10.mono B_9.size)
  clear hb10 a_9 b_9 c_9 s3_9 s4 B_9
  clear s3_10
  clear s4_10
  go_wp2_with fail
  have cc := Lib.hid (cmp_bel v10 _ _ _ _ _ _ _ _ a_10 a_10)
  refine cc.out.mono ?_
  clear cc
  rw [cmpN_self]
  rintro e v11 ⟨rfl, hb11⟩
  have a_11 := a_10.bel hb11
  have b_11 := b_10.bel hb11
  have c_11 := c_10.bel hb11
  have B_11 := B_10.trans (hb11.mono B_10.size)
  clear hb11 a_10 b_10 c_10 B_10
  go_wp2_with fail
  obtain ⟨v12, hw12⟩ : ∃ v, v = v11.alloc (.cells #[.int .u32 1] 37) := ⟨_, rfl⟩
  rw [← hw12]
  have hb12 : Below v11.heap.size v11 v12 := by rw [hw12]; exact (Below.refl _ _).alloc (Nat.le_refl _) _
  have one_12 : Lm v12 (some ⟨v11.heap.size, 0, none⟩) 1 1 [1] := by rw [hw12]; exact (Own.list v11 [1]).lm (Ok.of_mem (fun x hx => by rw [Bs_eq]; simp at hx; omega)) (by simp)
  have a_12 := a_11.bel hb12
  have b_12 := b_11.bel hb12
  have c_12 := c_11.bel hb12
  have B_12 := B_11.trans (hb12.mono B_11.size)
  clear hw12 hb12 a_11 b_11 c_11 B_11
  have cc := Lib.hid (add_any v12 _ _ _ _ _ _ _ _ c_12 one_12 (by omega) (by omega))
  refine cc.out.mono ?_
  clear cc
  rintro e v13 ⟨S5, m5, d5, rfl, s5, hm5, hb13⟩
  have a_13 := a_12.bel hb13
  have b_13 := b_12.bel hb13
  have c_13 := c_12.bel hb13
  have one_13 := one_12.bel hb13
  have B_13 := B_12.trans (hb13.mono B_12.size)
  clear hb13 a_12 b_12 c_12 one_12 B_12
  clear one_13
  go_wp2_with fail
  have cc := Lib.hid (mul_any v13 _ _ _ _ _ _ _ _ a_13 s5 (by omega) (by omega))
  refine cc.out.mono ?_
  clear cc
  rintro e v14 ⟨S6, m6, d6, rfl, s6, hm6, hb14⟩
  have a_14 := a_13.bel hb14
  have b_14 := b_13.bel hb14
  have c_14 := c_13.bel hb14
  have s5_14 := s5.bel hb14
  have B_14 := B_13.trans (hb14.mono B_13.size)
  clear hb14 a_13 b_13 c_13 s5 B_13
  clear s5_14
  go_wp2_with fail
  obtain ⟨v15, hw15⟩ : ∃ v, v = v14.alloc (.cells #[.int .u32 1] 37) := ⟨_, rfl⟩
  rw [← hw15]
  have hb15 : Below v14.heap.size v14 v15 := by rw [hw15]; exact (Below.refl _ _).alloc (Nat.le_refl _) _
  have one_15 : Lm v15 (some ⟨v14.heap.size, 0, none⟩) 1 1 [1] := by rw [hw15]; exact (Own.list v14 [1]).lm (Ok.of_mem (fun x hx => by rw [Bs_eq]; simp at hx; omega)) (by simp)
  have a_15 := a_14.bel hb15
  have b_15 := b_14.bel hb15
  have c_15 := c_14.bel hb15
  have s6_15 := s6.bel hb15
  have B_15 := B_14.trans (hb15.mono B_14.size)
  clear hw15 hb15 a_14 b_14 c_14 s6 B_14
  have cc := Lib.hid (add_any v15 _ _ _ _ _ _ _ _ c_15 one_15 (by omega) (by omega))
  refine cc.out.mono ?_
  clear cc
  rintro e v16 ⟨S7, m7, d7, rfl, s7, hm7, hb16⟩
  have a_16 := a_15.bel hb16
  have b_16 := b_15.bel hb16
  have c_16 := c_15.bel hb16
  have s6_16 := s6_15.bel hb16
  have one_16 := one_15.bel hb16
  have B_16 := B_15.trans (hb16.mono B_15.size)
  clear hb16 a_15 b_15 c_15 s6_15 one_15 B_15
  clear one_16
  go_wp2_with fail
  have cc := Lib.hid (mul_any v16 _ _ _ _ _ _ _ _ b_16 s7 (by omega) (by omega))
  refine cc.out.mono ?_
  clear cc
  rintro e v17 ⟨S8, m8, d8, rfl, s8, hm8, hb17⟩
  have a_17 := a_16.bel hb17
  have b_17 := b_16.bel hb17
  have c_17 := c_16.bel hb17
  have s6_17 := s6_16.bel hb17
  have s7_17 := s7.bel hb17
  have B_17 := B_16.trans (hb17.mono B_16.size)
  clear hb17 a_16 b_16 c_16 s6_16 s7 B_16
  clear s7_17
  go_wp2_with fail
  have cc := Lib.hid (cmp_bel v17 _ _ _ _ _ _ _ _ s6_17 s8)
  refine cc.out.mono ?_
  clear cc
  rw [val_lim, val_lim, val_lim, val_single, cmpN_mul _ _ _ (Nat.succ_pos _), hx_.out]
  rintro e v18 ⟨rfl, hb18⟩
  have a_18 := a_17.bel hb18
  have b_18 := b_17.bel hb18
  have c_18 := c_17.bel hb18
  have s6_18 := s6_17.bel hb18
  have s8_18 := s8.bel hb18
  have B_18 := B_17.trans (hb18.mono B_17.size)
  clear hb18 a_17 b_17 c_17 s6_17 s8 B_17
  go_wp2
  go_ret
  exact ⟨rfl, B_18⟩

set_option maxHeartbeats 4000000 in
theorem order_gt_ne (w : World) (A : Option Addr) (n c : Nat) (xs : List Nat) (A' : Option Addr) (n' c' : Nat) (ys : List Nat) (A'' : Option Addr) (n'' c'' : Nat) (zs : List Nat) (k : Nat)
    (h : Lm w A n c xs) (h' : Lm w A' n' c' ys) (h'' : Lm w A'' n'' c'' zs) (hk : k ≤ 255) (hT : Tab w) (f1 : n ≤ 24) (f2 : n' ≤ 24) (f3 : n'' ≤ 24)
    (hx : cmpN (val xs) (val ys) = 1) (y : Int) (hy : cmpN (val ys) (val zs) = y) (hne : ((1 : Int) != y) = true) :
    Calls Tryd.prog 8 #[.slice A n c, .slice A' n' c', .slice A'' n'' c'', .int .u8 k] w fun e w' => e = .returned (.bool true) ∧ Below w.heap.size w w' := by
  have hkn := Lib.hid (known_any w hT)
  clear hT
  have hbits : nb (val ys) ≤ nb (val xs) := nb_mono (by unfold cmpN at hx; split at hx <;> (try split at hx) <;> omega)
  have hx_ := Lib.hid hx
  have hy_ := Lib.hid hy
  clear hx hy
  have hk0 := heldN_small (k := k) hk
  generalize heldN (k : Int) = H at *
  go_enter Tryd.func8, Tryd.ntmps8
  go_wp2_with fail
  refine hkn.out.mono ?_
  clear hkn
  rintro e w1 ⟨rfl, hb⟩
  have a1 := h.bel hb
  have b1 := h'.bel hb
  have c1 := h''.bel hb
  clear h h' h''
  go_wp2_with (go_at_call 11; refine (few_any _ _ _ _).mono ?_; rintro e w' ⟨rfl, rfl⟩)
  go_wp2_with fail
  have cc := Lib.hid (cmp_bel w1 _ _ _ _ _ _ _ _ a1 b1)
  refine cc.out.mono ?_
  clear cc
  rw [hx_.out]
  rintro e v2 ⟨rfl, hb2⟩
  have a_2 := a1.bel hb2
  have b_2 := b1.bel hb2
  have c_2 := c1.bel hb2
  have B_2 := hb.trans (hb2.mono hb.size)
  clear hb2 a1 b1 c1 hb
  go_wp2_with fail
  have cc := Lib.hid (cmp_bel v2 _ _ _ _ _ _ _ _ b_2 c_2)
  refine cc.out.mono ?_
  clear cc
  rw [hy_.out]
  rintro e v3 ⟨rfl, hb3⟩
  have a_3 := a_2.bel hb3
  have b_3 := b_2.bel hb3
  have c_3 := c_2.bel hb3
  have B_3 := B_2.trans (hb3.mono B_2.size)
  clear hb3 a_2 b_2 c_2 B_2
  go_wp2_with fail
  have cc := Lib.hid (cmp_bel v3 _ _ _ _ _ _ _ _ b_3 a_3)
  refine cc.out.mono ?_
  clear cc
  rw [cmpN_swap, hx_.out]
  rintro e v4 ⟨rfl, hb4⟩
  have a_4 := a_3.bel hb4
  have b_4 := b_3.bel hb4
  have c_4 := c_3.bel hb4
  have B_4 := B_3.trans (hb4.mono B_3.size)
  clear hb4 a_3 b_3 c_3 B_3
  go_wp2_with fail
  have cc := Lib.hid (add_any v4 _ _ _ _ _ _ _ _ a_4 c_4 (by omega) (by omega))
  refine cc.out.mono ?_
  clear cc
  rintro e v5 ⟨S1, m1, d1, rfl, s1, hm1, hb5⟩
  have a_5 := a_4.bel hb5
  have b_5 := b_4.bel hb5
  have c_5 := c_4.bel hb5
  have B_5 := B_4.trans (hb5.mono B_4.size)
  clear hb5 a_4 b_4 c_4 B_4
  go_wp2_with fail
  have cc := Lib.hid (add_any v5 _ _ _ _ _ _ _ _ b_5 c_5 (by omega) (by omega))
  refine cc.out.mono ?_
  clear cc
  rintro e v6 ⟨S2, m2, d2, rfl, s2, hm2, hb6⟩
  have a_6 := a_5.bel hb6
  have b_6 := b_5.bel hb6
  have c_6 := c_5.bel hb6
  have s1_6 := s1.bel hb6
  have B_6 := B_5.trans (hb6.mono B_5.size)
  clear hb6 a_5 b_5 c_5 s1 B_5
  go_wp2_with fail
  have cc := Lib.hid (cmp_bel v6 _ _ _ _ _ _ _ _ s1_6 s2)
  refine cc.out.mono ?_
  clear cc
  rw [val_lim, val_lim, cmpN_add, hx_.out]
  rintro e v7 ⟨rfl, hb7⟩
  have a_7 := a_6.bel hb7
  have b_7 := b_6.bel hb7
  have c_7 := c_6.bel hb7
  have s1_7 := s1_6.bel hb7
  have s2_7 := s2.bel hb7
  have B_7 := B_6.trans (hb7.mono B_6.size)
  clear hb7 a_6 b_6 c_6 s1_6 s2 B_6
  clear s1_7
  clear s2_7
  go_wp2_with fail
  have cc := Lib.hid (shl_any v7 _ _ _ _ k a_7 (by omega))
  refine cc.out.mono ?_
  clear cc
  rintro e v8 ⟨S3, m3, d3, rfl, s3, hm3, hb8⟩
  have a_8 := a_7.bel hb8
  have b_8 := b_7.bel hb8
  have c_8 := c_7.bel hb8
  have B_8 := B_7.trans (hb8.mono B_7.size)
  clear hb8 a_7 b_7 c_7 B_7
  go_wp2_with fail
  have cc := Lib.hid (shl_any v8 _ _ _ _ k b_8 (by omega))
  refine cc.out.mono ?_
  clear cc
  rintro e v9 ⟨S4, m4, d4, rfl, s4, hm4, hb9⟩
  have a_9 := a_8.bel hb9
  have b_9 := b_8.bel hb9
  have c_9 := c_8.bel hb9
  have s3_9 := s3.bel hb9
  have B_9 := B_8.trans (hb9.mono B_8.size)
  clear hb9 a_8 b_8 c_8 s3 B_8
  go_wp2_with fail
  have cc := Lib.hid (cmp_bel v9 _ _ _ _ _ _ _ _ s3_9 s4)
  refine cc.out.mono ?_
  clear cc
  rw [val_lim, val_lim, cmpN_mul _ _ _ (Nat.two_pow_pos _), hx_.out]
  rintro e v10 ⟨rfl, hb10⟩
  have a_10 := a_9.bel hb10
  have b_10 := b_9.bel hb10
  have c_10 := c_9.bel hb10
  have s3_10 := s3_9.bel hb10
  have s4_10 := s4.bel hb10
  have B_10 := B_9.trans (hb10.mono B_9.size)
  clear hb10 a_9 b_9 c_9 s3_9 s4 B_9
  clear s3_10
  clear s4_10
  go_wp2_with fail
  have cc := Lib.hid (cmp_bel v10 _ _ _ _ _ _ _ _ a_10 a_10)
  refine cc.out.mono ?_
  clear cc
  rw [cmpN_self]
  rintro e v11 ⟨rfl, hb11⟩
  have a_11 := a_10.bel hb11
  have b_11 := b_10.bel hb11
  have c_11 := c_10.bel hb11
  have B_11 := B_10.trans (hb11.mono B_10.size)
  clear hb11 a_10 b_10 c_10 B_10
  go_wp2_with fail
  have cc := Lib.hid (bits_any v11 _ _ _ _ a_11)
  refine cc.out.mono ?_
  clear cc
  rintro e w' ⟨rfl, rfl⟩
  go_wp2_with fail
  have cc := Lib.hid (bits_any v11 _ _ _ _ b_11)
  refine cc.out.mono ?_
  clear cc
  rintro e w' ⟨rfl, rfl⟩
  go_wp2_with fail
  obtain ⟨v12, hw12⟩ : ∃ v, v = v11.alloc (.cells #[.int .u32 1] 37) := ⟨_, rfl⟩
  rw [← hw12]
  have hb12 : Below v11.heap.size v11 v12 := by rw [hw12]; exact (Below.refl _ _).alloc (Nat.le_refl _) _
  have one_12 : Lm v12 (some ⟨v11.heap.size, 0, none⟩) 1 1 [1] := by rw [hw12]; exact (Own.list v11 [1]).lm (Ok.of_mem (fun x hx => by rw [Bs_eq]; simp at hx; omega)) (by simp)
  have a_12 := a_11.bel hb12
  have b_12 := b_11.bel hb12
  have c_12 := c_11.bel hb12
  have B_12 := B_11.trans (hb12.mono B_11.size)
  clear hw12 hb12 a_11 b_11 c_11 B_11
  have cc := Lib.hid (add_any v12 _ _ _ _ _ _ _ _ c_12 one_12 (by omega) (by omega))
  refine cc.out.mono ?_
  clear cc
  rintro e v13 ⟨S5, m5, d5, rfl, s5, hm5, hb13⟩
  have a_13 := a_12.bel hb13
  have b_13 := b_12.bel hb13
  have c_13 := c_12.bel hb13
  have one_13 := one_12.bel hb13
  have B_13 := B_12.trans (hb13.mono B_12.size)
  clear hb13 a_12 b_12 c_12 one_12 B_12
  clear one_13
  go_wp2_with fail
  have cc := Lib.hid (mul_any v13 _ _ _ _ _ _ _ _ a_13 s5 (by omega) (by omega))
  refine cc.out.mono ?_
  clear cc
  rintro e v14 ⟨S6, m6, d6, rfl, s6, hm6, hb14⟩
  have a_14 := a_13.bel hb14
  have b_14 := b_13.bel hb14
  have c_14 := c_13.bel hb14
  have s5_14 := s5.bel hb14
  have B_14 := B_13.trans (hb14.mono B_13.size)
  clear hb14 a_13 b_13 c_13 s5 B_13
  clear s5_14
  go_wp2_with fail
  obtain ⟨v15, hw15⟩ : ∃ v, v = v14.alloc (.cells #[.int .u32 1] 37) := ⟨_, rfl⟩
  rw [← hw15]
  have hb15 : Below v14.heap.size v14 v15 := by rw [hw15]; exact (Below.refl _ _).alloc (Nat.le_refl _) _
  have one_15 : Lm v15 (some ⟨v14.heap.size, 0, none⟩) 1 1 [1] := by rw [hw15]; exact (Own.list v14 [1]).lm (Ok.of_mem (fun x hx => by rw [Bs_eq]; simp at hx; omega)) (by simp)
  have a_15 := a_14.bel hb15
  have b_15 := b_14.bel hb15
  have c_15 := c_14.bel hb15
  have s6_15 := s6.bel hb15
  have B_15 := B_14.trans (hb15.mono B_14.size)
  clear hw15 hb15 a_14 b_14 c_14 s6 B_14
  have cc := Lib.hid (add_any v15 _ _ _ _ _ _ _ _ c_15 one_15 (by omega) (by omega))
  refine cc.out.mono ?_
  clear cc
  rintro e v16 ⟨S7, m7, d7, rfl, s7, hm7, hb16⟩
  have a_16 := a_15.bel hb16
  have b_16 := b_15.bel hb16
  have c_16 := c_15.bel hb16
  have s6_16 := s6_15.bel hb16
  have one_16 := one_15.bel hb16
  have B_16 := B_15.trans (hb16.mono B_15.size)
  clear hb16 a_15 b_15 c_15 s6_15 one_15 B_15
  clear one_16
  go_wp2_with fail
  have cc := Lib.hid (mul_any v16 _ _ _ _ _ _ _ _ b_16 s7 (by omega) (by omega))
  refine cc.out.mono ?_
  clear cc
  rintro e v17 ⟨S8, m8, d8, rfl, s8, hm8, hb17⟩
  have a_17 := a_16.bel hb17
  have b_17 := b_16.bel hb17
  have c_17 := c_16.bel hb17
  have s6_17 := s6_16.bel hb17
  have s7_17 := s7.bel hb17
  have B_17 := B_16.trans (hb17.mono B_16.size)
  clear hb17 a_16 b_16 c_16 s6_16 s7 B_16
  clear s7_17
  go_wp2_with fail
  have cc := Lib.hid (cmp_bel v17 _ _ _ _ _ _ _ _ s6_17 s8)
  refine cc.out.mono ?_
  clear cc
  rw [val_lim, val_lim, val_lim, val_single, cmpN_mul _ _ _ (Nat.succ_pos _), hx_.out]
  rintro e v18 ⟨rfl, hb18⟩
  have a_18 := a_17.bel hb18
  have b_18 := b_17.bel hb18
  have c_18 := c_17.bel hb18
  have s6_18 := s6_17.bel hb18
  have s8_18 := s8.bel hb18
  have B_18 := B_17.trans (hb18.mono B_17.size)
  clear hb18 a_17 b_17 c_17 s6_17 s8 B_17
  go_wp2
  go_ret
  exact ⟨rfl, B_18⟩

set_option maxHeartbeats 4000000 in
theorem order_gt_eq (w : World) (A : Option Addr) (n c : Nat) (xs : List Nat) (A' : Option Addr) (n' c' : Nat) (ys : List Nat) (A'' : Option Addr) (n'' c'' : Nat) (zs : List Nat) (k : Nat)
    (h : Lm w A n c xs) (h' : Lm w A' n' c' ys) (h'' : Lm w A'' n'' c'' zs) (hk : k ≤ 255) (hT : Tab w) (f1 : n ≤ 24) (f2 : n' ≤ 24) (f3 : n'' ≤ 24)
    (hx : cmpN (val xs) (val ys) = 1) (hy : cmpN (val ys) (val zs) = 1) :
    Calls Tryd.prog 8 #[.slice A n c, .slice A' n' c', .slice A'' n'' c'', .int .u8 k] w fun e w' => e = .returned (.bool true) ∧ Below w.heap.size w w' := by
  have hkn := Lib.hid (known_any w hT)
  clear hT
  have hbits : nb (val ys) ≤ nb (val xs) := nb_mono (by unfold cmpN at hx; split at hx <;> (try split at hx) <;> omega)
  have hx_ := Lib.hid hx
  have hy_ := Lib.hid hy
  clear hx hy
  have hk0 := heldN_small (k := k) hk
  generalize heldN (k : Int) = H at *
  go_enter Tryd.func8, Tryd.ntmps8
  go_wp2_with fail
  refine hkn.out.mono ?_
  clear hkn
  rintro e w1 ⟨rfl, hb⟩
  have a1 := h.bel hb
  have b1 := h'.bel hb
  have c1 := h''.bel hb
  clear h h' h''
  go_wp2_with (go_at_call 11; refine (few_any _ _ _ _).mono ?_; rintro e w' ⟨rfl, rfl⟩)
  go_wp2_with fail
  have cc := Lib.hid (cmp_bel w1 _ _ _ _ _ _ _ _ a1 b1)
  refine cc.out.mono ?_
  clear cc
  rw [hx_.out]
  rintro e v2 ⟨rfl, hb2⟩
  have a_2 := a1.bel hb2
  have b_2 := b1.bel hb2
  have c_2 := c1.bel hb2
  have B_2 := hb.trans (hb2.mono hb.size)
  clear hb2 a1 b1 c1 hb
  go_wp2_with fail
  have cc := Lib.hid (cmp_bel v2 _ _ _ _ _ _ _ _ b_2 c_2)
  refine cc.out.mono ?_
  clear cc
  rw [hy_.out]
  rintro e v3 ⟨rfl, hb3⟩
  have a_3 := a_2.bel hb3
  have b_3 := b_2.bel hb3
  have c_3 := c_2.bel hb3
  have B_3 := B_2.trans (hb3.mono B_2.size)
  clear hb3 a_2 b_2 c_2 B_2
  go_wp2_with fail
  have cc := Lib.hid (cmp_bel v3 _ _ _ _ _ _ _ _ a_3 c_3)
  refine cc.out.mono ?_
  clear cc
  rw [cmpN_trans hx_.out hy_.out]
  rintro e v4 ⟨rfl, hb4⟩
  have a_4 := a_3.bel hb4
  have b_4 := b_3.bel hb4
  have c_4 := c_3.bel hb4
  have B_4 := B_3.trans (hb4.mono B_3.size)
  clear hb4 a_3 b_3 c_3 B_3
  go_wp2_with fail
  have cc := Lib.hid (cmp_bel v4 _ _ _ _ _ _ _ _ b_4 a_4)
  refine cc.out.mono ?_
  clear cc
  rw [cmpN_swap, hx_.out]
  rintro e v5 ⟨rfl, hb5⟩
  have a_5 := a_4.bel hb5
  have b_5 := b_4.bel hb5
  have c_5 := c_4.bel hb5
  have B_5 := B_4.trans (hb5.mono B_4.size)
  clear hb5 a_4 b_4 c_4 B_4
  go_wp2_with fail
  have cc := Lib.hid (add_any v5 _ _ _ _ _ _ _ _ a_5 c_5 (by omega) (by omega))
  refine cc.out.mono ?_
  clear cc
  rintro e v6 ⟨S1, m1, d1, rfl, s1, hm1, hb6⟩
  have a_6 := a_5.bel hb6
  have b_6 := b_5.bel hb6
  have c_6 := c_5.bel hb6
  have B_6 := B_5.trans (hb6.mono B_5.size)
  clear hb6 a_5 b_5 c_5 B_5
  go_wp2_with fail
  have cc := Lib.hid (add_any v6 _ _ _ _ _ _ _ _ b_6 c_6 (by omega) (by omega))
  refine cc.out.mono ?_
  clear cc
  rintro e v7 ⟨S2, m2, d2, rfl, s2, hm2, hb7⟩
  have a_7 := a_6.bel hb7
  have b_7 := b_6.bel hb7
  have c_7 := c_6.bel hb7
  have s1_7 := s1.bel hb7
  have B_7 := B_6.trans (hb7.mono B_6.size)
  clear hb7 a_6 b_6 c_6 s1 B_6
  go_wp2_with fail
  have cc := Lib.hid (cmp_bel v7 _ _ _ _ _ _ _ _ s1_7 s2)
  refine cc.out.mono ?_
  clear cc
  rw [val_lim, val_lim, cmpN_add, hx_.out]
  rintro e v8 ⟨rfl, hb8⟩
  have a_8 := a_7.bel hb8
  have b_8 := b_7.bel hb8
  have c_8 := c_7.bel hb8
  have s1_8 := s1_7.bel hb8
  have s2_8 := s2.bel hb8
  have B_8 := B_7.trans (hb8.mono B_7.size)
  clear hb8 a_7 b_7 c_7 s1_7 s2 B_7
  clear s1_8
  clear s2_8
  go_wp2_with fail
  have cc := Lib.hid (shl_any v8 _ _ _ _ k a_8 (by omega))
  refine cc.out.mono ?_
  clear cc
  rintro e v9 ⟨S3, m3, d3, rfl, s3, hm3, hb9⟩
  have a_9 := a_8.bel hb9
  have b_9 := b_8.bel hb9
  have c_9 := c_8.bel hb9
  have B_9 := B_8.trans (hb9.mono B_8.size)
  clear hb9 a_8 b_8 c_8 B_8
  go_wp2_with fail
  have cc := Lib.hid (shl_any v9 _ _ _ _ k b_9 (by omega))
  refine cc.out.mono ?_
  clear cc
  rintro e v10 ⟨S4, m4, d4, rfl, s4, hm4, hb10⟩
  have a_10 := a_9.bel hb10
  have b_10 := b_9.bel hb10
  have c_10 := c_9.bel hb10
  have s3_10 := s3.bel hb10
  have B_10 := B_9.trans (hb10.mono B_9.size)
  clear hb10 a_9 b_9 c_9 s3 B_9
  go_wp2_with fail
  have cc := Lib.hid (cmp_bel v10 _ _ _ _ _ _ _ _ s3_10 s4)
  refine cc.out.mono ?_
  clear cc
  rw [val_lim, val_lim, cmpN_mul _ _ _ (Nat.two_pow_pos _), hx_.out]
  rintro e v11 ⟨rfl, hb11⟩
  have a_11 := a_10.bel hb11
  have b_11 := b_10.bel hb11
  have c_11 := c_10.bel hb11
  have s3_11 := s3_10.bel hb11
  have s4_11 := s4.bel hb11
  have B_11 := B_10.trans (hb11.mono B_10.size)
  clear hb11 a_10 b_10 c_10 s3_10 s4 B_10
  clear s3_11
  clear s4_11
  go_wp2_with fail
  have cc := Lib.hid (cmp_bel v11 _ _ _ _ _ _ _ _ a_11 a_11)
  refine cc.out.mono ?_
  clear cc
  rw [cmpN_self]
  rintro e v12 ⟨rfl, hb12⟩
  have a_12 := a_11.bel hb12
  have b_12 := b_11.bel hb12
  have c_12 := c_11.bel hb12
  have B_12 := B_11.trans (hb12.mono B_11.size)
  clear hb12 a_11 b_11 c_11 B_11
  go_wp2_with fail
  have cc := Lib.hid (bits_any v12 _ _ _ _ a_12)
  refine cc.out.mono ?_
  clear cc
  rintro e w' ⟨rfl, rfl⟩
  go_wp2_with fail
  have cc := Lib.hid (bits_any v12 _ _ _ _ b_12)
  refine cc.out.mono ?_
  clear cc
  rintro e w' ⟨rfl, rfl⟩
  go_wp2_with fail
  obtain ⟨v13, hw13⟩ : ∃ v, v = v12.alloc (.cells #[.int .u32 1] 37) := ⟨_, rfl⟩
  rw [← hw13]
  have hb13 : Below v12.heap.size v12 v13 := by rw [hw13]; exact (Below.refl _ _).alloc (Nat.le_refl _) _
  have one_13 : Lm v13 (some ⟨v12.heap.size, 0, none⟩) 1 1 [1] := by rw [hw13]; exact (Own.list v12 [1]).lm (Ok.of_mem (fun x hx => by rw [Bs_eq]; simp at hx; omega)) (by simp)
  have a_13 := a_12.bel hb13
  have b_13 := b_12.bel hb13
  have c_13 := c_12.bel hb13
  have B_13 := B_12.trans (hb13.mono B_12.size)
  clear hw13 hb13 a_12 b_12 c_12 B_12
  have cc := Lib.hid (add_any v13 _ _ _ _ _ _ _ _ c_13 one_13 (by omega) (by omega))
  refine cc.out.mono ?_
  clear cc
  rintro e v14 ⟨S5, m5, d5, rfl, s5, hm5, hb14⟩
  have a_14 := a_13.bel hb14
  have b_14 := b_13.bel hb14
  have c_14 := c_13.bel hb14
  have one_14 := one_13.bel hb14
  have B_14 := B_13.trans (hb14.mono B_13.size)
  clear hb14 a_13 b_13 c_13 one_13 B_13
  clear one_14
  go_wp2_with fail
  have cc := Lib.hid (mul_any v14 _ _ _ _ _ _ _ _ a_14 s5 (by omega) (by omega))
  refine cc.out.mono ?_
  clear cc
  rintro e v15 ⟨S6, m6, d6, rfl, s6, hm6, hb15⟩
  have a_15 := a_14.bel hb15
  have b_15 := b_14.bel hb15
  have c_15 := c_14.bel hb15
  have s5_15 := s5.bel hb15
  have B_15 := B_14.trans (hb15.mono B_14.size)
  clear hb15 a_14 b_14 c_14 s5 B_14
  clear s5_15
  go_wp2_with fail
  obtain ⟨v16, hw16⟩ : ∃ v, v = v15.alloc (.cells #[.int .u32 1] 37) := ⟨_, rfl⟩
  rw [← hw16]
  have hb16 : Below v15.heap.size v15 v16 := by rw [hw16]; exact (Below.refl _ _).alloc (Nat.le_refl _) _
  have one_16 : Lm v16 (some ⟨v15.heap.size, 0, none⟩) 1 1 [1] := by rw [hw16]; exact (Own.list v15 [1]).lm (Ok.of_mem (fun x hx => by rw [Bs_eq]; simp at hx; omega)) (by simp)
  have a_16 := a_15.bel hb16
  have b_16 := b_15.bel hb16
  have c_16 := c_15.bel hb16
  have s6_16 := s6.bel hb16
  have B_16 := B_15.trans (hb16.mono B_15.size)
  clear hw16 hb16 a_15 b_15 c_15 s6 B_15
  have cc := Lib.hid (add_any v16 _ _ _ _ _ _ _ _ c_16 one_16 (by omega) (by omega))
  refine cc.out.mono ?_
  clear cc
  rintro e v17 ⟨S7, m7, d7, rfl, s7, hm7, hb17⟩
  have a_17 := a_16.bel hb17
  have b_17 := b_16.bel hb17
  have c_17 := c_16.bel hb17
  have s6_17 := s6_16.bel hb17
  have one_17 := one_16.bel hb17
  have B_17 := B_16.trans (hb17.mono B_16.size)
  clear hb17 a_16 b_16 c_16 s6_16 one_16 B_16
  clear one_17
  go_wp2_with fail
  have cc := Lib.hid (mul_any v17 _ _ _ _ _ _ _ _ b_17 s7 (by omega) (by omega))
  refine cc.out.mono ?_
  clear cc
  rintro e v18 ⟨S8, m8, d8, rfl, s8, hm8, hb18⟩
  have a_18 := a_17.bel hb18
  have b_18 := b_17.bel hb18
  have c_18 := c_17.bel hb18
  have s6_18 := s6_17.bel hb18
  have s7_18 := s7.bel hb18
  have B_18 := B_17.trans (hb18.mono B_17.size)
  clear hb18 a_17 b_17 c_17 s6_17 s7 B_17
  clear s7_18
  go_wp2_with fail
  have cc := Lib.hid (cmp_bel v18 _ _ _ _ _ _ _ _ s6_18 s8)
  refine cc.out.mono ?_
  clear cc
  rw [val_lim, val_lim, val_lim, val_single, cmpN_mul _ _ _ (Nat.succ_pos _), hx_.out]
  rintro e v19 ⟨rfl, hb19⟩
  have a_19 := a_18.bel hb19
  have b_19 := b_18.bel hb19
  have c_19 := c_18.bel hb19
  have s6_19 := s6_18.bel hb19
  have s8_19 := s8.bel hb19
  have B_19 := B_18.trans (hb19.mono B_18.size)
  clear hb19 a_18 b_18 c_18 s6_18 s8 B_18
  go_wp2
  go_ret
  exact ⟨rfl, B_19⟩

end Go.Proofs.YtbnhpamjklfifaaDoor
