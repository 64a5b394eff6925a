import Derived.Test.YtnjjfakjnkhhjaaGreatDoorLb
import Derived.Test.YtnjjfakjnkhhjaaGreatDoorDv
set_option maxHeartbeats 2000000
set_option linter.all false
namespace Go.Proofs.YtnjjfakjnkhhjaaGreatDoor
open Go.RowKit
theorem val_set_add {L : List Nat} {k e : Nat} (hk : k < L.length) : val (L.set k (dig L k + e)) = val L + Bs ^ k * e := by
 have e1 := val_split (L.set k (dig L k + e)) k
 have e2 := val_split L k
 have e3 : vt (dig (L.set k (dig L k + e))) k = vt (dig L) k := vt_congr k (fun i hi => by rw [dig_set hk, if_neg (by omega)])
 have e4 : (L.set k (dig L k + e)).drop (k + 1) = L.drop (k + 1) := by rw [List.drop_set, if_pos (by omega)]
 rw [val_drop_succ, dig_set hk, if_pos rfl, e4, e3] at e1
 rw [val_drop_succ] at e2
 rw [e1, e2]
 grind
def RootAt (X k : Nat) (L : List Nat) : Prop := Ok L ∧ val L % 2 ^ k = 0 ∧ val L * val L ≤ X ∧ X < (val L + 2 ^ k) * (val L + 2 ^ k)
theorem low_zero {L : List Nat} {i : Nat} (h : Ok L) (hv : val L % 2 ^ (i + 1) = 0) : dig L (i / 32) % 2 ^ (i % 32 + 1) = 0 := by
 apply Nat.eq_of_testBit_eq
 intro j
 rw [Nat.zero_testBit, Nat.testBit_mod_two_pow]
 by_cases hj : j < i % 32 + 1
 ·have h1 := testBit_dig h (32 * (i / 32) + j)
  rw [show (32 * (i / 32) + j) / 32 = i / 32 from by omega, show (32 * (i / 32) + j) % 32 = j from by omega] at h1
  rw [← h1]
  have h2 : (val L % 2 ^ (i + 1)).testBit (32 * (i / 32) + j) = false := by rw [hv, Nat.zero_testBit]
  rw [Nat.testBit_mod_two_pow] at h2
  rw [show decide (32 * (i / 32) + j < i + 1) = true from by rw [decide_eq_true_iff]; omega, Bool.true_and] at h2
  rw [h2, Bool.and_false]
 ·rw [show decide (j < i % 32 + 1) = false from by rw [decide_eq_false_iff_not]; exact hj, Bool.false_and]
theorem off_nat {d s : Nat} (h : d % 2 ^ (s + 1) = 0) (hs : s < 32) (hd : d < 2 ^ 32) : (d + 2 ^ s) &&& (2 ^ 32 - (2 ^ s + 1)) = d := by
 have hp : 2 ^ s < 2 ^ (s + 1) := Nat.pow_lt_pow_right (by omega) (by omega)
 have hp2 : 2 ^ s < 2 ^ 32 := Nat.pow_lt_pow_right (by omega) hs
 rw [← nat_join (s + 1) d (2 ^ s) h hp]
 apply Nat.eq_of_testBit_eq
 intro j
 rw [Nat.testBit_and, Nat.testBit_or, Nat.testBit_two_pow_sub_succ hp2, Nat.testBit_two_pow]
 have hlow : j < s + 1 → d.testBit j = false := by
  intro hj
  have h2 : (d % 2 ^ (s + 1)).testBit j = false := by rw [h, Nat.zero_testBit]
  rw [Nat.testBit_mod_two_pow, show decide (j < s + 1) = true from by rw [decide_eq_true_iff]; exact hj, Bool.true_and] at h2
  exact h2
 have hhigh : ¬ j < 32 → d.testBit j = false := fun hj => Nat.testBit_lt_two_pow (Nat.lt_of_lt_of_le hd (Nat.pow_le_pow_right (by omega) (by omega)))
 by_cases h1 : s = j
 ·subst h1
  rw [hlow (by omega)]
  simp
 ·by_cases h2 : j < 32
  ·simp [h1, h2]
  ·rw [hhigh h2]; simp [h1, h2]
theorem off32 {d s : Nat} (h : d % 2 ^ (s + 1) = 0) (hs : s < 32) (hd : d + 2 ^ s < 4294967296) : bits .andNot .u32 ((d + 2 ^ s : Nat) : Int) ((2 ^ s : Nat) : Int) = (d : Int) := by
 have hp2 : 2 ^ s < 2 ^ 32 := Nat.pow_lt_pow_right (by omega) hs
 show IntKind.u32.wrap ((BitVec.ofInt 32 ((d + 2 ^ s : Nat) : Int) &&& ~~~BitVec.ofInt 32 ((2 ^ s : Nat) : Int)).toNat : Int) = _
 rw [BitVec.toNat_and, BitVec.toNat_not, BitVec.ofInt_natCast, BitVec.ofInt_natCast, BitVec.toNat_ofNat, BitVec.toNat_ofNat, Nat.mod_eq_of_lt (by omega), Nat.mod_eq_of_lt hp2, show 2 ^ 32 - 1 - 2 ^ s = 2 ^ 32 - (2 ^ s + 1) from by omega, off_nat h hs (by omega)]
 exact IntWalk.u32_in _ (by omega)
end Go.Proofs.YtnjjfakjnkhhjaaGreatDoor
namespace Go.Proofs.YtnjjfakjnkhhjaaGreatDoor
open Go.RowKit
def bitN (X i : Nat) : Nat := if X.testBit i then 1 else 0
theorem bitN_le (X i : Nat) : bitN X i ≤ 1 := by unfold bitN; split <;> omega
theorem half_up (X i : Nat) : X / 2 ^ i = 2 * (X / 2 ^ (i + 1)) + bitN X i := by
 have h : X / 2 ^ (i + 1) = X / 2 ^ i / 2 := by rw [Nat.pow_succ, Nat.div_div_eq_div_mul]
 unfold bitN
 rw [h, Nat.testBit_eq_decide_div_mod_eq]
 by_cases h1 : X / 2 ^ i % 2 = 1
 ·rw [if_pos (by rw [decide_eq_true_iff]; exact h1)]; omega
 ·rw [if_neg (by rw [decide_eq_true_iff]; exact h1)]; omega
theorem div_on {T Y b : Nat} (hY : 0 < Y) (hb : b ≤ 1) (h : Y ≤ 2 * (T % Y) + b) : (2 * T + b) / Y = 2 * (T / Y) + 1 ∧ (2 * T + b) % Y = 2 * (T % Y) + b - Y := by
 rw [Nat.div_mod_unique hY]
 have h1 := Nat.div_add_mod T Y
 have h2 := Nat.mod_lt T hY
 refine ⟨?_, by omega⟩
 generalize T % Y = r at *
 generalize T / Y = q at *
 rw [← h1, Nat.mul_add, Nat.mul_one, Nat.mul_left_comm]
 generalize Y * q = z at *
 omega
theorem div_off {T Y b : Nat} (hY : 0 < Y) (h : 2 * (T % Y) + b < Y) : (2 * T + b) / Y = 2 * (T / Y) ∧ (2 * T + b) % Y = 2 * (T % Y) + b := by
 rw [Nat.div_mod_unique hY]
 have h1 := Nat.div_add_mod T Y
 refine ⟨?_, h⟩
 generalize T % Y = r at *
 generalize T / Y = q at *
 rw [← h1, Nat.mul_left_comm]
 generalize Y * q = z at *
 omega
def DivBits (X Y k : Nat) (L : List Nat) : Prop := Ok L ∧ val L = X / 2 ^ k / Y * 2 ^ k
theorem DivBits.start {X Y : Nat} (len : Nat) : DivBits X Y (nb X) (List.replicate len 0) :=
 ⟨Ok.zeros _, by rw [val_zeros, Nat.div_eq_of_lt (lt_pow_nb X), Nat.zero_div, Nat.zero_mul]⟩
theorem DivBits.low {X Y i : Nat} {L : List Nat} (h : DivBits X Y (i + 1) L) : dig L (i / 32) % 2 ^ (i % 32 + 1) = 0 :=
 low_zero h.1 (by rw [h.2, Nat.mul_mod_left])
theorem DivBits.bit {X Y i : Nat} {L : List Nat} (h : DivBits X Y (i + 1) L) (hk : i / 32 < L.length) :
  dig L (i / 32) + 2 ^ (i % 32) < 4294967296 ∧ Ok (L.set (i / 32) (dig L (i / 32) + 2 ^ (i % 32))) ∧ val (L.set (i / 32) (dig L (i / 32) + 2 ^ (i % 32))) = val L + 2 ^ i := by
 have hz := h.low
 have hb : dig L (i / 32) < 4294967296 := h.1 _
 have hlt : dig L (i / 32) + 2 ^ (i % 32) < 4294967296 := by
  obtain ⟨t, ht⟩ : ∃ t, i % 32 + 1 + t = 32 := ⟨31 - i % 32, by omega⟩
  have hp : 2 ^ (i % 32 + 1) * 2 ^ t = 4294967296 := by rw [← Nat.pow_add, ht]
  obtain ⟨q, hq⟩ : ∃ q, dig L (i / 32) = 2 ^ (i % 32 + 1) * q := ⟨_, (Nat.mul_div_cancel' (Nat.dvd_of_mod_eq_zero hz)).symm⟩
  have h2 : 2 ^ (i % 32) < 2 ^ (i % 32 + 1) := Nat.pow_lt_pow_right (by omega) (by omega)
  rw [hq] at hb ⊢
  rw [← hp] at hb ⊢
  have h3 : q < 2 ^ t := Nat.lt_of_mul_lt_mul_left hb
  have h4 : 2 ^ (i % 32 + 1) * (q + 1) ≤ 2 ^ (i % 32 + 1) * 2 ^ t := Nat.mul_le_mul (Nat.le_refl _) h3
  rw [Nat.mul_add, Nat.mul_one] at h4
  omega
 refine ⟨hlt, h.1.set hk hlt, ?_⟩
 rw [val_set_add hk, Bs_pow_eq, ← Nat.pow_add, Nat.div_add_mod]
theorem DivBits.on {X Y i : Nat} {L : List Nat} (h : DivBits X Y (i + 1) L) (hk : i / 32 < L.length) (hY : 0 < Y) (hle : Y ≤ 2 * (X / 2 ^ (i + 1) % Y) + bitN X i) :
  DivBits X Y i (L.set (i / 32) (dig L (i / 32) + 2 ^ (i % 32))) ∧ 2 * (X / 2 ^ (i + 1) % Y) + bitN X i - Y = X / 2 ^ i % Y := by
 obtain ⟨h1, h2, h3⟩ := h.bit hk
 have hd := div_on hY (bitN_le X i) hle
 rw [← half_up] at hd
 exact ⟨⟨h2, by rw [h3, h.2, hd.1, Nat.pow_succ]; grind⟩, hd.2.symm⟩
theorem DivBits.off {X Y i : Nat} {L : List Nat} (h : DivBits X Y (i + 1) L) (hY : 0 < Y) (hlt : 2 * (X / 2 ^ (i + 1) % Y) + bitN X i < Y) :
  DivBits X Y i L ∧ 2 * (X / 2 ^ (i + 1) % Y) + bitN X i = X / 2 ^ i % Y := by
 have hd := div_off hY hlt
 rw [← half_up] at hd
 exact ⟨⟨h.1, by rw [h.2, hd.1, Nat.pow_succ]; grind⟩, hd.2.symm⟩
theorem DivBits.fin {X Y : Nat} {L : List Nat} (h : DivBits X Y 0 L) : val L = X / Y := by rw [h.2]; simp
theorem heldN_one : heldN 1 = 1 := by decide
theorem rdiv_any (w : World) (A : Option Addr) (n c : Nat) (xs : List Nat) (A' : Option Addr) (n' c' : Nat) (ys : List Nat) (h : Lm w A n c xs) (h' : Lm w A' n' c' ys) (hn : n ≤ 1000000000) (hn' : n' ≤ 1000000000) :
  Calls Tryz.prog 237 #[.slice A n c, .slice A' n' c'] w (TellsDiv w (val xs) (val ys) n n') := by
 generalize hX : val xs = X
 generalize hY : val ys = Y
 have HX := Lib.hid hX
 have HY := Lib.hid hY
 clear hX hY
 go_enter Tryz.func237, Tryz.ntmps237
 go_wp2_with fail
 refine (rtrim_lm w A n c xs h).mono ?_
 rintro e w1 ⟨a, rfl, ha, han, rfl⟩
 go_wp2_with fail
 refine (rtrim_lm w A' n' c' ys h').mono ?_
 rintro e w1 ⟨b, rfl, hb, hbn, rfl⟩
 rw [HX.out] at ha
 rw [HY.out] at hb
 clear h h'
 have Hla : Hid (ln X = a) := ha.len
 have Hlb : Hid (ln Y = b) := hb.len
 by_cases h0 : b = 0
 ·subst h0
  have HY0 := Lib.hid (ln_zero_iff.1 Hlb.out)
  go_wp2
  go_ret3
  exact .inl ⟨HY0.out, rfl, Below.refl _ _⟩
 have h0' : ((b : Int) == 0) = false := by rw [beq_eq_false_iff_ne]; omega
 have hY0 : Y ≠ 0 := fun e => h0 (by rw [← Hlb.out, e]; exact ln_zero)
 have HY0 := Lib.hid (Nat.pos_of_ne_zero hY0)
 have hnb := nb_le_len (ok_lim X)
 rw [val_lim, show (lim X).length = a from Hla.out] at hnb
 have HNB := Lib.hid hnb
 clear h0 hY0 hnb
 go_wp2_with
  (at_make
   refine wpList_make_u32 _ rfl _ _ rfl .i64 .i64 _ _ a rfl rfl ?_ ?_ ?_ ?_
   ·rfl
   ·rfl
   ·omega
   intro w1 hown hb1 hs1)
 go_wp2_with fail
 refine (rbits_any w1 A a c (lim X) (ha.bel hb1)).mono ?_
 rintro e w2 ⟨rfl, rfl⟩
 rw [val_lim]
 obtain ⟨N, hN⟩ : ∃ N, N = nb X := ⟨_, rfl⟩
 rw [← hN]
 rw [← hN] at HNB
 have HNX := Lib.hid hN
 have hNb : N ≤ 32000000000 := by have := HNB.out; omega
 clear hN
 go_wp2_with fail
 go_loopw [10, 11] (fun rv ix wr => ∃ (k : Nat) (L : List Nat) (B : Option Addr) (m d : Nat), rv = .slice B m d ∧ ix = .int .i64 ((k : Int) - 1) ∧ k ≤ N ∧ L.length = a ∧ Own wr w.heap.size L ∧ DivBits X Y k L ∧ Lm wr B m d (lim (X / 2 ^ k % Y)) ∧ Below w.heap.size w wr) (fun _ ix _ => (intOf ix + 1).toNat)
 case atStart => exact ⟨N, _, none, 0, 0, rfl, rfl, Nat.le_refl _, by simp, hown, by rw [HNX.out]; exact DivBits.start _, by rw [HNX.out, Nat.div_eq_of_lt (lt_pow_nb X), Nat.zero_mod, lim_zero]; exact Lm.nil _, hb1⟩
 case round =>
  obtain ⟨k, L, B, m, d, rfl, rfl, hk, hL0, hO, hS0, hr, bel⟩ := hrel
  have hL := Lib.hid hL0
  clear hL0 hown hb1 hs1
  have hA1 := ha.bel bel
  have hB1 := hb.bel bel
  have hlr : Hid (ln (X / 2 ^ k % Y) = m) := hr.len
  have hmb : m ≤ b := by rw [← hlr.out, ← Hlb.out]; exact ln_mono (Nat.le_of_lt (Nat.mod_lt _ HY0.out))
  by_cases hk0 : k = 0
  ·subst hk0
   have hl := hO.lm hS0.1 (by rw [hL.out]; omega)
   rw [hL.out] at hl
   have hv := Lib.hid hS0.fin
   have hr0 : Hid (X / 2 ^ 0 % Y = X % Y) := (by simp : X / 2 ^ 0 % Y = X % Y)
   rw [hr0.out] at hr
   clear hS0 hr0 hlr
   go_wp2_with fail
   refine (rtrim_lm _ _ _ _ _ hl).mono ?_
   rintro e w' ⟨q, rfl, hq, hqn, rfl⟩
   go_wp2
   go_ret3
   exact .inr ⟨by have := HY0.out; omega, _, q, _, B, m, d, rfl, by rw [hv.out] at hq; exact hq, hr, by omega, by omega, bel⟩
  obtain ⟨i, hi⟩ : ∃ i, k = i + 1 := ⟨k - 1, by omega⟩
  subst hi
  have HK := Lib.hid hk
  have ei : ((i + 1 : Nat) : Int) - 1 = (i : Int) := by omega
  obtain ⟨kk, hkk⟩ : ∃ kk, kk = i / 32 := ⟨_, rfl⟩
  obtain ⟨s, hs⟩ : ∃ s, s = i % 32 := ⟨_, rfl⟩
  have e1 : (i : Int) / 32 = (kk : Int) := by omega
  have e2 : (i : Int) % 32 = (s : Int) := by omega
  have hsb : s < 32 := by omega
  have hib : i ≤ 32000000000 := by omega
  have hkz : kk < a := by have := HNB.out; omega
  have HI := Lib.hid (And.intro hkk (And.intro hs hkz))
  have hz := hS0.low
  rw [← hkk, ← hs] at hz
  have hps : 2 ^ s < 4294967296 := Nat.lt_of_lt_of_le (Nat.pow_lt_pow_right (by omega) hsb) (by decide : 2 ^ 32 ≤ 4294967296)
  have hdb : dig L kk < 4294967296 := hS0.1 kk
  have eor : bits .or .u32 (dig L kk : Int) ((2 : Int) ^ s % 4294967296) = ((dig L kk + 2 ^ s : Nat) : Int) := by
   have e : (2 : Int) ^ s = ((2 ^ s : Nat) : Int) := by rw [Int.natCast_pow]; rfl
   rw [e, show ((2 ^ s : Nat) : Int) % 4294967296 = ((2 ^ s : Nat) : Int) from by omega, u32_or_nat _ _ hdb hps, nat_join (s + 1) _ _ hz (Nat.pow_lt_pow_right (by omega) (by omega))]
  have hS := Lib.hid hS0
  obtain ⟨R2, hR2'⟩ : ∃ R2, R2 = 2 * (X / 2 ^ (i + 1) % Y) + bitN X i := ⟨_, rfl⟩
  have hR2 := Lib.hid hR2'
  clear hkk hs hk0 hz hps hdb hS0 hR2' hk
  go_wp2_with fail
  refine (rshl_any _ B m d _ 1 hr (by omega)).mono ?_
  rw [val_lim, heldN_one, Nat.pow_one]
  rintro e w2 ⟨B2, m2, d2, rfl, hr2, hm2, hb2⟩
  have hO2 := hO.bel hb2
  have hA2 := hA1.bel hb2
  have hB2 := hB1.bel hb2
  have bel2 := bel.trans (hb2.mono bel.size)
  clear hr hO hA1 hB1 bel hb2 hlr
  go_wp2_with fail
  refine (rbit_any _ A a c (lim X) i hA2 (by omega)).mono ?_
  rintro e w3 ⟨rfl, rfl⟩
  rw [val_lim]
  by_cases hbit : X.testBit i = true
  ·have e4 : X / 2 ^ (i + 1) % Y * 2 + 1 = R2 := by rw [hR2.out, bitN, if_pos hbit]; omega
   have E4 := Lib.hid e4
   rw [hbit]
   clear hbit e4
   go_wp2_with fail
   obtain ⟨w3, hw3⟩ : ∃ v, v = w2.alloc (.cells #[.int .u32 1] 124) := ⟨_, rfl⟩
   rw [← hw3]
   have hb3 : Below w2.heap.size w2 w3 := by rw [hw3]; exact (Below.refl _ _).alloc (Nat.le_refl _) _
   have hone : Lm w3 (some ⟨w2.heap.size, 0, none⟩) 1 1 [1] := by rw [hw3]; exact (Own.list w2 [1]).lm (Ok.of_mem (fun x hx => by rw [Bs_eq]; simp at hx; omega)) (by simp)
   have hadd := Lib.hid (radd_any w3 _ _ _ _ _ _ _ _ (hr2.bel hb3) hone (by omega) (by omega))
   rw [val_lim, val_single, E4.out] at hadd
   have bel3 := bel2.trans (hb3.mono bel2.size)
   have hO3 := hO2.bel hb3
   have hA3 := hA2.bel hb3
   have hB3 := hB2.bel hb3
   clear hw3 hb3 hone hr2 hO2 hA2 hB2 bel2
   refine hadd.out.mono ?_
   clear hadd
   rintro e w4 ⟨B4, m4, d4, rfl, hr4, hm4, hb4⟩
   have hO4 := hO3.bel hb4
   have hA4 := hA3.bel hb4
   have hB4 := hB3.bel hb4
   have bel4 := bel3.trans (hb4.mono bel3.size)
   clear hO3 hA3 hB3 bel3 hb4
   go_wp2_with fail
   refine (rcmp_any _ _ _ _ _ _ _ _ _ hr4 hB4).mono ?_
   rintro e w5 ⟨rfl, nq, hw5⟩
   rw [val_lim, val_lim]
   have hb5 : Below w4.heap.size w4 w5 := by rw [hw5]; exact below_drewN (Below.refl _ _) nq
   have hr5 := hr4.bel hb5
   have hB5 := hB4.bel hb5
   have hA5 := hA4.bel hb5
   have hO5 := hO4.bel hb5
   have bel5 := bel4.trans (hb5.mono bel4.size)
   clear hr4 hB4 hA4 hO4 bel4 hw5 hb5
   by_cases hge : Y ≤ R2
   ·have hq : 0 ≤ cmpN R2 Y := by have := cmpN_neg_iff R2 Y; omega
    have HON := Lib.hid (hS.out.on (by rw [← HI.out.1, hL.out]; exact HI.out.2.2) HY0.out (by rw [← hR2.out]; exact hge))
    rw [← hR2.out, ← HI.out.1, ← HI.out.2.1] at HON
    have hsub := Lib.hid (rsub_new w5 _ _ _ _ _ _ _ _ hr5 hB5)
    rw [val_lim, val_lim] at hsub
    have HGE := Lib.hid hge
    generalize cmpN R2 Y = q at *
    clear hge
    go_wp2_with fail
    refine hsub.out.mono ?_
    clear hsub
    rintro e w6 (⟨hlt, _⟩ | ⟨_, b6, m6, d6, rfl, hnew, hr6, hm6, hb6⟩)
    ·exact absurd hlt (Nat.not_lt.2 HGE.out)
    have hO6 := hO5.bel hb6
    have hc := hO6.cell (i := kk) (by rw [hL.out]; exact HI.out.2.2)
    have hf := hO6.free kk
    have hglt := Lib.hid hO5.lt
    have HN := Lib.hid hnew
    have bel6 := bel5.trans (hb6.mono bel5.size)
    clear hr5 hB5 hA5 hO5 bel5 hb6 hnew
    go_wp2
    refine ⟨⟨i, _, _, m6, d6, rfl, rfl, by have := HK.out; omega, by rw [List.length_set]; exact hL.out, hO6.set_ _ _, HON.out.1, ?_, bel6.setCell (Nat.le_refl _) _⟩, by simp [intOf]⟩
    rw [← HON.out.2]
    exact hr6.far (fun b o e _ => by have h1 := hglt.out; have h2 := HN.out; injection e with e; injection e with e1; show b ≠ w.heap.size; omega) _
   ·have hlt : R2 < Y := Nat.lt_of_not_le hge
    have HOFF := Lib.hid (hS.out.off HY0.out (by rw [← hR2.out]; exact hlt))
    rw [← hR2.out] at HOFF
    rw [cmpN_lt hlt]
    clear hge hlt
    go_wp2
    exact ⟨⟨i, L, _, _, _, rfl, rfl, by have := HK.out; omega, hL.out, hO5, HOFF.out.1, by rw [← HOFF.out.2]; exact hr5, bel5⟩, by simp [intOf]⟩
  ·have hbf : X.testBit i = false := by simpa using hbit
   have e4 : X / 2 ^ (i + 1) % Y * 2 = R2 := by rw [hR2.out, bitN, if_neg hbit]; omega
   rw [hbf]
   rw [e4] at hr2
   clear hbit e4 hbf
   obtain ⟨w4, hw4⟩ : ∃ v, v = w2 := ⟨_, rfl⟩
   rw [← hw4]
   rw [← hw4] at hr2 hO2 hA2 hB2 bel2
   have hr4 := hr2
   have hO4 := hO2
   have hA4 := hA2
   have hB4 := hB2
   have bel4 := bel2
   clear hr2 hO2 hA2 hB2 bel2 hw4
   go_wp2_with fail
   refine (rcmp_any _ _ _ _ _ _ _ _ _ hr4 hB4).mono ?_
   rintro e w5 ⟨rfl, nq, hw5⟩
   rw [val_lim, val_lim]
   have hb5 : Below w4.heap.size w4 w5 := by rw [hw5]; exact below_drewN (Below.refl _ _) nq
   have hr5 := hr4.bel hb5
   have hB5 := hB4.bel hb5
   have hA5 := hA4.bel hb5
   have hO5 := hO4.bel hb5
   have bel5 := bel4.trans (hb5.mono bel4.size)
   clear hr4 hB4 hA4 hO4 bel4 hw5 hb5
   by_cases hge : Y ≤ R2
   ·have hq : 0 ≤ cmpN R2 Y := by have := cmpN_neg_iff R2 Y; omega
    have HON := Lib.hid (hS.out.on (by rw [← HI.out.1, hL.out]; exact HI.out.2.2) HY0.out (by rw [← hR2.out]; exact hge))
    rw [← hR2.out, ← HI.out.1, ← HI.out.2.1] at HON
    have hsub := Lib.hid (rsub_new w5 _ _ _ _ _ _ _ _ hr5 hB5)
    rw [val_lim, val_lim] at hsub
    have HGE := Lib.hid hge
    generalize cmpN R2 Y = q at *
    clear hge
    go_wp2_with fail
    refine hsub.out.mono ?_
    clear hsub
    rintro e w6 (⟨hlt, _⟩ | ⟨_, b6, m6, d6, rfl, hnew, hr6, hm6, hb6⟩)
    ·exact absurd hlt (Nat.not_lt.2 HGE.out)
    have hO6 := hO5.bel hb6
    have hc := hO6.cell (i := kk) (by rw [hL.out]; exact HI.out.2.2)
    have hf := hO6.free kk
    have hglt := Lib.hid hO5.lt
    have HN := Lib.hid hnew
    have bel6 := bel5.trans (hb6.mono bel5.size)
    clear hr5 hB5 hA5 hO5 bel5 hb6 hnew
    go_wp2
    refine ⟨⟨i, _, _, m6, d6, rfl, rfl, by have := HK.out; omega, by rw [List.length_set]; exact hL.out, hO6.set_ _ _, HON.out.1, ?_, bel6.setCell (Nat.le_refl _) _⟩, by simp [intOf]⟩
    rw [← HON.out.2]
    exact hr6.far (fun b o e _ => by have h1 := hglt.out; have h2 := HN.out; injection e with e; injection e with e1; show b ≠ w.heap.size; omega) _
   ·have hlt : R2 < Y := Nat.lt_of_not_le hge
    have HOFF := Lib.hid (hS.out.off HY0.out (by rw [← hR2.out]; exact hlt))
    rw [← hR2.out] at HOFF
    rw [cmpN_lt hlt]
    clear hge hlt
    go_wp2
    exact ⟨⟨i, L, _, _, _, rfl, rfl, by have := HK.out; omega, hL.out, hO5, HOFF.out.1, by rw [← HOFF.out.2]; exact hr5, bel5⟩, by simp [intOf]⟩
end Go.Proofs.YtnjjfakjnkhhjaaGreatDoor
