import Derived.Test.YtnjjfakjnkhhjaaGreatDoorRg
import Derived.Test.YtnjjfakjnkhhjaaGreatDoorRoot
import Derived.Test.YtnjjfakjnkhhjaaGreatDoorEq5
import Derived.Test.YtnjjfakjnkhhjaaGreatDoorEvu
set_option maxHeartbeats 2000000
set_option maxRecDepth 100000
set_option linter.all false
namespace Go.Proofs.YtnjjfakjnkhhjaaGreatDoor
open Go.RowKit
theorem RootAt.bit {X i : Nat} {L : List Nat} (h : RootAt X (i + 1) L) (hk : i / 32 < L.length) :
  dig L (i / 32) + 2 ^ (i % 32) < 4294967296 ∧ Ok (L.set (i / 32) (dig L (i / 32) + 2 ^ (i % 32))) ∧ val (L.set (i / 32) (dig L (i / 32) + 2 ^ (i % 32))) = val L + 2 ^ i := by
 have hz := low_zero h.1 h.2.1
 have hb : dig L (i / 32) < 4294967296 := h.1 _
 have hlt : dig L (i / 32) + 2 ^ (i % 32) < 4294967296 := by
  obtain ⟨t, ht⟩ : ∃ t, i % 32 + 1 + t = 32 := ⟨31 - i % 32, by omega⟩
  have hp : 2 ^ (i % 32 + 1) * 2 ^ t = 4294967296 := by rw [← Nat.pow_add, ht]
  obtain ⟨q, hq⟩ : ∃ q, dig L (i / 32) = 2 ^ (i % 32 + 1) * q := ⟨_, (Nat.mul_div_cancel' (Nat.dvd_of_mod_eq_zero hz)).symm⟩
  have h2 : 2 ^ (i % 32) < 2 ^ (i % 32 + 1) := Nat.pow_lt_pow_right (by omega) (by omega)
  rw [hq] at hb ⊢
  rw [← hp] at hb ⊢
  have h3 : q < 2 ^ t := Nat.lt_of_mul_lt_mul_left hb
  have h4 : 2 ^ (i % 32 + 1) * (q + 1) ≤ 2 ^ (i % 32 + 1) * 2 ^ t := Nat.mul_le_mul (Nat.le_refl _) h3
  rw [Nat.mul_add, Nat.mul_one] at h4
  omega
 refine ⟨hlt, h.1.set hk hlt, ?_⟩
 rw [val_set_add hk, Bs_pow_eq, ← Nat.pow_add, Nat.div_add_mod]
theorem RootAt.on {X i : Nat} {L : List Nat} (h : RootAt X (i + 1) L) (hk : i / 32 < L.length) (hle : (val L + 2 ^ i) * (val L + 2 ^ i) ≤ X) :
  RootAt X i (L.set (i / 32) (dig L (i / 32) + 2 ^ (i % 32))) := by
 obtain ⟨h1, h2, h3⟩ := h.bit hk
 have hm : val L % 2 ^ i = 0 := Nat.mod_eq_zero_of_dvd (Nat.dvd_trans (Nat.pow_dvd_pow 2 (Nat.le_succ i)) (Nat.dvd_of_mod_eq_zero h.2.1))
 refine ⟨h2, ?_, ?_, ?_⟩
 ·rw [h3, Nat.add_mod_right, hm]
 ·rw [h3]; exact hle
 ·rw [h3, Nat.add_assoc, ← Nat.two_mul, Nat.mul_comm 2, ← Nat.pow_succ]; exact h.2.2.2
theorem RootAt.off {X i : Nat} {L : List Nat} (h : RootAt X (i + 1) L) (hlt : X < (val L + 2 ^ i) * (val L + 2 ^ i)) : RootAt X i L :=
 ⟨h.1, Nat.mod_eq_zero_of_dvd (Nat.dvd_trans (Nat.pow_dvd_pow 2 (Nat.le_succ i)) (Nat.dvd_of_mod_eq_zero h.2.1)), h.2.2.1, hlt⟩
theorem RootAt.start {X n k : Nat} (h : nb X ≤ 2 * n) (hn : n < k) (len : Nat) : RootAt X k (List.replicate len 0) := by
 have hv : val (List.replicate len 0) = 0 := vt_zero _ fun j _ => dig_zeros _ _
 refine ⟨Ok.zeros _, by rw [hv]; exact Nat.zero_mod _, by rw [hv]; exact Nat.zero_le _, ?_⟩
 rw [hv, Nat.zero_add, ← Nat.pow_add]
 exact Nat.lt_of_lt_of_le (lt_pow_nb X) (Nat.pow_le_pow_right (by omega) (by omega))
theorem RootAt.fin {X : Nat} {L : List Nat} (h : RootAt X 0 L) : val L = rt X := (rt_unique h.2.2.1 h.2.2.2).symm
theorem set_back {L : List Nat} {k e : Nat} (hk : k < L.length) : (L.set k e).set k (dig L k) = L := by
 rw [List.set_set]
 apply List.ext_getElem (by simp)
 intro j h1 h2
 rw [List.getElem_set]
 split
 ·subst_vars; exact dig_get hk
 ·rfl
theorem rroot_any (w : World) (A : Option Addr) (m c : Nat) (xs : List Nat) (h : Lm w A m c xs) (hm : m ≤ 1000000000) :
  Calls Tryz.prog 170 #[.slice A m c] w (Tells w (rt (val xs)) (m + 1)) := by
 generalize hX : val xs = X
 have HX := Lib.hid hX
 have hnb0 := nb_le_len h.ok
 rw [h.len, hX] at hnb0
 clear hX
 obtain ⟨n, hn⟩ : ∃ n, n = (nb X + 1) / 2 := ⟨_, rfl⟩
 have en : ((nb X : Int) + 1) / 2 = (n : Int) := by omega
 have hnn : nb X ≤ 2 * n := by omega
 have hnm : n ≤ 16 * m := by omega
 obtain ⟨z, hz⟩ : ∃ z, z = n / 32 := ⟨_, rfl⟩
 have ez : (n : Int) / 32 = (z : Int) := by omega
 have hzm : z ≤ m := by omega
 have hzb : z ≤ 1000000000 := by omega
 have HZ := Lib.hid hz
 clear hn hz
 go_enter Tryz.func170, Tryz.ntmps170
 go_wp2_with fail
 refine (rbits_any w A m c xs h).mono ?_
 rintro e w1 ⟨rfl, rfl⟩
 rw [HX.out]
 go_wp2_with
  (at_make
   refine wpList_make_u32 _ rfl _ _ rfl .i64 .i64 _ _ (z + 1) rfl rfl ?_ ?_ ?_ ?_
   ·omega
   ·omega
   ·omega
   intro w1 hown hb1 hs1)
 clear en
 go_loopw [5] (fun ix wr => ∃ (k : Nat) (L : List Nat), ix = .int .i64 ((k : Int) - 1) ∧ k ≤ n + 1 ∧ L.length = z + 1 ∧ Own wr w.heap.size L ∧ RootAt X k L ∧ Below w.heap.size w wr) (fun ix _ => (intOf ix + 1).toNat)
 case atStart => exact ⟨n + 1, _, by congr 1; omega, Nat.le_refl _, by simp, hown, RootAt.start hnn (Nat.lt_succ_self _) _, hb1⟩
 case round =>
  obtain ⟨k, L, rfl, hk, hL0, hO, hS, hB⟩ := hrel
  have hL := Lib.hid hL0
  clear hL0 hown hb1 hs1
  have hlm := h.bel hB
  by_cases h0 : k = 0
  ·subst h0
   have hl := hO.lm hS.1 (by rw [hL.out]; omega)
   rw [hL.out] at hl
   have hv := Lib.hid hS.fin
   go_wp2_with fail
   refine (rtrim_lm _ _ _ _ _ hl).mono ?_
   rintro e w' ⟨r, rfl, hr, hrn, rfl⟩
   go_wp2
   go_ret
   exact ⟨_, r, _, rfl, by rw [hv.out] at hr; exact hr, Nat.le_trans hrn (by omega), hB⟩
  ·obtain ⟨i, hi⟩ : ∃ i, k = i + 1 := ⟨k - 1, by omega⟩
   subst hi
   obtain ⟨kk, hkk⟩ : ∃ kk, kk = i / 32 := ⟨_, rfl⟩
   obtain ⟨s, hs⟩ : ∃ s, s = i % 32 := ⟨_, rfl⟩
   have ei : ((i + 1 : Nat) : Int) - 1 = (i : Int) := by omega
   have e1 : (i : Int) / 32 = (kk : Int) := by omega
   have e2 : (i : Int) % 32 = (s : Int) := by omega
   have hkz : kk < z + 1 := by have := HZ.out; omega
   have hsb : s < 32 := by omega
   have hib : i ≤ 16000000000 := by omega
   have hlk : kk < L.length := by rw [hL.out]; exact hkz
   have hbit := hS.bit (by rw [← hkk]; exact hlk)
   rw [← hkk, ← hs] at hbit
   have HI := Lib.hid (And.intro hkk hs)
   clear hkk hs h0
   have hc := hO.cell (i := kk) hlk
   have hf := hO.free kk
   have hz := low_zero hS.1 hS.2.1
   rw [← HI.out.1, ← HI.out.2] at hz
   have hps : 2 ^ s < 4294967296 := Nat.lt_of_lt_of_le (Nat.pow_lt_pow_right (by omega) hsb) (by decide : 2 ^ 32 ≤ 4294967296)
   have hdb : dig L kk < 4294967296 := hS.1 kk
   have eor : bits .or .u32 (dig L kk : Int) ((2 : Int) ^ s % 4294967296) = ((dig L kk + 2 ^ s : Nat) : Int) := by
    have e : (2 : Int) ^ s = ((2 ^ s : Nat) : Int) := by rw [Int.natCast_pow]; rfl
    rw [e, show ((2 ^ s : Nat) : Int) % 4294967296 = ((2 ^ s : Nat) : Int) from by omega, u32_or_nat _ _ hdb hps, nat_join (s + 1) _ _ hz (Nat.pow_lt_pow_right (by omega) (by omega))]
   have eoff : bits .andNot .u32 ((dig L kk + 2 ^ s : Nat) : Int) ((2 : Int) ^ s % 4294967296) = (dig L kk : Int) := by
    have e : (2 : Int) ^ s = ((2 ^ s : Nat) : Int) := by rw [Int.natCast_pow]; rfl
    rw [e, show ((2 ^ s : Nat) : Int) % 4294967296 = ((2 ^ s : Nat) : Int) from by omega]
    exact off32 hz hsb hbit.1
   have hO1 := hO.set_ kk (dig L kk + 2 ^ s)
   have hB1 := hB.setCell (p := ⟨w.heap.size, kk, none⟩) (Nat.le_refl _) (d32 (dig L kk + 2 ^ s))
   have hl1 := hO1.lm hbit.2.1 (by rw [List.length_set, hL.out]; omega)
   rw [List.length_set, hL.out] at hl1
   have hlk1 : kk < (L.set kk (dig L kk + 2 ^ s)).length := by rw [List.length_set]; exact hlk
   have hback : (L.set kk (dig L kk + 2 ^ s)).set kk (dig L kk) = L := set_back hlk
   have hd1 : dig (L.set kk (dig L kk + 2 ^ s)) kk = dig L kk + 2 ^ s := by rw [dig_set hlk, if_pos rfl]
   have HB := Lib.hid hbit.2.2
   have HS := Lib.hid hS
   have Hon := Lib.hid (fun hle => hS.on (by rw [← HI.out.1]; exact hlk) hle)
   rw [← HI.out.1, ← HI.out.2] at Hon
   have HBK := Lib.hid hback
   have HL1 : Hid ((L.set kk (dig L kk + 2 ^ s)).length = z + 1) := (by rw [List.length_set, hL.out] : (L.set kk (dig L kk + 2 ^ s)).length = z + 1)
   clear hbit hS hz hback hps hdb
   generalize L.set kk (dig L kk + 2 ^ s) = L1 at *
   generalize hD : dig L kk + 2 ^ s = D at *
   have HD := Lib.hid hD
   clear hD
   go_wp2_with fail
   refine (rmul_any _ _ _ _ L1 _ _ _ L1 hl1 hl1 (by omega) (by omega)).mono ?_
   rintro e w2 ⟨A2, m2, c2, rfl, hm2, hm2n, hb2⟩
   have hO2 := hO1.bel hb2
   have hB2 := hB1.trans (hb2.mono (by show w.heap.size ≤ _; have := hO1.lt; exact Nat.le_of_lt this))
   have hlm2 := h.bel hB2
   have hc2 := hO2.cell (i := kk) hlk1
   rw [hd1] at hc2
   have hf2 := hO2.free kk
   clear hc hf hlm
   go_wp2_with fail
   refine (rcmp_any _ _ _ _ _ _ _ _ _ hm2 hlm2).mono ?_
   rintro e w3 ⟨rfl, nq, rfl⟩
   rw [val_lim, HX.out]
   by_cases hgt : X < val L1 * val L1
   ·rw [cmpN_gt hgt]
    have hroot : Hid (RootAt X i L) := (HS.out.off (by rw [HB.out] at hgt; exact hgt) : RootAt X i L)
    clear hgt
    go_wp2
    refine ⟨⟨i, L, rfl, by omega, hL.out, ?_, hroot.out, ?_⟩, by simp [intOf]⟩
    ·have h5 : Own (w2.drewN nq) w.heap.size L1 := hO2
     have h6 := h5.set_ kk (dig L kk)
     rw [HBK.out] at h6; exact h6
    ·have h5 : Below w.heap.size w (w2.drewN nq) := ⟨hB2.os, hB2.tape, hB2.output, hB2.size, hB2.block⟩
     exact h5.setCell (Nat.le_refl _) _
   ·have hle : Hid (val L1 * val L1 ≤ X) := (Nat.le_of_not_lt hgt : val L1 * val L1 ≤ X)
    have hneg : ¬ 0 < cmpN (val L1 * val L1) X := by
     rcases Nat.lt_or_eq_of_le hle.out with h | h
     ·rw [cmpN_lt h]; decide
     ·rw [cmpN_eq h]; decide
    generalize cmpN (val L1 * val L1) X = q at *
    clear hgt
    go_wp2
    exact ⟨⟨i, L1, rfl, by omega, HL1.out, hO2, Hon.out (by rw [← HB.out]; exact hle.out), ⟨hB2.os, hB2.tape, hB2.output, hB2.size, hB2.block⟩⟩, by simp [intOf]⟩
end Go.Proofs.YtnjjfakjnkhhjaaGreatDoor
namespace Go.Proofs.YtnjjfakjnkhhjaaGreatDoor.Ev
open Go Go.RowKit
section
variable {G : World → Prop}
def s_rRoot : FnSpec := sp1 (.one .L) okL (fun x _ => (rt (dl x).toNat : Nat)) (fun _ _ => false)
theorem good_rRoot : Good Tryz.prog G N0 170 s_rRoot := by
 refine ⟨callable (by kernel_rfl), fun ds hp => ?_⟩
 obtain ⟨x, rfl, hx⟩ := sp1_arg hp
 obtain ⟨n, cs, rfl, hc⟩ := okL_arg hx
 refine s_L hc fun X w A c hG hX hl => ?_
 have hn := hc.2.2.2
 exact (rroot_any w A n c (nums cs) hl (by omega)).mono fun _ _ h => (fun h => tellsL h hX) h
def s_rCmp : FnSpec := sp2 (.one (.i .i64)) (fun x y => okL x ∧ okL y) (fun x y _ => cmpN (dl x).toNat (dl y).toNat) (fun _ _ _ => false)
theorem good_rCmp : Good Tryz.prog G N0 171 s_rCmp := by
 refine ⟨callable (by kernel_rfl), fun ds hp => ?_⟩
 obtain ⟨x, y, rfl, hx, hy⟩ := sp2_arg hp
 obtain ⟨n, cs, rfl, hc⟩ := okL_arg hx
 obtain ⟨m, es, rfl, he⟩ := okL_arg hy
 refine s_LL hc he fun X w A c A' c' hG hX hl hl' => ?_
 exact (rcmp_any w A n c (nums cs) A' m c' (nums es) hl hl').mono fun _ _ h => (fun ⟨he, nq, hw⟩ => by subst hw; exact tellsi ⟨he, below_drewN (Below.refl _ _) nq⟩) h
end
def s_qSide : FnSpec := ⟨.one (.i .i64), fun ds => match ds with | [.int .i64 _] => True | _ => False, fun ds _ => match ds with | [.int _ m] => sideI m | _ => 0, fun _ _ => false, fun _ _ => 0, fun _ _ => []⟩
theorem side_arg {ds : List D} (h : s_qSide.p ds) : ∃ m, ds = [.int .i64 m] := by
 match ds, h with
 | [.int .i64 m], _ => exact ⟨m, rfl⟩
theorem even_T (x : Int) : ((!(x.tmod 2 == 0)) = true) = ¬(x % 2 = 0) := propext (by
 rw [Bool.not_eq_true', beq_eq_false_iff_ne]
 exact ⟨fun h h2 => h (tmod2_even h2), fun h => tmod2_odd h⟩)
theorem even_F (x : Int) : ((!(x.tmod 2 == 0)) = false) = (x % 2 = 0) := propext (by
 have h := even_T x
 constructor
 ·intro h1
  apply Classical.byContradiction
  intro h2
  rw [← h, h1] at h2
  cases h2
 ·intro h1
  cases hb : !(x.tmod 2 == 0) with
  | false => rfl
  | true => rw [hb] at h; exact absurd h1 (h.mp rfl))
theorem cmpN_T (a b : Nat) : ((!(cmpN a b == 0)) = true) = ¬(a = b) := propext (by
 rw [Bool.not_eq_true', beq_eq_false_iff_ne]
 refine ⟨fun h h2 => h (cmpN_eq h2), fun h => ?_⟩
 rcases Nat.lt_trichotomy a b with h1 | h1 | h1
 ·rw [cmpN_lt h1]; decide
 ·exact absurd h1 h
 ·rw [cmpN_gt h1]; decide)
theorem cmpN_F (a b : Nat) : ((!(cmpN a b == 0)) = false) = (a = b) := propext (by
 have h := cmpN_T a b
 constructor
 ·intro h1
  apply Classical.byContradiction
  intro h2
  rw [← h, h1] at h2
  cases h2
 ·intro h1
  cases hb : !(cmpN a b == 0) with
  | false => rfl
  | true => rw [hb] at h; exact absurd h1 (h.mp rfl))
theorem sg_lt0 {z : Int} : sg z < 0 ↔ z < 0 := by rcases sg_cases z with ⟨h1, h2⟩ | ⟨h1, h2⟩ | ⟨h1, h2⟩ <;> rw [h2] <;> omega
theorem tdiv2_even {x : Int} (h : x % 2 = 0) : x.tdiv 2 = x / 2 := by
 obtain ⟨c, rfl⟩ := Int.dvd_of_emod_eq_zero h
 rw [Int.mul_tdiv_cancel_left _ (by decide), Int.mul_ediv_cancel_left _ (by decide)]
theorem fit_mul_pow {z : Int} {a k b : Nat} (h : Fit z a) (hb : a + k ≤ b) : z.natAbs * 2 ^ k < 2 ^ b := by
 unfold Fit at h
 refine Nat.lt_of_lt_of_le (Nat.mul_lt_mul_of_pos_right h (Nat.pow_pos (by decide))) ?_
 rw [← Nat.pow_add]
 exact Nat.pow_le_pow_right (by decide) hb
theorem good_qSide : Good Tryz.prog (GWL [0, 1]) N0 173 s_qSide := by
 refine goodM 0 gn Tryz.f173 (by kernel_rfl) (by kernel_rfl) fun ds hp F A Q hF hA hQ => ?_
 obtain ⟨md, rfl⟩ := side_arg hp
 clear hp
 cbv
 repeat' (first | with_reducible refine And.intro ?_ ?_ | (with_reducible refine safe_lift hA ?_; kernel_rfl) | (intro hc_; cbv))
 all_goals (repeat (rw [safe_true hA, true_and]; rotate_left; kernel_rfl))
 all_goals subst hF hA
 all_goals simp only [fnOf, find, std, reduceIte, Nat.reduceEqDiff, sp1, sp2, a1, a2, FnSpec.out, Shape.build, leafs, leafCells, tups, oneOf, List.cons_append, List.nil_append, List.length_cons, List.length_nil, s_qSide, sideI, beq_iff_eq] at *
 case refine_1 => exact Post.i hQ (if_pos hc_)
 case refine_2 => exact Post.i hQ (if_neg (fun h => by rw [h] at hc_; exact absurd hc_ (by decide)))
end Go.Proofs.YtnjjfakjnkhhjaaGreatDoor.Ev
