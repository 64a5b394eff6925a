import Derived.Test.YtnjjfakjnkhhjaaGreatDoorDv
import Derived.Deep.LoopGhost
import Derived.Test.YtnjjfakjnkhhjaaGreatDoorXc
set_option maxHeartbeats 2000000
set_option linter.all false
namespace Go.Proofs.YtnjjfakjnkhhjaaGreatDoor
open Go.RowKit
def rt : Nat → Nat
 | 0 => 0
 | n + 1 => if (rt n + 1) * (rt n + 1) ≤ n + 1 then rt n + 1 else rt n
theorem rt_spec (N : Nat) : rt N * rt N ≤ N ∧ N < (rt N + 1) * (rt N + 1) := by
 induction N with
 | zero => exact ⟨Nat.le_refl _, by decide⟩
 | succ n ih =>
  unfold rt
  split
  ·rename_i h
   refine ⟨h, ?_⟩
   have : (rt n + 1 + 1) * (rt n + 1 + 1) = (rt n + 1) * (rt n + 1) + 2 * (rt n + 1) + 1 := by grind
   omega
  ·rename_i h
   exact ⟨by omega, by omega⟩
theorem rt_unique {N r : Nat} (h1 : r * r ≤ N) (h2 : N < (r + 1) * (r + 1)) : rt N = r := by
 obtain ⟨h3, h4⟩ := rt_spec N
 apply Nat.le_antisymm
 ·apply Nat.le_of_not_lt
  intro c
  have : (r + 1) * (r + 1) ≤ rt N * rt N := Nat.mul_le_mul c c
  omega
 ·apply Nat.le_of_not_lt
  intro c
  have : (rt N + 1) * (rt N + 1) ≤ r * r := Nat.mul_le_mul c c
  omega
theorem le_rt {N x : Nat} (h : x * x ≤ N) : x ≤ rt N := by
 apply Nat.le_of_not_lt
 intro c
 have h1 : (rt N + 1) * (rt N + 1) ≤ x * x := Nat.mul_le_mul c c
 have h2 := (rt_spec N).2
 omega
theorem rt_lt {N x : Nat} (h : N < x * x) : rt N < x := by
 apply Nat.lt_of_not_le
 intro c
 have := Nat.mul_le_mul c c
 have := (rt_spec N).1
 omega
theorem lt_sq {N x : Nat} (h : rt N < x) : N < x * x := Nat.lt_of_lt_of_le (rt_spec N).2 (Nat.mul_le_mul h h)
theorem rt_le (N : Nat) : rt N ≤ N := by
 rcases Nat.eq_zero_or_pos (rt N) with h | h
 ·omega
 ·have h1 : rt N * 1 ≤ rt N * rt N := Nat.mul_le_mul (Nat.le_refl _) h
  have := (rt_spec N).1
  omega
theorem rt_pos {N : Nat} (h : N ≠ 0) : 1 ≤ rt N := le_rt (by omega)
theorem newton_ge {N x : Nat} (h0 : 0 < x) : rt N ≤ (x + N / x) / 2 := by
 have h1 := (rt_spec N).1
 generalize rt N = r at *
 rw [Nat.le_div_iff_mul_le (by omega)]
 rcases Nat.lt_or_ge (2 * r) x with h | h
 ·generalize N / x = q at *; omega
 ·have h2 : (2 * r - x) * x ≤ N := by
   obtain ⟨k, hk⟩ : ∃ k, k + x = 2 * r := ⟨2 * r - x, by omega⟩
   rw [show 2 * r - x = k from by omega]
   have h3 : (k + x) * (k + x) = 4 * (r * r) := by rw [hk]; grind
   have h4 : 4 * (k * x) ≤ (k + x) * (k + x) := by
    rcases Nat.le_total k x with h | h
    ·obtain ⟨d, rfl⟩ : ∃ d, x = k + d := ⟨x - k, by omega⟩
     have : (k + (k + d)) * (k + (k + d)) = 4 * (k * (k + d)) + d * d := by grind
     omega
    ·obtain ⟨d, rfl⟩ : ∃ d, k = x + d := ⟨k - x, by omega⟩
     have : (x + d + x) * (x + d + x) = 4 * ((x + d) * x) + d * d := by grind
     omega
   omega
  have h3 : 2 * r - x ≤ N / x := (Nat.le_div_iff_mul_le h0).2 h2
  generalize N / x = q at *
  omega
theorem newton_lt {N x : Nat} (h : rt N < x) : (x + N / x) / 2 < x := by
 have h1 := lt_sq h
 have h2 : N / x < x := Nat.div_lt_of_lt_mul h1
 generalize N / x = q at *
 omega
theorem above_gt (N q : Nat) : rt N < (rt (N / 2 ^ (2 * q)) + 1) * 2 ^ q := by
 apply rt_lt
 have h1 := (rt_spec (N / 2 ^ (2 * q))).2
 have h2 : N < (N / 2 ^ (2 * q) + 1) * 2 ^ (2 * q) := by
  have := Nat.lt_div_mul_add (Nat.two_pow_pos (2 * q)) (a := N)
  rw [Nat.add_mul, Nat.one_mul]; exact this
 have h3 : (N / 2 ^ (2 * q) + 1) * 2 ^ (2 * q) ≤ (rt (N / 2 ^ (2 * q)) + 1) * (rt (N / 2 ^ (2 * q)) + 1) * 2 ^ (2 * q) := Nat.mul_le_mul h1 (Nat.le_refl _)
 have h4 : 2 ^ (2 * q) = 2 ^ q * 2 ^ q := by rw [← Nat.pow_add]; congr 1; omega
 generalize rt (N / 2 ^ (2 * q)) + 1 = s at *
 rw [h4] at h2 h3
 have h5 : s * 2 ^ q * (s * 2 ^ q) = s * s * (2 ^ q * 2 ^ q) := by grind
 rw [h5]
 exact Nat.lt_of_lt_of_le h2 h3
theorem nb_shr {N k : Nat} (h : k < nb N) : nb (N / 2 ^ k) = nb N - k := by
 have h0 : N ≠ 0 := by rintro rfl; rw [nb_zero] at h; omega
 have h1 : 2 ^ k ≤ N := Nat.le_trans (Nat.pow_le_pow_right (by omega) (by omega)) (pow_nb_le h0)
 have h2 : N / 2 ^ k ≠ 0 := by
  have := Nat.div_pos h1 (Nat.two_pow_pos k)
  omega
 rw [nb_shift N k h2]; omega
def RootTo (K : Nat) : Prop := ∀ (w : World) (A : Option Addr) (n c : Nat) (xs : List Nat), Lm w A n c xs → n ≤ 1000000000 → nb (val xs) ≤ K →
  Calls Tryz.prog 226 #[.slice A n c] w (Tells w (rt (val xs)) n)
def TellsAbove (w : World) (N len : Nat) (e : Ending) (w' : World) : Prop := ∃ x, rt N < x ∧ Tells w x len e w'
theorem above_step (K : Nat) (ih : RootTo K) (w : World) (A : Option Addr) (n c : Nat) (xs : List Nat) (h : Lm w A n c xs) (hn : n ≤ 1000000000) (hk : nb (val xs) ≤ K + 1) :
  Calls Tryz.prog 238 #[.slice A n c] w (TellsAbove w (val xs) (2 * n + 4)) := by
 have hbl := nb_le_len h.ok
 rw [h.len] at hbl
 have hbits := Lib.hid (fun W (hW : Lm W A n c xs) => bits_any W A n c xs hW)
 generalize hB : nb (val xs) = b at *
 have HB := Lib.hid hB
 clear hB
 obtain ⟨q, hq⟩ : ∃ q, q = b / 4 := ⟨_, rfl⟩
 have eq1 : (b : Int) / 4 = (q : Int) := by omega
 by_cases h0 : q = 0
 ·have hN : Hid (val xs < 8) := (by
   have h1 : nb (val xs) ≤ 3 := by rw [HB.out]; omega
   exact Nat.lt_of_lt_of_le (lt_pow_nb _) (Nat.pow_le_pow_right (n := 2) (by omega) h1) : val xs < 8)
  subst h0
  clear hq hk hbl ih
  go_enter Tryz.func238, Tryz.ntmps238
  go_wp2_with fail
  refine (hbits.out _ h).mono ?_
  rintro e w' ⟨rfl, rfl⟩
  go_wp2
  go_ret
  have ho := (Own.list w [3]).lm (Ok.of_mem (fun x hx => by simp at hx; rw [hx, Bs_eq]; omega)) (by simp)
  refine ⟨3, rt_lt (by have := hN.out; omega), _, 1, 1, rfl, ?_, by omega, (Below.refl _ _).alloc (Nat.le_refl _) _⟩
  rw [lim_single (by omega) (by rw [Bs_eq]; omega)]
  exact ho
 ·have h0' : ((q : Int) == 0) = false := by rw [beq_eq_false_iff_ne]; omega
  have hq4 : 4 * q ≤ b := by omega
  have hq5 : q ≤ 80000000000 := by omega
  have hqn : q ≤ 8 * n := by omega
  have hsh : Hid (nb (val xs / 2 ^ (2 * q)) ≤ K) := (by rw [nb_shr (by rw [HB.out]; omega), HB.out]; omega : nb (val xs / 2 ^ (2 * q)) ≤ K)
  have IH := Lib.hid ih
  have hdn := Lib.hid (fun W (hW : Lm W A n c xs) => down_any W A n c xs (2 * q) hW (by omega) (by omega))
  have HQ := Lib.hid hq
  clear hq h0 hk ih
  go_enter Tryz.func238, Tryz.ntmps238
  go_wp2_with fail
  refine (hbits.out _ h).mono ?_
  rintro e w' ⟨rfl, rfl⟩
  go_wp2_with fail
  refine (hdn.out _ h).mono ?_
  rintro e w2 ⟨B, p, d, L, rfl, hl, hv, hp, hb⟩
  have HV := Lib.hid hv
  clear hv eq1
  have hrt := Lib.hid (IH.out w2 B p d L hl (by omega) (by rw [HV.out]; exact hsh.out))
  go_wp2_with fail
  refine hrt.out.mono ?_
  rw [HV.out]
  rintro e w3 ⟨B3, p3, d3, rfl, hl3, hp3, hb3⟩
  clear hrt
  go_wp2_with fail
  have ho1 : Own (w3.alloc (.cells #[d32 1] 124)) w3.heap.size [1] := Own.list w3 [1]
  have hl1 := ho1.lm (Ok.of_mem (fun x hx => by simp at hx; rw [hx, Bs_eq]; omega)) (by simp)
  have hb4 : Below w3.heap.size w3 (w3.alloc (.cells #[d32 1] 124)) := (Below.refl _ _).alloc (Nat.le_refl _) _
  have hb5 : Below w.heap.size w (w3.alloc (.cells #[d32 1] 124)) := (hb.trans (hb3.mono hb.size)).trans (hb4.mono (Nat.le_trans hb.size hb3.size))
  have had := Lib.hid (add_any _ B3 p3 d3 _ _ _ _ _ (hl3.bel hb4) hl1 (by omega) (by simp))
  have HB5 := Lib.hid hb5
  clear ho1 hl1 hb4 hb5
  refine had.out.mono ?_
  rw [val_lim, val_single]
  rintro e w6 ⟨B6, p6, d6, rfl, hl6, hp6, hb6⟩
  clear had
  have hp6' : p6 ≤ n + 2 := by simp at hp6; omega
  have hup := Lib.hid (up_any w6 B6 p6 d6 _ q hl6 (by omega) (by omega))
  go_wp2_with fail
  refine hup.out.mono ?_
  rw [val_lim]
  rintro e w7 ⟨L7, rfl, ho7, hl7, hok7, hv7, hb7⟩
  clear hup
  have HL7 := Lib.hid hl7
  have HV7 := Lib.hid hv7
  clear hl7 hv7
  have hl8 := ho7.lm hok7 (by rw [HL7.out]; omega)
  rw [HL7.out] at hl8
  go_wp2_with fail
  refine (cut_lm _ _ _ _ _ hl8).mono ?_
  rintro e w' ⟨r, rfl, hr, hrn, rfl⟩
  go_wp2
  go_ret
  refine ⟨_, above_gt (val xs) q, _, r, _, rfl, ?_, by omega, ?_⟩
  ·rw [← HV7.out]; exact hr
  ·exact (HB5.out.trans (hb6.mono HB5.out.size)).trans (hb7.mono (Nat.le_trans HB5.out.size hb6.size))
theorem len_step {x y q r n : Nat} (h1 : (lim x).length = q) (h2 : y < x) (h3 : (lim y).length = r) (hq : q ≤ n) : r ≤ n := by
 have : ln y ≤ ln x := ln_mono (Nat.le_of_lt h2)
 unfold ln at this; omega
theorem len_root {x X q m n : Nat} (h1 : (lim x).length = q) (h2 : x = rt X) (h3 : ln X = m) (h4 : m ≤ n) : q ≤ n := by
 have : ln x ≤ ln X := by rw [h2]; exact ln_mono (rt_le X)
 have e : ln x = q := h1
 omega
theorem root_step (K : Nat) (ih : RootTo K) : RootTo (K + 1) := by
 intro w A n c xs h hn hk
 have hab := Lib.hid (above_step K ih)
 clear ih
 generalize hX : val xs = X at *
 have HX := Lib.hid hX
 have HK := Lib.hid hk
 clear hX hk
 go_enter Tryz.func226, Tryz.ntmps226
 go_wp2_with fail
 refine (cut_lm w A n c xs h).mono ?_
 rintro e w1 ⟨m, rfl, hm, hmn, rfl⟩
 rw [HX.out] at hm
 have Hlen : Hid (ln X = m) := hm.len
 by_cases h0 : m = 0
 ·subst h0
  have hx0 : X = 0 := ln_zero_iff.1 Hlen.out
  subst hx0
  go_wp2
  go_ret
  exact ⟨none, 0, 0, rfl, by rw [show rt 0 = 0 from rfl, lim_zero]; exact Lm.nil _, Nat.zero_le _, Below.refl _ _⟩
 ·have h0' : ((m : Int) == 0) = false := by rw [beq_eq_false_iff_ne]; omega
  have hX0 : Hid (X ≠ 0) := (fun e => h0 (by rw [← Hlen.out, e]; exact ln_zero) : X ≠ 0)
  clear h0
  have hab2 := Lib.hid (hab.out w A m c (lim X) hm (by omega) (by rw [val_lim]; exact HK.out))
  clear hab
  go_wp2_with fail
  refine hab2.out.mono ?_
  rw [val_lim]
  rintro e w2 ⟨x0, hx0, B0, q0, d0, rfl, hl0, hq0, hb0⟩
  clear hab2
  have HX0 := Lib.hid hx0
  clear hx0
  go_wp2_with fail
  go_loopg [3] x0 (fun k vx wr => ∃ (x q d : Nat) (B : Option Addr), x ≤ k ∧ vx = .slice B q d ∧ Lm wr B q d (lim x) ∧ rt X ≤ x ∧ q ≤ 2 * n + 4 ∧ Below w.heap.size w wr)
  case atStart => exact ⟨x0, q0, d0, B0, Nat.le_refl _, rfl, hl0, Nat.le_of_lt HX0.out, by omega, hb0⟩
  case round =>
   obtain ⟨x, q, d, B, hxk, rfl, hl, hrx, hq, hB⟩ := hrel
   have HR := Lib.hid hrx
   have hx1 : Hid (1 ≤ x) := Nat.le_trans (rt_pos hX0.out) hrx
   clear hrx
   have hmr := hm.bel hB
   have hdv := Lib.hid (div_any wr A m c (lim X) B q d (lim x) hmr hl (by omega))
   go_wp2_with fail
   refine hdv.out.mono ?_
   rw [val_lim, val_lim]
   clear hdv
   intro e w3 hT
   rcases hT with ⟨hz, _⟩ | ⟨_, B3, p3, d3, B4, p4, d4, rfl, hl3, hl4, hp3, hp4, hb3⟩
   ·have := hx1.out; omega
   have had := Lib.hid (add_any w3 B q d _ B3 p3 d3 _ (hl.bel hb3) hl3 (by omega) (by omega))
   go_wp2_with fail
   refine had.out.mono ?_
   rw [val_lim, val_lim]
   clear had
   rintro e w5 ⟨B5, p5, d5, rfl, hl5, hp5, hb5⟩
   have hdn := Lib.hid (down_any w5 B5 p5 d5 _ 1 hl5 (by omega) (by omega))
   go_wp2_with fail
   refine hdn.out.mono ?_
   rw [val_lim, Nat.pow_one]
   clear hdn
   rintro e w6 ⟨B6, p6, d6, L6, rfl, hl6, hv6, hp6, hb6⟩
   have HV6 := Lib.hid hv6
   clear hv6
   go_wp2_with fail
   refine (cut_lm _ _ _ _ _ hl6).mono ?_
   rw [HV6.out]
   rintro e w' ⟨r, rfl, hr, hrn, rfl⟩
   have hb36 : Below wr.heap.size wr w6 := (hb3.trans (hb5.mono hb3.size)).trans (hb6.mono (Nat.le_trans hb3.size hb5.size))
   have hl7 : Lm w6 B q d (lim x) := hl.bel hb36
   have hcm := Lib.hid (cmp_any w6 B6 r d6 _ B q d _ hr hl7)
   go_wp2_with fail
   refine hcm.out.mono ?_
   rw [val_lim, val_lim]
   clear hcm
   rintro e w7 ⟨rfl, nq, hw7⟩
   have hbb : Below wr.heap.size wr w7 := by rw [hw7]; exact below_drewN hb36 nq
   have hr7 : Lm w7 B6 r d6 (lim ((x + X / x) / 2)) := by rw [hw7]; exact hr.drewN nq
   have hl8 : Lm w7 B q d (lim x) := by rw [hw7]; exact hl7.drewN nq
   have hB7 := hB.trans (hbb.mono hB.size)
   clear hw7
   by_cases hlt : (x + X / x) / 2 < x
   ·rw [cmpN_lt hlt]
    have HLT := Lib.hid hlt
    clear hlt
    go_wp2
    go_roundg ((x + X / x) / 2)
    case rel => exact ⟨_, r, d6, B6, Nat.le_refl _, rfl, hr7, newton_ge (by have := hx1.out; omega), len_step hl.len HLT.out hr.len hq, hB7⟩
    case measure => have := HLT.out; omega
   ·have hge : 0 ≤ cmpN ((x + X / x) / 2) x := by have := cmpN_neg_iff ((x + X / x) / 2) x; omega
    have hxr : Hid (x = rt X) := (by
     have h1 := HR.out
     rcases Nat.lt_or_ge (rt X) x with h2 | h2
     ·exact absurd (newton_lt h2) hlt
     ·omega : x = rt X)
    generalize cmpN ((x + X / x) / 2) x = cq at *
    clear hlt
    go_wp2
    go_ret
    exact ⟨B, q, d, rfl, by rw [← hxr.out]; exact hl8, len_root hl.len hxr.out Hlen.out hmn, hB7⟩
theorem root_base : RootTo 0 := by
 intro w A n c xs h hn hk
 generalize hX : val xs = X at *
 have HX := Lib.hid hX
 have hx0 : X = 0 := nb_zero_iff.1 (by omega)
 clear hX hk
 go_enter Tryz.func226, Tryz.ntmps226
 go_wp2_with fail
 refine (cut_lm w A n c xs h).mono ?_
 rintro e w1 ⟨m, rfl, hm, hmn, rfl⟩
 rw [HX.out] at hm
 have hm0 : m = 0 := by
  have : ln X = m := hm.len
  rw [← this, hx0]; exact ln_zero
 subst hm0
 subst hx0
 go_wp2
 go_ret
 exact ⟨none, 0, 0, rfl, by rw [show rt 0 = 0 from rfl, lim_zero]; exact Lm.nil _, Nat.zero_le _, Below.refl _ _⟩
theorem root_to (K : Nat) : RootTo K := by
 induction K with
 | zero => exact root_base
 | succ K ih => exact root_step K ih
theorem root_any (w : World) (A : Option Addr) (n c : Nat) (xs : List Nat) (h : Lm w A n c xs) (hn : n ≤ 1000000000) :
  Calls Tryz.prog 226 #[.slice A n c] w (Tells w (rt (val xs)) n) := root_to _ w A n c xs h hn (Nat.le_refl _)
end Go.Proofs.YtnjjfakjnkhhjaaGreatDoor
namespace Go.Proofs.YtnjjfakjnkhhjaaGreatDoor.Ev
open Go Go.RowKit
variable {G : World → Prop}
def s_nAdd : FnSpec := sp2 (.one .L) (fun x y => okL x ∧ okL y) (fun x y _ => ((dl x).toNat + (dl y).toNat : Nat)) (fun _ _ _ => false)
theorem good_nAdd : Good Tryz.prog G N0 215 s_nAdd := by
 refine ⟨callable (by kernel_rfl), fun ds hp => ?_⟩
 obtain ⟨x, y, rfl, hx, hy⟩ := sp2_arg hp
 obtain ⟨n, cs, rfl, hc⟩ := okL_arg hx
 obtain ⟨m, es, rfl, he⟩ := okL_arg hy
 refine s_LL hc he fun X w A c A' c' hG hX hl hl' => ?_
 have hn := hc.2.2.2
 have hm := he.2.2.2
 exact (add_any w A n c (nums cs) A' m c' (nums es) hl hl' (by omega) (by omega)).mono fun _ _ h => (fun h => tellsL h hX) h
def s_nMul : FnSpec := sp2 (.one .L) (fun x y => okL x ∧ okL y) (fun x y _ => ((dl x).toNat * (dl y).toNat : Nat)) (fun _ _ _ => false)
theorem good_nMul : Good Tryz.prog G N0 189 s_nMul := by
 refine ⟨callable (by kernel_rfl), fun ds hp => ?_⟩
 obtain ⟨x, y, rfl, hx, hy⟩ := sp2_arg hp
 obtain ⟨n, cs, rfl, hc⟩ := okL_arg hx
 obtain ⟨m, es, rfl, he⟩ := okL_arg hy
 refine s_LL hc he fun X w A c A' c' hG hX hl hl' => ?_
 have hn := hc.2.2.2
 have hm := he.2.2.2
 exact (mul_any w A n c (nums cs) A' m c' (nums es) hl hl' (by omega) (by omega)).mono fun _ _ h => (fun h => tellsL h hX) h
def s_nSub : FnSpec := sp2 (.tup [(false, [.L]), (false, [.b])]) (fun x y => okL x ∧ okL y) (fun x y _ => ((dl x).toNat - (dl y).toNat : Nat)) (fun x y _ => decide ((dl y).toNat ≤ (dl x).toNat))
theorem good_nSub : Good Tryz.prog G N0 216 s_nSub := by
 refine ⟨callable (by kernel_rfl), fun ds hp => ?_⟩
 obtain ⟨x, y, rfl, hx, hy⟩ := sp2_arg hp
 obtain ⟨n, cs, rfl, hc⟩ := okL_arg hx
 obtain ⟨m, es, rfl, he⟩ := okL_arg hy
 refine s_LL hc he fun X w A c A' c' hG hX hl hl' => ?_
 have hn := hc.2.2.2
 have hm := he.2.2.2
 exact (sub_any w A n c (nums cs) A' m c' (nums es) hl hl').mono fun _ _ h => (fun h => tellsSub h hX) h
def s_nDiv : FnSpec := sp2 (.tup [(false, [.L]), (false, [.L]), (false, [.b])]) (fun x y => okL x ∧ okL y) (fun x y i => match i with | 0 => ((dl x).toNat / (dl y).toNat : Nat) | _ => (if (dl y).toNat = 0 then 0 else (dl x).toNat % (dl y).toNat : Nat)) (fun x y _ => decide ((dl y).toNat ≠ 0))
theorem good_nDiv : Good Tryz.prog G N0 239 s_nDiv := by
 refine ⟨callable (by kernel_rfl), fun ds hp => ?_⟩
 obtain ⟨x, y, rfl, hx, hy⟩ := sp2_arg hp
 obtain ⟨n, cs, rfl, hc⟩ := okL_arg hx
 obtain ⟨m, es, rfl, he⟩ := okL_arg hy
 refine s_LL hc he fun X w A c A' c' hG hX hl hl' => ?_
 have hn := hc.2.2.2
 have hm := he.2.2.2
 exact (div_any w A n c (nums cs) A' m c' (nums es) hl hl' (by omega)).mono fun _ _ h => (fun h => tellsDiv h hX) h
def s_nCmp : FnSpec := sp2 (.one (.i .i64)) (fun x y => okL x ∧ okL y) (fun x y _ => cmpN (dl x).toNat (dl y).toNat) (fun _ _ _ => false)
theorem good_nCmp : Good Tryz.prog G N0 185 s_nCmp := by
 refine ⟨callable (by kernel_rfl), fun ds hp => ?_⟩
 obtain ⟨x, y, rfl, hx, hy⟩ := sp2_arg hp
 obtain ⟨n, cs, rfl, hc⟩ := okL_arg hx
 obtain ⟨m, es, rfl, he⟩ := okL_arg hy
 refine s_LL hc he fun X w A c A' c' hG hX hl hl' => ?_
 have hn := hc.2.2.2
 have hm := he.2.2.2
 exact (cmp_any w A n c (nums cs) A' m c' (nums es) hl hl').mono fun _ _ h => (fun ⟨he, nq, hw⟩ => by subst hw; exact tellsi ⟨he, below_drewN (Below.refl _ _) nq⟩) h
def s_nShl : FnSpec := sp2 (.one .L) (fun x y => okL x ∧ isi .i64 y) (fun x y _ => ((dl x).toNat * 2 ^ heldN (dz y) : Nat)) (fun _ _ _ => false)
theorem good_nShl : Good Tryz.prog G N0 229 s_nShl := by
 refine ⟨callable (by kernel_rfl), fun ds hp => ?_⟩
 obtain ⟨x, y, rfl, hx, hy⟩ := sp2_arg hp
 obtain ⟨n, cs, rfl, hc⟩ := okL_arg hx
 obtain ⟨k, rfl⟩ := isi_arg hy
 refine s_Li hc fun X w A c hG hX hl => ?_
 have hn := hc.2.2.2
 exact (shl_any w A n c (nums cs) k hl (by omega)).mono fun _ _ h => (fun h => tellsL h hX) h
def s_nShr : FnSpec := sp2 (.one .L) (fun x y => okL x ∧ isi .i64 y) (fun x y _ => ((dl x).toNat / 2 ^ heldN (dz y) : Nat)) (fun _ _ _ => false)
theorem good_nShr : Good Tryz.prog G N0 230 s_nShr := by
 refine ⟨callable (by kernel_rfl), fun ds hp => ?_⟩
 obtain ⟨x, y, rfl, hx, hy⟩ := sp2_arg hp
 obtain ⟨n, cs, rfl, hc⟩ := okL_arg hx
 obtain ⟨k, rfl⟩ := isi_arg hy
 refine s_Li hc fun X w A c hG hX hl => ?_
 have hn := hc.2.2.2
 exact (shr_any w A n c (nums cs) k hl (by omega)).mono fun _ _ h => (fun h => tellsL h hX) h
def s_nRoot : FnSpec := sp1 (.one .L) okL (fun x _ => (rt (dl x).toNat : Nat)) (fun _ _ => false)
theorem good_nRoot : Good Tryz.prog G N0 226 s_nRoot := by
 refine ⟨callable (by kernel_rfl), fun ds hp => ?_⟩
 obtain ⟨x, rfl, hx⟩ := sp1_arg hp
 obtain ⟨n, cs, rfl, hc⟩ := okL_arg hx
 refine s_L hc fun X w A c hG hX hl => ?_
 have hn := hc.2.2.2
 exact (root_any w A n c (nums cs) hl (by omega)).mono fun _ _ h => (fun h => tellsL h hX) h
end Go.Proofs.YtnjjfakjnkhhjaaGreatDoor.Ev
