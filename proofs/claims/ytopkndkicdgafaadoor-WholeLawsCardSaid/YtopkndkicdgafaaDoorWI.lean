/- Contracts of package whole: Small. -/
import Derived.Test.YtopkndkicdgafaaDoorWH
import Derived.Deep.RegionHeld3
namespace Go.Proofs.YtopkndkicdgafaaDoor
open Go.RowKit

theorem vt_one (d : Nat → Nat) : vt d 1 = d 0 := by simp [vt]
theorem vt_two (d : Nat → Nat) : vt d 2 = d 1 * Bs + d 0 := by simp [vt]; grind
theorem join64w (hi lo : Nat) (h1 : hi < 4294967296) (h2 : lo < 4294967296) : bits .or .u64 (lo : Int) ((hi : Int) * 4294967296) = ((hi * Bs + lo : Nat) : Int) := by
  have e : ((hi : Int) * 4294967296) = ((hi * 4294967296 : Nat) : Int) := by omega
  rw [e, u64_or_nat _ _ (by omega) (by omega), Nat.or_comm, nat_join 32 (hi * 4294967296) lo (by omega) (by omega)]; rfl
/-- what fits into 64 bits. -/
def fits (Z : Int) : Bool := decide (-9223372036854775808 ≤ Z ∧ Z ≤ 9223372036854775807)
theorem fits_iff (Z : Int) : fits Z = true ↔ (-9223372036854775808 ≤ Z ∧ Z ≤ 9223372036854775807) := by unfold fits; exact decide_eq_true_iff
theorem nb64 {V : Nat} : nb V ≤ 64 ↔ V < 18446744073709551616 := by
  constructor
  · intro h; exact Nat.lt_of_lt_of_le (lt_pow_nb V) (Nat.pow_le_pow_right (n := 2) (by omega) h)
  · intro h; exact nb_le_of_lt (k := 64) h
set_option maxHeartbeats 1000000 in
theorem wsmall_big (w : World) (sa : Bool) (Aa : Option Addr) (na ca : Nat) (xa : List Nat) (La : Lm w Aa na ca xa) (hb : 18446744073709551616 ≤ val xa) :
    Calls Tryd.prog 65 #[.agg #[.bool sa, .slice Aa na ca]] w fun e w' => e = .returned (.tuple #[.int .i64 0, .bool false]) ∧ Below w.heap.size w w' := by
  have hbx := Lib.hid (bel_alloc w (.cells #[.bool sa, .slice Aa na ca] 43))
  have hbit := Lib.hid (bits_any _ Aa na ca xa (La.bel hbx.out))
  obtain ⟨b, hbv, hb0⟩ : ∃ b : Nat, nb (val xa) = b ∧ (b : Int) > 64 := ⟨_, rfl, by have := nb64 (V := val xa); omega⟩
  rw [hbv] at hbit
  clear hbv hb
  go_enter Tryd.func65, Tryd.ntmps65
  go_wp2_with fail
  refine hbit.out.mono ?_
  clear hbit
  rintro e w1 ⟨rfl, rfl⟩
  go_wp2
  go_ret2
  exact ⟨rfl, hbx.out⟩
set_option maxHeartbeats 2000000 in
theorem wsmall_zero (w : World) (sa : Bool) (Aa : Option Addr) (na ca : Nat) (xa : List Nat) (La : Lm w Aa na ca xa) (hT : FarthestT w) (hc : val xa = 0) :
    Calls Tryd.prog 65 #[.agg #[.bool sa, .slice Aa na ca]] w fun e w' => e = .returned (.tuple #[.int .i64 (sgn sa (val xa)), .bool true]) ∧ Below w.heap.size w w' := by
  have hV : val xa < 18446744073709551616 := by omega
  have hσ : sg (sgn sa (val xa)) = 0 := by rw [hc, sgn_zero]; exact sg_zero rfl
  have Hσ := Lib.hid hσ
  clear hσ
  obtain ⟨b, hbv, hb0⟩ : ∃ b : Nat, nb (val xa) = b ∧ ¬ (b : Int) > 64 := ⟨_, rfl, by have := nb64 (V := val xa); omega⟩
  obtain ⟨V, hVV⟩ : ∃ V, val xa = V := ⟨_, rfl⟩
  have HV := Lib.hid (And.intro hVV hbv)
  rw [hVV] at hV
  clear hVV hbv
  have hV0 : V = 0 := by rw [← HV.out.1]; exact hc
  have ecv : IntKind.i64.wrap (V : Int) = 0 := by rw [hV0]; rfl
  have ecw : IntKind.i64.wrap (0 : Int) = 0 := rfl
  rw [hc, sgn_zero]
  clear hc
  have hfar : ¬ (V : Int) > 0 := by omega
  have HV0 := Lib.hid hV0
  clear hV0
  have HT := Lib.hid hT
  clear hT
  go_enter Tryd.func65, Tryd.ntmps65
  go_wp2_with fail
  obtain ⟨ga, hga⟩ : ∃ g, g = w.heap.size := ⟨_, rfl⟩
  obtain ⟨w1, hw1⟩ : ∃ v, v = (w.alloc (.cells #[.bool sa, .slice Aa na ca] 43)) := ⟨_, rfl⟩
  have bel1 : Below w.heap.size w w1 := by rw [hw1]; exact bel_alloc _ _
  have b_a1 : Box w1 ga sa Aa na ca := by rw [hw1, hga]; exact (Box.new _ _ _ _ _)
  rw [← hw1, ← hga]
  have hgs : w.heap.size ≤ ga := by omega
  have HG := Lib.hid hgs
  clear hw1 hgs hga
  have l_a1 := La.bel bel1
  have t_T1 := Lib.hid (HT.out.bel bel1)
  have c_a0_1 := b_a1.c0
  have c_a1_1 := b_a1.c1
  have cc := Lib.hid (bits_any w1 Aa na ca xa l_a1)
  refine cc.out.mono ?_
  clear cc
  rw [HV.out.2]
  rintro e w' ⟨rfl, rfl⟩
  go_wp2_with fail
  have cc := Lib.hid (trim_any w1 Aa na ca xa l_a1)
  refine cc.out.mono ?_
  clear cc
  rw [HV.out.1]
  rintro e v2 ⟨A3, m3, c3, rfl, h3, hm3, kb2⟩
  have b_a2 := b_a1.bel kb2
  have l_a2 := l_a1.bel kb2
  have t_T2 := Lib.hid (t_T1.out.bel kb2)
  have bel2 := bel1.trans (kb2.mono bel1.size)
  have c_a0_2 := b_a2.c0
  have c_a1_2 := b_a2.c1
  clear kb2 b_a1 c_a0_1 c_a1_1 l_a1 t_T1 bel1
  have hlm : ln V = m3 := h3.len
  have hm2 : m3 ≤ 2 := by rw [← hlm]; exact ln_le_of_lt (by rw [Bs_eq]; exact hV)
  have HLM := Lib.hid hlm
  clear hlm hm3
  have hok := ok_lim V
  go_wp2_with fail
  go_loopw [4, 16] (fun mv ix wr => ∃ (k : Nat), k ≤ m3 ∧ ix = .int .i64 k ∧ mv = .int .u64 (vt (dig (lim V)) k : Nat) ∧ wr = v2) (fun _ ix _ => m3 - (intOf ix).toNat)
  case atStart => exact ⟨0, Nat.zero_le _, rfl, rfl, rfl⟩
  case round =>
    obtain ⟨k, hk, rfl, rfl, hwr⟩ := hrel
    obtain rfl : v2 = wr := hwr.symm
    by_cases hlt : k < m3
    · obtain ⟨bq, oq, rfl, hbq, hcq⟩ := h3.at_ hlt
      have hx := hcq k hlt
      have hxb : dig (lim V) k < 4294967296 := hok k
      clear hcq
      obtain rfl | rfl : k = 0 ∨ k = 1 := by omega
      · rw [Nat.add_zero] at hx
        obtain ⟨x, hxx⟩ : ∃ x, dig (lim V) 0 = x := ⟨_, rfl⟩
        rw [hxx] at hx hxb
        have hv0 : vt (dig (lim V)) 0 = 0 := rfl
        have HX := Lib.hid hxx
        have e0 : bits .or .u64 (0 : Int) (x : Int) = (x : Int) := by have h := u64_or_nat 0 x (by omega) (by omega); rw [Nat.zero_or] at h; exact h
        clear hxx hok
        go_wp2
        exact ⟨⟨1, by omega, rfl, by rw [vt_one, HX.out], trivial⟩, by simp [intOf]; omega⟩
      · obtain ⟨x, hxx⟩ : ∃ x, dig (lim V) 1 = x := ⟨_, rfl⟩
        rw [hxx] at hx hxb
        have hyb : dig (lim V) 0 < 4294967296 := hok 0
        obtain ⟨y, hyy⟩ : ∃ y, dig (lim V) 0 = y := ⟨_, rfl⟩
        rw [hyy] at hyb
        have hv0 : vt (dig (lim V)) 1 = y := by rw [← hyy]; simp [vt]
        have HX := Lib.hid (And.intro hxx hyy)
        have e0 : bits .or .u64 (y : Int) ((x : Int) * 4294967296) = ((x * Bs + y : Nat) : Int) := join64w x y hxb hyb
        obtain ⟨xy, hxy⟩ : ∃ xy, xy = x * Bs + y := ⟨_, rfl⟩
        rw [← hxy] at e0
        have HXY := Lib.hid hxy
        clear hxx hyy hok hxy
        go_wp2
        exact ⟨⟨2, by omega, rfl, by rw [vt_two, HX.out.1, HX.out.2, HXY.out], trivial⟩, by simp [intOf]; omega⟩
    · obtain rfl : k = m3 := by omega
      have hval : vt (dig (lim V)) k = V := by
        have e := val_eq_vt (xs := lim V) (k := k) (by show ln V ≤ k; rw [HLM.out]; exact Nat.le_refl _)
        rw [e, val_lim]
      rw [hval]
      clear hval
      go_wp2_with fail
      have cc := Lib.hid (wsign_at v2 sa Aa na ca xa l_a2 Hσ.out)
      refine cc.out.mono ?_
      clear cc
      rintro e v3 ⟨rfl, kb3⟩
      have b_a3 := b_a2.bel kb3
      have l_a3 := l_a2.bel kb3
      have l_m3 := h3.bel kb3
      have t_T3 := Lib.hid (t_T2.out.bel kb3)
      have bel3 := bel2.trans (kb3.mono bel2.size)
      have c_a0_3 := b_a3.c0
      have c_a1_3 := b_a3.c1
      clear kb3 b_a2 c_a0_2 c_a1_2 l_a2 h3 t_T2 bel2
      have hcell := t_T3.out 1 (by omega)
      rw [show farthestT.getD 1 0 = 0 from rfl] at hcell
      go_wp2
      go_ret2
      exact ⟨rfl, bel3⟩
set_option maxHeartbeats 2000000 in
theorem wsmall_posok (w : World) (sa : Bool) (Aa : Option Addr) (na ca : Nat) (xa : List Nat) (La : Lm w Aa na ca xa) (hT : FarthestT w) (hc : sa = false ∧ 0 < val xa ∧ val xa ≤ 9223372036854775807) :
    Calls Tryd.prog 65 #[.agg #[.bool sa, .slice Aa na ca]] w fun e w' => e = .returned (.tuple #[.int .i64 (sgn sa (val xa)), .bool true]) ∧ Below w.heap.size w w' := by
  obtain ⟨rfl, hc1, hc2⟩ := hc
  have hV : val xa < 18446744073709551616 := by omega
  have hσ : sg (sgn false (val xa)) = 1 := by rw [sgn_false]; exact sg_pos (by omega)
  have Hσ := Lib.hid hσ
  clear hσ
  obtain ⟨b, hbv, hb0⟩ : ∃ b : Nat, nb (val xa) = b ∧ ¬ (b : Int) > 64 := ⟨_, rfl, by have := nb64 (V := val xa); omega⟩
  obtain ⟨V, hVV⟩ : ∃ V, val xa = V := ⟨_, rfl⟩
  have HV := Lib.hid (And.intro hVV hbv)
  rw [hVV] at hV hc1 hc2
  clear hVV hbv
  obtain ⟨Z, hZ, hZz⟩ : ∃ Z : Int, Z = (V : Int) ∧ sgn false (val xa) = Z := ⟨_, rfl, by rw [HV.out.1]; rfl⟩
  obtain ⟨cv, ecv, emz⟩ : ∃ cv : Int, IntKind.i64.wrap (V : Int) = cv ∧ IntKind.i64.wrap (cv) = Z := ⟨_, rfl, by rw [IntKind.wrap_i64, IntKind.wrap_i64]; omega⟩
  have emy : wrap64 (cv) = Z := by rw [← IntWalk.i64_left]; exact emz
  rw [hZz]
  clear hZz hZ
  have hfar : ¬ (V : Int) > 9223372036854775807 := by omega
  have HT := Lib.hid hT
  clear hT
  go_enter Tryd.func65, Tryd.ntmps65
  go_wp2_with fail
  obtain ⟨ga, hga⟩ : ∃ g, g = w.heap.size := ⟨_, rfl⟩
  obtain ⟨w1, hw1⟩ : ∃ v, v = (w.alloc (.cells #[.bool false, .slice Aa na ca] 43)) := ⟨_, rfl⟩
  have bel1 : Below w.heap.size w w1 := by rw [hw1]; exact bel_alloc _ _
  have b_a1 : Box w1 ga false Aa na ca := by rw [hw1, hga]; exact (Box.new _ _ _ _ _)
  rw [← hw1, ← hga]
  have hgs : w.heap.size ≤ ga := by omega
  have HG := Lib.hid hgs
  clear hw1 hgs hga
  have l_a1 := La.bel bel1
  have t_T1 := Lib.hid (HT.out.bel bel1)
  have c_a0_1 := b_a1.c0
  have c_a1_1 := b_a1.c1
  have cc := Lib.hid (bits_any w1 Aa na ca xa l_a1)
  refine cc.out.mono ?_
  clear cc
  rw [HV.out.2]
  rintro e w' ⟨rfl, rfl⟩
  go_wp2_with fail
  have cc := Lib.hid (trim_any w1 Aa na ca xa l_a1)
  refine cc.out.mono ?_
  clear cc
  rw [HV.out.1]
  rintro e v2 ⟨A3, m3, c3, rfl, h3, hm3, kb2⟩
  have b_a2 := b_a1.bel kb2
  have l_a2 := l_a1.bel kb2
  have t_T2 := Lib.hid (t_T1.out.bel kb2)
  have bel2 := bel1.trans (kb2.mono bel1.size)
  have c_a0_2 := b_a2.c0
  have c_a1_2 := b_a2.c1
  clear kb2 b_a1 c_a0_1 c_a1_1 l_a1 t_T1 bel1
  have hlm : ln V = m3 := h3.len
  have hm2 : m3 ≤ 2 := by rw [← hlm]; exact ln_le_of_lt (by rw [Bs_eq]; exact hV)
  have HLM := Lib.hid hlm
  clear hlm hm3
  have hok := ok_lim V
  go_wp2_with fail
  go_loopw [4, 16] (fun mv ix wr => ∃ (k : Nat), k ≤ m3 ∧ ix = .int .i64 k ∧ mv = .int .u64 (vt (dig (lim V)) k : Nat) ∧ wr = v2) (fun _ ix _ => m3 - (intOf ix).toNat)
  case atStart => exact ⟨0, Nat.zero_le _, rfl, rfl, rfl⟩
  case round =>
    obtain ⟨k, hk, rfl, rfl, hwr⟩ := hrel
    obtain rfl : v2 = wr := hwr.symm
    by_cases hlt : k < m3
    · obtain ⟨bq, oq, rfl, hbq, hcq⟩ := h3.at_ hlt
      have hx := hcq k hlt
      have hxb : dig (lim V) k < 4294967296 := hok k
      clear hcq
      obtain rfl | rfl : k = 0 ∨ k = 1 := by omega
      · rw [Nat.add_zero] at hx
        obtain ⟨x, hxx⟩ : ∃ x, dig (lim V) 0 = x := ⟨_, rfl⟩
        rw [hxx] at hx hxb
        have hv0 : vt (dig (lim V)) 0 = 0 := rfl
        have HX := Lib.hid hxx
        have e0 : bits .or .u64 (0 : Int) (x : Int) = (x : Int) := by have h := u64_or_nat 0 x (by omega) (by omega); rw [Nat.zero_or] at h; exact h
        clear hxx hok
        go_wp2
        exact ⟨⟨1, by omega, rfl, by rw [vt_one, HX.out], trivial⟩, by simp [intOf]; omega⟩
      · obtain ⟨x, hxx⟩ : ∃ x, dig (lim V) 1 = x := ⟨_, rfl⟩
        rw [hxx] at hx hxb
        have hyb : dig (lim V) 0 < 4294967296 := hok 0
        obtain ⟨y, hyy⟩ : ∃ y, dig (lim V) 0 = y := ⟨_, rfl⟩
        rw [hyy] at hyb
        have hv0 : vt (dig (lim V)) 1 = y := by rw [← hyy]; simp [vt]
        have HX := Lib.hid (And.intro hxx hyy)
        have e0 : bits .or .u64 (y : Int) ((x : Int) * 4294967296) = ((x * Bs + y : Nat) : Int) := join64w x y hxb hyb
        obtain ⟨xy, hxy⟩ : ∃ xy, xy = x * Bs + y := ⟨_, rfl⟩
        rw [← hxy] at e0
        have HXY := Lib.hid hxy
        clear hxx hyy hok hxy
        go_wp2
        exact ⟨⟨2, by omega, rfl, by rw [vt_two, HX.out.1, HX.out.2, HXY.out], trivial⟩, by simp [intOf]; omega⟩
    · obtain rfl : k = m3 := by omega
      have hval : vt (dig (lim V)) k = V := by
        have e := val_eq_vt (xs := lim V) (k := k) (by show ln V ≤ k; rw [HLM.out]; exact Nat.le_refl _)
        rw [e, val_lim]
      rw [hval]
      clear hval
      go_wp2_with fail
      have cc := Lib.hid (wsign_at v2 false Aa na ca xa l_a2 Hσ.out)
      refine cc.out.mono ?_
      clear cc
      rintro e v3 ⟨rfl, kb3⟩
      have b_a3 := b_a2.bel kb3
      have l_a3 := l_a2.bel kb3
      have l_m3 := h3.bel kb3
      have t_T3 := Lib.hid (t_T2.out.bel kb3)
      have bel3 := bel2.trans (kb3.mono bel2.size)
      have c_a0_3 := b_a3.c0
      have c_a1_3 := b_a3.c1
      clear kb3 b_a2 c_a0_2 c_a1_2 l_a2 h3 t_T2 bel2
      have hcell := t_T3.out 2 (by omega)
      rw [show farthestT.getD 2 0 = 9223372036854775807 from rfl] at hcell
      go_wp2
      go_ret2
      exact ⟨rfl, bel3⟩
set_option maxHeartbeats 2000000 in
theorem wsmall_posno (w : World) (sa : Bool) (Aa : Option Addr) (na ca : Nat) (xa : List Nat) (La : Lm w Aa na ca xa) (hT : FarthestT w) (hc : sa = false ∧ 9223372036854775807 < val xa ∧ val xa < 18446744073709551616) :
    Calls Tryd.prog 65 #[.agg #[.bool sa, .slice Aa na ca]] w fun e w' => e = .returned (.tuple #[.int .i64 (0), .bool false]) ∧ Below w.heap.size w w' := by
  obtain ⟨rfl, hc1, hc2⟩ := hc
  have hV : val xa < 18446744073709551616 := by omega
  have hσ : sg (sgn false (val xa)) = 1 := by rw [sgn_false]; exact sg_pos (by omega)
  have Hσ := Lib.hid hσ
  clear hσ
  obtain ⟨b, hbv, hb0⟩ : ∃ b : Nat, nb (val xa) = b ∧ ¬ (b : Int) > 64 := ⟨_, rfl, by have := nb64 (V := val xa); omega⟩
  obtain ⟨V, hVV⟩ : ∃ V, val xa = V := ⟨_, rfl⟩
  have HV := Lib.hid (And.intro hVV hbv)
  rw [hVV] at hV hc1 hc2
  clear hVV hbv
  have hfar : (V : Int) > 9223372036854775807 := by omega
  have HT := Lib.hid hT
  clear hT
  go_enter Tryd.func65, Tryd.ntmps65
  go_wp2_with fail
  obtain ⟨ga, hga⟩ : ∃ g, g = w.heap.size := ⟨_, rfl⟩
  obtain ⟨w1, hw1⟩ : ∃ v, v = (w.alloc (.cells #[.bool false, .slice Aa na ca] 43)) := ⟨_, rfl⟩
  have bel1 : Below w.heap.size w w1 := by rw [hw1]; exact bel_alloc _ _
  have b_a1 : Box w1 ga false Aa na ca := by rw [hw1, hga]; exact (Box.new _ _ _ _ _)
  rw [← hw1, ← hga]
  have hgs : w.heap.size ≤ ga := by omega
  have HG := Lib.hid hgs
  clear hw1 hgs hga
  have l_a1 := La.bel bel1
  have t_T1 := Lib.hid (HT.out.bel bel1)
  have c_a0_1 := b_a1.c0
  have c_a1_1 := b_a1.c1
  have cc := Lib.hid (bits_any w1 Aa na ca xa l_a1)
  refine cc.out.mono ?_
  clear cc
  rw [HV.out.2]
  rintro e w' ⟨rfl, rfl⟩
  go_wp2_with fail
  have cc := Lib.hid (trim_any w1 Aa na ca xa l_a1)
  refine cc.out.mono ?_
  clear cc
  rw [HV.out.1]
  rintro e v2 ⟨A3, m3, c3, rfl, h3, hm3, kb2⟩
  have b_a2 := b_a1.bel kb2
  have l_a2 := l_a1.bel kb2
  have t_T2 := Lib.hid (t_T1.out.bel kb2)
  have bel2 := bel1.trans (kb2.mono bel1.size)
  have c_a0_2 := b_a2.c0
  have c_a1_2 := b_a2.c1
  clear kb2 b_a1 c_a0_1 c_a1_1 l_a1 t_T1 bel1
  have hlm : ln V = m3 := h3.len
  have hm2 : m3 ≤ 2 := by rw [← hlm]; exact ln_le_of_lt (by rw [Bs_eq]; exact hV)
  have HLM := Lib.hid hlm
  clear hlm hm3
  have hok := ok_lim V
  go_wp2_with fail
  go_loopw [4, 16] (fun mv ix wr => ∃ (k : Nat), k ≤ m3 ∧ ix = .int .i64 k ∧ mv = .int .u64 (vt (dig (lim V)) k : Nat) ∧ wr = v2) (fun _ ix _ => m3 - (intOf ix).toNat)
  case atStart => exact ⟨0, Nat.zero_le _, rfl, rfl, rfl⟩
  case round =>
    obtain ⟨k, hk, rfl, rfl, hwr⟩ := hrel
    obtain rfl : v2 = wr := hwr.symm
    by_cases hlt : k < m3
    · obtain ⟨bq, oq, rfl, hbq, hcq⟩ := h3.at_ hlt
      have hx := hcq k hlt
      have hxb : dig (lim V) k < 4294967296 := hok k
      clear hcq
      obtain rfl | rfl : k = 0 ∨ k = 1 := by omega
      · rw [Nat.add_zero] at hx
        obtain ⟨x, hxx⟩ : ∃ x, dig (lim V) 0 = x := ⟨_, rfl⟩
        rw [hxx] at hx hxb
        have hv0 : vt (dig (lim V)) 0 = 0 := rfl
        have HX := Lib.hid hxx
        have e0 : bits .or .u64 (0 : Int) (x : Int) = (x : Int) := by have h := u64_or_nat 0 x (by omega) (by omega); rw [Nat.zero_or] at h; exact h
        clear hxx hok
        go_wp2
        exact ⟨⟨1, by omega, rfl, by rw [vt_one, HX.out], trivial⟩, by simp [intOf]; omega⟩
      · obtain ⟨x, hxx⟩ : ∃ x, dig (lim V) 1 = x := ⟨_, rfl⟩
        rw [hxx] at hx hxb
        have hyb : dig (lim V) 0 < 4294967296 := hok 0
        obtain ⟨y, hyy⟩ : ∃ y, dig (lim V) 0 = y := ⟨_, rfl⟩
        rw [hyy] at hyb
        have hv0 : vt (dig (lim V)) 1 = y := by rw [← hyy]; simp [vt]
        have HX := Lib.hid (And.intro hxx hyy)
        have e0 : bits .or .u64 (y : Int) ((x : Int) * 4294967296) = ((x * Bs + y : Nat) : Int) := join64w x y hxb hyb
        obtain ⟨xy, hxy⟩ : ∃ xy, xy = x * Bs + y := ⟨_, rfl⟩
        rw [← hxy] at e0
        have HXY := Lib.hid hxy
        clear hxx hyy hok hxy
        go_wp2
        exact ⟨⟨2, by omega, rfl, by rw [vt_two, HX.out.1, HX.out.2, HXY.out], trivial⟩, by simp [intOf]; omega⟩
    · obtain rfl : k = m3 := by omega
      have hval : vt (dig (lim V)) k = V := by
        have e := val_eq_vt (xs := lim V) (k := k) (by show ln V ≤ k; rw [HLM.out]; exact Nat.le_refl _)
        rw [e, val_lim]
      rw [hval]
      clear hval
      go_wp2_with fail
      have cc := Lib.hid (wsign_at v2 false Aa na ca xa l_a2 Hσ.out)
      refine cc.out.mono ?_
      clear cc
      rintro e v3 ⟨rfl, kb3⟩
      have b_a3 := b_a2.bel kb3
      have l_a3 := l_a2.bel kb3
      have l_m3 := h3.bel kb3
      have t_T3 := Lib.hid (t_T2.out.bel kb3)
      have bel3 := bel2.trans (kb3.mono bel2.size)
      have c_a0_3 := b_a3.c0
      have c_a1_3 := b_a3.c1
      clear kb3 b_a2 c_a0_2 c_a1_2 l_a2 h3 t_T2 bel2
      have hcell := t_T3.out 2 (by omega)
      rw [show farthestT.getD 2 0 = 9223372036854775807 from rfl] at hcell
      go_wp2
      go_ret2
      exact ⟨rfl, bel3⟩
set_option maxHeartbeats 2000000 in
theorem wsmall_negok (w : World) (sa : Bool) (Aa : Option Addr) (na ca : Nat) (xa : List Nat) (La : Lm w Aa na ca xa) (hT : FarthestT w) (hc : sa = true ∧ 0 < val xa ∧ val xa ≤ 9223372036854775808) :
    Calls Tryd.prog 65 #[.agg #[.bool sa, .slice Aa na ca]] w fun e w' => e = .returned (.tuple #[.int .i64 (sgn sa (val xa)), .bool true]) ∧ Below w.heap.size w w' := by
  obtain ⟨rfl, hc1, hc2⟩ := hc
  have hV : val xa < 18446744073709551616 := by omega
  have hσ : sg (sgn true (val xa)) = (-1) := by rw [sgn_true]; exact sg_neg (by omega)
  have Hσ := Lib.hid hσ
  clear hσ
  obtain ⟨b, hbv, hb0⟩ : ∃ b : Nat, nb (val xa) = b ∧ ¬ (b : Int) > 64 := ⟨_, rfl, by have := nb64 (V := val xa); omega⟩
  obtain ⟨V, hVV⟩ : ∃ V, val xa = V := ⟨_, rfl⟩
  have HV := Lib.hid (And.intro hVV hbv)
  rw [hVV] at hV hc1 hc2
  clear hVV hbv
  obtain ⟨Z, hZ, hZz⟩ : ∃ Z : Int, Z = -(V : Int) ∧ sgn true (val xa) = Z := ⟨_, rfl, by rw [HV.out.1]; rfl⟩
  obtain ⟨cv, ecv, emz⟩ : ∃ cv : Int, IntKind.i64.wrap (V : Int) = cv ∧ IntKind.i64.wrap (-cv) = Z := ⟨_, rfl, by rw [IntKind.wrap_i64, IntKind.wrap_i64]; omega⟩
  have emy : wrap64 (-cv) = Z := by rw [← IntWalk.i64_left]; exact emz
  rw [hZz]
  clear hZz hZ
  have hfar : ¬ (V : Int) > 9223372036854775808 := by omega
  have HT := Lib.hid hT
  clear hT
  go_enter Tryd.func65, Tryd.ntmps65
  go_wp2_with fail
  obtain ⟨ga, hga⟩ : ∃ g, g = w.heap.size := ⟨_, rfl⟩
  obtain ⟨w1, hw1⟩ : ∃ v, v = (w.alloc (.cells #[.bool true, .slice Aa na ca] 43)) := ⟨_, rfl⟩
  have bel1 : Below w.heap.size w w1 := by rw [hw1]; exact bel_alloc _ _
  have b_a1 : Box w1 ga true Aa na ca := by rw [hw1, hga]; exact (Box.new _ _ _ _ _)
  rw [← hw1, ← hga]
  have hgs : w.heap.size ≤ ga := by omega
  have HG := Lib.hid hgs
  clear hw1 hgs hga
  have l_a1 := La.bel bel1
  have t_T1 := Lib.hid (HT.out.bel bel1)
  have c_a0_1 := b_a1.c0
  have c_a1_1 := b_a1.c1
  have cc := Lib.hid (bits_any w1 Aa na ca xa l_a1)
  refine cc.out.mono ?_
  clear cc
  rw [HV.out.2]
  rintro e w' ⟨rfl, rfl⟩
  go_wp2_with fail
  have cc := Lib.hid (trim_any w1 Aa na ca xa l_a1)
  refine cc.out.mono ?_
  clear cc
  rw [HV.out.1]
  rintro e v2 ⟨A3, m3, c3, rfl, h3, hm3, kb2⟩
  have b_a2 := b_a1.bel kb2
  have l_a2 := l_a1.bel kb2
  have t_T2 := Lib.hid (t_T1.out.bel kb2)
  have bel2 := bel1.trans (kb2.mono bel1.size)
  have c_a0_2 := b_a2.c0
  have c_a1_2 := b_a2.c1
  clear kb2 b_a1 c_a0_1 c_a1_1 l_a1 t_T1 bel1
  have hlm : ln V = m3 := h3.len
  have hm2 : m3 ≤ 2 := by rw [← hlm]; exact ln_le_of_lt (by rw [Bs_eq]; exact hV)
  have HLM := Lib.hid hlm
  clear hlm hm3
  have hok := ok_lim V
  go_wp2_with fail
  go_loopw [4, 16] (fun mv ix wr => ∃ (k : Nat), k ≤ m3 ∧ ix = .int .i64 k ∧ mv = .int .u64 (vt (dig (lim V)) k : Nat) ∧ wr = v2) (fun _ ix _ => m3 - (intOf ix).toNat)
  case atStart => exact ⟨0, Nat.zero_le _, rfl, rfl, rfl⟩
  case round =>
    obtain ⟨k, hk, rfl, rfl, hwr⟩ := hrel
    obtain rfl : v2 = wr := hwr.symm
    by_cases hlt : k < m3
    · obtain ⟨bq, oq, rfl, hbq, hcq⟩ := h3.at_ hlt
      have hx := hcq k hlt
      have hxb : dig (lim V) k < 4294967296 := hok k
      clear hcq
      obtain rfl | rfl : k = 0 ∨ k = 1 := by omega
      · rw [Nat.add_zero] at hx
        obtain ⟨x, hxx⟩ : ∃ x, dig (lim V) 0 = x := ⟨_, rfl⟩
        rw [hxx] at hx hxb
        have hv0 : vt (dig (lim V)) 0 = 0 := rfl
        have HX := Lib.hid hxx
        have e0 : bits .or .u64 (0 : Int) (x : Int) = (x : Int) := by have h := u64_or_nat 0 x (by omega) (by omega); rw [Nat.zero_or] at h; exact h
        clear hxx hok
        go_wp2
        exact ⟨⟨1, by omega, rfl, by rw [vt_one, HX.out], trivial⟩, by simp [intOf]; omega⟩
      · obtain ⟨x, hxx⟩ : ∃ x, dig (lim V) 1 = x := ⟨_, rfl⟩
        rw [hxx] at hx hxb
        have hyb : dig (lim V) 0 < 4294967296 := hok 0
        obtain ⟨y, hyy⟩ : ∃ y, dig (lim V) 0 = y := ⟨_, rfl⟩
        rw [hyy] at hyb
        have hv0 : vt (dig (lim V)) 1 = y := by rw [← hyy]; simp [vt]
        have HX := Lib.hid (And.intro hxx hyy)
        have e0 : bits .or .u64 (y : Int) ((x : Int) * 4294967296) = ((x * Bs + y : Nat) : Int) := join64w x y hxb hyb
        obtain ⟨xy, hxy⟩ : ∃ xy, xy = x * Bs + y := ⟨_, rfl⟩
        rw [← hxy] at e0
        have HXY := Lib.hid hxy
        clear hxx hyy hok hxy
        go_wp2
        exact ⟨⟨2, by omega, rfl, by rw [vt_two, HX.out.1, HX.out.2, HXY.out], trivial⟩, by simp [intOf]; omega⟩
    · obtain rfl : k = m3 := by omega
      have hval : vt (dig (lim V)) k = V := by
        have e := val_eq_vt (xs := lim V) (k := k) (by show ln V ≤ k; rw [HLM.out]; exact Nat.le_refl _)
        rw [e, val_lim]
      rw [hval]
      clear hval
      go_wp2_with fail
      have cc := Lib.hid (wsign_at v2 true Aa na ca xa l_a2 Hσ.out)
      refine cc.out.mono ?_
      clear cc
      rintro e v3 ⟨rfl, kb3⟩
      have b_a3 := b_a2.bel kb3
      have l_a3 := l_a2.bel kb3
      have l_m3 := h3.bel kb3
      have t_T3 := Lib.hid (t_T2.out.bel kb3)
      have bel3 := bel2.trans (kb3.mono bel2.size)
      have c_a0_3 := b_a3.c0
      have c_a1_3 := b_a3.c1
      clear kb3 b_a2 c_a0_2 c_a1_2 l_a2 h3 t_T2 bel2
      have hcell := t_T3.out 0 (by omega)
      rw [show farthestT.getD 0 0 = 9223372036854775808 from rfl] at hcell
      go_wp2
      go_ret2
      exact ⟨rfl, bel3⟩
set_option maxHeartbeats 2000000 in
theorem wsmall_negno (w : World) (sa : Bool) (Aa : Option Addr) (na ca : Nat) (xa : List Nat) (La : Lm w Aa na ca xa) (hT : FarthestT w) (hc : sa = true ∧ 9223372036854775808 < val xa ∧ val xa < 18446744073709551616) :
    Calls Tryd.prog 65 #[.agg #[.bool sa, .slice Aa na ca]] w fun e w' => e = .returned (.tuple #[.int .i64 (0), .bool false]) ∧ Below w.heap.size w w' := by
  obtain ⟨rfl, hc1, hc2⟩ := hc
  have hV : val xa < 18446744073709551616 := by omega
  have hσ : sg (sgn true (val xa)) = (-1) := by rw [sgn_true]; exact sg_neg (by omega)
  have Hσ := Lib.hid hσ
  clear hσ
  obtain ⟨b, hbv, hb0⟩ : ∃ b : Nat, nb (val xa) = b ∧ ¬ (b : Int) > 64 := ⟨_, rfl, by have := nb64 (V := val xa); omega⟩
  obtain ⟨V, hVV⟩ : ∃ V, val xa = V := ⟨_, rfl⟩
  have HV := Lib.hid (And.intro hVV hbv)
  rw [hVV] at hV hc1 hc2
  clear hVV hbv
  have hfar : (V : Int) > 9223372036854775808 := by omega
  have HT := Lib.hid hT
  clear hT
  go_enter Tryd.func65, Tryd.ntmps65
  go_wp2_with fail
  obtain ⟨ga, hga⟩ : ∃ g, g = w.heap.size := ⟨_, rfl⟩
  obtain ⟨w1, hw1⟩ : ∃ v, v = (w.alloc (.cells #[.bool true, .slice Aa na ca] 43)) := ⟨_, rfl⟩
  have bel1 : Below w.heap.size w w1 := by rw [hw1]; exact bel_alloc _ _
  have b_a1 : Box w1 ga true Aa na ca := by rw [hw1, hga]; exact (Box.new _ _ _ _ _)
  rw [← hw1, ← hga]
  have hgs : w.heap.size ≤ ga := by omega
  have HG := Lib.hid hgs
  clear hw1 hgs hga
  have l_a1 := La.bel bel1
  have t_T1 := Lib.hid (HT.out.bel bel1)
  have c_a0_1 := b_a1.c0
  have c_a1_1 := b_a1.c1
  have cc := Lib.hid (bits_any w1 Aa na ca xa l_a1)
  refine cc.out.mono ?_
  clear cc
  rw [HV.out.2]
  rintro e w' ⟨rfl, rfl⟩
  go_wp2_with fail
  have cc := Lib.hid (trim_any w1 Aa na ca xa l_a1)
  refine cc.out.mono ?_
  clear cc
  rw [HV.out.1]
  rintro e v2 ⟨A3, m3, c3, rfl, h3, hm3, kb2⟩
  have b_a2 := b_a1.bel kb2
  have l_a2 := l_a1.bel kb2
  have t_T2 := Lib.hid (t_T1.out.bel kb2)
  have bel2 := bel1.trans (kb2.mono bel1.size)
  have c_a0_2 := b_a2.c0
  have c_a1_2 := b_a2.c1
  clear kb2 b_a1 c_a0_1 c_a1_1 l_a1 t_T1 bel1
  have hlm : ln V = m3 := h3.len
  have hm2 : m3 ≤ 2 := by rw [← hlm]; exact ln_le_of_lt (by rw [Bs_eq]; exact hV)
  have HLM := Lib.hid hlm
  clear hlm hm3
  have hok := ok_lim V
  go_wp2_with fail
  go_loopw [4, 16] (fun mv ix wr => ∃ (k : Nat), k ≤ m3 ∧ ix = .int .i64 k ∧ mv = .int .u64 (vt (dig (lim V)) k : Nat) ∧ wr = v2) (fun _ ix _ => m3 - (intOf ix).toNat)
  case atStart => exact ⟨0, Nat.zero_le _, rfl, rfl, rfl⟩
  case round =>
    obtain ⟨k, hk, rfl, rfl, hwr⟩ := hrel
    obtain rfl : v2 = wr := hwr.symm
    by_cases hlt : k < m3
    · obtain ⟨bq, oq, rfl, hbq, hcq⟩ := h3.at_ hlt
      have hx := hcq k hlt
      have hxb : dig (lim V) k < 4294967296 := hok k
      clear hcq
      obtain rfl | rfl : k = 0 ∨ k = 1 := by omega
      · rw [Nat.add_zero] at hx
        obtain ⟨x, hxx⟩ : ∃ x, dig (lim V) 0 = x := ⟨_, rfl⟩
        rw [hxx] at hx hxb
        have hv0 : vt (dig (lim V)) 0 = 0 := rfl
        have HX := Lib.hid hxx
        have e0 : bits .or .u64 (0 : Int) (x : Int) = (x : Int) := by have h := u64_or_nat 0 x (by omega) (by omega); rw [Nat.zero_or] at h; exact h
        clear hxx hok
        go_wp2
        exact ⟨⟨1, by omega, rfl, by rw [vt_one, HX.out], trivial⟩, by simp [intOf]; omega⟩
      · obtain ⟨x, hxx⟩ : ∃ x, dig (lim V) 1 = x := ⟨_, rfl⟩
        rw [hxx] at hx hxb
        have hyb : dig (lim V) 0 < 4294967296 := hok 0
        obtain ⟨y, hyy⟩ : ∃ y, dig (lim V) 0 = y := ⟨_, rfl⟩
        rw [hyy] at hyb
        have hv0 : vt (dig (lim V)) 1 = y := by rw [← hyy]; simp [vt]
        have HX := Lib.hid (And.intro hxx hyy)
        have e0 : bits .or .u64 (y : Int) ((x : Int) * 4294967296) = ((x * Bs + y : Nat) : Int) := join64w x y hxb hyb
        obtain ⟨xy, hxy⟩ : ∃ xy, xy = x * Bs + y := ⟨_, rfl⟩
        rw [← hxy] at e0
        have HXY := Lib.hid hxy
        clear hxx hyy hok hxy
        go_wp2
        exact ⟨⟨2, by omega, rfl, by rw [vt_two, HX.out.1, HX.out.2, HXY.out], trivial⟩, by simp [intOf]; omega⟩
    · obtain rfl : k = m3 := by omega
      have hval : vt (dig (lim V)) k = V := by
        have e := val_eq_vt (xs := lim V) (k := k) (by show ln V ≤ k; rw [HLM.out]; exact Nat.le_refl _)
        rw [e, val_lim]
      rw [hval]
      clear hval
      go_wp2_with fail
      have cc := Lib.hid (wsign_at v2 true Aa na ca xa l_a2 Hσ.out)
      refine cc.out.mono ?_
      clear cc
      rintro e v3 ⟨rfl, kb3⟩
      have b_a3 := b_a2.bel kb3
      have l_a3 := l_a2.bel kb3
      have l_m3 := h3.bel kb3
      have t_T3 := Lib.hid (t_T2.out.bel kb3)
      have bel3 := bel2.trans (kb3.mono bel2.size)
      have c_a0_3 := b_a3.c0
      have c_a1_3 := b_a3.c1
      clear kb3 b_a2 c_a0_2 c_a1_2 l_a2 h3 t_T2 bel2
      have hcell := t_T3.out 0 (by omega)
      rw [show farthestT.getD 0 0 = 9223372036854775808 from rfl] at hcell
      go_wp2
      go_ret2
      exact ⟨rfl, bel3⟩
theorem wsmall_any (w : World) (sa : Bool) (Aa : Option Addr) (na ca : Nat) (xa : List Nat) (La : Lm w Aa na ca xa) (hT : FarthestT w) :
    Calls Tryd.prog 65 #[.agg #[.bool sa, .slice Aa na ca]] w fun e w' => e = .returned (.tuple #[.int .i64 (if fits (sgn sa (val xa)) = true then sgn sa (val xa) else 0), .bool (fits (sgn sa (val xa)))]) ∧ Below w.heap.size w w' := by
  by_cases hbig : 18446744073709551616 ≤ val xa
  · have hf : fits (sgn sa (val xa)) = false := by rw [Bool.eq_false_iff]; intro h; rw [fits_iff] at h; have := sgn_natAbs sa (val xa); omega
    rw [hf]
    exact wsmall_big w sa Aa na ca xa La hbig
  by_cases h0 : val xa = 0
  · have hf : fits (sgn sa (val xa)) = true := by rw [fits_iff, h0, sgn_zero]; decide
    rw [hf, if_pos rfl]
    exact wsmall_zero w sa Aa na ca xa La hT h0
  cases sa
  · by_cases hle : val xa ≤ 9223372036854775807
    · have hf : fits (sgn false (val xa)) = true := by rw [fits_iff, sgn_false]; omega
      rw [hf, if_pos rfl]
      exact wsmall_posok w false Aa na ca xa La hT ⟨rfl, by omega, hle⟩
    · have hf : fits (sgn false (val xa)) = false := by rw [Bool.eq_false_iff]; intro h; rw [fits_iff, sgn_false] at h; omega
      rw [hf]
      exact wsmall_posno w false Aa na ca xa La hT ⟨rfl, by omega, by omega⟩
  · by_cases hle : val xa ≤ 9223372036854775808
    · have hf : fits (sgn true (val xa)) = true := by rw [fits_iff, sgn_true]; omega
      rw [hf, if_pos rfl]
      exact wsmall_negok w true Aa na ca xa La hT ⟨rfl, by omega, hle⟩
    · have hf : fits (sgn true (val xa)) = false := by rw [Bool.eq_false_iff]; intro h; rw [fits_iff, sgn_true] at h; omega
      rw [hf]
      exact wsmall_negno w true Aa na ca xa La hT ⟨rfl, by omega, by omega⟩
end Go.Proofs.YtopkndkicdgafaaDoor
