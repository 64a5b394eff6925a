/- Contracts: divLong, Div. -/
import Derived.Test.YtopkndkicdgafaaDoorGuess
import Derived.Test.YtopkndkicdgafaaDoorDivB
namespace Go.Proofs.YtopkndkicdgafaaDoor
open Go.RowKit

def UpOk (w w' : World) (m X n : Nat) (L : List Nat) : Prop := Own w' w.heap.size L ∧ L.length = m + 1 ∧ Ok L ∧ val L = X * 2 ^ n ∧ Below w.heap.size w w'
theorem up_ok (w : World) (A : Option Addr) (m c : Nat) (xs : List Nat) (n : Nat) (h : Lm w A m c xs) (hm : m ≤ 100000000000) (hn : n < 32) :
    Calls Tryd.prog 84 #[.slice A m c, .int .i64 n] w fun e w' => ∃ L, e = .returned (.slice (some ⟨w.heap.size, 0, none⟩) (m + 1) (m + 1)) ∧ UpOk w w' m (val xs) n L :=
  (up_any w A m c xs n h hm (by omega)).mono fun e w' ⟨L, he, h1, h2, h3, h4, h5⟩ => by
    have e0 : n / 32 = 0 := by omega
    rw [e0] at he h2
    exact ⟨L, he, h1, h2, h3, h4, h5⟩

/-- what the shift makes of the divisor. -/
theorem sh_facts {Y n n1 sh : Nat} (h1 : nb Y = 32 * n1 + nb (dig (lim Y) n1)) (h2 : sh = 32 - nb (dig (lim Y) n1)) (h3 : nb (dig (lim Y) n1) ≤ 32) (h4 : nb (dig (lim Y) n1) ≠ 0) (h5 : n1 + 1 = n) (_h6 : ln Y = n) (h7 : dig (lim Y) n1 ≠ 0) :
    2 * 2 ^ sh ≤ Bs ∧ Bs ^ n ≤ 2 * (Y * 2 ^ sh) ∧ Y * 2 ^ sh < Bs ^ n := by
  have hY : Y ≠ 0 := by rintro rfl; rw [lim_zero, dig_nil] at h7; exact h7 rfl
  have e : nb Y + sh = 32 * n := by omega
  refine ⟨?_, ?_, ?_⟩
  · rw [Bs_pow, ← Nat.pow_succ']
    exact Nat.pow_le_pow_right (by omega) (by omega)
  · have := pow_nb_le hY
    have h8 : 2 ^ (nb Y - 1) * 2 ^ sh ≤ Y * 2 ^ sh := Nat.mul_le_mul this (Nat.le_refl _)
    rw [← Nat.pow_add] at h8
    rw [Bs_pow_eq, ← e, show nb Y + sh = (nb Y - 1 + sh) + 1 from by omega, Nat.pow_succ']
    exact Nat.mul_le_mul (Nat.le_refl _) h8
  · rw [Bs_pow_eq, ← e, Nat.pow_add]
    exact Nat.mul_lt_mul_of_pos_right (lt_pow_nb Y) (Nat.two_pow_pos _)
/-- a number whose topmost bit is set has a topmost digit of no less than half. -/
theorem top_half {ys : List Nat} {n : Nat} (h : Bs ^ n ≤ 2 * val ys) (hy : Ok ys) (hl : ys.length = n) (hn : 0 < n) : Bs ≤ 2 * dig ys (n - 1) := by
  obtain ⟨k, rfl⟩ : ∃ k, n = k + 1 := ⟨n - 1, by omega⟩
  rw [Nat.add_sub_cancel]
  have e : val ys = vt (dig ys) k + Bs ^ k * dig ys k := by unfold val; rw [hl]; rfl
  have h1 : vt (dig ys) k < Bs ^ k := vt_lt _ fun i _ => hy i
  apply Nat.le_of_not_lt
  intro c
  have h2 : Bs ^ k * (2 * dig ys k + 2) ≤ Bs ^ k * (Bs + 1) := Nat.mul_le_mul (Nat.le_refl _) (by rw [Bs_eq] at *; omega)
  have h3 : Bs ^ k * (2 * dig ys k + 2) ≤ Bs ^ k * Bs := Nat.mul_le_mul (Nat.le_refl _) (by rw [Bs_eq] at *; omega)
  rw [Nat.pow_succ, e] at h
  rw [Nat.mul_add, Nat.mul_left_comm] at h3
  omega

theorem Own.far_ {w : World} {g g' : Nat} {L : List Nat} (h : Own w g L) (hg : g ≠ g') (i : Nat) (u : Value) : Own (w.setCell ⟨g', i, none⟩ u) g L := h.far (p := ⟨g', i, none⟩) hg u
theorem Lm.far_ {w : World} {g g' : Nat} {n c : Nat} {xs : List Nat} (h : Lm w (some ⟨g, 0, none⟩) n c xs) (hg : g ≠ g') (i : Nat) (u : Value) : Lm (w.setCell ⟨g', i, none⟩ u) (some ⟨g, 0, none⟩) n c xs :=
  h.far (p := ⟨g', i, none⟩) (fun b o e _ => by injection e with e; injection e with e1; rw [← e1]; exact hg) u
theorem below_set {B : Nat} {a w : World} (h : Below B a w) {g' : Nat} (hg : B ≤ g') (i : Nat) (u : Value) : Below B a (w.setCell ⟨g', i, none⟩ u) := h.setCell (p := ⟨g', i, none⟩) hg u
theorem one_le_of_taken {A0 V n i d : Nat} {left quo ys L' : List Nat} (h : DivInv A0 V n (i + 1) left quo) (hV : val ys = V) (hl : ys.length = n) (hT : Taken left i d ys n 1 L') (hg : part left i n / V ≤ d) (hg2 : d ≤ part left i n / V + 1) : 1 ≤ d := by
  obtain ⟨h1, h2, h3, h4, h5⟩ := hT
  rw [val_eq_vt (Nat.le_of_eq hl), hV] at h5
  have hN : V ≤ Bs ^ (n + 1) := Nat.le_trans (Nat.le_of_lt h.small) (Nat.pow_le_pow_right Bs_pos (Nat.le_succ n))
  have h6 := (taken_one (Nat.lt_of_le_of_lt (Nat.zero_le _) h.rest) hN h5 (vt_lt _ fun t _ => h2 _) hg2 hg).1
  rw [h6]; exact Nat.le_add_left _ _

set_option maxHeartbeats 4000000 in
theorem divLong_any (w : World) (A : Option Addr) (m c X : Nat) (A' : Option Addr) (n c' Y : Nat) (h : Lm w A m c (lim X)) (h' : Lm w A' n c' (lim Y)) (hm : m ≤ 10000000000) (hn : 2 ≤ n) (hYX : Y ≤ X) :
    Calls Tryd.prog 78 #[.slice A m c, .slice A' n c'] w fun e w' => ∃ B q d B' q' d', e = .returned (.tuple #[.slice B q d, .slice B' q' d']) ∧ Lm w' B q d (lim (X / Y)) ∧ Lm w' B' q' d' (lim (X % Y)) ∧ q ≤ m ∧ q' ≤ n ∧ Below w.heap.size w w' := by
  have hlX : ln X = m := h.len
  have hlY : ln Y = n := h'.len
  have hnm : n ≤ m := by rw [← hlX, ← hlY]; exact ln_mono hYX
  obtain ⟨n1, hn1⟩ : ∃ n1, n1 + 1 = n := ⟨n - 1, by omega⟩
  have htop := nb_top hlY (by omega)
  rw [show n - 1 = n1 from by omega] at htop
  have hnb := nb_le_of_lt (n := dig (lim Y) n1) (k := 32) (by rw [← Bs_pow]; exact ok_lim Y _)
  have hnb0 : nb (dig (lim Y) n1) ≠ 0 := fun e => htop.2 (nb_zero_iff.1 e)
  obtain ⟨sh, hsh⟩ : ∃ sh, sh = 32 - nb (dig (lim Y) n1) := ⟨_, rfl⟩
  have hsh2 : sh < 32 := by omega
  obtain ⟨b, o, hA', hb, hc0⟩ := h'.at_ (k := n1) (by omega)
  have hv := hc0 n1 (by omega)
  have e1 : (n : Int) - 1 = (n1 : Int) := by omega
  have hlz := Lib.hid (fun W => lz32_any W (dig (lim Y) n1) (ok_lim Y n1))
  rw [← hsh] at hlz
  have HT := Lib.hid (And.intro htop (And.intro hsh (And.intro hnb hnb0)))
  have HL := Lib.hid (And.intro hlX (And.intro hlY hn1))
  have hn1' : n1 < n := by omega
  subst hA'
  clear hc0 htop hsh hnb hnb0 hlX hlY hn1
  go_enter Tryd.func78, Tryd.ntmps78
  go_wp2_with fail
  refine (hlz.out _).mono ?_
  rintro e w' ⟨rfl, rfl⟩
  clear e1 hv hn1'
  go_wp2
  have hup1 := Lib.hid (fun W (hW : Lm W A m c (lim X)) => up_ok W A m c (lim X) sh hW (by omega) hsh2)
  have hup2 := Lib.hid (fun W (hW : Lm W (some ⟨b, o, none⟩) n c' (lim Y)) => up_ok W _ n c' (lim Y) sh hW (by omega) hsh2)
  go_region_with (first
    | (go_at_call_of 84 (Value.slice A m c); refine (hup1.out _ ?_).mono ?_; exact h.drew; rintro e w2 ⟨L1, rfl, hU1⟩)
    | (go_at_call_of 84 (Value.slice (some ⟨b, o, none⟩) n c'); refine (hup2.out _ ?_).mono ?_; exact (h'.drew).bel hU1.2.2.2.2; rintro e w3 ⟨L2, rfl, hU2⟩))
  have hs := sh_facts HT.out.1.1 HT.out.2.1 HT.out.2.2.1 HT.out.2.2.2 HL.out.2.2 HL.out.2.1 HT.out.1.2
  obtain ⟨mn, hmn, hmn2⟩ : ∃ mn, mn + n = m ∧ (m : Int) - (n : Int) = (mn : Int) := ⟨m - n, by omega, by omega⟩
  obtain ⟨g2, hg2⟩ : ∃ g2, g2 = w2.heap.size := ⟨_, rfl⟩
  have f1 : Own w3 w.heap.size L1 := hU1.1.below hU2.2.2.2.2 hU1.1.lt
  have f2 : Lm w3 (some ⟨w2.heap.size, 0, none⟩) n (n + 1) (L2.take n) := by
    have hl := hU2.1.lm hU2.2.2.1 (by rw [hU2.2.1]; omega)
    rw [hU2.2.1] at hl
    exact hl.take (Nat.le_succ n)
  have f3 : val (L2.take n) = Y * 2 ^ sh := by
    rw [← vt_take, vt_mod hU2.2.2.1, hU2.2.2.2.1, val_lim, Nat.mod_eq_of_lt hs.2.2]
  have f4 : DivInv (X * 2 ^ sh) (Y * 2 ^ sh) n (m - n + 1) L1 (List.replicate (mn + 1) 0) :=
    DivInv.start (la := m) (by rw [← HL.out.1]; exact lt_pow_ln X) hnm hs.1 hs.2.1 hs.2.2 hU1.2.2.1 (by rw [hU1.2.2.2.1, val_lim]) _
  have f5 : Below w.heap.size w w3 := by
    have hb1 : Below w.heap.size w w2 := (below_drewN (Below.refl _ w) 1).trans hU1.2.2.2.2
    exact hb1.trans (hU2.2.2.2.2.mono hb1.size)
  have f6 : w.heap.size < w2.heap.size := hU1.1.lt
  have f7 : w2.heap.size < w3.heap.size := hU2.1.lt
  have f8 : Bs ≤ 2 * dig (L2.take n) (n - 1) := top_half (by rw [f3]; exact hs.2.1) f2.ok f2.len (by omega)
  have F := Lib.hid (And.intro f1 (And.intro f2 (And.intro f3 (And.intro f4 (And.intro f5 f8)))))
  have HLL := Lib.hid hU1.2.1
  have HM := Lib.hid hmn
  have hmn3 : mn ≤ 10000000000 := by omega
  clear f1 f2 f3 f4 f5 f8 hmn hs hup1 hup2 hlz HT
  go_wp2_with
    (at_make
     refine wpList_make_u32 _ rfl _ _ rfl .i64 .i64 _ _ (mn + 1) rfl rfl ?_ ?_ ?_ ?_
     · omega
     · omega
     · omega
     intro w4 hown hb1 hs1)
  have hsz : w4.heap.size = w3.heap.size + 1 := hs1
  obtain ⟨m2, hm2⟩ : ∃ m2, m2 + 2 = n := ⟨n - 2, by omega⟩
  have HM2 := Lib.hid hm2
  have HO4 := Lib.hid (And.intro hown (And.intro hb1 hsz))
  clear hown hb1 hs1 hsz hm2
  generalize hLb : L2.take n = Lb at *
  clear hLb hU1 hU2 h h'
  go_loopw [11] (fun ix wr => ∃ (t : Int) (j : Nat) (Ll Lq : List Nat), t + 1 = j ∧ j ≤ mn + 1 ∧ ix = .int .i64 t ∧ Ll.length = m + 1 ∧ Lq.length = mn + 1 ∧ Own wr w.heap.size Ll ∧ Own wr w3.heap.size Lq ∧ Lm wr (some ⟨w2.heap.size, 0, none⟩) n (n + 1) Lb ∧ DivInv (X * 2 ^ sh) (Y * 2 ^ sh) n j Ll Lq ∧ Below w.heap.size w wr) (fun ix _ => (intOf ix + 1).toNat)
  case atStart =>
    refine ⟨mn, mn + 1, L1, _, by omega, Nat.le_refl _, rfl, HLL.out, by simp, F.out.1.bel HO4.out.2.1, HO4.out.1, F.out.2.1.bel HO4.out.2.1, ?_, F.out.2.2.2.2.1.trans (HO4.out.2.1.mono F.out.2.2.2.2.1.size)⟩
    have := F.out.2.2.2.1
    rw [show m - n + 1 = mn + 1 from by have := HM.out; omega] at this
    exact this
  case round =>
    obtain ⟨t, j, Ll, Lq, htj, hj, rfl, hl1, hl2, o1, o3, o2, hI, hB⟩ := hrel
    have L1' := Lib.hid hl1
    have L2' := Lib.hid hl2
    clear hl1 hl2 HO4
    by_cases hlt : 0 ≤ t
    · obtain ⟨i, rfl⟩ := Int.eq_ofNat_of_zero_le hlt
      obtain rfl : j = i + 1 := by omega
      clear htj hlt
      have him : i + n ≤ m := by have := HM.out; omega
      obtain ⟨b', o', e', hb', hc0⟩ := o2.at_ (k := 0) (by omega)
      injection e' with e'
      injection e' with eb eo
      subst eb eo
      have hm2 := HM2.out
      have hK := hI.kn_at (m := m2) (n1 := n1) (by have := HL.out.2.2; omega) HM2.out o2.ok o2.len F.out.2.2.1 F.out.2.2.2.2.2
      have hgs := Lib.hid (guess_any wr w.heap.size i n n1 m2 (m + 1 - i) (n + 1) w2.heap.size 0 _ _ _ _ _ _ _ _ _ _ HL.out.2.2 HM2.out (by omega) (o1.cell (by rw [L1'.out]; omega)) (o1.cell (by rw [L1'.out]; have := HL.out.2.2; omega)) (o1.cell (by rw [L1'.out]; omega)) (hc0 n1 (by have := HL.out.2.2; omega)) (hc0 m2 (by omega)) (hI.okl _) (o2.ok _) hK)
      clear hc0 hK hm2
      have es : i + n + 1 - i = n + 1 := by omega
      go_wp2_with fail
      refine hgs.out.mono ?_
      rintro e w5 ⟨d, rfl, hg, nq, rfl⟩
      clear hgs
      have hdB : d < Bs := hg.2.2
      have htk := Lib.hid (takeTimes_any (wr.drewN nq) w.heap.size i n (m + 1 - i) Ll (some ⟨w2.heap.size, 0, none⟩) (n + 1) Lb d o1 hI.okl (by rw [L1'.out]; omega) (by omega) (o2.drewN nq) (fun _ b o e => by injection e with e; injection e with e1; omega) hdB)
      have hqi : i < mn + 1 := by omega
      go_wp2_with fail
      refine htk.out.mono ?_
      rintro e w6 ⟨bo, Lt, rfl, hT, ot, hoth⟩
      clear htk
      have hgo := Lib.hid hg
      clear hg
      have qo : Own w6 w3.heap.size Lq := (show Own (wr.drewN nq) w3.heap.size Lq from o3).oth hoth (by omega)
      have bo2 : Lm w6 (some ⟨w2.heap.size, 0, none⟩) n (n + 1) Lb := (o2.drewN nq).oth hoth (fun _ b o e => by injection e with e; injection e with e1; omega)
      have hB6 : Below w.heap.size w w6 := (below_drewN hB nq).trans (hoth.below (Nat.le_refl _))
      rcases (by have := hT.2.2.1; omega : bo = 0 ∨ bo = 1) with rfl | rfl
      · have hn2 := Lib.hid (hI.right F.out.2.2.1 o2.len hT hgo.out.1 hqi L2'.out)
        have hc := qo.cell (i := i) (by rw [L2'.out]; omega)
        have hf := qo.free i
        clear hT
        go_wp2
        go_roundw
        case rel => exact ⟨(i : Int) - 1, i, Lt, _, by omega, by omega, rfl, by rw [hn2.out.2]; exact L1'.out, by simpa using L2'.out, ot.far_ (by omega) _ _, qo.set_ _ _, bo2.far_ (by omega) _ _, hn2.out.1, below_set hB6 (by omega) _ _⟩
        case measure => simp [intOf]
      · have hpb := Lib.hid (putBack_any w6 w.heap.size i n (m + 1 - i) Lt (some ⟨w2.heap.size, 0, none⟩) (n + 1) Lb ot hT.2.1 (by rw [hT.1, L1'.out]; omega) (by omega) bo2 (fun _ b o e => by injection e with e; injection e with e1; omega))
        have hTT := Lib.hid hT
        have hd1 : 1 ≤ d := one_le_of_taken hI F.out.2.2.1 o2.len hT hgo.out.1 hgo.out.2.1
        obtain ⟨d', hd', eD⟩ : ∃ d', d' = d - 1 ∧ (d : Int) - 1 = (d' : Int) := ⟨d - 1, rfl, by omega⟩
        have HD := Lib.hid hd'
        rw [Bs_eq] at hdB
        clear hT hd'
        go_wp2_with fail
        refine hpb.out.mono ?_
        rintro e w7 ⟨L7, rfl, hbk, ob, hot2⟩
        clear hpb
        have hn2 := Lib.hid (hI.wrong F.out.2.2.1 o2.len hTT.out hbk hgo.out.1 hgo.out.2.1 hqi L2'.out)
        have qo7 : Own w7 w3.heap.size Lq := qo.oth hot2 (by omega)
        have bo7 : Lm w7 (some ⟨w2.heap.size, 0, none⟩) n (n + 1) Lb := bo2.oth hot2 (fun _ b o e => by injection e with e; injection e with e1; omega)
        have hB7 : Below w.heap.size w w7 := hB6.trans (hot2.below (Nat.le_refl _))
        have hc := qo7.cell (i := i) (by rw [L2'.out]; omega)
        have hf := qo7.free i
        clear hbk
        go_wp2
        go_roundw
        case rel => exact ⟨(i : Int) - 1, i, L7, _, by omega, by omega, rfl, by rw [hn2.out.2.1]; exact L1'.out, by simpa using L2'.out, ob.far_ (by omega) _ _, qo7.set_ _ _, bo7.far_ (by omega) _ _, by rw [HD.out]; exact hn2.out.1, below_set hB7 (by omega) _ _⟩
        case measure => simp [intOf]
    · obtain rfl : j = 0 := by omega
      obtain rfl : t = -1 := by omega
      go_wp2
      have hfin := Lib.hid hI.fin
      have hlq := o3.lm hI.okq (by rw [L2'.out]; omega)
      rw [L2'.out] at hlq
      have hll := o1.lm hI.okl (by rw [L1'.out]; omega)
      rw [L1'.out] at hll
      have hll2 := hll.take (m := n) (by omega)
      have hvl : val (Ll.take n) = val Ll := by
        rw [← vt_take, vt_mod hI.okl, Nat.mod_eq_of_lt (Nat.lt_trans hfin.out.2.2 hI.small)]
      have HV := Lib.hid hvl
      clear hvl hll
      have hcq := Lib.hid (fun W (hW : Lm W (some ⟨w3.heap.size, 0, none⟩) (mn + 1) (mn + 1) Lq) => cut_lm W _ _ _ _ hW)
      have hdn := Lib.hid (fun W (hW : Lm W (some ⟨w.heap.size, 0, none⟩) n (m + 1) (Ll.take n)) => down_any W _ n _ _ sh hW (by omega) (by omega))
      go_region_with (first
        | (go_at_call 73; (with_reducible refine (hcq.out _ ?_).mono ?_); exact hlq.drew; rintro e w8 ⟨q1, rfl, hq1, hq2, rfl⟩)
        | (go_at_call 86; refine (hdn.out _ ?_).mono ?_; exact hll2.drew; rintro e w9 ⟨B9, q9, d9, L9, rfl, hl9, hv9, hq9, hb9⟩; have HV9 := Lib.hid hv9; clear hv9)
        | (go_at_call 73; refine (cut_lm _ _ _ _ _ hl9).mono ?_; rintro e w10 ⟨q10, rfl, hq10, hqn10, rfl⟩))
      all_goals go_wp2
      all_goals go_ret2
      all_goals
        refine ⟨_, q1, mn + 1, B9, q10, d9, rfl, ?_, ?_, by omega, by omega, ?_⟩
        · rw [← hfin.out.1]; exact hq1.bel hb9
        · rw [← hfin.out.2.1, ← HV.out, ← HV9.out]; exact hq10
        · exact hB.drew.trans (hb9.mono hB.size)

/-- What Div tells: none of a divisor 0; else the quotient and the rest. -/
def TellsDiv (w : World) (M N len len' : Nat) (e : Ending) (w' : World) : Prop :=
  (N = 0 ∧ e = .returned (.tuple #[.slice none 0 0, .slice none 0 0, .bool false]) ∧ Below w.heap.size w w') ∨
  (N ≠ 0 ∧ ∃ A m c A' m' c', e = .returned (.tuple #[.slice A m c, .slice A' m' c', .bool true]) ∧ Lm w' A m c (lim (M / N)) ∧ Lm w' A' m' c' (lim (M % N)) ∧ m ≤ len ∧ m' ≤ max len len' ∧ Below w.heap.size w w')

set_option maxHeartbeats 2000000 in
theorem div_any (w : World) (A : Option Addr) (n c : Nat) (xs : List Nat) (A' : Option Addr) (n' c' : Nat) (ys : List Nat) (h : Lm w A n c xs) (h' : Lm w A' n' c' ys) (hn : n ≤ 10000000000) :
    Calls Tryd.prog 21 #[.slice A n c, .slice A' n' c'] w (TellsDiv w (val xs) (val ys) n n') := by
  generalize hX : val xs = X
  generalize hY : val ys = Y
  have HX := Lib.hid hX
  have HY := Lib.hid hY
  clear hX hY
  go_enter Tryd.func21, Tryd.ntmps21
  go_wp2_with fail
  refine (cut_lm w A n c xs h).mono ?_
  rintro e w1 ⟨m, rfl, hm, hmn, rfl⟩
  rw [HX.out] at hm
  go_wp2_with fail
  refine (cut_lm w A' n' c' ys h').mono ?_
  rintro e w1 ⟨m', rfl, hm', hmn', rfl⟩
  rw [HY.out] at hm'
  have hbig' := hm'.big
  have Hlen : Hid (ln X = m) := hm.len
  have Hlen' : Hid (ln Y = m') := hm'.len
  by_cases h0 : m' = 0
  · subst h0
    have hy0 : Y = 0 := ln_zero_iff.1 Hlen'.out
    have HY0 := Lib.hid hy0
    clear hy0
    go_wp2
    go_ret3
    exact .inl ⟨HY0.out, rfl, Below.refl _ _⟩
  · have h0' : ((m' : Int) == 0) = false := by rw [beq_eq_false_iff_ne]; omega
    have hY0 : Hid (Y ≠ 0) := (fun e => h0 (by rw [← Hlen'.out, e]; exact ln_zero) : Y ≠ 0)
    have hp : 1 ≤ m' := by omega
    clear h0
    go_wp2_with fail
    refine (cmp_any w A m c _ A' m' c' _ hm hm').mono ?_
    rw [val_lim, val_lim]
    rintro e w0 ⟨rfl, nq, hw0⟩
    have hb0 : Below w.heap.size w w0 := by rw [hw0]; exact below_drewN (Below.refl _ _) nq
    have hm0 : Lm w0 A m c (lim X) := by rw [hw0]; exact hm.drewN nq
    have hm0' : Lm w0 A' m' c' (lim Y) := by rw [hw0]; exact hm'.drewN nq
    have hsz : w0.heap.size = w.heap.size := by rw [hw0]; rfl
    have HSZ := Lib.hid hsz
    clear hw0 hsz hm hm'
    by_cases hlt : X < Y
    · rw [cmpN_lt hlt]
      have HLT := Lib.hid hlt
      clear hlt
      go_wp2_with fail
      refine (trim_any _ _ _ _ _ hm0).mono ?_
      rw [val_lim]
      rintro e w2 ⟨B, q, d, rfl, hl, hq, hb⟩
      go_wp2
      go_ret3
      exact .inr ⟨hY0.out, none, 0, 0, B, q, d, rfl, by rw [Nat.div_eq_of_lt HLT.out, lim_zero]; exact Lm.nil _, by rw [Nat.mod_eq_of_lt HLT.out]; exact hl, Nat.zero_le _, by omega, hb0.trans (hb.mono (by rw [HSZ.out]; exact Nat.le_refl _))⟩
    · have hge : 0 ≤ cmpN X Y := by have := cmpN_neg_iff X Y; omega
      generalize cmpN X Y = q at *
      have HLT : Hid (Y ≤ X) := (by omega : Y ≤ X)
      clear hlt
      by_cases h1 : m' = 1
      · subst h1
        obtain ⟨b, o, rfl, hb, hc0⟩ := hm0'.at_ (k := 0) (by omega)
        have hx := hc0 0 (by omega)
        rw [Nat.add_zero] at hx
        clear hc0
        have hY1 : Hid (Y = dig (lim Y) 0) := by
          have e := val_lim Y
          have e2 : val (lim Y) = vt (dig (lim Y)) 1 := (val_eq_vt (Nat.le_of_eq Hlen'.out)).symm
          rw [e] at e2
          have e3 : vt (dig (lim Y)) 1 = dig (lim Y) 0 := by simp [vt]
          exact e2.trans e3
        have hdl := Lib.hid (divLimb_any w0 A m c X (dig (lim Y) 0) hm0 (ok_lim Y 0) (fun e => hY0.out (hY1.out.trans e)))
        go_wp2_with fail
        refine hdl.out.mono ?_
        rw [← hY1.out]
        rintro e w2 ⟨B, q1, d, B', q2, d', rfl, hl1, hl2, hq1, hq2, hb2⟩
        clear hdl
        go_wp2
        go_ret3
        exact .inr ⟨hY0.out, B, q1, d, B', q2, d', rfl, hl1, hl2, by omega, by omega, hb0.trans (hb2.mono (by rw [HSZ.out]; exact Nat.le_refl _))⟩
      · have h1' : ((m' : Int) == 1) = false := by rw [beq_eq_false_iff_ne]; omega
        have hdl := Lib.hid (divLong_any w0 A m c X A' m' c' Y hm0 hm0' (by omega) (by omega) HLT.out)
        clear h1
        go_wp2_with fail
        refine hdl.out.mono ?_
        rintro e w2 ⟨B, q1, d, B', q2, d', rfl, hl1, hl2, hq1, hq2, hb2⟩
        clear hdl
        go_wp2
        go_ret3
        exact .inr ⟨hY0.out, B, q1, d, B', q2, d', rfl, hl1, hl2, by omega, by omega, hb0.trans (hb2.mono (by rw [HSZ.out]; exact Nat.le_refl _))⟩
end Go.Proofs.YtopkndkicdgafaaDoor
