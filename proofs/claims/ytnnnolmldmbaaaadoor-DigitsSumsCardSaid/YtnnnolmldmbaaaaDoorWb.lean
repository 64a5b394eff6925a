/- Contracts of package whole: Cmp. -/
import Derived.Test.YtnnnolmldmbaaaaDoorWE
import Derived.Deep.RegionHeld3
import Derived.Test.YtnnnolmldmbaaaaDoorDv
namespace Go.Proofs.YtnnnolmldmbaaaaDoor
open Go.RowKit

theorem compare_z (w : World) (x y : Int) {ρ : Int} (hρ : sg (x - y) = ρ) : Calls Tryd.prog 86 #[.int .i64 x, .int .i64 y] w fun e w' => e = .returned (.int .i64 ρ) ∧ w = w' := by
  subst hρ
  rcases Int.lt_trichotomy x y with h | h | h
  · rw [sg_neg (by omega)]
    go_enter Tryd.func86, Tryd.ntmps86
    go_wp2
    go_ret
    exact ⟨rfl, rfl⟩
  · subst h
    rw [sg_zero (by omega)]
    go_enter Tryd.func86, Tryd.ntmps86
    go_wp2
    go_ret
    exact ⟨rfl, rfl⟩
  · rw [sg_pos (by omega)]
    go_enter Tryd.func86, Tryd.ntmps86
    go_wp2
    go_ret
    exact ⟨rfl, rfl⟩
theorem ncmp_bel (w : World) (A : Option Addr) (n c : Nat) (xs : List Nat) (A' : Option Addr) (n' c' : Nat) (ys : List Nat) (h : Lm w A n c xs) (h' : Lm w A' n' c' ys) {q : Int} (hq : cmpN (val xs) (val ys) = q) :
    Calls Tryd.prog 75 #[.slice A n c, .slice A' n' c'] w fun e w' => e = .returned (.int .i64 q) ∧ Below w.heap.size w w' :=
  (cmp_any w A n c xs A' n' c' ys h h').mono fun _ _ ⟨he, hw⟩ => ⟨by rw [← hq]; exact he, by obtain ⟨nq, rfl⟩ := hw; exact below_drewN (Below.refl _ _) nq⟩
theorem sg_ne {X Y σ τ : Int} (h : sg X = σ) (h' : sg Y = τ) (hne : σ ≠ τ) : sg (σ - τ) = sg (X - Y) := by
  subst h; subst h'
  rcases sg_cases X with ⟨h, e⟩ | ⟨h, e⟩ | ⟨h, e⟩ <;> rcases sg_cases Y with ⟨h', e'⟩ | ⟨h', e'⟩ | ⟨h', e'⟩ <;> rw [e, e'] at hne ⊢ <;> first | exact absurd rfl hne | (rw [sg_neg (X := X - Y) (by omega)]; rfl) | (rw [sg_pos (X := X - Y) (by omega)]; rfl)
theorem sg_eq {X Y σ : Int} {a b : Nat} (h : sg X = σ) (h' : sg Y = σ) (ha : X.natAbs = a) (hb : Y.natAbs = b) : σ * cmpN a b = sg (X - Y) ∧ (-1 ≤ σ * cmpN a b ∧ σ * cmpN a b ≤ 1) := by
  have h3 : σ * cmpN a b = sg (X - Y) := by
    subst h
    rcases sg_cases X with ⟨h, e⟩ | ⟨h, e⟩ | ⟨h, e⟩ <;> rcases sg_cases Y with ⟨h4, e'⟩ | ⟨h4, e'⟩ | ⟨h4, e'⟩ <;> rw [e] at h' ⊢ <;> rw [e'] at h' <;> (try omega)
    all_goals
      unfold cmpN sg
      split <;> (try split) <;> (try split) <;> (try split) <;> omega
  exact ⟨h3, by rw [h3]; exact sg_range _⟩
end Go.Proofs.YtnnnolmldmbaaaaDoor
/- Contracts of package whole: Shr. -/
namespace Go.Proofs.YtnnnolmldmbaaaaDoor
open Go.RowKit

theorem pow_dvd_tz {V k : Nat} (h : V ≠ 0) : 2 ^ k ∣ V ↔ k ≤ tz V := by
  obtain ⟨m, hm⟩ := tz_spec h
  constructor
  · intro hd
    apply Nat.le_of_not_lt
    intro hlt
    have h1 : 2 ^ (tz V + 1) ∣ V := Nat.dvd_trans (Nat.pow_dvd_pow 2 hlt) hd
    rw [hm] at h1
    generalize tz V = t at *
    rw [tz_of, Nat.pow_succ] at h1
    have h2 := Nat.dvd_of_mul_dvd_mul_left (Nat.two_pow_pos t) h1
    omega
  · intro hle
    exact Nat.dvd_trans (Nat.pow_dvd_pow 2 hle) ⟨2 * m + 1, hm⟩
theorem shr_pos {X : Int} {V k : Nat} (hX : X.natAbs = V) (h : ¬ X < 0) : (X / 2 ^ k).natAbs = V / 2 ^ k ∧ ¬ X / 2 ^ k < 0 := by
  obtain rfl : X = (V : Int) := by omega
  have e : (V : Int) / 2 ^ k = ((V / 2 ^ k : Nat) : Int) := by rw [Int.natCast_ediv, Int.natCast_pow]; rfl
  rw [e]
  exact ⟨rfl, Int.not_lt.2 (Int.natCast_nonneg _)⟩
theorem shr_neg {X : Int} {V k : Nat} (hX : X.natAbs = V) (h : X < 0) : (X / 2 ^ k).natAbs = V / 2 ^ k + (if tz V < k then 1 else 0) ∧ X / 2 ^ k < 0 := by
  obtain rfl : X = -(V : Int) := by omega
  have hV : V ≠ 0 := by omega
  have hp : (0 : Int) < 2 ^ k := Int.pow_pos (by decide)
  have e : (V : Int) / 2 ^ k = ((V / 2 ^ k : Nat) : Int) := by rw [Int.natCast_ediv, Int.natCast_pow]; rfl
  have hd : ((2 : Int) ^ k ∣ (V : Int)) ↔ k ≤ tz V := by
    rw [← pow_dvd_tz hV, ← Int.natCast_dvd_natCast, Int.natCast_pow]; rfl
  have hneg : -(V : Int) / 2 ^ k < 0 := Int.ediv_neg_of_neg_of_pos (by omega) hp
  refine ⟨?_, hneg⟩
  rw [Int.neg_ediv, e]
  clear hneg e
  generalize V / 2 ^ k = q
  by_cases ht : tz V < k
  · rw [if_neg (by rw [hd]; omega), Int.sign_eq_one_of_pos hp, if_pos ht]; omega
  · rw [if_pos (by rw [hd]; omega), if_neg ht]; omega
end Go.Proofs.YtnnnolmldmbaaaaDoor
/- Contracts of package whole: Of. -/
namespace Go.Proofs.YtnnnolmldmbaaaaDoor
open Go.RowKit

set_option maxHeartbeats 1000000 in
theorem wof_p (w : World) (N : Nat) (hN : N < 9223372036854775808) : Calls Tryd.prog 18 #[.int .i64 ((N : Int))] w (TellsI w ((N : Int)) 2) := by
  have hlt : ¬ (N : Int) < 0 := by omega
  obtain ⟨lo, hlo, e1⟩ : ∃ lo, lo = N % 4294967296 ∧ (N : Int) % 4294967296 = (lo : Int) := ⟨_, rfl, by omega⟩
  obtain ⟨hi', hhi, e2⟩ : ∃ h, h = N / 4294967296 ∧ (N : Int) / 4294967296 = (h : Int) := ⟨_, rfl, by omega⟩
  have hhb : hi' < 4294967296 := by omega
  have hlb : lo < 4294967296 := by omega
  have e3 : (hi' : Int) % 4294967296 = (hi' : Int) := by omega
  have hv : val [lo, hi'] = N := by rw [val_cons, val_single, Bs_eq]; omega
  have hz : sgn false (val [lo, hi']) = (N : Int) := by rw [hv]; rfl
  obtain ⟨Z, hZ⟩ : ∃ Z, (N : Int) = Z := ⟨_, rfl⟩
  have hzz : sgn false (val [lo, hi']) = Z := hz.trans hZ
  have HH := Lib.hid (And.intro hzz (And.intro hlb hhb))
  have HZ := Lib.hid hZ
  clear hv hz hzz hlo hhi hZ
  go_enter Tryd.func18, Tryd.ntmps18
  go_wp2_with fail
  obtain ⟨r0, hr0⟩ : ∃ g, g = w.heap.size := ⟨_, rfl⟩
  obtain ⟨w1, hw1⟩ : ∃ v, v = w.alloc (.cells #[.bool false, .slice none 0 0] 24) := ⟨_, rfl⟩
  obtain ⟨w2, hw2⟩ : ∃ v, v = w1.alloc (.cells #[.int .u32 (lo : Nat), .int .u32 (hi' : Nat)] 54) := ⟨_, rfl⟩
  have hsz : w1.heap.size = w.heap.size + 1 := by rw [hw1, size_alloc]
  have bel2 : Below w.heap.size w w2 := by rw [hw2, hw1]; exact bel_alloc2 _ _ _
  have t_r02 : Two w2 r0 := by rw [hw2, hw1, hr0]; exact ((Box.new _ _ _ _ _).alloc _).two
  have l2 : Lm w2 (some ⟨w.heap.size + 1, 0, none⟩) 2 2 [lo, hi'] := by
    rw [hw2, ← hsz]; exact (Own.list w1 [lo, hi']).lm (Ok.of_mem (fun x hx => by have := HH.out.2; rw [Bs_eq]; simp at hx; omega)) (by simp)
  have hle : w.heap.size ≤ r0 := by omega
  rw [← hr0] at l2
  rw [← hw1, ← hw2, ← hr0]
  have HG := Lib.hid hle
  clear hw1 hw2 hsz hle
  have HR := Lib.hid hr0
  clear hr0
  have f_r02 := t_r02.room.2
  have cc := Lib.hid (wnorm_any w2 false _ 2 2 _ l2)
  refine cc.out.mono ?_
  clear cc
  rw [HH.out.1]
  rintro e v3 ⟨A4, m4, c4, rfl, h4, hm4, kb3⟩
  have t_r03 := t_r02.bel kb3
  have l_l3 := l2.bel kb3
  have bel3 := bel2.trans (kb3.mono bel2.size)
  have f_r03 := t_r03.room.2
  clear kb3 t_r02 f_r02 l2 bel2
  go_wp2
  have hx := t_r03.put (decide (Z < 0)) A4 m4 c4
  have hl := h4.put t_r03 (.bool (decide (Z < 0))) (.slice A4 m4 c4)
  have hbl := bel_put bel3 (g := r0) HG.out (.bool (decide (Z < 0))) (.slice A4 m4 c4)
  generalize (v3.setCell ⟨r0, 0, none⟩ (.bool (decide (Z < 0)))).setCell ⟨r0, 1, none⟩ (.slice A4 m4 c4) = wz at *
  refine bodyPost_ret (v := .agg #[.bool (decide (Z < 0)), .slice A4 m4 c4]) (by simp [results, Tryd.results18, go_sem, hx.c0, hx.c1]) rfl ?_
  rw [HZ.out]
  exact ⟨_, _, _, rfl, hl, hm4, hbl⟩
set_option maxHeartbeats 1000000 in
theorem wof_n (w : World) (N : Nat) (hN : 0 < N ∧ N ≤ 9223372036854775808) : Calls Tryd.prog 18 #[.int .i64 (-(N : Int))] w (TellsI w (-(N : Int)) 2) := by
  have hlt : -(N : Int) < 0 := by omega
  have eu : IntKind.u64.wrap (-IntKind.u64.wrap (-(N : Int))) = (N : Int) := by rw [IntKind.wrap_u64, IntKind.wrap_u64]; omega
  obtain ⟨lo, hlo, e1⟩ : ∃ lo, lo = N % 4294967296 ∧ (N : Int) % 4294967296 = (lo : Int) := ⟨_, rfl, by omega⟩
  obtain ⟨hi', hhi, e2⟩ : ∃ h, h = N / 4294967296 ∧ (N : Int) / 4294967296 = (h : Int) := ⟨_, rfl, by omega⟩
  have hhb : hi' < 4294967296 := by omega
  have hlb : lo < 4294967296 := by omega
  have e3 : (hi' : Int) % 4294967296 = (hi' : Int) := by omega
  have hv : val [lo, hi'] = N := by rw [val_cons, val_single, Bs_eq]; omega
  have hz : sgn true (val [lo, hi']) = -(N : Int) := by rw [hv]; rfl
  obtain ⟨Z, hZ⟩ : ∃ Z, -(N : Int) = Z := ⟨_, rfl⟩
  have hzz : sgn true (val [lo, hi']) = Z := hz.trans hZ
  have HH := Lib.hid (And.intro hzz (And.intro hlb hhb))
  have HZ := Lib.hid hZ
  clear hv hz hzz hlo hhi hZ
  go_enter Tryd.func18, Tryd.ntmps18
  go_wp2_with fail
  obtain ⟨r0, hr0⟩ : ∃ g, g = w.heap.size := ⟨_, rfl⟩
  obtain ⟨w1, hw1⟩ : ∃ v, v = w.alloc (.cells #[.bool false, .slice none 0 0] 24) := ⟨_, rfl⟩
  obtain ⟨w2, hw2⟩ : ∃ v, v = w1.alloc (.cells #[.int .u32 (lo : Nat), .int .u32 (hi' : Nat)] 54) := ⟨_, rfl⟩
  have hsz : w1.heap.size = w.heap.size + 1 := by rw [hw1, size_alloc]
  have bel2 : Below w.heap.size w w2 := by rw [hw2, hw1]; exact bel_alloc2 _ _ _
  have t_r02 : Two w2 r0 := by rw [hw2, hw1, hr0]; exact ((Box.new _ _ _ _ _).alloc _).two
  have l2 : Lm w2 (some ⟨w.heap.size + 1, 0, none⟩) 2 2 [lo, hi'] := by
    rw [hw2, ← hsz]; exact (Own.list w1 [lo, hi']).lm (Ok.of_mem (fun x hx => by have := HH.out.2; rw [Bs_eq]; simp at hx; omega)) (by simp)
  have hle : w.heap.size ≤ r0 := by omega
  rw [← hr0] at l2
  rw [← hw1, ← hw2, ← hr0]
  have HG := Lib.hid hle
  clear hw1 hw2 hsz hle
  have HR := Lib.hid hr0
  clear hr0
  have f_r02 := t_r02.room.2
  have cc := Lib.hid (wnorm_any w2 true _ 2 2 _ l2)
  refine cc.out.mono ?_
  clear cc
  rw [HH.out.1]
  rintro e v3 ⟨A4, m4, c4, rfl, h4, hm4, kb3⟩
  have t_r03 := t_r02.bel kb3
  have l_l3 := l2.bel kb3
  have bel3 := bel2.trans (kb3.mono bel2.size)
  have f_r03 := t_r03.room.2
  clear kb3 t_r02 f_r02 l2 bel2
  go_wp2
  have hx := t_r03.put (decide (Z < 0)) A4 m4 c4
  have hl := h4.put t_r03 (.bool (decide (Z < 0))) (.slice A4 m4 c4)
  have hbl := bel_put bel3 (g := r0) HG.out (.bool (decide (Z < 0))) (.slice A4 m4 c4)
  generalize (v3.setCell ⟨r0, 0, none⟩ (.bool (decide (Z < 0)))).setCell ⟨r0, 1, none⟩ (.slice A4 m4 c4) = wz at *
  refine bodyPost_ret (v := .agg #[.bool (decide (Z < 0)), .slice A4 m4 c4]) (by simp [results, Tryd.results18, go_sem, hx.c0, hx.c1]) rfl ?_
  rw [HZ.out]
  exact ⟨_, _, _, rfl, hl, hm4, hbl⟩
theorem wof_any (w : World) (n : Int) (hn : -9223372036854775808 ≤ n ∧ n ≤ 9223372036854775807) : Calls Tryd.prog 18 #[.int .i64 n] w (TellsI w n 2) := by
  by_cases h : n < 0
  · obtain ⟨N, rfl⟩ : ∃ N : Nat, n = -(N : Int) := ⟨n.natAbs, by omega⟩
    exact wof_n w N (by omega)
  · obtain ⟨N, rfl⟩ : ∃ N : Nat, n = (N : Int) := ⟨n.natAbs, by omega⟩
    exact wof_p w N (by omega)
end Go.Proofs.YtnnnolmldmbaaaaDoor
/- Contracts of package whole: Small. -/
namespace Go.Proofs.YtnnnolmldmbaaaaDoor
open Go.RowKit

theorem vt_one (d : Nat → Nat) : vt d 1 = d 0 := by simp [vt]
theorem vt_two (d : Nat → Nat) : vt d 2 = d 1 * Bs + d 0 := by simp [vt]; grind
theorem join64w (hi lo : Nat) (h1 : hi < 4294967296) (h2 : lo < 4294967296) : bits .or .u64 (lo : Int) ((hi : Int) * 4294967296) = ((hi * Bs + lo : Nat) : Int) := by
  have e : ((hi : Int) * 4294967296) = ((hi * 4294967296 : Nat) : Int) := by omega
  rw [e, u64_or_nat _ _ (by omega) (by omega), Nat.or_comm, nat_join 32 (hi * 4294967296) lo (by omega) (by omega)]; rfl
/-- what fits into 64 bits. -/
def fits (Z : Int) : Bool := decide (-9223372036854775808 ≤ Z ∧ Z ≤ 9223372036854775807)
theorem fits_iff (Z : Int) : fits Z = true ↔ (-9223372036854775808 ≤ Z ∧ Z ≤ 9223372036854775807) := by unfold fits; exact decide_eq_true_iff
theorem nb64 {V : Nat} : nb V ≤ 64 ↔ V < 18446744073709551616 := by
  constructor
  · intro h; exact Nat.lt_of_lt_of_le (lt_pow_nb V) (Nat.pow_le_pow_right (n := 2) (by omega) h)
  · intro h; exact nb_le_of_lt (k := 64) h
end Go.Proofs.YtnnnolmldmbaaaaDoor
/- Contracts of package whole: Div. -/
namespace Go.Proofs.YtnnnolmldmbaaaaDoor
open Go.RowKit

/-- the floor of a quotient, and the rest: 0 of a divisor 0. -/
def dq (X Y : Int) : Int := if Y = 0 then 0 else if sg X * sg Y < 0 then (if X.natAbs % Y.natAbs = 0 then -((X.natAbs / Y.natAbs : Nat) : Int) else -((X.natAbs / Y.natAbs + 1 : Nat) : Int)) else ((X.natAbs / Y.natAbs : Nat) : Int)
def dr (X Y : Int) : Int := if Y = 0 then 0 else sg Y * (if sg X * sg Y < 0 ∧ X.natAbs % Y.natAbs ≠ 0 then ((Y.natAbs - X.natAbs % Y.natAbs : Nat) : Int) else ((X.natAbs % Y.natAbs : Nat) : Int))
def TellsD (w : World) (X Y : Int) (len len' : Nat) (t : Bool) (e : Ending) (w' : World) : Prop :=
  ∃ A m c A' m' c', e = .returned (.tuple #[.agg #[.bool (decide (dq X Y < 0)), .slice A m c], .agg #[.bool (decide (dr X Y < 0)), .slice A' m' c'], .bool t]) ∧ Lm w' A m c (lim (dq X Y).natAbs) ∧ Lm w' A' m' c' (lim (dr X Y).natAbs) ∧ m ≤ len ∧ m' ≤ len' ∧ Below w.heap.size w w'
theorem div_no (w : World) (A : Option Addr) (n c : Nat) (xs : List Nat) (A' : Option Addr) (n' c' : Nat) (ys : List Nat) (h : Lm w A n c xs) (h' : Lm w A' n' c' ys) (hn : n ≤ 10000000000) (h0 : val ys = 0) :
    Calls Tryd.prog 53 #[.slice A n c, .slice A' n' c'] w fun e w' => e = .returned (.tuple #[.slice none 0 0, .slice none 0 0, .bool false]) ∧ Below w.heap.size w w' :=
  (div_any w A n c xs A' n' c' ys h h' hn).mono fun _ _ ht => ht.elim (fun h => h.2) fun h => absurd h0 h.1
theorem div_yes (w : World) (A : Option Addr) (n c : Nat) (xs : List Nat) (A' : Option Addr) (n' c' : Nat) (ys : List Nat) (h : Lm w A n c xs) (h' : Lm w A' n' c' ys) (hn : n ≤ 10000000000) (h0 : val ys ≠ 0) :
    Calls Tryd.prog 53 #[.slice A n c, .slice A' n' c'] w fun e w' => ∃ B m d B' m' d', e = .returned (.tuple #[.slice B m d, .slice B' m' d', .bool true]) ∧ Lm w' B m d (lim (val xs / val ys)) ∧ Lm w' B' m' d' (lim (val xs % val ys)) ∧ m ≤ n ∧ m' ≤ max n n' ∧ Below w.heap.size w w' :=
  (div_any w A n c xs A' n' c' ys h h' hn).mono fun _ _ ht => ht.elim (fun h => absurd h.1 h0) fun h => h.2
theorem dq_zero (X : Int) : dq X 0 = 0 := rfl
theorem dr_zero (X : Int) : dr X 0 = 0 := rfl
theorem qs_neg {q : Nat} {Q c : Int} (h : Q = -(q : Int)) (hc : c < 0) : Q.natAbs = q ∧ (Q ≠ 0 → (c < 0 ↔ Q < 0)) := by subst h; exact ⟨Int.natAbs_neg _, fun h => by omega⟩
theorem qs_pos {q : Nat} {Q c : Int} (h : Q = (q : Int)) (hc : 0 < c) : Q.natAbs = q ∧ (Q ≠ 0 → (c < 0 ↔ Q < 0)) := by subst h; exact ⟨rfl, fun h => by omega⟩
theorem qs_zero {q : Nat} {Q c : Int} (h : Q = (q : Int)) (hq : q = 0) : Q.natAbs = q ∧ (Q ≠ 0 → (c < 0 ↔ Q < 0)) := by subst h; exact ⟨rfl, fun h => by omega⟩
theorem rs_any {r : Nat} {R t : Int} (h : R = t * (r : Int)) (ht : t = 1 ∨ t = -1) : R.natAbs = r ∧ (R ≠ 0 → (t < 0 ↔ R < 0)) := by
  subst h
  rcases ht with rfl | rfl
  · exact ⟨by omega, fun h => by omega⟩
  · exact ⟨by omega, fun h => by omega⟩
theorem len_pos {w : World} {A : Option Addr} {m c N : Nat} (h : Lm w A m c (lim N)) (hN : N ≠ 0) : (m : Int) > 0 := by have := (ln_pos_iff h).2 hN; omega
theorem len_none {w : World} {A : Option Addr} {m c N : Nat} (h : Lm w A m c (lim N)) (hN : N = 0) : ¬ (m : Int) > 0 := by have := ln_pos_iff h; omega
end Go.Proofs.YtnnnolmldmbaaaaDoor
