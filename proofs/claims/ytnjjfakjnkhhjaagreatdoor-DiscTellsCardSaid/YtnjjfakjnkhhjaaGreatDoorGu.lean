import Derived.Test.YtnjjfakjnkhhjaaGreatDoorEw0
set_option maxHeartbeats 16000000
set_option maxRecDepth 100000
set_option linter.all false
namespace Go.Proofs.YtnjjfakjnkhhjaaGreatDoor.Ev
open Go Go.RowKit
def okS (n : Nat) (cs : List D) (e : Int) : Prop := okC n cs ∧ n ≤ 600 ∧ -50000 ≤ e ∧ e ≤ 50000
def raw6 {α : Type} (d : α) (g : Bool → Nat → List D → Int → Bool → Nat → List D → Int → α) : D → α
 | .agg [.bool s, .sl n cs, .int _ e, .bool t, .sl m es, .int _ f] => g s n cs e t m es f
 | _ => d
def raw3 {α : Type} (d : α) (g : Bool → Nat → List D → Int → α) : D → α
 | .agg [.bool s, .sl n cs, .int _ e] => g s n cs e
 | _ => d
theorem raw6_is {α : Type} (d : α) (g : Bool → Nat → List D → Int → Bool → Nat → List D → Int → α) (s t : Bool) (n m : Nat) (cs es : List D) (e f : Int) (k l : IntKind) : raw6 d g (.agg [.bool s, .sl n cs, .int k e, .bool t, .sl m es, .int l f]) = g s n cs e t m es f := rfl
theorem raw3_is {α : Type} (d : α) (g : Bool → Nat → List D → Int → α) (s : Bool) (n : Nat) (cs : List D) (e : Int) (k : IntKind) : raw3 d g (.agg [.bool s, .sl n cs, .int k e]) = g s n cs e := rfl
def okT (x : D) : Prop := match x with | .agg [.bool _, .sl n cs, .int .i64 e] => okS n cs e | _ => False
theorem okT_arg {x : D} (h : okT x) : ∃ s n cs e, x = .agg [.bool s, .sl n cs, .int .i64 e] ∧ okC n cs ∧ n ≤ 600 ∧ -50000 ≤ e ∧ e ≤ 50000 := by
 unfold okT at h
 split at h
 ·exact ⟨_, _, _, _, rfl, h⟩
 ·exact h.elim
theorem okT_mk {s : Bool} {n : Nat} {cs : List D} {e : Int} (h1 : okC n cs) (h2 : n ≤ 600) (h3 : -50000 ≤ e) (h4 : e ≤ 50000) : okT (.agg [.bool s, .sl n cs, .int .i64 e]) := ⟨h1, h2, h3, h4⟩
theorem okR_mk {s t : Bool} {n m : Nat} {cs es : List D} {e f : Int} (h1 : okC n cs) (h2 : n ≤ 600) (h3 : -50000 ≤ e) (h4 : e ≤ 50000) (k1 : okC m es) (k2 : m ≤ 600) (k3 : -50000 ≤ f) (k4 : f ≤ 50000) :
  okR (.agg [.bool s, .sl n cs, .int .i64 e, .bool t, .sl m es, .int .i64 f]) := ⟨⟨h1, h2, h3, h4⟩, k1, k2, k3, k4⟩
theorem okR_fR {r : Re} (h : fR r 19200 50000) : okR (.agg [.bool (N0.neg r.1.1), .sl (N0.ln r.1.1) (N0.lm r.1.1), .int .i64 r.1.2, .bool (N0.neg r.2.1), .sl (N0.ln r.2.1) (N0.lm r.2.1), .int .i64 r.2.2]) :=
 okR_mk (okC_fitN h.1.1 (by omega)) (ln_fit h.1.1) h.1.2.1 h.1.2.2 (okC_fitN h.2.1 (by omega)) (ln_fit h.2.1) h.2.2.1 h.2.2.2
theorem fD_raw {s : Bool} {n : Nat} {cs : List D} {e : Int} (h1 : okC n cs) {k B : Nat} (h2 : 32 * n ≤ k) (h3 : -(B : Int) ≤ e) (h4 : e ≤ B) : fD (vI s cs, e) k B := ⟨(okC_fit h1 s).mono h2, h3, h4⟩
def pick2 (pk : ∀ {α : Type}, Dy → Dy → α → α → α) : FnSpec := ⟨.agg [.R, .i .i64], fun ds => match ds with | [x, y] => okT x ∧ okT y | _ => False,
 a2 0 fun x y _ => raw3 0 (fun s n cs e => raw3 0 (fun t m es f => pk (vI s cs, e) (vI t es, f) e f) y) x,
 a2 false fun x y _ => raw3 false (fun s n cs e => raw3 false (fun t m es f => pk (vI s cs, e) (vI t es, f) s t) y) x,
 a2 0 fun x y _ => raw3 0 (fun s n cs e => raw3 0 (fun t m es f => pk (vI s cs, e) (vI t es, f) n m) y) x,
 a2 [] fun x y _ => raw3 [] (fun s n cs e => raw3 [] (fun t m es f => pk (vI s cs, e) (vI t es, f) cs es) y) x⟩
def isC (x : D) : Prop := match x with | .agg [.int .i64 i, .int .i64 j] => (0 ≤ i ∧ i ≤ 1) ∧ 0 ≤ j ∧ j ≤ 1 | _ => False
theorem isC_mk {i j : Int} (h1 : 0 ≤ i ∧ i ≤ 1) (h2 : 0 ≤ j ∧ j ≤ 1) : isC (.agg [.int .i64 i, .int .i64 j]) := ⟨h1, h2⟩
def s_eMul : FnSpec := sp2 (.agg [.I, .i .i64, .I, .i .i64]) (fun x y => okM x ∧ okM y) (fun x y i => re4 (rmul (rn (rv x)) (rn (rv y))) i) (fun _ _ _ => false)
 where okM (x : D) : Prop := okR x ∧ raw6 False (fun _ n _ e _ m _ f => (n ≤ 299 ∧ m ≤ 299) ∧ (-15000 ≤ e ∧ e ≤ 15000) ∧ -15000 ≤ f ∧ f ≤ 15000) x
def few30 (x : D) : Prop := raw6 False (fun _ _ _ e _ _ _ f => (-30000 ≤ e ∧ e ≤ 30000) ∧ -30000 ≤ f ∧ f ≤ 30000) x
def okX (x : D) : Prop := match x with
 | .agg [.bool _, .sl n cs, .int .i64 e, .bool _, .sl m es, .int .i64 f] => ((n ≤ 100000 → okC n cs) ∧ -9223372036854775808 ≤ e ∧ e ≤ 9223372036854775807) ∧ (m ≤ 100000 → okC m es) ∧ -9223372036854775808 ≤ f ∧ f ≤ 9223372036854775807
 | _ => False
theorem okX_arg {x : D} (h : okX x) : ∃ s n cs e t m es f, x = .agg [.bool s, .sl n cs, .int .i64 e, .bool t, .sl m es, .int .i64 f] ∧ (n ≤ 100000 → okC n cs) ∧ (-9223372036854775808 ≤ e ∧ e ≤ 9223372036854775807) ∧ (m ≤ 100000 → okC m es) ∧ -9223372036854775808 ≤ f ∧ f ≤ 9223372036854775807 := by
 unfold okX at h
 split at h
 ·exact ⟨_, _, _, _, _, _, _, _, rfl, h.1.1, h.1.2, h.2⟩
 ·exact h.elim
theorem okX_mk {s t : Bool} {n m : Nat} {cs es : List D} {e f : Int} (h1 : n ≤ 100000 → okC n cs) (h2 : -9223372036854775808 ≤ e ∧ e ≤ 9223372036854775807) (h3 : m ≤ 100000 → okC m es) (h4 : -9223372036854775808 ≤ f ∧ f ≤ 9223372036854775807) :
  okX (.agg [.bool s, .sl n cs, .int .i64 e, .bool t, .sl m es, .int .i64 f]) := ⟨⟨h1, h2⟩, h3, h4⟩
theorem dec_eq {p q : Prop} {i : Decidable p} {j : Decidable q} (h : p ↔ q) : @decide p i = @decide q j := by
 rw [Bool.eq_iff_iff, decide_eq_true_iff, decide_eq_true_iff]; exact h
theorem dec_no {p : Prop} {i : Decidable p} (h : ¬p) : @decide p i = false := decide_eq_false h
def rC (r : Re) : Prop := r.1.n = r.1 ∧ r.2.n = r.2 ∧ fR r 19200 20000
theorem canR_c {r : Re} (h : rC r) : canR (.agg [.bool (N0.neg r.1.1), .sl (N0.ln r.1.1) (N0.lm r.1.1), .int .i64 r.1.2, .bool (N0.neg r.2.1), .sl (N0.ln r.2.1) (N0.lm r.2.1), .int .i64 r.2.2]) := canR_mk h.1 h.2.1 h.2.2
def dC (a : Dy) : Prop := a.n = a ∧ fD a 19200 20000
theorem canD_c {a : Dy} (h : dC a) : canD (.agg [.bool (N0.neg a.1), .sl (N0.ln a.1) (N0.lm a.1), .int .i64 a.2]) := canD_fD h.1 (h.2.mono (by omega) (by omega))
theorem near_c {a b : Dy} (h : dC a) (g : dC b) {s t : Bool} {n m : Nat} {cs es : List D} : near 60000 (.agg [.bool s, .sl n cs, .int .i64 a.2]) (.agg [.bool t, .sl m es, .int .i64 b.2]) := near_fD (h.2.mono (Nat.le_refl _) (by omega)) (g.2.mono (Nat.le_refl _) (by omega))
theorem dC_1 {r : Re} (h : rC r) : dC r.1 := ⟨h.1, h.2.2.1⟩
theorem dC_2 {r : Re} (h : rC r) : dC r.2 := ⟨h.2.1, h.2.2.2⟩
section
variable {s t : Bool} {n m : Nat} {cs es : List D} {e f : Int}
end
section
variable {X Y : Re} (fX : fR X 320 1000) (fY : fR Y 320 1000)
include fX
end
def fC (r : Re) : Prop := rcan r ∧ fR r 320 1320
section
variable {A B : Re} (hA : fC A) (hB : fC B)
include hA
include hB
end
section
variable {X Y : Re} (fX : fR X 320 1000) (fY : fR Y 320 1000)
include fX fY
omit fY in
end
section
variable {X Y : Re} {s t : Dy}
end
end Go.Proofs.YtnjjfakjnkhhjaaGreatDoor.Ev
namespace Go.Proofs.YtnjjfakjnkhhjaaGreatDoor.Ev
open Go Go.RowKit
def ca (x : Re) : Re := (x.1.n, x.2.n)
def cadd (x y : Re) : Re := (x.1.add y.1, x.2.add y.2)
def csub (x y : Re) : Re := (x.1.sub y.1, x.2.sub y.2)
def cmul (x y : Re) : Re := ((x.1.mul y.1).sub (x.2.mul y.2), (x.1.mul y.2).add (x.2.mul y.1))
def cneg (x : Re) : Re := (x.1.neg, x.2.neg)
def cconj (x : Re) : Re := (x.1.n, x.2.neg)
def cnorm (x : Re) : Dy := (x.1.mul x.1).add (x.2.mul x.2)
def Dy.scl (a : Dy) (k : Int) : Dy := Dy.n (a.1, a.2 + min (max k (-20000)) 20000)
def cscl (x : Re) (k : Int) : Re := (x.1.scl k, x.2.scl k)
def ctms (x : Re) (d : Dy) : Re := (x.1.mul d, x.2.mul d)
def cone : Re := ((1, 0), (0, 0))
def cpw (x : Re) : Nat → Re
 | 0 => cone
 | k + 1 => cmul (cpw x k) x
def ccan (x : Re) : Prop := x.1.n = x.1 ∧ x.2.n = x.2
theorem one_n : Dy.n (1, 0) = (1, 0) := Prod.ext (show tmI 1 = 1 from tmI_is (k := 0) rfl rfl (by decide)) (show teI 1 0 = 0 from teI_is (c := 1) (k := 0) rfl rfl (by decide))
theorem ccan_one : ccan cone := ⟨one_n, zero_n⟩
theorem ccan_ca (x : Re) : ccan (ca x) := ⟨n_n _, n_n _⟩
theorem ccan_mul (x y : Re) : ccan (cmul x y) := ⟨sub_n _ _, add_n _ _⟩
theorem ccan_pw (x : Re) : ∀ k, ccan (cpw x k)
 | 0 => ccan_one
 | k + 1 => ccan_mul _ _
theorem scl_n (a : Dy) (k : Int) : (a.scl k).n = a.scl k := n_n _
theorem ca_eq {x y : Re} : ca x = ca y ↔ qv x.1 = qv y.1 ∧ qv x.2 = qv y.2 := by
 unfold ca
 rw [Prod.mk.injEq, ← qv_inj, ← qv_inj]
section
variable (x y z : Re) (d : Dy) (k : Int)
theorem q1_add : qv (cadd x y).1 = qv x.1 + qv y.1 := qv_add _ _
theorem q2_add : qv (cadd x y).2 = qv x.2 + qv y.2 := qv_add _ _
theorem q1_sub : qv (csub x y).1 = qv x.1 - qv y.1 := qv_sub _ _
theorem q2_sub : qv (csub x y).2 = qv x.2 - qv y.2 := qv_sub _ _
theorem q1_mul : qv (cmul x y).1 = qv x.1 * qv y.1 - qv x.2 * qv y.2 := by unfold cmul; rw [qv_sub, qv_mul, qv_mul]
theorem q2_mul : qv (cmul x y).2 = qv x.1 * qv y.2 + qv x.2 * qv y.1 := by unfold cmul; rw [qv_add, qv_mul, qv_mul]
theorem q1_neg : qv (cneg x).1 = -qv x.1 := qv_neg _
theorem q2_neg : qv (cneg x).2 = -qv x.2 := qv_neg _
theorem q_norm : qv (cnorm x) = qv x.1 * qv x.1 + qv x.2 * qv x.2 := by unfold cnorm; rw [qv_add, qv_mul, qv_mul]
theorem norm_n : (cnorm x).n = cnorm x := add_n _ _
theorem qv_c0 (e : Int) : qv (0, e) = 0 := by unfold qv; simp
end
def sz (d : Dy) (L H : Nat) : Prop := ∃ Z : Int, Fit Z (L + H) ∧ qv d = qv (Z, -(L : Int))
theorem sz_can {d : Dy} {L H : Nat} (hn : d.n = d) (h : sz d L H) : fD d (L + H) (L + H) := by
 obtain ⟨Z, h1, h2⟩ := h
 have h3 := qv_inj.1 h2
 rw [hn] at h3
 rw [h3]
 refine ⟨fit_tm h1, ?_⟩
 show -((L + H : Nat) : Int) ≤ teI Z (-(L : Int)) ∧ teI Z (-(L : Int)) ≤ ((L + H : Nat) : Int)
 rcases teI_bound (e := -(L : Int)) h1 with h | ⟨_, h4, h5⟩ <;> omega
theorem sz_n {d : Dy} {L H : Nat} (h : sz d L H) : sz d.n L H := by
 obtain ⟨Z, h1, h2⟩ := h; exact ⟨Z, h1, by rw [qv_n]; exact h2⟩
theorem qv_up (m e : Int) (k : Nat) : qv (m * 2 ^ k, e - k) = qv (m, e) := by
 unfold qv
 rw [Rat.intCast_mul, cast_pow2, show e = (e - k) + (k : Int) by omega, Rat.zpow_add two_ne, zp_nat]
 simp only [Int.add_sub_cancel]
 grind
theorem sz_mono {d : Dy} {L H L' H' : Nat} (h : sz d L H) (h1 : L ≤ L') (h2 : H ≤ H') : sz d L' H' := by
 obtain ⟨Z, h3, h4⟩ := h
 refine ⟨Z * 2 ^ (L' - L), ?_, ?_⟩
 ·unfold Fit at *
  rw [Int.natAbs_mul, Int.natAbs_pow]
  calc Z.natAbs * (2 : Int).natAbs ^ (L' - L) < 2 ^ (L + H) * 2 ^ (L' - L) := (Nat.mul_lt_mul_right (Nat.two_pow_pos _)).2 h3
   _ = 2 ^ (L + H + (L' - L)) := by rw [← Nat.pow_add]
   _ ≤ 2 ^ (L' + H') := Nat.pow_le_pow_right (by omega) (by omega)
 ·rw [h4, show -(L' : Int) = -(L : Int) - ((L' - L : Nat) : Int) by omega, qv_up]
theorem sz_mul {a b : Dy} {L H M K : Nat} (ha : sz a L H) (hb : sz b M K) : sz (a.mul b) (L + M) (H + K) := by
 obtain ⟨Z, h1, h2⟩ := ha
 obtain ⟨W, h3, h4⟩ := hb
 refine ⟨Z * W, h1.mul h3 (by omega), ?_⟩
 rw [qv_mul, h2, h4, show -((L + M : Nat) : Int) = -(L : Int) + -(M : Int) by omega, qv_mulraw]
theorem qv_plus (Z W e : Int) : qv (Z + W, e) = qv (Z, e) + qv (W, e) := by
 unfold qv; rw [Rat.intCast_add, Rat.add_mul]
theorem sz_add {a b : Dy} {L H : Nat} (ha : sz a L H) (hb : sz b L H) : sz (a.add b) L (H + 1) := by
 obtain ⟨Z, h1, h2⟩ := ha
 obtain ⟨W, h3, h4⟩ := hb
 exact ⟨Z + W, h1.add h3 (by omega) (by omega), by rw [qv_add, h2, h4, qv_plus]⟩
theorem sz_negr {a : Dy} {L H : Nat} (ha : sz a L H) : sz (-a.1, a.2) L H := by
 obtain ⟨Z, h1, h2⟩ := ha
 exact ⟨-Z, h1.neg, by rw [qv_neg', qv_neg']; exact congrArg (- ·) h2⟩
theorem sz_neg {a : Dy} {L H : Nat} (ha : sz a L H) : sz a.neg L H := sz_n (sz_negr ha)
theorem sz_sub {a b : Dy} {L H : Nat} (ha : sz a L H) (hb : sz b L H) : sz (a.sub b) L (H + 1) := by
 rw [← add_neg]; exact sz_add ha (sz_neg hb)
theorem fit_shift {m : Int} {k n l : Nat} (h : Fit m k) (hl : k + n ≤ l) : Fit (m * 2 ^ n) l := by
 unfold Fit at *
 rw [Int.natAbs_mul, Int.natAbs_pow]
 calc m.natAbs * (2 : Int).natAbs ^ n < 2 ^ k * 2 ^ n := (Nat.mul_lt_mul_right (Nat.two_pow_pos _)).2 h
  _ = 2 ^ (k + n) := by rw [← Nat.pow_add]
  _ ≤ 2 ^ l := Nat.pow_le_pow_right (by omega) hl
theorem sz_raw {m e : Int} {k L B : Nat} (h : Fit m k) (h1 : -(L : Int) ≤ e) (h2 : e ≤ B) : sz (m, e) L (k + B) := by
 refine ⟨m * 2 ^ (e + L).toNat, ?_, ?_⟩
 ·exact fit_shift h (by omega)
 ·have := qv_up m e (e + L).toNat
  rw [show e - ((e + L).toNat : Nat) = -(L : Int) by omega] at this
  exact this.symm
theorem sz_fD {a : Dy} {k B : Nat} (h : fD a k B) : sz a B (k + B) := sz_raw h.1 h.2.1 h.2.2
def cz (x : Re) (L H : Nat) : Prop := sz x.1 L H ∧ sz x.2 L H
theorem cz_can {x : Re} {L H : Nat} (hc : ccan x) (h : cz x L H) : fR x (L + H) (L + H) := ⟨sz_can hc.1 h.1, sz_can hc.2 h.2⟩
theorem cz_mono {x : Re} {L H L' H' : Nat} (h : cz x L H) (h1 : L ≤ L') (h2 : H ≤ H') : cz x L' H' := ⟨sz_mono h.1 h1 h2, sz_mono h.2 h1 h2⟩
theorem cz_mul {x y : Re} {L H M K : Nat} (hx : cz x L H) (hy : cz y M K) : cz (cmul x y) (L + M) (H + K + 1) := ⟨sz_sub (sz_mul hx.1 hy.1) (sz_mul hx.2 hy.2), sz_add (sz_mul hx.1 hy.2) (sz_mul hx.2 hy.1)⟩
theorem cz_add {x y : Re} {L H : Nat} (hx : cz x L H) (hy : cz y L H) : cz (cadd x y) L (H + 1) := ⟨sz_add hx.1 hy.1, sz_add hx.2 hy.2⟩
theorem cz_sub {x y : Re} {L H : Nat} (hx : cz x L H) (hy : cz y L H) : cz (csub x y) L (H + 1) := ⟨sz_sub hx.1 hy.1, sz_sub hx.2 hy.2⟩
theorem cz_neg {x : Re} {L H : Nat} (hx : cz x L H) : cz (cneg x) L H := ⟨sz_neg hx.1, sz_neg hx.2⟩
theorem cz_ca {x : Re} {L H : Nat} (hx : cz x L H) : cz (ca x) L H := ⟨sz_n hx.1, sz_n hx.2⟩
theorem cz_norm {x : Re} {L H : Nat} (hx : cz x L H) : sz (cnorm x) (L + L) (H + H + 1) := sz_add (sz_mul hx.1 hx.1) (sz_mul hx.2 hx.2)
theorem cz_one : cz cone 0 1 := ⟨⟨1, (by unfold Fit; decide), rfl⟩, ⟨0, (by unfold Fit; decide), by show qv (0, 0) = _; rw [qv_c0, qv_c0]⟩⟩
theorem cz_pw {x : Re} {L H : Nat} (hx : cz x L H) : ∀ k, cz (cpw x k) (L * k) ((H + 1) * k + 1)
 | 0 => cz_one
 | k + 1 => cz_mono (cz_mul (cz_pw hx k) hx) (by rw [Nat.mul_succ]; omega) (by rw [Nat.mul_succ]; omega)
end Go.Proofs.YtnjjfakjnkhhjaaGreatDoor.Ev
namespace Go.Proofs.YtnjjfakjnkhhjaaGreatDoor.Ev
open Go Go.RowKit
def s_uOf : FnSpec := sp2 (.agg [.I, .i .i64, .I, .i .i64]) (fun x y => (isi .i64 x ∧ -9223372036854775808 ≤ dz x ∧ dz x ≤ 9223372036854775807) ∧ isi .i64 y ∧ -9223372036854775808 ≤ dz y ∧ dz y ≤ 9223372036854775807) (fun x y i => re4 (ca ((dz x, 0), (dz y, 0))) i) (fun _ _ _ => false)
def s_uAdd : FnSpec := sp2 (.agg [.I, .i .i64, .I, .i .i64]) (fun x y => okR x ∧ okR y) (fun x y i => re4 (cadd (rv x) (rv y)) i) (fun _ _ _ => false)
def s_uSub : FnSpec := sp2 (.agg [.I, .i .i64, .I, .i .i64]) (fun x y => okR x ∧ okR y) (fun x y i => re4 (csub (rv x) (rv y)) i) (fun _ _ _ => false)
def s_uMul : FnSpec := sp2 (.agg [.I, .i .i64, .I, .i .i64]) (fun x y => okR x ∧ okR y) (fun x y i => re4 (cmul (rv x) (rv y)) i) (fun _ _ _ => false)
def s_uNeg : FnSpec := sp1 (.agg [.I, .i .i64, .I, .i .i64]) okR (fun x i => re4 (cneg (rv x)) i) (fun _ _ => false)
def s_uNorm : FnSpec := sp1 (.agg [.I, .i .i64]) okR (fun x i => match i with | 0 => (cnorm (rv x)).1 | _ => (cnorm (rv x)).2) (fun _ _ => false)
def s_uScale : FnSpec := sp2 (.agg [.I, .i .i64, .I, .i .i64]) (fun x y => okR x ∧ isi .i64 y) (fun x y i => re4 (cscl (rv x) (dz y)) i) (fun _ _ _ => false)
def s_uTimes : FnSpec := sp2 (.agg [.I, .i .i64, .I, .i .i64]) (fun x y => okR x ∧ okT y) (fun x y i => re4 (ctms (rv x) (dv y)) i) (fun _ _ _ => false)
def s_uZero : FnSpec := sp1 (.one .b) okR (fun _ _ => 0) (fun x _ => sg (rv x).1.1 == 0 && sg (rv x).2.1 == 0)
def s_uSame : FnSpec := sp2 (.one .b) (fun x y => okR x ∧ okR y) (fun _ _ _ => 0) (fun x y _ => decide (ca (rv x) = ca (rv y)))
theorem pr_facts {s u : Bool} {n p : Nat} {cs gs : List D} {e g : Int} (hc : okC n cs) (hn : n ≤ 600) (he1 : -50000 ≤ e) (he2 : e ≤ 50000) (hc3 : okC p gs) (hp3 : p ≤ 600) (hg1 : -50000 ≤ g) (hg2 : g ≤ 50000) :
  okC (N0.ln (tmI (vI s cs * vI u gs))) (N0.lm (tmI (vI s cs * vI u gs))) ∧ N0.ln (tmI (vI s cs * vI u gs)) ≤ 1200 ∧ -140000 ≤ teI (vI s cs * vI u gs) (e + g) ∧ teI (vI s cs * vI u gs) (e + g) ≤ 140000 := by
 have h1 : Fit (vI s cs) 19200 := (okC_fit hc s).mono (by omega)
 have h2 : Fit (vI u gs) 19200 := (okC_fit hc3 u).mono (by omega)
 have h3 : Fit (vI s cs * vI u gs) 38400 := h1.mul h2 (by omega)
 refine ⟨okC_fitN (fit_tm h3) (by omega), ln_fit (fit_tm h3), ?_⟩
 rcases teI_bound (e := e + g) h3 with h | ⟨_, h4, h5⟩ <;> omega
theorem same_iff (x y : Re) : decide (ca x = ca y) = (cmpD x.1.1 x.1.2 y.1.1 y.1.2 == 0 && cmpD x.2.1 x.2.2 y.2.1 y.2.2 == 0) := by
 rw [Bool.eq_iff_iff, decide_eq_true_iff, ca_eq, ← cmp_eq, ← cmp_eq, Bool.and_eq_true, beq_iff_eq, beq_iff_eq]
theorem same_y {x y : Re} (h : (cmpD x.1.1 x.1.2 y.1.1 y.1.2 == 0) = true) : (cmpD x.2.1 x.2.2 y.2.1 y.2.2 == 0) = decide (ca x = ca y) := by rw [same_iff, h, Bool.true_and]
theorem same_n {x y : Re} (h : (cmpD x.1.1 x.1.2 y.1.1 y.1.2 == 0) = false) : false = decide (ca x = ca y) := by rw [same_iff, h, Bool.false_and]
abbrev G_uOf : Prop := Good Tryz.prog (GWL [0, 1]) N0 114 s_uOf
abbrev G_uAdd : Prop := Good Tryz.prog (GWL [0, 1, 2]) N0 105 s_uAdd
abbrev G_uSub : Prop := Good Tryz.prog (GWL [0, 1, 2]) N0 138 s_uSub
abbrev G_uMul : Prop := Good Tryz.prog (GWL [0, 1, 2, 3]) N0 140 s_uMul
abbrev G_uNeg : Prop := Good Tryz.prog (GWL [0, 1]) N0 107 s_uNeg
abbrev G_uNorm : Prop := Good Tryz.prog (GWL [0, 1, 2, 3]) N0 111 s_uNorm
abbrev G_uScale : Prop := Good Tryz.prog (GWL [0, 1]) N0 119 s_uScale
abbrev G_uTimes : Prop := Good Tryz.prog (GWL [0, 1, 3]) N0 141 s_uTimes
theorem goods_gu1 : G_uOf ∧ G_uAdd ∧ G_uSub ∧ G_uMul ∧ G_uNeg ∧ G_uNorm ∧ G_uScale ∧ G_uTimes := by
 refine ⟨?_, ?_, ?_, ?_, ?_, ?_, ?_, ?_⟩
 refine goodM 0 (gc good_dOf gn) Tryz.f114 (by kernel_rfl) (by kernel_rfl) fun ds hp F A Q hF hA hQ => ?_
 obtain ⟨x, y, rfl, ⟨hx, ha1, ha2⟩, hy, hb1, hb2⟩ := sp2_arg hp
 obtain ⟨a, rfl⟩ := isi_arg hx
 obtain ⟨b, rfl⟩ := isi_arg hy
 clear hp hx hy
 rotate_left
 refine goodM 0 (gc good_dAdd gn) Tryz.f105 (by kernel_rfl) (by kernel_rfl) fun ds hp F A Q hF hA hQ => ?_
 obtain ⟨x, y, rfl, hx, hy⟩ := sp2_arg hp
 obtain ⟨s, n, cs, e, t, m, es, f, rfl, hc, hn, he1, he2, hc2, hm, hf1, hf2⟩ := okR_arg hx
 obtain ⟨u, p, gs, g, v, q, hs, h, rfl, hc3, hp3, hg1, hg2, hc4, hq4, hh1, hh2⟩ := okR_arg hy
 clear hp hx hy
 rotate_left
 refine goodM 0 (gc good_dSub gn) Tryz.f138 (by kernel_rfl) (by kernel_rfl) fun ds hp F A Q hF hA hQ => ?_
 obtain ⟨x, y, rfl, hx, hy⟩ := sp2_arg hp
 obtain ⟨s, n, cs, e, t, m, es, f, rfl, hc, hn, he1, he2, hc2, hm, hf1, hf2⟩ := okR_arg hx
 obtain ⟨u, p, gs, g, v, q, hs, h, rfl, hc3, hp3, hg1, hg2, hc4, hq4, hh1, hh2⟩ := okR_arg hy
 clear hp hx hy
 rotate_left
 refine goodM 0 (gl good_dMul rfl <| gl good_dSub rfl <| gl good_dAdd rfl gn) Tryz.f140 (by kernel_rfl) (by kernel_rfl) fun ds hp F A Q hF hA hQ => ?_
 obtain ⟨x, y, rfl, hx, hy⟩ := sp2_arg hp
 obtain ⟨s, n, cs, e, t, m, es, f, rfl, hc, hn, he1, he2, hc2, hm, hf1, hf2⟩ := okR_arg hx
 obtain ⟨u, p, gs, g, v, q, hs, h, rfl, hc3, hp3, hg1, hg2, hc4, hq4, hh1, hh2⟩ := okR_arg hy
 obtain ⟨a_1, a_2, a_3, a_4⟩ := pr_facts (s := s) (u := u) hc hn he1 he2 hc3 hp3 hg1 hg2
 obtain ⟨b_1, b_2, b_3, b_4⟩ := pr_facts (s := t) (u := v) hc2 hm hf1 hf2 hc4 hq4 hh1 hh2
 obtain ⟨c_1, c_2, c_3, c_4⟩ := pr_facts (s := s) (u := v) hc hn he1 he2 hc4 hq4 hh1 hh2
 obtain ⟨d_1, d_2, d_3, d_4⟩ := pr_facts (s := t) (u := u) hc2 hm hf1 hf2 hc3 hp3 hg1 hg2
 clear hp hx hy
 rotate_left
 refine goodM 0 (gc good_dNeg gn) Tryz.f107 (by kernel_rfl) (by kernel_rfl) fun ds hp F A Q hF hA hQ => ?_
 obtain ⟨x, rfl, hx⟩ := sp1_arg hp
 obtain ⟨s, n, cs, e, t, m, es, f, rfl, hc, hn, he1, he2, hc2, hm, hf1, hf2⟩ := okR_arg hx
 clear hp hx
 rotate_left
 refine goodM 0 (gl good_dMul rfl <| gl good_dAdd rfl gn) Tryz.f111 (by kernel_rfl) (by kernel_rfl) fun ds hp F A Q hF hA hQ => ?_
 obtain ⟨x, rfl, hx⟩ := sp1_arg hp
 obtain ⟨s, n, cs, e, t, m, es, f, rfl, hc, hn, he1, he2, hc2, hm, hf1, hf2⟩ := okR_arg hx
 obtain ⟨a_1, a_2, a_3, a_4⟩ := pr_facts (s := s) (u := s) hc hn he1 he2 hc hn he1 he2
 obtain ⟨b_1, b_2, b_3, b_4⟩ := pr_facts (s := t) (u := t) hc2 hm hf1 hf2 hc2 hm hf1 hf2
 clear hp hx
 rotate_left
 refine goodM 0 (gc good_dScale gn) Tryz.f119 (by kernel_rfl) (by kernel_rfl) fun ds hp F A Q hF hA hQ => ?_
 obtain ⟨x, y, rfl, hx, hy⟩ := sp2_arg hp
 obtain ⟨s, n, cs, e, t, m, es, f, rfl, hc, hn, he1, he2, hc2, hm, hf1, hf2⟩ := okR_arg hx
 obtain ⟨k, rfl⟩ := isi_arg hy
 clear hp hx hy
 rotate_left
 refine goodM 0 (gc good_dMul gn) Tryz.f141 (by kernel_rfl) (by kernel_rfl) fun ds hp F A Q hF hA hQ => ?_
 obtain ⟨x, y, rfl, hx, hy⟩ := sp2_arg hp
 obtain ⟨s, n, cs, e, t, m, es, f, rfl, hc, hn, he1, he2, hc2, hm, hf1, hf2⟩ := okR_arg hx
 obtain ⟨u, p, gs, g, rfl, hc3, hp3, hg1, hg2⟩ := okT_arg hy
 clear hp hx hy
 rotate_left
 all_goals cbv
 all_goals (repeat' (first | with_reducible refine And.intro ?_ ?_ | (with_reducible refine safe_lift hA ?_; kernel_rfl) | (intro hc_; cbv)))
 all_goals (repeat (rw [safe_true hA, true_and]; rotate_left; kernel_rfl))
 all_goals subst hF hA
 all_goals simp only [fnOf, find, std, reduceIte, Nat.reduceEqDiff, sp1, sp2, a1, a2, FnSpec.out, Shape.build, leafs, leafCells, tups, oneOf, List.cons_append, List.nil_append, List.length_cons, List.length_nil, s_uOf, s_dOf, re4, rv_raw, rv_N0, dv, dz, dx, dcn, dm_raw, dm_N0, vI_N0, raw6_is, raw3_is, pick2, decide_eq_true_eq, decide_eq_false_iff_not, gt_iff_lt, ge_iff_le, Dy.n, Dy.add, Dy.sub, Dy.mul, Dy.neg, Dy.abs, Dy.to, Dy.pow, sg_nonpos7, sg_nonneg7, ca, cadd, csub, cmul, cneg, cconj, cnorm, Dy.scl, cscl, ctms, Int.add_zero, min_z, s_uAdd, s_dAdd, s_uSub, s_dSub, s_uMul, s_dMul, s_uNeg, s_dNeg, s_uNorm, s_uScale, s_dScale, s_uTimes] at *
 all_goals (repeat' (first
  | with_reducible exact hQ
  | with_reducible assumption
  | with_reducible exact isi_int _ _
  | exact hQ
  | with_reducible exact okR_mk hc hn he1 he2 hc2 hm hf1 hf2
  | with_reducible refine okD_mk ?_ ?_ ?_
  | with_reducible refine okT_mk ?_ ?_ ?_ ?_
  | with_reducible refine okR_mk ?_ ?_ ?_ ?_ ?_ ?_ ?_ ?_
  | (with_reducible refine near_mk ?_ ?_; (focus omega); (focus omega))
  | (with_reducible refine isC_mk ?_ ?_)
  | with_reducible refine And.intro ?_ ?_
  | omega))
theorem good_uOf : G_uOf := goods_gu1.1
theorem good_uAdd : G_uAdd := goods_gu1.2.1
theorem good_uMul : G_uMul := goods_gu1.2.2.2.1
theorem good_uNeg : G_uNeg := goods_gu1.2.2.2.2.1
theorem good_uNorm : G_uNorm := goods_gu1.2.2.2.2.2.1
theorem good_uScale : G_uScale := goods_gu1.2.2.2.2.2.2.1
abbrev G_uZero : Prop := Good Tryz.prog (GWL [0, 1]) N0 139 s_uZero
abbrev G_uSame : Prop := Good Tryz.prog (GWL [0, 1]) N0 121 s_uSame
theorem goods_gu2 : G_uZero ∧ G_uSame := by
 refine ⟨?_, ?_⟩
 refine goodM 0 (gc good_dSign gn) Tryz.f139 (by kernel_rfl) (by kernel_rfl) fun ds hp F A Q hF hA hQ => ?_
 obtain ⟨x, rfl, hx⟩ := sp1_arg hp
 obtain ⟨s, n, cs, e, t, m, es, f, rfl, hc, hn, he1, he2, hc2, hm, hf1, hf2⟩ := okR_arg hx
 clear hp hx
 rotate_left
 refine goodM 0 (gc good_dSame gn) Tryz.f121 (by kernel_rfl) (by kernel_rfl) fun ds hp F A Q hF hA hQ => ?_
 obtain ⟨x, y, rfl, hx, hy⟩ := sp2_arg hp
 obtain ⟨s, n, cs, e, t, m, es, f, rfl, hc, hn, he1, he2, hc2, hm, hf1, hf2⟩ := okR_arg hx
 obtain ⟨u, p, gs, g, v, q, hs, h, rfl, hc3, hp3, hg1, hg2, hc4, hq4, hh1, hh2⟩ := okR_arg hy
 clear hp hx hy
 rotate_left
 all_goals cbv
 all_goals (repeat' (first | with_reducible refine And.intro ?_ ?_ | (with_reducible refine safe_lift hA ?_; kernel_rfl) | (intro hc_; cbv)))
 all_goals (repeat (rw [safe_true hA, true_and]; rotate_left; kernel_rfl))
 all_goals subst hF hA
 all_goals simp only [fnOf, find, std, reduceIte, Nat.reduceEqDiff, sp1, sp2, a1, a2, FnSpec.out, Shape.build, leafs, leafCells, tups, oneOf, List.cons_append, List.nil_append, List.length_cons, List.length_nil, s_uZero, s_dSign, re4, rv_raw, rv_N0, dv, dz, dx, dcn, dm_raw, dm_N0, vI_N0, raw6_is, raw3_is, pick2, decide_eq_true_eq, decide_eq_false_iff_not, gt_iff_lt, ge_iff_le, Dy.n, Dy.add, Dy.sub, Dy.mul, Dy.neg, Dy.abs, Dy.to, Dy.pow, sg_nonpos7, sg_nonneg7, ca, cadd, csub, cmul, cneg, cconj, cnorm, Dy.scl, cscl, ctms, Int.add_zero, min_z, s_uSame, s_dSame] at *
 all_goals (repeat' (first
  | with_reducible exact hQ
  | with_reducible assumption
  | with_reducible exact isi_int _ _
  | exact hQ
  | with_reducible exact okR_mk hc hn he1 he2 hc2 hm hf1 hf2
  | with_reducible refine okD_mk ?_ ?_ ?_
  | with_reducible refine okT_mk ?_ ?_ ?_ ?_
  | with_reducible refine okR_mk ?_ ?_ ?_ ?_ ?_ ?_ ?_ ?_
  | (with_reducible refine near_mk ?_ ?_; (focus omega); (focus omega))
  | (with_reducible refine isC_mk ?_ ?_)
  | with_reducible refine And.intro ?_ ?_
  | omega))
 all_goals first
  | exact Post.b hQ (by rw [hc_, Bool.true_and])
  | exact Post.b hQ (by rw [hc_]; rfl)
  | exact Post.b hQ (same_y (x := ((vI s cs, e), (vI t es, f))) (y := ((vI u gs, g), (vI v hs, h))) hc_).symm
  | exact Post.b hQ (same_n (x := ((vI s cs, e), (vI t es, f))) (y := ((vI u gs, g), (vI v hs, h))) hc_).symm
  | fail
theorem good_uSame : G_uSame := goods_gu2.2
end Go.Proofs.YtnjjfakjnkhhjaaGreatDoor.Ev
