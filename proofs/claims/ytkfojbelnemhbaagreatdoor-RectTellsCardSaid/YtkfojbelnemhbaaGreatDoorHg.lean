import Derived.Test.YtkfojbelnemhbaaGreatDoorHe
import Derived.Test.YtkfojbelnemhbaaGreatDoorHf
set_option maxHeartbeats 16000000
set_option maxRecDepth 100000
set_option linter.all false
namespace Go.Proofs.YtkfojbelnemhbaaGreatDoor.Ev
open Go Go.RowKit
theorem m1_n : Dy.n (-1, 0) = (-1, 0) := odd_n (by decide)
theorem qv_m1 : qv (-1, 0) = -1 := by unfold qv; simp
theorem kI_norm : cnorm ((0, 0), (1, 0)) = (1, 0) := nn_eq (norm_n _) one_n (by rw [q_norm]; show qv (0, 0) * qv (0, 0) + qv (1, 0) * qv (1, 0) = qv (1, 0); rw [qv_c0, qv_c1]; grind)
theorem kI_pn : pnorm (ppt ((0, 0), (1, 0))) = ((1, 0), (1, 0)) := by rw [pnorm_pt, kI_norm]
theorem k1_inv : rinv ((1, 0), (1, 0)) 10 = ((1, 0), (1, 0)) := by
 show (Dy.n (qm 1 0 1 0 (qE 1 0 1 0 10) 0, qE 1 0 1 0 10), Dy.n (qm 1 0 1 0 (qE 1 0 1 0 10) 1, qE 1 0 1 0 10)) = _
 have h1 : qE 1 0 1 0 10 = -9 := by decide
 have h2 : qm 1 0 1 0 (-9) 0 = 512 := by decide
 have h3 : qm 1 0 1 0 (-9) 1 = 512 := by decide
 rw [h1, h2, h3]
 have e : Dy.n (512, -9) = (1, 0) := by
  unfold Dy.n
  rw [tmI_is (c := 1) (k := 9) (by decide) (by decide) (by decide), teI_is (c := 1) (k := 9) (by decide) (by decide) (by decide)]
  rfl
 rw [e]
theorem k_div {a : Dy} (hn : a.n = a) (h : a.1 = 0 ∨ stepI a.1 a.2 10 ≤ teI a.1 a.2) : rdivZ (a, a) ((1, 0), (1, 0)) 10 = (a, a) := by
 have hz : ¬zeroY ((1, 0), (1, 0)) = true := by decide
 have e1 : rdivZ (a, a) ((1, 0), (1, 0)) 10 = rround (rmul (a, a) (rinv ((1, 0), (1, 0)) 10)) 10 := if_neg hz
 have e2 : a.mul (1, 0) = a := nn_eq (mul_n _ _) hn (by rw [qv_mul, qv_c1, Rat.mul_one])
 have e3 : ∀ md, a.to 10 md = a := fun md => by
  unfold Dy.to
  rw [(gm_lies h).1, (gm_lies h).2]; exact hn
 rw [e1, k1_inv, rmul_one, e2]
 unfold rround
 dsimp only
 rw [e3, e3]
theorem kI_inv : pinvZ (ppt ((0, 0), (1, 0))) 10 = ppt ((0, 0), (-1, 0)) := by
 unfold pinvZ
 rw [kI_pn]
 refine Prod.ext (k_div zero_n (.inl rfl)) ?_
 have e : rneg (ppt ((0, 0), (1, 0))).2 = ((-1, 0), (-1, 0)) := by
  show ((Dy.neg (1, 0)), (Dy.neg (1, 0))) = _
  have : Dy.neg (1, 0) = (-1, 0) := m1_n
  rw [this]
 show rdivZ (rneg (ppt ((0, 0), (1, 0))).2) ((1, 0), (1, 0)) 10 = _
 rw [e]
 exact k_div m1_n (.inr (by decide))
theorem kI_er : er0 (pnorm (ppt ((0, 0), (1, 0)))) = 0 := by rw [kI_pn]; decide
theorem k0_er : er0 (pnorm (ppt ((0, 0), (0, 0)))) = 11 := by
 rcases er0_pt ((0, 0), (0, 0)) with h | h
 ·exact h.1
 ·exact absurd ⟨rfl, rfl⟩ h.2
theorem kI_meet : pmeetB (ppt ((0, 0), (1, 0))) (ppt ((0, 0), (-1, 0))) = false := by
 unfold pmeetB
 rw [Bool.and_eq_false_iff]
 right
 show meetB ((1, 0), (1, 0)) ((-1, 0), (-1, 0)) = false
 have h1 : rn ((1, 0), (1, 0)) = ((1, 0), (1, 0)) := rn_id Rat.le_refl one_n one_n
 have h2 : rn ((-1, 0), (-1, 0)) = ((-1, 0), (-1, 0)) := rn_id Rat.le_refl m1_n m1_n
 unfold meetB
 rw [h1, h2]
 decide
theorem psq_pt (x : Re) : psq (ppt x) = ppt (cmul x x) := by
 unfold psq ppt cmul; dsimp only
 rw [rsq_one, rsq_one, rsub_one, rmul_one]
 have e : (x.2.mul x.1) = x.1.mul x.2 := nn_eq (mul_n _ _) (mul_n _ _) (by rw [qv_mul, qv_mul, Rat.mul_comm])
 rw [e]; rfl
theorem kI_sq : psq (ppt ((0, 0), (1, 0))) = ppt ((-1, 0), (0, 0)) := by
 rw [psq_pt]
 congr 1
 refine can_eq (ccan_mul _ _) ⟨m1_n, zero_n⟩ ?_ ?_
 ·rw [q1_mul]; show qv (0, 0) * qv (0, 0) - qv (1, 0) * qv (1, 0) = qv (-1, 0); rw [qv_c0, qv_c1, qv_m1]; grind
 ·rw [q2_mul]; show qv (0, 0) * qv (1, 0) + qv (1, 0) * qv (0, 0) = qv (0, 0); rw [qv_c0, qv_c1]; grind
theorem mid_pt {a : Re} (h : ccan a) : pmid (ppt a) = a := by
 refine can_eq (ccan_mid _) h ?_ ?_
 ·show qv ((a.1.add a.1).scl (-1)) = _; rw [qv_half, qv_add]; grind
 ·show qv ((a.2.add a.2).scl (-1)) = _; rw [qv_half, qv_add]; grind
theorem cI : ccan ((0, 0), (1, 0)) := ⟨zero_n, one_n⟩
theorem cJ : ccan ((0, 0), (-1, 0)) := ⟨zero_n, m1_n⟩
theorem cM1 : ccan ((-1, 0), (0, 0)) := ⟨m1_n, zero_n⟩
theorem c00 : ccan ((0, 0), (0, 0)) := ⟨zero_n, zero_n⟩
theorem sz_m1 : sz (-1, 0) 0 1 := ⟨-1, by unfold Fit; decide, rfl⟩
theorem zI : cz ((0, 0), (1, 0)) 1000 1320 := ⟨sz_zero _ _, sz_mono sz_one (by omega) (by omega)⟩
theorem zJ : cz ((0, 0), (-1, 0)) 1000 1320 := ⟨sz_zero _ _, sz_mono sz_m1 (by omega) (by omega)⟩
theorem zM1 : cz ((-1, 0), (0, 0)) 1000 1320 := ⟨sz_mono sz_m1 (by omega) (by omega), sz_zero _ _⟩
theorem rC_cz {a : Re} (h : ccan a) (k : cz a 1000 1320) : rC a := ⟨h.1, h.2, (cz_can h k).mono (by omega) (by omega)⟩
abbrev rel8 (x : Rc) : D := .agg [.bool (N0.neg x.1.1.1), .sl (N0.ln x.1.1.1) (N0.lm x.1.1.1), .int .i64 x.1.1.2, .bool (N0.neg x.1.2.1), .sl (N0.ln x.1.2.1) (N0.lm x.1.2.1), .int .i64 x.1.2.2,
  .bool (N0.neg x.2.1.1), .sl (N0.ln x.2.1.1) (N0.lm x.2.1.1), .int .i64 x.2.1.2, .bool (N0.neg x.2.2.1), .sl (N0.ln x.2.2.1) (N0.lm x.2.2.1), .int .i64 x.2.2.2]
abbrev rel4 (r : Re) : D := .agg [.bool (N0.neg r.1.1), .sl (N0.ln r.1.1) (N0.lm r.1.1), .int .i64 r.1.2, .bool (N0.neg r.2.1), .sl (N0.ln r.2.1) (N0.lm r.2.1), .int .i64 r.2.2]
theorem smP_pz {x : Rc} (h : pz x 1000 1320) : smP (rel8 x) := ⟨okPM_pz h (by omega), by unfold rel8; rw [rv8_N0]; exact h.1.2, by unfold rel8; rw [rv8_N0]; exact h.2.2⟩
theorem rv8_pair (A B : Re) : rv8 (.agg [.bool (N0.neg A.1.1), .sl (N0.ln A.1.1) (N0.lm A.1.1), .int .i64 A.1.2, .bool (N0.neg A.2.1), .sl (N0.ln A.2.1) (N0.lm A.2.1), .int .i64 A.2.2,
  .bool (N0.neg B.1.1), .sl (N0.ln B.1.1) (N0.lm B.1.1), .int .i64 B.1.2, .bool (N0.neg B.2.1), .sl (N0.ln B.2.1) (N0.lm B.2.1), .int .i64 B.2.2]) = (A, B) := rv8_N0 (A, B)
theorem canR_0 : canR (.agg [.bool false, .sl 0 [], .int .i64 0, .bool false, .sl 0 [], .int .i64 0]) := by
 have h := canR_c (r := ((0, 0), (0, 0))) ⟨zero_n, zero_n, fD_zero _ _, fD_zero _ _⟩
 simpa only [N0_neg0, N0_ln0, N0_lm0] using h
theorem rv8_0 : rv8 (.agg [.bool false, .sl 0 [], .int .i64 0, .bool false, .sl 0 [], .int .i64 0, .bool false, .sl 0 [], .int .i64 0, .bool false, .sl 0 [], .int .i64 0]) = pzero := by
 unfold rv8; rw [rw12_is, vI_nil]; rfl
theorem rv_0 : rv (.agg [.bool false, .sl 0 [], .int .i64 0, .bool false, .sl 0 [], .int .i64 0]) = ((0, 0), (0, 0)) := by
 rw [rv_raw, vI_nil]
theorem toldP_0 : toldP (.agg [.bool false, .sl 0 [], .int .i64 0, .bool false, .sl 0 [], .int .i64 0, .bool false, .sl 0 [], .int .i64 0, .bool false, .sl 0 [], .int .i64 0]) := by
 have h := toldP_pz (x := pzero) (pz_zero 0 0) (by omega)
 unfold pzero at h
 simpa only [N0_neg0, N0_ln0, N0_lm0] using h
theorem okP_0 : okP (.agg [.bool false, .sl 0 [], .int .i64 0, .bool false, .sl 0 [], .int .i64 0, .bool false, .sl 0 [], .int .i64 0, .bool false, .sl 0 [], .int .i64 0]) :=
 okP_S ⟨okC_nil, by omega, by omega, by omega⟩ ⟨okC_nil, by omega, by omega, by omega⟩ ⟨okC_nil, by omega, by omega, by omega⟩ ⟨okC_nil, by omega, by omega, by omega⟩
def s_betw9 : FnSpec := ⟨.one .b, fun ds => match ds with | [v, n, y] => (canD v ∧ dC (dv v)) ∧ (canD n ∧ dC (dv n)) ∧ canR y ∧ dC ((rv y).1.mul (dv n)) ∧ dC ((rv y).2.mul (dv n)) | _ => False,
 fun _ _ => 0, fun ds _ => match ds with | [v, n, y] => betwB (dv v) (dv n) (rv y) | _ => false, fun _ _ => 0, fun _ _ => []⟩
theorem betw9_arg {ds : List D} (h : s_betw9.p ds) : ∃ v n y, ds = [v, n, y] ∧ (canD v ∧ dC (dv v)) ∧ (canD n ∧ dC (dv n)) ∧ canR y ∧ dC ((rv y).1.mul (dv n)) ∧ dC ((rv y).2.mul (dv n)) := by
 match ds, h with
 | [v, n, y], h => exact ⟨v, n, y, rfl, h⟩
def s_known9 : FnSpec := ⟨.one .b, fun ds => ds = [], fun _ _ => 0, fun _ _ => true, fun _ _ => 0, fun _ _ => []⟩
theorem fewP_all {s1 s2 s3 s4 : Bool} {n1 n2 n3 n4 : Nat} {c1 c2 c3 c4 : List D} {e1 e2 e3 e4 : Int} (g1 : n1 ≤ 100000 → okC n1 c1) (g2 : n2 ≤ 100000 → okC n2 c2) (g3 : n3 ≤ 100000 → okC n3 c3) (g4 : n4 ≤ 100000 → okC n4 c4) (k : fewQ n1 e1 n2 e2 n3 e3 n4 e4) :
  ∃ X : Rc, rv8 (.agg [.bool s1, .sl n1 c1, .int .i64 e1, .bool s2, .sl n2 c2, .int .i64 e2, .bool s3, .sl n3 c3, .int .i64 e3, .bool s4, .sl n4 c4, .int .i64 e4]) = X ∧ smP (.agg [.bool s1, .sl n1 c1, .int .i64 e1, .bool s2, .sl n2 c2, .int .i64 e2, .bool s3, .sl n3 c3, .int .i64 e3, .bool s4, .sl n4 c4, .int .i64 e4]) ∧
   few100P (.agg [.bool s1, .sl n1 c1, .int .i64 e1, .bool s2, .sl n2 c2, .int .i64 e2, .bool s3, .sl n3 c3, .int .i64 e3, .bool s4, .sl n4 c4, .int .i64 e4]) ∧ pq (rcn X) := by
 obtain ⟨⟨k1, k2⟩, k3, k4⟩ := k
 have key : ∀ {n : Nat} {c : List D} {e : Int}, (n ≤ 100000 → okC n c) → (n ≤ 10 ∧ -1000 ≤ e ∧ e ≤ 1000) → okSM n c e := fun g k => ⟨⟨g (by omega), by omega, by omega, by omega⟩, by omega, by omega, by omega⟩
 have fk : ∀ {s : Bool} {n : Nat} {c : List D} {e : Int}, (n ≤ 100000 → okC n c) → (n ≤ 10 ∧ -1000 ≤ e ∧ e ≤ 1000) → fD (vI s c, e) 320 1000 := fun g k => fD_raw (g (by omega)) (by omega) (by omega) (by omega)
 have f1 : fR ((vI s1 c1, e1), (vI s2 c2, e2)) 320 1000 := ⟨fk g1 k1, fk g2 k2⟩
 have f2 : fR ((vI s3 c3, e3), (vI s4 c4, e4)) 320 1000 := ⟨fk g3 k3, fk g4 k4⟩
 refine ⟨_, rfl, ⟨okPM_S (key g1 k1) (key g2 k2) (key g3 k3) (key g4 k4), cz_fR f1, cz_fR f2⟩, ⟨⟨⟨by omega, by omega⟩, by omega, by omega⟩, ⟨by omega, by omega⟩, by omega, by omega⟩, ?_⟩
 exact ⟨pz_rcn (cz_fR f1) (cz_fR f2), (fR_rn f1).mono (by omega) (by omega), (fR_rn f2).mono (by omega) (by omega)⟩
theorem fewC_all {s t : Bool} {n m : Nat} {cs es : List D} {e f : Int} (g1 : n ≤ 100000 → okC n cs) (g2 : m ≤ 100000 → okC m es) (k : (n ≤ 10 ∧ -1000 ≤ e ∧ e ≤ 1000) ∧ m ≤ 10 ∧ -1000 ≤ f ∧ f ≤ 1000) :
  ∃ C : Re, rv (.agg [.bool s, .sl n cs, .int .i64 e, .bool t, .sl m es, .int .i64 f]) = C ∧ okR (.agg [.bool s, .sl n cs, .int .i64 e, .bool t, .sl m es, .int .i64 f]) ∧ ccan (ca C) ∧ cz (ca C) 1000 1320 ∧ fR (ca C) 320 1320 := by
 have fk : ∀ {s : Bool} {n : Nat} {c : List D} {e : Int}, (n ≤ 100000 → okC n c) → (n ≤ 10 ∧ -1000 ≤ e ∧ e ≤ 1000) → fD (vI s c, e) 320 1000 := fun g k => fD_raw (g (by omega)) (by omega) (by omega) (by omega)
 have f1 : fR ((vI s cs, e), (vI t es, f)) 320 1000 := ⟨fk g1 k.1, fk g2 k.2⟩
 refine ⟨_, rfl, okR_mk (g1 (by omega)) (by omega) (by omega) (by omega) (g2 (by omega)) (by omega) (by omega) (by omega), ccan_ca _, cz_ca (cz_fR f1), fD_n f1.1, fD_n f1.2⟩
theorem hasY_ca (X : Re) (d : Dy) : hasY (rn X) d.n = hasB X d := hasY_n X d.1 d.2
theorem powN_min5 (n : Int) : powN (min n 5) ≤ 5 := by unfold powN; omega
theorem canR_cz {a : Re} (h : ccan a) (k : cz a 1000 1320) : canR (rel4 a) := canR_c (rC_cz h k)
theorem four9 {a b c : Prop} [Decidable a] [Decidable b] [Decidable c] : ¬a ∨ (a ∧ ¬b) ∨ (a ∧ b ∧ ¬c) ∨ (a ∧ b ∧ c) := by
 by_cases a <;> by_cases b <;> by_cases c <;> simp_all
theorem kJ_has : (hasB (ppt ((0, 0), (-1, 0))).1 (0, 0) && hasB (ppt ((0, 0), (-1, 0))).2 (-1, 0)) = true := phas_of (x := ppt ((0, 0), (-1, 0))) (s := ((0, 0), (-1, 0))) (pcan_pt cJ) (pat_pt _)
theorem okR_cz {a : Re} (h : ccan a) (k : cz a 1000 1320) : okR (rel4 a) := okR_c (rC_cz h k)
theorem kI_is : (decide (cmpD (ppt ((0, 0), (1, 0))).1.1.1 (ppt ((0, 0), (1, 0))).1.1.2 (ppt ((0, 0), (1, 0))).1.2.1 (ppt ((0, 0), (1, 0))).1.2.2 ≤ 0) && decide (cmpD (ppt ((0, 0), (1, 0))).2.1.1 (ppt ((0, 0), (1, 0))).2.1.2 (ppt ((0, 0), (1, 0))).2.2.1 (ppt ((0, 0), (1, 0))).2.2.2 ≤ 0)) = true := by decide
theorem pz_div {x y : Rc} (h : pz x 1000 1320) (k : pz y 1000 1320) {p : Int} (hp : p ≤ 200) : pz (pdivZ x y p) 4841 4645 := by
 unfold pdivZ
 split
 ·exact (pz_round (pz_mul h (pz_inv k hp)) (by omega) p).mono (by omega) (by omega)
 ·exact pz_zero _ _
theorem rz_rmeetZ {x y : Re} {L H : Nat} (h : rz x L H) (k : rz y L H) : rz (rmeetZ x y) L H := by
 unfold rmeetZ
 split
 ·rename_i hm
  have e : meetB x y = true := by rw [← meetY_rn, h.1.id, k.1.id]; exact hm
  have := rcan_rmeet e
  rw [h.1.id, k.1.id] at this
  exact ⟨this, cz_rmeet h.2 k.2⟩
 ·exact rz_zero _ _
theorem pz_meetZ {x y : Rc} (h : pz (rcn x) 1000 1320) (k : pz (rcn y) 1000 1320) : pz (pmeetZ x y) 1000 1320 := by
 unfold pmeetZ
 split
 ·exact ⟨rz_rmeetZ h.1 k.1, rz_rmeetZ h.2 k.2⟩
 ·exact pz_zero _ _
theorem five9 {a b : Prop} [Decidable a] [Decidable b] (p : Int) : ¬a ∨ (a ∧ ¬b) ∨ (a ∧ b ∧ 200 < p ∧ p ≤ 4000) ∨ (a ∧ b ∧ p ≤ 200) ∨ (a ∧ b ∧ 4000 < p) := by
 by_cases ha : a <;> by_cases hb : b
 ·rcases (show (200 < p ∧ p ≤ 4000) ∨ p ≤ 200 ∨ 4000 < p by omega) with h | h | h
  ·exact .inr (.inr (.inl ⟨ha, hb, h⟩))
  ·exact .inr (.inr (.inr (.inl ⟨ha, hb, h⟩)))
  ·exact .inr (.inr (.inr (.inr ⟨ha, hb, h⟩)))
 ·exact .inr (.inl ⟨ha, hb⟩)
 ·exact .inl ha
 ·exact .inl ha
theorem sz_half {a : Dy} {L H : Nat} (h : sz a L H) : sz (a.scl (-1)) (L + 1) H := by
 obtain ⟨Z, h1, h2⟩ := h
 refine ⟨Z, h1.mono (by omega), ?_⟩
 rw [qv_half, h2]
 have e : qv (Z, -(L : Int)) = qv (Z * 2 ^ 1, -(L : Int) - (1 : Nat)) := (qv_up Z (-(L : Int)) 1).symm
 rw [e, show -(L : Int) - (1 : Nat) = -((L + 1 : Nat) : Int) by omega]
 unfold qv
 dsimp only
 rw [Rat.intCast_mul, cast_pow2]
 grind
theorem canR_mid {x : Rc} (h : pz x 1000 1320) : canR (rel4 (pmid x)) :=
 canR_c ⟨scl_n _ _, scl_n _ _, (sz_can (scl_n _ _) (sz_half (sz_add h.1.2.1 h.1.2.2))).mono (by omega) (by omega), (sz_can (scl_n _ _) (sz_half (sz_add h.2.2.1 h.2.2.2))).mono (by omega) (by omega)⟩
theorem pm_no1 {x y : Rc} (h : meetB x.1 y.1 = false) : pmeetB x y = false ∧ pmeetZ x y = pzero := by
 have e : pmeetB x y = false := by unfold pmeetB; rw [h]; rfl
 exact ⟨e, if_neg (by rw [e]; decide)⟩
theorem pm_no2 {x y : Rc} (h : meetB x.2 y.2 = false) : pmeetB x y = false ∧ pmeetZ x y = pzero := by
 have e : pmeetB x y = false := by unfold pmeetB; rw [h, Bool.and_false]
 exact ⟨e, if_neg (by rw [e]; decide)⟩
theorem pm_yes {x y : Rc} (h : meetB x.1 y.1 = true) (g : meetB x.2 y.2 = true) : pmeetB x y = true ∧ pmeetZ x y = (rmeetZ (rn x.1) (rn y.1), rmeetZ (rn x.2) (rn y.2)) := by
 have e : pmeetB x y = true := by unfold pmeetB; rw [h, g]; rfl
 exact ⟨e, if_pos e⟩
theorem six9 {a b c : Prop} [Decidable a] [Decidable b] [Decidable c] (m n : Bool) : ¬a ∨ (a ∧ ¬b) ∨ (a ∧ b ∧ ¬c) ∨ (a ∧ b ∧ c ∧ m = false) ∨ (a ∧ b ∧ c ∧ m = true ∧ n = false) ∨ (a ∧ b ∧ c ∧ m = true ∧ n = true) := by
 by_cases a <;> by_cases b <;> by_cases c <;> cases m <;> cases n <;> simp_all
theorem good_betw9 : Good Tryz.prog (GWL [0, 1]) N0 57 s_betw9 := by
 refine goodM 0 (gc good_qMul <| gc good_qCmp gn) Tryz.f57 (by kernel_rfl) (by kernel_rfl) fun ds hp F A Q hF hA hQ => ?_
 obtain ⟨v0, n0, y0, rfl, ⟨hv, hv1⟩, ⟨hn0, hn1⟩, hy, hd1, hd2⟩ := betw9_arg hp
 obtain ⟨z, e, s, n, cs, rfl, hs, hn, hcs, hz, he, hfz, he1, he2⟩ := canD_arg hv
 obtain ⟨v, f, t, m, es, rfl, ht, hm, hes, hv2, hf, hfv, hf1, hf2⟩ := canD_arg hn0
 obtain ⟨u, g, w, h, s2, n2, cs2, t2, m2, es2, rfl, j1, j2, j3, j4, j5, j6, hu, hg, hw, hh, hfu, hg1, hg2, hfw, hh1, hh2⟩ := canR_arg hy
 clear hp
 cbv
 repeat' (first | with_reducible refine And.intro ?_ ?_ | (with_reducible refine safe_lift hA ?_; kernel_rfl) | (intro hc_; cbv))
 all_goals (repeat (rw [safe_true hA, true_and]; rotate_left; kernel_rfl))
 all_goals subst hF hA hs hn hcs ht hm hes j1 j2 j3 j4 j5 j6
 all_goals simp only [fnOf, find, std, reduceIte, Nat.reduceEqDiff, sp2, a2, FnSpec.out, Shape.build, leafCells, oneOf, s_betw9, s_qMul, s_qCmp, rv_raw, dv, dx, dcn, dm_raw, vI_N0, decide_eq_true_eq, Dy.mul, Dy.n, betwB, cmpY] at *
 all_goals
  have fu : Fit (u * v) 100000 := hfu.mul hn1.2.1 (by omega)
  have fw : Fit (w * v) 100000 := hfw.mul hn1.2.1 (by omega)
  have cu : okC (N0.ln u) (N0.lm u) := okC_fitN hfu (by omega)
  have cw : okC (N0.ln w) (N0.lm w) := okC_fitN hfw (by omega)
  have cv : okC (N0.ln v) (N0.lm v) := okC_fitN hfv (by omega)
  have lu : N0.ln u ≤ 600 := ln_fit hfu
  have lw : N0.ln w ≤ 600 := ln_fit hfw
  have lv : N0.ln v ≤ 1000 := ln_fit hfv
  have k1 := canD_c hd1
  have k2 := canD_c hd2
  have k3 := near_c (s := N0.neg (tmI (u * v))) (t := N0.neg z) (n := N0.ln (tmI (u * v))) (m := N0.ln z) (cs := N0.lm (tmI (u * v))) (es := N0.lm z) hd1 hv1
  have k4 := near_c (s := N0.neg z) (t := N0.neg (tmI (w * v))) (n := N0.ln z) (m := N0.ln (tmI (w * v))) (cs := N0.lm z) (es := N0.lm (tmI (w * v))) hv1 hd2
  have b1 := dC_b hn1
  dsimp only at k1 k2 k3 k4 b1
 all_goals (repeat' (first
  | with_reducible exact hQ
  | with_reducible assumption
  | with_reducible refine okD_mk ?_ ?_ ?_
  | omega
  | with_reducible refine And.intro ?_ ?_))
 all_goals first
  | exact Post.b hQ (and_y (decide_eq_true hc_))
  | exact Post.b hQ (and_n (decide_eq_false hc_))
  | exact Post.b hQ (and_y hc_)
  | exact Post.b hQ (and_n hc_)
  | trace_state
theorem good_known9 : Good Tryz.prog (GWL [0, 1, 2, 3, 4, 5, 6]) N0 9 s_known9 := by
 refine goodM 0 (gl good_vOf rfl <| gl good_zPoint rfl <| gc good_hInv <| gc good_hMeet <| gc good_hHas <| gc good_hIs <| gc good_hSquare <| gl good_zEqual rfl <| gc good_hMid <| gl good_vEqual rfl <| gc good_hNorm <| gl good_qOf rfl <| gl good_yEqual rfl <| gc good_hSame gn) Tryz.f9 (by kernel_rfl) (by kernel_rfl) fun ds hp F A Q hF hA hQ => ?_
 have hp : ds = [] := hp
 subst hp
 ·have eI : ca ((0, 0), (1, 0)) = ((0, 0), (1, 0)) := ca_can cI
  have eJ : ca ((0, 0), (-1, 0)) = ((0, 0), (-1, 0)) := ca_can cJ
  have eM : ca ((-1, 0), (0, 0)) = ((-1, 0), (0, 0)) := ca_can cM1
  have fI := kI_inv
  have fe := kI_er
  have fe2 : er0 ((1, 0), (1, 0)) = 0 := by decide
  have f0 := k0_er
  have fm := kI_meet
  have fq := kI_sq
  have fn := kI_pn
  have fd := mid_pt cI
  have pI := cz_pt cI zI
  have pJ := cz_pt cJ zJ
  have pM := cz_pt cM1 zM1
  have p0 := cz_pt c00 ⟨sz_zero 1000 1320, sz_zero 1000 1320⟩
  have iI := pI.can.id
  have iJ := pJ.can.id
  have i0 := p0.can.id
  have hJ := kJ_has
  have sI := smP_pz pI
  have s0 := smP_pz p0
  have oI := sI.1.1
  have oJ := okP_pz pJ (by omega)
  have tI := toldP_pz pI (by omega)
  have tM := toldP_pz pM (by omega)
  have rI := canR_cz cI zI
  have rJ := canR_cz cJ zJ
  have rM := canR_cz cM1 zM1
  have r00 := canR_0
  have uJ := okR_cz cJ zJ
  have r11 := canR_c (r := ((1, 0), (1, 0))) ⟨one_n, one_n, fD_one.mono (by omega) (by omega), fD_one.mono (by omega) (by omega)⟩
  have oD1 := okE_fit (e := 0) (fit_1k 10000 (by omega)) (by omega)
  obtain ⟨I, hI⟩ : ∃ I : Re, I = ((0, 0), (1, 0)) := ⟨_, rfl⟩
  cbv
  repeat' (first | with_reducible refine And.intro ?_ ?_ | (with_reducible refine safe_lift hA ?_; kernel_rfl) | (intro hc_; (first | (with_reducible exfalso; clear hQ; subst hF hA; simp only [fnOf, find, std, reduceIte, Nat.reduceEqDiff, sp1, sp2, a1, a2, s_vOf, s_zPoint, s_hInv, s_hMeet, s_hHas, s_hIs, s_hSquare, s_zEqual, s_hMid, s_vEqual, s_hNorm, s_qOf, s_yEqual, s_hSame, re4, re8, rv_N0, rv8_pair, rv_0, dz, Prod.eta, min_if, Int.reduceNeg, beq_dec, eq_self, decide_true, Bool.not_true, Bool.not_false, Bool.true_eq_false, gt_iff_lt, s_uOf, kI_is, k1, k1e, fe2, eI, eJ, eM, fI, f0, fm, fq, fn, fd, iI, i0, hJ] at hc_; done) | (clear hc_; cbv))))
  all_goals subst hF hA
  all_goals (try simp only [fnOf, find, reduceIte, Nat.reduceEqDiff, sp1, sp2, a1, a2, FnSpec.out, Shape.build, leafCells, oneOf, s_known9, s_vOf, s_zPoint, s_hInv, s_hMeet, s_hHas, s_hIs, s_hSquare, s_zEqual, s_hMid, s_vEqual, s_hNorm, s_qOf, s_yEqual, s_hSame, re4, re8, rv_N0, rv8_pair, rv_0, dz, Prod.eta, Int.reduceNeg, Int.reduceLE, eq_self, decide_true, and_true, and_self, Bool.and_self, s_uOf, k1, k1e, eI, eJ, eM, fI, fq, fn, fd, iI] at hQ ⊢)
  all_goals (repeat' (first
   | with_reducible exact hQ
   | with_reducible assumption
   | with_reducible exact isi_int _ _
   | with_reducible exact True.intro
   | (with_reducible refine toldP_c (x := (_, _)) ?_ ?_ <;> with_reducible assumption)
   | (with_reducible refine canR_c (r := ((_, _), (_, _))) ?_; with_reducible assumption)
   | omega
   | with_reducible refine And.intro ?_ ?_))
end Go.Proofs.YtkfojbelnemhbaaGreatDoor.Ev
