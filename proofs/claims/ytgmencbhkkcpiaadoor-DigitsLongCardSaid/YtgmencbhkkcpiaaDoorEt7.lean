/- A law of digits: DigitsLong. -/
import Derived.Test.YtgmencbhkkcpiaaDoorEt4
namespace Go.Proofs.YtgmencbhkkcpiaaDoor.Ev
open Go Go.RowKit
set_option linter.unusedSimpArgs false
set_option linter.unusedVariables false
/-- where a long text of digits stops being a number. -/
theorem fau_long {s : Bool} {l : List UInt8} (h : Wr l) (h0 : (l.headD 0).toNat ≠ 48) : fau (sgT s l) = if l.length ≤ 400 then ((sgT s l).size, 0) else ((if s then 1 else 0) + 400, 14) := by
  have hd := wr45 h
  obtain ⟨h1, h2, h3⟩ := h
  have hf := sgT_frm (s := s) hd
  have hsz := sgT_size s l
  have hlen : 0 < l.length := List.length_pos_iff.2 h2
  rw [head_getD] at h0
  have key : ∀ i, i < l.length → i < 400 → stb (sgT s l) (if s then 1 else 0) ((if s then 1 else 0) + i) = true := by
    intro i hi hi4
    have hb := h1 (l.getD i 0) (by rw [List.getD_eq_getElem?_getD, List.getElem?_eq_getElem hi]; exact List.getElem_mem hi)
    rw [stb_sgT, if_neg (by omega), if_neg (by omega)]
    split
    · rw [decide_eq_true h0]; rfl
    · exact decide_eq_true h0
  by_cases hl : l.length ≤ 400
  · rw [if_pos hl]
    refine fau_is (.inr ⟨fun j hj1 hj2 => ?_, rfl, ?_⟩)
    · rw [hf] at hj1 ⊢
      obtain ⟨i, rfl⟩ : ∃ i, j = (if s then 1 else 0) + i := ⟨j - (if s then 1 else 0), by omega⟩
      rw [hsz] at hj2
      exact key i (by omega) (by omega)
    · rw [if_neg (by rw [hf, hsz]; omega)]
  · rw [if_neg hl]
    refine fau_is (.inl ⟨by rw [hsz]; omega, by rw [hf]; omega, fun j hj1 hj2 => ?_, ?_, rfl⟩)
    · rw [hf] at hj1 ⊢
      obtain ⟨i, rfl⟩ : ∃ i, j = (if s then 1 else 0) + i := ⟨j - (if s then 1 else 0), by omega⟩
      exact key i (by omega) (by omega)
    · have hb := h1 (l.getD 400 0) (by rw [List.getD_eq_getElem?_getD, List.getElem?_eq_getElem (by omega)]; exact List.getElem_mem (by omega))
      rw [hf, stb_sgT, if_neg (by omega), if_pos (Nat.le_refl _)]
/-- its number written again. -/
theorem text_long {s : Bool} {l : List UInt8} (h : Wr l) (h0 : (l.headD 0).toNat ≠ 48) : ntx 10 (zs (sgT s l)) = sgT s l := by
  have hn : lval l ≠ 0 := by
    intro h9
    have h8 := tx0_lval h
    rw [h9] at h8
    have : tx0 10 0 = [48] := rfl
    rw [this] at h8
    rw [← h8] at h0
    exact h0 rfl
  rw [sgT_zs (wr45 h), ntx_sgT]
  have e1 : (sgn s (lval l)).natAbs = lval l := by cases s <;> simp [sgn]
  have e2 : decide (sgn s (lval l) < 0) = s := by
    cases s
    · exact decide_eq_false (by simp [sgn])
    · exact decide_eq_true (by simp [sgn]; omega)
  rw [e1, e2, tx0_lval h]
theorem pow16 (n : Nat) : 10 ^ n ≤ 2 ^ (4 * n) := by
  rw [Nat.pow_mul]
  exact Nat.pow_le_pow_left (by decide) n
theorem fit_long {s : Bool} {l : List UInt8} (h : Wr l) (hl : l.length ≤ 400) {K : Nat} (hK : K = 1600) : Fit (zs (sgT s l)) K := by
  rw [sgT_zs (wr45 h)]
  have e1 : (sgn s (lval l)).natAbs = lval l := by cases s <;> simp [sgn]
  unfold Fit
  rw [e1]
  refine Nat.lt_of_lt_of_le (lval_lt h.1) (Nat.le_trans (pow16 _) ?_)
  exact Nat.pow_le_pow_right (by decide) (by omega)
/-- the i-th byte. -/
def lgB (c : Int) (i : Nat) : Int := 48 + (c + i) % 256 % 10
theorem lgB_in (c : Int) (i : Nat) : 48 ≤ lgB c i ∧ lgB c i ≤ 57 := by unfold lgB; omega
theorem wrap_u8 (z : Int) : IntKind.u8.wrap z = z % 256 := by
  simp only [IntKind.wrap, IntKind.signed, IntKind.bits, Bool.false_and, Bool.false_eq_true, if_false]
  omega
theorem lgB_is {c : Int} (i : Nat) : IntKind.u8.wrap (48 + (IntKind.u8.wrap (c + IntKind.u8.wrap (i : Int))).tmod 10) = lgB c i := by
  have e : (IntKind.u8.wrap (c + IntKind.u8.wrap (i : Int))).tmod 10 = (c + i) % 256 % 10 := by
    rw [Int.tmod_eq_emod_of_nonneg (by rw [wrap_u8]; omega), wrap_u8, wrap_u8]
    omega
  rw [e, wrap_u8]
  unfold lgB
  omega
def lgC (c : Int) (N i : Nat) : List D := (List.range i).map (fun j => D.int .u8 (lgB c j)) ++ List.replicate (N - i) (D.int .u8 0)
theorem lgC_len (c : Int) {N i : Nat} (h : i ≤ N) : (lgC c N i).length = N := by unfold lgC; simp; omega
theorem lgC_put (c : Int) {N i : Nat} (h : i < N) : patch (lgC c N i) i [D.int .u8 (lgB c i)] = lgC c N (i + 1) := by
  have hl : ((List.range i).map (fun j => D.int .u8 (lgB c j))).length = i := by simp
  unfold patch lgC
  rw [List.take_left' hl, List.range_succ, List.map_append, show N - i = (N - (i + 1)) + 1 by omega, List.replicate_succ]
  have hd : (((List.range i).map (fun j => D.int .u8 (lgB c j))) ++ (D.int .u8 0 :: List.replicate (N - (i + 1)) (D.int .u8 0))).drop (i + [D.int .u8 (lgB c i)].length) = List.replicate (N - (i + 1)) (D.int .u8 0) := by
    rw [List.drop_append, hl]
    rw [List.drop_of_length_le (by rw [hl]; simp)]
    simp
  rw [hd]
  simp
/-- all of it: the first byte, the others. -/
def lgF (c : Int) (N : Nat) : List D := D.int .u8 (49 + c % 9) :: (List.range (N - 1)).map fun j => D.int .u8 (lgB c (j + 1))
theorem lgF_is (c : Int) {N : Nat} (h : 1 ≤ N) : patch (lgC c N N) 0 [D.int .u8 (49 + c % 9)] = lgF c N := by
  obtain ⟨M, rfl⟩ : ∃ M, N = M + 1 := ⟨N - 1, by omega⟩
  unfold patch lgC lgF
  rw [Nat.sub_self]
  simp [List.range_succ_eq_map, Function.comp_def]
def lgl (c : Int) (N : Nat) : List UInt8 := (lgF c N).map fun d => UInt8.ofNat d.num.toNat
theorem u8_of {z : Int} (h0 : 0 ≤ z) (h1 : z ≤ 255) : ((UInt8.ofNat z.toNat).toNat : Int) = z := by
  rw [UInt8.toNat_ofNat']
  omega
theorem lg_facts {c : Int} (hc : 0 ≤ c ∧ c ≤ 255) {N : Nat} (hN : 1 ≤ N) :
    (lgF c N).length = N ∧ (lgF c N).all D.isU8 = true ∧ std.strL (lgF c N) = sgT false (lgl c N) ∧ Wr (lgl c N) ∧ (lgl c N).length = N ∧ ((lgl c N).headD 0).toNat ≠ 48 := by
  have hl : (lgF c N).length = N := by unfold lgF; simp; omega
  have hh : (((lgl c N).headD 0).toNat : Int) = 49 + c % 9 := by
    show (((UInt8.ofNat (49 + c % 9).toNat)).toNat : Int) = _
    exact u8_of (by omega) (by omega)
  refine ⟨hl, ?_, ?_, ⟨?_, ?_, .inr (by omega)⟩, by unfold lgl; rw [List.length_map, hl], by omega⟩
  · unfold lgF
    simp [List.all_cons, D.isU8]
  · show strOfNums _ = _
    unfold strOfNums sgT lgl
    rw [List.map_map]
    rfl
  · intro x hx
    unfold lgl lgF at hx
    rw [List.map_cons, List.mem_cons, List.map_map] at hx
    rcases hx with rfl | hx
    · have := u8_of (z := 49 + c % 9) (by omega) (by omega)
      show 48 ≤ (UInt8.ofNat (49 + c % 9).toNat).toNat ∧ (UInt8.ofNat (49 + c % 9).toNat).toNat ≤ 57
      omega
    · obtain ⟨j, _, rfl⟩ := List.mem_map.1 hx
      have hb := lgB_in c (j + 1)
      have := u8_of (z := lgB c (j + 1)) (by omega) (by omega)
      show 48 ≤ (UInt8.ofNat (lgB c (j + 1)).toNat).toNat ∧ (UInt8.ofNat (lgB c (j + 1)).toNat).toNat ≤ 57
      omega
  · unfold lgl lgF; simp
theorem lg_minus (l : List UInt8) : (⟨⟨[45]⟩⟩ : ByteArray) ++ sgT false l = sgT true l := by
  unfold sgT
  exact cat_two _ _
/-- what is known in a round, and behind the last one. -/
theorem long_rounds {c : Int} {N : Nat} (hN : 1 ≤ N) (hN2 : N ≤ 401) {J : Nat → Int} (hJ : ∀ i : Nat, J i = (i : Int)) {L : Nat → List D} (hL : ∀ i, L i = lgC c N i) {FC : List D} (hF : lgF c N = FC) (i : Nat) (hi : i ≤ N) {P : Prop}
    (h1 : (J i < (N : Int)) = True → IntKind.i64.wrap (J i + 1) = J (i + 1) → IntKind.u8.wrap (48 + (IntKind.u8.wrap (c + IntKind.u8.wrap (J i))).tmod 10) = lgB c i → patch (L i) (J i).toNat [D.int .u8 (lgB c i)] = L (i + 1) → (L i).length = N → i < N → 0 ≤ J i → J i < (N : Int) → (J i).toNat + 1 ≤ N → P)
    (h2 : (J i < (N : Int)) = False → (L i).length = N → patch (L i) 0 [D.int .u8 (49 + c % 9)] = FC → P) : P := by
  have hj : J i = (i : Int) := hJ i
  have hl : (L i).length = N := by rw [hL]; exact lgC_len c hi
  rcases Nat.lt_or_ge i N with hlt | hge
  · refine h1 (eq_true (by rw [hj]; omega)) ?_ ?_ ?_ hl hlt (by rw [hj]; omega) (by rw [hj]; omega) (by rw [hj]; omega)
    · rw [hj, hJ (i + 1)]; exact wrap_in (by omega) (by omega)
    · rw [hj]; exact lgB_is i
    · rw [hj, hL, hL]; exact lgC_put c hlt
  · obtain rfl : i = N := by omega
    exact h2 (eq_false (by rw [hj]; omega)) hl (by rw [hL, ← hF]; exact lgF_is c hN)
theorem lg_zero (c : Int) (N : Nat) : (List.replicate N [D.int .u8 0]).flatten = lgC c N 0 := by
  unfold lgC
  simp
theorem lg_first {c : Int} (hc : 0 ≤ c ∧ c ≤ 255) : IntKind.u8.wrap (49 + c.tmod 9) = 49 + c % 9 := by
  rw [Int.tmod_eq_emod_of_nonneg hc.1, wrap_u8]; omega
def mkCtxW (ti : Nat → Option TI) (gt : Nat → Option (List D)) (shs : List (Nat × Shape)) (F : Ltr) (A : Alg) : Ctx :=
  { ti := ti, gt := gt, call := fun f ds => (findS f shs).map fun sh => (F.p f ds, sh.build (F.lets f ds)), A := A, arr := true }
theorem goodW {l : List Nat} {tab : List (Nat × FnSpec)} {shs : List (Nat × Shape)} (hs : tab.map (fun p => (p.1, p.2.sh)) = shs) (hg : Goods Tryd.prog (GD l) N0 tab)
    {f : Nat} (fn : Func) (hf : Tryd.prog.funcs[f]? = some fn) (hn : (fn.name == "runtime.NumGoroutine") = false) (hb : fn.body.isSome = true) {s : FnSpec}
    (h : ∀ ds, s.p ds → ∀ (F : Ltr) (A : Alg) (Q : Post), F = fnOf N0 tab → A = std → Q.R (s.out N0 ds) → ∃ fuel, ev (mkCtxW ti (gtL l) shs F A) fuel (fn.body.getD .skip) (start fn.ntmps ds) (ends (mkCtxW ti (gtL l) shs F A) fn.results.toList Q.R)) : Good Tryd.prog (GD l) N0 f s := by
  obtain ⟨c, hc⟩ := Option.isSome_iff_exists.1 hb
  refine ⟨⟨fn, c, hf, hn, hc⟩, fun ds hp => ?_⟩
  obtain ⟨fuel, hv⟩ := h ds hp (fnOf N0 tab) std ⟨(· = s.out N0 ds)⟩ rfl rfl rfl
  rw [hc] at hv
  have h0 := mkCtx_ok (gt := gtL l) ti_ok (fun w h => gtL_ok w h.g) (GD.bel l) hg hs
  have h1 : (mkCtxW ti (gtL l) shs (fnOf N0 tab) std).ok Tryd.prog (GD l) := ⟨ti_ok, rfl, GD.bel l, fun w h => gtL_ok w h.g, h0.call, fun f x h => by cases h⟩
  exact sound_iff.1 <| sound h1 mixed hf hc fuel hv
def s_DigitsLong : FnSpec := ⟨.one .b, fun ds => match ds with | [.int .u8 m, .int .u8 c, .bool b] => (0 ≤ m ∧ m ≤ 255) ∧ 0 ≤ c ∧ c ≤ 255 | _ => False, fun _ _ => 0, fun _ _ => true, fun _ _ => 0, fun _ _ => []⟩
theorem DigitsLong_arg {ds : List D} (h : s_DigitsLong.p ds) : ∃ m c b, ds = [.int .u8 m, .int .u8 c, .bool b] ∧ (0 ≤ m ∧ m ≤ 255) ∧ 0 ≤ c ∧ c ≤ 255 := by
  unfold s_DigitsLong at h
  dsimp only at h
  split at h
  · exact ⟨_, _, _, rfl, h⟩
  · exact h.elim
theorem patch_std (cs ds : List D) (k : Nat) : std.putL cs k ds = patch cs k ds := rfl
set_option maxRecDepth 100000 in
set_option maxHeartbeats 16000000 in
theorem good_DigitsLong : Good Tryd.prog (GD [0]) N0 4 s_DigitsLong := by
  refine goodW (l := [0]) (tab := [(5, s_known3), (6, s_gParse), (8, s_gText)]) (shs := [(5, .one .b), (6, .tup [(true, [.I]), (false, [.i .i64]), (false, [.i .i64])]), (8, .one .T)]) rfl ⟨good_known3, good_gParse, good_gText, trivial⟩ Tryd.f4 (by kernel_rfl) (by kernel_rfl) (by kernel_rfl) (fun ds hp F A Q hF_ hA hQ => ⟨0, ?_⟩)
  obtain ⟨m, c, b, rfl, hm, hc⟩ := DigitsLong_arg hp
  clear hp
  rcases Bool.eq_false_or_eq_true b with rfl | rfl
  · obtain ⟨U, hU⟩ : ∃ U : Int, m.tmod 3 = U := ⟨_, rfl⟩
    have hU2 : 0 ≤ U ∧ U ≤ 2 := by rw [← hU, Int.tmod_eq_emod_of_nonneg hm.1]; omega
    obtain ⟨N, hN⟩ : ∃ N : Nat, 400 + U - 1 = (N : Int) := ⟨(400 + U - 1).toNat, by omega⟩
    have hN1 : 1 ≤ N := by omega
    have hN2 : N ≤ 401 := by omega
    have w1 : IntKind.i64.wrap U = U := wrap_in (by omega) (by omega)
    have w2 : IntKind.i64.wrap (400 + U) = 400 + U := wrap_in (by omega) (by omega)
    have w3 : IntKind.i64.wrap (400 + U - 1) = (N : Int) := by rw [hN]; exact wrap_in (by omega) (by omega)
    have hfst := lg_first hc
    obtain ⟨J, hJ⟩ : ∃ J : Nat → Int, ∀ i : Nat, J i = (i : Int) := ⟨_, fun _ => rfl⟩
    have j0 : J 0 = 0 := hJ 0
    obtain ⟨L, hL⟩ : ∃ L : Nat → List D, ∀ i, L i = lgC c N i := ⟨_, fun _ => rfl⟩
    have l0 : (List.replicate N [D.int .u8 0]).flatten = L 0 := by rw [hL]; exact lg_zero c N
    obtain ⟨f1, f2, f3, f4, f5, f6⟩ := lg_facts hc hN1
    obtain ⟨FC, hF⟩ : ∃ FC, lgF c N = FC := ⟨_, rfl⟩
    obtain ⟨l, hl⟩ : ∃ l, lgl c N = l := ⟨_, rfl⟩
    rw [hF] at f1 f2 f3
    replace f3 : strOfNums (List.map D.num FC) = sgT false (lgl c N) := f3
    rw [hl] at f3 f4 f5 f6
    have f7 : FC.take N = FC := List.take_of_length_le (by omega)
    have HR := long_rounds hN1 hN2 hJ hL hF
    have hfau := fau_long (s := true) f4 f6
    have htxt := text_long (s := true) f4 f6
    have hmin := lg_minus l
    have hsz0 : (sgT false l).size = N := by rw [sgT_size]; simp [f5]
    have hszb := sgT_size true l
    rw [f5] at hszb hfau
    rcases Nat.lt_or_ge 400 N with k4 | k4
    · have h4 : N = 401 := by omega
      have g400 : ((400 : Int) < (N : Int)) = True := eq_true (by omega)
      rw [if_neg (by omega)] at hfau
      replace hfau : fau (sgT true l) = (401, 14) := hfau
      have c40 : (((400 : Nat) : Int) == 400) = true := rfl
      have c41 : (((401 : Nat) : Int) == 401) = true := rfl
      have w4 : IntKind.i64.wrap (400 + 1) = 401 := rfl
      have e1 : ByteArray.size { data := { toList := [45] } } = 1 := rfl
      have mx := max_i64
      cbv
      repeat' (first | with_reducible refine And.intro ?_ ?_ | (with_reducible refine safe_lift hA ?_; kernel_rfl) | (with_reducible refine loop_by (fun i st => (st.setT 8 (.int .i64 (J i))).setC 0 (L i)) N ?_ (fun i hi => HR i hi (fun r1 r2 r3 r4 r5 r6 r7 r8 r9 => ?_) (fun s1 s2 s3 => ?_)) <;> cbv) | (intro hc_; (first | (with_reducible exfalso; clear hQ; subst hF_ hA; first | (simp only [fnOf, find, std, reduceIte, Nat.reduceEqDiff, sp1, sp2, a1, a2, FnSpec.out, Shape.build, leafs, leafCells, tups, oneOf, List.cons_append, List.nil_append, List.length_cons, List.length_nil, strOf, s_DigitsLong, s_known3, s_gParse, s_gText, dm_raw, dm_N0, dz, dcn, vI_N0, sameI_N0, eq_self, Bool.not_eq_eq_eq_not, decide_eq_true_eq, decide_eq_false_iff_not, not_true_eq_false, not_false_eq_true, decide_true, decide_false, Bool.true_and, Bool.and_true, Bool.not_true, Bool.not_false, beq_self_eq_true, Bool.true_eq_false, Bool.false_eq_true, reduceCtorEq, gt_iff_lt, ge_iff_le, true_and, and_true, and_self, Bool.and_self, Int.reduceNeg, Int.reduceEq, Int.reduceLT, Int.reduceLE, Int.reduceBEq, hU, w1, w2, w3, hfst, j0, l0, f1, f2, f3, f7, hfau, hmin, hsz0, hszb, g400, Int.toNat_natCast, Nat.zero_add, Nat.mul_one, Int.toNat_zero, Nat.add_zero, patch_std, c40, c41, w4, e1, r1, r2, r3, r4, r5] at hc_; done) | (simp only [fnOf, find, std, reduceIte, Nat.reduceEqDiff, sp1, sp2, a1, a2, FnSpec.out, Shape.build, leafs, leafCells, tups, oneOf, List.cons_append, List.nil_append, List.length_cons, List.length_nil, strOf, s_DigitsLong, s_known3, s_gParse, s_gText, dm_raw, dm_N0, dz, dcn, vI_N0, sameI_N0, eq_self, Bool.not_eq_eq_eq_not, decide_eq_true_eq, decide_eq_false_iff_not, not_true_eq_false, not_false_eq_true, decide_true, decide_false, Bool.true_and, Bool.and_true, Bool.not_true, Bool.not_false, beq_self_eq_true, Bool.true_eq_false, Bool.false_eq_true, reduceCtorEq, gt_iff_lt, ge_iff_le, true_and, and_true, and_self, Bool.and_self, Int.reduceNeg, Int.reduceEq, Int.reduceLT, Int.reduceLE, Int.reduceBEq, hU, w1, w2, w3, hfst, j0, l0, f1, f2, f3, f7, hfau, hmin, hsz0, hszb, g400, Int.toNat_natCast, Nat.zero_add, Nat.mul_one, Int.toNat_zero, Nat.add_zero, patch_std, c40, c41, w4, e1, s1, s2, s3] at hc_; done) | (simp only [fnOf, find, std, reduceIte, Nat.reduceEqDiff, sp1, sp2, a1, a2, FnSpec.out, Shape.build, leafs, leafCells, tups, oneOf, List.cons_append, List.nil_append, List.length_cons, List.length_nil, strOf, s_DigitsLong, s_known3, s_gParse, s_gText, dm_raw, dm_N0, dz, dcn, vI_N0, sameI_N0, eq_self, Bool.not_eq_eq_eq_not, decide_eq_true_eq, decide_eq_false_iff_not, not_true_eq_false, not_false_eq_true, decide_true, decide_false, Bool.true_and, Bool.and_true, Bool.not_true, Bool.not_false, beq_self_eq_true, Bool.true_eq_false, Bool.false_eq_true, reduceCtorEq, gt_iff_lt, ge_iff_le, true_and, and_true, and_self, Bool.and_self, Int.reduceNeg, Int.reduceEq, Int.reduceLT, Int.reduceLE, Int.reduceBEq, hU, w1, w2, w3, hfst, j0, l0, f1, f2, f3, f7, hfau, hmin, hsz0, hszb, g400, Int.toNat_natCast, Nat.zero_add, Nat.mul_one, Int.toNat_zero, Nat.add_zero, patch_std, c40, c41, w4, e1] at hc_; done)) | (clear hc_; cbv))))
      all_goals subst hF_ hA
      all_goals (try first | simp only [fnOf, find, std, reduceIte, Nat.reduceEqDiff, sp1, sp2, a1, a2, FnSpec.out, Shape.build, leafs, leafCells, tups, oneOf, List.cons_append, List.nil_append, List.length_cons, List.length_nil, strOf, s_DigitsLong, s_known3, s_gParse, s_gText, dm_raw, dm_N0, dz, dcn, vI_N0, sameI_N0, eq_self, Bool.not_eq_eq_eq_not, decide_eq_true_eq, decide_eq_false_iff_not, not_true_eq_false, not_false_eq_true, decide_true, decide_false, Bool.true_and, Bool.and_true, Bool.not_true, Bool.not_false, beq_self_eq_true, Bool.true_eq_false, Bool.false_eq_true, reduceCtorEq, gt_iff_lt, ge_iff_le, true_and, and_true, and_self, Bool.and_self, Int.reduceNeg, Int.reduceEq, Int.reduceLT, Int.reduceLE, Int.reduceBEq, hU, w1, w2, w3, hfst, j0, l0, f1, f2, f3, f7, hfau, hmin, hsz0, hszb, g400, Int.toNat_natCast, Nat.zero_add, Nat.mul_one, Int.toNat_zero, Nat.add_zero, patch_std, c40, c41, w4, e1, r1, r2, r3, r4, r5] at hQ ⊢ | simp only [fnOf, find, std, reduceIte, Nat.reduceEqDiff, sp1, sp2, a1, a2, FnSpec.out, Shape.build, leafs, leafCells, tups, oneOf, List.cons_append, List.nil_append, List.length_cons, List.length_nil, strOf, s_DigitsLong, s_known3, s_gParse, s_gText, dm_raw, dm_N0, dz, dcn, vI_N0, sameI_N0, eq_self, Bool.not_eq_eq_eq_not, decide_eq_true_eq, decide_eq_false_iff_not, not_true_eq_false, not_false_eq_true, decide_true, decide_false, Bool.true_and, Bool.and_true, Bool.not_true, Bool.not_false, beq_self_eq_true, Bool.true_eq_false, Bool.false_eq_true, reduceCtorEq, gt_iff_lt, ge_iff_le, true_and, and_true, and_self, Bool.and_self, Int.reduceNeg, Int.reduceEq, Int.reduceLT, Int.reduceLE, Int.reduceBEq, hU, w1, w2, w3, hfst, j0, l0, f1, f2, f3, f7, hfau, hmin, hsz0, hszb, g400, Int.toNat_natCast, Nat.zero_add, Nat.mul_one, Int.toNat_zero, Nat.add_zero, patch_std, c40, c41, w4, e1, s1, s2, s3] at hQ ⊢ | simp only [fnOf, find, std, reduceIte, Nat.reduceEqDiff, sp1, sp2, a1, a2, FnSpec.out, Shape.build, leafs, leafCells, tups, oneOf, List.cons_append, List.nil_append, List.length_cons, List.length_nil, strOf, s_DigitsLong, s_known3, s_gParse, s_gText, dm_raw, dm_N0, dz, dcn, vI_N0, sameI_N0, eq_self, Bool.not_eq_eq_eq_not, decide_eq_true_eq, decide_eq_false_iff_not, not_true_eq_false, not_false_eq_true, decide_true, decide_false, Bool.true_and, Bool.and_true, Bool.not_true, Bool.not_false, beq_self_eq_true, Bool.true_eq_false, Bool.false_eq_true, reduceCtorEq, gt_iff_lt, ge_iff_le, true_and, and_true, and_self, Bool.and_self, Int.reduceNeg, Int.reduceEq, Int.reduceLT, Int.reduceLE, Int.reduceBEq, hU, w1, w2, w3, hfst, j0, l0, f1, f2, f3, f7, hfau, hmin, hsz0, hszb, g400, Int.toNat_natCast, Nat.zero_add, Nat.mul_one, Int.toNat_zero, Nat.add_zero, patch_std, c40, c41, w4, e1] at hQ ⊢)
      all_goals (repeat' (first
      | with_reducible exact hQ
      | with_reducible assumption
      | with_reducible exact isi_int3 _ _
      | with_reducible exact True.intro
      | with_reducible refine okI_mk3 ?_
      | decide
      | omega
      | with_reducible refine And.intro ?_ ?_))
      all_goals (first | exact r6 | exact Nat.le_trans (show _ ≤ 402 by omega) (show 402 ≤ maxLen by decide))
    · have h4 : N ≤ 400 := k4
      have g400 : ((400 : Int) < (N : Int)) = False := eq_false (by omega)
      rw [if_pos h4] at hfau
      have fZ := fit_long (s := true) f4 (by omega) (K := 1600) rfl
      obtain ⟨Z, hZ⟩ : ∃ Z, zs (sgT true l) = Z := ⟨_, rfl⟩
      rw [hZ] at fZ htxt
      have oZ : okC (N0.ln Z) (N0.lm Z) := okC_512 fZ (by omega)
      have lZ : N0.ln Z ≤ 1000 := ln_512 fZ (by omega)
      have e1 : ByteArray.size { data := { toList := [45] } } = 1 := rfl
      have mx := max_i64
      cbv
      repeat' (first | with_reducible refine And.intro ?_ ?_ | (with_reducible refine safe_lift hA ?_; kernel_rfl) | (with_reducible refine loop_by (fun i st => (st.setT 8 (.int .i64 (J i))).setC 0 (L i)) N ?_ (fun i hi => HR i hi (fun r1 r2 r3 r4 r5 r6 r7 r8 r9 => ?_) (fun s1 s2 s3 => ?_)) <;> cbv) | (intro hc_; (first | (with_reducible exfalso; clear hQ; subst hF_ hA; first | (simp only [fnOf, find, std, reduceIte, Nat.reduceEqDiff, sp1, sp2, a1, a2, FnSpec.out, Shape.build, leafs, leafCells, tups, oneOf, List.cons_append, List.nil_append, List.length_cons, List.length_nil, strOf, s_DigitsLong, s_known3, s_gParse, s_gText, dm_raw, dm_N0, dz, dcn, vI_N0, sameI_N0, eq_self, Bool.not_eq_eq_eq_not, decide_eq_true_eq, decide_eq_false_iff_not, not_true_eq_false, not_false_eq_true, decide_true, decide_false, Bool.true_and, Bool.and_true, Bool.not_true, Bool.not_false, beq_self_eq_true, Bool.true_eq_false, Bool.false_eq_true, reduceCtorEq, gt_iff_lt, ge_iff_le, true_and, and_true, and_self, Bool.and_self, Int.reduceNeg, Int.reduceEq, Int.reduceLT, Int.reduceLE, Int.reduceBEq, hU, w1, w2, w3, hfst, j0, l0, f1, f2, f3, f7, hfau, hmin, hsz0, hszb, g400, Int.toNat_natCast, Nat.zero_add, Nat.mul_one, Int.toNat_zero, Nat.add_zero, patch_std, hZ, htxt, e1, r1, r2, r3, r4, r5] at hc_; done) | (simp only [fnOf, find, std, reduceIte, Nat.reduceEqDiff, sp1, sp2, a1, a2, FnSpec.out, Shape.build, leafs, leafCells, tups, oneOf, List.cons_append, List.nil_append, List.length_cons, List.length_nil, strOf, s_DigitsLong, s_known3, s_gParse, s_gText, dm_raw, dm_N0, dz, dcn, vI_N0, sameI_N0, eq_self, Bool.not_eq_eq_eq_not, decide_eq_true_eq, decide_eq_false_iff_not, not_true_eq_false, not_false_eq_true, decide_true, decide_false, Bool.true_and, Bool.and_true, Bool.not_true, Bool.not_false, beq_self_eq_true, Bool.true_eq_false, Bool.false_eq_true, reduceCtorEq, gt_iff_lt, ge_iff_le, true_and, and_true, and_self, Bool.and_self, Int.reduceNeg, Int.reduceEq, Int.reduceLT, Int.reduceLE, Int.reduceBEq, hU, w1, w2, w3, hfst, j0, l0, f1, f2, f3, f7, hfau, hmin, hsz0, hszb, g400, Int.toNat_natCast, Nat.zero_add, Nat.mul_one, Int.toNat_zero, Nat.add_zero, patch_std, hZ, htxt, e1, s1, s2, s3] at hc_; done) | (simp only [fnOf, find, std, reduceIte, Nat.reduceEqDiff, sp1, sp2, a1, a2, FnSpec.out, Shape.build, leafs, leafCells, tups, oneOf, List.cons_append, List.nil_append, List.length_cons, List.length_nil, strOf, s_DigitsLong, s_known3, s_gParse, s_gText, dm_raw, dm_N0, dz, dcn, vI_N0, sameI_N0, eq_self, Bool.not_eq_eq_eq_not, decide_eq_true_eq, decide_eq_false_iff_not, not_true_eq_false, not_false_eq_true, decide_true, decide_false, Bool.true_and, Bool.and_true, Bool.not_true, Bool.not_false, beq_self_eq_true, Bool.true_eq_false, Bool.false_eq_true, reduceCtorEq, gt_iff_lt, ge_iff_le, true_and, and_true, and_self, Bool.and_self, Int.reduceNeg, Int.reduceEq, Int.reduceLT, Int.reduceLE, Int.reduceBEq, hU, w1, w2, w3, hfst, j0, l0, f1, f2, f3, f7, hfau, hmin, hsz0, hszb, g400, Int.toNat_natCast, Nat.zero_add, Nat.mul_one, Int.toNat_zero, Nat.add_zero, patch_std, hZ, htxt, e1] at hc_; done)) | (clear hc_; cbv))))
      all_goals subst hF_ hA
      all_goals (try first | simp only [fnOf, find, std, reduceIte, Nat.reduceEqDiff, sp1, sp2, a1, a2, FnSpec.out, Shape.build, leafs, leafCells, tups, oneOf, List.cons_append, List.nil_append, List.length_cons, List.length_nil, strOf, s_DigitsLong, s_known3, s_gParse, s_gText, dm_raw, dm_N0, dz, dcn, vI_N0, sameI_N0, eq_self, Bool.not_eq_eq_eq_not, decide_eq_true_eq, decide_eq_false_iff_not, not_true_eq_false, not_false_eq_true, decide_true, decide_false, Bool.true_and, Bool.and_true, Bool.not_true, Bool.not_false, beq_self_eq_true, Bool.true_eq_false, Bool.false_eq_true, reduceCtorEq, gt_iff_lt, ge_iff_le, true_and, and_true, and_self, Bool.and_self, Int.reduceNeg, Int.reduceEq, Int.reduceLT, Int.reduceLE, Int.reduceBEq, hU, w1, w2, w3, hfst, j0, l0, f1, f2, f3, f7, hfau, hmin, hsz0, hszb, g400, Int.toNat_natCast, Nat.zero_add, Nat.mul_one, Int.toNat_zero, Nat.add_zero, patch_std, hZ, htxt, e1, r1, r2, r3, r4, r5] at hQ ⊢ | simp only [fnOf, find, std, reduceIte, Nat.reduceEqDiff, sp1, sp2, a1, a2, FnSpec.out, Shape.build, leafs, leafCells, tups, oneOf, List.cons_append, List.nil_append, List.length_cons, List.length_nil, strOf, s_DigitsLong, s_known3, s_gParse, s_gText, dm_raw, dm_N0, dz, dcn, vI_N0, sameI_N0, eq_self, Bool.not_eq_eq_eq_not, decide_eq_true_eq, decide_eq_false_iff_not, not_true_eq_false, not_false_eq_true, decide_true, decide_false, Bool.true_and, Bool.and_true, Bool.not_true, Bool.not_false, beq_self_eq_true, Bool.true_eq_false, Bool.false_eq_true, reduceCtorEq, gt_iff_lt, ge_iff_le, true_and, and_true, and_self, Bool.and_self, Int.reduceNeg, Int.reduceEq, Int.reduceLT, Int.reduceLE, Int.reduceBEq, hU, w1, w2, w3, hfst, j0, l0, f1, f2, f3, f7, hfau, hmin, hsz0, hszb, g400, Int.toNat_natCast, Nat.zero_add, Nat.mul_one, Int.toNat_zero, Nat.add_zero, patch_std, hZ, htxt, e1, s1, s2, s3] at hQ ⊢ | simp only [fnOf, find, std, reduceIte, Nat.reduceEqDiff, sp1, sp2, a1, a2, FnSpec.out, Shape.build, leafs, leafCells, tups, oneOf, List.cons_append, List.nil_append, List.length_cons, List.length_nil, strOf, s_DigitsLong, s_known3, s_gParse, s_gText, dm_raw, dm_N0, dz, dcn, vI_N0, sameI_N0, eq_self, Bool.not_eq_eq_eq_not, decide_eq_true_eq, decide_eq_false_iff_not, not_true_eq_false, not_false_eq_true, decide_true, decide_false, Bool.true_and, Bool.and_true, Bool.not_true, Bool.not_false, beq_self_eq_true, Bool.true_eq_false, Bool.false_eq_true, reduceCtorEq, gt_iff_lt, ge_iff_le, true_and, and_true, and_self, Bool.and_self, Int.reduceNeg, Int.reduceEq, Int.reduceLT, Int.reduceLE, Int.reduceBEq, hU, w1, w2, w3, hfst, j0, l0, f1, f2, f3, f7, hfau, hmin, hsz0, hszb, g400, Int.toNat_natCast, Nat.zero_add, Nat.mul_one, Int.toNat_zero, Nat.add_zero, patch_std, hZ, htxt, e1] at hQ ⊢)
      all_goals (repeat' (first
      | with_reducible exact hQ
      | with_reducible assumption
      | with_reducible exact isi_int3 _ _
      | with_reducible exact True.intro
      | with_reducible refine okI_mk3 ?_
      | decide
      | omega
      | with_reducible refine And.intro ?_ ?_))
      all_goals (first | exact r6 | exact Nat.le_trans (show _ ≤ 402 by omega) (show 402 ≤ maxLen by decide))
  · obtain ⟨U, hU⟩ : ∃ U : Int, m.tmod 3 = U := ⟨_, rfl⟩
    have hU2 : 0 ≤ U ∧ U ≤ 2 := by rw [← hU, Int.tmod_eq_emod_of_nonneg hm.1]; omega
    obtain ⟨N, hN⟩ : ∃ N : Nat, 400 + U - 1 = (N : Int) := ⟨(400 + U - 1).toNat, by omega⟩
    have hN1 : 1 ≤ N := by omega
    have hN2 : N ≤ 401 := by omega
    have w1 : IntKind.i64.wrap U = U := wrap_in (by omega) (by omega)
    have w2 : IntKind.i64.wrap (400 + U) = 400 + U := wrap_in (by omega) (by omega)
    have w3 : IntKind.i64.wrap (400 + U - 1) = (N : Int) := by rw [hN]; exact wrap_in (by omega) (by omega)
    have hfst := lg_first hc
    obtain ⟨J, hJ⟩ : ∃ J : Nat → Int, ∀ i : Nat, J i = (i : Int) := ⟨_, fun _ => rfl⟩
    have j0 : J 0 = 0 := hJ 0
    obtain ⟨L, hL⟩ : ∃ L : Nat → List D, ∀ i, L i = lgC c N i := ⟨_, fun _ => rfl⟩
    have l0 : (List.replicate N [D.int .u8 0]).flatten = L 0 := by rw [hL]; exact lg_zero c N
    obtain ⟨f1, f2, f3, f4, f5, f6⟩ := lg_facts hc hN1
    obtain ⟨FC, hF⟩ : ∃ FC, lgF c N = FC := ⟨_, rfl⟩
    obtain ⟨l, hl⟩ : ∃ l, lgl c N = l := ⟨_, rfl⟩
    rw [hF] at f1 f2 f3
    replace f3 : strOfNums (List.map D.num FC) = sgT false (lgl c N) := f3
    rw [hl] at f3 f4 f5 f6
    have f7 : FC.take N = FC := List.take_of_length_le (by omega)
    have HR := long_rounds hN1 hN2 hJ hL hF
    have hfau := fau_long (s := false) f4 f6
    have htxt := text_long (s := false) f4 f6
    have hmin := lg_minus l
    have hsz0 : (sgT false l).size = N := by rw [sgT_size]; simp [f5]
    have hszb := sgT_size false l
    rw [f5] at hszb hfau
    rcases Nat.lt_or_ge 400 N with k4 | k4
    · have h4 : N = 401 := by omega
      have g400 : ((400 : Int) < (N : Int)) = True := eq_true (by omega)
      rw [if_neg (by omega)] at hfau
      replace hfau : fau (sgT false l) = (400, 14) := hfau
      have c40 : (((400 : Nat) : Int) == 400) = true := rfl
      have c41 : (((401 : Nat) : Int) == 401) = true := rfl
      have w4 : IntKind.i64.wrap (400 + 1) = 401 := rfl
      have e1 : ByteArray.size { data := { toList := [45] } } = 1 := rfl
      have mx := max_i64
      cbv
      repeat' (first | with_reducible refine And.intro ?_ ?_ | (with_reducible refine safe_lift hA ?_; kernel_rfl) | (with_reducible refine loop_by (fun i st => (st.setT 8 (.int .i64 (J i))).setC 0 (L i)) N ?_ (fun i hi => HR i hi (fun r1 r2 r3 r4 r5 r6 r7 r8 r9 => ?_) (fun s1 s2 s3 => ?_)) <;> cbv) | (intro hc_; (first | (with_reducible exfalso; clear hQ; subst hF_ hA; first | (simp only [fnOf, find, std, reduceIte, Nat.reduceEqDiff, sp1, sp2, a1, a2, FnSpec.out, Shape.build, leafs, leafCells, tups, oneOf, List.cons_append, List.nil_append, List.length_cons, List.length_nil, strOf, s_DigitsLong, s_known3, s_gParse, s_gText, dm_raw, dm_N0, dz, dcn, vI_N0, sameI_N0, eq_self, Bool.not_eq_eq_eq_not, decide_eq_true_eq, decide_eq_false_iff_not, not_true_eq_false, not_false_eq_true, decide_true, decide_false, Bool.true_and, Bool.and_true, Bool.not_true, Bool.not_false, beq_self_eq_true, Bool.true_eq_false, Bool.false_eq_true, reduceCtorEq, gt_iff_lt, ge_iff_le, true_and, and_true, and_self, Bool.and_self, Int.reduceNeg, Int.reduceEq, Int.reduceLT, Int.reduceLE, Int.reduceBEq, hU, w1, w2, w3, hfst, j0, l0, f1, f2, f3, f7, hfau, hmin, hsz0, hszb, g400, Int.toNat_natCast, Nat.zero_add, Nat.mul_one, Int.toNat_zero, Nat.add_zero, patch_std, c40, c41, w4, e1, r1, r2, r3, r4, r5] at hc_; done) | (simp only [fnOf, find, std, reduceIte, Nat.reduceEqDiff, sp1, sp2, a1, a2, FnSpec.out, Shape.build, leafs, leafCells, tups, oneOf, List.cons_append, List.nil_append, List.length_cons, List.length_nil, strOf, s_DigitsLong, s_known3, s_gParse, s_gText, dm_raw, dm_N0, dz, dcn, vI_N0, sameI_N0, eq_self, Bool.not_eq_eq_eq_not, decide_eq_true_eq, decide_eq_false_iff_not, not_true_eq_false, not_false_eq_true, decide_true, decide_false, Bool.true_and, Bool.and_true, Bool.not_true, Bool.not_false, beq_self_eq_true, Bool.true_eq_false, Bool.false_eq_true, reduceCtorEq, gt_iff_lt, ge_iff_le, true_and, and_true, and_self, Bool.and_self, Int.reduceNeg, Int.reduceEq, Int.reduceLT, Int.reduceLE, Int.reduceBEq, hU, w1, w2, w3, hfst, j0, l0, f1, f2, f3, f7, hfau, hmin, hsz0, hszb, g400, Int.toNat_natCast, Nat.zero_add, Nat.mul_one, Int.toNat_zero, Nat.add_zero, patch_std, c40, c41, w4, e1, s1, s2, s3] at hc_; done) | (simp only [fnOf, find, std, reduceIte, Nat.reduceEqDiff, sp1, sp2, a1, a2, FnSpec.out, Shape.build, leafs, leafCells, tups, oneOf, List.cons_append, List.nil_append, List.length_cons, List.length_nil, strOf, s_DigitsLong, s_known3, s_gParse, s_gText, dm_raw, dm_N0, dz, dcn, vI_N0, sameI_N0, eq_self, Bool.not_eq_eq_eq_not, decide_eq_true_eq, decide_eq_false_iff_not, not_true_eq_false, not_false_eq_true, decide_true, decide_false, Bool.true_and, Bool.and_true, Bool.not_true, Bool.not_false, beq_self_eq_true, Bool.true_eq_false, Bool.false_eq_true, reduceCtorEq, gt_iff_lt, ge_iff_le, true_and, and_true, and_self, Bool.and_self, Int.reduceNeg, Int.reduceEq, Int.reduceLT, Int.reduceLE, Int.reduceBEq, hU, w1, w2, w3, hfst, j0, l0, f1, f2, f3, f7, hfau, hmin, hsz0, hszb, g400, Int.toNat_natCast, Nat.zero_add, Nat.mul_one, Int.toNat_zero, Nat.add_zero, patch_std, c40, c41, w4, e1] at hc_; done)) | (clear hc_; cbv))))
      all_goals subst hF_ hA
      all_goals (try first | simp only [fnOf, find, std, reduceIte, Nat.reduceEqDiff, sp1, sp2, a1, a2, FnSpec.out, Shape.build, leafs, leafCells, tups, oneOf, List.cons_append, List.nil_append, List.length_cons, List.length_nil, strOf, s_DigitsLong, s_known3, s_gParse, s_gText, dm_raw, dm_N0, dz, dcn, vI_N0, sameI_N0, eq_self, Bool.not_eq_eq_eq_not, decide_eq_true_eq, decide_eq_false_iff_not, not_true_eq_false, not_false_eq_true, decide_true, decide_false, Bool.true_and, Bool.and_true, Bool.not_true, Bool.not_false, beq_self_eq_true, Bool.true_eq_false, Bool.false_eq_true, reduceCtorEq, gt_iff_lt, ge_iff_le, true_and, and_true, and_self, Bool.and_self, Int.reduceNeg, Int.reduceEq, Int.reduceLT, Int.reduceLE, Int.reduceBEq, hU, w1, w2, w3, hfst, j0, l0, f1, f2, f3, f7, hfau, hmin, hsz0, hszb, g400, Int.toNat_natCast, Nat.zero_add, Nat.mul_one, Int.toNat_zero, Nat.add_zero, patch_std, c40, c41, w4, e1, r1, r2, r3, r4, r5] at hQ ⊢ | simp only [fnOf, find, std, reduceIte, Nat.reduceEqDiff, sp1, sp2, a1, a2, FnSpec.out, Shape.build, leafs, leafCells, tups, oneOf, List.cons_append, List.nil_append, List.length_cons, List.length_nil, strOf, s_DigitsLong, s_known3, s_gParse, s_gText, dm_raw, dm_N0, dz, dcn, vI_N0, sameI_N0, eq_self, Bool.not_eq_eq_eq_not, decide_eq_true_eq, decide_eq_false_iff_not, not_true_eq_false, not_false_eq_true, decide_true, decide_false, Bool.true_and, Bool.and_true, Bool.not_true, Bool.not_false, beq_self_eq_true, Bool.true_eq_false, Bool.false_eq_true, reduceCtorEq, gt_iff_lt, ge_iff_le, true_and, and_true, and_self, Bool.and_self, Int.reduceNeg, Int.reduceEq, Int.reduceLT, Int.reduceLE, Int.reduceBEq, hU, w1, w2, w3, hfst, j0, l0, f1, f2, f3, f7, hfau, hmin, hsz0, hszb, g400, Int.toNat_natCast, Nat.zero_add, Nat.mul_one, Int.toNat_zero, Nat.add_zero, patch_std, c40, c41, w4, e1, s1, s2, s3] at hQ ⊢ | simp only [fnOf, find, std, reduceIte, Nat.reduceEqDiff, sp1, sp2, a1, a2, FnSpec.out, Shape.build, leafs, leafCells, tups, oneOf, List.cons_append, List.nil_append, List.length_cons, List.length_nil, strOf, s_DigitsLong, s_known3, s_gParse, s_gText, dm_raw, dm_N0, dz, dcn, vI_N0, sameI_N0, eq_self, Bool.not_eq_eq_eq_not, decide_eq_true_eq, decide_eq_false_iff_not, not_true_eq_false, not_false_eq_true, decide_true, decide_false, Bool.true_and, Bool.and_true, Bool.not_true, Bool.not_false, beq_self_eq_true, Bool.true_eq_false, Bool.false_eq_true, reduceCtorEq, gt_iff_lt, ge_iff_le, true_and, and_true, and_self, Bool.and_self, Int.reduceNeg, Int.reduceEq, Int.reduceLT, Int.reduceLE, Int.reduceBEq, hU, w1, w2, w3, hfst, j0, l0, f1, f2, f3, f7, hfau, hmin, hsz0, hszb, g400, Int.toNat_natCast, Nat.zero_add, Nat.mul_one, Int.toNat_zero, Nat.add_zero, patch_std, c40, c41, w4, e1] at hQ ⊢)
      all_goals (repeat' (first
      | with_reducible exact hQ
      | with_reducible assumption
      | with_reducible exact isi_int3 _ _
      | with_reducible exact True.intro
      | with_reducible refine okI_mk3 ?_
      | decide
      | omega
      | with_reducible refine And.intro ?_ ?_))
      all_goals (first | exact r6 | exact Nat.le_trans (show _ ≤ 402 by omega) (show 402 ≤ maxLen by decide))
    · have h4 : N ≤ 400 := k4
      have g400 : ((400 : Int) < (N : Int)) = False := eq_false (by omega)
      rw [if_pos h4] at hfau
      have fZ := fit_long (s := false) f4 (by omega) (K := 1600) rfl
      obtain ⟨Z, hZ⟩ : ∃ Z, zs (sgT false l) = Z := ⟨_, rfl⟩
      rw [hZ] at fZ htxt
      have oZ : okC (N0.ln Z) (N0.lm Z) := okC_512 fZ (by omega)
      have lZ : N0.ln Z ≤ 1000 := ln_512 fZ (by omega)
      have e1 : ByteArray.size { data := { toList := [45] } } = 1 := rfl
      have mx := max_i64
      cbv
      repeat' (first | with_reducible refine And.intro ?_ ?_ | (with_reducible refine safe_lift hA ?_; kernel_rfl) | (with_reducible refine loop_by (fun i st => (st.setT 8 (.int .i64 (J i))).setC 0 (L i)) N ?_ (fun i hi => HR i hi (fun r1 r2 r3 r4 r5 r6 r7 r8 r9 => ?_) (fun s1 s2 s3 => ?_)) <;> cbv) | (intro hc_; (first | (with_reducible exfalso; clear hQ; subst hF_ hA; first | (simp only [fnOf, find, std, reduceIte, Nat.reduceEqDiff, sp1, sp2, a1, a2, FnSpec.out, Shape.build, leafs, leafCells, tups, oneOf, List.cons_append, List.nil_append, List.length_cons, List.length_nil, strOf, s_DigitsLong, s_known3, s_gParse, s_gText, dm_raw, dm_N0, dz, dcn, vI_N0, sameI_N0, eq_self, Bool.not_eq_eq_eq_not, decide_eq_true_eq, decide_eq_false_iff_not, not_true_eq_false, not_false_eq_true, decide_true, decide_false, Bool.true_and, Bool.and_true, Bool.not_true, Bool.not_false, beq_self_eq_true, Bool.true_eq_false, Bool.false_eq_true, reduceCtorEq, gt_iff_lt, ge_iff_le, true_and, and_true, and_self, Bool.and_self, Int.reduceNeg, Int.reduceEq, Int.reduceLT, Int.reduceLE, Int.reduceBEq, hU, w1, w2, w3, hfst, j0, l0, f1, f2, f3, f7, hfau, hmin, hsz0, hszb, g400, Int.toNat_natCast, Nat.zero_add, Nat.mul_one, Int.toNat_zero, Nat.add_zero, patch_std, hZ, htxt, e1, r1, r2, r3, r4, r5] at hc_; done) | (simp only [fnOf, find, std, reduceIte, Nat.reduceEqDiff, sp1, sp2, a1, a2, FnSpec.out, Shape.build, leafs, leafCells, tups, oneOf, List.cons_append, List.nil_append, List.length_cons, List.length_nil, strOf, s_DigitsLong, s_known3, s_gParse, s_gText, dm_raw, dm_N0, dz, dcn, vI_N0, sameI_N0, eq_self, Bool.not_eq_eq_eq_not, decide_eq_true_eq, decide_eq_false_iff_not, not_true_eq_false, not_false_eq_true, decide_true, decide_false, Bool.true_and, Bool.and_true, Bool.not_true, Bool.not_false, beq_self_eq_true, Bool.true_eq_false, Bool.false_eq_true, reduceCtorEq, gt_iff_lt, ge_iff_le, true_and, and_true, and_self, Bool.and_self, Int.reduceNeg, Int.reduceEq, Int.reduceLT, Int.reduceLE, Int.reduceBEq, hU, w1, w2, w3, hfst, j0, l0, f1, f2, f3, f7, hfau, hmin, hsz0, hszb, g400, Int.toNat_natCast, Nat.zero_add, Nat.mul_one, Int.toNat_zero, Nat.add_zero, patch_std, hZ, htxt, e1, s1, s2, s3] at hc_; done) | (simp only [fnOf, find, std, reduceIte, Nat.reduceEqDiff, sp1, sp2, a1, a2, FnSpec.out, Shape.build, leafs, leafCells, tups, oneOf, List.cons_append, List.nil_append, List.length_cons, List.length_nil, strOf, s_DigitsLong, s_known3, s_gParse, s_gText, dm_raw, dm_N0, dz, dcn, vI_N0, sameI_N0, eq_self, Bool.not_eq_eq_eq_not, decide_eq_true_eq, decide_eq_false_iff_not, not_true_eq_false, not_false_eq_true, decide_true, decide_false, Bool.true_and, Bool.and_true, Bool.not_true, Bool.not_false, beq_self_eq_true, Bool.true_eq_false, Bool.false_eq_true, reduceCtorEq, gt_iff_lt, ge_iff_le, true_and, and_true, and_self, Bool.and_self, Int.reduceNeg, Int.reduceEq, Int.reduceLT, Int.reduceLE, Int.reduceBEq, hU, w1, w2, w3, hfst, j0, l0, f1, f2, f3, f7, hfau, hmin, hsz0, hszb, g400, Int.toNat_natCast, Nat.zero_add, Nat.mul_one, Int.toNat_zero, Nat.add_zero, patch_std, hZ, htxt, e1] at hc_; done)) | (clear hc_; cbv))))
      all_goals subst hF_ hA
      all_goals (try first | simp only [fnOf, find, std, reduceIte, Nat.reduceEqDiff, sp1, sp2, a1, a2, FnSpec.out, Shape.build, leafs, leafCells, tups, oneOf, List.cons_append, List.nil_append, List.length_cons, List.length_nil, strOf, s_DigitsLong, s_known3, s_gParse, s_gText, dm_raw, dm_N0, dz, dcn, vI_N0, sameI_N0, eq_self, Bool.not_eq_eq_eq_not, decide_eq_true_eq, decide_eq_false_iff_not, not_true_eq_false, not_false_eq_true, decide_true, decide_false, Bool.true_and, Bool.and_true, Bool.not_true, Bool.not_false, beq_self_eq_true, Bool.true_eq_false, Bool.false_eq_true, reduceCtorEq, gt_iff_lt, ge_iff_le, true_and, and_true, and_self, Bool.and_self, Int.reduceNeg, Int.reduceEq, Int.reduceLT, Int.reduceLE, Int.reduceBEq, hU, w1, w2, w3, hfst, j0, l0, f1, f2, f3, f7, hfau, hmin, hsz0, hszb, g400, Int.toNat_natCast, Nat.zero_add, Nat.mul_one, Int.toNat_zero, Nat.add_zero, patch_std, hZ, htxt, e1, r1, r2, r3, r4, r5] at hQ ⊢ | simp only [fnOf, find, std, reduceIte, Nat.reduceEqDiff, sp1, sp2, a1, a2, FnSpec.out, Shape.build, leafs, leafCells, tups, oneOf, List.cons_append, List.nil_append, List.length_cons, List.length_nil, strOf, s_DigitsLong, s_known3, s_gParse, s_gText, dm_raw, dm_N0, dz, dcn, vI_N0, sameI_N0, eq_self, Bool.not_eq_eq_eq_not, decide_eq_true_eq, decide_eq_false_iff_not, not_true_eq_false, not_false_eq_true, decide_true, decide_false, Bool.true_and, Bool.and_true, Bool.not_true, Bool.not_false, beq_self_eq_true, Bool.true_eq_false, Bool.false_eq_true, reduceCtorEq, gt_iff_lt, ge_iff_le, true_and, and_true, and_self, Bool.and_self, Int.reduceNeg, Int.reduceEq, Int.reduceLT, Int.reduceLE, Int.reduceBEq, hU, w1, w2, w3, hfst, j0, l0, f1, f2, f3, f7, hfau, hmin, hsz0, hszb, g400, Int.toNat_natCast, Nat.zero_add, Nat.mul_one, Int.toNat_zero, Nat.add_zero, patch_std, hZ, htxt, e1, s1, s2, s3] at hQ ⊢ | simp only [fnOf, find, std, reduceIte, Nat.reduceEqDiff, sp1, sp2, a1, a2, FnSpec.out, Shape.build, leafs, leafCells, tups, oneOf, List.cons_append, List.nil_append, List.length_cons, List.length_nil, strOf, s_DigitsLong, s_known3, s_gParse, s_gText, dm_raw, dm_N0, dz, dcn, vI_N0, sameI_N0, eq_self, Bool.not_eq_eq_eq_not, decide_eq_true_eq, decide_eq_false_iff_not, not_true_eq_false, not_false_eq_true, decide_true, decide_false, Bool.true_and, Bool.and_true, Bool.not_true, Bool.not_false, beq_self_eq_true, Bool.true_eq_false, Bool.false_eq_true, reduceCtorEq, gt_iff_lt, ge_iff_le, true_and, and_true, and_self, Bool.and_self, Int.reduceNeg, Int.reduceEq, Int.reduceLT, Int.reduceLE, Int.reduceBEq, hU, w1, w2, w3, hfst, j0, l0, f1, f2, f3, f7, hfau, hmin, hsz0, hszb, g400, Int.toNat_natCast, Nat.zero_add, Nat.mul_one, Int.toNat_zero, Nat.add_zero, patch_std, hZ, htxt, e1] at hQ ⊢)
      all_goals (repeat' (first
      | with_reducible exact hQ
      | with_reducible assumption
      | with_reducible exact isi_int3 _ _
      | with_reducible exact True.intro
      | with_reducible refine okI_mk3 ?_
      | decide
      | omega
      | with_reducible refine And.intro ?_ ?_))
      all_goals (first | exact r6 | exact Nat.le_trans (show _ ≤ 402 by omega) (show 402 ≤ maxLen by decide))
end Go.Proofs.YtgmencbhkkcpiaaDoor.Ev
