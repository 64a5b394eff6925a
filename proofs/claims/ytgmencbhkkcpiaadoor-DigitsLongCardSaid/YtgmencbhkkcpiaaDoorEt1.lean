/- Package digits: minus and joined as functions over data. -/
import Derived.Test.YtgmencbhkkcpiaaDoorDK
import Derived.Test.YtgmencbhkkcpiaaDoorEt0
namespace Go.Proofs.YtgmencbhkkcpiaaDoor.Ev
open Go Go.RowKit
set_option linter.unusedSimpArgs false
set_option linter.unusedVariables false
theorem tellsT {w w' : World} {X : Nat → Prop} {s : ByteArray} {e : Ending} (h : e = .returned (.string s) ∧ Below w.heap.size w w') : ∃ v d, e = .returned v ∧ d = .str s ∧ den ⟨w', X, fun _ => none⟩ d v ∧ Below w.heap.size w w' := by
  obtain ⟨rfl, hb⟩ := h
  exact ⟨_, _, rfl, rfl, rfl, hb⟩
def s_gMinus : FnSpec := ⟨.one .T, fun ds => match ds with | [x] => okI x | _ => False, fun _ _ => 0, fun _ _ => false, fun _ _ => 0, fun ds _ => match ds with | [x] => [.str (mns (dm x))] | _ => []⟩
theorem gminus_arg {ds : List D} (h : s_gMinus.p ds) : ∃ x, ds = [x] ∧ okI x := by
  match ds, h with
  | [x], h => exact ⟨x, rfl, h⟩
theorem good_gMinus {G : World → Prop} : Good Tryd.prog G N0 19 s_gMinus := by
  refine ⟨callable (by kernel_rfl), fun ds hp => ?_⟩
  obtain ⟨x, rfl, hx⟩ := gminus_arg hp
  obtain ⟨s, n, cs, rfl, hc⟩ := okI_arg hx
  refine s_I hc fun X w A c hG hX hl => ?_
  exact (minus_g w _ s A n c (nums cs) hl rfl).mono fun _ _ h => tellsT h
/-- a slice of limbs, whatever they are. -/
theorem den_of_lms {w : World} {X : Nat → Prop} {ρ : Nat → Option Nat} {A : Option Addr} {c : Nat} {L : List Nat} (h : Lm w A L.length c L) (hX : OwnOk w X) : den ⟨w, X, ρ⟩ (.sl L.length (u32s L)) (.slice A L.length c) := by
  simp only [den]
  refine ⟨A, c, rfl, h.cap, fun h0 => ?_⟩
  have hn : 0 < L.length := by unfold u32s at h0; rw [List.length_map] at h0; exact h0
  obtain ⟨b, o, rfl, hlt, hc⟩ := h.at_ hn
  exact ⟨b, o, rfl, hlt, fun hx => (hX b hx).2 o _ (hc 0 hn), nums_denC fun j hj => hc j hj⟩
/-- a number's decimal groups. -/
def tensL (N : Nat) : List Nat := if h : N < 1000000000 then [N] else N % 1000000000 :: tensL (N / 1000000000)
termination_by N
decreasing_by omega
theorem v9_pos : ∀ {L : List Nat}, L ≠ [] → L.getLast? ≠ some 0 → 0 < v9 L
  | [], h, _ => absurd rfl h
  | [x], _, h => by
    have : x ≠ 0 := fun e => h (by rw [e]; rfl)
    show 0 < x + 1000000000 * 0
    omega
  | x :: y :: ys, _, h => by
    have := v9_pos (L := y :: ys) (by simp) (by rw [List.getLast?_cons_cons] at h; exact h)
    show 0 < x + 1000000000 * v9 (y :: ys)
    omega
theorem tens_eq : ∀ {L : List Nat} {N : Nat}, TensOf N L → L = tensL N
  | [], _, h => absurd rfl h.2.2.1
  | [x], N, h => by
    have h1 : x + 1000000000 * 0 = N := h.1
    have h2 := h.2.1 x (by simp)
    rw [tensL, dif_pos (by omega)]
    rw [show N = x from by omega]
  | x :: y :: ys, N, h => by
    have h1 : x + 1000000000 * v9 (y :: ys) = N := h.1
    have h2 := h.2.1 x (by simp)
    have h3 : (y :: ys).getLast? ≠ some 0 := by
      rcases h.2.2.2 with h4 | h4
      · simp at h4
      · rw [List.getLast?_cons_cons] at h4; exact h4
    have h4 := v9_pos (by simp) h3
    have h5 := tens_eq (L := y :: ys) (N := v9 (y :: ys)) ⟨rfl, fun z hz => h.2.1 z (List.mem_cons_of_mem _ hz), by simp, .inr h3⟩
    rw [tensL, dif_neg (by omega), show N % 1000000000 = x from by omega, show N / 1000000000 = v9 (y :: ys) from by omega, ← h5]
/-- what the digits' laws lay besides. -/
structure GD (l : List Nat) (w : World) : Prop where
  g : GWL l w
  t4 : Tab4 w
  p10 : Lib.TabIs Tryd.prog w "internal/strconv.uint64pow10" .u64 Lib.pow10Tab
theorem GD.bel (l : List Nat) (w w' : World) (hb : Below w.heap.size w w') (h : GD l w) : GD l w' := ⟨h.g.bel _ _ _ hb, h.t4.bel hb, tabIs_bel h.p10 hb⟩
theorem Good.toD {l l' : List Nat} {f : Nat} {s : FnSpec} (h : Good Tryd.prog (GWL l) N0 f s) (hl : l.all (l'.contains ·) = true) : Good Tryd.prog (GD l') N0 f s := h.mono fun _ k => GWL.mono hl k.g
theorem goodD {l : List Nat} {tab : List (Nat × FnSpec)} {shs : List (Nat × Shape)} (hs : tab.map (fun p => (p.1, p.2.sh)) = shs) (hg : Goods Tryd.prog (GD l) N0 tab)
    {f : Nat} (fn : Func) (hf : Tryd.prog.funcs[f]? = some fn) (hn : (fn.name == "runtime.NumGoroutine") = false) (hb : fn.body.isSome = true) {s : FnSpec}
    (h : ∀ ds, s.p ds → ∀ (F : Ltr) (A : Alg) (Q : Post), F = fnOf N0 tab → A = std → Q.R (s.out N0 ds) → ∃ fuel, ev (mkCtx ti (gtL l) shs F A) fuel (fn.body.getD .skip) (start fn.ntmps ds) (ends (mkCtx ti (gtL l) shs F A) fn.results.toList Q.R)) : Good Tryd.prog (GD l) N0 f s := by
  obtain ⟨c, hc⟩ := Option.isSome_iff_exists.1 hb
  refine good_of ti_ok (fun w h => gtL_ok w h.g) (GD.bel l) mixed tab shs hs hg hf hn hc rfl rfl fun ds hp F A Q hF hA hQ => ?_
  have := h ds hp F A Q hF hA hQ
  rw [hc] at this
  exact this
def s_gTens : FnSpec := ⟨.one .S, fun ds => match ds with | [x] => okL x | _ => False, fun _ _ => 0, fun _ _ => false, fun ds _ => match ds with | [x] => (tensL (dl x).natAbs).length | _ => 0, fun ds _ => match ds with | [x] => u32s (tensL (dl x).natAbs) | _ => []⟩
theorem gtens_arg {ds : List D} (h : s_gTens.p ds) : ∃ x, ds = [x] ∧ okL x := by
  match ds, h with
  | [x], h => exact ⟨x, rfl, h⟩
theorem good_gTens {G : World → Prop} : Good Tryd.prog G N0 21 s_gTens := by
  refine ⟨callable (by kernel_rfl), fun ds hp => ?_⟩
  obtain ⟨x, rfl, hx⟩ := gtens_arg hp
  obtain ⟨n, cs, rfl, hc⟩ := okL_arg hx
  refine s_L hc fun X w A c hG hX hl => ?_
  refine (tens_any w A n c (nums cs) hl hc.2.2.2).mono ?_
  rintro e w' ⟨L, A', c', rfl, hl', hT, hb⟩
  have hL := tens_eq hT
  refine ⟨_, _, rfl, rfl, ?_, hb⟩
  show den _ (.sl (tensL (vL cs).natAbs).length (u32s (tensL (vL cs).natAbs))) _
  rw [show (vL cs).natAbs = val (nums cs) from Int.natAbs_natCast _, ← hL]
  exact den_of_lms hl' (own_bel hX hb)
def s_nTrim : FnSpec := sp1 (.one .L) okL (fun x _ => ((dl x).toNat : Nat)) (fun _ _ => false)
theorem good_nTrim {G : World → Prop} : Good Tryd.prog G N0 25 s_nTrim := by
  refine ⟨callable (by kernel_rfl), fun ds hp => ?_⟩
  obtain ⟨x, rfl, hx⟩ := sp1_arg hp
  obtain ⟨n, cs, rfl, hc⟩ := okL_arg hx
  refine s_L hc fun X w A c hG hX hl => ?_
  exact (trim_any w A n c (nums cs) hl).mono fun _ _ h => tellsL h hX
/-- joined at base b over groups of wd digits: the text of what the groups say. -/
def s_gJoin (b wd : Nat) (V : List Nat → Nat) (P : List Nat → Prop) : FnSpec := ⟨.one .T, fun ds => match ds with | [.sl n cs, y, z] => okC n cs ∧ P (nums cs) ∧ y = .int .i64 (b : Int) ∧ z = .int .i64 (wd : Int) | _ => False, fun _ _ => 0, fun _ _ => false, fun _ _ => 0, fun ds _ => match ds with | .sl _ cs :: _ => [.str ⟨(tx0 b (V (nums cs))).toArray⟩] | _ => []⟩
theorem gjoin_arg {b wd : Nat} {V : List Nat → Nat} {P : List Nat → Prop} {ds : List D} (h : (s_gJoin b wd V P).p ds) : ∃ n cs, ds = [.sl n cs, .int .i64 (b : Int), .int .i64 (wd : Int)] ∧ okC n cs ∧ P (nums cs) := by
  match ds, h with
  | [.sl n cs, y, z], ⟨h1, h2, h3, h4⟩ => subst h3 h4; exact ⟨n, cs, rfl, h1, h2⟩
theorem s_Lii {G : World → Prop} {f : Nat} {n : Nat} {cs : List D} {k k' : IntKind} {z z' : Int} {R : D → Prop} (hc : okC n cs)
    (h : ∀ X w A c, G w → OwnOk w X → Lm w A n c (nums cs) → Calls Tryd.prog f #[.slice A n c, .int k z, .int k' z'] w fun e w' => ∃ v d, e = .returned v ∧ R d ∧ den ⟨w', X, fun _ => none⟩ d v ∧ Below w.heap.size w w') : Sound Tryd.prog G f [.sl n cs, .int k z, .int k' z'] R := by
  intro X w vs hG hX hd
  obtain ⟨A, c, us, rfl, hl, hd⟩ := argL hd hc
  obtain ⟨us', rfl, hd2⟩ := argi hd
  obtain ⟨us'', rfl, hd3⟩ := argi hd2
  obtain rfl := arg0 hd3
  exact h X w A c hG hX hl
def s_gJoin16 : FnSpec := s_gJoin 16 8 val (fun L => L = lim (val L))
def s_gJoin10 : FnSpec := s_gJoin 10 9 v9 (fun L => TensOf (v9 L) L)
theorem good_gJoin16 {l : List Nat} : Good Tryd.prog (GD l) N0 20 s_gJoin16 := by
  refine ⟨callable (by kernel_rfl), fun ds hp => ?_⟩
  obtain ⟨n, cs, rfl, hc, hP⟩ := gjoin_arg hp
  refine s_Lii hc fun X w A c hG hX hl => ?_
  obtain ⟨L, hL⟩ : ∃ L, nums cs = L := ⟨_, rfl⟩
  obtain ⟨N, hN⟩ : ∃ N, val L = N := ⟨_, rfl⟩
  have hn := hc.2.2.2
  have hn2 : (nums cs).length = n := hl.len
  show Calls _ _ _ _ fun e w' => ∃ v d, e = .returned v ∧ d = D.str ⟨(tx0 16 (val (nums cs))).toArray⟩ ∧ _
  rw [hL] at hl hP hn2 ⊢
  rw [hN] at hP ⊢
  subst hP
  subst hn2
  exact (joined16_any w hG.t4 A c N hl (by omega)).mono fun _ _ h => tellsT h
theorem good_gJoin10 {l : List Nat} : Good Tryd.prog (GD l) N0 20 s_gJoin10 := by
  refine ⟨callable (by kernel_rfl), fun ds hp => ?_⟩
  obtain ⟨n, cs, rfl, hc, hP⟩ := gjoin_arg hp
  refine s_Lii hc fun X w A c hG hX hl => ?_
  obtain ⟨L, hL⟩ : ∃ L, nums cs = L := ⟨_, rfl⟩
  have hn := hc.2.2.2
  have hn2 : (nums cs).length = n := hl.len
  show Calls _ _ _ _ fun e w' => ∃ v d, e = .returned v ∧ d = D.str ⟨(tx0 10 (v9 (nums cs))).toArray⟩ ∧ _
  rw [hL] at hl hP hn2 ⊢
  subst hn2
  exact (joined10_any w hG.p10 A c _ L hl hP (by omega)).mono fun _ _ h => tellsT h
theorem tx0_sz {b n N : Nat} (hb : 2 ≤ b) (h : N < 2 ^ (32 * n)) : (tx0 b N).length ≤ 32 * n + 1 :=
  tx0_le hb (by omega) (Nat.lt_of_lt_of_le h (Nat.le_trans (Nat.pow_le_pow_left hb _) (Nat.pow_le_pow_right (by omega) (by omega))))
theorem mns_sz (X : Int) : (mns X).size ≤ 1 := by
  unfold mns
  split
  · decide
  · decide
theorem mns_ntx (b : Nat) (X : Int) : mns X ++ ⟨(tx0 b X.natAbs).toArray⟩ = ntx b X := by
  unfold mns ntx
  split
  · exact cat_two [45] _
  · exact cat_two [] _
theorem lm_can (z : Int) : nums (N0.lm z) = lim (val (nums (N0.lm z))) := by
  show nums (u32s (lim z.natAbs)) = lim (val (nums (u32s (lim z.natAbs))))
  rw [nums_u32s, val_lim]
def s_gHex : FnSpec := ⟨.one .T, fun ds => match ds with | [x] => okI x | _ => False, fun _ _ => 0, fun _ _ => false, fun _ _ => 0, fun ds _ => match ds with | [x] => [.str (ntx 16 (dm x))] | _ => []⟩
theorem ghex_arg {ds : List D} (h : s_gHex.p ds) : ∃ x, ds = [x] ∧ okI x := by
  match ds, h with
  | [x], h => exact ⟨x, rfl, h⟩
set_option maxHeartbeats 1000000 in
theorem good_gHex {l : List Nat} : Good Tryd.prog (GD l) N0 10 s_gHex := by
  refine goodD (l := l) (tab := [(19, s_gMinus), (25, s_nTrim), (20, s_gJoin16)]) (shs := [(19, .one .T), (25, .one .L), (20, .one .T)]) rfl ⟨good_gMinus, good_nTrim, good_gJoin16, trivial⟩ Tryd.f10 (by kernel_rfl) (by kernel_rfl) (by kernel_rfl) (fun ds hp F A Q hF hA hQ => ⟨0, ?_⟩)
  obtain ⟨x, rfl, hx⟩ := ghex_arg hp
  obtain ⟨s, n, cs, rfl, hc⟩ := okI_arg hx
  clear hp hx
  cbv
  repeat' (first | with_reducible refine And.intro ?_ ?_ | (with_reducible refine safe_lift hA ?_; kernel_rfl) | (intro hc_; cbv))
  all_goals (repeat (rw [safe_true hA, true_and]; rotate_left; kernel_rfl))
  all_goals subst hF hA
  all_goals simp only [fnOf, find, std, reduceIte, Nat.reduceEqDiff, sp1, sp2, a1, a2, FnSpec.out, Shape.build, leafs, leafCells, tups, oneOf, List.cons_append, List.nil_append, List.length_cons, List.length_nil, strOf, s_gMinus, s_nTrim, s_gJoin16, s_gJoin, s_gHex, dm_raw, dm_N0, dz, dl, dx, dcn, vL_N0n, vI_N0, Int.natAbs_natCast, Int.toNat_natCast, decide_eq_true_eq, decide_eq_false_iff_not] at *
  all_goals
    have hV : (vL cs).toNat = val (nums cs) := Int.toNat_natCast _
    have hI : (vI s cs).natAbs = val (nums cs) := by unfold vI; exact sgn_natAbs ..
    have hF := okC_fit hc s
    have hn := hc.2.2.2
    obtain ⟨N, hN⟩ : ∃ N, val (nums cs) = N := ⟨_, rfl⟩
    have hm : val (nums (N0.lm (N : Int))) = N := by
      show val (nums (u32s (lim (Int.natAbs (N : Int))))) = N
      rw [nums_u32s, val_lim, Int.natAbs_natCast]
    have hl := okC_ln hc
    rw [hN] at hV hI hl
    (try simp only [hV, hm])
  case refine_2.refine_1 => exact hc
  case refine_2.refine_2.refine_1 => exact hc
  case refine_2.refine_2.refine_2.refine_1 =>
    exact ⟨okC_N0 (z := (N : Int)) (by rw [Int.natAbs_natCast]; omega), by have := lm_can (N : Int); rw [hm] at this; exact this, rfl, rfl⟩
  case refine_2.refine_2.refine_2.refine_2.refine_1 =>
    have h1 := mns_sz (vI s cs)
    have h2 := tx0_sz (b := 16) (n := n) (N := N) (by decide) (by rw [← hI]; exact hF)
    have h3 := ba_size (tx0 16 N)
    show (((mns (vI s cs)).size + (⟨(tx0 16 N).toArray⟩ : ByteArray).size : Nat) : Int) ≤ (9223372036854775807 : Int)
    generalize (mns (vI s cs)).size = q1 at *
    generalize (⟨(tx0 16 N).toArray⟩ : ByteArray).size = q2 at *
    omega
  case refine_2.refine_2.refine_2.refine_2.refine_2 =>
    refine Post.s hQ ?_
    rw [← hI, mns_ntx]
theorem tensL_of (N : Nat) : TensOf N (tensL N) := by
  induction N using Nat.strongRecOn with
  | _ N ih =>
    rw [tensL]
    by_cases h : N < 1000000000
    · rw [dif_pos h]
      exact ⟨by show N + 1000000000 * 0 = N; omega, fun x hx => by rw [List.mem_singleton] at hx; omega, by simp, .inl rfl⟩
    · rw [dif_neg h]
      obtain ⟨h1, h2, h3, h4⟩ := ih (N / 1000000000) (by omega)
      refine ⟨?_, fun x hx => ?_, by simp, .inr ?_⟩
      · show N % 1000000000 + 1000000000 * v9 (tensL (N / 1000000000)) = N
        rw [h1]; omega
      · rcases List.mem_cons.1 hx with rfl | hx
        · omega
        · exact h2 x hx
      · rw [List.getLast?_cons_of_ne_nil h3]
        rcases h4 with h4 | h4
        · obtain ⟨y, hy⟩ := List.length_eq_one_iff.1 h4
          rw [hy] at h1 ⊢
          have h5 : y + 1000000000 * 0 = N / 1000000000 := h1
          intro e
          injection e with e
          have e' : y = 0 := e
          omega
        · exact h4
theorem tensL_len : ∀ {k N : Nat}, N < 2 ^ (16 * k) → (tensL N).length ≤ k + 1
  | 0, N, h => by
    rw [Nat.mul_zero, Nat.pow_zero] at h
    rw [tensL, dif_pos (by omega)]
    exact Nat.le_refl _
  | k + 1, N, h => by
    rw [tensL]
    split
    · simp
    · have h1 := tensL_len (k := k) (N := N / 1000000000) (by
        have e : 2 ^ (16 * (k + 1)) = 65536 * 2 ^ (16 * k) := by rw [Nat.mul_succ, Nat.pow_add, Nat.mul_comm]
        rw [e] at h
        generalize 2 ^ (16 * k) = P at *
        omega)
      rw [List.length_cons]; omega
theorem okC_tens {N n : Nat} (h : N < 2 ^ (32 * n)) (hn : n ≤ 1000) : okC (tensL N).length (u32s (tensL N)) := by
  have h1 := tensL_len (k := 2 * n) (N := N) (by rw [show 16 * (2 * n) = 32 * n from by omega]; exact h)
  unfold okC
  rw [nums_u32s]
  refine ⟨rfl, by unfold u32s; rw [List.length_map], Ok.of_mem fun x hx => ?_, by omega⟩
  have := (tensL_of N).2.1 x hx
  rw [Bs_eq]; omega
def s_gText : FnSpec := ⟨.one .T, fun ds => match ds with | [x] => okI x ∧ dcn x ≤ 1000 | _ => False, fun _ _ => 0, fun _ _ => false, fun _ _ => 0, fun ds _ => match ds with | [x] => [.str (ntx 10 (dm x))] | _ => []⟩
theorem gtext_arg {ds : List D} (h : s_gText.p ds) : ∃ x, ds = [x] ∧ okI x ∧ dcn x ≤ 1000 := by
  match ds, h with
  | [x], h => exact ⟨x, rfl, h⟩
set_option maxHeartbeats 1000000 in
theorem good_gText {l : List Nat} : Good Tryd.prog (GD l) N0 8 s_gText := by
  refine goodD (l := l) (tab := [(19, s_gMinus), (21, s_gTens), (20, s_gJoin10)]) (shs := [(19, .one .T), (21, .one .S), (20, .one .T)]) rfl ⟨good_gMinus, good_gTens, good_gJoin10, trivial⟩ Tryd.f8 (by kernel_rfl) (by kernel_rfl) (by kernel_rfl) (fun ds hp F A Q hF hA hQ => ⟨0, ?_⟩)
  obtain ⟨x, rfl, hx, hx3⟩ := gtext_arg hp
  obtain ⟨s, n, cs, rfl, hc⟩ := okI_arg hx
  clear hp hx
  cbv
  repeat' (first | with_reducible refine And.intro ?_ ?_ | (with_reducible refine safe_lift hA ?_; kernel_rfl) | (intro hc_; cbv))
  all_goals (repeat (rw [safe_true hA, true_and]; rotate_left; kernel_rfl))
  all_goals subst hF hA
  all_goals simp only [fnOf, find, std, reduceIte, Nat.reduceEqDiff, sp1, sp2, a1, a2, FnSpec.out, Shape.build, leafs, leafCells, tups, oneOf, List.cons_append, List.nil_append, List.length_cons, List.length_nil, strOf, s_gMinus, s_gTens, s_gJoin10, s_gJoin, s_gText, dm_raw, dm_N0, dz, dl, dx, dcn, vL_N0n, vI_N0, Int.natAbs_natCast, Int.toNat_natCast, decide_eq_true_eq, decide_eq_false_iff_not] at *
  all_goals
    have hV : (vL cs).natAbs = val (nums cs) := Int.natAbs_natCast _
    have hI : (vI s cs).natAbs = val (nums cs) := by unfold vI; exact sgn_natAbs ..
    have hF := okC_fit hc s
    obtain ⟨N, hN⟩ : ∃ N, val (nums cs) = N := ⟨_, rfl⟩
    rw [hN] at hV hI
    have hF2 : N < 2 ^ (32 * n) := by rw [← hI]; exact hF
    have hT := tensL_of N
    (try simp only [hV, nums_u32s, hT.1])
  case refine_2.refine_1 => exact hc
  case refine_2.refine_2.refine_1 => exact hc
  case refine_2.refine_2.refine_2.refine_1 =>
    exact ⟨okC_tens hF2 hx3, hT, rfl, rfl⟩
  case refine_2.refine_2.refine_2.refine_2.refine_1 =>
    have h1 := mns_sz (vI s cs)
    have h2 := tx0_sz (b := 10) (n := n) (N := N) (by decide) hF2
    have h3 := ba_size (tx0 10 N)
    show (((mns (vI s cs)).size + (⟨(tx0 10 N).toArray⟩ : ByteArray).size : Nat) : Int) ≤ (9223372036854775807 : Int)
    generalize (mns (vI s cs)).size = q1 at *
    generalize (⟨(tx0 10 N).toArray⟩ : ByteArray).size = q2 at *
    omega
  case refine_2.refine_2.refine_2.refine_2.refine_2 =>
    refine Post.s hQ ?_
    rw [← hI, mns_ntx]
end Go.Proofs.YtgmencbhkkcpiaaDoor.Ev
