import Derived.Test.YtkfojbelnemhbaaGreatDoorEq0
import Derived.Test.YtkfojbelnemhbaaGreatDoorEvd
import Derived.Test.YtkfojbelnemhbaaGreatDoorEqc
import Derived.Test.YtkfojbelnemhbaaGreatDoorXm
set_option maxHeartbeats 2000000
set_option maxRecDepth 100000
set_option linter.all false
namespace Go.Proofs.YtkfojbelnemhbaaGreatDoor.Ev
open Go Go.RowKit
theorem u32s_app (xs ys : List Nat) : u32s (xs ++ ys) = u32s xs ++ u32s ys := List.map_append
theorem len_u32s (xs : List Nat) : (u32s xs).length = xs.length := List.length_map ..
theorem okC_len {n : Nat} {cs : List D} (h : okC n cs) : (nums cs).length = n := by unfold nums; rw [List.length_map]; exact h.2.1
theorem okC_cat {n m : Nat} {cs es : List D} (h : okC n cs) (h' : okC m es) (hk : n + m ≤ 100000) : okC (n + m) (cs ++ es) := by
 have he : cs ++ es = u32s (nums cs ++ nums es) := by rw [u32s_app, ← h.1, ← h'.1]
 refine ⟨by rw [he, nums_u32s], by rw [List.length_append, h.2.1, h'.2.1], ?_, hk⟩
 rw [he, nums_u32s]
 exact ok_append h.2.2.1 h'.2.2.1
theorem den_fr {w w' : World} {X : Nat → Prop} {ρ : Nat → Option Nat} {A : Option Addr} {n c : Nat} {xs : List Nat} (h : Lm w' A n c xs) (hf : Fr A w.heap.size) (hX : ShutOk true w X) : den ⟨w', X, ρ⟩ (.sl n (u32s xs)) (.slice A n c) := by
 simp only [den]
 refine ⟨A, c, rfl, h.cap, fun h0 => ?_⟩
 have hl := h.len
 have hn : 0 < n := by rw [len_u32s] at h0; omega
 obtain ⟨b, o, rfl, hlt, hc⟩ := h.at_ hn
 refine ⟨b, o, rfl, hlt, fun hx => ?_, nums_denC fun j hj => hc j (by omega)⟩
 rcases hf with hf | ⟨g, o', hf, hg⟩
 ·cases hf
 ·cases hf
  have := (hX b hx).1
  omega
theorem den_frL {w w' : World} {X : Nat → Prop} {ρ : Nat → Option Nat} {A : Option Addr} {n c N : Nat} (h : Lm w' A n c (lim N)) (hf : Fr A w.heap.size) (hX : ShutOk true w X) : den ⟨w', X, ρ⟩ (dL N) (.slice A n c) := by
 have hl : ln N = n := h.len
 have := den_fr (ρ := ρ) h hf hX
 rw [← hl] at this ⊢
 exact this
variable {G : World → Prop}
theorem goodS_nDiv : GoodS Tryz.prog G N0 261 s_nDiv := by
 refine ⟨callable (by kernel_rfl), fun ds hp => ?_⟩
 obtain ⟨x, y, rfl, hx, hy⟩ := sp2_arg hp
 obtain ⟨n, cs, rfl, hc⟩ := okL_arg hx
 obtain ⟨m, es, rfl, he⟩ := okL_arg hy
 intro X w vs hG hX hd
 obtain ⟨A, c, us, rfl, hl, hd⟩ := argL hd hc
 obtain ⟨A', c', us', rfl, hl', hd⟩ := argL hd he
 obtain rfl := arg0 hd
 have hn := hc.2.2.2
 refine (div_fr w A n c (nums cs) A' m c' (nums es) hl hl' (by omega)).mono fun e w' h => ?_
 have nil : den ⟨w', X, fun _ => none⟩ (dL 0) (.slice none 0 0) := den_frL (by rw [lim_zero]; exact Lm.nil _) (.inl rfl) hX
 have key : ∃ v d, e = .returned v ∧ d = .tup [dL (val (nums cs) / val (nums es)), dL (if val (nums es) = 0 then 0 else val (nums cs) % val (nums es)), .bool (decide (val (nums es) ≠ 0))] ∧ den ⟨w', X, fun _ => none⟩ d v ∧ Below w.heap.size w w' := by
  rcases h with ⟨h0, rfl, hb⟩ | ⟨h0, A, m, c, A', m', c', rfl, hl, hl', _, _, hb, hf, hf'⟩
  ·refine ⟨_, _, rfl, rfl, ?_, hb⟩
   rw [decide_eq_false (by omega), if_pos h0, h0, Nat.div_zero]
   simp only [den, denL]
   exact ⟨_, rfl, _, _, rfl, nil, _, _, rfl, nil, _, _, rfl, rfl, rfl⟩
  ·refine ⟨_, _, rfl, rfl, ?_, hb⟩
   rw [decide_eq_true h0, if_neg h0]
   simp only [den, denL]
   exact ⟨_, rfl, _, _, rfl, den_frL hl hf hX, _, _, rfl, den_frL hl' hf' hX, _, _, rfl, rfl, rfl⟩
 exact key
def s_cat2 : FnSpec := ⟨.one .S, fun ds => match ds with | [.sl 2 [.sl n cs, .sl m es]] => okC n cs ∧ okC m es ∧ n + m ≤ 100000 | _ => False, fun _ _ => 0, fun _ _ => false,
 fun ds _ => match ds with | [.sl 2 [.sl n _, .sl m _]] => n + m | _ => 0, fun ds _ => match ds with | [.sl 2 [.sl _ cs, .sl _ es]] => cs ++ es | _ => []⟩
theorem cat2_arg {ds : List D} (h : s_cat2.p ds) : ∃ n cs m es, ds = [.sl 2 [.sl n cs, .sl m es]] ∧ okC n cs ∧ okC m es ∧ n + m ≤ 100000 := by
 unfold s_cat2 at h
 dsimp only at h
 split at h
 ·exact ⟨_, _, _, _, rfl, h⟩
 ·exact h.elim
theorem goodS_cat2 : GoodS Tryz.prog G N0 269 s_cat2 := by
 refine ⟨callable (by kernel_rfl), fun ds hp => ?_⟩
 obtain ⟨n, cs, m, es, rfl, hc, he, hk⟩ := cat2_arg hp
 intro X w vs hG hX hd
 simp only [denL] at hd
 obtain ⟨v, us, rfl, hd, rfl⟩ := hd
 rw [den] at hd
 obtain ⟨A, c, rfl, h2, hb⟩ := hd
 obtain ⟨b, o, rfl, hlt, hx, hcs⟩ := hb (by simp)
 simp only [denC] at hcs
 obtain ⟨⟨v1, h1, _, d1⟩, ⟨v2, h2', _, d2⟩, _⟩ := hcs
 obtain ⟨A1, c1, rfl, l1⟩ := lm_of_den hc d1
 obtain ⟨A2, c2, rfl, l2⟩ := lm_of_den he d2
 refine (concat_two w b o c A1 n c1 (nums cs) A2 m c2 (nums es) ⟨hlt, h1, h2', l1, l2⟩ (by omega) h2).mono fun e w' h => ?_
 obtain ⟨B, d, rfl, hl, hf, hb⟩ := h
 refine ⟨_, _, rfl, rfl, ?_, hb⟩
 have := den_fr (ρ := fun _ => none) hl hf hX
 rw [u32s_app, ← hc.1, ← he.1] at this
 exact this
def s_kAbove : FnSpec := ⟨.one .S, fun ds => match ds with | [.sl n cs, .sl m es] => okC n cs ∧ okC m es ∧ m + n ≤ 100000 | _ => False, fun _ _ => 0, fun _ _ => false,
 fun ds _ => match ds with | [.sl n _, .sl m _] => m + n | _ => 0, fun ds _ => match ds with | [.sl _ cs, .sl _ es] => es ++ cs | _ => []⟩
theorem above_arg {ds : List D} (h : s_kAbove.p ds) : ∃ n cs m es, ds = [.sl n cs, .sl m es] ∧ okC n cs ∧ okC m es ∧ m + n ≤ 100000 := by
 match ds, h with
 | [.sl n cs, .sl m es], h => exact ⟨n, cs, m, es, rfl, h⟩
theorem goodS_kAbove : GoodS Tryz.prog (GWL [0, 1]) N0 258 s_kAbove := by
 refine goodO (l := [0, 1]) (tab := [(269, s_cat2)]) (shs := [(269, .one .S)]) rfl ⟨goodS_cat2, trivial⟩ Tryz.f258 (by kernel_rfl) (by kernel_rfl) (by kernel_rfl) (fun ds hp F A Q hF hA hQ => ⟨0, ?_⟩)
 obtain ⟨n, cs, m, es, rfl, hc, he, hk⟩ := above_arg hp
 clear hp
 cbv
 repeat' (first | with_reducible refine And.intro ?_ ?_ | (with_reducible refine safe_lift hA ?_; kernel_rfl) | (intro hc_; cbv))
 all_goals (repeat (rw [safe_true hA, true_and]; rotate_left; kernel_rfl))
 all_goals subst hF hA
 all_goals simp only [fnOf, find, reduceIte, FnSpec.out, Shape.build, leafCells, oneOf, s_kAbove, s_cat2] at *
 ·exact ⟨he, hc, hk⟩
 ·exact hQ
end Go.Proofs.YtkfojbelnemhbaaGreatDoor.Ev
