/- Contracts of package digits: tens. -/
import Derived.Test.YtgmencbhkkcpiaaDoorDB
import Derived.Test.YtgmencbhkkcpiaaDoorNormsA
import Derived.Test.YtgmencbhkkcpiaaDoorDD0
import Derived.Deep.RegionHeld3
namespace Go.Proofs.YtgmencbhkkcpiaaDoor
open Go.RowKit

theorem RowZ.bel {w w' : World} {b : Nat} {v : Value} {xs : List Nat} (h : RowZ w b v xs) (hb : Below w.heap.size w w') : RowZ w' b v xs :=
  World.ownsRow.kept (row := none) h ⟨hb.os, hb.tape, hb.output, hb.size, fun k hk _ => hb.block k hk⟩ (by cases hv : v.ownBlock <;> simp)
theorem RowZ.nil (w : World) (b : Nat) : RowZ w b (.slice none 0 0) [] := World.ownsRow_nil w _ _ _
/-- 'append(own, x)'. -/
theorem app3 (w : World) (ty : TypeId) (b : Nat) (v : Value) (xs : List Nat) (h : RowZ w b v xs) (A : Addr) (d : Nat) (hl : Lm w (some A) 1 1 [d]) (hn : xs.length ≤ 100000000) (hb : b ≤ w.heap.size) :
    ∃ v' w', (Builtin.append_ #[22, 22] ty #[v, .slice (some A) 1 1]).run Tryd.prog w = .ok v' w' ∧ RowZ w' b v' (xs ++ [d]) ∧ w.grownBy w' v.ownBlock := by
  obtain ⟨i, hi, hz0, hz1, hz2⟩ := info_parts Tryd.info49
  obtain ⟨b', o', e, hlt, hc⟩ := hl.2.2 (by omega)
  cases e
  have hx := hc 0 (by omega)
  obtain ⟨v', w', h1, h2, h3, _⟩ := run_append_own (P := Tryd.prog) w b 22 ty 49 i (.int .u32 0) 1 4 Tryd.underlying22 hi hz0 hz1 hz2 rfl (by omega) v xs.length (xs.map d32) h ⟨b', o', none⟩ 1 1 [d32 d] rfl
    (fun j u hu => by
      have hj : j = 0 := by
        apply Nat.eq_zero_of_not_pos; intro hp
        rw [List.getElem?_eq_none (by simp; omega)] at hu; cases hu
      subst hj
      have hu' : d32 d = u := by simpa using hu
      subst hu'
      have e : (⟨b', o', none⟩ : Addr).add 0 = ⟨b', o' + 0, none⟩ := by unfold Addr.add; split <;> simp_all
      rw [e]; exact hx)
    (fun u hu => by rw [List.mem_singleton] at hu; subst hu; rfl) (by simp only [maxLen]; omega) (by omega) hb
  refine ⟨v', w', h1, ?_, h3⟩
  unfold RowZ
  rw [List.length_append, List.length_singleton, List.map_append, List.map_singleton]
  exact h2
theorem jump_ret {l : Nat} {J : Act → World → Prop} {Q : Exit → Act → World → Prop} {a : Act} {w : World} (h : Q .ret a w) : Exit.jump l J Q .ret a w := h
/-- the value of groups, the lowest first. -/
def v9 : List Nat → Nat
  | [] => 0
  | x :: xs => x + 1000000000 * v9 xs
theorem v9_snoc : ∀ (xs : List Nat) (d : Nat), v9 (xs ++ [d]) = v9 xs + 1000000000 ^ xs.length * d
  | [], d => by simp [v9]
  | x :: xs, d => by
    rw [List.cons_append, v9, v9, v9_snoc xs d, List.length_cons, Nat.pow_succ]
    grind
/-- the groups of N: the topmost isn't nought, but for 0. -/
def TensOf (N : Nat) (L : List Nat) : Prop := v9 L = N ∧ (∀ x ∈ L, x < 1000000000) ∧ L ≠ [] ∧ (L.length = 1 ∨ L.getLast? ≠ some 0)
/-- groups L are told, M is left. -/
def TAt (X : Nat) (L : List Nat) (M : Nat) : Prop := v9 L + 1000000000 ^ L.length * M = X ∧ (∀ x ∈ L, x < 1000000000) ∧ (L = [] ∨ 0 < M)
theorem TAt.next {X M : Nat} {L : List Nat} (h : TAt X L M) (h0 : M / 1000000000 ≠ 0) : TAt X (L ++ [M % 1000000000]) (M / 1000000000) := by
  refine ⟨?_, fun x hx => ?_, .inr (by omega)⟩
  · rw [v9_snoc, List.length_append, List.length_singleton, Nat.pow_succ, ← h.1]
    have e := Nat.div_add_mod M 1000000000
    generalize 1000000000 ^ L.length = P at *
    generalize M / 1000000000 = q at *
    generalize M % 1000000000 = r at *
    subst e
    grind
  · rcases List.mem_append.1 hx with h1 | h1
    · exact h.2.1 x h1
    · rw [List.mem_singleton] at h1; omega
theorem TAt.last {X M : Nat} {L : List Nat} (h : TAt X L M) (h0 : M / 1000000000 = 0) : TensOf X (L ++ [M % 1000000000]) := by
  have hm : M % 1000000000 = M := by omega
  rw [hm]
  refine ⟨by rw [v9_snoc]; exact h.1, fun x hx => ?_, by simp, ?_⟩
  · rcases List.mem_append.1 hx with h1 | h1
    · exact h.2.1 x h1
    · rw [List.mem_singleton] at h1; omega
  · rcases h.2.2 with h1 | h1
    · left; rw [h1]; rfl
    · right; rw [List.getLast?_append]; simp; omega
theorem TAt.len {X M n : Nat} {L : List Nat} (h : TAt X L M) (h0 : 0 < M) (hX : X < Bs ^ n) : L.length ≤ 2 * n := by
  apply Nat.le_of_not_lt
  intro c
  have h2 : 1000000000 ^ L.length * 1 ≤ 1000000000 ^ L.length * M := Nat.mul_le_mul_left _ h0
  have h3 : 1000000000 ^ (2 * n) ≤ 1000000000 ^ L.length := Nat.pow_le_pow_right (by decide) (by omega)
  have h4 : Bs ^ n ≤ 1000000000 ^ (2 * n) := by rw [Nat.pow_mul]; exact Nat.pow_le_pow_left (by rw [Bs_eq]; decide) n
  have := h.1
  omega
def slLen : Value → Nat
  | .slice _ n _ => n
  | _ => 0
theorem RowZ.len {w : World} {b : Nat} {v : Value} {xs : List Nat} (h : RowZ w b v xs) : slLen v = xs.length := by
  rcases h.2 with ⟨rfl, h0⟩ | ⟨g, cap, cur, rfl, _⟩
  · exact h0.symm
  · rfl
abbrev U9 : Obj := .cells #[.int .u32 1000000000] 49
theorem u9N (w : World) : Lm (w.alloc U9) (some ⟨w.heap.size, 0, none⟩) 1 1 [1000000000] := (Own.list w [1000000000]).lm (Ok.of_mem (fun x hx => by rw [Bs_eq]; simp at hx; omega)) (by simp)
set_option maxRecDepth 100000 in
set_option maxHeartbeats 4000000 in
theorem tens_any (w : World) (A : Option Addr) (n c : Nat) (xs : List Nat) (h : Lm w A n c xs) (hn : n ≤ 100000) :
    Calls Tryd.prog 21 #[.slice A n c] w fun e w' => ∃ L A' c', e = .returned (.slice A' (List.length L) c') ∧ Lm w' A' L.length c' L ∧ TensOf (val xs) L ∧ Below w.heap.size w w' := by
  have HN := Lib.hid hn
  clear hn
  obtain ⟨X, hX⟩ : ∃ X, val xs = X := ⟨_, rfl⟩
  rw [hX]
  have HXB : Hid (X < Bs ^ n) := (by rw [← hX, ← h.len]; exact val_lt h.ok : X < Bs ^ n)
  have hT0 : TAt X [] X := ⟨by simp [v9], (fun x hx => by cases hx), .inl rfl⟩
  go_enter Tryd.func21, Tryd.ntmps21
  go_wp2
  refine wp_scope_jumps 0 (fun a' w' => ∃ (A : Option Addr) (m c M : Nat) (v : Value) (L : List Nat) (u4 u5 u6 u7 u8 u9 u10 u11 u12 u13 u14 u15 u16 u17 u18 u19 u20 u21 u22 u23 : Value), a' = { tmps := #[.slice A m c, undef, .slice none 0 0, v, u4, u5, u6, u7, u8, u9, u10, u11, u12, u13, u14, u15, u16, u17, u18, u19, u20, u21, u22, u23], defers := [] } ∧ Lm w' A m c (lim M) ∧ m ≤ n ∧ RowZ w' w.heap.size v L ∧ TAt X L M ∧ 0 < M ∧ L.length ≤ 2 * n ∧ Below w.heap.size w w') (fun a' _ => 2 * n + 1 - slLen (a'.tmps.getD 3 undef)) rfl ?_ ?_
  · skip
    obtain ⟨w2, hw2⟩ : ∃ v, v = w.alloc U9 := ⟨_, rfl⟩
    have b2 : Below w.heap.size w w2 := by rw [hw2]; exact bel_alloc _ _
    have lit := u9N w
    rw [← hw2] at lit
    have hl2 := h.bel b2
    have hz2 := (RowZ.nil w w.heap.size).bel b2
    have hB2 := bel_next (Below.refl _ w) b2
    go_wp2_with fail
    go_step3
    go_wp2_with fail
    rw [← hw2]
    clear hw2
    refine (div1_yes w2 A n c xs _ 1 [1000000000] hl2 lit (by have := HN.out; omega) (by rw [val_single]; decide)).mono ?_
    rintro e w3 ⟨Aq, mq, cq, Ar, mr, cr, rfl, hq, hr, hmq, hmr, hb3, hfr⟩
    rw [hX, val_single] at hq hr
    have hz3 := hz2.bel hb3
    have hB3 := bel_next hB2 hb3
    obtain ⟨d, hd⟩ : ∃ d, X % 1000000000 = d := ⟨_, rfl⟩
    have hdl : d < 1000000000 := by omega
    rw [hd] at hr
    have hdd : dig (lim d) 0 = d := by
      have h1 := val_eq_vt (xs := lim d) (k := 1) (by show ln d ≤ 1; exact ln_le_of_lt (by rw [Bs_eq]; omega))
      rw [val_lim, vt_one] at h1
      exact h1
    have lw := lowest_any w3 Ar mr cr _ hr
    rw [hdd] at lw
    have HLW := Lib.hid lw
    clear lw hdd
    have ld : Lm (w3.alloc (U1 d)) (some ⟨w3.heap.size, 0, none⟩) 1 1 [d] := (Own.list w3 [d]).lm (Ok.of_mem (fun x hx => by rw [Bs_eq]; simp at hx; omega)) (by simp)
    obtain ⟨v5, w5, hr5, hz5, hg5⟩ := app3 (w3.alloc (U1 d)) 22 w.heap.size (.slice none 0 0) [] (hz3.alloc _) ⟨w3.heap.size, 0, none⟩ d ld (by simp) (by have h1 := hB3.size; have h2 := (bel_alloc w3 (U1 d)).size; omega)
    have hbg : Below w.heap.size w w5 := (bel_next hB3 (bel_alloc w3 (U1 d))).grown hg5 (bel_next hB3 (bel_alloc w3 (U1 d))).size (fun k hk => (hz3.own k hk).1)
    have hq5 : Lm w5 Aq mq cq (lim (X / 1000000000)) := (hq.bel (bel_alloc w3 (U1 d))).kept hg5 hfr (fun j hj => (hz2.own j hj).2)
    clear hz3 hz2 hl2 lit hB2 b2 hq hfr hb3
    have HG := Lib.hid (And.intro hz5 hbg)
    have HR5 := Lib.hid hr5
    have HDD := Lib.hid hd
    clear hz5 hbg hr5 hg5 hd hr ld
    go_wp2_with fail
    refine HLW.out.mono ?_
    rintro e w4 ⟨rfl, hw4⟩
    subst hw4
    by_cases hQ : X / 1000000000 = 0
    · have hlen : ¬ 0 < mq := by have := ln_pos_iff hq5; omega
      have HTT : Hid (TensOf X ([] ++ [d])) := (by rw [← HDD.out]; exact hT0.last hQ : TensOf X ([] ++ [d]))
      have HQ := Lib.hid hQ
      clear hQ
      go_wp2_with (at_builtin; refine Lib.wpList_append_run _ rfl _ _ _ _ rfl _ _ rfl rfl v5 w5 HR5.out ?_)
      refine jump_ret ?_
      obtain ⟨Ag, cg, rfl, hlg⟩ := HG.out.1.lm (Ok.of_mem (fun x hx => by have h1 := (HTT.out).2.1 x hx; rw [Bs_eq]; omega)) (by have h1 := HN.out; simp)
      go_ret
      exact ⟨_, Ag, cg, rfl, hlg, HTT.out, HG.out.2⟩
    · have hlen : 0 < mq := by have := ln_pos_iff hq5; omega
      have HNX : Hid (TAt X ([] ++ [d]) (X / 1000000000)) := (by rw [← HDD.out]; exact hT0.next hQ : TAt X ([] ++ [d]) (X / 1000000000))
      have HNL : Hid (([] ++ [d]).length ≤ 2 * n) := (HNX.out.len (by omega) HXB.out : ([] ++ [d]).length ≤ 2 * n)
      have HQ := Lib.hid hQ
      clear hQ
      go_wp2_with (at_builtin; refine Lib.wpList_append_run _ rfl _ _ _ _ rfl _ _ rfl rfl v5 w5 HR5.out ?_)
      go_step3
      exact ⟨rfl, Aq, mq, cq, X / 1000000000, v5, [] ++ [d], _, _, _, _, _, _, _, _, _, _, _, _, _, _, _, _, _, _, _, _, rfl, hq5, by omega, HG.out.1, HNX.out, (by have := HQ.out; omega), HNL.out, HG.out.2⟩
  · rintro a' w' ⟨A, m, c, M, v, L, u4, u5, u6, u7, u8, u9, u10, u11, u12, u13, u14, u15, u16, u17, u18, u19, u20, u21, u22, u23, rfl, hl, hm, hz, hT, hM, hLX, hB⟩
    have HLV := Lib.hid hz.len
    obtain ⟨w2, hw2⟩ : ∃ v, v = w'.alloc U9 := ⟨_, rfl⟩
    have b2 : Below w'.heap.size w' w2 := by rw [hw2]; exact bel_alloc _ _
    have lit := u9N w'
    rw [← hw2] at lit
    have hl2 := hl.bel b2
    have hz2 := hz.bel b2
    have hB2 := bel_next hB b2
    go_wp2_with fail
    rw [← hw2]
    clear hw2
    refine (div1_yes w2 A m c (lim M) _ 1 [1000000000] hl2 lit (by have := HN.out; omega) (by rw [val_single]; decide)).mono ?_
    rintro e w3 ⟨Aq, mq, cq, Ar, mr, cr, rfl, hq, hr, hmq, hmr, hb3, hfr⟩
    rw [val_lim, val_single] at hq hr
    have hz3 := hz2.bel hb3
    have hB3 := bel_next hB2 hb3
    obtain ⟨d, hd⟩ : ∃ d, M % 1000000000 = d := ⟨_, rfl⟩
    have hdl : d < 1000000000 := by omega
    rw [hd] at hr
    have hdd : dig (lim d) 0 = d := by
      have h1 := val_eq_vt (xs := lim d) (k := 1) (by show ln d ≤ 1; exact ln_le_of_lt (by rw [Bs_eq]; omega))
      rw [val_lim, vt_one] at h1
      exact h1
    have lw := lowest_any w3 Ar mr cr _ hr
    rw [hdd] at lw
    have HLW := Lib.hid lw
    clear lw hdd
    have ld : Lm (w3.alloc (U1 d)) (some ⟨w3.heap.size, 0, none⟩) 1 1 [d] := (Own.list w3 [d]).lm (Ok.of_mem (fun x hx => by rw [Bs_eq]; simp at hx; omega)) (by simp)
    obtain ⟨v5, w5, hr5, hz5, hg5⟩ := app3 (w3.alloc (U1 d)) 22 w.heap.size v L (hz3.alloc _) ⟨w3.heap.size, 0, none⟩ d ld (by have h1 := HN.out; have h2 := hLX; omega) (by have h1 := hB3.size; have h2 := (bel_alloc w3 (U1 d)).size; omega)
    have hbg : Below w.heap.size w w5 := (bel_next hB3 (bel_alloc w3 (U1 d))).grown hg5 (bel_next hB3 (bel_alloc w3 (U1 d))).size (fun k hk => (hz3.own k hk).1)
    have hq5 : Lm w5 Aq mq cq (lim (M / 1000000000)) := (hq.bel (bel_alloc w3 (U1 d))).kept hg5 hfr (fun j hj => (hz2.own j hj).2)
    clear hz3 hz2 hl2 lit hB2 b2 hq hfr hb3
    have HG := Lib.hid (And.intro hz5 hbg)
    have HR5 := Lib.hid hr5
    have HDD := Lib.hid hd
    clear hz5 hbg hr5 hg5 hd hr ld
    go_wp2_with fail
    refine HLW.out.mono ?_
    rintro e w4 ⟨rfl, hw4⟩
    subst hw4
    by_cases hQ : M / 1000000000 = 0
    · have hlen : ¬ 0 < mq := by have := ln_pos_iff hq5; omega
      have HTT : Hid (TensOf X (L ++ [d])) := (by rw [← HDD.out]; exact hT.last hQ : TensOf X (L ++ [d]))
      have HQ := Lib.hid hQ
      clear hQ
      go_wp2_with (at_builtin; refine Lib.wpList_append_run _ rfl _ _ _ _ rfl _ _ rfl rfl v5 w5 HR5.out ?_)
      refine jump_ret ?_
      obtain ⟨Ag, cg, rfl, hlg⟩ := HG.out.1.lm (Ok.of_mem (fun x hx => by have h1 := (HTT.out).2.1 x hx; rw [Bs_eq]; omega)) (by have h1 := HN.out; rw [List.length_append, List.length_singleton]; have h2 := hLX; omega)
      go_ret
      exact ⟨_, Ag, cg, rfl, hlg, HTT.out, HG.out.2⟩
    · have hlen : 0 < mq := by have := ln_pos_iff hq5; omega
      have HNX : Hid (TAt X (L ++ [d]) (M / 1000000000)) := (by rw [← HDD.out]; exact hT.next hQ : TAt X (L ++ [d]) (M / 1000000000))
      have HNL : Hid ((L ++ [d]).length ≤ 2 * n) := (HNX.out.len (by omega) HXB.out : (L ++ [d]).length ≤ 2 * n)
      have HQ := Lib.hid hQ
      clear hQ
      go_wp2_with (at_builtin; refine Lib.wpList_append_run _ rfl _ _ _ _ rfl _ _ rfl rfl v5 w5 HR5.out ?_)
      go_step3
      refine ⟨rfl, ⟨ Aq, mq, cq, M / 1000000000, v5, L ++ [d], _, _, _, _, _, _, _, _, _, _, _, _, _, _, _, _, _, _, _, _, rfl, hq5, by omega, HG.out.1, HNX.out, (by have := HQ.out; omega), HNL.out, HG.out.2⟩, ?_⟩
      have h1 := HG.out.1.len
      have h2 := HLV.out
      have h3 := HNL.out
      rw [List.length_append, List.length_singleton] at h1 h3
      show 2 * n + 1 - slLen v5 < 2 * n + 1 - slLen v
      omega
end Go.Proofs.YtgmencbhkkcpiaaDoor
