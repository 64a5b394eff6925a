/- Contracts of package digits: joined over limbs. -/
import Derived.Test.YtgmencbhkkcpiaaDoorDI
import Derived.Test.YtgmencbhkkcpiaaDoorDJ
import Derived.Test.YtgmencbhkkcpiaaDoorDD
namespace Go.Proofs.YtgmencbhkkcpiaaDoor
open Go Go.RowKit Go.Shelf
set_option linter.unusedSimpArgs false
set_option linter.unusedVariables false
def mkL (M : Nat) (L : List Nat) (h : ∀ x ∈ L, x < M) : List (Lb M) := L.pmap Subtype.mk h
theorem mkL_len {M : Nat} {L : List Nat} (h : ∀ x ∈ L, x < M) : (mkL M L h).length = L.length := List.length_pmap ..
theorem mkL_at {M : Nat} (hM : 0 < M) {L : List Nat} (h : ∀ x ∈ L, x < M) {j : Nat} (hj : j < L.length) : ((mkL M L h).getD j ⟨0, hM⟩).1 = L[j] := by
  have hj' : j < (mkL M L h).length := by rw [mkL_len]; exact hj
  rw [List.getD_eq_getElem?_getD, List.getElem?_eq_getElem hj', Option.getD_some]
  simp [mkL]
theorem upto_vals {M : Nat} (hM : 0 < M) {L : List Nat} (h : ∀ x ∈ L, x < M) : (upto (bwA hM (mkL M L h)) (mkL M L h).length).map (fun x => x.2.1) = L.reverse := by
  apply List.ext_getElem
  · simp [upto, mkL_len]
  · intro i h1 h2
    have hi : i < L.length := by simpa using h2
    rw [List.getElem_reverse]
    simp only [upto, List.map_map, List.getElem_map, List.getElem_range, Function.comp, bwA, mkL_len]
    rw [mkL_at hM h (by omega)]
theorem jacc_rev (bs wd : Nat) {M : Nat} (hM : 0 < M) {L : List Nat} (h : ∀ x ∈ L, x < M) : jacc bs wd (upto (bwA hM (mkL M L h)) (mkL M L h).length) = Ev.jn bs wd L.reverse := by
  rw [← upto_vals hM h]
  unfold jacc Ev.jn
  rw [List.foldl_map]
theorem tx0_le {b wd g : Nat} (hb : 2 ≤ b) (hw : 1 ≤ wd) (h : g < b ^ wd) : (Ev.tx0 b g).length ≤ wd := by
  unfold Ev.tx0
  split
  · exact hw
  · unfold Ev.txt; rw [Ev.low_len]; exact (Ev.nd_le hb).2 h
/-- the value of digits in groups, the lowest first. -/
def vB (B : Nat) : List Nat → Nat
  | [] => 0
  | x :: xs => x + B * vB B xs
theorem vB_gv (B : Nat) : ∀ L : List Nat, Ev.gv B L.reverse = vB B L
  | [] => rfl
  | x :: xs => by rw [List.reverse_cons, Ev.gv_snoc, vB_gv B xs, vB, Nat.mul_comm, Nat.add_comm]
theorem v9_vB : ∀ L : List Nat, v9 L = vB 1000000000 L
  | [] => rfl
  | x :: xs => by rw [v9, vB, v9_vB xs]
theorem val_vB : ∀ L : List Nat, val L = vB Bs L
  | [] => rfl
  | x :: xs => by rw [val_cons, vB, val_vB xs]
theorem jn_vB {b wd : Nat} (hb : 2 ≤ b) (hw : 1 ≤ wd) {L : List Nat} (h0 : L ≠ []) (hg : ∀ x ∈ L, x < b ^ wd) (ht : L.length = 1 ∨ L.getLast? ≠ some 0) : Ev.jn b wd L.reverse = Ev.tx0 b (vB (b ^ wd) L) := by
  rw [← vB_gv]
  cases hr : L.reverse with
  | nil => exact absurd (List.reverse_eq_nil_iff.1 hr) h0
  | cons g gs =>
    refine Ev.jn_val hb hw ?_ (fun x hx => hg x (by rw [← List.mem_reverse, hr]; exact hx))
    rcases ht with ht | ht
    · right
      have : L.reverse.length = 1 := by rw [List.length_reverse]; exact ht
      rw [hr] at this
      exact List.length_eq_zero_iff.1 (by simpa using this)
    · left
      intro e
      apply ht
      rw [← List.head?_reverse, hr, e]; rfl
/-- joined, over limbs. -/
theorem joined_L (bs wd : Nat) (hb2 : 2 ≤ bs) (hb3 : bs ≤ 36) (hw1 : 1 ≤ wd) (hw2 : wd ≤ 100) (hM2 : bs ^ wd ≤ 4294967296) (w : World)
    (HF : ∀ (g : Nat) (W : World), g < bs ^ wd → Below w.heap.size w W → Calls Tryd.prog 37 #[.int .u64 (g : Int), .int .i64 (bs : Int)] W fun e W' => e = .returned (.string ⟨(Ev.tx0 bs g).toArray⟩) ∧ Below W.heap.size W W')
    (A : Option Addr) (c : Nat) (L : List Nat) (hL : Lm w A L.length c L) (h0 : L ≠ []) (hlen : L.length ≤ 1000000) (hg : ∀ x ∈ L, x < bs ^ wd) (ht : L.length = 1 ∨ L.getLast? ≠ some 0) :
    Calls Tryd.prog 20 #[.slice A L.length c, .int .i64 (bs : Int), .int .i64 (wd : Int)] w fun e w' => e = .returned (.string ⟨(Ev.tx0 bs (vB (bs ^ wd) L)).toArray⟩) ∧ Below w.heap.size w w' := by
  obtain ⟨b, o, rfl, hb, hc⟩ := hL.at_ (k := 0) (List.length_pos_iff.2 h0)
  have hM : 0 < bs ^ wd := Nat.pow_pos (by omega)
  have h := joined_any bs wd hb2 hb3 hw1 hw2 hM hM2 (fun g h => tx0_le hb2 hw1 h) (fun W => Below w.heap.size w W) w (fun _ _ h k => k.trans h) (Below.refl _ _) HF b o c (mkL _ L hg) (by intro e; apply h0; have := congrArg List.length e; rw [mkL_len] at this; exact List.length_eq_zero_iff.1 this) (by rw [mkL_len]; exact hlen) hb (fun j hj => by
    rw [mkL_len] at hj
    rw [mkL_at hM hg hj, hc j hj]
    unfold dig
    rw [List.getD_eq_getElem?_getD, List.getElem?_eq_getElem hj]; rfl)
  rw [jacc_rev bs wd hM hg, jn_vB hb2 hw1 h0 hg ht, mkL_len] at h
  exact h
theorem lim_last {N : Nat} (h : N ≠ 0) : (lim N).getLast? ≠ some 0 := by
  induction N using Nat.strongRecOn with
  | _ N ih =>
    rw [lim_pos h]
    by_cases h1 : N / Bs = 0
    · rw [h1, lim_zero]
      have hm : N % Bs = N := Nat.mod_eq_of_lt (by
        apply Nat.lt_of_not_le
        intro c
        have := Nat.div_pos c Bs_pos
        omega)
      rw [hm]
      intro e
      simp at e
      exact h e
    · have h2 := ih _ (Nat.div_lt_self (by omega) (by rw [Bs_eq]; omega)) h1
      have h3 : lim (N / Bs) ≠ [] := fun e => h1 (lim_nil_iff.1 e)
      rw [List.getLast?_cons_of_ne_nil h3]
      exact h2
set_option maxRecDepth 100000 in
set_option maxHeartbeats 1000000 in
theorem joined_nil (A : Option Addr) (c : Nat) (bs wd : Nat) (w : World) : Calls Tryd.prog 20 #[.slice A 0 c, .int .i64 (bs : Int), .int .i64 (wd : Int)] w fun e w' => e = .returned (.string ⟨#[48]⟩) ∧ Below w.heap.size w w' := by
  have b1 := (Below.refl w.heap.size w).alloc (Nat.le_refl _) (Obj.cells #[Value.int IntKind.i64 (bs : Int)] 3)
  have b2 := b1.alloc (by rw [World.size_alloc]; omega) (Obj.cells #[Value.int IntKind.i64 (wd : Int)] 3)
  have HB := Lib.hid b2
  clear b1 b2
  go_enter Tryd.func20, Tryd.ntmps20
  go_wp2
  go_ret
  exact ⟨rfl, HB.out⟩
theorem Tab4.bel {w W : World} (h : Tab4 w) (hb : Below w.heap.size w W) : Tab4 W := by
  unfold Tab4 at *
  refine (hb.cell (p := ⟨_, 15, none⟩) ?_).trans h
  apply Nat.lt_of_not_le
  intro c
  unfold World.cell? at h
  rw [Array.getElem?_eq_none c] at h
  cases h
/-- joined over canonical limbs, at base 16. -/
theorem joined16_any (w : World) (hT : Tab4 w) (A : Option Addr) (c N : Nat) (hL : Lm w A (lim N).length c (lim N)) (hlen : (lim N).length ≤ 1000000) :
    Calls Tryd.prog 20 #[.slice A (lim N).length c, .int .i64 16, .int .i64 8] w fun e w' => e = .returned (.string ⟨(Ev.tx0 16 N).toArray⟩) ∧ Below w.heap.size w w' := by
  by_cases h0 : N = 0
  · subst h0
    rw [lim_zero]
    exact joined_nil A c 16 8 w
  · have hp : (16 : Nat) ^ 8 = Bs := by rw [Bs_eq]
    have h := joined_L 16 8 (by decide) (by decide) (by decide) (by decide) (by decide) w (fun g W hg hb => fu16_any g (by rw [hp, Bs_eq] at hg; exact hg) W (hT.bel hb)) A c (lim N) hL (fun e => h0 (lim_nil_iff.1 e)) hlen (fun x hx => by
      rw [hp]
      obtain ⟨j, hj, rfl⟩ := List.getElem_of_mem hx
      have := ok_lim N j
      unfold dig at this
      rw [List.getD_eq_getElem?_getD, List.getElem?_eq_getElem hj] at this
      exact this) (.inr (lim_last h0))
    rw [hp, ← val_vB, val_lim] at h
    exact h
theorem tabIs_bel {P : Program} {w W : World} {name : String} {k : IntKind} {zs : List Int} (h : Lib.TabIs P w name k zs) (hb : Below w.heap.size w W) : Lib.TabIs P W name k zs := by
  unfold Lib.TabIs World.var? at *
  cases hg : P.globalNamed name with
  | none => simp [hg] at h
  | some g =>
    simp only [hg, Option.bind_some] at h ⊢
    have hlt : g < w.heap.size := by
      rcases Nat.lt_or_ge g w.heap.size with h' | h'
      · exact h'
      · rw [Array.getElem?_eq_none h'] at h; simp at h
    rw [hb.block g hlt]
    exact h
/-- joined over decimal groups. -/
theorem joined10_any (w : World) (hT : Lib.TabIs Tryd.prog w "internal/strconv.uint64pow10" .u64 Lib.pow10Tab) (A : Option Addr) (c N : Nat) (L : List Nat) (hL : Lm w A L.length c L) (hN : TensOf N L) (hlen : L.length ≤ 1000000) :
    Calls Tryd.prog 20 #[.slice A L.length c, .int .i64 10, .int .i64 9] w fun e w' => e = .returned (.string ⟨(Ev.tx0 10 N).toArray⟩) ∧ Below w.heap.size w w' := by
  have h := joined_L 10 9 (by decide) (by decide) (by decide) (by decide) (by decide) w (fun g W hg hb => by
    have h := fu10_any g (Nat.lt_of_lt_of_le hg (by decide)) W (tabIs_bel hT hb)
    rw [dec_tx0] at h
    exact h) A c L hL hN.2.2.1 hlen (fun x hx => by have := hN.2.1 x hx; have e : (10 : Nat) ^ 9 = 1000000000 := by decide
                                                    omega) hN.2.2.2
  rw [show (10 : Nat) ^ 9 = 1000000000 from by decide, ← v9_vB, hN.1] at h
  exact h
end Go.Proofs.YtgmencbhkkcpiaaDoor
