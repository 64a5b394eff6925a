/- What an argument that is a dyad reads as, as data. -/
import Derived.Test.YtbamplgleeofhaaDoorArgI
import Derived.Test.YtbamplgleeofhaaDoorXp
namespace Go.Proofs.YtbamplgleeofhaaDoor.Ev
open Go Go.RowKit Go.ChangeShapes Go.WideShapes Go.ChangeAt
set_option linter.unusedSimpArgs false
set_option linter.unusedVariables false

def argC (n : Nat) (zs : List Nat) : List D := if n ≤ 100000 then u32s zs else []
theorem argC_ok {w : World} {A : Option Addr} {n c : Nat} {zs : List Nat} (h : Arg w A n c zs) (hn : n ≤ 100000) : okC n (argC n zs) := by
  unfold argC
  rw [if_pos hn]
  refine ⟨by rw [nums_u32s], by unfold u32s; rw [List.length_map]; exact h.1.1, by rw [nums_u32s]; exact h.2.1, hn⟩
theorem argC_den {w : World} {A : Option Addr} {n c : Nat} {zs : List Nat} (h : Arg w A n c zs) : den ⟨w, fun _ => False, fun _ => none⟩ (.sl n (argC n zs)) (.slice A n c) := by
  simp only [den]
  refine ⟨A, c, rfl, h.1.2, fun h0 => ?_⟩
  unfold argC at h0 ⊢
  by_cases hn : n ≤ 100000
  · rw [if_pos hn] at h0 ⊢
    have hl : (u32s zs).length = n := by unfold u32s; rw [List.length_map]; exact h.1.1
    obtain ⟨b, o, rfl, hlt, hc⟩ := h.2.2 (by omega)
    exact ⟨b, o, rfl, hlt, fun hx => hx, nums_denC fun j hj => hc j (by rw [h.1.1] at hj; exact hj)⟩
  · rw [if_neg hn] at h0
    exact absurd h0 (by simp)
theorem argI_den {w : World} {A : Option Addr} {n c : Nat} {zs : List Nat} (h : Arg w A n c zs) (s : Bool) : den ⟨w, fun _ => False, fun _ => none⟩ (.agg [.bool s, .sl n (argC n zs)]) (.agg #[.bool s, .slice A n c]) := by
  rw [den_agg]
  refine ⟨_, rfl, ?_⟩
  simp only [denL]
  exact ⟨_, _, rfl, by simp only [den], _, _, rfl, argC_den h, rfl⟩
theorem argD_den {w : World} {A : Option Addr} {n c : Nat} {zs : List Nat} (h : Arg w A n c zs) (s : Bool) (e : Int) : den ⟨w, fun _ => False, fun _ => none⟩ (.agg [.bool s, .sl n (argC n zs), .int .i64 e]) (.agg #[.bool s, .slice A n c, .int .i64 e]) := by
  rw [den_agg]
  refine ⟨_, rfl, ?_⟩
  simp only [denL]
  exact ⟨_, _, rfl, by simp only [den], _, _, rfl, argC_den h, _, _, rfl, by simp only [den], rfl⟩
theorem denL0 {E : Env} : denL E [] [] := by simp only [denL]
theorem denL1 {E : Env} {d : D} {v : Value} {ds : List D} {vs : List Value} (h : den E d v) (k : denL E ds vs) : denL E (d :: ds) (v :: vs) := by
  simp only [denL]; exact ⟨_, _, rfl, h, k⟩
theorem den_i {E : Env} (k : IntKind) (z : Int) : den E (.int k z) (.int k z) := by simp only [den]
set_option maxRecDepth 100000 in
theorem open_D {H : Type} {enc : TypeId × Value → H} {W : World} {base : Nat} {v : Value} {d : DataW H} {p : List MemPlace} (hval : Value.okWide Tryd.prog W .any base 26 v) (h : DataW.Trod enc Tryd.prog W 0 (fun _ => true) true 26 v d p) :
    ∃ s A n c zs e, v = .agg #[.bool s, .slice A n c, .int .i64 e] ∧ Arg W A n c zs ∧ -9223372036854775808 ≤ e ∧ e ≤ 9223372036854775807 := by
  obtain ⟨cs, rfl, hsz⟩ := okWide_struct Tryd.underlying26 hval
  rw [show Tryd.prog.cellsOf 26 = 3 from by kernel_rfl] at hsz
  obtain ⟨l⟩ := cs
  match l, hsz with
  | [c0, c1, c2], _ =>
  obtain ⟨fuel, hf⟩ := h
  obtain ⟨z0, z1, m0, hx0, _, hz0, hz1⟩ := trod_struct2 Tryd.underlying26 hf
  have hcI : Tryd.prog.cellsOf 24 = 2 := by kernel_rfl
  have hcE : Tryd.prog.cellsOf 3 = 1 := by kernel_rfl
  obtain ⟨ee, e2, _, hw⟩ := DataW.trod_int Tryd.underlying3 hz1
  rw [hcE] at e2
  simp [Value.cells] at e2
  subst e2
  rw [hcI] at hz0
  obtain ⟨y0, y1, m, hx, _, hy0, hy1⟩ := trod_struct2 Tryd.underlying24 hz0
  obtain ⟨b, e0, _⟩ := DataW.trod_bool Tryd.underlying4 hy0
  have hc0 : Tryd.prog.cellsOf 4 = 1 := by kernel_rfl
  have hc1 : Tryd.prog.cellsOf 22 = 1 := by kernel_rfl
  rw [hc0] at e0
  simp [Value.cells] at e0
  subst e0
  have hbd := bounds_i64 hw
  rcases open_ints Tryd.underlying22 Tryd.underlying69 (by kernel_rfl) hy1 with ⟨hcs, _⟩ | ⟨x, ln, c, zs, hcs, _, hl, hm, hz, _, hcell, hwz⟩
  · rw [hc1] at hcs
    simp [Value.cells] at hcs
    subst hcs
    exact ⟨b, none, 0, 0, [], _, rfl, Arg.none W, hbd⟩
  · rw [hc1] at hcs
    simp [Value.cells] at hcs
    subst hcs
    exact ⟨b, some x, ln, c, _, _, rfl, Arg.of_ints hl (by simpa using hz) hcell hwz, hbd⟩
end Go.Proofs.YtbamplgleeofhaaDoor.Ev
