/- What an argument that is a dyad reads as, as data. -/
import Derived.Test.YtgmencbhkkcpiaaGreatDoorArgI
import Derived.Test.YtgmencbhkkcpiaaGreatDoorXp
namespace Go.Proofs.YtgmencbhkkcpiaaGreatDoor.Ev
open Go Go.RowKit Go.ChangeShapes Go.WideShapes Go.ChangeAt
set_option linter.unusedSimpArgs false
set_option linter.unusedVariables false

def argC (n : Nat) (zs : List Nat) : List D := if n ≤ 100000 then u32s zs else []
theorem argC_ok {w : World} {A : Option Addr} {n c : Nat} {zs : List Nat} (h : Arg w A n c zs) (hn : n ≤ 100000) : okC n (argC n zs) := by
  unfold argC
  rw [if_pos hn]
  refine ⟨by rw [nums_u32s], by unfold u32s; rw [List.length_map]; exact h.1.1, by rw [nums_u32s]; exact h.2.1, hn⟩
theorem argC_den {w : World} {A : Option Addr} {n c : Nat} {zs : List Nat} (h : Arg w A n c zs) : den ⟨w, fun _ => False, fun _ => none⟩ (.sl n (argC n zs)) (.slice A n c) := by
  simp only [den]
  refine ⟨A, c, rfl, h.1.2, fun h0 => ?_⟩
  unfold argC at h0 ⊢
  by_cases hn : n ≤ 100000
  · rw [if_pos hn] at h0 ⊢
    have hl : (u32s zs).length = n := by unfold u32s; rw [List.length_map]; exact h.1.1
    obtain ⟨b, o, rfl, hlt, hc⟩ := h.2.2 (by omega)
    exact ⟨b, o, rfl, hlt, fun hx => hx, nums_denC fun j hj => hc j (by rw [h.1.1] at hj; exact hj)⟩
  · rw [if_neg hn] at h0
    exact absurd h0 (by simp)
theorem denL0 {E : Env} : denL E [] [] := by simp only [denL]
theorem denL1 {E : Env} {d : D} {v : Value} {ds : List D} {vs : List Value} (h : den E d v) (k : denL E ds vs) : denL E (d :: ds) (v :: vs) := by
  simp only [denL]; exact ⟨_, _, rfl, h, k⟩
theorem den_i {E : Env} (k : IntKind) (z : Int) : den E (.int k z) (.int k z) := by simp only [den]
end Go.Proofs.YtgmencbhkkcpiaaGreatDoor.Ev
/- What the table of modes reads as. -/
namespace Go.Proofs.YtgmencbhkkcpiaaGreatDoor.Ev
open Go Go.RowKit Go.ChangeShapes Go.WideShapes Go.ChangeAt
set_option linter.unusedSimpArgs false
set_option linter.unusedVariables false
end Go.Proofs.YtgmencbhkkcpiaaGreatDoor.Ev
