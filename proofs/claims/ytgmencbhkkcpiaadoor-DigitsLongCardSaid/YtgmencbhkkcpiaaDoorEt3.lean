/- The document's Digits, Value, Parse. -/
import Derived.Test.YtgmencbhkkcpiaaDoorEt2
namespace Go.Proofs.YtgmencbhkkcpiaaDoor.Ev
open Go Go.RowKit
set_option linter.unusedSimpArgs false
set_option linter.unusedVariables false
def dgb (t : ByteArray) (j : Nat) : Bool := decide (48 ≤ byt t j) && decide (byt t j ≤ 57)
/-- how many digits a text begins with. -/
def dgn (t : ByteArray) : Nat := ((List.range t.size).find? (fun j => !dgb t j)).getD t.size
theorem dgn_le (t : ByteArray) : dgn t ≤ t.size := by
  unfold dgn
  cases h : (List.range t.size).find? (fun j => !dgb t j) with
  | none => exact Nat.le_refl _
  | some p => rw [List.find?_range_eq_some] at h; have := h.2.1; simp at this ⊢; omega
theorem dgn_lt {t : ByteArray} {j : Nat} (h : j < dgn t) : dgb t j = true := by
  unfold dgn at h
  cases h' : (List.range t.size).find? (fun j => !dgb t j) with
  | none =>
    rw [h'] at h
    rw [List.find?_eq_none] at h'
    have := h' j (by simpa using h)
    simpa using this
  | some p =>
    rw [h'] at h
    rw [List.find?_range_eq_some] at h'
    have := h'.2.2 j h
    simpa using this
theorem dgn_at {t : ByteArray} (h : dgn t < t.size) : dgb t (dgn t) = false := by
  unfold dgn at h ⊢
  cases h' : (List.range t.size).find? (fun j => !dgb t j) with
  | none => rw [h'] at h; exact absurd h (Nat.lt_irrefl _)
  | some p =>
    rw [List.find?_range_eq_some] at h'
    simpa using h'.1
def s_rDigits : FnSpec := ⟨.one (.i .i64), fun ds => match ds with | [.str t] => t.size ≤ maxLen | _ => False, fun ds _ => match ds with | [.str t] => (dgn t : Int) | _ => 0, fun _ _ => false, fun _ _ => 0, fun _ _ => []⟩
theorem rdigits_arg {ds : List D} (h : s_rDigits.p ds) : ∃ t, ds = [.str t] ∧ t.size ≤ maxLen := by
  match ds, h with
  | [.str t], h => exact ⟨t, rfl, h⟩
set_option maxHeartbeats 1000000 in
theorem good_rDigits {l : List Nat} : Good Tryd.prog (GWL l) N0 17 s_rDigits := by
  refine goodL (l := l) (tab := []) (shs := []) rfl trivial Tryd.f17 (by kernel_rfl) (by kernel_rfl) (by kernel_rfl) (fun ds hp F A Q hF hA hQ => ⟨0, ?_⟩)
  obtain ⟨t, rfl, ht⟩ := rdigits_arg hp
  clear hp
  obtain ⟨I, hI⟩ : ∃ I : Nat → Int, ∀ i : Nat, I i = (i : Int) := ⟨_, fun _ => rfl⟩
  obtain ⟨K, hK⟩ : ∃ K, K = dgn t := ⟨_, rfl⟩
  cbv
  refine loop_by (fun i st => st.setT 3 (.int .i64 (I i))) (K) ?_ (fun i hi => ?_)
  all_goals try cbv
  repeat' (first | with_reducible refine And.intro ?_ ?_ | (with_reducible refine safe_lift hA ?_; kernel_rfl) | (intro hc_; cbv))
  all_goals (repeat (rw [safe_true hA, true_and]; rotate_left; kernel_rfl))
  all_goals subst hF hA
  all_goals try trivial
  case refine_1.refine_1.refine_1 => rw [hI]; rfl
  all_goals
    have hsz : t.size ≤ 9223372036854775807 := Nat.le_trans ht (by decide)
    have hg : std.sget t (I i) = (byt t i : Int) := by rw [hI, byt_list]; rfl
    have hlt : std.lt (I i) (std.of (std.slen t)) = decide (i < t.size) := by
      rw [hI]; exact decide_eq_decide.2 Int.ofNat_lt
    have h48 : std.le 48 (std.sget t (I i)) = decide (48 ≤ byt t i) := by
      rw [hg]; exact decide_eq_decide.2 (Int.ofNat_le (m := 48))
    have h57 : std.le (std.sget t (I i)) 57 = decide (byt t i ≤ 57) := by
      rw [hg]; exact decide_eq_decide.2 (Int.ofNat_le (n := 57))
    simp only [hlt, h48, h57, Bool.not_true, decide_eq_true_eq, decide_eq_false_iff_not] at *
    have hIn : ∀ j : Nat, 0 ≤ I j ∧ (I j).toNat = j := fun j => by rw [hI]; exact ⟨Int.natCast_nonneg _, Int.toNat_natCast _⟩
    have hiK : i ≤ K := by omega
    have hK2 := dgn_le t
    have hlo : i < K → 48 ≤ byt t i ∧ byt t i ≤ 57 := fun h => by
      have := dgn_lt (t := t) (j := i) (by omega)
      unfold dgb at this
      simpa using this
    have hat : i = K → i < t.size → ¬ (48 ≤ byt t i ∧ byt t i ≤ 57) := fun h h2 h3 => by
      have := dgn_at (t := t) (by omega)
      rw [← hK, ← h] at this
      unfold dgb at this
      simp at this
      omega
    have hq : i = K → Q.1 (D.int .i64 (I i)) := fun h => by
      rw [hI, h, hK]; exact hQ
    have hst : D.int IntKind.i64 (I (i + 1)) = D.int IntKind.i64 (IntKind.i64.wrap (I i + 1)) ∨ ¬ i < t.size := by
      by_cases h : i < t.size
      · left
        have e1 := hIn i
        have e2 := hIn (i + 1)
        rw [IntWalk.i64_in (I i + 1) (by omega), show I (i + 1) = I i + 1 from by omega]
      · exact .inr h
    clear hQ
    have hnx : 48 ≤ byt t i ∧ byt t i ≤ 57 → i < t.size → i + 1 ≤ K := fun h1 h2 => by
      rcases Nat.lt_or_ge i K with h | h
      · exact h
      · exact absurd h1 (hat (by omega) h2)
    first
      | (show (0 : Int) ≤ I i ∧ I i < ((t.size : Nat) : Int); have e1 := hIn i; omega)
      | exact hnx ⟨by assumption, by assumption⟩ (by assumption)
      | (rcases hst with h | h <;> first | exact h | (exfalso; omega))
      | (refine hq ?_; rcases Nat.lt_or_ge i K with h | h <;> first | omega | (have := hlo h; exfalso; omega))
end Go.Proofs.YtgmencbhkkcpiaaDoor.Ev
