/- Contract: Same. -/
import Derived.Test.YtopkndkicdgafaaDoorCmp
namespace Go.Proofs.YtopkndkicdgafaaDoor
open Go.RowKit

set_option maxHeartbeats 1000000 in
theorem same_any (w : World) (A : Option Addr) (n c : Nat) (xs : List Nat) (A' : Option Addr) (n' c' : Nat) (ys : List Nat) (h : Lm w A n c xs) (h' : Lm w A' n' c' ys) :
    Calls Tryd.prog 25 #[.slice A n c, .slice A' n' c'] w fun e w' => e = .returned (.bool (decide (xs = ys))) ∧ ∃ nq, w' = w.drewN nq := by
  have hlen := Lib.hid h.len
  have hlen' := Lib.hid h'.len
  have hbig := h.big
  have hbig' := h'.big
  by_cases hne : n = n'
  · subst hne
    have hne' : ((n : Int) != (n : Int)) = false := by simp
    go_enter Tryd.func25, Tryd.ntmps25
    go_wp2_with fail
    go_loopw [5] (fun ix wr => ∃ (k nq : Nat), k ≤ n ∧ ix = .int .i64 k ∧ (∀ i, i < k → dig xs i = dig ys i) ∧ wr = w.drewN nq) (fun ix _ => n - (intOf ix).toNat)
    case atStart => exact ⟨0, 0, Nat.zero_le _, rfl, fun i hi => by omega, rfl⟩
    case round =>
      obtain ⟨k, nq, hk, rfl, ha, rfl⟩ := hrel
      have HA := Lib.hid ha
      clear ha hne'
      by_cases hlt : k < n
      · obtain ⟨b, o, rfl, hb, hc0⟩ := h.at_ hlt
        obtain ⟨b', o', rfl, hb', hc0'⟩ := h'.at_ hlt
        have hc := hc0 k hlt
        have hc' := hc0' k hlt
        clear hc0 hc0'
        by_cases hd : dig xs k = dig ys k
        · have hd' := Lib.hid hd
          rw [hd] at hc
          clear hd
          go_wp2_with fail
          go_quiet (fail)
          go_wp2
          go_roundw
          case rel => exact ⟨k + 1, _, by omega, by go_num, fun i hi => by
            rcases Nat.lt_or_ge i k with h3 | h3
            · exact HA.out i h3
            · rw [show i = k from by omega]; exact hd'.out, rfl⟩
          case measure => simp [intOf]; omega
        · have hne : ((dig xs k : Int) != (dig ys k : Int)) = true := by rw [bne_iff_ne]; omega
          have HD := Lib.hid hd
          clear hd
          go_wp2_with fail
          go_quiet (fail)
          go_wp2
          go_ret
          exact ⟨ret_bool (decide_eq_false (fun e => HD.out (by rw [e]))).symm, _, by rw [World.drewN_drewN]⟩
      · obtain rfl : k = n := by omega
        go_wp2
        go_ret
        refine ⟨ret_bool (decide_eq_true ?_).symm, nq, rfl⟩
        exact list_ext_dig (by rw [hlen.out, hlen'.out]) (fun i hi => HA.out i (by rw [hlen.out] at hi; exact hi))
  · have hne' : ((n : Int) != (n' : Int)) = true := by rw [bne_iff_ne]; omega
    have HN := Lib.hid hne
    clear hne
    go_enter Tryd.func25, Tryd.ntmps25
    go_wp2
    go_ret
    exact ⟨ret_bool (decide_eq_false (fun e => HN.out (by rw [← hlen.out, ← hlen'.out, e]))).symm, 0, rfl⟩
end Go.Proofs.YtopkndkicdgafaaDoor
