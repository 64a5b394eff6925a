/- Contract of the document's own product. -/
import Derived.Test.YtopkndkicdgafaaDoorRefA
import Derived.Test.YtopkndkicdgafaaDoorMul
namespace Go.Proofs.YtopkndkicdgafaaDoor
open Go.RowKit

def MulR (xs : List Nat) (Y lb k : Nat) (L : List Nat) : Prop := Ok L ∧ (∀ j, k + lb ≤ j → dig L j = 0) ∧ vt (dig L) (k + lb) = vt (dig xs) k * Y
theorem MulR.step {xs ys : List Nat} {lb k cr : Nat} {L L' : List Nat} (h : MulR xs (val ys) lb k L) (hlb : ys.length = lb) (hT : AddT L k (dig xs k) ys lb cr L') (hk : k + lb < L.length) : MulR xs (val ys) lb (k + 1) (L'.set (k + lb) cr) := by
  obtain ⟨hO, hz, he⟩ := h
  obtain ⟨hl, hO', hc, hj, ht⟩ := hT
  have hkl : k + lb < L'.length := by omega
  rw [val_eq_vt (Nat.le_of_eq hlb)] at ht
  refine ⟨hO'.set hkl hc, fun j hjj => ?_, ?_⟩
  · rw [dig_set hkl, if_neg (by omega), hj j (by omega)]; exact hz j (by omega)
  · rw [show k + 1 + lb = (k + lb) + 1 from by omega]
    show vt (dig (L'.set (k + lb) cr)) (k + lb) + Bs ^ (k + lb) * dig (L'.set (k + lb) cr) (k + lb) = _
    rw [vt_congr (e := dig L') (k + lb) (fun j hj2 => by rw [dig_set hkl, if_neg (by omega)]), dig_set hkl, if_pos rfl, vt_add, Nat.pow_add]
    rw [vt_add] at he
    rw [vt_congr (e := dig L) k (fun j hj2 => hj j (by omega))]
    exact mul_row ht he
theorem MulR.fin {xs : List Nat} {Y lb k : Nat} {L : List Nat} (h : MulR xs Y lb k L) (h1 : xs.length = k) (hl : L.length = k + lb + 1) : val L = val xs * Y := by
  obtain ⟨_, hz, he⟩ := h
  rw [val_eq_vt (Nat.le_of_eq h1)] at he
  rw [← he]
  unfold val
  rw [hl]
  show vt (dig L) (k + lb) + Bs ^ (k + lb) * dig L (k + lb) = _
  rw [hz (k + lb) (Nat.le_refl _), Nat.mul_zero, Nat.add_zero]

set_option maxHeartbeats 4000000 in
theorem rmul_any (w : World) (A : Option Addr) (n c : Nat) (xs : List Nat) (A' : Option Addr) (n' c' : Nat) (ys : List Nat) (h : Lm w A n c xs) (h' : Lm w A' n' c' ys) (hn : n ≤ 10000000000) (hn' : n' ≤ 10000000000) :
    Calls Tryd.prog 32 #[.slice A n c, .slice A' n' c'] w (Tells w (val xs * val ys) (n + n' + 1)) := by
  have HL := Lib.hid (And.intro h.len h'.len)
  go_enter Tryd.func32, Tryd.ntmps32
  go_wp2_with
    (at_make
     refine wpList_make_u32 _ rfl _ _ rfl .i64 .i64 _ _ (n + n' + 1) rfl rfl ?_ ?_ ?_ ?_
     · omega
     · omega
     · omega
     intro w1 hown hb1 hs1)
  go_loopw [6] (fun ix wr => ∃ (k : Nat) (L : List Nat), k ≤ n ∧ ix = .int .i64 k ∧ L.length = n + n' + 1 ∧ Own wr w.heap.size L ∧ MulR xs (val ys) n' k L ∧ Below w.heap.size w wr) (fun ix _ => n - (intOf ix).toNat)
  case atStart => exact ⟨0, _, Nat.zero_le _, rfl, by simp, hown, ⟨Ok.zeros _, fun j _ => dig_zeros _ _, by rw [vt_zero _ (fun j _ => dig_zeros _ _)]; simp [vt]⟩, hb1⟩
  case round =>
    obtain ⟨k, L, hk, rfl, hL0, hO, hS, hB⟩ := hrel
    have hL := Lib.hid hL0
    clear hL0 hown hb1 hs1
    obtain ⟨wo, rfl⟩ : ∃ wo : World, wo = wr := ⟨_, rfl⟩
    by_cases hlt : k < n
    · have hkn : k + n' ≤ 20000000000 := by omega
      go_wp2_with fail
      go_loopw [7, 8] (fun cv jx wr => ∃ (j cr : Nat) (L' : List Nat), j ≤ n' ∧ jx = .int .i64 j ∧ cv = .int .u64 cr ∧ AddT L k (dig xs k) ys j cr L' ∧ Own wr w.heap.size L' ∧ Below w.heap.size w wr) (fun _ jx _ => n' - (intOf jx).toNat)
      case atStart => exact ⟨0, 0, L, Nat.zero_le _, rfl, rfl, ⟨rfl, hS.1, by rw [Bs_eq]; omega, fun j _ => rfl, rfl⟩, hO, hB⟩
      case round =>
        obtain ⟨j, cr, L', hj, rfl, rfl, hT, hO', hB'⟩ := hrel
        have hcr : cr < 4294967296 := hT.2.2.1
        by_cases hlj : j < n'
        · have hlm := h.bel hB'
          have hlm' := h'.bel hB'
          obtain ⟨b, o, rfl, hb, hc0⟩ := hlm.at_ hlt
          obtain ⟨b', o', rfl, hb', hc0'⟩ := hlm'.at_ hlj
          have hx := hc0 k hlt
          have hy := hc0' j hlj
          clear hc0 hc0' hlm hlm'
          have hst := hT.step (h.ok k) h'.ok (by rw [hL.out]; omega)
          have hPb := mul_lt_big (h.ok k) (h'.ok j)
          have hP : (dig xs k : Int) * (dig ys j : Int) = ((dig xs k * dig ys j : Nat) : Int) := rfl
          obtain ⟨P, hPe⟩ : ∃ P, P = dig xs k * dig ys j := ⟨_, rfl⟩
          rw [← hPe] at hP hPb hst
          have hxb : dig xs k < 4294967296 := h.ok k
          have hyb : dig ys j < 4294967296 := h'.ok j
          have hpb : dig L' (k + j) < 4294967296 := hT.2.1 (k + j)
          obtain ⟨ik, hik, ei⟩ : ∃ ik, ik = k + j ∧ (k : Int) + (j : Int) = (ik : Int) := ⟨_, rfl, by omega⟩
          have hcell := hO'.cell (i := k + j) (by rw [hT.1, hL.out]; omega)
          rw [← hik] at hst hpb hcell
          have hf := hO'.free ik
          obtain ⟨S1, hS1, es1⟩ : ∃ S1, S1 = cr + P ∧ (cr : Int) + (P : Int) = (S1 : Int) := ⟨_, rfl, by omega⟩
          obtain ⟨S, hSS, es2⟩ : ∃ S, S = S1 + dig L' ik ∧ (S1 : Int) + (dig L' ik : Int) = (S : Int) := ⟨_, rfl, by omega⟩
          have hSe : cr + (P + dig L' ik) = S := by omega
          rw [hSe] at hst
          obtain ⟨lo, hlo, e1⟩ : ∃ lo, S % Bs = lo ∧ (S : Int) % 4294967296 = (lo : Int) := ⟨_, rfl, by rw [Bs_eq]; omega⟩
          obtain ⟨hi', hhi, e2⟩ : ∃ hi', S / Bs = hi' ∧ (S : Int) / 4294967296 = (hi' : Int) := ⟨_, rfl, by rw [Bs_eq]; omega⟩
          rw [hlo, hhi] at hst
          have w1 : IntKind.u64.wrap (P : Int) = (P : Int) := by rw [IntKind.wrap_u64]; omega
          have w2 : IntKind.u64.wrap (S1 : Int) = (S1 : Int) := by rw [IntKind.wrap_u64]; omega
          have w3 : IntKind.u64.wrap (S : Int) = (S : Int) := by rw [IntKind.wrap_u64]; omega
          have w4 : IntKind.i64.wrap (ik : Int) = (ik : Int) := IntWalk.i64_in _ (by omega)
          have hikb : ik < n + n' + 1 := by omega
          have HST := Lib.hid hst
          have HX := Lib.hid (And.intro hik (And.intro hPe (And.intro hS1 (And.intro hSS (And.intro hlo hhi)))))
          clear hst hik hPe hS1 hSS hSe hlo hhi hT
          go_wp2_with fail
          go_quiet (fail)
          go_wp2
          go_roundw
          case rel => exact ⟨j + 1, hi', _, by omega, by go_num, rfl, HST.out, (show Own (wr.drewN nq) w.heap.size L' from hO').set_ _ _, (below_drewN hB' nq).setCell (Nat.le_refl _) _⟩
          case measure => simp [intOf]; omega
        · obtain rfl : j = n' := by omega
          have hl2 : L'.length = n + j + 1 := by rw [hT.1]; exact hL.out
          have hc2 := hO'.cell (i := k + j) (by rw [hl2]; omega)
          have hf2 := hO'.free (k + j)
          have HL2 := Lib.hid hl2
          have hst := Lib.hid (hS.step HL.out.2 hT (by rw [hL.out]; omega))
          clear hl2 hT
          go_wp2
          go_roundw
          case rel => exact ⟨k + 1, _, by omega, by go_num, by simpa using HL2.out, hO'.set_ _ _, hst.out, hB'.setCell (Nat.le_refl _) _⟩
          case measure => simp [intOf]; omega
    · obtain rfl : k = n := by omega
      have hv := Lib.hid (hS.fin HL.out.1 hL.out)
      have hl := hO.lm hS.1 (by rw [hL.out]; omega)
      rw [hL.out] at hl
      go_wp2_with fail
      refine (rtrim_lm _ _ _ _ _ hl).mono ?_
      rintro e w' ⟨r, rfl, hr, hrn, rfl⟩
      go_wp2
      go_ret
      exact ⟨_, r, _, rfl, by rw [hv.out] at hr; exact hr, by omega, hB⟩
end Go.Proofs.YtopkndkicdgafaaDoor
