/- Contracts of package digits: Parse. -/
import Derived.Test.YtgmencbhkkcpiaaDoorDB
import Derived.Deep.RegionHeld3
namespace Go.Proofs.YtgmencbhkkcpiaaDoor
open Go.RowKit

theorem byt_list (s : ByteArray) (i : Nat) : byt s i = (s.data.toList.getD i 0).toNat := by
  unfold byt
  rw [Array.getD_eq_getD_getElem?, List.getD_eq_getElem?_getD, Array.getElem?_toList]
theorem byt_bdy (s : ByteArray) (j : Nat) : byt (bdy s) j = byt s (frm s + j) := by
  rw [byt_list, byt_list]
  unfold bdy frm Lib.trimPrefix
  show (List.getD (List.toArray (if Lib.hasPrefix s.data.toList [45] = true then s.data.toList.drop [(45 : UInt8)].length else s.data.toList)).toList j 0).toNat = _
  by_cases h : Lib.hasPrefix s.data.toList [45] = true
  · rw [if_pos h, if_pos h]
    simp only [List.length_cons, List.length_nil, List.getD_eq_getElem?_getD, List.getElem?_drop]
  · rw [if_neg h, if_neg h, Nat.zero_add]
theorem stb_digit {s : ByteArray} {f i : Nat} (h : stb s f i = true) : 48 ≤ byt s i ∧ byt s i ≤ 57 ∧ i - f < 400 := by
  unfold stb at h
  split at h
  · cases h
  · split at h
    · cases h
    · omega
theorem stb_first {s : ByteArray} {f : Nat} (h : stb s f f = true) (hf : f ≠ 0) : byt s f ≠ 48 := by
  unfold stb at h
  split at h
  · cases h
  · split at h
    · cases h
    · rw [if_pos rfl, Bool.or_eq_true, decide_eq_true_iff, decide_eq_true_iff] at h
      rcases h with h | h
      · exact h
      · exact absurd h hf
theorem dgs_of {s : ByteArray} (h : AllSt s s.size) : Dgs (bdy s) ∧ (bdy s).size ≤ 400 := by
  have e := bdy_size s
  constructor
  · intro j hj
    rw [byt_bdy]
    have := stb_digit (h (frm s + j) (by omega) (by omega))
    exact ⟨this.1, this.2.1⟩
  · apply Nat.le_of_not_lt
    intro c
    have := (stb_digit (h (frm s + 400) (by omega) (by omega))).2.2
    omega
theorem nv_pos {s : ByteArray} (h : 49 ≤ byt s 0) : ∀ k, 0 < k → 0 < nv s k
  | 1, _ => by rw [nv, nv]; omega
  | k + 2, _ => by rw [nv]; have := nv_pos h (k + 1) (by omega); omega
/-- the number that a text means. -/
def neg1 (s : ByteArray) : Bool := Lib.hasPrefix s.data.toList [45]
def zs (s : ByteArray) : Int := sgn (neg1 s) (nv (bdy s) (bdy s).size)
theorem zs_neg {s : ByteArray} (h : AllSt s s.size) (hf : frm s ≠ s.size) : decide (zs s < 0) = neg1 s := by
  have e := bdy_size s
  unfold zs
  cases hn : neg1 s
  · rw [sgn_false]; exact decide_eq_false (by omega)
  · rw [sgn_true]
    have hf1 : frm s = 1 := by unfold frm; exact if_pos hn
    have h1 := stb_first (h (frm s) (Nat.le_refl _) (by omega)) (by omega)
    have h2 := stb_digit (h (frm s) (Nat.le_refl _) (by omega))
    have h3 : 49 ≤ byt (bdy s) 0 := by rw [byt_bdy, Nat.add_zero]; omega
    have h4 := nv_pos h3 (bdy s).size (by omega)
    exact decide_eq_true (by omega)
/-- what Parse tells. -/
def Told (w : World) (p : Nat) (er Z : Int) (e : Ending) (w' : World) : Prop :=
  ∃ A m c, e = .returned (.tuple #[.agg #[.bool (decide (Z < 0)), .slice A m c], .int .i64 (p : Nat), .int .i64 er]) ∧ Lm w' A m c (lim Z.natAbs) ∧ m ≤ 2000000 ∧ Below w.heap.size w w'
set_option maxRecDepth 100000 in
set_option maxHeartbeats 2000000 in
theorem parse_any (s : ByteArray) (w : World) (hs : s.size ≤ maxLen) :
    Calls Tryd.prog 6 #[.string s] w fun e w' => ∃ p er, Fault s p er ∧ Told w p er (if er = 0 then zs s else 0) e w' := by
  have HS := Lib.hid hs
  clear hs
  go_enter Tryd.func6, Tryd.ntmps6
  go_wp2_with fail
  obtain ⟨r0, hr0⟩ : ∃ g, g = w.heap.size := ⟨_, rfl⟩
  obtain ⟨w1, hw1⟩ : ∃ v, v = (w.alloc (.cells #[.bool false, .slice none 0 0] 24)) := ⟨_, rfl⟩
  have bel1 : Below w.heap.size w w1 := by rw [hw1]; exact bel_alloc _ _
  have t_r01 : Two w1 r0 := by rw [hw1, hr0]; exact Box.two (Box.new _ _ _ _ _)
  rw [← hw1, ← hr0]
  have hgs : w.heap.size ≤ r0 := by omega
  have HG := Lib.hid hgs
  clear hw1 hgs hr0
  have f_r01 := t_r01.room.2
  refine (fault_any s w1 HS.out).mono ?_
  rintro e w' ⟨p, er, rfl, hF, hw⟩
  obtain rfl : w1 = w' := hw.symm
  clear hw
  have HF := Lib.hid hF
  clear hF
  by_cases h0 : er = 0
  · skip
    have HER := Lib.hid h0
    have HA : Hid (AllSt s s.size ∧ frm s ≠ s.size ∧ p = s.size) := (by
      rcases HF.out with ⟨_, _, _, _, h⟩ | ⟨h1, h2, h3⟩
      · omega
      · refine ⟨h1, fun c => ?_, h2⟩
        rw [if_pos c] at h3; omega : AllSt s s.size ∧ frm s ≠ s.size ∧ p = s.size)
    have hq : (er != 0) = false := by rw [h0]; rfl
    obtain ⟨b, hb⟩ : ∃ b, neg1 s = b := ⟨_, rfl⟩
    have HB : Hid (decide (zs s < 0) = b) := (by rw [← hb]; exact zs_neg HA.out.1 HA.out.2.1 : decide (zs s < 0) = b)
    have HB2 := Lib.hid hb
    have hcc := Lib.hid (cutp_any s w1)
    clear hb h0
    go_wp2_with fail
    refine (hcc.out).mono ?_
    rintro e w' ⟨rfl, hw⟩
    obtain rfl : w1 = w' := hw.symm
    clear hw hcc
    rw [show Lib.hasPrefix s.data.toList [45] = b from HB2.out]
    go_wp2_with fail
    have cc := Lib.hid (number_any (bdy s) w1 (dgs_of HA.out.1).1 (by have := (dgs_of HA.out.1).2; omega))
    refine cc.out.mono ?_
    clear cc
    rintro e v2 ⟨A5, m5, c5, rfl, h5, hm5, kb2⟩
    have t_r02 := t_r01.bel kb2
    have bel2 := bel1.trans (kb2.mono bel1.size)
    have f_r02 := t_r02.room.2
    clear kb2 t_r01 f_r01 bel1
    go_wp2
    have hx := t_r02.put b A5 m5 c5
    have hl := h5.put t_r02 (.bool b) (.slice A5 m5 c5)
    have hbl := bel_put bel2 (g := r0) HG.out (.bool b) (.slice A5 m5 c5)
    generalize (v2.setCell ⟨r0, 0, none⟩ (.bool b)).setCell ⟨r0, 1, none⟩ (.slice A5 m5 c5) = wz at *
    refine bodyPost_ret (v := .tuple #[.agg #[.bool b, .slice A5 m5 c5], .int .i64 (p : Nat), .int .i64 er]) (by simp [results, Tryd.results6, go_sem, hx.c0, hx.c1, HER.out]) rfl ?_
    exact ⟨p, er, HF.out, A5, m5, c5, by rw [if_pos HER.out, HB.out], by rw [if_pos HER.out]; unfold zs; rw [sgn_natAbs]; exact hl, hm5, hbl⟩
  · skip
    have hq : (er != 0) = true := by rw [bne_iff_ne]; exact h0
    have HER := Lib.hid h0
    clear h0
    have l_z := Lm.nil w1
    go_wp2
    have hx := t_r01.put false none 0 0
    have hl := l_z.put t_r01 (.bool false) (.slice none 0 0)
    have hbl := bel_put bel1 (g := r0) HG.out (.bool false) (.slice none 0 0)
    generalize (w1.setCell ⟨r0, 0, none⟩ (.bool false)).setCell ⟨r0, 1, none⟩ (.slice none 0 0) = wz at *
    refine bodyPost_ret (v := .tuple #[.agg #[.bool false, .slice none 0 0], .int .i64 (p : Nat), .int .i64 er]) (by simp [results, Tryd.results6, go_sem, hx.c0, hx.c1]) rfl ?_
    exact ⟨p, er, HF.out, none, 0, 0, by rw [if_neg HER.out]; rfl, by rw [if_neg HER.out]; simpa [lim_zero] using hl, by omega, hbl⟩
end Go.Proofs.YtgmencbhkkcpiaaDoor
