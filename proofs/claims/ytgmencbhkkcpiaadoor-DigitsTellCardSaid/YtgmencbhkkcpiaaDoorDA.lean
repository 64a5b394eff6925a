/- Contracts of package digits: minus, lowest, stands, fault. -/
import Derived.Test.YtgmencbhkkcpiaaDoorRl
import Derived.Test.YtgmencbhkkcpiaaDoorShelfB
import Derived.Deep.RegionHeld3
import Derived.BigQuiet
import Derived.Deep.QuietTactic
namespace Go.Proofs.YtgmencbhkkcpiaaDoor
open Go.RowKit

set_option maxHeartbeats 1000000 in
theorem minus_n (w : World) (X : Int) (sa : Bool) (Aa : Option Addr) (na ca : Nat) (xa : List Nat) (La : Lm w Aa na ca xa) (ha : sgn sa (val xa) = X) (h0 : X < 0) :
    Calls Tryd.prog 19 #[.agg #[.bool sa, .slice Aa na ca]] w fun e w' => e = .returned (.string ⟨#[45]⟩) ∧ Below w.heap.size w w' := by
  obtain ⟨ρ, hρ⟩ : ∃ ρ, sg X = ρ := ⟨_, rfl⟩
  have hr : ρ < 0 := by have h1 := sg_sign X; rw [hρ] at h1; omega
  have Hρ := Lib.hid hρ
  have HX := Lib.hid ha
  clear hρ ha h0
  go_enter Tryd.func19, Tryd.ntmps19
  go_wp2_with fail
  obtain ⟨ga, hga⟩ : ∃ g, g = w.heap.size := ⟨_, rfl⟩
  obtain ⟨w1, hw1⟩ : ∃ v, v = (w.alloc (.cells #[.bool sa, .slice Aa na ca] 24)) := ⟨_, rfl⟩
  have bel1 : Below w.heap.size w w1 := by rw [hw1]; exact bel_alloc _ _
  have b_a1 : Box w1 ga sa Aa na ca := by rw [hw1, hga]; exact (Box.new _ _ _ _ _)
  rw [← hw1, ← hga]
  have hgs : w.heap.size ≤ ga := by omega
  have HG := Lib.hid hgs
  clear hw1 hgs hga
  have l_a1 := La.bel bel1
  have c_a0_1 := b_a1.c0
  have c_a1_1 := b_a1.c1
  have cc := Lib.hid (wsign_g w1 X sa Aa na ca xa l_a1 HX.out Hρ.out)
  refine cc.out.mono ?_
  clear cc
  rintro e v2 ⟨rfl, kb2⟩
  have b_a2 := b_a1.bel kb2
  have l_a2 := l_a1.bel kb2
  have bel2 := bel1.trans (kb2.mono bel1.size)
  have c_a0_2 := b_a2.c0
  have c_a1_2 := b_a2.c1
  clear kb2 b_a1 c_a0_1 c_a1_1 l_a1 bel1
  go_wp2
  go_ret
  exact ⟨rfl, bel2⟩
set_option maxHeartbeats 1000000 in
theorem minus_p (w : World) (X : Int) (sa : Bool) (Aa : Option Addr) (na ca : Nat) (xa : List Nat) (La : Lm w Aa na ca xa) (ha : sgn sa (val xa) = X) (h0 : ¬ X < 0) :
    Calls Tryd.prog 19 #[.agg #[.bool sa, .slice Aa na ca]] w fun e w' => e = .returned (.string ⟨#[]⟩) ∧ Below w.heap.size w w' := by
  obtain ⟨ρ, hρ⟩ : ∃ ρ, sg X = ρ := ⟨_, rfl⟩
  have hr : ¬ ρ < 0 := by have h1 := sg_sign X; rw [hρ] at h1; omega
  have Hρ := Lib.hid hρ
  have HX := Lib.hid ha
  clear hρ ha h0
  go_enter Tryd.func19, Tryd.ntmps19
  go_wp2_with fail
  obtain ⟨ga, hga⟩ : ∃ g, g = w.heap.size := ⟨_, rfl⟩
  obtain ⟨w1, hw1⟩ : ∃ v, v = (w.alloc (.cells #[.bool sa, .slice Aa na ca] 24)) := ⟨_, rfl⟩
  have bel1 : Below w.heap.size w w1 := by rw [hw1]; exact bel_alloc _ _
  have b_a1 : Box w1 ga sa Aa na ca := by rw [hw1, hga]; exact (Box.new _ _ _ _ _)
  rw [← hw1, ← hga]
  have hgs : w.heap.size ≤ ga := by omega
  have HG := Lib.hid hgs
  clear hw1 hgs hga
  have l_a1 := La.bel bel1
  have c_a0_1 := b_a1.c0
  have c_a1_1 := b_a1.c1
  have cc := Lib.hid (wsign_g w1 X sa Aa na ca xa l_a1 HX.out Hρ.out)
  refine cc.out.mono ?_
  clear cc
  rintro e v2 ⟨rfl, kb2⟩
  have b_a2 := b_a1.bel kb2
  have l_a2 := l_a1.bel kb2
  have bel2 := bel1.trans (kb2.mono bel1.size)
  have c_a0_2 := b_a2.c0
  have c_a1_2 := b_a2.c1
  clear kb2 b_a1 c_a0_1 c_a1_1 l_a1 bel1
  go_wp2
  go_ret
  exact ⟨rfl, bel2⟩
/-- what minus tells. -/
def mns (X : Int) : ByteArray := if X < 0 then ⟨#[45]⟩ else ⟨#[]⟩
theorem minus_g (w : World) (X : Int) (sa : Bool) (Aa : Option Addr) (na ca : Nat) (xa : List Nat) (La : Lm w Aa na ca xa) (ha : sgn sa (val xa) = X) :
    Calls Tryd.prog 19 #[.agg #[.bool sa, .slice Aa na ca]] w fun e w' => e = .returned (.string (mns X)) ∧ Below w.heap.size w w' := by
  unfold mns
  by_cases h0 : X < 0
  · rw [if_pos h0]; exact minus_n w X sa Aa na ca xa La ha h0
  · rw [if_neg h0]; exact minus_p w X sa Aa na ca xa La ha h0
set_option maxHeartbeats 400000 in
theorem lowest_any (w : World) (A : Option Addr) (n c : Nat) (xs : List Nat) (h : Lm w A n c xs) :
    Calls Tryd.prog 43 #[.slice A n c] w fun e w' => e = .returned (.int .u32 (dig xs 0 : Nat)) ∧ w = w' := by
  have hcap := h.cap
  have hbig := h.big
  by_cases h0 : n = 0
  · have hd : dig xs 0 = 0 := by
      have h1 := h.len
      have h2 : xs = [] := List.eq_nil_of_length_eq_zero (by omega)
      rw [h2]; rfl
    rw [hd]
    have hl : (n : Int) = 0 := by omega
    go_enter Tryd.func43, Tryd.ntmps43
    go_wp2
    go_ret
    exact ⟨rfl, rfl⟩
  · obtain ⟨b, o, rfl, hb, hc⟩ := h.at_ (k := 0) (by omega)
    have hx := hc 0 (by omega)
    rw [Nat.add_zero] at hx
    have hl : ((n : Int) == 0) = false := by rw [beq_eq_false_iff_ne]; omega
    have hp : 0 < n := by omega
    clear hc
    obtain ⟨d, hd⟩ : ∃ d, dig xs 0 = d := ⟨_, rfl⟩
    rw [hd] at hx ⊢
    clear hd
    go_enter Tryd.func43, Tryd.ntmps43
    go_wp2
    go_ret
    exact ⟨rfl, rfl⟩
/-- the byte at i. -/
def byt (s : ByteArray) (i : Nat) : Nat := (s.data.getD i 0).toNat
/-- the byte at i can stand there. -/
def stb (s : ByteArray) (first i : Nat) : Bool :=
  if byt s i < 48 ∨ 57 < byt s i then false else if 400 ≤ i - first then false else if i = first then decide (byt s i ≠ 48) || decide (first = 0) else decide (byt s first ≠ 48)
theorem byt_get (s : ByteArray) (i : Nat) (h : i < s.size) : s[i].toNat = byt s i := by
  unfold byt
  have h' : i < s.data.size := h
  rw [Array.getD_eq_getD_getElem?, Array.getElem?_eq_getElem h']; rfl
set_option maxHeartbeats 1000000 in
theorem stands_any (s : ByteArray) (first i : Nat) (w : World) (hi : i < s.size) (hf : first ≤ i) (hs : s.size ≤ maxLen) :
    Calls Tryd.prog 29 #[.string s, .int .i64 first, .int .i64 i] w fun e w' => e = .returned (.bool (stb s first i)) ∧ w' = w := by
  unfold maxLen at hs
  have hff : first < s.size := by omega
  have e1 := byt_get s i hi
  have e2 := byt_get s first hff
  have HE := Lib.hid (And.intro e1 e2)
  clear e1 e2
  have hw : IntKind.i64.wrap ((i : Int) - (first : Int)) = (i : Int) - (first : Int) := IntWalk.i64_in _ (by omega)
  go_enter Tryd.func29, Tryd.ntmps29
  go_wp2
  all_goals go_ret
  all_goals refine ⟨ret_bool ?_, rfl⟩
  all_goals have e1 := HE.out.1
  all_goals have e2 := HE.out.2
  all_goals clear HE hw
  all_goals unfold stb
  all_goals rw [← e1, ← e2]
  all_goals clear e1 e2
  all_goals generalize s[i].toNat = p at *
  all_goals generalize s[first].toNat = q at *
  all_goals (first | (split <;> (try split) <;> (try split) <;> simp_all <;> omega) | (by_cases h7 : q = 48 <;> by_cases h8 : first = 0 <;> (split <;> (try split) <;> (try split) <;> simp_all <;> omega)) | (by_cases h7 : q = 48 <;> by_cases h8 : first = 0 <;> (split <;> (try split) <;> (try split) <;> simp_all <;> (first | omega | (rw [Bool.eq_iff_iff]; simp; omega)))))
/-- how many bytes stand ahead of the digits; the digits. -/
def frm (s : ByteArray) : Nat := if Lib.hasPrefix s.data.toList [45] = true then 1 else 0
def bdy (s : ByteArray) : ByteArray := ⟨(Lib.trimPrefix s.data.toList [45]).toArray⟩
theorem bdy_size (s : ByteArray) : frm s + (bdy s).size = s.size := by
  have e : s.data.toList.length = s.size := Array.length_toList
  unfold frm bdy Lib.trimPrefix
  show _ + (List.toArray _).size = _
  rw [List.size_toArray]
  split
  · rename_i h
    have h1 : [(45 : UInt8)].length ≤ s.data.toList.length := by
      unfold Lib.hasPrefix at h
      exact (List.isPrefixOf_iff_prefix.1 h).length_le
    rw [List.length_drop]
    simp only [List.length_cons, List.length_nil] at h1 ⊢
    omega
  · omega
theorem trimp_any (s : ByteArray) (w : World) : Calls Tryd.prog 28 #[.string s, .string ⟨#[45]⟩] w fun e w' => e = .returned (.string (bdy s)) ∧ w' = w := Tryd.strings_TrimPrefix s ⟨#[45]⟩ w
theorem cutp_any (s : ByteArray) (w : World) : Calls Tryd.prog 15 #[.string s, .string ⟨#[45]⟩] w fun e w' => e = .returned (.tuple #[.string (bdy s), .bool (Lib.hasPrefix s.data.toList [45])]) ∧ w' = w := Tryd.strings_CutPrefix s ⟨#[45]⟩ w
def AllSt (s : ByteArray) (k : Nat) : Prop := ∀ j, frm s ≤ j → j < k → stb s (frm s) j = true
/-- the place and the error of a text. -/
def Fault (s : ByteArray) (p : Nat) (e : Int) : Prop :=
  (p < s.size ∧ frm s ≤ p ∧ AllSt s p ∧ stb s (frm s) p = false ∧ e = 14) ∨ (AllSt s s.size ∧ p = s.size ∧ e = if frm s = s.size then 15 else 0)
set_option maxRecDepth 100000 in
set_option maxHeartbeats 1000000 in
theorem fault_any (s : ByteArray) (w : World) (hs : s.size ≤ maxLen) :
    Calls Tryd.prog 14 #[.string s] w fun e w' => ∃ p er, e = .returned (.tuple #[.int .i64 (p : Nat), .int .i64 er]) ∧ Fault s p er ∧ w' = w := by
  have hs' := hs
  unfold maxLen at hs
  obtain ⟨f, hf⟩ : ∃ f, frm s = f := ⟨_, rfl⟩
  obtain ⟨m, hm⟩ : ∃ m, (bdy s).size = m := ⟨_, rfl⟩
  have hfm : f + m = s.size := by rw [← hf, ← hm]; exact bdy_size s
  have HW : Hid (wrap64 ((s.size : Int) - (m : Int)) = (f : Int)) := (by rw [show (s.size : Int) - (m : Int) = (f : Int) from by omega, ← IntWalk.i64_left]; exact IntWalk.i64_in _ (by omega) : wrap64 ((s.size : Int) - (m : Int)) = (f : Int))
  have HF := Lib.hid hf
  have HM := Lib.hid hm
  have hfs : f ≤ s.size := by omega
  clear hf hm hfm
  go_enter Tryd.func14, Tryd.ntmps14
  go_wp2_with fail
  refine (trimp_any s w).mono ?_
  rintro e w' ⟨rfl, rfl⟩
  go_wp2_with fail
  rw [HM.out, HW.out]
  go_loop [5] (fun i => ∃ k : Nat, f ≤ k ∧ k ≤ s.size ∧ i = .int .i64 k ∧ Hid (AllSt s k)) (fun i => s.size - (intOf i).toNat)
  case atStart => exact ⟨f, Nat.le_refl _, hfs, rfl, fun j h1 h2 => by rw [HF.out] at h1; omega⟩
  case round =>
    obtain ⟨k, hfk, hk, rfl, hall⟩ := hrel
    by_cases hlt : k < s.size
    · go_wp2_with fail
      refine (stands_any s f k _ hlt hfk hs').mono ?_
      rintro e w' ⟨rfl, rfl⟩
      by_cases hst : stb s f k = true
      · rw [hst]
        have HST := Lib.hid hst
        clear hst
        go_wp2
        go_round
        case rel => exact ⟨k + 1, by omega, by omega, by go_num, fun j h1 h2 => by
          by_cases hj : j < k
          · exact hall.out j h1 hj
          · obtain rfl : j = k := by omega
            rw [HF.out]; exact HST.out⟩
        case measure => simp [intOf]; omega
      · rw [Bool.eq_false_iff.2 hst]
        have HST := Lib.hid (Bool.eq_false_iff.2 hst)
        clear hst
        go_wp2
        go_ret2
        exact ⟨k, 14, rfl, .inl ⟨hlt, by rw [HF.out]; exact hfk, hall.out, by rw [HF.out]; exact HST.out, rfl⟩, rfl⟩
    · obtain rfl : k = s.size := by omega
      by_cases h0 : f = s.size
      · have h0i : ((f : Int) == (s.size : Int)) = true := by rw [beq_iff_eq]; omega
        have H0 := Lib.hid h0
        clear h0
        go_wp2
        go_ret2
        exact ⟨s.size, 15, rfl, .inr ⟨hall.out, rfl, by rw [HF.out, if_pos H0.out]⟩, rfl⟩
      · have h0i : ((f : Int) == (s.size : Int)) = false := by rw [beq_eq_false_iff_ne]; omega
        have H0 := Lib.hid h0
        clear h0
        go_wp2
        go_ret2
        exact ⟨s.size, 0, rfl, .inr ⟨hall.out, rfl, by rw [HF.out, if_neg H0.out]⟩, rfl⟩
end Go.Proofs.YtgmencbhkkcpiaaDoor
