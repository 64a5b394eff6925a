/- Contracts of strconv: FormatUint at base 16. -/
import Derived.Test.YtgmencbhkkcpiaaDoorDE
import Derived.Test.YtgmencbhkkcpiaaDoorTd
namespace Go.Proofs.YtgmencbhkkcpiaaDoor
open Go Go.RowKit Go.Lib Go.Sort
set_option linter.unusedSimpArgs false
set_option linter.unusedVariables false
theorem pow2_16 (w : World) : Calls Tryd.prog 87 #[.int .i64 16] w fun e w' => e = .returned (.bool true) ∧ w = w' := by
  have key : bits BinOp.and IntKind.i64 16 15 = 0 := by decide
  go_enter Tryd.func87, Tryd.ntmps87
  go_wp2_with (simp only [key])
  go_ret
  exact ⟨rfl, rfl⟩
/-- the one place of the table that base 16 asks for. -/
def Tab4 (w : World) : Prop := w.cell? ⟨4, 15, none⟩ = some (.int .u8 4)
theorem tz64_16 (w : World) (hT : Tab4 w) : Calls Tryd.prog 94 #[.int .u64 16] w fun e w' => e = .returned (.int .i64 4) ∧ w = w' := by
  have key : IntKind.u64.wrap (bits BinOp.and IntKind.u64 16 (IntKind.u64.wrap (-16)) * 285870213051353865) / 288230376151711744 = 15 := by decide
  unfold Tab4 at hT
  go_enter Tryd.func94, Tryd.ntmps94
  go_wp2_with (simp only [key])
  go_ret
  exact ⟨rfl, rfl⟩
theorem tz_16 (w : World) (hT : Tab4 w) : Calls Tryd.prog 88 #[.int .u64 16] w fun e w' => e = .returned (.int .i64 4) ∧ w = w' := by
  have h := tz64_16 w hT
  go_enter Tryd.func88, Tryd.ntmps88
  go_wp2_with fail
  refine h.mono ?_
  rintro e w' ⟨rfl, rfl⟩
  go_wp2
  go_ret
  exact ⟨rfl, rfl⟩
/-- a row of 65 bytes of the call's own, whose last ones are l. -/
def Row65 (n : Nat) (W : World) (l : List UInt8) : Prop := (∀ j, j < 65 → (∃ v, W.cell? ⟨n, j, none⟩ = some v) ∧ W.frozen? ⟨n, j, none⟩ = false) ∧ l.length ≤ 65 ∧ ∀ j, j < l.length → W.cell? ⟨n, 65 - l.length + j, none⟩ = some (u8v (l.getD j 0))
theorem Row65.put {n : Nat} {W : World} {l : List UInt8} (h : Row65 n W l) (hl : l.length < 65) (c : UInt8) : Row65 n (W.setCell ⟨n, 64 - l.length, none⟩ (u8v c)) (c :: l) := by
  obtain ⟨v, hv⟩ := (h.1 (64 - l.length) (by omega)).1
  have key : ∀ j, j ≠ 64 - l.length → (W.setCell ⟨n, 64 - l.length, none⟩ (u8v c)).cell? ⟨n, j, none⟩ = W.cell? ⟨n, j, none⟩ := fun j hj => World.cell?_setCell_other (w := W) _ _ _ (by intro e; injection e with _ e _; exact hj e.symm)
  have same : (W.setCell ⟨n, 64 - l.length, none⟩ (u8v c)).cell? ⟨n, 64 - l.length, none⟩ = some (u8v c) := World.cell?_setCell_same' _ _ _ (by rw [hv]; rfl)
  refine ⟨fun j hj => ⟨?_, by rw [World.frozen?_setCell]; exact (h.1 j hj).2⟩, by rw [List.length_cons]; omega, fun j hj => ?_⟩
  · by_cases e : j = 64 - l.length
    · subst e; exact ⟨_, same⟩
    · rw [key j e]; exact (h.1 j hj).1
  · rw [List.length_cons] at hj ⊢
    by_cases e : j = 0
    · subst e
      rw [show 65 - (l.length + 1) + 0 = 64 - l.length from by omega]; exact same
    · obtain ⟨i, rfl⟩ : ∃ i, j = i + 1 := ⟨j - 1, by omega⟩
      rw [key _ (by omega), show 65 - (l.length + 1) + (i + 1) = 65 - l.length + i from by omega, h.2.2 i (by omega)]
      simp
theorem next16 {U k u : Nat} (hu : u = U / 16 ^ k) (h : 16 ≤ u) : 16 ^ (k + 1) ≤ U := by
  rw [hu, Nat.le_div_iff_mul_le (Nat.pow_pos (by omega))] at h
  rw [Nat.pow_succ, Nat.mul_comm]; exact h
theorem le8 {U k : Nat} (hU : U < 4294967296) (h : 16 ^ k ≤ U) : k ≤ 7 := by
  apply Nat.le_of_not_lt
  intro c
  have h1 : 16 ^ 8 ≤ 16 ^ k := Nat.pow_le_pow_right (by omega) c
  have h2 : 16 ^ 8 = 4294967296 := by decide
  omega
theorem tx16 {U k : Nat} (hk : k = 0 ∨ 16 ^ k ≤ U) (hu : U / 16 ^ k < 16) : Ev.low 16 U (k + 1) = Ev.tx0 16 U := by
  have hlt : U < 16 ^ (k + 1) := by
    rw [Nat.pow_succ, Nat.mul_comm]
    exact (Nat.div_lt_iff_lt_mul (Nat.pow_pos (by omega))).1 hu
  unfold Ev.tx0
  by_cases h0 : U = 0
  · rw [if_pos h0]
    subst h0
    rcases hk with rfl | hk
    · rfl
    · have := Nat.pow_pos (a := 16) (n := k) (by omega); omega
  · rw [if_neg h0]
    unfold Ev.txt
    have h1 := (Ev.nd_le (b := 16) (by omega) (k := k + 1) (N := U)).2 hlt
    have h2 := (Ev.nd_lt (b := 16) (by omega) (k := k) (N := U)).2 (by
      rcases hk with rfl | hk
      · rw [Nat.pow_zero]; omega
      · exact hk)
    rw [show Ev.nd 16 U = k + 1 from by omega]
abbrev DIG : ByteArray := ⟨#[48, 49, 50, 51, 52, 53, 54, 55, 56, 57, 97, 98, 99, 100, 101, 102, 103, 104, 105, 106, 107, 108, 109, 110, 111, 112, 113, 114, 115, 116, 117, 118, 119, 120, 121, 122]⟩
theorem digs : ∀ (d : Nat) (hd : d < 16) (h : d < DIG.size), DIG[d]'h = Ev.dch d := by decide
set_option maxRecDepth 100000 in
set_option maxHeartbeats 4000000 in
theorem fbits16 (U : Nat) (hU : U < 4294967296) (w : World) (hT : Tab4 w) :
    Calls Tryd.prog 70 #[.slice none 0 0, .int .u64 (U : Int), .int .i64 16, .bool false, .bool false] w fun e w' => e = .returned (.tuple #[.slice none 0 0, .string ⟨(Ev.tx0 16 U).toArray⟩]) ∧ Below w.heap.size w w' := by
  have hp := Lib.hid pow2_16
  have ht := Lib.hid hT
  clear hT
  have ht2 : Tab4 (w.alloc (.cells Tryd.zeroCells112 112)) := cell?_alloc_some _ ht.out
  have htz := Lib.hid (tz_16 _ ht2)
  go_enter Tryd.func70, Tryd.ntmps70
  go_wp2_with fail
  refine (hp.out _).mono ?_
  rintro e w' ⟨rfl, rfl⟩
  go_wp2_with fail
  refine (htz.out).mono ?_
  rintro e w' ⟨rfl, rfl⟩
  go_wp2_with fail
  have hR0 : Row65 w.heap.size (w.alloc (.cells Tryd.zeroCells112 112)) [] := by
    refine ⟨fun j hj => ⟨?_, World.frozen?_alloc_new _ _ _ _⟩, by simp, fun j hj => by simp at hj⟩
    rw [World.cell?_alloc_new]
    have hsz : Tryd.zeroCells112.size = 65 := by kernel_rfl
    exact ⟨_, Array.getElem?_eq_getElem (by rw [hsz]; exact hj)⟩
  have hB0 : Below w.heap.size w (w.alloc (.cells Tryd.zeroCells112 112)) := (Below.refl _ w).alloc (Nat.le_refl _) _
  generalize w.alloc (.cells Tryd.zeroCells112 112) = W0 at *
  clear hp ht htz ht2
  go_loopw [1, 13] (fun uv ix wr => ∃ (k u i : Nat), i + k = 65 ∧ k ≤ 8 ∧ u = U / 16 ^ k ∧ (k = 0 ∨ 16 ^ k ≤ U) ∧ uv = .int .u64 (u : Int) ∧ ix = .int .i64 (i : Int) ∧ Row65 w.heap.size wr (Ev.low 16 U k) ∧ Below w.heap.size w wr) (fun uv _ _ => (RowKit.intOf uv).toNat)
  case atStart => exact ⟨0, U, 65, rfl, by omega, by simp, .inl rfl, rfl, rfl, hR0, hB0⟩
  case round =>
    obtain ⟨k, u, i, hik, hk8, hu, hk, rfl, rfl, hR, hB⟩ := hrel
    have HR := Lib.hid hR
    have HU := Lib.hid hu
    have hu2 : u < 4294967296 := by rw [hu]; exact Nat.lt_of_le_of_lt (Nat.div_le_self _ _) hU
    clear hu
    obtain ⟨i, rfl⟩ : ∃ j, i = j + 1 := ⟨i - 1, by omega⟩
    have hi1 : ((i + 1 : Nat) : Int) - 1 = (i : Int) := by omega
    have hlen := Lib.hid (Ev.low_len 16 U k)
    have hil : Hid (i = 64 - (Ev.low 16 U k).length) := (by rw [Ev.low_len]; omega : i = 64 - (Ev.low 16 U k).length)
    obtain ⟨⟨v0, hv0⟩, hf0⟩ := hR.1 i (by omega)
    have HB := Lib.hid hB
    have HK := Lib.hid hk
    have HKI := Lib.hid hik
    have hi65 : i < 65 := by omega
    have HK8 := Lib.hid hk8
    clear hR hB hk hik hk8
    by_cases hlt : 16 ≤ u
    · have hand : bits BinOp.and IntKind.u64 (u : Int) 15 = ((u % 16 : Nat) : Int) := by
        have h := u64_and_nat u 15 (by omega) (by omega)
        rw [show u &&& 15 = u % 16 from Nat.and_two_pow_sub_one_eq_mod u 4] at h
        exact h
      go_wp2_with (simp only [hand])
      have hm : u % 16 < 16 := Nat.mod_lt _ (by omega)
      have hd : u % 16 < DIG.size := Nat.lt_of_lt_of_le hm (by decide)
      have e : Ev.low 16 U (k + 1) = (DIG[u % 16]'hd) :: Ev.low 16 U k := by rw [Ev.low, digs _ hm hd, ← HU.out]
      have h2 := HR.out.put (by rw [hlen.out]; have := HKI.out; omega) (DIG[u % 16]'hd)
      rw [← e, ← hil.out] at h2
      have b2 := HB.out.setCell (p := ⟨w.heap.size, i, none⟩) (Nat.le_refl _) (u8v (DIG[u % 16]'hd))
      have hn := next16 HU.out hlt
      have e3 : ((u : Int) / 16) = ((u / 16 : Nat) : Int) := by omega
      refine ⟨⟨k + 1, u / 16, i, by have := HKI.out; omega, by have := le8 hU hn; omega, by rw [HU.out, Nat.pow_succ, Nat.div_div_eq_div_mul], .inr hn, by rw [e3], rfl, h2, b2⟩, ?_⟩
      show ((u : Int) / 16).toNat < (u : Int).toNat
      omega
    · go_upto_region 25 with (fail)
      have hu16 : u < 16 := by omega
      have hd : u < DIG.size := Nat.lt_of_lt_of_le hu16 (by decide)
      have e : Ev.low 16 U (k + 1) = (DIG[u]'hd) :: Ev.low 16 U k := by rw [Ev.low, digs u hu16 hd, ← HU.out, Nat.mod_eq_of_lt hu16]
      have h2 := HR.out.put (by rw [hlen.out]; have := HKI.out; omega) (DIG[u]'hd)
      rw [← e, ← hil.out] at h2
      have b2 := HB.out.setCell (p := ⟨w.heap.size, i, none⟩) (Nat.le_refl _) (u8v (DIG[u]'hd))
      have et := tx16 HK.out (by rw [← HU.out]; exact hu16)
      have hl2 := Ev.low_len 16 U (k + 1)
      rw [et] at h2 hl2
      generalize wr.setCell ⟨w.heap.size, i, none⟩ (u8v (DIG[u]'hd)) = W1 at h2 b2 ⊢
      have hcv : (convert 34 9 (.slice (some ⟨w.heap.size, i, none⟩) (65 - i) (65 - i))).run Tryd.prog W1 = .ok (.string ⟨(Ev.tx0 16 U).toArray⟩) W1 := by
        have h := run_convert_bytes_back (P := Tryd.prog) W1 34 9 5 ⟨w.heap.size, i, none⟩ (65 - i) (Ev.tx0 16 U) Tryd.underlying34 Tryd.underlying5 Tryd.underlying9 (fun j hj => by
          have h3 := h2.2.2 j hj
          rw [hl2, show 65 - (k + 1) = i from by have := HKI.out; omega] at h3
          rw [Lib.add_plain, h3, List.getD_eq_getElem?_getD, List.getElem?_eq_getElem hj]; rfl)
        rw [hl2, show k + 1 = 65 - i from by have := HKI.out; omega] at h
        exact h
      have HB2 := Lib.hid b2
      clear h2 b2 e et hl2
      have hi0 : (0 : Int) ≤ (i : Int) := by omega
      have hi6 : (i : Int) ≤ 65 := by omega
      go_wp2
      refine bodyPost_ret (results_tmp2 rfl _ _ _) rfl ?_
      exact ⟨rfl, HB2.out⟩
set_option maxHeartbeats 1000000 in
theorem ifu16 (U : Nat) (hU : U < 4294967296) (w : World) (hT : Tab4 w) :
    Calls Tryd.prog 58 #[.int .u64 (U : Int), .int .i64 16] w fun e w' => e = .returned (.string ⟨(Ev.tx0 16 U).toArray⟩) ∧ Below w.heap.size w w' := by
  have HC := Lib.hid (fbits16 U hU w hT)
  clear hT
  go_enter Tryd.func58, Tryd.ntmps58
  go_wp2_with fail
  refine HC.out.mono ?_
  rintro e w' ⟨rfl, hb⟩
  have HB := Lib.hid hb
  clear hb
  go_wp2
  go_ret
  exact ⟨rfl, HB.out⟩
set_option maxHeartbeats 1000000 in
theorem fu16_any (U : Nat) (hU : U < 4294967296) (w : World) (hT : Tab4 w) :
    Calls Tryd.prog 37 #[.int .u64 (U : Int), .int .i64 16] w fun e w' => e = .returned (.string ⟨(Ev.tx0 16 U).toArray⟩) ∧ Below w.heap.size w w' := by
  have HC := Lib.hid (ifu16 U hU w hT)
  clear hT
  go_enter Tryd.func37, Tryd.ntmps37
  go_wp2_with fail
  refine HC.out.mono ?_
  rintro e w' ⟨rfl, hb⟩
  have HB := Lib.hid hb
  clear hb
  go_wp2
  go_ret
  exact ⟨rfl, HB.out⟩
/-- Lib's decimal digits are ours. -/
theorem dec_tx0 (U : Nat) : Lib.decDigits U = Ev.tx0 10 U := by
  induction U using Nat.strongRecOn with
  | _ U ih =>
    by_cases h : U < 10
    · rw [Lib.decDigits_one h]
      unfold Ev.tx0
      by_cases h0 : U = 0
      · subst h0; rfl
      · have h1 := (Ev.nd_le (b := 10) (by omega) (k := 1) (N := U)).2 (by omega)
        have h2 := (Ev.nd_lt (b := 10) (by omega) (k := 0) (N := U)).2 (by rw [Nat.pow_zero]; omega)
        rw [if_neg h0]
        unfold Ev.txt
        rw [show Ev.nd 10 U = 1 from by omega, Ev.low, Ev.low, Nat.pow_zero, Nat.div_one, Nat.mod_eq_of_lt h]
        unfold Ev.dch; rw [if_pos h]
    · rw [Lib.decDigits, dif_neg h, ih (U / 10) (by omega)]
      unfold Ev.tx0
      rw [if_neg (by omega), if_neg (by omega), Ev.txt_split (b := 10) (by omega) (k := 1) (N := U) (by omega), Nat.pow_one, Ev.low, Ev.low, Nat.pow_zero, Nat.div_one]
      unfold Ev.dch; rw [if_pos (Nat.mod_lt _ (by omega))]
end Go.Proofs.YtgmencbhkkcpiaaDoor
