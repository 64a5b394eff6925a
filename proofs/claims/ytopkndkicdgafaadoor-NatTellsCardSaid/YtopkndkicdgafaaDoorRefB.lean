/- Contracts of the document's own numbers: Add, Sub, Shl. -/
import Derived.Test.YtopkndkicdgafaaDoorRefA
import Derived.Test.YtopkndkicdgafaaDoorShl
namespace Go.Proofs.YtopkndkicdgafaaDoor
open Go.RowKit

def SumR (xs ys : List Nat) (k c : Nat) (L : List Nat) : Prop := Ok L ∧ c ≤ 1 ∧ vt (dig L) k + Bs ^ k * c = vt (dig xs) k + vt (dig ys) k
theorem SumR.step {xs ys L : List Nat} {k c : Nat} (hx : Ok xs) (hy : Ok ys) (h : SumR xs ys k c L) (hk : k < L.length) :
    SumR xs ys (k + 1) ((c + dig xs k + dig ys k) / Bs) (L.set k ((c + dig xs k + dig ys k) % Bs)) := by
  obtain ⟨hO, hc, he⟩ := h
  have h1 := hx k
  have h2 := hy k
  refine ⟨hO.set hk (Nat.mod_lt _ Bs_pos), ?_, ?_⟩
  · rw [Bs_eq] at *; omega
  · show vt (dig (L.set k _)) k + Bs ^ k * dig (L.set k _) k + _ = _
    rw [vt_congr (e := dig L) k (fun i hi => by rw [dig_set hk, if_neg (by omega)]), dig_set hk, if_pos rfl, Nat.pow_succ]
    exact sum_step he (by rw [Nat.mod_add_div]; omega)
theorem SumR.fin {xs ys L : List Nat} {k d : Nat} (h : SumR xs ys (k + 1) d L) (hx : Ok xs) (hy : Ok ys) (h1 : xs.length ≤ k) (h2 : ys.length ≤ k) (hL : L.length = k + 1) : val L = val xs + val ys := by
  obtain ⟨hO, hc, he⟩ := h
  have e1 : vt (dig L) (k + 1) = val L := val_eq_vt (by omega)
  have e2 : vt (dig xs) (k + 1) = val xs := val_eq_vt (by omega)
  have e3 : vt (dig ys) (k + 1) = val ys := val_eq_vt (by omega)
  rw [e1, e2, e3] at he
  have b1 : val xs < Bs ^ k := Nat.lt_of_lt_of_le (val_lt hx) (Nat.pow_le_pow_right Bs_pos h1)
  have b2 : val ys < Bs ^ k := Nat.lt_of_lt_of_le (val_lt hy) (Nat.pow_le_pow_right Bs_pos h2)
  have hd : d = 0 := by
    rcases Nat.eq_zero_or_pos d with h0 | h0
    · exact h0
    · obtain rfl : d = 1 := by omega
      rw [Nat.pow_succ, Nat.mul_one] at he
      have : Bs ^ k * 2 ≤ Bs ^ k * Bs := Nat.mul_le_mul (Nat.le_refl _) (by rw [Bs_eq]; omega)
      omega
  subst hd
  rw [Nat.mul_zero] at he; exact he

set_option maxHeartbeats 1000000 in
theorem radd_any (w : World) (A : Option Addr) (n c : Nat) (xs : List Nat) (A' : Option Addr) (n' c' : Nat) (ys : List Nat) (h : Lm w A n c xs) (h' : Lm w A' n' c' ys) (hn : n ≤ 10000000000) (hn' : n' ≤ 10000000000) :
    Calls Tryd.prog 30 #[.slice A n c, .slice A' n' c'] w (Tells w (val xs + val ys) (max n n' + 1)) := by
  obtain ⟨N, hN1, hN2, hN3, hN4⟩ : ∃ N : Nat, max (n : Int) (n' : Int) = (N : Int) ∧ n ≤ N ∧ n' ≤ N ∧ N ≤ max n n' := ⟨max n n', by omega, by omega, by omega, by omega⟩
  have HL := Lib.hid (And.intro h.len h'.len)
  go_enter Tryd.func30, Tryd.ntmps30
  go_wp2_with
    (at_make
     refine wpList_make_u32 _ rfl _ _ rfl .i64 .i64 _ _ (N + 1) rfl rfl ?_ ?_ ?_ ?_
     · omega
     · omega
     · omega
     intro w1 hown hb1 hs1)
  clear hN1
  go_loopw [7, 8] (fun cr ix wr => ∃ (k d : Nat) (L : List Nat), k ≤ N + 1 ∧ ix = .int .i64 k ∧ cr = .int .u64 d ∧ L.length = N + 1 ∧ Own wr w.heap.size L ∧ SumR xs ys k d L ∧ Below w.heap.size w wr) (fun _ ix _ => N + 1 - (intOf ix).toNat)
  case atStart => exact ⟨0, 0, _, Nat.zero_le _, rfl, rfl, by simp, hown, ⟨Ok.zeros _, by omega, rfl⟩, hb1⟩
  case round =>
    obtain ⟨k, d, L, hk, rfl, rfl, hL0, hO, hS, hB⟩ := hrel
    have hL := Lib.hid hL0
    clear hL0 hown hb1 hs1
    have hlm := h.bel hB
    have hlm' := h'.bel hB
    by_cases hlt : k < N + 1
    · have hc := hO.cell (i := k) (by rw [hL.out]; omega)
      have hf := hO.free k
      have hd := hS.2.1
      have hx : dig xs k < 4294967296 := h.ok k
      have hy : dig ys k < 4294967296 := h'.ok k
      have hst := Lib.hid (hS.step h.ok h'.ok (by rw [hL.out]; omega))
      obtain ⟨lo, hlo, e1⟩ : ∃ lo, (d + dig xs k + dig ys k) % Bs = lo ∧ ((d : Int) + (dig xs k : Int) + (dig ys k : Int)) % 4294967296 = (lo : Int) := ⟨_, rfl, by rw [Bs_eq]; omega⟩
      obtain ⟨hi', hhi, e2⟩ : ∃ hi', (d + dig xs k + dig ys k) / Bs = hi' ∧ ((d : Int) + (dig xs k : Int) + (dig ys k : Int)) / 4294967296 = (hi' : Int) := ⟨_, rfl, by rw [Bs_eq]; omega⟩
      rw [hlo, hhi] at hst
      clear hlo hhi hS
      go_wp2_with fail
      refine (rat_any _ A n c xs k hlm (by omega)).mono ?_
      rintro e w' ⟨rfl, rfl⟩
      go_wp2_with fail
      refine (rat_any _ A' n' c' ys k hlm' (by omega)).mono ?_
      rintro e w' ⟨rfl, rfl⟩
      go_wp2
      go_roundw
      case rel => exact ⟨k + 1, hi', _, by omega, by go_num, rfl, by simpa using hL.out, hO.set_ k _, hst.out, hB.setCell (Nat.le_refl _) _⟩
      case measure => simp [intOf]; omega
    · obtain rfl : k = N + 1 := by omega
      have hv := Lib.hid (hS.fin h.ok h'.ok (by rw [HL.out.1]; exact hN2) (by rw [HL.out.2]; exact hN3) hL.out)
      have hl := hO.lm hS.1 (by rw [hL.out]; omega)
      rw [hL.out] at hl
      go_wp2_with fail
      refine (rtrim_lm _ _ _ _ _ hl).mono ?_
      rintro e w' ⟨q, rfl, hq, hqn, rfl⟩
      go_wp2
      go_ret
      exact ⟨_, q, _, rfl, by rw [hv.out] at hq; exact hq, by omega, hB⟩

def DifR (xs ys : List Nat) (k c : Nat) (L : List Nat) : Prop := Ok L ∧ c ≤ 1 ∧ vt (dig L) k + vt (dig ys) k = vt (dig xs) k + Bs ^ k * c
theorem DifR.step {xs ys L : List Nat} {k c : Nat} (hx : Ok xs) (hy : Ok ys) (h : DifR xs ys k c L) (hk : k < L.length) :
    DifR xs ys (k + 1) (brw (dig xs k) (dig ys k) c) (L.set k ((dig xs k + Bs - dig ys k - c) % Bs)) := by
  obtain ⟨hO, hc, he⟩ := h
  have h1 := hx k
  have h2 := hy k
  refine ⟨hO.set hk (Nat.mod_lt _ Bs_pos), brw_le _ _ _, ?_⟩
  show vt (dig (L.set k _)) k + Bs ^ k * dig (L.set k _) k + (vt (dig ys) k + Bs ^ k * dig ys k) = _
  rw [vt_congr (e := dig L) k (fun i hi => by rw [dig_set hk, if_neg (by omega)]), dig_set hk, if_pos rfl, Nat.pow_succ]
  refine dif_step he ?_
  unfold brw
  rw [Bs_eq] at *
  split <;> omega
theorem DifR.fin {xs ys L : List Nat} {k d : Nat} (h : DifR xs ys k d L) (h1 : xs.length = k) (hYX : val ys ≤ val xs) (hy : Ok ys) (hL : L.length = k) (hx : Ok xs) : val L = val xs - val ys := by
  obtain ⟨hO, hc, he⟩ := h
  have e1 : vt (dig xs) k = val xs := val_eq_vt (Nat.le_of_eq h1)
  have e2 : vt (dig ys) k = val ys := by
    rw [vt_mod hy, Nat.mod_eq_of_lt]
    exact Nat.lt_of_le_of_lt hYX (by rw [← h1]; exact val_lt hx)
  have hv : vt (dig L) k = val L := val_eq_vt (Nat.le_of_eq hL)
  have hlt : val L < Bs ^ k := by rw [← hL]; exact val_lt hO
  rw [e1, e2, hv] at he
  have hd : d = 0 := by
    rcases Nat.lt_or_ge d 1 with h0 | h0
    · omega
    · obtain rfl : d = 1 := by omega
      rw [Nat.mul_one] at he; omega
  subst hd
  rw [Nat.mul_zero] at he; omega

/-- what Sub tells, in a block that is new. -/
def TellsSubNew (w : World) (M N len : Nat) (e : Ending) (w' : World) : Prop :=
  (M < N ∧ e = .returned (.tuple #[.slice none 0 0, .bool false]) ∧ Below w.heap.size w w') ∨
  (N ≤ M ∧ ∃ b m c, e = .returned (.tuple #[.slice (some ⟨b, 0, none⟩) m c, .bool true]) ∧ w.heap.size ≤ b ∧ Lm w' (some ⟨b, 0, none⟩) m c (lim (M - N)) ∧ m ≤ len ∧ Below w.heap.size w w')
set_option maxHeartbeats 1000000 in
theorem rsub_new (w : World) (A : Option Addr) (n c : Nat) (xs : List Nat) (A' : Option Addr) (n' c' : Nat) (ys : List Nat) (h : Lm w A n c xs) (h' : Lm w A' n' c' ys) :
    Calls Tryd.prog 20 #[.slice A n c, .slice A' n' c'] w (TellsSubNew w (val xs) (val ys) n) := by
  have hbig := h.big
  have HL := Lib.hid h.len
  have hcmp := Lib.hid (rcmp_any w A n c xs A' n' c' ys h h')
  go_enter Tryd.func20, Tryd.ntmps20
  go_wp2_with fail
  refine hcmp.out.mono ?_
  clear hcmp
  rintro e w0 ⟨rfl, nq, hw0⟩
  have hb0 : Below w.heap.size w w0 := by rw [hw0]; exact below_drewN (Below.refl _ _) nq
  have hm0 : Lm w0 A n c xs := by rw [hw0]; exact h.drewN nq
  have hm0' : Lm w0 A' n' c' ys := by rw [hw0]; exact h'.drewN nq
  have hsz : w0.heap.size = w.heap.size := by rw [hw0]; rfl
  have HSZ := Lib.hid hsz
  clear hw0 hsz h h'
  by_cases hlt : val xs < val ys
  · rw [cmpN_lt hlt]
    have HLT := Lib.hid hlt
    clear hlt
    go_wp2
    go_ret2
    exact .inl ⟨HLT.out, rfl, hb0⟩
  · have hge : 0 ≤ cmpN (val xs) (val ys) := by have := cmpN_neg_iff (val xs) (val ys); omega
    generalize cmpN (val xs) (val ys) = q at *
    have HLT := Lib.hid hlt
    clear hlt
    go_wp2_with
      (at_make
       refine wpList_make_u32 _ rfl _ _ rfl .i64 .i64 _ _ n rfl rfl ?_ ?_ ?_ ?_
       · rfl
       · rfl
       · omega
       intro w1 hown hb1 hs1)
    go_loopw [7, 8] (fun cr ix wr => ∃ (k d : Nat) (L : List Nat), k ≤ n ∧ ix = .int .i64 k ∧ cr = .int .u64 d ∧ L.length = n ∧ Own wr w0.heap.size L ∧ DifR xs ys k d L ∧ Below w0.heap.size w0 wr) (fun _ ix _ => n - (intOf ix).toNat)
    case atStart => exact ⟨0, 0, _, Nat.zero_le _, rfl, rfl, by simp, hown, ⟨Ok.zeros _, by omega, rfl⟩, hb1⟩
    case round =>
      obtain ⟨k, d, L, hk, rfl, rfl, hL0, hO, hS, hB⟩ := hrel
      have hL := Lib.hid hL0
      clear hL0 hown hb1 hs1
      have hlm := hm0.bel hB
      have hlm' := hm0'.bel hB
      by_cases hlt : k < n
      · have hc := hO.cell (i := k) (by rw [hL.out]; omega)
        have hf := hO.free k
        have hd := hS.2.1
        have hx : dig xs k < 4294967296 := hm0.ok k
        have hy : dig ys k < 4294967296 := hm0'.ok k
        have hst := Lib.hid (hS.step hm0.ok hm0'.ok (by rw [hL.out]; omega))
        obtain ⟨Z, hZ, e0⟩ : ∃ Z : Nat, Z = (dig xs k + 18446744073709551616 - dig ys k - d) % 18446744073709551616 ∧ IntKind.u64.wrap (IntKind.u64.wrap ((dig xs k : Int) - (dig ys k : Int)) - (d : Int)) = (Z : Int) := ⟨_, rfl, by rw [IntKind.wrap_u64, IntKind.wrap_u64]; omega⟩
        obtain ⟨lo, hlo, e1⟩ : ∃ lo, (dig xs k + Bs - dig ys k - d) % Bs = lo ∧ (Z : Int) % 4294967296 = (lo : Int) := ⟨_, rfl, by rw [Bs_eq]; omega⟩
        obtain ⟨hi', hhi, e2⟩ : ∃ hi', brw (dig xs k) (dig ys k) d = hi' ∧ (Z : Int) / 9223372036854775808 = (hi' : Int) := ⟨_, rfl, by unfold brw; split <;> omega⟩
        have HZ := Lib.hid hZ
        rw [hlo, hhi] at hst
        clear hlo hhi hS hZ
        go_wp2_with fail
        refine (rat_any _ A n c xs k hlm (by omega)).mono ?_
        rintro e w' ⟨rfl, rfl⟩
        go_wp2_with fail
        refine (rat_any _ A' n' c' ys k hlm' (by omega)).mono ?_
        rintro e w' ⟨rfl, rfl⟩
        go_wp2
        go_roundw
        case rel => exact ⟨k + 1, hi', _, by omega, by go_num, rfl, by simpa using hL.out, hO.set_ k _, hst.out, hB.setCell (Nat.le_refl _) _⟩
        case measure => simp [intOf]; omega
      · obtain rfl : k = n := by omega
        have hv := Lib.hid (hS.fin HL.out (by have := HLT.out; omega) hm0'.ok hL.out hm0.ok)
        have hl := hO.lm hS.1 (by rw [hL.out]; omega)
        rw [hL.out] at hl
        go_wp2_with fail
        refine (rtrim_lm _ _ _ _ _ hl).mono ?_
        rintro e w' ⟨r, rfl, hr, hrn, rfl⟩
        go_wp2
        go_ret2
        exact .inr ⟨by have := HLT.out; omega, _, r, _, rfl, Nat.le_of_eq HSZ.out.symm, by rw [hv.out] at hr; exact hr, hrn, hb0.trans (hB.mono (by rw [HSZ.out]; exact Nat.le_refl _))⟩

theorem rsub_any (w : World) (A : Option Addr) (n c : Nat) (xs : List Nat) (A' : Option Addr) (n' c' : Nat) (ys : List Nat) (h : Lm w A n c xs) (h' : Lm w A' n' c' ys) :
    Calls Tryd.prog 20 #[.slice A n c, .slice A' n' c'] w (TellsSub w (val xs) (val ys) n) :=
  (rsub_new w A n c xs A' n' c' ys h h').mono fun _ _ ht => ht.elim (fun h => .inl h) fun ⟨h1, _, m, c, h2, _, h4, h5, h6⟩ => .inr ⟨h1, _, m, c, h2, h4, h5, h6⟩

theorem heldN_cast' (n : Int) : max (0 : Int) (min n 100000) = (heldN n : Int) := by unfold heldN; omega

set_option maxHeartbeats 1000000 in
theorem rshl_any (w : World) (A : Option Addr) (m c : Nat) (xs : List Nat) (by_ : Int) (h : Lm w A m c xs) (hm : m ≤ 10000000000) :
    Calls Tryd.prog 34 #[.slice A m c, .int .i64 by_] w (Tells w (val xs * 2 ^ heldN by_) (m + heldN by_ / 32 + 1)) := by
  have hh := heldN_le by_
  have hcast := heldN_cast' by_
  obtain ⟨sk, hsk⟩ : ∃ sk, sk = heldN by_ / 32 := ⟨_, rfl⟩
  obtain ⟨sh, hsh⟩ : ∃ sh, sh = heldN by_ % 32 := ⟨_, rfl⟩
  have e1 : (heldN by_ : Int) / 32 = (sk : Int) := by omega
  have e2 : (heldN by_ : Int) % 32 = (sh : Int) := by omega
  have hskb : sk ≤ 100000 := by omega
  have hshb : sh < 32 := by omega
  have HN : Hid (heldN by_ = 32 * sk + sh) := (by omega : heldN by_ = 32 * sk + sh)
  rw [← hsk]
  clear hsk hsh
  generalize heldN by_ = H at *
  go_enter Tryd.func34, Tryd.ntmps34
  go_wp2_with
    (at_make
     refine wpList_make_u32 _ rfl _ _ rfl .i64 .i64 _ _ (m + sk + 1) rfl rfl ?_ ?_ ?_ ?_
     · omega
     · omega
     · omega
     intro w1 hown hb1 hs1)
  clear hcast
  go_loopw [7] (fun ix wr => ∃ (k : Nat) (L : List Nat), k ≤ m ∧ ix = .int .i64 k ∧ L.length = m + sk + 1 ∧ Own wr w.heap.size L ∧ UpAt xs sk sh k L ∧ Below w.heap.size w wr) (fun ix _ => m - (intOf ix).toNat)
  case atStart => exact ⟨0, _, Nat.zero_le _, rfl, by simp, hown, ⟨Ok.zeros _, fun j _ => dig_zeros _ _, by rw [dig_zeros]; exact Nat.two_pow_pos _, by rw [vt_zero _ (fun j _ => dig_zeros _ _)]; simp [vt]⟩, hb1⟩
  case round =>
    obtain ⟨k, L, hk, rfl, hL0, hO, hS, hB⟩ := hrel
    have hL := Lib.hid hL0
    clear hL0 hown hb1 hs1
    have hlm := h.bel hB
    by_cases hlt : k < m
    · obtain ⟨b, o, rfl, hb, hc0⟩ := hlm.at_ hlt
      have hx := hc0 k hlt
      clear hc0
      have hc := hO.cell (i := k + sk) (by rw [hL.out]; omega)
      have hf := hO.free (k + sk)
      have hc2 := hO.cell (i := k + sk + 1) (by rw [hL.out]; omega)
      have hf2 := hO.free (k + sk + 1)
      have hxb : dig xs k < 4294967296 := h.ok k
      have hpp : dig xs k * 2 ^ sh < 18446744073709551616 := by
        have h1 : 2 ^ sh ≤ 4294967296 := Nat.pow_le_pow_right (n := 2) (by omega) (by omega : sh ≤ 32)
        have h2 : dig xs k * 2 ^ sh ≤ 4294967295 * 4294967296 := Nat.mul_le_mul (by omega) h1
        omega
      have hP : (dig xs k : Int) * 2 ^ sh = ((dig xs k * 2 ^ sh : Nat) : Int) := by rw [Int.natCast_mul, Int.natCast_pow]; rfl
      have hsp := shl_parts (dig xs k) (Nat.le_of_lt hshb)
      have hol := or_low (dig L (sk + k)) (dig xs k) (Nat.le_of_lt hshb) hS.2.2.1
      rw [hP] at hol
      have hst := Lib.hid (hS.step hshb h.ok (by rw [hL.out]; omega))
      obtain ⟨P, hPe⟩ : ∃ P, P = dig xs k * 2 ^ sh := ⟨_, rfl⟩
      rw [← hPe] at hP hpp hsp hol hst
      obtain ⟨hi', hhi, e4⟩ : ∃ hi', dig xs k / 2 ^ (32 - sh) = hi' ∧ (P : Int) / 4294967296 = (hi' : Int) := ⟨_, rfl, by
        have h1 := hsp.2
        have h2 : P % Bs < 4294967296 := Nat.mod_lt _ Bs_pos
        rw [Bs_eq] at h1 h2
        generalize dig xs k / 2 ^ (32 - sh) = z at *
        omega⟩
      have hhb : hi' < 4294967296 := by rw [← hhi]; exact Nat.lt_of_le_of_lt (Nat.div_le_self _ _) hxb
      rw [hhi] at hst
      obtain ⟨od, hod, e5⟩ : ∃ od, dig L (sk + k) + P % Bs = od ∧ bits .or .u32 (dig L (sk + k) : Int) ((P : Int) % 4294967296) = (od : Int) := ⟨_, rfl, hol.1⟩
      rw [hod] at hst
      rw [Nat.add_comm sk k] at e5
      have HX := Lib.hid (And.intro hPe (And.intro hsp (And.intro hol (And.intro hhi hod))))
      clear hPe hsp hol hhi hod hS
      go_wp2
      refine ⟨⟨k + 1, _, by omega, by go_num, ?_, ?_, hst.out, (hB.setCell (Nat.le_refl _) _).setCell (Nat.le_refl _) _⟩, by simp [intOf]; omega⟩
      · simpa using hL.out
      · rw [Nat.add_comm sk k]; exact (hO.set_ _ _).set_ _ _
    · obtain rfl : k = m := by omega
      have hl := hO.lm hS.1 (by rw [hL.out]; omega)
      rw [hL.out] at hl
      have hv : Hid (val L = val xs * 2 ^ H) := (by
        have hv : val L = vt (dig L) (sk + k + 1) := (val_eq_vt (by rw [hL.out]; omega)).symm
        rw [hv, hS.2.2.2, val_eq_vt (by rw [h.len]; exact Nat.le_refl _), Bs_pow_eq, ← Nat.pow_add, HN.out] : val L = val xs * 2 ^ H)
      go_wp2_with fail
      refine (rtrim_lm _ _ _ _ _ hl).mono ?_
      rintro e w' ⟨r, rfl, hr, hrn, rfl⟩
      go_wp2
      go_ret
      exact ⟨_, r, _, rfl, by rw [hv.out] at hr; exact hr, hrn, hB⟩
end Go.Proofs.YtopkndkicdgafaaDoor
