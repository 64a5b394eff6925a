/- Contracts: up, down, Shl, Shr, Bits, Low. -/
import Derived.Test.YtopkndkicdgafaaDoorMul
namespace Go.Proofs.YtopkndkicdgafaaDoor
open Go.RowKit

theorem shl_cast (x sh : Nat) : (x : Int) * 2 ^ sh % 4294967296 = ((x * 2 ^ sh % Bs : Nat) : Int) := by
  rw [Int.natCast_emod, Int.natCast_mul, Int.natCast_pow]; rfl
theorem shr_cast (x k : Nat) : (x : Int) / 2 ^ k = ((x / 2 ^ k : Nat) : Int) := by
  rw [Int.natCast_ediv, Int.natCast_pow]; rfl
theorem two_sh {sh : Nat} (h : sh ≤ 32) : 2 ^ sh * 2 ^ (32 - sh) = Bs := by rw [← Nat.pow_add, Bs_pow]; congr 1; omega
/-- what is shifted by sh bits, in two digits. -/
theorem shl_parts (x : Nat) {sh : Nat} (h : sh ≤ 32) : x * 2 ^ sh % Bs = 2 ^ sh * (x % 2 ^ (32 - sh)) ∧ x * 2 ^ sh = x * 2 ^ sh % Bs + Bs * (x / 2 ^ (32 - sh)) := by
  have e := two_sh h
  have h1 : x * 2 ^ sh % Bs = 2 ^ sh * (x % 2 ^ (32 - sh)) := by
    rw [← e, Nat.mul_comm x, Nat.mul_mod_mul_left]
  refine ⟨h1, ?_⟩
  rw [h1, ← e, Nat.mul_assoc, ← Nat.mul_add, Nat.mod_add_div, Nat.mul_comm]
theorem or_low (old x : Nat) {sh : Nat} (h : sh ≤ 32) (ho : old < 2 ^ sh) : bits .or .u32 (old : Int) ((x : Int) * 2 ^ sh % 4294967296) = ((old + x * 2 ^ sh % Bs : Nat) : Int) ∧ old + x * 2 ^ sh % Bs < Bs := by
  have hp : 2 ^ sh ≤ 4294967296 := Nat.pow_le_pow_right (n := 2) (by omega) h
  have h1 := (shl_parts x h).1
  have h2 : x * 2 ^ sh % Bs < 4294967296 := Nat.mod_lt _ Bs_pos
  have h3 : x * 2 ^ sh % Bs % 2 ^ sh = 0 := by rw [h1]; exact Nat.mul_mod_right _ _
  rw [shl_cast, u32_or_nat _ _ (by omega) h2, Nat.or_comm, nat_join sh _ _ h3 ho, Nat.add_comm]
  refine ⟨rfl, ?_⟩
  have h4 := Nat.or_lt_two_pow (n := 32) h2 (by omega : old < 2 ^ 32)
  rw [nat_join sh _ _ h3 ho] at h4
  rw [Nat.add_comm]; exact Nat.lt_of_lt_of_eq h4 Bs_pow.symm
/-- after k digits of a shift upwards. -/
def UpAt (xs : List Nat) (sk sh k : Nat) (L : List Nat) : Prop :=
  Ok L ∧ (∀ j, sk + k + 1 ≤ j → dig L j = 0) ∧ dig L (sk + k) < 2 ^ sh ∧ vt (dig L) (sk + k + 1) = vt (dig xs) k * (Bs ^ sk * 2 ^ sh)
theorem up_step {v P Q S h l x hi B vx : Nat} (h1 : v + P * Q * h = vx * (P * S)) (h2 : x * S = l + B * hi) : v + P * Q * (h + l) + P * Q * B * hi = (vx + Q * x) * (P * S) := by
  have : P * Q * (x * S) = P * Q * (l + B * hi) := by rw [h2]
  grind
theorem UpAt.step {xs L : List Nat} {sk sh k : Nat} (h : UpAt xs sk sh k L) (hsh : sh < 32) (hx : Ok xs) (hk : sk + k + 1 < L.length) :
    UpAt xs sk sh (k + 1) ((L.set (sk + k) (dig L (sk + k) + dig xs k * 2 ^ sh % Bs)).set (sk + k + 1) (dig xs k / 2 ^ (32 - sh))) := by
  obtain ⟨hO, hz, ht, he⟩ := h
  have h1 := (shl_parts (dig xs k) (Nat.le_of_lt hsh)).2
  have h2 := (or_low (dig L (sk + k)) (dig xs k) (Nat.le_of_lt hsh) ht).2
  have h3 : dig xs k / 2 ^ (32 - sh) < 2 ^ sh := by
    rw [Nat.div_lt_iff_lt_mul (Nat.two_pow_pos _), two_sh (Nat.le_of_lt hsh)]; exact hx k
  have hl1 : sk + k < L.length := by omega
  have hl2 : sk + k + 1 < (L.set (sk + k) (dig L (sk + k) + dig xs k * 2 ^ sh % Bs)).length := by rw [List.length_set]; exact hk
  have hd : ∀ j, dig ((L.set (sk + k) (dig L (sk + k) + dig xs k * 2 ^ sh % Bs)).set (sk + k + 1) (dig xs k / 2 ^ (32 - sh))) j =
      if j = sk + k + 1 then dig xs k / 2 ^ (32 - sh) else if j = sk + k then dig L (sk + k) + dig xs k * 2 ^ sh % Bs else dig L j := fun j => by rw [dig_set hl2, dig_set hl1]
  refine ⟨(hO.set hl1 h2).set hl2 (Nat.lt_of_le_of_lt (Nat.div_le_self _ _) (hx k)), fun j hj => ?_, ?_, ?_⟩
  · rw [hd, if_neg (by omega), if_neg (by omega)]; exact hz j (by omega)
  · rw [hd, if_pos (by omega)]; exact h3
  · show vt _ (sk + k + 1) + Bs ^ (sk + k + 1) * dig _ (sk + k + 1) = _
    rw [hd (sk + k + 1), if_pos rfl]
    show vt _ (sk + k) + Bs ^ (sk + k) * dig _ (sk + k) + _ = _
    rw [hd (sk + k), if_neg (by omega), if_pos rfl, vt_congr (e := dig L) (sk + k) (fun j hj => by rw [hd, if_neg (by omega), if_neg (by omega)])]
    have he' : vt (dig L) (sk + k) + Bs ^ (sk + k) * dig L (sk + k) = vt (dig xs) k * (Bs ^ sk * 2 ^ sh) := he
    rw [Nat.pow_succ, Nat.pow_add] at *
    exact up_step he' h1

set_option maxHeartbeats 1000000 in
theorem up_any (w : World) (A : Option Addr) (m c : Nat) (xs : List Nat) (n : Nat) (h : Lm w A m c xs) (hm : m ≤ 100000000000) (hn : n ≤ 100000000000) :
    Calls Tryd.prog 84 #[.slice A m c, .int .i64 n] w fun e w' => ∃ L, e = .returned (.slice (some ⟨w.heap.size, 0, none⟩) (m + n / 32 + 1) (m + n / 32 + 1)) ∧ Own w' w.heap.size L ∧ L.length = m + n / 32 + 1 ∧ Ok L ∧ val L = val xs * 2 ^ n ∧ Below w.heap.size w w' := by
  obtain ⟨sk, hsk⟩ : ∃ sk, sk = n / 32 := ⟨_, rfl⟩
  obtain ⟨sh, hsh⟩ : ∃ sh, sh = n % 32 := ⟨_, rfl⟩
  have hskb : sk ≤ 100000000000 := by omega
  have hshb : sh < 32 := by omega
  rw [← hsk]
  have e1 : (n : Int) / 32 = (sk : Int) := by omega
  have e2 : (n : Int) % 32 = (sh : Int) := by omega
  have HS := Lib.hid hsk
  have HH := Lib.hid hsh
  clear hsk hsh
  go_enter Tryd.func84, Tryd.ntmps84
  go_wp2_with
    (at_make
     refine wpList_make_u32 _ rfl _ _ rfl .i64 .i64 _ _ (m + sk + 1) rfl rfl ?_ ?_ ?_ ?_
     · omega
     · omega
     · omega
     intro w1 hown hb1 hs1)
  clear e1 e2
  go_loopw [22] (fun ix wr => ∃ (k : Nat) (L : List Nat), k ≤ m ∧ ix = .int .i64 k ∧ L.length = m + sk + 1 ∧ Own wr w.heap.size L ∧ UpAt xs sk sh k L ∧ Below w.heap.size w wr) (fun ix _ => m - (intOf ix).toNat)
  case atStart => exact ⟨0, _, Nat.zero_le _, rfl, by simp, hown, ⟨Ok.zeros _, fun j _ => dig_zeros _ _, by rw [dig_zeros]; exact Nat.two_pow_pos _, by rw [vt_zero _ (fun j _ => dig_zeros _ _)]; simp [vt]⟩, hb1⟩
  case round =>
    obtain ⟨k, L, hk, rfl, hL0, hO, hS, hB⟩ := hrel
    have hL := Lib.hid hL0
    clear hL0 hown hb1 hs1
    have hlm := h.bel hB
    by_cases hlt : k < m
    · obtain ⟨b, o, rfl, hb, hc0⟩ := hlm.at_ hlt
      have hx := hc0 k hlt
      clear hc0
      have hc := hO.cell (i := sk + k) (by rw [hL.out]; omega)
      have hf := hO.free (sk + k)
      go_wp2_with fail
      have hc2 := hO.cell (i := sk + k + 1) (by rw [hL.out]; omega)
      have hf2 := hO.free (sk + k + 1)
      go_region
      go_wp2
      have e1 := (or_low (dig L (sk + k)) (dig xs k) (Nat.le_of_lt hshb) hS.2.2.1).1
      refine ⟨⟨k + 1, _, by omega, by go_num, ?_, by rw [e1, shr_cast]; exact (((hO.set_ _ _).set_ _ _).drew), hS.step hshb h.ok (by rw [hL.out]; omega), ((hB.setCell (Nat.le_refl _) _).setCell (Nat.le_refl _) _).drew⟩, by simp [intOf]; omega⟩
      simpa using hL.out
    · obtain rfl : k = m := by omega
      go_wp2
      go_ret
      refine ⟨L, rfl, hO, hL.out, hS.1, ?_, hB⟩
      have hv : val L = vt (dig L) (sk + k + 1) := (val_eq_vt (by rw [hL.out]; omega)).symm
      rw [hv, hS.2.2.2, val_eq_vt (by rw [h.len]; exact Nat.le_refl _), Bs_pow_eq, ← Nat.pow_add]
      congr 2
      have := HS.out; have := HH.out; omega

/-- a list of the digits of N. -/
theorem vt_digits (N : Nat) : ∀ k, vt (fun i => N / Bs ^ i % Bs) k = N % Bs ^ k
  | 0 => by rw [Nat.pow_zero, Nat.mod_one]; rfl
  | k + 1 => by
    show vt _ k + Bs ^ k * (N / Bs ^ k % Bs) = _
    rw [vt_digits N k, Nat.pow_succ, Nat.mod_mul]
theorem val_digits {L : List Nat} {N : Nat} (h : ∀ i, i < L.length → dig L i = N / Bs ^ i % Bs) (hN : N < Bs ^ L.length) : val L = N := by
  unfold val
  rw [vt_congr (e := fun i => N / Bs ^ i % Bs) _ h, vt_digits, Nat.mod_eq_of_lt hN]
theorem or_high (x y : Nat) {sh : Nat} (h : sh ≤ 32) (hx : x < Bs) :
    bits .or .u32 ((x : Int) / 2 ^ sh) ((y : Int) * 2 ^ (32 - sh) % 4294967296) = (((x + Bs * y) / 2 ^ sh % Bs : Nat) : Int) := by
  have e := two_sh h
  have h1 := (shl_parts y (sh := 32 - sh) (by omega)).1
  rw [show 32 - (32 - sh) = sh from by omega] at h1
  have h2 : x / 2 ^ sh < 2 ^ (32 - sh) := by rw [Nat.div_lt_iff_lt_mul (Nat.two_pow_pos _), Nat.mul_comm, e]; exact hx
  have h3 : y * 2 ^ (32 - sh) % Bs < 4294967296 := Nat.mod_lt _ Bs_pos
  have h4 : y * 2 ^ (32 - sh) % Bs % 2 ^ (32 - sh) = 0 := by rw [h1]; exact Nat.mul_mod_right _ _
  have h5 : x / 2 ^ sh < 4294967296 := Nat.lt_of_le_of_lt (Nat.div_le_self _ _) hx
  rw [shr_cast, shl_cast, u32_or_nat _ _ h5 h3, Nat.or_comm, nat_join (32 - sh) _ _ h4 h2]
  have h6 : (x + Bs * y) / 2 ^ sh = x / 2 ^ sh + 2 ^ (32 - sh) * y := by
    rw [← e, Nat.mul_assoc, Nat.add_mul_div_left _ _ (Nat.two_pow_pos _)]
  have h7 : y * 2 ^ (32 - sh) % Bs + x / 2 ^ sh < Bs := by
    have := Nat.or_lt_two_pow (n := 32) h3 (by exact h5)
    rw [nat_join (32 - sh) _ _ h4 h2] at this
    exact Nat.lt_of_lt_of_eq this Bs_pow.symm
  rw [h6, Nat.mul_comm (2 ^ (32 - sh)) y, Nat.add_mod, Nat.mod_eq_of_lt (show x / 2 ^ sh < Bs from h5), Nat.add_comm (x / 2 ^ sh), Nat.mod_eq_of_lt h7]
/-- the digit i of what is shifted downwards. -/
theorem shr_digit {xs : List Nat} (hx : Ok xs) (sk sh i : Nat) (h : sh ≤ 32) :
    (dig xs (sk + i) + Bs * dig xs (sk + i + 1)) / 2 ^ sh % Bs = val xs / 2 ^ (32 * sk + sh) / Bs ^ i % Bs := by
  have e := two_sh h
  have h1 : val xs / 2 ^ (32 * sk + sh) / Bs ^ i = val (xs.drop (sk + i)) / 2 ^ sh := by
    rw [val_drop hx, Nat.div_div_eq_div_mul, Nat.div_div_eq_div_mul, Nat.pow_add, ← Bs_pow_eq, Nat.pow_add]
    congr 1
    rw [Nat.mul_assoc, Nat.mul_assoc, Nat.mul_comm (2 ^ sh)]
  have h2 : val (xs.drop (sk + i)) = dig xs (sk + i) + Bs * dig xs (sk + i + 1) + 2 ^ sh * (Bs * (2 ^ (32 - sh) * val (xs.drop (sk + i + 2)))) := by
    rw [val_drop_succ, val_drop_succ xs (sk + i + 1)]
    conv => rhs; rw [Nat.mul_left_comm Bs, ← Nat.mul_assoc (2 ^ sh), e]
    rw [Nat.mul_add, ← Nat.add_assoc]
  rw [h1, h2, Nat.add_mul_div_left _ _ (Nat.two_pow_pos _), Nat.add_mul_mod_self_left]

/-- what down tells: limbs, noughts on top perhaps. -/
def TellsV (w : World) (N len : Nat) (e : Ending) (w' : World) : Prop := ∃ B q d L, e = .returned (.slice B q d) ∧ Lm w' B q d L ∧ val L = N ∧ q ≤ len ∧ Below w.heap.size w w'
/-- after k digits of a shift downwards. -/
def DownAt (N k : Nat) (L : List Nat) : Prop := Ok L ∧ ∀ i, i < k → dig L i = N / Bs ^ i % Bs
theorem DownAt.step {N k v : Nat} {L : List Nat} (h : DownAt N k L) (hk : k < L.length) (hv : v = N / Bs ^ k % Bs) : DownAt N (k + 1) (L.set k v) := by
  refine ⟨h.1.set hk (by rw [hv]; exact Nat.mod_lt _ Bs_pos), fun i hi => ?_⟩
  rw [dig_set hk]
  split
  · subst_vars; rfl
  · exact h.2 i (by omega)

set_option maxHeartbeats 2000000 in
theorem down_any (w : World) (A : Option Addr) (m c : Nat) (xs : List Nat) (n : Nat) (h : Lm w A m c xs) (hm : m ≤ 100000000000) (hn : n ≤ 100000000000) :
    Calls Tryd.prog 86 #[.slice A m c, .int .i64 n] w (TellsV w (val xs / 2 ^ n) m) := by
  obtain ⟨sk, hsk⟩ : ∃ sk, sk = n / 32 := ⟨_, rfl⟩
  obtain ⟨sh, hsh⟩ : ∃ sh, sh = n % 32 := ⟨_, rfl⟩
  have hskb : sk ≤ 100000000000 := by omega
  have hshb : sh < 32 := by omega
  have e1 : (n : Int) / 32 = (sk : Int) := by omega
  have e2 : (n : Int) % 32 = (sh : Int) := by omega
  have HN : Hid (n = 32 * sk + sh) := (by omega : n = 32 * sk + sh)
  clear hsk hsh
  by_cases hge : m ≤ sk
  · have hz : val xs / 2 ^ n = 0 := by
      rw [HN.out]
      apply Nat.div_eq_of_lt
      refine Nat.lt_of_lt_of_le (val_lt h.ok) ?_
      rw [h.len, Bs_pow_eq]
      exact Nat.pow_le_pow_right (by omega) (by omega)
    rw [hz]
    clear hz
    go_enter Tryd.func86, Tryd.ntmps86
    go_wp2
    go_ret
    exact ⟨none, 0, 0, [], rfl, Lm.nil _, val_nil, Nat.zero_le _, Below.refl _ _⟩
  obtain ⟨q, hq⟩ : ∃ q, q + sk = m := ⟨m - sk, by omega⟩
  have hq1 : q ≤ 100000000000 := by omega
  have eq1 : (m : Int) - (sk : Int) = (q : Int) := by omega
  have HQ := Lib.hid hq
  have hqm : q ≤ m := by omega
  have hqs : sk < m := by omega
  clear hq hge
  generalize hV : val xs / 2 ^ n = V
  have HV := Lib.hid hV
  clear hV
  go_enter Tryd.func86, Tryd.ntmps86
  go_wp2_with
    (at_make
     refine wpList_make_u32 _ rfl _ _ rfl .i64 .i64 _ _ q rfl rfl ?_ ?_ ?_ ?_
     · rfl
     · rfl
     · omega
     intro w1 hown hb1 hs1)
  clear e1 e2 eq1
  go_loopw [24] (fun ix wr => ∃ (k : Nat) (L : List Nat), k ≤ q ∧ ix = .int .i64 k ∧ L.length = q ∧ Own wr w.heap.size L ∧ DownAt V k L ∧ Below w.heap.size w wr) (fun ix _ => q - (intOf ix).toNat)
  case atStart => exact ⟨0, _, Nat.zero_le _, rfl, by simp, hown, ⟨Ok.zeros _, fun i hi => by omega⟩, hb1⟩
  case round =>
    obtain ⟨k, L, hk, rfl, hL0, hO, hS, hB⟩ := hrel
    have hL := Lib.hid hL0
    clear hL0 hown hb1 hs1
    have hlm := h.bel hB
    by_cases hlt : k < q
    · have hsum : sk + k < m := by have := HQ.out; omega
      obtain ⟨b, o, rfl, hb, hc0⟩ := hlm.at_ hsum
      have hx := hc0 (sk + k) hsum
      clear hc0
      have hc := hO.cell (i := k) (by rw [hL.out]; omega)
      have hf := hO.free k
      have hi1 : (sk : Int) + k < m := by omega
      have hi2 : (0 : Int) ≤ (sk : Int) + k := by omega
      have hat := Lib.hid (fun W (hW : Lm W (some ⟨b, o, none⟩) m c xs) => at_any W _ m c xs (sk + k + 1) hW (by omega))
      have et : ((sk : Int) + k).toNat = sk + k := by omega
      have ew : IntKind.i64.wrap ((sk : Int) + k) = (sk : Int) + k := IntWalk.i64_in _ (by omega)
      have ew2 : IntKind.i64.wrap ((sk : Int) + k + 1) = (sk : Int) + k + 1 := IntWalk.i64_in _ (by omega)
      obtain ⟨t, ht⟩ : ∃ t, t + sh = 32 := ⟨32 - sh, by omega⟩
      have ht2 : t ≤ 32 := by omega
      have HT := Lib.hid ht
      have ew3 : IntKind.i64.wrap (32 - (sh : Int)) = (t : Int) := by rw [IntWalk.i64_in _ (by omega)]; omega
      clear ht
      go_wp2_with fail
      go_region_with (go_at_call 75; refine (hat.out _ hlm.drew).mono ?_; rintro e w' ⟨rfl, rfl⟩)
      all_goals clear et ew ew2 ew3
      all_goals go_wp2
      all_goals
        refine ⟨⟨k + 1, L.set k ((dig xs (sk + k) + Bs * dig xs (sk + k + 1)) / 2 ^ sh % Bs), by omega, by go_num, by simpa using hL.out, ?_, ?_, ?_⟩, by simp [intOf]; omega⟩
        · have et : t = 32 - sh := by have := HT.out; omega
          rw [et, or_high _ _ (Nat.le_of_lt hshb) (h.ok _)]; exact hO.drew.set_ _ _
        · exact hS.step (by rw [hL.out]; omega) (by rw [shr_digit h.ok sk sh k (Nat.le_of_lt hshb), ← HV.out, HN.out])
        · exact hB.drew.setCell (Nat.le_refl _) _
    · obtain rfl : k = q := by omega
      have hl := hO.lm hS.1 (by rw [hL.out]; omega)
      rw [hL.out] at hl
      go_wp2
      go_ret
      refine ⟨_, k, k, L, rfl, hl, ?_, hqm, hB⟩
      refine val_digits (fun i hi => hS.2 i (by rw [hL.out] at hi; exact hi)) ?_
      rw [hL.out, ← HV.out, HN.out, Nat.div_lt_iff_lt_mul (Nat.two_pow_pos _), Bs_pow_eq, ← Nat.pow_add]
      refine Nat.lt_of_lt_of_le (val_lt h.ok) ?_
      rw [h.len, Bs_pow_eq]
      exact Nat.pow_le_pow_right (by omega) (by have := HQ.out; omega)
end Go.Proofs.YtopkndkicdgafaaDoor
