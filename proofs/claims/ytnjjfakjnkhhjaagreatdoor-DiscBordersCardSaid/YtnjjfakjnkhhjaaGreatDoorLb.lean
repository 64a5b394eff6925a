import Derived.Test.YtnjjfakjnkhhjaaGreatDoorLa
import Derived.OpenShut
set_option maxHeartbeats 4000000
set_option linter.all false
namespace Go.Proofs.YtnjjfakjnkhhjaaGreatDoor
open Go.RowKit
theorem shl_cast (x sh : Nat) : (x : Int) * 2 ^ sh % 4294967296 = ((x * 2 ^ sh % Bs : Nat) : Int) := by
 rw [Int.natCast_emod, Int.natCast_mul, Int.natCast_pow]; rfl
theorem shr_cast (x k : Nat) : (x : Int) / 2 ^ k = ((x / 2 ^ k : Nat) : Int) := by
 rw [Int.natCast_ediv, Int.natCast_pow]; rfl
theorem two_sh {sh : Nat} (h : sh ≤ 32) : 2 ^ sh * 2 ^ (32 - sh) = Bs := by rw [← Nat.pow_add, Bs_pow]; congr 1; omega
theorem shl_parts (x : Nat) {sh : Nat} (h : sh ≤ 32) : x * 2 ^ sh % Bs = 2 ^ sh * (x % 2 ^ (32 - sh)) ∧ x * 2 ^ sh = x * 2 ^ sh % Bs + Bs * (x / 2 ^ (32 - sh)) := by
 have e := two_sh h
 have h1 : x * 2 ^ sh % Bs = 2 ^ sh * (x % 2 ^ (32 - sh)) := by
  rw [← e, Nat.mul_comm x, Nat.mul_mod_mul_left]
 refine ⟨h1, ?_⟩
 rw [h1, ← e, Nat.mul_assoc, ← Nat.mul_add, Nat.mod_add_div, Nat.mul_comm]
theorem or_low (old x : Nat) {sh : Nat} (h : sh ≤ 32) (ho : old < 2 ^ sh) : bits .or .u32 (old : Int) ((x : Int) * 2 ^ sh % 4294967296) = ((old + x * 2 ^ sh % Bs : Nat) : Int) ∧ old + x * 2 ^ sh % Bs < Bs := by
 have hp : 2 ^ sh ≤ 4294967296 := Nat.pow_le_pow_right (n := 2) (by omega) h
 have h1 := (shl_parts x h).1
 have h2 : x * 2 ^ sh % Bs < 4294967296 := Nat.mod_lt _ Bs_pos
 have h3 : x * 2 ^ sh % Bs % 2 ^ sh = 0 := by rw [h1]; exact Nat.mul_mod_right _ _
 rw [shl_cast, u32_or_nat _ _ (by omega) h2, Nat.or_comm, nat_join sh _ _ h3 ho, Nat.add_comm]
 refine ⟨rfl, ?_⟩
 have h4 := Nat.or_lt_two_pow (n := 32) h2 (by omega : old < 2 ^ 32)
 rw [nat_join sh _ _ h3 ho] at h4
 rw [Nat.add_comm]; exact Nat.lt_of_lt_of_eq h4 Bs_pow.symm
def UpAt (xs : List Nat) (sk sh k : Nat) (L : List Nat) : Prop :=
 Ok L ∧ (∀ j, sk + k + 1 ≤ j → dig L j = 0) ∧ dig L (sk + k) < 2 ^ sh ∧ vt (dig L) (sk + k + 1) = vt (dig xs) k * (Bs ^ sk * 2 ^ sh)
theorem up_step {v P Q S h l x hi B vx : Nat} (h1 : v + P * Q * h = vx * (P * S)) (h2 : x * S = l + B * hi) : v + P * Q * (h + l) + P * Q * B * hi = (vx + Q * x) * (P * S) := by
 have : P * Q * (x * S) = P * Q * (l + B * hi) := by rw [h2]
 grind
theorem UpAt.step {xs L : List Nat} {sk sh k : Nat} (h : UpAt xs sk sh k L) (hsh : sh < 32) (hx : Ok xs) (hk : sk + k + 1 < L.length) :
  UpAt xs sk sh (k + 1) ((L.set (sk + k) (dig L (sk + k) + dig xs k * 2 ^ sh % Bs)).set (sk + k + 1) (dig xs k / 2 ^ (32 - sh))) := by
 obtain ⟨hO, hz, ht, he⟩ := h
 have h1 := (shl_parts (dig xs k) (Nat.le_of_lt hsh)).2
 have h2 := (or_low (dig L (sk + k)) (dig xs k) (Nat.le_of_lt hsh) ht).2
 have h3 : dig xs k / 2 ^ (32 - sh) < 2 ^ sh := by
  rw [Nat.div_lt_iff_lt_mul (Nat.two_pow_pos _), two_sh (Nat.le_of_lt hsh)]; exact hx k
 have hl1 : sk + k < L.length := by omega
 have hl2 : sk + k + 1 < (L.set (sk + k) (dig L (sk + k) + dig xs k * 2 ^ sh % Bs)).length := by rw [List.length_set]; exact hk
 have hd : ∀ j, dig ((L.set (sk + k) (dig L (sk + k) + dig xs k * 2 ^ sh % Bs)).set (sk + k + 1) (dig xs k / 2 ^ (32 - sh))) j =
   if j = sk + k + 1 then dig xs k / 2 ^ (32 - sh) else if j = sk + k then dig L (sk + k) + dig xs k * 2 ^ sh % Bs else dig L j := fun j => by rw [dig_set hl2, dig_set hl1]
 refine ⟨(hO.set hl1 h2).set hl2 (Nat.lt_of_le_of_lt (Nat.div_le_self _ _) (hx k)), fun j hj => ?_, ?_, ?_⟩
 ·rw [hd, if_neg (by omega), if_neg (by omega)]; exact hz j (by omega)
 ·rw [hd, if_pos (by omega)]; exact h3
 ·show vt _ (sk + k + 1) + Bs ^ (sk + k + 1) * dig _ (sk + k + 1) = _
  rw [hd (sk + k + 1), if_pos rfl]
  show vt _ (sk + k) + Bs ^ (sk + k) * dig _ (sk + k) + _ = _
  rw [hd (sk + k), if_neg (by omega), if_pos rfl, vt_congr (e := dig L) (sk + k) (fun j hj => by rw [hd, if_neg (by omega), if_neg (by omega)])]
  have he' : vt (dig L) (sk + k) + Bs ^ (sk + k) * dig L (sk + k) = vt (dig xs) k * (Bs ^ sk * 2 ^ sh) := he
  rw [Nat.pow_succ, Nat.pow_add] at *
  exact up_step he' h1
theorem up_any (w : World) (A : Option Addr) (m c : Nat) (xs : List Nat) (n : Nat) (h : Lm w A m c xs) (hm : m ≤ 100000000000) (hn : n ≤ 100000000000) :
  Calls Tryz.prog 242 #[.slice A m c, .int .i64 n] w fun e w' => ∃ L, e = .returned (.slice (some ⟨w.heap.size, 0, none⟩) (m + n / 32 + 1) (m + n / 32 + 1)) ∧ Own w' w.heap.size L ∧ L.length = m + n / 32 + 1 ∧ Ok L ∧ val L = val xs * 2 ^ n ∧ Below w.heap.size w w' := by
 obtain ⟨sk, hsk⟩ : ∃ sk, sk = n / 32 := ⟨_, rfl⟩
 obtain ⟨sh, hsh⟩ : ∃ sh, sh = n % 32 := ⟨_, rfl⟩
 have hskb : sk ≤ 100000000000 := by omega
 have hshb : sh < 32 := by omega
 rw [← hsk]
 have e1 : (n : Int) / 32 = (sk : Int) := by omega
 have e2 : (n : Int) % 32 = (sh : Int) := by omega
 have HS := Lib.hid hsk
 have HH := Lib.hid hsh
 clear hsk hsh
 go_enter Tryz.func242, Tryz.ntmps242
 go_wp2_with
  (at_make
   refine wpList_make_u32 _ rfl _ _ rfl .i64 .i64 _ _ (m + sk + 1) rfl rfl ?_ ?_ ?_ ?_
   ·omega
   ·omega
   ·omega
   intro w1 hown hb1 hs1)
 clear e1 e2
 go_loopw [22] (fun ix wr => ∃ (k : Nat) (L : List Nat), k ≤ m ∧ ix = .int .i64 k ∧ L.length = m + sk + 1 ∧ Own wr w.heap.size L ∧ UpAt xs sk sh k L ∧ Below w.heap.size w wr) (fun ix _ => m - (intOf ix).toNat)
 case atStart => exact ⟨0, _, Nat.zero_le _, rfl, by simp, hown, ⟨Ok.zeros _, fun j _ => dig_zeros _ _, by rw [dig_zeros]; exact Nat.two_pow_pos _, by rw [vt_zero _ (fun j _ => dig_zeros _ _)]; simp [vt]⟩, hb1⟩
 case round =>
  obtain ⟨k, L, hk, rfl, hL0, hO, hS, hB⟩ := hrel
  have hL := Lib.hid hL0
  clear hL0 hown hb1 hs1
  have hlm := h.bel hB
  by_cases hlt : k < m
  ·obtain ⟨b, o, rfl, hb, hc0⟩ := hlm.at_ hlt
   have hx := hc0 k hlt
   clear hc0
   have hc := hO.cell (i := sk + k) (by rw [hL.out]; omega)
   have hf := hO.free (sk + k)
   go_wp2_with fail
   have hc2 := hO.cell (i := sk + k + 1) (by rw [hL.out]; omega)
   have hf2 := hO.free (sk + k + 1)
   go_region
   go_wp2
   have e1 := (or_low (dig L (sk + k)) (dig xs k) (Nat.le_of_lt hshb) hS.2.2.1).1
   refine ⟨⟨k + 1, _, by omega, by go_num, ?_, by rw [e1, shr_cast]; exact (((hO.set_ _ _).set_ _ _).drew), hS.step hshb h.ok (by rw [hL.out]; omega), ((hB.setCell (Nat.le_refl _) _).setCell (Nat.le_refl _) _).drew⟩, by simp [intOf]; omega⟩
   simpa using hL.out
  ·obtain rfl : k = m := by omega
   go_wp2
   go_ret
   refine ⟨L, rfl, hO, hL.out, hS.1, ?_, hB⟩
   have hv : val L = vt (dig L) (sk + k + 1) := (val_eq_vt (by rw [hL.out]; omega)).symm
   rw [hv, hS.2.2.2, val_eq_vt (by rw [h.len]; exact Nat.le_refl _), Bs_pow_eq, ← Nat.pow_add]
   congr 2
   have := HS.out; have := HH.out; omega
theorem vt_digits (N : Nat) : ∀ k, vt (fun i => N / Bs ^ i % Bs) k = N % Bs ^ k
 | 0 => by rw [Nat.pow_zero, Nat.mod_one]; rfl
 | k + 1 => by
  show vt _ k + Bs ^ k * (N / Bs ^ k % Bs) = _
  rw [vt_digits N k, Nat.pow_succ, Nat.mod_mul]
theorem val_digits {L : List Nat} {N : Nat} (h : ∀ i, i < L.length → dig L i = N / Bs ^ i % Bs) (hN : N < Bs ^ L.length) : val L = N := by
 unfold val
 rw [vt_congr (e := fun i => N / Bs ^ i % Bs) _ h, vt_digits, Nat.mod_eq_of_lt hN]
theorem or_high (x y : Nat) {sh : Nat} (h : sh ≤ 32) (hx : x < Bs) :
  bits .or .u32 ((x : Int) / 2 ^ sh) ((y : Int) * 2 ^ (32 - sh) % 4294967296) = (((x + Bs * y) / 2 ^ sh % Bs : Nat) : Int) := by
 have e := two_sh h
 have h1 := (shl_parts y (sh := 32 - sh) (by omega)).1
 rw [show 32 - (32 - sh) = sh from by omega] at h1
 have h2 : x / 2 ^ sh < 2 ^ (32 - sh) := by rw [Nat.div_lt_iff_lt_mul (Nat.two_pow_pos _), Nat.mul_comm, e]; exact hx
 have h3 : y * 2 ^ (32 - sh) % Bs < 4294967296 := Nat.mod_lt _ Bs_pos
 have h4 : y * 2 ^ (32 - sh) % Bs % 2 ^ (32 - sh) = 0 := by rw [h1]; exact Nat.mul_mod_right _ _
 have h5 : x / 2 ^ sh < 4294967296 := Nat.lt_of_le_of_lt (Nat.div_le_self _ _) hx
 rw [shr_cast, shl_cast, u32_or_nat _ _ h5 h3, Nat.or_comm, nat_join (32 - sh) _ _ h4 h2]
 have h6 : (x + Bs * y) / 2 ^ sh = x / 2 ^ sh + 2 ^ (32 - sh) * y := by
  rw [← e, Nat.mul_assoc, Nat.add_mul_div_left _ _ (Nat.two_pow_pos _)]
 have h7 : y * 2 ^ (32 - sh) % Bs + x / 2 ^ sh < Bs := by
  have := Nat.or_lt_two_pow (n := 32) h3 (by exact h5)
  rw [nat_join (32 - sh) _ _ h4 h2] at this
  exact Nat.lt_of_lt_of_eq this Bs_pow.symm
 rw [h6, Nat.mul_comm (2 ^ (32 - sh)) y, Nat.add_mod, Nat.mod_eq_of_lt (show x / 2 ^ sh < Bs from h5), Nat.add_comm (x / 2 ^ sh), Nat.mod_eq_of_lt h7]
theorem shr_digit {xs : List Nat} (hx : Ok xs) (sk sh i : Nat) (h : sh ≤ 32) :
  (dig xs (sk + i) + Bs * dig xs (sk + i + 1)) / 2 ^ sh % Bs = val xs / 2 ^ (32 * sk + sh) / Bs ^ i % Bs := by
 have e := two_sh h
 have h1 : val xs / 2 ^ (32 * sk + sh) / Bs ^ i = val (xs.drop (sk + i)) / 2 ^ sh := by
  rw [val_drop hx, Nat.div_div_eq_div_mul, Nat.div_div_eq_div_mul, Nat.pow_add, ← Bs_pow_eq, Nat.pow_add]
  congr 1
  rw [Nat.mul_assoc, Nat.mul_assoc, Nat.mul_comm (2 ^ sh)]
 have h2 : val (xs.drop (sk + i)) = dig xs (sk + i) + Bs * dig xs (sk + i + 1) + 2 ^ sh * (Bs * (2 ^ (32 - sh) * val (xs.drop (sk + i + 2)))) := by
  rw [val_drop_succ, val_drop_succ xs (sk + i + 1)]
  conv => rhs; rw [Nat.mul_left_comm Bs, ← Nat.mul_assoc (2 ^ sh), e]
  rw [Nat.mul_add, ← Nat.add_assoc]
 rw [h1, h2, Nat.add_mul_div_left _ _ (Nat.two_pow_pos _), Nat.add_mul_mod_self_left]
def TellsV (w : World) (N len : Nat) (e : Ending) (w' : World) : Prop := ∃ B q d L, e = .returned (.slice B q d) ∧ Lm w' B q d L ∧ val L = N ∧ q ≤ len ∧ Below w.heap.size w w'
def DownAt (N k : Nat) (L : List Nat) : Prop := Ok L ∧ ∀ i, i < k → dig L i = N / Bs ^ i % Bs
theorem DownAt.step {N k v : Nat} {L : List Nat} (h : DownAt N k L) (hk : k < L.length) (hv : v = N / Bs ^ k % Bs) : DownAt N (k + 1) (L.set k v) := by
 refine ⟨h.1.set hk (by rw [hv]; exact Nat.mod_lt _ Bs_pos), fun i hi => ?_⟩
 rw [dig_set hk]
 split
 ·subst_vars; rfl
 ·exact h.2 i (by omega)
def TellsVF (w : World) (N len : Nat) (e : Ending) (w' : World) : Prop := ∃ B q d L, e = .returned (.slice B q d) ∧ Lm w' B q d L ∧ val L = N ∧ q ≤ len ∧ Below w.heap.size w w' ∧ Fr B w.heap.size
theorem down_fr (w : World) (A : Option Addr) (m c : Nat) (xs : List Nat) (n : Nat) (h : Lm w A m c xs) (hm : m ≤ 100000000000) (hn : n ≤ 100000000000) :
  Calls Tryz.prog 240 #[.slice A m c, .int .i64 n] w (TellsVF w (val xs / 2 ^ n) m) := by
 obtain ⟨sk, hsk⟩ : ∃ sk, sk = n / 32 := ⟨_, rfl⟩
 obtain ⟨sh, hsh⟩ : ∃ sh, sh = n % 32 := ⟨_, rfl⟩
 have hskb : sk ≤ 100000000000 := by omega
 have hshb : sh < 32 := by omega
 have e1 : (n : Int) / 32 = (sk : Int) := by omega
 have e2 : (n : Int) % 32 = (sh : Int) := by omega
 have HN : Hid (n = 32 * sk + sh) := (by omega : n = 32 * sk + sh)
 clear hsk hsh
 by_cases hge : m ≤ sk
 ·have hz : val xs / 2 ^ n = 0 := by
   rw [HN.out]
   apply Nat.div_eq_of_lt
   refine Nat.lt_of_lt_of_le (val_lt h.ok) ?_
   rw [h.len, Bs_pow_eq]
   exact Nat.pow_le_pow_right (by omega) (by omega)
  rw [hz]
  clear hz
  go_enter Tryz.func240, Tryz.ntmps240
  go_wp2
  go_ret
  exact ⟨none, 0, 0, [], rfl, Lm.nil _, val_nil, Nat.zero_le _, Below.refl _ _, .inl rfl⟩
 obtain ⟨q, hq⟩ : ∃ q, q + sk = m := ⟨m - sk, by omega⟩
 have hq1 : q ≤ 100000000000 := by omega
 have eq1 : (m : Int) - (sk : Int) = (q : Int) := by omega
 have HQ := Lib.hid hq
 have hqm : q ≤ m := by omega
 have hqs : sk < m := by omega
 clear hq hge
 generalize hV : val xs / 2 ^ n = V
 have HV := Lib.hid hV
 clear hV
 go_enter Tryz.func240, Tryz.ntmps240
 go_wp2_with
  (at_make
   refine wpList_make_u32 _ rfl _ _ rfl .i64 .i64 _ _ q rfl rfl ?_ ?_ ?_ ?_
   ·rfl
   ·rfl
   ·omega
   intro w1 hown hb1 hs1)
 clear e1 e2 eq1
 go_loopw [24] (fun ix wr => ∃ (k : Nat) (L : List Nat), k ≤ q ∧ ix = .int .i64 k ∧ L.length = q ∧ Own wr w.heap.size L ∧ DownAt V k L ∧ Below w.heap.size w wr) (fun ix _ => q - (intOf ix).toNat)
 case atStart => exact ⟨0, _, Nat.zero_le _, rfl, by simp, hown, ⟨Ok.zeros _, fun i hi => by omega⟩, hb1⟩
 case round =>
  obtain ⟨k, L, hk, rfl, hL0, hO, hS, hB⟩ := hrel
  have hL := Lib.hid hL0
  clear hL0 hown hb1 hs1
  have hlm := h.bel hB
  by_cases hlt : k < q
  ·have hsum : sk + k < m := by have := HQ.out; omega
   obtain ⟨b, o, rfl, hb, hc0⟩ := hlm.at_ hsum
   have hx := hc0 (sk + k) hsum
   clear hc0
   have hc := hO.cell (i := k) (by rw [hL.out]; omega)
   have hf := hO.free k
   have hi1 : (sk : Int) + k < m := by omega
   have hi2 : (0 : Int) ≤ (sk : Int) + k := by omega
   have hat := Lib.hid (fun W (hW : Lm W (some ⟨b, o, none⟩) m c xs) => at_any W _ m c xs (sk + k + 1) hW (by omega))
   have et : ((sk : Int) + k).toNat = sk + k := by omega
   have ew : IntKind.i64.wrap ((sk : Int) + k) = (sk : Int) + k := IntWalk.i64_in _ (by omega)
   have ew2 : IntKind.i64.wrap ((sk : Int) + k + 1) = (sk : Int) + k + 1 := IntWalk.i64_in _ (by omega)
   obtain ⟨t, ht⟩ : ∃ t, t + sh = 32 := ⟨32 - sh, by omega⟩
   have ht2 : t ≤ 32 := by omega
   have HT := Lib.hid ht
   have ew3 : IntKind.i64.wrap (32 - (sh : Int)) = (t : Int) := by rw [IntWalk.i64_in _ (by omega)]; omega
   clear ht
   go_wp2_with fail
   go_region_with (go_at_call 234; refine (hat.out _ hlm.drew).mono ?_; rintro e w' ⟨rfl, rfl⟩)
   all_goals clear et ew ew2 ew3
   all_goals go_wp2
   all_goals
    refine ⟨⟨k + 1, L.set k ((dig xs (sk + k) + Bs * dig xs (sk + k + 1)) / 2 ^ sh % Bs), by omega, by go_num, by simpa using hL.out, ?_, ?_, ?_⟩, by simp [intOf]; omega⟩
    ·have et : t = 32 - sh := by have := HT.out; omega
     rw [et, or_high _ _ (Nat.le_of_lt hshb) (h.ok _)]; exact hO.drew.set_ _ _
    ·exact hS.step (by rw [hL.out]; omega) (by rw [shr_digit h.ok sk sh k (Nat.le_of_lt hshb), ← HV.out, HN.out])
    ·exact hB.drew.setCell (Nat.le_refl _) _
  ·obtain rfl : k = q := by omega
   have hl := hO.lm hS.1 (by rw [hL.out]; omega)
   rw [hL.out] at hl
   go_wp2
   go_ret
   refine ⟨_, k, k, L, rfl, hl, ?_, hqm, hB, .inr ⟨_, _, rfl, Nat.le_refl _⟩⟩
   refine val_digits (fun i hi => hS.2 i (by rw [hL.out] at hi; exact hi)) ?_
   rw [hL.out, ← HV.out, HN.out, Nat.div_lt_iff_lt_mul (Nat.two_pow_pos _), Bs_pow_eq, ← Nat.pow_add]
   refine Nat.lt_of_lt_of_le (val_lt h.ok) ?_
   rw [h.len, Bs_pow_eq]
   exact Nat.pow_le_pow_right (by omega) (by have := HQ.out; omega)
theorem down_any (w : World) (A : Option Addr) (m c : Nat) (xs : List Nat) (n : Nat) (h : Lm w A m c xs) (hm : m ≤ 100000000000) (hn : n ≤ 100000000000) :
  Calls Tryz.prog 240 #[.slice A m c, .int .i64 n] w (TellsV w (val xs / 2 ^ n) m) :=
 (down_fr w A m c xs n h hm hn).mono fun _ _ ⟨B, q, d, L, h1, h2, h3, h4, h5, _⟩ => ⟨B, q, d, L, h1, h2, h3, h4, h5⟩
end Go.Proofs.YtnjjfakjnkhhjaaGreatDoor
namespace Go.Proofs.YtnjjfakjnkhhjaaGreatDoor
open Go.RowKit
theorem TellsV.lm {w : World} {N len : Nat} {e : Ending} {w' : World} (h : TellsV w N len e w') : ∃ B q d L, e = .returned (.slice B q d) ∧ Lm w' B q d L ∧ val L = N ∧ q ≤ len ∧ Below w.heap.size w w' := h
theorem shl_any (w : World) (A : Option Addr) (n c : Nat) (xs : List Nat) (by_ : Int) (h : Lm w A n c xs) (hn : n ≤ 10000000000) :
  Calls Tryz.prog 229 #[.slice A n c, .int .i64 by_] w (Tells w (val xs * 2 ^ heldN by_) (n + heldN by_ / 32 + 1)) := by
 have hh := heldN_le by_
 have hheld := Lib.hid (fun W => held_any W by_)
 generalize hH : heldN by_ = H at *
 have HH := Lib.hid hH
 clear hH
 generalize hX : val xs = X
 have HX := Lib.hid hX
 clear hX
 go_enter Tryz.func229, Tryz.ntmps229
 go_wp2_with fail
 refine (cut_lm w A n c xs h).mono ?_
 rintro e w1 ⟨m, rfl, hm, hmn, rfl⟩
 rw [HX.out] at hm
 have Hlen : Hid (ln X = m) := hm.len
 by_cases h0 : m = 0
 ·subst h0
  have hx0 : X = 0 := ln_zero_iff.1 Hlen.out
  subst hx0
  go_wp2
  go_ret
  exact ⟨none, 0, 0, rfl, by rw [Nat.zero_mul, lim_zero]; exact Lm.nil _, Nat.zero_le _, Below.refl _ _⟩
 ·have h0' : ((m : Int) == 0) = false := by rw [beq_eq_false_iff_ne]; omega
  have H0 := Lib.hid h0
  clear h0
  go_wp2_with fail
  refine (hheld.out _).mono ?_
  rintro e w' ⟨rfl, rfl⟩
  go_wp2_with fail
  refine (up_any w A m c _ H hm (by omega) (by omega)).mono ?_
  rintro e w2 ⟨L, rfl, hO, hL, hok, hv, hb⟩
  have HL := Lib.hid hL
  have HV := Lib.hid hv
  clear hL hv
  have hl := hO.lm hok (by rw [HL.out]; omega)
  rw [HL.out] at hl
  go_wp2_with fail
  refine (cut_lm _ _ _ _ _ hl).mono ?_
  rintro e w' ⟨r, rfl, hr, hrn, rfl⟩
  go_wp2
  go_ret
  refine ⟨_, r, _, rfl, ?_, by omega, hb⟩
  rw [HV.out, val_lim] at hr; exact hr
theorem shr_any (w : World) (A : Option Addr) (n c : Nat) (xs : List Nat) (by_ : Int) (h : Lm w A n c xs) (hn : n ≤ 10000000000) :
  Calls Tryz.prog 230 #[.slice A n c, .int .i64 by_] w (Tells w (val xs / 2 ^ heldN by_) n) := by
 have hh := heldN_le by_
 have hheld := Lib.hid (fun W => held_any W by_)
 generalize hH : heldN by_ = H at *
 have HH := Lib.hid hH
 clear hH
 generalize hX : val xs = X
 have HX := Lib.hid hX
 clear hX
 go_enter Tryz.func230, Tryz.ntmps230
 go_wp2_with fail
 refine (cut_lm w A n c xs h).mono ?_
 rintro e w1 ⟨m, rfl, hm, hmn, rfl⟩
 rw [HX.out] at hm
 go_wp2_with fail
 refine (hheld.out _).mono ?_
 rintro e w' ⟨rfl, rfl⟩
 go_wp2_with fail
 refine (down_any w A m c _ H hm (by omega) (by omega)).mono ?_
 rintro e w2 ⟨B, q, d, L, rfl, hl, hv, hq, hb⟩
 have HV := Lib.hid hv
 clear hv
 go_wp2_with fail
 refine (cut_lm _ _ _ _ _ hl).mono ?_
 rintro e w' ⟨r, rfl, hr, hrn, rfl⟩
 go_wp2
 go_ret
 refine ⟨_, r, _, rfl, ?_, by omega, hb⟩
 rw [HV.out, val_lim] at hr; exact hr
theorem nb_top {X m : Nat} (h : ln X = m) (h0 : m ≠ 0) : nb X = 32 * (m - 1) + nb (dig (lim X) (m - 1)) ∧ dig (lim X) (m - 1) ≠ 0 := by
 have hX : X ≠ 0 := fun e => h0 (by rw [← h, e]; exact ln_zero)
 have ht := top_lim hX
 rw [h] at ht
 refine ⟨?_, ht⟩
 have e : X = dig (lim X) (m - 1) * 2 ^ (32 * (m - 1)) + vt (dig (lim X)) (m - 1) := by
  have h1 : val (lim X) = vt (dig (lim X)) (m - 1 + 1) := by rw [Nat.sub_add_cancel (by omega)]; exact (val_eq_vt (Nat.le_of_eq h)).symm
  rw [val_lim] at h1
  conv => lhs; rw [h1]
  show vt (dig (lim X)) (m - 1) + Bs ^ (m - 1) * dig (lim X) (m - 1) = _
  rw [Bs_pow_eq, Nat.mul_comm, Nat.add_comm]
 have hlt : vt (dig (lim X)) (m - 1) < 2 ^ (32 * (m - 1)) := by rw [← Bs_pow_eq]; exact vt_lt _ fun i _ => ok_lim X i
 conv => lhs; rw [e]
 rw [nb_join ht hlt, Nat.add_comm]
theorem bits_any (w : World) (A : Option Addr) (n c : Nat) (xs : List Nat) (h : Lm w A n c xs) :
  Calls Tryz.prog 182 #[.slice A n c] w fun e w' => e = .returned (.int .i64 (nb (val xs))) ∧ w = w' := by
 generalize hX : val xs = X
 have HX := Lib.hid hX
 clear hX
 go_enter Tryz.func182, Tryz.ntmps182
 go_wp2_with fail
 refine (cut_lm w A n c xs h).mono ?_
 rintro e w1 ⟨m, rfl, hm, hmn, rfl⟩
 rw [HX.out] at hm
 have hbig := hm.big
 have Hlen : Hid (ln X = m) := hm.len
 by_cases h0 : m = 0
 ·subst h0
  have hx0 : X = 0 := ln_zero_iff.1 Hlen.out
  subst hx0
  go_wp2
  go_ret
  exact ⟨rfl, rfl⟩
 ·have h0' : ((m : Int) == 0) = false := by rw [beq_eq_false_iff_ne]; omega
  have hpos : 1 ≤ m := by omega
  have hnb := Lib.hid (nb_top Hlen.out h0)
  clear h0
  obtain ⟨b, o, rfl, hb, hc0⟩ := hm.at_ (k := m - 1) (by omega)
  have hx := hc0 (m - 1) (by omega)
  have hlt32 := nb_le_of_lt (n := dig (lim X) (m - 1)) (k := 32) (by rw [← Bs_pow]; exact ok_lim X _)
  clear hc0
  go_wp2_with fail
  refine (len32_any _ _ (ok_lim X (m - 1))).mono ?_
  rintro e w' ⟨rfl, rfl⟩
  go_wp2
  go_ret
  exact ⟨ret_int (by rw [hnb.out.1]; omega), rfl⟩
theorem tz_low {xs : List Nat} {i : Nat} (hz : ∀ j, j < i → dig xs j = 0) (hd : dig xs i ≠ 0) (hx : dig xs i < Bs) : tz (val xs) = 32 * i + tz (dig xs i) := by
 have h1 := val_split xs i
 rw [vt_zero i hz, Nat.zero_add, val_drop_succ, Bs_pow_eq] at h1
 obtain ⟨m, hm⟩ := tz_spec hd
 have hlt : tz (dig xs i) < 32 := tz_lt_of_lt hd (by rw [← Bs_pow]; exact hx)
 obtain ⟨q, hq⟩ : ∃ q, 32 = tz (dig xs i) + 1 + q := ⟨31 - tz (dig xs i), by omega⟩
 have hB : Bs = 2 ^ tz (dig xs i) * (2 * 2 ^ q) := by
  rw [Bs_pow]; conv => lhs; rw [hq]
  rw [Nat.pow_add, Nat.pow_add, Nat.pow_one, Nat.mul_assoc]
 have e : val xs = 2 ^ (32 * i + tz (dig xs i)) * (2 * (m + 2 ^ q * val (xs.drop (i + 1))) + 1) := by
  rw [h1, Nat.pow_add, Nat.mul_assoc]
  congr 1
  conv => lhs; rw [hB]
  generalize tz (dig xs i) = t at *
  generalize 2 ^ q = u
  generalize val (List.drop (i + 1) xs) = v
  rw [hm]
  generalize 2 ^ t = p
  grind
 rw [e, tz_of]
theorem low_any (w : World) (A : Option Addr) (n c : Nat) (xs : List Nat) (h : Lm w A n c xs) (hT : Tab w) :
  Calls Tryz.prog 186 #[.slice A n c] w fun e w' => e = .returned (.int .i64 (tz (val xs))) ∧ w = w' := by
 have hlen := Lib.hid h.len
 have hbig := h.big
 generalize hR : tz (val xs) = R
 have HR := Lib.hid hR
 clear hR
 have hT' := Lib.hid hT
 clear hT
 go_enter Tryz.func186, Tryz.ntmps186
 go_wp2
 go_loop [7] (fun ix => ∃ k : Nat, k ≤ n ∧ ix = .int .i64 k ∧ ∀ j, j < k → dig xs j = 0) (fun ix => n - (intOf ix).toNat)
 case atStart => exact ⟨0, Nat.zero_le _, rfl, fun j hj => by omega⟩
 case round =>
  obtain ⟨k, hk, rfl, hz0⟩ := hrel
  have hz := Lib.hid hz0
  clear hz0
  by_cases hlt : k < n
  ·obtain ⟨b, o, rfl, hb, hc0⟩ := h.at_ hlt
   have hx := hc0 k hlt
   clear hc0
   by_cases hd : dig xs k = 0
   ·rw [hd] at hx
    have hd' := Lib.hid hd
    clear hd
    go_wp2
    refine ⟨⟨k + 1, by omega, by go_num, fun j hj => ?_⟩, by simp [intOf]; omega⟩
    rcases Nat.lt_or_ge j k with h3 | h3
    ·exact hz.out j h3
    ·rw [show j = k from by omega]; exact hd'.out
   ·have hne : ((dig xs k : Int) != 0) = true := by rw [bne_iff_ne]; omega
    have hd' := Lib.hid hd
    clear hd
    have htz : tz (dig xs k) < 32 := tz_lt_of_lt hd'.out (by rw [← Bs_pow]; exact h.ok k)
    go_wp2_with fail
    refine (tz32_any _ _ (h.ok k) hd'.out hT'.out).mono ?_
    rintro e w' ⟨rfl, rfl⟩
    go_wp2
    go_ret
    exact ⟨ret_int (by rw [← HR.out, tz_low hz.out hd'.out (h.ok k)]; omega), rfl⟩
  ·obtain rfl : k = n := by omega
   go_wp2
   go_ret
   have hv : val xs = 0 := vt_zero _ (fun i hi => hz.out i (by rw [hlen.out] at hi; exact hi))
   exact ⟨ret_int (by rw [← HR.out, hv, tz_zero]; rfl), rfl⟩
end Go.Proofs.YtnjjfakjnkhhjaaGreatDoor
namespace Go.Proofs.YtnjjfakjnkhhjaaGreatDoor
open Go.RowKit
theorem same_any (w : World) (A : Option Addr) (n c : Nat) (xs : List Nat) (A' : Option Addr) (n' c' : Nat) (ys : List Nat) (h : Lm w A n c xs) (h' : Lm w A' n' c' ys) :
  Calls Tryz.prog 166 #[.slice A n c, .slice A' n' c'] w fun e w' => e = .returned (.bool (decide (xs = ys))) ∧ ∃ nq, w' = w.drewN nq := by
 have hlen := Lib.hid h.len
 have hlen' := Lib.hid h'.len
 have hbig := h.big
 have hbig' := h'.big
 by_cases hne : n = n'
 ·subst hne
  have hne' : ((n : Int) != (n : Int)) = false := by simp
  go_enter Tryz.func166, Tryz.ntmps166
  go_wp2_with fail
  go_loopw [5] (fun ix wr => ∃ (k nq : Nat), k ≤ n ∧ ix = .int .i64 k ∧ (∀ i, i < k → dig xs i = dig ys i) ∧ wr = w.drewN nq) (fun ix _ => n - (intOf ix).toNat)
  case atStart => exact ⟨0, 0, Nat.zero_le _, rfl, fun i hi => by omega, rfl⟩
  case round =>
   obtain ⟨k, nq, hk, rfl, ha, rfl⟩ := hrel
   have HA := Lib.hid ha
   clear ha hne'
   by_cases hlt : k < n
   ·obtain ⟨b, o, rfl, hb, hc0⟩ := h.at_ hlt
    obtain ⟨b', o', rfl, hb', hc0'⟩ := h'.at_ hlt
    have hc := hc0 k hlt
    have hc' := hc0' k hlt
    clear hc0 hc0'
    by_cases hd : dig xs k = dig ys k
    ·have hd' := Lib.hid hd
     rw [hd] at hc
     clear hd
     go_wp2_with fail
     go_quiet (fail)
     go_wp2
     go_roundw
     case rel => exact ⟨k + 1, _, by omega, by go_num, fun i hi => by
      rcases Nat.lt_or_ge i k with h3 | h3
      ·exact HA.out i h3
      ·rw [show i = k from by omega]; exact hd'.out, rfl⟩
     case measure => simp [intOf]; omega
    ·have hne : ((dig xs k : Int) != (dig ys k : Int)) = true := by rw [bne_iff_ne]; omega
     have HD := Lib.hid hd
     clear hd
     go_wp2_with fail
     go_quiet (fail)
     go_wp2
     go_ret
     exact ⟨ret_bool (decide_eq_false (fun e => HD.out (by rw [e]))).symm, _, by rw [World.drewN_drewN]⟩
   ·obtain rfl : k = n := by omega
    go_wp2
    go_ret
    refine ⟨ret_bool (decide_eq_true ?_).symm, nq, rfl⟩
    exact list_ext_dig (by rw [hlen.out, hlen'.out]) (fun i hi => HA.out i (by rw [hlen.out] at hi; exact hi))
 ·have hne' : ((n : Int) != (n' : Int)) = true := by rw [bne_iff_ne]; omega
  have HN := Lib.hid hne
  clear hne
  go_enter Tryz.func166, Tryz.ntmps166
  go_wp2
  go_ret
  exact ⟨ret_bool (decide_eq_false (fun e => HN.out (by rw [← hlen.out, ← hlen'.out, e]))).symm, 0, rfl⟩
theorem rsame_bel (w : World) (A : Option Addr) (n c : Nat) (xs : List Nat) (A' : Option Addr) (n' c' : Nat) (ys : List Nat) (h : Lm w A n c xs) (h' : Lm w A' n' c' ys) {t : Bool} (ht : decide (xs = ys) = t) :
  Calls Tryz.prog 166 #[.slice A n c, .slice A' n' c'] w fun e w' => e = .returned (.bool t) ∧ Below w.heap.size w w' :=
 (same_any w A n c xs A' n' c' ys h h').mono fun _ _ ⟨he, hw⟩ => ⟨by rw [← ht]; exact he, by obtain ⟨nq, rfl⟩ := hw; exact below_drewN (Below.refl _ _) nq⟩
end Go.Proofs.YtnjjfakjnkhhjaaGreatDoor
namespace Go.Proofs.YtnjjfakjnkhhjaaGreatDoor
open Go.RowKit
def Arg (w : World) (A : Option Addr) (n c : Nat) (xs : List Nat) : Prop :=
 (xs.length = n ∧ n ≤ c) ∧ Ok xs ∧ (0 < n → ∃ b o, A = some ⟨b, o, none⟩ ∧ b < w.heap.size ∧ ∀ j, j < n → w.cell? ⟨b, o + j, none⟩ = some (d32 (dig xs j)))
theorem Arg.lm {w : World} {A : Option Addr} {n c : Nat} {xs : List Nat} (h : Arg w A n c xs) (hn : n ≤ 1000000000000) : Lm w A n c xs := ⟨⟨h.1.1, h.1.2, hn⟩, h.2.1, h.2.2⟩
theorem Arg.none (w : World) : Arg w none 0 0 [] := ⟨⟨rfl, Nat.le_refl _⟩, fun i => by rw [dig_nil]; exact Bs_pos, fun h => absurd h (by omega)⟩
theorem Arg.of_ints {w : World} {x : Addr} {l c : Nat} {zs : List Int} (hl : l ≤ c) (hz : zs.length = c) (hcell : ∀ i, i < zs.length → w.cell? (x.add i) = some (.int .u32 (zs.getD i 0))) (hwf : ∀ n ∈ zs, (Lit.int .u32 n).wf = true) :
  Arg w (some x) l c ((zs.take l).map Int.toNat) := by
 have hln : (zs.take l).length = l := by rw [List.length_take]; omega
 have hd : ∀ j, j < l → ((dig ((zs.take l).map Int.toNat) j : Nat) : Int) = zs.getD j 0 ∧ dig ((zs.take l).map Int.toNat) j < Bs := fun j hj => by
  have hj2 : j < zs.length := by omega
  have e : dig ((zs.take l).map Int.toNat) j = (zs[j]).toNat := by
   rw [dig_get (by rw [List.length_map, hln]; exact hj)]
   simp
  have hb := bounds_u32 (hwf zs[j] (List.getElem_mem hj2))
  rw [e, List.getD_eq_getElem?_getD, List.getElem?_eq_getElem hj2, Bs_eq]
  simp only [Option.getD_some]
  omega
 refine ⟨⟨by rw [List.length_map, hln], hl⟩, fun i => ?_, fun hn => ?_⟩
 ·by_cases hi : i < l
  ·exact (hd i hi).2
  ·rw [dig_over (by rw [List.length_map, hln]; omega)]; exact Bs_pos
 ·obtain ⟨b, off, rfl, hc⟩ := ints_at hcell (by omega)
  refine ⟨b, off, rfl, ?_, fun j hj => ?_⟩
  ·have h0 := hc 0 (by omega)
   apply Nat.lt_of_not_le
   intro cc
   unfold World.cell? at h0
   rw [Array.getElem?_eq_none cc] at h0
   cases h0
  ·rw [hc j (by omega), ← (hd j hj).1]
end Go.Proofs.YtnjjfakjnkhhjaaGreatDoor
namespace Go.Proofs.YtnjjfakjnkhhjaaGreatDoor
open Go.RowKit
theorem rtrim_any (w : World) (A : Option Addr) (n c : Nat) (xs : List Nat) (h : Lm w A n c xs) :
  Calls Tryz.prog 146 #[.slice A n c] w fun e w' => e = .returned (.slice A (ln (val xs)) c) ∧ w = w' := by
 have hlen := Lib.hid h.len
 have hcap := h.cap
 have hnn := h.big
 go_enter Tryz.func146, Tryz.ntmps146
 go_wp2
 go_loop [3] (fun t => ∃ m : Nat, m ≤ n ∧ (∀ j, m ≤ j → j < n → dig xs j = 0) ∧ t = .int .i64 m) (fun t => (intOf t).toNat)
 case atStart => exact ⟨n, Nat.le_refl _, fun j h1 h2 => by omega, rfl⟩
 case round =>
  obtain ⟨m, hm, hz0, rfl⟩ := hrel
  have hz := Lib.hid hz0
  clear hz0
  by_cases hp : 0 < m
  ·obtain ⟨b, o, rfl, hb, hc0⟩ := h.at_ (k := m - 1) (by omega)
   have hc := hc0 (m - 1) (by omega)
   clear hc0
   by_cases hd : dig xs (m - 1) = 0
   ·rw [hd] at hc
    have hd' := Lib.hid hd
    clear hd
    go_wp2
    refine ⟨⟨m - 1, by omega, fun j h1 h2 => ?_, by congr 1; omega⟩, by simp [intOf]; omega⟩
    rcases Nat.lt_or_ge j m with h3 | h3
    ·rw [show j = m - 1 from by omega]; exact hd'.out
    ·exact hz.out j h3 h2
   ·go_wp2
    go_ret
    exact ⟨ret_slice (lim_take h.ok (by rw [hlen.out]; exact hm) (fun j h1 h2 => hz.out j h1 (by rw [hlen.out] at h2; exact h2)) (.inr hd)).1.symm, rfl⟩
  ·go_wp2
   go_ret
   exact ⟨ret_slice (lim_take h.ok (by rw [hlen.out]; exact hm) (fun j h1 h2 => hz.out j h1 (by rw [hlen.out] at h2; exact h2)) (.inl (by omega))).1.symm, rfl⟩
theorem rtrim_lm (w : World) (A : Option Addr) (n c : Nat) (xs : List Nat) (h : Lm w A n c xs) :
  Calls Tryz.prog 146 #[.slice A n c] w fun e w' => ∃ m, e = .returned (.slice A m c) ∧ Lm w A m c (lim (val xs)) ∧ m ≤ n ∧ w = w' :=
 (rtrim_any w A n c xs h).mono fun _ _ ⟨he, hw⟩ => ⟨_, he, h.cut, by have := ln_val_le h.ok; rw [h.len] at this; exact this, hw⟩
theorem rat_any (w : World) (A : Option Addr) (n c : Nat) (xs : List Nat) (i : Nat) (h : Lm w A n c xs) (_hi : i ≤ 2000000000000) :
  Calls Tryz.prog 148 #[.slice A n c, .int .i64 i] w fun e w' => e = .returned (.int .u64 (dig xs i : Nat)) ∧ w = w' := by
 have hcap := h.cap
 have hbig := h.big
 by_cases hlt : i < n
 ·obtain ⟨b, o, rfl, hb, hc0⟩ := h.at_ hlt
  have hc := hc0 i hlt
  have hx : dig xs i < 4294967296 := h.ok i
  clear hc0
  go_enter Tryz.func148, Tryz.ntmps148
  go_wp2
  go_ret
  exact ⟨ret_int (by first | rfl | omega), rfl⟩
 ·have hz : dig xs i = 0 := dig_over (by rw [h.len]; omega)
  rw [hz]
  clear hz
  go_enter Tryz.func148, Tryz.ntmps148
  go_wp2
  go_ret
  exact ⟨rfl, rfl⟩
theorem rcmp_any (w : World) (A : Option Addr) (n c : Nat) (xs : List Nat) (A' : Option Addr) (n' c' : Nat) (ys : List Nat) (h : Lm w A n c xs) (h' : Lm w A' n' c' ys) :
  Calls Tryz.prog 171 #[.slice A n c, .slice A' n' c'] w fun e w' => e = .returned (.int .i64 (cmpN (val xs) (val ys))) ∧ ∃ nq, w' = w.drewN nq := by
 generalize hX : val xs = X
 generalize hY : val ys = Y
 have HX := Lib.hid hX
 have HY := Lib.hid hY
 clear hX hY
 go_enter Tryz.func171, Tryz.ntmps171
 go_wp2_with fail
 refine (rtrim_lm w A n c xs h).mono ?_
 rintro e w1 ⟨m, rfl, hm, hmn, rfl⟩
 rw [HX.out] at hm
 go_wp2_with fail
 refine (rtrim_lm w A' n' c' ys h').mono ?_
 rintro e w1 ⟨m', rfl, hm', hmn', rfl⟩
 rw [HY.out] at hm'
 have hbig := hm.big
 have hbig' := hm'.big
 have Hlen : Hid (ln X = m) := hm.len
 have Hlen' : Hid (ln Y = m') := hm'.len
 rcases Nat.lt_trichotomy m m' with hne | hne | hne
 ·have hne' : ((m : Int) != (m' : Int)) = true := by rw [bne_iff_ne]; omega
  go_wp2
  go_ret
  exact ⟨ret_int (by rw [cmpN_lt (lt_of_ln_lt (by rw [Hlen.out, Hlen'.out]; exact hne))]), 0, rfl⟩
 ·subst hne
  go_wp2_with fail
  go_loopw [7] (fun ix wr => ∃ (t : Int) (nq : Nat), -1 ≤ t ∧ t < m ∧ ix = .int .i64 t ∧ (∀ i : Nat, t < i → i < m → dig (lim X) i = dig (lim Y) i) ∧ wr = w.drewN nq) (fun ix _ => (intOf ix + 1).toNat)
  case atStart => exact ⟨(m : Int) - 1, 0, by omega, by omega, rfl, fun i h1 h2 => by omega, rfl⟩
  case round =>
   obtain ⟨t, nq, ht1, ht2, rfl, ha, rfl⟩ := hrel
   have HA := Lib.hid ha
   clear ha
   by_cases h0 : 0 ≤ t
   ·obtain ⟨j, rfl⟩ := Int.eq_ofNat_of_zero_le h0
    have hjm : j < m := by omega
    obtain ⟨b, o, rfl, hb, hc0⟩ := hm.at_ hjm
    obtain ⟨b', o', rfl, hb', hc0'⟩ := hm'.at_ hjm
    have hc := hc0 j hjm
    have hc' := hc0' j hjm
    clear hc0 hc0'
    rcases Nat.lt_trichotomy (dig (lim X) j) (dig (lim Y) j) with hd | hd | hd
    ·have HD := Lib.hid hd
     go_wp2_with fail
     go_quiet (fail)
     go_wp2
     go_ret
     exact ⟨ret_int (by rw [cmpN_lt (val_lim_lt Hlen.out Hlen'.out hjm (fun i h1 h2 => HA.out i (by omega) h2) HD.out)]), _, by rw [World.drewN_drewN]⟩
    ·have hd' := Lib.hid hd
     rw [hd] at hc
     clear hd
     go_wp2_with fail
     go_quiet (fail)
     go_wp2_with fail
     go_quiet (fail)
     go_wp2
     go_roundw
     case rel => exact ⟨(j : Int) - 1, _, by omega, by omega, rfl, fun i h1 h2 => by
      rcases Nat.lt_or_ge j i with h3 | h3
      ·exact HA.out i (by omega) h2
      ·rw [show i = j from by omega]; exact hd'.out, rfl⟩
     case measure => simp [intOf]
    ·have HD := Lib.hid hd
     have hnl : ¬ dig (lim X) j < dig (lim Y) j := by omega
     go_wp2_with fail
     go_quiet (fail)
     go_wp2_with fail
     go_quiet (fail)
     go_wp2
     go_ret
     exact ⟨ret_int (by rw [cmpN_gt (val_lim_lt Hlen'.out Hlen.out hjm (fun i h1 h2 => (HA.out i (by omega) h2).symm) HD.out)]), _, by rw [World.drewN_drewN, World.drewN_drewN]⟩
   ·obtain rfl : t = -1 := by omega
    go_wp2
    go_ret
    refine ⟨ret_int (cmpN_eq (val_lim_eq Hlen.out Hlen'.out (fun i h1 => HA.out i (by omega) h1))).symm, nq, rfl⟩
 ·have hne' : ((m : Int) != (m' : Int)) = true := by rw [bne_iff_ne]; omega
  go_wp2
  go_ret
  exact ⟨ret_int (by rw [cmpN_gt (lt_of_ln_lt (by rw [Hlen.out, Hlen'.out]; exact hne))]), 0, rfl⟩
end Go.Proofs.YtnjjfakjnkhhjaaGreatDoor
namespace Go.Proofs.YtnjjfakjnkhhjaaGreatDoor
open Go.RowKit
theorem nb_le_len {xs : List Nat} (h : Ok xs) : nb (val xs) ≤ 32 * xs.length := nb_le_of_lt (by rw [← Bs_pow_eq]; exact val_lt h)
def MulR (xs : List Nat) (Y lb k : Nat) (L : List Nat) : Prop := Ok L ∧ (∀ j, k + lb ≤ j → dig L j = 0) ∧ vt (dig L) (k + lb) = vt (dig xs) k * Y
theorem MulR.step {xs ys : List Nat} {lb k cr : Nat} {L L' : List Nat} (h : MulR xs (val ys) lb k L) (hlb : ys.length = lb) (hT : AddT L k (dig xs k) ys lb cr L') (hk : k + lb < L.length) : MulR xs (val ys) lb (k + 1) (L'.set (k + lb) cr) := by
 obtain ⟨hO, hz, he⟩ := h
 obtain ⟨hl, hO', hc, hj, ht⟩ := hT
 have hkl : k + lb < L'.length := by omega
 rw [val_eq_vt (Nat.le_of_eq hlb)] at ht
 refine ⟨hO'.set hkl hc, fun j hjj => ?_, ?_⟩
 ·rw [dig_set hkl, if_neg (by omega), hj j (by omega)]; exact hz j (by omega)
 ·rw [show k + 1 + lb = (k + lb) + 1 from by omega]
  show vt (dig (L'.set (k + lb) cr)) (k + lb) + Bs ^ (k + lb) * dig (L'.set (k + lb) cr) (k + lb) = _
  rw [vt_congr (e := dig L') (k + lb) (fun j hj2 => by rw [dig_set hkl, if_neg (by omega)]), dig_set hkl, if_pos rfl, vt_add, Nat.pow_add]
  rw [vt_add] at he
  rw [vt_congr (e := dig L) k (fun j hj2 => hj j (by omega))]
  exact mul_row ht he
theorem MulR.fin {xs : List Nat} {Y lb k : Nat} {L : List Nat} (h : MulR xs Y lb k L) (h1 : xs.length = k) (hl : L.length = k + lb + 1) : val L = val xs * Y := by
 obtain ⟨_, hz, he⟩ := h
 rw [val_eq_vt (Nat.le_of_eq h1)] at he
 rw [← he]
 unfold val
 rw [hl]
 show vt (dig L) (k + lb) + Bs ^ (k + lb) * dig L (k + lb) = _
 rw [hz (k + lb) (Nat.le_refl _), Nat.mul_zero, Nat.add_zero]
theorem rmul_any (w : World) (A : Option Addr) (n c : Nat) (xs : List Nat) (A' : Option Addr) (n' c' : Nat) (ys : List Nat) (h : Lm w A n c xs) (h' : Lm w A' n' c' ys) (hn : n ≤ 10000000000) (hn' : n' ≤ 10000000000) :
  Calls Tryz.prog 144 #[.slice A n c, .slice A' n' c'] w (Tells w (val xs * val ys) (n + n' + 1)) := by
 have HL := Lib.hid (And.intro h.len h'.len)
 go_enter Tryz.func144, Tryz.ntmps144
 go_wp2_with
  (at_make
   refine wpList_make_u32 _ rfl _ _ rfl .i64 .i64 _ _ (n + n' + 1) rfl rfl ?_ ?_ ?_ ?_
   ·omega
   ·omega
   ·omega
   intro w1 hown hb1 hs1)
 go_loopw [6] (fun ix wr => ∃ (k : Nat) (L : List Nat), k ≤ n ∧ ix = .int .i64 k ∧ L.length = n + n' + 1 ∧ Own wr w.heap.size L ∧ MulR xs (val ys) n' k L ∧ Below w.heap.size w wr) (fun ix _ => n - (intOf ix).toNat)
 case atStart => exact ⟨0, _, Nat.zero_le _, rfl, by simp, hown, ⟨Ok.zeros _, fun j _ => dig_zeros _ _, by rw [vt_zero _ (fun j _ => dig_zeros _ _)]; simp [vt]⟩, hb1⟩
 case round =>
  obtain ⟨k, L, hk, rfl, hL0, hO, hS, hB⟩ := hrel
  have hL := Lib.hid hL0
  clear hL0 hown hb1 hs1
  obtain ⟨wo, rfl⟩ : ∃ wo : World, wo = wr := ⟨_, rfl⟩
  by_cases hlt : k < n
  ·have hkn : k + n' ≤ 20000000000 := by omega
   go_wp2_with fail
   go_loopw [7, 8] (fun cv jx wr => ∃ (j cr : Nat) (L' : List Nat), j ≤ n' ∧ jx = .int .i64 j ∧ cv = .int .u64 cr ∧ AddT L k (dig xs k) ys j cr L' ∧ Own wr w.heap.size L' ∧ Below w.heap.size w wr) (fun _ jx _ => n' - (intOf jx).toNat)
   case atStart => exact ⟨0, 0, L, Nat.zero_le _, rfl, rfl, ⟨rfl, hS.1, by rw [Bs_eq]; omega, fun j _ => rfl, rfl⟩, hO, hB⟩
   case round =>
    obtain ⟨j, cr, L', hj, rfl, rfl, hT, hO', hB'⟩ := hrel
    have hcr : cr < 4294967296 := hT.2.2.1
    by_cases hlj : j < n'
    ·have hlm := h.bel hB'
     have hlm' := h'.bel hB'
     obtain ⟨b, o, rfl, hb, hc0⟩ := hlm.at_ hlt
     obtain ⟨b', o', rfl, hb', hc0'⟩ := hlm'.at_ hlj
     have hx := hc0 k hlt
     have hy := hc0' j hlj
     clear hc0 hc0' hlm hlm'
     have hst := hT.step (h.ok k) h'.ok (by rw [hL.out]; omega)
     have hPb := mul_lt_big (h.ok k) (h'.ok j)
     have hP : (dig xs k : Int) * (dig ys j : Int) = ((dig xs k * dig ys j : Nat) : Int) := rfl
     obtain ⟨P, hPe⟩ : ∃ P, P = dig xs k * dig ys j := ⟨_, rfl⟩
     rw [← hPe] at hP hPb hst
     have hxb : dig xs k < 4294967296 := h.ok k
     have hyb : dig ys j < 4294967296 := h'.ok j
     have hpb : dig L' (k + j) < 4294967296 := hT.2.1 (k + j)
     obtain ⟨ik, hik, ei⟩ : ∃ ik, ik = k + j ∧ (k : Int) + (j : Int) = (ik : Int) := ⟨_, rfl, by omega⟩
     have hcell := hO'.cell (i := k + j) (by rw [hT.1, hL.out]; omega)
     rw [← hik] at hst hpb hcell
     have hf := hO'.free ik
     obtain ⟨S1, hS1, es1⟩ : ∃ S1, S1 = cr + P ∧ (cr : Int) + (P : Int) = (S1 : Int) := ⟨_, rfl, by omega⟩
     obtain ⟨S, hSS, es2⟩ : ∃ S, S = S1 + dig L' ik ∧ (S1 : Int) + (dig L' ik : Int) = (S : Int) := ⟨_, rfl, by omega⟩
     have hSe : cr + (P + dig L' ik) = S := by omega
     rw [hSe] at hst
     obtain ⟨lo, hlo, e1⟩ : ∃ lo, S % Bs = lo ∧ (S : Int) % 4294967296 = (lo : Int) := ⟨_, rfl, by rw [Bs_eq]; omega⟩
     obtain ⟨hi', hhi, e2⟩ : ∃ hi', S / Bs = hi' ∧ (S : Int) / 4294967296 = (hi' : Int) := ⟨_, rfl, by rw [Bs_eq]; omega⟩
     rw [hlo, hhi] at hst
     have w1 : IntKind.u64.wrap (P : Int) = (P : Int) := by rw [IntKind.wrap_u64]; omega
     have w2 : IntKind.u64.wrap (S1 : Int) = (S1 : Int) := by rw [IntKind.wrap_u64]; omega
     have w3 : IntKind.u64.wrap (S : Int) = (S : Int) := by rw [IntKind.wrap_u64]; omega
     have w4 : IntKind.i64.wrap (ik : Int) = (ik : Int) := IntWalk.i64_in _ (by omega)
     have hikb : ik < n + n' + 1 := by omega
     have HST := Lib.hid hst
     have HX := Lib.hid (And.intro hik (And.intro hPe (And.intro hS1 (And.intro hSS (And.intro hlo hhi)))))
     clear hst hik hPe hS1 hSS hSe hlo hhi hT
     go_wp2_with fail
     go_quiet (fail)
     go_wp2
     go_roundw
     case rel => exact ⟨j + 1, hi', _, by omega, by go_num, rfl, HST.out, (show Own (wr.drewN nq) w.heap.size L' from hO').set_ _ _, (below_drewN hB' nq).setCell (Nat.le_refl _) _⟩
     case measure => simp [intOf]; omega
    ·obtain rfl : j = n' := by omega
     have hl2 : L'.length = n + j + 1 := by rw [hT.1]; exact hL.out
     have hc2 := hO'.cell (i := k + j) (by rw [hl2]; omega)
     have hf2 := hO'.free (k + j)
     have HL2 := Lib.hid hl2
     have hst := Lib.hid (hS.step HL.out.2 hT (by rw [hL.out]; omega))
     clear hl2 hT
     go_wp2
     go_roundw
     case rel => exact ⟨k + 1, _, by omega, by go_num, by simpa using HL2.out, hO'.set_ _ _, hst.out, hB'.setCell (Nat.le_refl _) _⟩
     case measure => simp [intOf]; omega
  ·obtain rfl : k = n := by omega
   have hv := Lib.hid (hS.fin HL.out.1 hL.out)
   have hl := hO.lm hS.1 (by rw [hL.out]; omega)
   rw [hL.out] at hl
   go_wp2_with fail
   refine (rtrim_lm _ _ _ _ _ hl).mono ?_
   rintro e w' ⟨r, rfl, hr, hrn, rfl⟩
   go_wp2
   go_ret
   exact ⟨_, r, _, rfl, by rw [hv.out] at hr; exact hr, by omega, hB⟩
end Go.Proofs.YtnjjfakjnkhhjaaGreatDoor
namespace Go.Proofs.YtnjjfakjnkhhjaaGreatDoor
open Go.RowKit
theorem rbits_any (w : World) (A : Option Addr) (n c : Nat) (xs : List Nat) (h : Lm w A n c xs) :
  Calls Tryz.prog 168 #[.slice A n c] w fun e w' => e = .returned (.int .i64 (nb (val xs))) ∧ w = w' := by
 generalize hX : val xs = X
 have HX := Lib.hid hX
 clear hX
 go_enter Tryz.func168, Tryz.ntmps168
 go_wp2_with fail
 refine (rtrim_lm w A n c xs h).mono ?_
 rintro e w1 ⟨m, rfl, hm, hmn, rfl⟩
 rw [HX.out] at hm
 have hbig := hm.big
 have Hlen : Hid (ln X = m) := hm.len
 by_cases h0 : m = 0
 ·subst h0
  have hx0 : X = 0 := ln_zero_iff.1 Hlen.out
  subst hx0
  go_wp2
  go_ret
  exact ⟨rfl, rfl⟩
 ·have h0' : ((m : Int) == 0) = false := by rw [beq_eq_false_iff_ne]; omega
  have hpos : 1 ≤ m := by omega
  have hnb := Lib.hid (nb_top Hlen.out h0)
  clear h0
  obtain ⟨b, o, rfl, hb, hc0⟩ := hm.at_ (k := m - 1) (by omega)
  have hx := hc0 (m - 1) (by omega)
  have hlt32 := nb_le_of_lt (n := dig (lim X) (m - 1)) (k := 32) (by rw [← Bs_pow]; exact ok_lim X _)
  have hdb := Lib.hid (ok_lim X (m - 1))
  clear hc0
  generalize dig (lim X) (m - 1) = D at *
  go_wp2_with fail
  go_loop [4, 5] (fun nv tv => ∃ (nn t : Nat), nv = .int .i64 nn ∧ tv = d32 t ∧ nn + nb t = 32 * (m - 1) + nb D ∧ t < 4294967296) (fun _ tv => (intOf tv).toNat)
  case atStart => exact ⟨32 * (m - 1), D, by congr 1; omega, rfl, rfl, hdb.out⟩
  case round =>
   obtain ⟨nn, t, rfl, rfl, hs, ht⟩ := hrel
   have hnn : nn ≤ 40000000000000 := by omega
   by_cases hz : t = 0
   ·have HS := Lib.hid hs
    subst hz
    clear hs
    go_wp2
    go_ret
    exact ⟨ret_int (by rw [hnb.out.1, ← HS.out, nb_zero]; rfl), rfl⟩
   ·have hne : ((t : Int) != 0) = true := by rw [bne_iff_ne]; omega
    have HS := Lib.hid hs
    have HZ := Lib.hid hz
    clear hs hz
    go_wp2
    refine ⟨⟨nn + 1, t / 2, by go_num, by congr 1, ?_, by omega⟩, ?_⟩
    ·rw [← HS.out, nb_half HZ.out]; omega
    ·simp [intOf]; have := HZ.out; omega
theorem testBit_dig {xs : List Nat} (h : Ok xs) (i : Nat) : (val xs).testBit i = (dig xs (i / 32)).testBit (i % 32) := by
 rw [Nat.testBit_eq_decide_div_mod_eq, Nat.testBit_eq_decide_div_mod_eq]
 have e : val xs / 2 ^ i % 2 = dig xs (i / 32) / 2 ^ (i % 32) % 2 := by
  have h1 : val xs / 2 ^ i = val (xs.drop (i / 32)) / 2 ^ (i % 32) := by
   rw [val_drop h, Bs_pow_eq, Nat.div_div_eq_div_mul, ← Nat.pow_add, Nat.div_add_mod]
  rw [h1, val_drop_succ]
  obtain ⟨d, hd⟩ : ∃ d, 32 = i % 32 + 1 + d := ⟨31 - i % 32, by omega⟩
  have hB : Bs = 2 ^ (i % 32) * (2 * 2 ^ d) := by
   rw [Bs_pow]; conv => lhs; rw [hd]
   rw [Nat.pow_add, Nat.pow_add, Nat.pow_one, Nat.mul_assoc]
  rw [hB, Nat.mul_assoc, Nat.add_mul_div_left _ _ (Nat.two_pow_pos _), Nat.mul_assoc, Nat.add_mul_mod_self_left]
 rw [e]
theorem rbit_any (w : World) (A : Option Addr) (n c : Nat) (xs : List Nat) (i : Nat) (h : Lm w A n c xs) (hi : i ≤ 100000000000000) :
  Calls Tryz.prog 147 #[.slice A n c, .int .i64 i] w fun e w' => e = .returned (.bool ((val xs).testBit i)) ∧ w = w' := by
 have hbig := h.big
 have htb := testBit_dig h.ok i
 obtain ⟨k, hk⟩ : ∃ k, k = i / 32 := ⟨_, rfl⟩
 obtain ⟨s, hs⟩ : ∃ s, s = i % 32 := ⟨_, rfl⟩
 rw [← hk, ← hs] at htb
 rw [htb]
 have e1 : (i : Int) / 32 = (k : Int) := by omega
 have e2 : (i : Int) % 32 = (s : Int) := by omega
 have hsb : s < 32 := by omega
 have hkb : k ≤ 100000000000000 := by omega
 clear hk hs htb
 by_cases hlt : k < n
 ·obtain ⟨b, o, rfl, hb, hc0⟩ := h.at_ hlt
  have hc := hc0 k hlt
  clear hc0
  have hx : dig xs k < 4294967296 := h.ok k
  have hq : dig xs k / 2 ^ s < 4294967296 := Nat.lt_of_le_of_lt (Nat.div_le_self _ _) hx
  have hb1 : bits .and .u32 ((dig xs k : Int) / 2 ^ s) 1 = ((dig xs k / 2 ^ s % 2 : Nat) : Int) := by
   rw [shr_cast]
   have := u32_and_nat (dig xs k / 2 ^ s) 1 hq (by omega)
   rw [nat_mask1] at this; exact this
  have htb : (dig xs k).testBit s = decide (dig xs k / 2 ^ s % 2 = 1) := Nat.testBit_eq_decide_div_mod_eq
  rw [htb]
  have h2 : dig xs k / 2 ^ s % 2 = 0 ∨ dig xs k / 2 ^ s % 2 = 1 := by omega
  rcases h2 with h2 | h2
  ·rw [h2] at hb1
   rw [h2]
   clear h2 htb hq
   go_enter Tryz.func147, Tryz.ntmps147
   go_wp2
   go_ret
   exact ⟨rfl, rfl⟩
  ·rw [h2] at hb1
   rw [h2]
   clear h2 htb hq
   go_enter Tryz.func147, Tryz.ntmps147
   go_wp2
   go_ret
   exact ⟨rfl, rfl⟩
 ·have hz : (dig xs k).testBit s = false := by rw [dig_over (by rw [h.len]; omega)]; exact Nat.zero_testBit s
  rw [hz]
  clear hz
  go_enter Tryz.func147, Tryz.ntmps147
  go_wp2
  go_ret
  exact ⟨rfl, rfl⟩
end Go.Proofs.YtnjjfakjnkhhjaaGreatDoor
namespace Go.Proofs.YtnjjfakjnkhhjaaGreatDoor
open Go.RowKit
def SumR (xs ys : List Nat) (k c : Nat) (L : List Nat) : Prop := Ok L ∧ c ≤ 1 ∧ vt (dig L) k + Bs ^ k * c = vt (dig xs) k + vt (dig ys) k
theorem SumR.step {xs ys L : List Nat} {k c : Nat} (hx : Ok xs) (hy : Ok ys) (h : SumR xs ys k c L) (hk : k < L.length) :
  SumR xs ys (k + 1) ((c + dig xs k + dig ys k) / Bs) (L.set k ((c + dig xs k + dig ys k) % Bs)) := by
 obtain ⟨hO, hc, he⟩ := h
 have h1 := hx k
 have h2 := hy k
 refine ⟨hO.set hk (Nat.mod_lt _ Bs_pos), ?_, ?_⟩
 ·rw [Bs_eq] at *; omega
 ·show vt (dig (L.set k _)) k + Bs ^ k * dig (L.set k _) k + _ = _
  rw [vt_congr (e := dig L) k (fun i hi => by rw [dig_set hk, if_neg (by omega)]), dig_set hk, if_pos rfl, Nat.pow_succ]
  exact sum_step he (by rw [Nat.mod_add_div]; omega)
theorem SumR.fin {xs ys L : List Nat} {k d : Nat} (h : SumR xs ys (k + 1) d L) (hx : Ok xs) (hy : Ok ys) (h1 : xs.length ≤ k) (h2 : ys.length ≤ k) (hL : L.length = k + 1) : val L = val xs + val ys := by
 obtain ⟨hO, hc, he⟩ := h
 have e1 : vt (dig L) (k + 1) = val L := val_eq_vt (by omega)
 have e2 : vt (dig xs) (k + 1) = val xs := val_eq_vt (by omega)
 have e3 : vt (dig ys) (k + 1) = val ys := val_eq_vt (by omega)
 rw [e1, e2, e3] at he
 have b1 : val xs < Bs ^ k := Nat.lt_of_lt_of_le (val_lt hx) (Nat.pow_le_pow_right Bs_pos h1)
 have b2 : val ys < Bs ^ k := Nat.lt_of_lt_of_le (val_lt hy) (Nat.pow_le_pow_right Bs_pos h2)
 have hd : d = 0 := by
  rcases Nat.eq_zero_or_pos d with h0 | h0
  ·exact h0
  ·obtain rfl : d = 1 := by omega
   rw [Nat.pow_succ, Nat.mul_one] at he
   have : Bs ^ k * 2 ≤ Bs ^ k * Bs := Nat.mul_le_mul (Nat.le_refl _) (by rw [Bs_eq]; omega)
   omega
 subst hd
 rw [Nat.mul_zero] at he; exact he
theorem radd_any (w : World) (A : Option Addr) (n c : Nat) (xs : List Nat) (A' : Option Addr) (n' c' : Nat) (ys : List Nat) (h : Lm w A n c xs) (h' : Lm w A' n' c' ys) (hn : n ≤ 10000000000) (hn' : n' ≤ 10000000000) :
  Calls Tryz.prog 172 #[.slice A n c, .slice A' n' c'] w (Tells w (val xs + val ys) (max n n' + 1)) := by
 obtain ⟨N, hN1, hN2, hN3, hN4⟩ : ∃ N : Nat, max (n : Int) (n' : Int) = (N : Int) ∧ n ≤ N ∧ n' ≤ N ∧ N ≤ max n n' := ⟨max n n', by omega, by omega, by omega, by omega⟩
 have HL := Lib.hid (And.intro h.len h'.len)
 go_enter Tryz.func172, Tryz.ntmps172
 go_wp2_with
  (at_make
   refine wpList_make_u32 _ rfl _ _ rfl .i64 .i64 _ _ (N + 1) rfl rfl ?_ ?_ ?_ ?_
   ·omega
   ·omega
   ·omega
   intro w1 hown hb1 hs1)
 clear hN1
 go_loopw [7, 8] (fun cr ix wr => ∃ (k d : Nat) (L : List Nat), k ≤ N + 1 ∧ ix = .int .i64 k ∧ cr = .int .u64 d ∧ L.length = N + 1 ∧ Own wr w.heap.size L ∧ SumR xs ys k d L ∧ Below w.heap.size w wr) (fun _ ix _ => N + 1 - (intOf ix).toNat)
 case atStart => exact ⟨0, 0, _, Nat.zero_le _, rfl, rfl, by simp, hown, ⟨Ok.zeros _, by omega, rfl⟩, hb1⟩
 case round =>
  obtain ⟨k, d, L, hk, rfl, rfl, hL0, hO, hS, hB⟩ := hrel
  have hL := Lib.hid hL0
  clear hL0 hown hb1 hs1
  have hlm := h.bel hB
  have hlm' := h'.bel hB
  by_cases hlt : k < N + 1
  ·have hc := hO.cell (i := k) (by rw [hL.out]; omega)
   have hf := hO.free k
   have hd := hS.2.1
   have hx : dig xs k < 4294967296 := h.ok k
   have hy : dig ys k < 4294967296 := h'.ok k
   have hst := Lib.hid (hS.step h.ok h'.ok (by rw [hL.out]; omega))
   obtain ⟨lo, hlo, e1⟩ : ∃ lo, (d + dig xs k + dig ys k) % Bs = lo ∧ ((d : Int) + (dig xs k : Int) + (dig ys k : Int)) % 4294967296 = (lo : Int) := ⟨_, rfl, by rw [Bs_eq]; omega⟩
   obtain ⟨hi', hhi, e2⟩ : ∃ hi', (d + dig xs k + dig ys k) / Bs = hi' ∧ ((d : Int) + (dig xs k : Int) + (dig ys k : Int)) / 4294967296 = (hi' : Int) := ⟨_, rfl, by rw [Bs_eq]; omega⟩
   rw [hlo, hhi] at hst
   clear hlo hhi hS
   go_wp2_with fail
   refine (rat_any _ A n c xs k hlm (by omega)).mono ?_
   rintro e w' ⟨rfl, rfl⟩
   go_wp2_with fail
   refine (rat_any _ A' n' c' ys k hlm' (by omega)).mono ?_
   rintro e w' ⟨rfl, rfl⟩
   go_wp2
   go_roundw
   case rel => exact ⟨k + 1, hi', _, by omega, by go_num, rfl, by simpa using hL.out, hO.set_ k _, hst.out, hB.setCell (Nat.le_refl _) _⟩
   case measure => simp [intOf]; omega
  ·obtain rfl : k = N + 1 := by omega
   have hv := Lib.hid (hS.fin h.ok h'.ok (by rw [HL.out.1]; exact hN2) (by rw [HL.out.2]; exact hN3) hL.out)
   have hl := hO.lm hS.1 (by rw [hL.out]; omega)
   rw [hL.out] at hl
   go_wp2_with fail
   refine (rtrim_lm _ _ _ _ _ hl).mono ?_
   rintro e w' ⟨q, rfl, hq, hqn, rfl⟩
   go_wp2
   go_ret
   exact ⟨_, q, _, rfl, by rw [hv.out] at hq; exact hq, by omega, hB⟩
def DifR (xs ys : List Nat) (k c : Nat) (L : List Nat) : Prop := Ok L ∧ c ≤ 1 ∧ vt (dig L) k + vt (dig ys) k = vt (dig xs) k + Bs ^ k * c
theorem DifR.step {xs ys L : List Nat} {k c : Nat} (hx : Ok xs) (hy : Ok ys) (h : DifR xs ys k c L) (hk : k < L.length) :
  DifR xs ys (k + 1) (brw (dig xs k) (dig ys k) c) (L.set k ((dig xs k + Bs - dig ys k - c) % Bs)) := by
 obtain ⟨hO, hc, he⟩ := h
 have h1 := hx k
 have h2 := hy k
 refine ⟨hO.set hk (Nat.mod_lt _ Bs_pos), brw_le _ _ _, ?_⟩
 show vt (dig (L.set k _)) k + Bs ^ k * dig (L.set k _) k + (vt (dig ys) k + Bs ^ k * dig ys k) = _
 rw [vt_congr (e := dig L) k (fun i hi => by rw [dig_set hk, if_neg (by omega)]), dig_set hk, if_pos rfl, Nat.pow_succ]
 refine dif_step he ?_
 unfold brw
 rw [Bs_eq] at *
 split <;> omega
theorem DifR.fin {xs ys L : List Nat} {k d : Nat} (h : DifR xs ys k d L) (h1 : xs.length = k) (hYX : val ys ≤ val xs) (hy : Ok ys) (hL : L.length = k) (hx : Ok xs) : val L = val xs - val ys := by
 obtain ⟨hO, hc, he⟩ := h
 have e1 : vt (dig xs) k = val xs := val_eq_vt (Nat.le_of_eq h1)
 have e2 : vt (dig ys) k = val ys := by
  rw [vt_mod hy, Nat.mod_eq_of_lt]
  exact Nat.lt_of_le_of_lt hYX (by rw [← h1]; exact val_lt hx)
 have hv : vt (dig L) k = val L := val_eq_vt (Nat.le_of_eq hL)
 have hlt : val L < Bs ^ k := by rw [← hL]; exact val_lt hO
 rw [e1, e2, hv] at he
 have hd : d = 0 := by
  rcases Nat.lt_or_ge d 1 with h0 | h0
  ·omega
  ·obtain rfl : d = 1 := by omega
   rw [Nat.mul_one] at he; omega
 subst hd
 rw [Nat.mul_zero] at he; omega
def TellsSubNew (w : World) (M N len : Nat) (e : Ending) (w' : World) : Prop :=
 (M < N ∧ e = .returned (.tuple #[.slice none 0 0, .bool false]) ∧ Below w.heap.size w w') ∨
 (N ≤ M ∧ ∃ b m c, e = .returned (.tuple #[.slice (some ⟨b, 0, none⟩) m c, .bool true]) ∧ w.heap.size ≤ b ∧ Lm w' (some ⟨b, 0, none⟩) m c (lim (M - N)) ∧ m ≤ len ∧ Below w.heap.size w w')
theorem rsub_new (w : World) (A : Option Addr) (n c : Nat) (xs : List Nat) (A' : Option Addr) (n' c' : Nat) (ys : List Nat) (h : Lm w A n c xs) (h' : Lm w A' n' c' ys) :
  Calls Tryz.prog 191 #[.slice A n c, .slice A' n' c'] w (TellsSubNew w (val xs) (val ys) n) := by
 have hbig := h.big
 have HL := Lib.hid h.len
 have hcmp := Lib.hid (rcmp_any w A n c xs A' n' c' ys h h')
 go_enter Tryz.func191, Tryz.ntmps191
 go_wp2_with fail
 refine hcmp.out.mono ?_
 clear hcmp
 rintro e w0 ⟨rfl, nq, hw0⟩
 have hb0 : Below w.heap.size w w0 := by rw [hw0]; exact below_drewN (Below.refl _ _) nq
 have hm0 : Lm w0 A n c xs := by rw [hw0]; exact h.drewN nq
 have hm0' : Lm w0 A' n' c' ys := by rw [hw0]; exact h'.drewN nq
 have hsz : w0.heap.size = w.heap.size := by rw [hw0]; rfl
 have HSZ := Lib.hid hsz
 clear hw0 hsz h h'
 by_cases hlt : val xs < val ys
 ·rw [cmpN_lt hlt]
  have HLT := Lib.hid hlt
  clear hlt
  go_wp2
  go_ret2
  exact .inl ⟨HLT.out, rfl, hb0⟩
 ·have hge : 0 ≤ cmpN (val xs) (val ys) := by have := cmpN_neg_iff (val xs) (val ys); omega
  generalize cmpN (val xs) (val ys) = q at *
  have HLT := Lib.hid hlt
  clear hlt
  go_wp2_with
   (at_make
    refine wpList_make_u32 _ rfl _ _ rfl .i64 .i64 _ _ n rfl rfl ?_ ?_ ?_ ?_
    ·rfl
    ·rfl
    ·omega
    intro w1 hown hb1 hs1)
  go_loopw [7, 8] (fun cr ix wr => ∃ (k d : Nat) (L : List Nat), k ≤ n ∧ ix = .int .i64 k ∧ cr = .int .u64 d ∧ L.length = n ∧ Own wr w0.heap.size L ∧ DifR xs ys k d L ∧ Below w0.heap.size w0 wr) (fun _ ix _ => n - (intOf ix).toNat)
  case atStart => exact ⟨0, 0, _, Nat.zero_le _, rfl, rfl, by simp, hown, ⟨Ok.zeros _, by omega, rfl⟩, hb1⟩
  case round =>
   obtain ⟨k, d, L, hk, rfl, rfl, hL0, hO, hS, hB⟩ := hrel
   have hL := Lib.hid hL0
   clear hL0 hown hb1 hs1
   have hlm := hm0.bel hB
   have hlm' := hm0'.bel hB
   by_cases hlt : k < n
   ·have hc := hO.cell (i := k) (by rw [hL.out]; omega)
    have hf := hO.free k
    have hd := hS.2.1
    have hx : dig xs k < 4294967296 := hm0.ok k
    have hy : dig ys k < 4294967296 := hm0'.ok k
    have hst := Lib.hid (hS.step hm0.ok hm0'.ok (by rw [hL.out]; omega))
    obtain ⟨Z, hZ, e0⟩ : ∃ Z : Nat, Z = (dig xs k + 18446744073709551616 - dig ys k - d) % 18446744073709551616 ∧ IntKind.u64.wrap (IntKind.u64.wrap ((dig xs k : Int) - (dig ys k : Int)) - (d : Int)) = (Z : Int) := ⟨_, rfl, by rw [IntKind.wrap_u64, IntKind.wrap_u64]; omega⟩
    obtain ⟨lo, hlo, e1⟩ : ∃ lo, (dig xs k + Bs - dig ys k - d) % Bs = lo ∧ (Z : Int) % 4294967296 = (lo : Int) := ⟨_, rfl, by rw [Bs_eq]; omega⟩
    obtain ⟨hi', hhi, e2⟩ : ∃ hi', brw (dig xs k) (dig ys k) d = hi' ∧ (Z : Int) / 9223372036854775808 = (hi' : Int) := ⟨_, rfl, by unfold brw; split <;> omega⟩
    have HZ := Lib.hid hZ
    rw [hlo, hhi] at hst
    clear hlo hhi hS hZ
    go_wp2_with fail
    refine (rat_any _ A n c xs k hlm (by omega)).mono ?_
    rintro e w' ⟨rfl, rfl⟩
    go_wp2_with fail
    refine (rat_any _ A' n' c' ys k hlm' (by omega)).mono ?_
    rintro e w' ⟨rfl, rfl⟩
    go_wp2
    go_roundw
    case rel => exact ⟨k + 1, hi', _, by omega, by go_num, rfl, by simpa using hL.out, hO.set_ k _, hst.out, hB.setCell (Nat.le_refl _) _⟩
    case measure => simp [intOf]; omega
   ·obtain rfl : k = n := by omega
    have hv := Lib.hid (hS.fin HL.out (by have := HLT.out; omega) hm0'.ok hL.out hm0.ok)
    have hl := hO.lm hS.1 (by rw [hL.out]; omega)
    rw [hL.out] at hl
    go_wp2_with fail
    refine (rtrim_lm _ _ _ _ _ hl).mono ?_
    rintro e w' ⟨r, rfl, hr, hrn, rfl⟩
    go_wp2
    go_ret2
    exact .inr ⟨by have := HLT.out; omega, _, r, _, rfl, Nat.le_of_eq HSZ.out.symm, by rw [hv.out] at hr; exact hr, hrn, hb0.trans (hB.mono (by rw [HSZ.out]; exact Nat.le_refl _))⟩
theorem rsub_any (w : World) (A : Option Addr) (n c : Nat) (xs : List Nat) (A' : Option Addr) (n' c' : Nat) (ys : List Nat) (h : Lm w A n c xs) (h' : Lm w A' n' c' ys) :
  Calls Tryz.prog 191 #[.slice A n c, .slice A' n' c'] w (TellsSub w (val xs) (val ys) n) :=
 (rsub_new w A n c xs A' n' c' ys h h').mono fun _ _ ht => ht.elim (fun h => .inl h) fun ⟨h1, _, m, c, h2, _, h4, h5, h6⟩ => .inr ⟨h1, _, m, c, h2, h4, h5, h6⟩
theorem heldN_cast' (n : Int) : max (0 : Int) (min n 100000) = (heldN n : Int) := by unfold heldN; omega
theorem rshl_any (w : World) (A : Option Addr) (m c : Nat) (xs : List Nat) (by_ : Int) (h : Lm w A m c xs) (hm : m ≤ 10000000000) :
  Calls Tryz.prog 169 #[.slice A m c, .int .i64 by_] w (Tells w (val xs * 2 ^ heldN by_) (m + heldN by_ / 32 + 1)) := by
 have hh := heldN_le by_
 have hcast := heldN_cast' by_
 obtain ⟨sk, hsk⟩ : ∃ sk, sk = heldN by_ / 32 := ⟨_, rfl⟩
 obtain ⟨sh, hsh⟩ : ∃ sh, sh = heldN by_ % 32 := ⟨_, rfl⟩
 have e1 : (heldN by_ : Int) / 32 = (sk : Int) := by omega
 have e2 : (heldN by_ : Int) % 32 = (sh : Int) := by omega
 have hskb : sk ≤ 100000 := by omega
 have hshb : sh < 32 := by omega
 have HN : Hid (heldN by_ = 32 * sk + sh) := (by omega : heldN by_ = 32 * sk + sh)
 rw [← hsk]
 clear hsk hsh
 generalize heldN by_ = H at *
 go_enter Tryz.func169, Tryz.ntmps169
 go_wp2_with
  (at_make
   refine wpList_make_u32 _ rfl _ _ rfl .i64 .i64 _ _ (m + sk + 1) rfl rfl ?_ ?_ ?_ ?_
   ·omega
   ·omega
   ·omega
   intro w1 hown hb1 hs1)
 clear hcast
 go_loopw [7] (fun ix wr => ∃ (k : Nat) (L : List Nat), k ≤ m ∧ ix = .int .i64 k ∧ L.length = m + sk + 1 ∧ Own wr w.heap.size L ∧ UpAt xs sk sh k L ∧ Below w.heap.size w wr) (fun ix _ => m - (intOf ix).toNat)
 case atStart => exact ⟨0, _, Nat.zero_le _, rfl, by simp, hown, ⟨Ok.zeros _, fun j _ => dig_zeros _ _, by rw [dig_zeros]; exact Nat.two_pow_pos _, by rw [vt_zero _ (fun j _ => dig_zeros _ _)]; simp [vt]⟩, hb1⟩
 case round =>
  obtain ⟨k, L, hk, rfl, hL0, hO, hS, hB⟩ := hrel
  have hL := Lib.hid hL0
  clear hL0 hown hb1 hs1
  have hlm := h.bel hB
  by_cases hlt : k < m
  ·obtain ⟨b, o, rfl, hb, hc0⟩ := hlm.at_ hlt
   have hx := hc0 k hlt
   clear hc0
   have hc := hO.cell (i := k + sk) (by rw [hL.out]; omega)
   have hf := hO.free (k + sk)
   have hc2 := hO.cell (i := k + sk + 1) (by rw [hL.out]; omega)
   have hf2 := hO.free (k + sk + 1)
   have hxb : dig xs k < 4294967296 := h.ok k
   have hpp : dig xs k * 2 ^ sh < 18446744073709551616 := by
    have h1 : 2 ^ sh ≤ 4294967296 := Nat.pow_le_pow_right (n := 2) (by omega) (by omega : sh ≤ 32)
    have h2 : dig xs k * 2 ^ sh ≤ 4294967295 * 4294967296 := Nat.mul_le_mul (by omega) h1
    omega
   have hP : (dig xs k : Int) * 2 ^ sh = ((dig xs k * 2 ^ sh : Nat) : Int) := by rw [Int.natCast_mul, Int.natCast_pow]; rfl
   have hsp := shl_parts (dig xs k) (Nat.le_of_lt hshb)
   have hol := or_low (dig L (sk + k)) (dig xs k) (Nat.le_of_lt hshb) hS.2.2.1
   rw [hP] at hol
   have hst := Lib.hid (hS.step hshb h.ok (by rw [hL.out]; omega))
   obtain ⟨P, hPe⟩ : ∃ P, P = dig xs k * 2 ^ sh := ⟨_, rfl⟩
   rw [← hPe] at hP hpp hsp hol hst
   obtain ⟨hi', hhi, e4⟩ : ∃ hi', dig xs k / 2 ^ (32 - sh) = hi' ∧ (P : Int) / 4294967296 = (hi' : Int) := ⟨_, rfl, by
    have h1 := hsp.2
    have h2 : P % Bs < 4294967296 := Nat.mod_lt _ Bs_pos
    rw [Bs_eq] at h1 h2
    generalize dig xs k / 2 ^ (32 - sh) = z at *
    omega⟩
   have hhb : hi' < 4294967296 := by rw [← hhi]; exact Nat.lt_of_le_of_lt (Nat.div_le_self _ _) hxb
   rw [hhi] at hst
   obtain ⟨od, hod, e5⟩ : ∃ od, dig L (sk + k) + P % Bs = od ∧ bits .or .u32 (dig L (sk + k) : Int) ((P : Int) % 4294967296) = (od : Int) := ⟨_, rfl, hol.1⟩
   rw [hod] at hst
   rw [Nat.add_comm sk k] at e5
   have HX := Lib.hid (And.intro hPe (And.intro hsp (And.intro hol (And.intro hhi hod))))
   clear hPe hsp hol hhi hod hS
   go_wp2
   refine ⟨⟨k + 1, _, by omega, by go_num, ?_, ?_, hst.out, (hB.setCell (Nat.le_refl _) _).setCell (Nat.le_refl _) _⟩, by simp [intOf]; omega⟩
   ·simpa using hL.out
   ·rw [Nat.add_comm sk k]; exact (hO.set_ _ _).set_ _ _
  ·obtain rfl : k = m := by omega
   have hl := hO.lm hS.1 (by rw [hL.out]; omega)
   rw [hL.out] at hl
   have hv : Hid (val L = val xs * 2 ^ H) := (by
    have hv : val L = vt (dig L) (sk + k + 1) := (val_eq_vt (by rw [hL.out]; omega)).symm
    rw [hv, hS.2.2.2, val_eq_vt (by rw [h.len]; exact Nat.le_refl _), Bs_pow_eq, ← Nat.pow_add, HN.out] : val L = val xs * 2 ^ H)
   go_wp2_with fail
   refine (rtrim_lm _ _ _ _ _ hl).mono ?_
   rintro e w' ⟨r, rfl, hr, hrn, rfl⟩
   go_wp2
   go_ret
   exact ⟨_, r, _, rfl, by rw [hv.out] at hr; exact hr, hrn, hB⟩
end Go.Proofs.YtnjjfakjnkhhjaaGreatDoor
