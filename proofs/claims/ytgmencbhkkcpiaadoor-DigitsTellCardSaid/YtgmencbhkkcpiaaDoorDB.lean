/- Contracts of package digits: number. -/
import Derived.Test.YtgmencbhkkcpiaaDoorDA
import Derived.Deep.RegionHeld3
import Derived.Deep.DeepCutAuto
namespace Go.Proofs.YtgmencbhkkcpiaaDoor
open Go.RowKit

/-- what the first k bytes mean, as decimal digits. -/
def nv (s : ByteArray) : Nat → Nat
  | 0 => 0
  | k + 1 => nv s k * 10 + (byt s k - 48)
def Dgs (s : ByteArray) : Prop := ∀ j, j < s.size → 48 ≤ byt s j ∧ byt s j ≤ 57
abbrev U1 (d : Nat) : Obj := .cells #[.int .u32 (d : Nat)] 49
theorem u1N (w : World) (d : Nat) (hd : d < 100) : Lm (w.alloc (U1 d)) (some ⟨w.heap.size, 0, none⟩) 1 1 [d] := (Own.list w [d]).lm (Ok.of_mem (fun x hx => by rw [Bs_eq]; simp at hx; omega)) (by simp)
theorem szA (w : World) (o : Obj) : (w.alloc o).heap.size = w.heap.size + 1 := Array.size_push ..
theorem u1N1 (w : World) (o : Obj) (d : Nat) (hd : d < 100) : Lm ((w.alloc o).alloc (U1 d)) (some ⟨w.heap.size + 1, 0, none⟩) 1 1 [d] := by
  have h := u1N (w.alloc o) d hd; rw [szA w o] at h; exact h
abbrev U10 : Obj := .cells #[.int .u32 10] 49
theorem u10N (w : World) : Lm (w.alloc U10) (some ⟨w.heap.size, 0, none⟩) 1 1 [10] := u1N w 10 (by decide)
theorem u10N1 (w : World) (o : Obj) : Lm ((w.alloc o).alloc U10) (some ⟨w.heap.size + 1, 0, none⟩) 1 1 [10] := u1N1 w o 10 (by decide)
theorem Lm.alA {w : World} {A : Option Addr} {n c : Nat} {xs : List Nat} (h : Lm w A n c xs) (o : Obj) : Lm (w.alloc o) A n c xs := h.bel (bel_alloc _ _)
theorem u1B0 {w w' : World} {d : Nat} {o : Obj} (h : Below ((w.alloc (U1 d)).alloc o).heap.size ((w.alloc (U1 d)).alloc o) w') (hd : d < 100) : Lm w' (some ⟨w.heap.size, 0, none⟩) 1 1 [d] := ((u1N w d hd).alA _).bel h
theorem u1B1 {w w' : World} {d : Nat} {o : Obj} (h : Below ((w.alloc o).alloc (U1 d)).heap.size ((w.alloc o).alloc (U1 d)) w') (hd : d < 100) : Lm w' (some ⟨w.heap.size + 1, 0, none⟩) 1 1 [d] := (u1N1 w o d hd).bel h
theorem belA1 {w w' : World} {o : Obj} (h : Below (w.alloc o).heap.size (w.alloc o) w') : Below w.heap.size w w' := bel_next (bel_alloc w o) h
theorem belA2 {w w' : World} {o p : Obj} (h : Below ((w.alloc o).alloc p).heap.size ((w.alloc o).alloc p) w') : Below w.heap.size w w' := belA1 (belA1 h)
set_option maxRecDepth 100000 in
set_option maxHeartbeats 4000000 in
theorem number_any (s : ByteArray) (w : World) (hd : Dgs s) (hs : s.size ≤ 1000000) :
    Calls Tryd.prog 16 #[.string s] w (Tells w (nv s s.size) 2000000) := by
  have HD := Lib.hid hd
  clear hd
  go_enter Tryd.func16, Tryd.ntmps16
  go_wp2_with fail
  go_loopw [3, 7] (fun mv ix wr => ∃ (k : Nat) (A : Option Addr) (m c : Nat), k ≤ s.size ∧ ix = .int .i64 k ∧ mv = .slice A m c ∧ m ≤ 2 * k ∧ Lm wr A m c (lim (nv s k)) ∧ Below w.heap.size w wr) (fun _ ix _ => s.size - (intOf ix).toNat)
  case atStart => exact ⟨0, none, 0, 0, Nat.zero_le _, rfl, rfl, Nat.zero_le _, by rw [nv, lim_zero]; exact Lm.nil _, Below.refl _ _⟩
  case round =>
    obtain ⟨k, A, m, c, hk, rfl, rfl, hm, hl, hB⟩ := hrel
    by_cases hlt : k < s.size
    · obtain ⟨N, hN⟩ : ∃ N, nv s k = N := ⟨_, rfl⟩
      rw [hN] at hl
      have hdk := HD.out k hlt
      obtain ⟨d, hdd⟩ : ∃ d, byt s k - 48 = d := ⟨_, rfl⟩
      have hd10 : d < 100 := by omega
      have eb := byt_get s k hlt
      have hsub : IntKind.u8.wrap ((s[k].toNat : Int) - 48) = (d : Int) := by rw [IntKind.wrap_u8, eb]; omega
      have hcv : IntKind.u32.wrap (d : Int) = (d : Int) := IntWalk.u32_in _ (by omega)
      have HN : Hid (nv s (k + 1) = N * 10 + d) := (by rw [nv, hN, hdd] : nv s (k + 1) = N * 10 + d)
      clear hN hdk hdd eb
      go_upto_region 5 with (fail)
      go_region_held3 (fun _ => True)
          (trivial)
          (first
            | (go_at_call 32; refine (mul_any _ A m c (lim N) _ 1 1 [10] ?_ ?_ ?_ ?_).mono ?_; (focus repeat' (first | with_reducible exact hl | with_reducible refine Lm.drew ?_ | with_reducible refine Lm.alA ?_ _)); (focus repeat' (first | with_reducible refine Lm.drew ?_ | with_reducible exact u10N _ | with_reducible exact u10N1 _ _ | with_reducible refine Lm.alA ?_ _)); (clear hsub hcv; omega); omega; rintro e x1 ⟨A1, m1, c1, rfl, h1, hm1, e1⟩; rw [val_lim, val_single] at h1; have hc := bel_undrew e1; have q1 : Below wr.heap.size wr x1 := (by first | with_reducible exact hc | with_reducible exact belA1 hc | with_reducible exact belA2 hc); (first | with_reducible have ld := u1B0 (d := d) hc hd10 | with_reducible have ld := u1B1 (d := d) hc hd10 | skip))
            | (go_at_call 31; refine (add_any _ A1 m1 c1 (lim (N * 10)) _ 1 1 [d] ?_ ?_ ?_ ?_).mono ?_; (focus repeat' (first | with_reducible exact h1 | with_reducible refine Lm.alA ?_ _)); (focus repeat' (first | with_reducible assumption | with_reducible exact u1N _ d hd10 | with_reducible refine Lm.alA ?_ _)); (clear hsub hcv; omega); omega; rintro e x2 ⟨A2, m2, c2, rfl, h2, hm2, e2⟩; rw [val_lim, val_single] at h2; have q2 : Below x1.heap.size x1 x2 := (by first | with_reducible exact e2 | with_reducible exact belA1 e2)))
      all_goals
        clear hsub hcv
        have hB2 := bel_next hB (bel_next q1 q2)
        go_wp2
        go_roundw
        case rel => exact ⟨k + 1, _, _, _, by omega, by go_num, rfl, by omega, by rw [HN.out]; exact h2, hB2⟩
        case measure => simp [intOf]; omega
    · obtain rfl : k = s.size := by omega
      go_wp2
      go_ret
      exact ⟨_, _, _, rfl, hl, by omega, hB⟩
end Go.Proofs.YtgmencbhkkcpiaaDoor
