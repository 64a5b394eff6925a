import Derived.Test.YtkfojbelnemhbaaGreatDoorXc
set_option linter.all false
namespace Go.Proofs.YtkfojbelnemhbaaGreatDoor.Ev
open Go Go.RowKit
variable {G : World → Prop}
def s_nAdd : FnSpec := sp2 (.one .L) (fun x y => okL x ∧ okL y) (fun x y _ => ((dl x).toNat + (dl y).toNat : Nat)) (fun _ _ _ => false)
theorem good_nAdd : Good Tryz.prog G N0 252 s_nAdd := by
 refine ⟨callable (by kernel_rfl), fun ds hp => ?_⟩
 obtain ⟨x, y, rfl, hx, hy⟩ := sp2_arg hp
 obtain ⟨n, cs, rfl, hc⟩ := okL_arg hx
 obtain ⟨m, es, rfl, he⟩ := okL_arg hy
 refine s_LL hc he fun X w A c A' c' hG hX hl hl' => ?_
 have hn := hc.2.2.2
 have hm := he.2.2.2
 exact (add_any w A n c (nums cs) A' m c' (nums es) hl hl' (by omega) (by omega)).mono fun _ _ h => (fun h => tellsL h hX) h
def s_nMul : FnSpec := sp2 (.one .L) (fun x y => okL x ∧ okL y) (fun x y _ => ((dl x).toNat * (dl y).toNat : Nat)) (fun _ _ _ => false)
theorem good_nMul : Good Tryz.prog G N0 223 s_nMul := by
 refine ⟨callable (by kernel_rfl), fun ds hp => ?_⟩
 obtain ⟨x, y, rfl, hx, hy⟩ := sp2_arg hp
 obtain ⟨n, cs, rfl, hc⟩ := okL_arg hx
 obtain ⟨m, es, rfl, he⟩ := okL_arg hy
 refine s_LL hc he fun X w A c A' c' hG hX hl hl' => ?_
 have hn := hc.2.2.2
 have hm := he.2.2.2
 exact (mul_any w A n c (nums cs) A' m c' (nums es) hl hl' (by omega) (by omega)).mono fun _ _ h => (fun h => tellsL h hX) h
def s_nSub : FnSpec := sp2 (.tup [(false, [.L]), (false, [.b])]) (fun x y => okL x ∧ okL y) (fun x y _ => ((dl x).toNat - (dl y).toNat : Nat)) (fun x y _ => decide ((dl y).toNat ≤ (dl x).toNat))
theorem good_nSub : Good Tryz.prog G N0 253 s_nSub := by
 refine ⟨callable (by kernel_rfl), fun ds hp => ?_⟩
 obtain ⟨x, y, rfl, hx, hy⟩ := sp2_arg hp
 obtain ⟨n, cs, rfl, hc⟩ := okL_arg hx
 obtain ⟨m, es, rfl, he⟩ := okL_arg hy
 refine s_LL hc he fun X w A c A' c' hG hX hl hl' => ?_
 have hn := hc.2.2.2
 have hm := he.2.2.2
 exact (sub_any w A n c (nums cs) A' m c' (nums es) hl hl').mono fun _ _ h => (fun h => tellsSub h hX) h
def s_nDiv : FnSpec := sp2 (.tup [(false, [.L]), (false, [.L]), (false, [.b])]) (fun x y => okL x ∧ okL y) (fun x y i => match i with | 0 => ((dl x).toNat / (dl y).toNat : Nat) | _ => (if (dl y).toNat = 0 then 0 else (dl x).toNat % (dl y).toNat : Nat)) (fun x y _ => decide ((dl y).toNat ≠ 0))
def s_nCmp : FnSpec := sp2 (.one (.i .i64)) (fun x y => okL x ∧ okL y) (fun x y _ => cmpN (dl x).toNat (dl y).toNat) (fun _ _ _ => false)
theorem good_nCmp : Good Tryz.prog G N0 219 s_nCmp := by
 refine ⟨callable (by kernel_rfl), fun ds hp => ?_⟩
 obtain ⟨x, y, rfl, hx, hy⟩ := sp2_arg hp
 obtain ⟨n, cs, rfl, hc⟩ := okL_arg hx
 obtain ⟨m, es, rfl, he⟩ := okL_arg hy
 refine s_LL hc he fun X w A c A' c' hG hX hl hl' => ?_
 have hn := hc.2.2.2
 have hm := he.2.2.2
 exact (cmp_any w A n c (nums cs) A' m c' (nums es) hl hl').mono fun _ _ h => (fun ⟨he, nq, hw⟩ => by subst hw; exact tellsi ⟨he, below_drewN (Below.refl _ _) nq⟩) h
def s_nShl : FnSpec := sp2 (.one .L) (fun x y => okL x ∧ isi .i64 y) (fun x y _ => ((dl x).toNat * 2 ^ heldN (dz y) : Nat)) (fun _ _ _ => false)
theorem good_nShl : Good Tryz.prog G N0 259 s_nShl := by
 refine ⟨callable (by kernel_rfl), fun ds hp => ?_⟩
 obtain ⟨x, y, rfl, hx, hy⟩ := sp2_arg hp
 obtain ⟨n, cs, rfl, hc⟩ := okL_arg hx
 obtain ⟨k, rfl⟩ := isi_arg hy
 refine s_Li hc fun X w A c hG hX hl => ?_
 have hn := hc.2.2.2
 exact (shl_any w A n c (nums cs) k hl (by omega)).mono fun _ _ h => (fun h => tellsL h hX) h
def s_nShr : FnSpec := sp2 (.one .L) (fun x y => okL x ∧ isi .i64 y) (fun x y _ => ((dl x).toNat / 2 ^ heldN (dz y) : Nat)) (fun _ _ _ => false)
theorem good_nShr : Good Tryz.prog G N0 260 s_nShr := by
 refine ⟨callable (by kernel_rfl), fun ds hp => ?_⟩
 obtain ⟨x, y, rfl, hx, hy⟩ := sp2_arg hp
 obtain ⟨n, cs, rfl, hc⟩ := okL_arg hx
 obtain ⟨k, rfl⟩ := isi_arg hy
 refine s_Li hc fun X w A c hG hX hl => ?_
 have hn := hc.2.2.2
 exact (shr_any w A n c (nums cs) k hl (by omega)).mono fun _ _ h => (fun h => tellsL h hX) h
end Go.Proofs.YtkfojbelnemhbaaGreatDoor.Ev
