/- What an argument that is a slice of uint32 reads as. -/
import Derived.Test.YtopkndkicdgafaaDoorWord
import Derived.OpenShut
namespace Go.Proofs.YtopkndkicdgafaaDoor
open Go.RowKit

/-- The slice that came in: its elements are the digits xs. -/
def Arg (w : World) (A : Option Addr) (n c : Nat) (xs : List Nat) : Prop :=
  (xs.length = n ∧ n ≤ c) ∧ Ok xs ∧ (0 < n → ∃ b o, A = some ⟨b, o, none⟩ ∧ b < w.heap.size ∧ ∀ j, j < n → w.cell? ⟨b, o + j, none⟩ = some (d32 (dig xs j)))
theorem Arg.lm {w : World} {A : Option Addr} {n c : Nat} {xs : List Nat} (h : Arg w A n c xs) (hn : n ≤ 1000000000000) : Lm w A n c xs := ⟨⟨h.1.1, h.1.2, hn⟩, h.2.1, h.2.2⟩
theorem Arg.none (w : World) : Arg w none 0 0 [] := ⟨⟨rfl, Nat.le_refl _⟩, fun i => by rw [dig_nil]; exact Bs_pos, fun h => absurd h (by omega)⟩
theorem Arg.of_ints {w : World} {x : Addr} {l c : Nat} {zs : List Int} (hl : l ≤ c) (hz : zs.length = c) (hcell : ∀ i, i < zs.length → w.cell? (x.add i) = some (.int .u32 (zs.getD i 0))) (hwf : ∀ n ∈ zs, (Lit.int .u32 n).wf = true) :
    Arg w (some x) l c ((zs.take l).map Int.toNat) := by
  have hln : (zs.take l).length = l := by rw [List.length_take]; omega
  have hd : ∀ j, j < l → ((dig ((zs.take l).map Int.toNat) j : Nat) : Int) = zs.getD j 0 ∧ dig ((zs.take l).map Int.toNat) j < Bs := fun j hj => by
    have hj2 : j < zs.length := by omega
    have e : dig ((zs.take l).map Int.toNat) j = (zs[j]).toNat := by
      rw [dig_get (by rw [List.length_map, hln]; exact hj)]
      simp
    have hb := bounds_u32 (hwf zs[j] (List.getElem_mem hj2))
    rw [e, List.getD_eq_getElem?_getD, List.getElem?_eq_getElem hj2, Bs_eq]
    simp only [Option.getD_some]
    omega
  refine ⟨⟨by rw [List.length_map, hln], hl⟩, fun i => ?_, fun hn => ?_⟩
  · by_cases hi : i < l
    · exact (hd i hi).2
    · rw [dig_over (by rw [List.length_map, hln]; omega)]; exact Bs_pos
  · obtain ⟨b, off, rfl, hc⟩ := ints_at hcell (by omega)
    refine ⟨b, off, rfl, ?_, fun j hj => ?_⟩
    · have h0 := hc 0 (by omega)
      apply Nat.lt_of_not_le
      intro cc
      unfold World.cell? at h0
      rw [Array.getElem?_eq_none cc] at h0
      cases h0
    · rw [hc j (by omega), ← (hd j hj).1]
end Go.Proofs.YtopkndkicdgafaaDoor
