/- Package digits: Parse as a function over data. -/
import Derived.Test.YtgmencbhkkcpiaaDoorDC
import Derived.Test.YtgmencbhkkcpiaaDoorEt1
namespace Go.Proofs.YtgmencbhkkcpiaaDoor.Ev
open Go Go.RowKit
set_option linter.unusedSimpArgs false
set_option linter.unusedVariables false
/-- where a text stops being a number, and why. -/
def fau (s : ByteArray) : Nat × Int := match (List.range s.size).find? (fun j => decide (frm s ≤ j) && !stb s (frm s) j) with
  | some p => (p, 14)
  | none => (s.size, if frm s = s.size then 15 else 0)
theorem fau_is {s : ByteArray} {p : Nat} {e : Int} (h : Fault s p e) : fau s = (p, e) := by
  unfold fau
  rcases h with ⟨h1, h2, h3, h4, h5⟩ | ⟨h1, h2, h3⟩
  · have : (List.range s.size).find? (fun j => decide (frm s ≤ j) && !stb s (frm s) j) = some p := by
      rw [List.find?_range_eq_some]
      refine ⟨by rw [h4]; simp [h2], by simpa using h1, fun j hj => ?_⟩
      by_cases hf : frm s ≤ j
      · rw [h3 j hf hj]; simp
      · simp [hf]
    rw [this, h5]
  · have : (List.range s.size).find? (fun j => decide (frm s ≤ j) && !stb s (frm s) j) = none := by
      rw [List.find?_eq_none]
      intro j hj
      have hj' : j < s.size := by simpa using hj
      by_cases hf : frm s ≤ j
      · rw [h1 j hf hj']; simp
      · simp [hf]
    rw [this, h2, h3]
def s_gParse : FnSpec := ⟨.tup [(true, [.I]), (false, [.i .i64]), (false, [.i .i64])], fun ds => match ds with | [.str t] => t.size ≤ maxLen | _ => False, fun ds i => match ds with | [.str t] => (match i with | 0 => (if (fau t).2 = 0 then zs t else 0) | 1 => ((fau t).1 : Int) | _ => (fau t).2) | _ => 0, fun _ _ => false, fun _ _ => 0, fun _ _ => []⟩
theorem gparse_arg {ds : List D} (h : s_gParse.p ds) : ∃ t, ds = [.str t] ∧ t.size ≤ maxLen := by
  match ds, h with
  | [.str t], h => exact ⟨t, rfl, h⟩
theorem argS {w : World} {X : Nat → Prop} {t : ByteArray} {ds : List D} {vs : List Value} (h : denL ⟨w, X, fun _ => none⟩ (.str t :: ds) vs) : ∃ us, vs = .string t :: us ∧ denL ⟨w, X, fun _ => none⟩ ds us := by
  simp only [denL] at h
  obtain ⟨v, us, rfl, hv, hd⟩ := h
  simp only [den] at hv
  exact ⟨us, by rw [hv], hd⟩
theorem good_gParse {G : World → Prop} : Good Tryd.prog G N0 6 s_gParse := by
  refine ⟨callable (by kernel_rfl), fun ds hp => ?_⟩
  obtain ⟨t, rfl, ht⟩ := gparse_arg hp
  intro X w vs hG hX hd
  obtain ⟨us, rfl, hd2⟩ := argS hd
  obtain rfl := arg0 hd2
  refine (parse_any t w ht).mono ?_
  rintro e w' ⟨p, er, hF, A, m, c, rfl, hl, hm, hb⟩
  have hf := fau_is hF
  refine ⟨_, _, rfl, rfl, ?_, hb⟩
  have hz : (s_gParse.z [.str t] 0) = (if er = 0 then zs t else 0) := by show (if (fau t).2 = 0 then zs t else 0) = _; rw [hf]
  show den _ (.tup [.agg [.bool (N0.neg (s_gParse.z [.str t] 0)), .sl (N0.ln (s_gParse.z [.str t] 0)) (N0.lm (s_gParse.z [.str t] 0))], .int .i64 ((fau t).1 : Int), .int .i64 (fau t).2]) _
  rw [hz, hf]
  have hden := den_of_lm (ρ := fun _ => none) hl (own_bel hX hb)
  simp only [den, denL] at hden ⊢
  exact ⟨_, rfl, _, _, rfl, ⟨_, rfl, _, _, rfl, rfl, _, _, rfl, hden, rfl⟩, _, _, rfl, rfl, _, _, rfl, rfl, rfl⟩
end Go.Proofs.YtgmencbhkkcpiaaDoor.Ev
