/- Contracts of package whole: Div, whole. -/
import Derived.Test.YtopkndkicdgafaaDoorWJ0
import Derived.Test.YtopkndkicdgafaaDoorWJ1
import Derived.Test.YtopkndkicdgafaaDoorWJ2
import Derived.Test.YtopkndkicdgafaaDoorWJ3
import Derived.Deep.RegionHeld3
namespace Go.Proofs.YtopkndkicdgafaaDoor
open Go.RowKit

theorem wdiv_any (w : World) (sa : Bool) (Aa : Option Addr) (na ca : Nat) (xa : List Nat) (La : Lm w Aa na ca xa) (sb : Bool) (Ab : Option Addr) (nb cb : Nat) (xb : List Nat) (Lb : Lm w Ab nb cb xb) (hT : ProductsT w) (hna : na ≤ 1000000000) (hnb : nb ≤ 1000000000) {t : Bool} (ht : decide (sgn sb (val xb) ≠ 0) = t) :
    Calls Tryd.prog 46 #[.agg #[.bool sa, .slice Aa na ca], .agg #[.bool sb, .slice Ab nb cb]] w (TellsD w (sgn sa (val xa)) (sgn sb (val xb)) (na + 2) (max na nb) t) := by
  subst ht
  rcases sg_cases (sgn sb (val xb)) with ⟨h', e'⟩ | ⟨h', e'⟩ | ⟨h', e'⟩
  case inr.inl =>
    rw [decide_eq_false (fun c => c h')]
    exact (wdiv_no w sa Aa na ca xa La sb Ab nb cb xb Lb hna ((sgn_eq_zero _ _).1 h')).mono fun _ _ ⟨A, m, c, A', m', c', h1, h2, h3, h4, h5, h6⟩ => ⟨A, m, c, A', m', c', h1, h2, h3, by omega, h5, h6⟩
  all_goals
    rw [decide_eq_true (show sgn sb (val xb) ≠ 0 from by omega)]
    by_cases hr : val xa % val xb = 0
    all_goals rcases sg_cases (sgn sa (val xa)) with ⟨h, e⟩ | ⟨h, e⟩ | ⟨h, e⟩
  · exact wdiv_mm w sa Aa na ca xa La sb Ab nb cb xb Lb e e' hT hna hnb
  · exact wdiv_zm w sa Aa na ca xa La sb Ab nb cb xb Lb e e' hT hna hnb
  · exact wdiv_pmz w sa Aa na ca xa La sb Ab nb cb xb Lb e e' hT hna hnb hr
  · exact wdiv_mm w sa Aa na ca xa La sb Ab nb cb xb Lb e e' hT hna hnb
  · exact wdiv_zm w sa Aa na ca xa La sb Ab nb cb xb Lb e e' hT hna hnb
  · exact wdiv_pmr w sa Aa na ca xa La sb Ab nb cb xb Lb e e' hT hna hnb hr
  · exact wdiv_mpz w sa Aa na ca xa La sb Ab nb cb xb Lb e e' hT hna hnb hr
  · exact wdiv_zp w sa Aa na ca xa La sb Ab nb cb xb Lb e e' hT hna hnb
  · exact wdiv_pp w sa Aa na ca xa La sb Ab nb cb xb Lb e e' hT hna hnb
  · exact wdiv_mpr w sa Aa na ca xa La sb Ab nb cb xb Lb e e' hT hna hnb hr
  · exact wdiv_zp w sa Aa na ca xa La sb Ab nb cb xb Lb e e' hT hna hnb
  · exact wdiv_pp w sa Aa na ca xa La sb Ab nb cb xb Lb e e' hT hna hnb
end Go.Proofs.YtopkndkicdgafaaDoor
