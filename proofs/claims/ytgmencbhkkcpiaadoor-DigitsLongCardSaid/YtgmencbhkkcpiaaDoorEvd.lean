/- Dyads: the functions of the package. -/
import Derived.Test.YtgmencbhkkcpiaaDoorXc
namespace Go.Proofs.YtgmencbhkkcpiaaDoor.Ev
open Go Go.RowKit
set_option linter.unusedSimpArgs false
set_option linter.unusedVariables false
def dx : D → Int | .agg [_, _, .int _ e] => e | _ => 0
theorem okC_fitN {z : Int} {k : Nat} (h : Fit z k) (hk : k ≤ 3200000) : okC (N0.ln z) (N0.lm z) := okC_N0 (h.ln (by omega))
theorem dm_N0 (z : Int) (r : List D) : dm (.agg (.bool (N0.neg z) :: .sl (N0.ln z) (N0.lm z) :: r)) = z := vI_N0 z
theorem dm_raw (s : Bool) (n : Nat) (cs r : List D) : dm (.agg (.bool s :: .sl n cs :: r)) = vI s cs := rfl
theorem wrap_in {z : Int} (h1 : -9223372036854775808 ≤ z) (h2 : z ≤ 9223372036854775807) : IntKind.i64.wrap z = z := IntWalk.i64_in _ (by omega)
theorem Post.b {Q : Post} {a b : Bool} (h : Q.R (.bool a)) (hab : a = b) : Q.R (.bool b) := hab ▸ h
theorem Post.i {Q : Post} {k : IntKind} {a b : Int} (h : Q.R (.int k a)) (hab : a = b) : Q.R (.int k b) := hab ▸ h
theorem Post.d {Q : Post} {m m' e e' : Int} (h : Q.R (.agg [.bool (N0.neg m), .sl (N0.ln m) (N0.lm m), .int .i64 e])) (hm : m = m') (he : e = e') : Q.R (.agg [.bool (N0.neg m'), .sl (N0.ln m') (N0.lm m'), .int .i64 e']) := by
  subst hm he; exact h
end Go.Proofs.YtgmencbhkkcpiaaDoor.Ev
