/-
  The reference of the judge: its search, whole.
-/
import Derived.Test.YtnefcbcioemfiaaJeJ
namespace Go.Proofs.Ytnefcbcioemfiaa
open Go Go.RowKit

theorem more_any (aa : Option Addr) (an ac : Nat) (xs : List ActR) (hn : an ≤ 1000000) (hst : ∀ a ∈ xs, stepBad a = false) : ∀ (N : Nat) (P : List Nat) (pa : Option Addr) (pn pc : Nat) (last : Int) (w : World), P.length ≤ N → ActsV w aa an xs → IntsV w (pa, pn, pc) (cnL P) → (∀ p ∈ P, p < an) → last < (an : Int) → pn ≤ 1000000 →
    Calls Try.prog 38 #[.slice aa an ac, .slice pa pn pc, .int .i64 last] w (MoreR xs P last w) := by
  intro N
  induction N with
  | zero =>
    intro P pa pn pc last w hN h hP hpa hla hpn
    exact more_step aa an ac xs P pa pn pc last w h hn hP hpa hst hla hpn fun P' _ _ _ _ _ hlt => absurd hlt (by omega)
  | succ N ih =>
    intro P pa pn pc last w hN h hP hpa hla hpn
    exact more_step aa an ac xs P pa pn pc last w h hn hP hpa hst hla hpn fun P' pa' pn' pc' last' w' hlt h' hP' hpa' hla' hpn' => ih P' pa' pn' pc' last' w' (by omega) h' hP' hpa' hla' hpn'
end Go.Proofs.Ytnefcbcioemfiaa
