/-
  place: within, Check and the reference's.
-/
import Derived.Test.YthkpofopcnapdaaRows
import Derived.WalkKit
import Derived.WalkSpells
import Derived.WalkLawsBesides
import Derived.Lib.Hide
namespace Go.Proofs.Ythkpofopcnapdaa
open Go.RowKit

theorem ret_int {k : IntKind} {a b : Int} (h : a = b) : Ending.returned (.int k a) = .returned (.int k b) := by rw [h]
theorem ret_bool {a b : Bool} (h : a = b) : Ending.returned (.bool a) = .returned (.bool b) := by rw [h]

set_option maxRecDepth 10000 in
set_option maxHeartbeats 400000 in
theorem within_yes (n f l : Int) (w : World) (h : f ≤ n ∧ n ≤ l) :
    Calls Try.prog 18 #[.int .i64 n, .int .i64 f, .int .i64 l] w fun e w' => e = .returned (.bool true) ∧ w = w' := by
  obtain ⟨h1, h2⟩ := h
  go_enter Try.func18, Try.ntmps18
  go_wp2
  go_ret
  exact ⟨rfl, rfl⟩
set_option maxRecDepth 10000 in
set_option maxHeartbeats 400000 in
theorem within_no (n f l : Int) (w : World) (h : n < f ∨ l < n) :
    Calls Try.prog 18 #[.int .i64 n, .int .i64 f, .int .i64 l] w fun e w' => e = .returned (.bool false) ∧ w = w' := by
  by_cases h1 : f ≤ n
  · have h2 : l < n := by omega
    go_enter Try.func18, Try.ntmps18
    go_wp2
    go_ret
    exact ⟨ret_bool (decide_eq_false (by omega)), rfl⟩
  · go_enter Try.func18, Try.ntmps18
    go_wp2
    go_ret
    exact ⟨rfl, rfl⟩

/-- is it a right config? -/
def Good (n u r c t s : Int) : Prop := 1 ≤ n ∧ n ≤ 8 ∧ 1 ≤ u ∧ u ≤ n ∧ 1 ≤ r ∧ r ≤ n ∧ n < u + r ∧ 1 ≤ c ∧ c ≤ 4 ∧ 1 ≤ t ∧ t ≤ 64 ∧ 1 ≤ s ∧ s ≤ 512
instance (n u r c t s : Int) : Decidable (Good n u r c t s) := by unfold Good; infer_instance
def chk (n u r c t s : Int) : Int := if Good n u r c t s then 0 else 130
theorem chk_bad {n u r c t s : Int} (h : ¬ Good n u r c t s) : chk n u r c t s = 130 := if_neg h
theorem chk_good {n u r c t s : Int} (h : Good n u r c t s) : chk n u r c t s = 0 := if_pos h
def cfg (n u r c t s : Int) : Value := .agg #[.int .i64 n, .int .i64 u, .int .i64 r, .int .i64 c, .int .i64 t, .int .i64 s]

end Go.Proofs.Ythkpofopcnapdaa
