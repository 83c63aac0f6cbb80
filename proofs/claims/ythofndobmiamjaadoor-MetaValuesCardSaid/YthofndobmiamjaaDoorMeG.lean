/-
  meta: Earlier, Next; the laws' 'alive'.
-/
import Derived.Test.YthofndobmiamjaaDoorMeF
namespace Go.Proofs.YthofndobmiamjaaDoor
open Go.RowKit

theorem ret_boolM {a b : Bool} (h : a = b) : Ending.returned (.bool a) = .returned (.bool b) := by rw [h]
/-- is the one tag earlier? -/
def lt (a b : Int × Int) : Prop := a.1 < b.1 ∨ a.1 = b.1 ∧ a.2 < b.2
instance (a b : Int × Int) : Decidable (lt a b) := by unfold lt; infer_instance
def tagV (a : Int × Int) : Value := .agg #[.int .i64 a.1, .int .i64 a.2]

set_option maxRecDepth 10000 in
set_option maxHeartbeats 1000000 in
theorem earlier_any (n c m d : Int) (w : World) : Calls Tryd.prog 36 #[.agg #[.int .i64 n, .int .i64 c], .agg #[.int .i64 m, .int .i64 d]] w fun e w' => e = .returned (.bool (decide (lt (n, c) (m, d)))) ∧ Below w.heap.size w w' := by
  have hbF : ∀ o p : Obj, Below w.heap.size w ((w.alloc o).alloc p) := fun o p => (below_alloc w o).alloc (by simp) p
  by_cases h1 : n < m
  · go_enter Tryd.func36, Tryd.ntmps36
    go_wp2
    go_ret
    exact ⟨ret_boolM (decide_eq_true (Or.inl h1)).symm, hbF _ _⟩
  · by_cases h2 : n = m
    · subst h2
      by_cases h3 : c < d
      · go_enter Tryd.func36, Tryd.ntmps36
        go_wp2
        go_ret
        exact ⟨ret_boolM (by rw [decide_eq_true (show lt (n, c) (n, d) from Or.inr ⟨rfl, h3⟩)]), hbF _ _⟩
      · have h4 : d ≤ c := by omega
        go_enter Tryd.func36, Tryd.ntmps36
        go_wp2
        go_ret
        exact ⟨ret_boolM (by rw [decide_eq_false (show ¬ lt (n, c) (n, d) from fun h => by simp only [lt] at h; omega)]), hbF _ _⟩
    · have h3 : m < n := by omega
      have h4 : (n == m) = false := by simpa using h2
      go_enter Tryd.func36, Tryd.ntmps36
      go_wp2
      go_ret
      exact ⟨ret_boolM (by rw [decide_eq_false (show ¬ lt (n, c) (m, d) from fun h => by simp only [lt] at h; omega)]), hbF _ _⟩

def nextN (n : Int) : Int := min (max n 0) 2147483647 + 1
theorem loadVar_tag (w : World) (g : Nat) (cs : Array Value) (hg : w.heap[g]? = some (.cells cs 34 (0, 0))) (hs : cs.size = 2) : (loadVar 34 ⟨g, 0, none⟩).run Tryd.prog w = .ok (.agg cs) w :=
  run_loadVar_row w g 34 34 cs (0, 0) _ hg Tryd.underlying34 rfl (by rw [hs]; kernel_rfl)
theorem results_next (tmps : Array Value) (w : World) (g : Nat) (cs : Array Value) (hp : tmps.getD 4 undef = .pointer (some ⟨g, 0, none⟩)) (hg : w.heap[g]? = some (.cells cs 34 (0, 0))) (hs : cs.size = 2) :
    (results Tryd.f37 tmps).run Tryd.prog w = .ok (.agg cs) w := by
  have hp' : tmps[4]?.getD undef = .pointer (some ⟨g, 0, none⟩) := by simpa using hp
  simp [results, Tryd.results37, hp', asAddr, loadVar_tag w g cs hg hs]
theorem two_allocM (w : World) (A B : Obj) : ((w.alloc A).alloc B).heap[w.heap.size + 1]? = some B := by
  have := heap_alloc_new (w.alloc A) B
  simpa using this

set_option maxRecDepth 10000 in
set_option maxHeartbeats 1000000 in
theorem next_any (n c k : Int) (w : World) : Calls Tryd.prog 37 #[.agg #[.int .i64 n, .int .i64 c], .int .i64 k] w fun e w' => e = .returned (.agg #[.int .i64 (nextN n), .int .i64 k]) ∧ Below w.heap.size w w' := by
  have hbF : ∀ o p : Obj, Below w.heap.size w ((w.alloc o).alloc p) := fun o p => (below_alloc w o).alloc (by simp) p
  rcases (by omega : n < 0 ∨ 2147483647 < n ∨ (0 ≤ n ∧ n ≤ 2147483647)) with h | h | h
  · rw [show nextN n = 1 by unfold nextN; omega]
    go_enter Tryd.func37, Tryd.ntmps37
    go_wp2
    exact bodyPost_ret (v := .agg #[.int .i64 1, .int .i64 k]) (results_next _ _ _ _ rfl (two_allocM _ _ _) rfl) rfl ⟨rfl, hbF _ _⟩
  · rw [show nextN n = 2147483648 by unfold nextN; omega]
    go_enter Tryd.func37, Tryd.ntmps37
    go_wp2
    exact bodyPost_ret (v := .agg #[.int .i64 2147483648, .int .i64 k]) (results_next _ _ _ _ rfl (two_allocM _ _ _) rfl) rfl ⟨rfl, hbF _ _⟩
  · rw [show nextN n = n + 1 by unfold nextN; omega]
    obtain ⟨h1, h2⟩ := h
    go_enter Tryd.func37, Tryd.ntmps37
    go_wp2
    exact bodyPost_ret (v := .agg #[.int .i64 (n + 1), .int .i64 k]) (results_next _ _ _ _ rfl (two_allocM _ _ _) rfl) rfl ⟨rfl, hbF _ _⟩
end Go.Proofs.YthofndobmiamjaaDoor
