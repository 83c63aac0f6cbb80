/-
  tuple: Tuple.
-/
import Derived.Test.YtlmnijcocfjpoaaDoorTuE
import Derived.Deep.RegionHeld3
namespace Go.Proofs.YtlmnijcocfjpoaaDoor
open Go.RowKit

/-- one tuple's numbers, y and x being mixed, over a code's W and P1. -/
def tupD (y W : Int) : Int := degS (rz y 0 % 1048576) W
def tupD1 (y x W : Int) : Int := if tupD y W < 4 then 2 + rz x 3 % 2 else 2
def tupV (y x W P1 : Int) : Value := .agg #[.int .i64 (tupD y W), .int .i64 (1 + rz y 1 % (W - 1)), .int .i64 (rz y 2 % W), .int .i64 (tupD1 y x W), .int .i64 (1 + rz x 4 % (P1 - 1)), .int .i64 (rz x 5 % P1)]
def tupZ : Value := .agg #[.int .i64 0, .int .i64 0, .int .i64 0, .int .i64 0, .int .i64 0, .int .i64 0]
def tupZs : Array Value := #[.int .i64 0, .int .i64 0, .int .i64 0, .int .i64 0, .int .i64 0, .int .i64 0]
theorem one6 (a b c d e f : Int) : (#[Value.int .i64 a, .int .i64 b, .int .i64 c, .int .i64 d, .int .i64 e, .int .i64 f].all (·.oneCell')) = true := by simp [Value.oneCell']
theorem loadVar_tup (w : World) (g : Nat) (cs : Array Value) (hg : w.heap[g]? = some (.cells cs 33 (0, 0))) (hs : cs.size = 6) : (loadVar 33 ⟨g, 0, none⟩).run Tryd.prog w = .ok (.agg cs) w :=
  run_loadVar_row w g 33 33 cs (0, 0) _ hg Tryd.underlying33 rfl (by rw [hs]; kernel_rfl)
theorem below_setRow {B : Nat} {a w : World} (h : Below B a w) {g : Nat} (hg : B ≤ g) (cs : Array Value) : Below B a (w.setRow g cs) :=
  ⟨h.os, h.tape, h.output, by simpa using h.size, fun k hk => (setRow_other w g k cs (by omega)).trans (h.block k hk)⟩
theorem deg0_range (v : Int) : 1 ≤ deg0 v ∧ deg0 v ≤ 30 := by unfold deg0; omega
theorem degS_range (v w : Int) : 1 ≤ degS v w ∧ degS v w ≤ 30 := by
  have := deg0_range v
  unfold degS
  split <;> omega
theorem rand_is (y i m r : Int) (hm : 1 ≤ m) (hm2 : m ≤ 9223372036854775807) (hr : r = rz y i % m) (w : World) :
    Calls Tryd.prog 11 #[.int .i64 y, .int .i64 i, .int .i64 m] w fun e w' => e = .returned (.int .i64 r) ∧ w = w' := by
  rw [hr]
  exact rand_any y i m w hm hm2
theorem rz_range2 (y i m : Int) (hm : 1 ≤ m) : 0 ≤ rz y i % m ∧ rz y i % m < m := ⟨Int.emod_nonneg _ (by omega), Int.emod_lt_of_pos _ (by omega)⟩

theorem spare_alloc (w : World) (o : Obj) (P : World → Prop) (h : ∀ W1, W1.heap[w.heap.size]? = some o → Below w.heap.size w W1 → P W1) : P (w.alloc o) :=
  h _ (heap_alloc_new _ _) ((Below.refl _ _).alloc (Nat.le_refl _) o)
theorem Bnd.drew {w : World} (h : Bnd w) : Bnd w.drew := h
theorem degree_is (v x d : Int) (hx0 : -9223372036854775808 ≤ x) (hx1 : x ≤ 9223372036854775807) (hd : d = degS v x) (w : World) (hg : Bnd w) :
    Calls Tryd.prog 13 #[.int .i64 v, .int .i64 x] w fun e w' => e = .returned (.int .i64 d) ∧ w = w' := by
  rw [hd]
  exact degree_call v x w hx0 hx1 hg

theorem results_tup (tmps : Array Value) (w : World) (g : Nat) (cs : Array Value) (n : Int) (hp : tmps.getD 4 undef = .pointer (some ⟨g, 0, none⟩)) (h5 : tmps.getD 5 undef = .int .i64 n) (hg : w.heap[g]? = some (.cells cs 33 (0, 0))) (hs : cs.size = 6) :
    (results Tryd.f15 tmps).run Tryd.prog w = .ok (.tuple #[.agg cs, .int .i64 n]) w := by
  have hp' : tmps[4]?.getD undef = .pointer (some ⟨g, 0, none⟩) := by simpa using hp
  have h5' : tmps[5]?.getD undef = .int .i64 n := by simpa using h5
  simp [results, Tryd.results15, hp', h5', asAddr, loadVar_tup w g cs hg hs]
end Go.Proofs.YtlmnijcocfjpoaaDoor
