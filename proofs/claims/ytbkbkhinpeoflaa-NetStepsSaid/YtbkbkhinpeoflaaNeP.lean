/-
  net: the reference's refusals.
-/
import Derived.Test.YtbkbkhinpeoflaaNeO
namespace Go.Proofs.Ytbkbkhinpeoflaa
open Go.RowKit

theorem results_rlose (tmps : Array Value) (w : World) (g : Nat) (cs : Array Value) (b : Bool) (hp : tmps.getD 4 undef = .pointer (some ⟨g, 0, none⟩)) (h5 : tmps.getD 5 undef = .bool b) (hg : w.heap[g]? = some (.cells cs 29 (0, 0))) (hs : cs.size = 3) :
    (results Try.f17 tmps).run Try.prog w = .ok (.tuple #[.agg cs, .bool b]) w := by
  have hp' : tmps[4]?.getD undef = .pointer (some ⟨g, 0, none⟩) := by simpa using hp
  have h5' : tmps[5]?.getD undef = .bool b := by simpa using h5
  simp [results, Try.results17, hp', h5', asAddr, loadVar_ref w g cs hg hs]
theorem results_rdouble (tmps : Array Value) (w : World) (g : Nat) (cs : Array Value) (b : Bool) (hp : tmps.getD 4 undef = .pointer (some ⟨g, 0, none⟩)) (h5 : tmps.getD 5 undef = .bool b) (hg : w.heap[g]? = some (.cells cs 29 (0, 0))) (hs : cs.size = 3) :
    (results Try.f19 tmps).run Try.prog w = .ok (.tuple #[.agg cs, .bool b]) w := by
  have hp' : tmps[4]?.getD undef = .pointer (some ⟨g, 0, none⟩) := by simpa using hp
  have h5' : tmps[5]?.getD undef = .bool b := by simpa using h5
  simp [results, Try.results19, hp', h5', asAddr, loadVar_ref w g cs hg hs]
theorem results_rtake (tmps : Array Value) (w : World) (g : Nat) (cs : Array Value) (t : Int) (v : Value) (b : Bool) (hp : tmps.getD 4 undef = .pointer (some ⟨g, 0, none⟩)) (h5 : tmps.getD 5 undef = .int .i64 t) (h6 : tmps.getD 6 undef = v) (h7 : tmps.getD 7 undef = .bool b) (hg : w.heap[g]? = some (.cells cs 29 (0, 0))) (hs : cs.size = 3) :
    (results Try.f14 tmps).run Try.prog w = .ok (.tuple #[.agg cs, .int .i64 t, v, .bool b]) w := by
  have hp' : tmps[4]?.getD undef = .pointer (some ⟨g, 0, none⟩) := by simpa using hp
  have h5' : tmps[5]?.getD undef = .int .i64 t := by simpa using h5
  have h6' : tmps[6]?.getD undef = v := by simpa using h6
  have h7' : tmps[7]?.getD undef = .bool b := by simpa using h7
  simp [results, Try.results14, hp', h5', h6', h7', asAddr, loadVar_ref w g cs hg hs]

/-- where the receiver and the result of a reference's call lie. -/
theorem two_boxes (w : World) (v0 v1 v2 u0 u1 u2 : Value) : ((w.alloc (.cells #[v0, v1, v2] RT)).alloc (.cells #[u0, u1, u2] RT)).heap[w.heap.size]? = some (.cells #[v0, v1, v2] RT (0, 0)) ∧
    ((w.alloc (.cells #[v0, v1, v2] RT)).alloc (.cells #[u0, u1, u2] RT)).heap[w.heap.size + 1]? = some (.cells #[u0, u1, u2] RT (0, 0)) ∧
    Below w.heap.size w ((w.alloc (.cells #[v0, v1, v2] RT)).alloc (.cells #[u0, u1, u2] RT)) ∧
    ((w.alloc (.cells #[v0, v1, v2] RT)).alloc (.cells #[u0, u1, u2] RT)).heap.size = w.heap.size + 2 := by
  refine ⟨box_below (heap_alloc_new w _) (below_alloc _ _), ?_, (below_alloc w _).alloc (by simp) _, by simp⟩
  have := heap_alloc_new (w.alloc (.cells #[v0, v1, v2] RT)) (.cells #[u0, u1, u2] RT)
  simpa using this

set_option maxRecDepth 100000 in
set_option maxHeartbeats 4000000 in
theorem refLose_no (aT : Option Addr) (cT : Nat) (aD : Option Addr) (cD n : Nat) (cnt i : Int) (w : World) (hi : i < 0 ∨ (n : Int) ≤ i) :
    Calls Try.prog 17 #[.agg #[.slice aT n cT, .slice aD n cD, .int .i64 cnt], .int .i64 i] w fun e w' => e = .returned (.tuple #[.agg #[.slice aT n cT, .slice aD n cD, .int .i64 cnt], .bool false]) ∧ Below w.heap.size w w' := by
  obtain ⟨hA, hR, hb, -⟩ := two_boxes w (.slice aT n cT) (.slice aD n cD) (.int .i64 cnt) (.slice none 0 0) (.slice none 0 0) (.int .i64 0)
  obtain ⟨-, hR9, hb9, -⟩ := two_boxes w (.slice aT n cT) (.slice aD n cD) (.int .i64 cnt) (.slice aT n cT) (.slice aD n cD) (.int .i64 cnt)
  unfold RT at hA hR hb hR9 hb9
  obtain ⟨p0, p1, p2, pF⟩ := box3_cells hA
  obtain ⟨s0, s1, s2, sF⟩ := box3_cells hR
  have hi2 : i < 0 ∨ (¬ i < 0 ∧ (n : Int) ≤ i) := by omega
  rcases hi2 with hi | ⟨h0, hi⟩
  all_goals
    go_enter Try.func17, Try.ntmps17
    go_wp2
    exact bodyPost_ret (v := .tuple #[.agg #[.slice aT n cT, .slice aD n cD, .int .i64 cnt], .bool false]) (results_rlose _ _ _ _ _ rfl rfl hR9 rfl) rfl ⟨rfl, hb9⟩
set_option maxRecDepth 100000 in
set_option maxHeartbeats 4000000 in
theorem refDouble_no (aT : Option Addr) (cT : Nat) (aD : Option Addr) (cD n : Nat) (cnt i : Int) (w : World) (hi : i < 0 ∨ (n : Int) ≤ i) :
    Calls Try.prog 19 #[.agg #[.slice aT n cT, .slice aD n cD, .int .i64 cnt], .int .i64 i] w fun e w' => e = .returned (.tuple #[.agg #[.slice aT n cT, .slice aD n cD, .int .i64 cnt], .bool false]) ∧ Below w.heap.size w w' := by
  obtain ⟨hA, hR, hb, -⟩ := two_boxes w (.slice aT n cT) (.slice aD n cD) (.int .i64 cnt) (.slice none 0 0) (.slice none 0 0) (.int .i64 0)
  obtain ⟨-, hR9, hb9, -⟩ := two_boxes w (.slice aT n cT) (.slice aD n cD) (.int .i64 cnt) (.slice aT n cT) (.slice aD n cD) (.int .i64 cnt)
  unfold RT at hA hR hb hR9 hb9
  obtain ⟨p0, p1, p2, pF⟩ := box3_cells hA
  obtain ⟨s0, s1, s2, sF⟩ := box3_cells hR
  have hi2 : i < 0 ∨ (¬ i < 0 ∧ (n : Int) ≤ i) := by omega
  rcases hi2 with hi | ⟨h0, hi⟩
  all_goals
    go_enter Try.func19, Try.ntmps19
    go_wp2
    exact bodyPost_ret (v := .tuple #[.agg #[.slice aT n cT, .slice aD n cD, .int .i64 cnt], .bool false]) (results_rdouble _ _ _ _ _ rfl rfl hR9 rfl) rfl ⟨rfl, hb9⟩
set_option maxRecDepth 100000 in
set_option maxHeartbeats 4000000 in
theorem refTake_no (aT : Option Addr) (cT : Nat) (aD : Option Addr) (cD n : Nat) (cnt i : Int) (w : World) (hi : i < 0 ∨ (n : Int) ≤ i) :
    Calls Try.prog 14 #[.agg #[.slice aT n cT, .slice aD n cD, .int .i64 cnt], .int .i64 i] w fun e w' => e = .returned (.tuple #[.agg #[.slice aT n cT, .slice aD n cD, .int .i64 cnt], .int .i64 0, .slice none 0 0, .bool false]) ∧ Below w.heap.size w w' := by
  obtain ⟨hA, hR, hb, -⟩ := two_boxes w (.slice aT n cT) (.slice aD n cD) (.int .i64 cnt) (.slice none 0 0) (.slice none 0 0) (.int .i64 0)
  obtain ⟨-, hR9, hb9, -⟩ := two_boxes w (.slice aT n cT) (.slice aD n cD) (.int .i64 cnt) (.slice aT n cT) (.slice aD n cD) (.int .i64 cnt)
  unfold RT at hA hR hb hR9 hb9
  obtain ⟨p0, p1, p2, pF⟩ := box3_cells hA
  obtain ⟨s0, s1, s2, sF⟩ := box3_cells hR
  have hi2 : i < 0 ∨ (¬ i < 0 ∧ (n : Int) ≤ i) := by omega
  rcases hi2 with hi | ⟨h0, hi⟩
  all_goals
    go_enter Try.func14, Try.ntmps14
    go_wp2
    exact bodyPost_ret (v := .tuple #[.agg #[.slice aT n cT, .slice aD n cD, .int .i64 cnt], .int .i64 0, .slice none 0 0, .bool false]) (results_rtake _ _ _ _ _ _ _ rfl rfl rfl rfl hR9 rfl) rfl ⟨rfl, hb9⟩
end Go.Proofs.Ytbkbkhinpeoflaa
