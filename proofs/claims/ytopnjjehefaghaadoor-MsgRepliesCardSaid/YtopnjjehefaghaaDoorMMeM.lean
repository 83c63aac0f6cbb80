/-
  meta: is it right? The program's functions, and the reference's.
-/
import Derived.Deep.CutBlock
import Derived.Deep.DeepCutAuto
import Derived.Test.YtopnjjehefaghaaDoorMMeL
namespace Go.Proofs.YtopnjjehefaghaaDoor
open Go.RowKit

def tagB (N c : Int) : Bool := decide (1 ≤ N ∧ N ≤ 2147483647 ∧ 0 ≤ c ∧ c < 4)
def tag3B (N c : Int) : Bool := decide (1 ≤ N ∧ N ≤ 2147483647 ∧ 0 ≤ c ∧ c ≤ 3)
def deadB (s t : Int) (n : Nat) : Bool := decide (s = 0 ∧ t = 0 ∧ (n : Int) = 0)
def liveB (s t : Int) (n : Nat) : Bool := decide (1 ≤ s ∧ s ≤ 1024 ∧ 1 ≤ t ∧ t ≤ 64 ∧ (n : Int) = 32)
def metaB (N c s t : Int) (d : Bool) (n : Nat) : Bool := (if d = true then deadB s t n else liveB s t n) && tagB N c
def aloneB (N c s t : Int) (d : Bool) (n : Nat) : Bool := tagB N c && decide (s = 0 ∧ t = 0 ∧ d = false ∧ (n : Int) = 0)
def belowB (n b : Int) : Bool := decide (0 ≤ n ∧ n < b)
def keyB (n : Nat) : Bool := decide (1 ≤ (n : Int) ∧ (n : Int) ≤ 32)
set_option maxRecDepth 10000 in
set_option maxHeartbeats 1000000 in
theorem rightTag_any (N c : Int) (w : World) :
    Calls Tryd.prog 62 #[.agg #[.int .i64 N, .int .i64 c]] w fun e w' => e = .returned (.bool (tagB N c)) ∧ Below w.heap.size w w' := by
  by_cases k0 : 1 ≤ N
  · by_cases k1 : N ≤ 2147483647
    · by_cases k2 : 0 ≤ c
      · by_cases k3 : c < 4
        · go_enter Tryd.func62, Tryd.ntmps62
          go_wp2
          go_ret
          exact ⟨ret_boolM (Eq.symm (decide_eq_true (⟨k0, k1, k2, k3⟩))), below_alloc _ _⟩
        · go_enter Tryd.func62, Tryd.ntmps62
          go_wp2
          go_ret
          exact ⟨ret_boolM (Eq.symm (decide_eq_false (fun h => absurd h.2.2.2 (by omega)))), below_alloc _ _⟩
      · go_enter Tryd.func62, Tryd.ntmps62
        go_wp2
        go_ret
        exact ⟨ret_boolM (Eq.symm (decide_eq_false (fun h => absurd h.2.2.1 (by omega)))), below_alloc _ _⟩
    · go_enter Tryd.func62, Tryd.ntmps62
      go_wp2
      go_ret
      exact ⟨ret_boolM (Eq.symm (decide_eq_false (fun h => absurd h.2.1 (by omega)))), below_alloc _ _⟩
  · go_enter Tryd.func62, Tryd.ntmps62
    go_wp2
    go_ret
    exact ⟨ret_boolM (Eq.symm (decide_eq_false (fun h => absurd h.1 (by omega)))), below_alloc _ _⟩
set_option maxRecDepth 10000 in
set_option maxHeartbeats 1000000 in
theorem refTag_any0 (N c : Int) (w : World) :
    Calls Tryd.prog 54 #[.agg #[.int .i64 N, .int .i64 c]] w fun e w' => e = .returned (.bool (tag3B N c)) ∧ Below w.heap.size w w' := by
  by_cases k0 : 1 ≤ N
  · by_cases k1 : N ≤ 2147483647
    · by_cases k2 : 0 ≤ c
      · by_cases k3 : c ≤ 3
        · go_enter Tryd.func54, Tryd.ntmps54
          go_wp2
          go_ret
          exact ⟨ret_boolM (Eq.symm (decide_eq_true (⟨k0, k1, k2, k3⟩))), below_alloc _ _⟩
        · go_enter Tryd.func54, Tryd.ntmps54
          go_wp2
          go_ret
          exact ⟨ret_boolM (Eq.symm (decide_eq_false (fun h => absurd h.2.2.2 (by omega)))), below_alloc _ _⟩
      · go_enter Tryd.func54, Tryd.ntmps54
        go_wp2
        go_ret
        exact ⟨ret_boolM (Eq.symm (decide_eq_false (fun h => absurd h.2.2.1 (by omega)))), below_alloc _ _⟩
    · go_enter Tryd.func54, Tryd.ntmps54
      go_wp2
      go_ret
      exact ⟨ret_boolM (Eq.symm (decide_eq_false (fun h => absurd h.2.1 (by omega)))), below_alloc _ _⟩
  · go_enter Tryd.func54, Tryd.ntmps54
    go_wp2
    go_ret
    exact ⟨ret_boolM (Eq.symm (decide_eq_false (fun h => absurd h.1 (by omega)))), below_alloc _ _⟩
theorem refTag_any (N c : Int) (w : World) : Calls Tryd.prog 54 #[.agg #[.int .i64 N, .int .i64 c]] w fun e w' => e = .returned (.bool (tagB N c)) ∧ Below w.heap.size w w' := by
  have e : tagB N c = tag3B N c := by unfold tagB tag3B; exact decide_eq_decide.2 ⟨fun h => ⟨h.1, h.2.1, h.2.2.1, by omega⟩, fun h => ⟨h.1, h.2.1, h.2.2.1, by omega⟩⟩
  rw [e]
  exact refTag_any0 N c w
set_option maxRecDepth 10000 in
set_option maxHeartbeats 1000000 in
theorem key_any (s : ByteArray) (w : World) :
    Calls Tryd.prog 65 #[.string s] w fun e w' => e = .returned (.bool (keyB s.size)) ∧ w' = w := by
  by_cases k0 : 1 ≤ (s.size : Int)
  · by_cases k1 : (s.size : Int) ≤ 32
    · go_enter Tryd.func65, Tryd.ntmps65
      go_wp2
      go_ret
      exact ⟨ret_boolM (Eq.symm (decide_eq_true (⟨k0, k1⟩))), rfl⟩
    · go_enter Tryd.func65, Tryd.ntmps65
      go_wp2
      go_ret
      exact ⟨ret_boolM (Eq.symm (decide_eq_false (fun h => absurd h.2 (by omega)))), rfl⟩
  · go_enter Tryd.func65, Tryd.ntmps65
    go_wp2
    go_ret
    exact ⟨ret_boolM (Eq.symm (decide_eq_false (fun h => absurd h.1 (by omega)))), rfl⟩
set_option maxRecDepth 10000 in
set_option maxHeartbeats 1000000 in
theorem refKey_any (s : ByteArray) (w : World) :
    Calls Tryd.prog 33 #[.string s] w fun e w' => e = .returned (.bool (keyB s.size)) ∧ w' = w := by
  by_cases k0 : 1 ≤ (s.size : Int)
  · by_cases k1 : (s.size : Int) ≤ 32
    · go_enter Tryd.func33, Tryd.ntmps33
      go_wp2
      go_ret
      exact ⟨ret_boolM (Eq.symm (decide_eq_true (⟨k0, k1⟩))), rfl⟩
    · go_enter Tryd.func33, Tryd.ntmps33
      go_wp2
      go_ret
      exact ⟨ret_boolM (Eq.symm (decide_eq_false (fun h => absurd h.2 (by omega)))), rfl⟩
  · go_enter Tryd.func33, Tryd.ntmps33
    go_wp2
    go_ret
    exact ⟨ret_boolM (Eq.symm (decide_eq_false (fun h => absurd h.1 (by omega)))), rfl⟩
set_option maxRecDepth 10000 in
set_option maxHeartbeats 4000000 in
theorem check_any (N c s t : Int) (d : Bool) (sa : Option Addr) (sn sc : Nat) (w : World) :
    Calls Tryd.prog 42 #[.agg #[.int .i64 N, .int .i64 c, .int .i64 s, .int .i64 t, .bool d, .slice sa sn sc]] w fun e w' => e = .returned (.int .i64 (if metaB N c s t d sn = true then 0 else 90)) ∧ Below w.heap.size w w' := by
  obtain ⟨LL, hLL⟩ : ∃ b, b = liveB s t sn := ⟨_, rfl⟩
  obtain ⟨DD, hDD⟩ : ∃ b, b = deadB s t sn := ⟨_, rfl⟩
  obtain ⟨TT, hTT⟩ : ∃ b, b = tagB N c := ⟨_, rfl⟩
  have hm : metaB N c s t d sn = ((if d = true then DD else LL) && TT) := by unfold metaB; rw [hLL, hDD, hTT]
  rw [hm]
  have KR := rightTag_any N c
  simp only [← hTT] at KR
  have HLL := Lib.hid hLL
  have HLD := Lib.hid hDD
  have b1 := below_alloc w (.cells #[.int .i64 N, .int .i64 c, .int .i64 s, .int .i64 t, .bool d, .slice sa sn sc] 26)
  have h1 := heap_alloc_new w (.cells #[.int .i64 N, .int .i64 c, .int .i64 s, .int .i64 t, .bool d, .slice sa sn sc] 26)
  obtain ⟨w1, hw1⟩ : ∃ x, x = w.alloc (.cells #[.int .i64 N, .int .i64 c, .int .i64 s, .int .i64 t, .bool d, .slice sa sn sc] 26) := ⟨_, rfl⟩
  rw [← hw1] at b1 h1
  obtain ⟨m0, m1, m2, m3, m4, m5, -⟩ := cells6M h1
  have HW := Lib.hid hw1
  have HB := Lib.hid b1
  clear hLL hDD hTT hm hw1 b1 h1
  go_enter Tryd.func42, Tryd.ntmps42
  go_upto_region 1 with fail
  rw [← HW.out]
  go_cut [3] (fun v wx => v = .bool LL ∧ w1 = wx)
  case first =>
    by_cases k0 : 1 ≤ s
    · by_cases k1 : s ≤ 1024
      · by_cases k2 : 1 ≤ t
        · by_cases k3 : t ≤ 64
          · by_cases k4 : (sn : Int) = 32
            · have K4 := Lib.hid k4
              have e4 : ((sn : Int) == 32) = true := beq_iff_eq.2 k4
              clear k4
              go_wp2_with fail
              go_meet
              exact ⟨congrArg Value.bool (Eq.symm ((HLL.out).trans (decide_eq_true (⟨k0, k1, k2, k3, K4.out⟩)))), rfl⟩
            · have K4 := Lib.hid k4
              have e4 : ((sn : Int) == 32) = false := beq_eq_false_iff_ne.2 k4
              clear k4
              go_wp2_with fail
              go_meet
              exact ⟨congrArg Value.bool (Eq.symm ((HLL.out).trans (decide_eq_false (fun h => K4.out h.2.2.2.2)))), rfl⟩
          · go_wp2_with fail
            go_meet
            exact ⟨congrArg Value.bool (Eq.symm ((HLL.out).trans (decide_eq_false (fun h => absurd h.2.2.2.1 (by omega))))), rfl⟩
        · go_wp2_with fail
          go_meet
          exact ⟨congrArg Value.bool (Eq.symm ((HLL.out).trans (decide_eq_false (fun h => absurd h.2.2.1 (by omega))))), rfl⟩
      · go_wp2_with fail
        go_meet
        exact ⟨congrArg Value.bool (Eq.symm ((HLL.out).trans (decide_eq_false (fun h => absurd h.2.1 (by omega))))), rfl⟩
    · go_wp2_with fail
      go_meet
      exact ⟨congrArg Value.bool (Eq.symm ((HLL.out).trans (decide_eq_false (fun h => absurd h.1 (by omega))))), rfl⟩
  case rest =>
    obtain ⟨rfl, hw⟩ := hcut
    subst hw
    cases d
    · cases LL
      · go_wp2
        go_ret
        exact ⟨rfl, HB.out⟩
      · go_wp2_with fail
        (with_reducible refine (KR _).mono ?_)
        rintro e w2 ⟨rfl, b2⟩
        have hb := HB.out.trans (b2.mono HB.out.size)
        cases TT
        · go_wp2
          go_ret
          exact ⟨rfl, hb⟩
        · go_wp2
          go_ret
          exact ⟨rfl, hb⟩
    · go_upto_region 3 with fail
      go_cut [3] (fun v wx => v = .bool DD ∧ w1 = wx)
      case first =>
        by_cases k0 : s = 0
        · have K0 := Lib.hid k0
          have e0 : (s == 0) = true := beq_iff_eq.2 k0
          clear k0
          by_cases k1 : t = 0
          · have K1 := Lib.hid k1
            have e1 : (t == 0) = true := beq_iff_eq.2 k1
            clear k1
            by_cases k2 : (sn : Int) = 0
            · have K2 := Lib.hid k2
              have e2 : ((sn : Int) == 0) = true := beq_iff_eq.2 k2
              clear k2
              go_wp2_with fail
              go_meet
              exact ⟨congrArg Value.bool (Eq.symm ((HLD.out).trans (decide_eq_true (⟨K0.out, K1.out, K2.out⟩)))), rfl⟩
            · have K2 := Lib.hid k2
              have e2 : ((sn : Int) == 0) = false := beq_eq_false_iff_ne.2 k2
              clear k2
              go_wp2_with fail
              go_meet
              exact ⟨congrArg Value.bool (Eq.symm ((HLD.out).trans (decide_eq_false (fun h => K2.out h.2.2)))), rfl⟩
          · have K1 := Lib.hid k1
            have e1 : (t == 0) = false := beq_eq_false_iff_ne.2 k1
            clear k1
            go_wp2_with fail
            go_meet
            exact ⟨congrArg Value.bool (Eq.symm ((HLD.out).trans (decide_eq_false (fun h => K1.out h.2.1)))), rfl⟩
        · have K0 := Lib.hid k0
          have e0 : (s == 0) = false := beq_eq_false_iff_ne.2 k0
          clear k0
          go_wp2_with fail
          go_meet
          exact ⟨congrArg Value.bool (Eq.symm ((HLD.out).trans (decide_eq_false (fun h => K0.out h.1)))), rfl⟩
      case rest =>
        obtain ⟨rfl, hw⟩ := hcut
        subst hw
        cases DD
        · go_wp2
          go_ret
          exact ⟨rfl, HB.out⟩
        · go_wp2_with fail
          (with_reducible refine (KR _).mono ?_)
          rintro e w2 ⟨rfl, b2⟩
          have hb := HB.out.trans (b2.mono HB.out.size)
          cases TT
          · go_wp2
            go_ret
            exact ⟨rfl, hb⟩
          · go_wp2
            go_ret
            exact ⟨rfl, hb⟩
set_option maxRecDepth 10000 in
set_option maxHeartbeats 4000000 in
theorem refRight_any (N c s t : Int) (d : Bool) (sa : Option Addr) (sn sc : Nat) (w : World) :
    Calls Tryd.prog 32 #[.agg #[.int .i64 N, .int .i64 c, .int .i64 s, .int .i64 t, .bool d, .slice sa sn sc]] w fun e w' => e = .returned (.bool (metaB N c s t d sn)) ∧ Below w.heap.size w w' := by
  obtain ⟨LL, hLL⟩ : ∃ b, b = liveB s t sn := ⟨_, rfl⟩
  obtain ⟨DD, hDD⟩ : ∃ b, b = deadB s t sn := ⟨_, rfl⟩
  obtain ⟨TT, hTT⟩ : ∃ b, b = tagB N c := ⟨_, rfl⟩
  have hm : metaB N c s t d sn = ((if d = true then DD else LL) && TT) := by unfold metaB; rw [hLL, hDD, hTT]
  rw [hm]
  have KR := refTag_any N c
  simp only [← hTT] at KR
  have HLL := Lib.hid hLL
  have HLD := Lib.hid hDD
  have b1 := below_alloc w (.cells #[.int .i64 N, .int .i64 c, .int .i64 s, .int .i64 t, .bool d, .slice sa sn sc] 26)
  have h1 := heap_alloc_new w (.cells #[.int .i64 N, .int .i64 c, .int .i64 s, .int .i64 t, .bool d, .slice sa sn sc] 26)
  obtain ⟨w1, hw1⟩ : ∃ x, x = w.alloc (.cells #[.int .i64 N, .int .i64 c, .int .i64 s, .int .i64 t, .bool d, .slice sa sn sc] 26) := ⟨_, rfl⟩
  rw [← hw1] at b1 h1
  have HC := Lib.hid (show ∀ w2, Below w1.heap.size w1 w2 → w2.cell? ⟨w.heap.size, 0, none⟩ = some (.int .i64 N) ∧ w2.cell? ⟨w.heap.size, 1, none⟩ = some (.int .i64 c) ∧ w2.cell? ⟨w.heap.size, 2, none⟩ = some (.int .i64 s) ∧ w2.cell? ⟨w.heap.size, 3, none⟩ = some (.int .i64 t) ∧ w2.cell? ⟨w.heap.size, 4, none⟩ = some (.bool d) ∧ w2.cell? ⟨w.heap.size, 5, none⟩ = some (.slice sa sn sc) from fun w2 b2 => by
    obtain ⟨q0, q1, q2, q3, q4, q5, -⟩ := cells6M ((b2.block _ (Array.getElem?_eq_some_iff.1 h1).1).trans h1)
    exact ⟨q0, q1, q2, q3, q4, q5⟩)
  obtain ⟨m0, m1, m2, m3, m4, m5, -⟩ := cells6M h1
  have HW := Lib.hid hw1
  have HB := Lib.hid b1
  clear hLL hDD hTT hm hw1 b1 h1
  cases TT
  · simp only [Bool.and_false]
    go_enter Tryd.func32, Tryd.ntmps32
    go_upto_region 1 with fail
    rw [← HW.out]
    go_wp2_with fail
    (with_reducible refine (KR _).mono ?_)
    rintro e w2 ⟨rfl, b2⟩
    have hb := HB.out.trans (b2.mono HB.out.size)
    go_wp2
    go_ret
    exact ⟨rfl, hb⟩
  · cases d
    · simp only [Bool.and_true, Bool.false_eq_true, if_false]
      go_enter Tryd.func32, Tryd.ntmps32
      go_upto_region 1 with fail
      rw [← HW.out]
      by_cases k0 : 1 ≤ s
      · by_cases k1 : s ≤ 1024
        · by_cases k2 : 1 ≤ t
          · by_cases k3 : t ≤ 64
            · by_cases k4 : (sn : Int) = 32
              · have K4 := Lib.hid k4
                have e4 : ((sn : Int) == 32) = true := beq_iff_eq.2 k4
                clear k4
                go_wp2_with fail
                (with_reducible refine (KR _).mono ?_)
                rintro e w2 ⟨rfl, b2⟩
                have hb := HB.out.trans (b2.mono HB.out.size)
                obtain ⟨m0, m1, m2, m3, m4, m5⟩ := HC.out w2 b2
                go_wp2
                go_ret
                exact ⟨ret_boolM (Eq.symm ((HLL.out).trans (decide_eq_true (⟨k0, k1, k2, k3, K4.out⟩)))), hb⟩
              · have K4 := Lib.hid k4
                have e4 : ((sn : Int) == 32) = false := beq_eq_false_iff_ne.2 k4
                clear k4
                go_wp2_with fail
                (with_reducible refine (KR _).mono ?_)
                rintro e w2 ⟨rfl, b2⟩
                have hb := HB.out.trans (b2.mono HB.out.size)
                obtain ⟨m0, m1, m2, m3, m4, m5⟩ := HC.out w2 b2
                go_wp2
                go_ret
                exact ⟨ret_boolM (Eq.symm ((HLL.out).trans (decide_eq_false (fun h => K4.out h.2.2.2.2)))), hb⟩
            · go_wp2_with fail
              (with_reducible refine (KR _).mono ?_)
              rintro e w2 ⟨rfl, b2⟩
              have hb := HB.out.trans (b2.mono HB.out.size)
              obtain ⟨m0, m1, m2, m3, m4, m5⟩ := HC.out w2 b2
              go_wp2
              go_ret
              exact ⟨ret_boolM (Eq.symm ((HLL.out).trans (decide_eq_false (fun h => absurd h.2.2.2.1 (by omega))))), hb⟩
          · go_wp2_with fail
            (with_reducible refine (KR _).mono ?_)
            rintro e w2 ⟨rfl, b2⟩
            have hb := HB.out.trans (b2.mono HB.out.size)
            obtain ⟨m0, m1, m2, m3, m4, m5⟩ := HC.out w2 b2
            go_wp2
            go_ret
            exact ⟨ret_boolM (Eq.symm ((HLL.out).trans (decide_eq_false (fun h => absurd h.2.2.1 (by omega))))), hb⟩
        · go_wp2_with fail
          (with_reducible refine (KR _).mono ?_)
          rintro e w2 ⟨rfl, b2⟩
          have hb := HB.out.trans (b2.mono HB.out.size)
          obtain ⟨m0, m1, m2, m3, m4, m5⟩ := HC.out w2 b2
          go_wp2
          go_ret
          exact ⟨ret_boolM (Eq.symm ((HLL.out).trans (decide_eq_false (fun h => absurd h.2.1 (by omega))))), hb⟩
      · go_wp2_with fail
        (with_reducible refine (KR _).mono ?_)
        rintro e w2 ⟨rfl, b2⟩
        have hb := HB.out.trans (b2.mono HB.out.size)
        obtain ⟨m0, m1, m2, m3, m4, m5⟩ := HC.out w2 b2
        go_wp2
        go_ret
        exact ⟨ret_boolM (Eq.symm ((HLL.out).trans (decide_eq_false (fun h => absurd h.1 (by omega))))), hb⟩
    · simp only [Bool.and_true, if_true]
      go_enter Tryd.func32, Tryd.ntmps32
      go_upto_region 1 with fail
      rw [← HW.out]
      by_cases k0 : s = 0
      · have K0 := Lib.hid k0
        have e0 : (s == 0) = true := beq_iff_eq.2 k0
        clear k0
        by_cases k1 : t = 0
        · have K1 := Lib.hid k1
          have e1 : (t == 0) = true := beq_iff_eq.2 k1
          clear k1
          by_cases k2 : (sn : Int) = 0
          · have K2 := Lib.hid k2
            have e2 : ((sn : Int) == 0) = true := beq_iff_eq.2 k2
            clear k2
            go_wp2_with fail
            (with_reducible refine (KR _).mono ?_)
            rintro e w2 ⟨rfl, b2⟩
            have hb := HB.out.trans (b2.mono HB.out.size)
            obtain ⟨m0, m1, m2, m3, m4, m5⟩ := HC.out w2 b2
            go_wp2
            go_ret
            exact ⟨ret_boolM (Eq.symm ((HLD.out).trans (decide_eq_true (⟨K0.out, K1.out, K2.out⟩)))), hb⟩
          · have K2 := Lib.hid k2
            have e2 : ((sn : Int) == 0) = false := beq_eq_false_iff_ne.2 k2
            clear k2
            go_wp2_with fail
            (with_reducible refine (KR _).mono ?_)
            rintro e w2 ⟨rfl, b2⟩
            have hb := HB.out.trans (b2.mono HB.out.size)
            obtain ⟨m0, m1, m2, m3, m4, m5⟩ := HC.out w2 b2
            go_wp2
            go_ret
            exact ⟨ret_boolM (Eq.symm ((HLD.out).trans (decide_eq_false (fun h => K2.out h.2.2)))), hb⟩
        · have K1 := Lib.hid k1
          have e1 : (t == 0) = false := beq_eq_false_iff_ne.2 k1
          clear k1
          go_wp2_with fail
          (with_reducible refine (KR _).mono ?_)
          rintro e w2 ⟨rfl, b2⟩
          have hb := HB.out.trans (b2.mono HB.out.size)
          obtain ⟨m0, m1, m2, m3, m4, m5⟩ := HC.out w2 b2
          go_wp2
          go_ret
          exact ⟨ret_boolM (Eq.symm ((HLD.out).trans (decide_eq_false (fun h => K1.out h.2.1)))), hb⟩
      · have K0 := Lib.hid k0
        have e0 : (s == 0) = false := beq_eq_false_iff_ne.2 k0
        clear k0
        go_wp2_with fail
        (with_reducible refine (KR _).mono ?_)
        rintro e w2 ⟨rfl, b2⟩
        have hb := HB.out.trans (b2.mono HB.out.size)
        obtain ⟨m0, m1, m2, m3, m4, m5⟩ := HC.out w2 b2
        go_wp2
        go_ret
        exact ⟨ret_boolM (Eq.symm ((HLD.out).trans (decide_eq_false (fun h => K0.out h.1)))), hb⟩
def al4 (s t : Int) (d : Bool) (n : Nat) : Bool := decide (s = 0 ∧ t = 0 ∧ d = false ∧ (n : Int) = 0)
end Go.Proofs.YtopnjjehefaghaaDoor
