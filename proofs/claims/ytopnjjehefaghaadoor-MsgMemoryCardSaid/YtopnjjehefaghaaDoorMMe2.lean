/-
  Me2: MeM MeN MeO MeP MeQ MeR MeS MeT MeU MeV MeW MeX MeY
-/
import Derived.Deep.CutBlock
import Derived.Deep.DeepCutAuto
import Derived.Laws.IdiomStrings
import Derived.Test.YtopnjjehefaghaaDoorMBase
import Derived.Test.YtopnjjehefaghaaDoorMMe1
namespace Go.Proofs.YtopnjjehefaghaaDoor
open Go.RowKit

def tagB (N c : Int) : Bool := decide (1 ≤ N ∧ N ≤ 2147483647 ∧ 0 ≤ c ∧ c < 4)
def tag3B (N c : Int) : Bool := decide (1 ≤ N ∧ N ≤ 2147483647 ∧ 0 ≤ c ∧ c ≤ 3)
def deadB (s t : Int) (n : Nat) : Bool := decide (s = 0 ∧ t = 0 ∧ (n : Int) = 0)
def liveB (s t : Int) (n : Nat) : Bool := decide (1 ≤ s ∧ s ≤ 1024 ∧ 1 ≤ t ∧ t ≤ 64 ∧ (n : Int) = 32)
def metaB (N c s t : Int) (d : Bool) (n : Nat) : Bool := (if d = true then deadB s t n else liveB s t n) && tagB N c
def aloneB (N c s t : Int) (d : Bool) (n : Nat) : Bool := tagB N c && decide (s = 0 ∧ t = 0 ∧ d = false ∧ (n : Int) = 0)
def belowB (n b : Int) : Bool := decide (0 ≤ n ∧ n < b)
def keyB (n : Nat) : Bool := decide (1 ≤ (n : Int) ∧ (n : Int) ≤ 32)
set_option maxRecDepth 10000 in
set_option maxHeartbeats 1000000 in
theorem rightTag_any (N c : Int) (w : World) :
    Calls Tryd.prog 62 #[.agg #[.int .i64 N, .int .i64 c]] w fun e w' => e = .returned (.bool (tagB N c)) ∧ Below w.heap.size w w' := by
  by_cases k0 : 1 ≤ N
  · by_cases k1 : N ≤ 2147483647
    · by_cases k2 : 0 ≤ c
      · by_cases k3 : c < 4
        · go_enter Tryd.func62, Tryd.ntmps62
          go_wp2
          go_ret
          exact ⟨ret_boolM (Eq.symm (decide_eq_true (⟨k0, k1, k2, k3⟩))), below_alloc _ _⟩
        · go_enter Tryd.func62, Tryd.ntmps62
          go_wp2
          go_ret
          exact ⟨ret_boolM (Eq.symm (decide_eq_false (fun h => absurd h.2.2.2 (by omega)))), below_alloc _ _⟩
      · go_enter Tryd.func62, Tryd.ntmps62
        go_wp2
        go_ret
        exact ⟨ret_boolM (Eq.symm (decide_eq_false (fun h => absurd h.2.2.1 (by omega)))), below_alloc _ _⟩
    · go_enter Tryd.func62, Tryd.ntmps62
      go_wp2
      go_ret
      exact ⟨ret_boolM (Eq.symm (decide_eq_false (fun h => absurd h.2.1 (by omega)))), below_alloc _ _⟩
  · go_enter Tryd.func62, Tryd.ntmps62
    go_wp2
    go_ret
    exact ⟨ret_boolM (Eq.symm (decide_eq_false (fun h => absurd h.1 (by omega)))), below_alloc _ _⟩
set_option maxRecDepth 10000 in
set_option maxHeartbeats 1000000 in
theorem refTag_any0 (N c : Int) (w : World) :
    Calls Tryd.prog 54 #[.agg #[.int .i64 N, .int .i64 c]] w fun e w' => e = .returned (.bool (tag3B N c)) ∧ Below w.heap.size w w' := by
  by_cases k0 : 1 ≤ N
  · by_cases k1 : N ≤ 2147483647
    · by_cases k2 : 0 ≤ c
      · by_cases k3 : c ≤ 3
        · go_enter Tryd.func54, Tryd.ntmps54
          go_wp2
          go_ret
          exact ⟨ret_boolM (Eq.symm (decide_eq_true (⟨k0, k1, k2, k3⟩))), below_alloc _ _⟩
        · go_enter Tryd.func54, Tryd.ntmps54
          go_wp2
          go_ret
          exact ⟨ret_boolM (Eq.symm (decide_eq_false (fun h => absurd h.2.2.2 (by omega)))), below_alloc _ _⟩
      · go_enter Tryd.func54, Tryd.ntmps54
        go_wp2
        go_ret
        exact ⟨ret_boolM (Eq.symm (decide_eq_false (fun h => absurd h.2.2.1 (by omega)))), below_alloc _ _⟩
    · go_enter Tryd.func54, Tryd.ntmps54
      go_wp2
      go_ret
      exact ⟨ret_boolM (Eq.symm (decide_eq_false (fun h => absurd h.2.1 (by omega)))), below_alloc _ _⟩
  · go_enter Tryd.func54, Tryd.ntmps54
    go_wp2
    go_ret
    exact ⟨ret_boolM (Eq.symm (decide_eq_false (fun h => absurd h.1 (by omega)))), below_alloc _ _⟩
theorem refTag_any (N c : Int) (w : World) : Calls Tryd.prog 54 #[.agg #[.int .i64 N, .int .i64 c]] w fun e w' => e = .returned (.bool (tagB N c)) ∧ Below w.heap.size w w' := by
  have e : tagB N c = tag3B N c := by unfold tagB tag3B; exact decide_eq_decide.2 ⟨fun h => ⟨h.1, h.2.1, h.2.2.1, by omega⟩, fun h => ⟨h.1, h.2.1, h.2.2.1, by omega⟩⟩
  rw [e]
  exact refTag_any0 N c w
set_option maxRecDepth 10000 in
set_option maxHeartbeats 1000000 in
theorem key_any (s : ByteArray) (w : World) :
    Calls Tryd.prog 65 #[.string s] w fun e w' => e = .returned (.bool (keyB s.size)) ∧ w' = w := by
  by_cases k0 : 1 ≤ (s.size : Int)
  · by_cases k1 : (s.size : Int) ≤ 32
    · go_enter Tryd.func65, Tryd.ntmps65
      go_wp2
      go_ret
      exact ⟨ret_boolM (Eq.symm (decide_eq_true (⟨k0, k1⟩))), rfl⟩
    · go_enter Tryd.func65, Tryd.ntmps65
      go_wp2
      go_ret
      exact ⟨ret_boolM (Eq.symm (decide_eq_false (fun h => absurd h.2 (by omega)))), rfl⟩
  · go_enter Tryd.func65, Tryd.ntmps65
    go_wp2
    go_ret
    exact ⟨ret_boolM (Eq.symm (decide_eq_false (fun h => absurd h.1 (by omega)))), rfl⟩
set_option maxRecDepth 10000 in
set_option maxHeartbeats 1000000 in
theorem refKey_any (s : ByteArray) (w : World) :
    Calls Tryd.prog 33 #[.string s] w fun e w' => e = .returned (.bool (keyB s.size)) ∧ w' = w := by
  by_cases k0 : 1 ≤ (s.size : Int)
  · by_cases k1 : (s.size : Int) ≤ 32
    · go_enter Tryd.func33, Tryd.ntmps33
      go_wp2
      go_ret
      exact ⟨ret_boolM (Eq.symm (decide_eq_true (⟨k0, k1⟩))), rfl⟩
    · go_enter Tryd.func33, Tryd.ntmps33
      go_wp2
      go_ret
      exact ⟨ret_boolM (Eq.symm (decide_eq_false (fun h => absurd h.2 (by omega)))), rfl⟩
  · go_enter Tryd.func33, Tryd.ntmps33
    go_wp2
    go_ret
    exact ⟨ret_boolM (Eq.symm (decide_eq_false (fun h => absurd h.1 (by omega)))), rfl⟩
set_option maxRecDepth 10000 in
set_option maxHeartbeats 4000000 in
theorem check_any (N c s t : Int) (d : Bool) (sa : Option Addr) (sn sc : Nat) (w : World) :
    Calls Tryd.prog 42 #[.agg #[.int .i64 N, .int .i64 c, .int .i64 s, .int .i64 t, .bool d, .slice sa sn sc]] w fun e w' => e = .returned (.int .i64 (if metaB N c s t d sn = true then 0 else 90)) ∧ Below w.heap.size w w' := by
  obtain ⟨LL, hLL⟩ : ∃ b, b = liveB s t sn := ⟨_, rfl⟩
  obtain ⟨DD, hDD⟩ : ∃ b, b = deadB s t sn := ⟨_, rfl⟩
  obtain ⟨TT, hTT⟩ : ∃ b, b = tagB N c := ⟨_, rfl⟩
  have hm : metaB N c s t d sn = ((if d = true then DD else LL) && TT) := by unfold metaB; rw [hLL, hDD, hTT]
  rw [hm]
  have KR := rightTag_any N c
  simp only [← hTT] at KR
  have HLL := Lib.hid hLL
  have HLD := Lib.hid hDD
  have b1 := below_alloc w (.cells #[.int .i64 N, .int .i64 c, .int .i64 s, .int .i64 t, .bool d, .slice sa sn sc] 26)
  have h1 := heap_alloc_new w (.cells #[.int .i64 N, .int .i64 c, .int .i64 s, .int .i64 t, .bool d, .slice sa sn sc] 26)
  obtain ⟨w1, hw1⟩ : ∃ x, x = w.alloc (.cells #[.int .i64 N, .int .i64 c, .int .i64 s, .int .i64 t, .bool d, .slice sa sn sc] 26) := ⟨_, rfl⟩
  rw [← hw1] at b1 h1
  obtain ⟨m0, m1, m2, m3, m4, m5, -⟩ := cells6M h1
  have HW := Lib.hid hw1
  have HB := Lib.hid b1
  clear hLL hDD hTT hm hw1 b1 h1
  go_enter Tryd.func42, Tryd.ntmps42
  go_upto_region 1 with fail
  rw [← HW.out]
  go_cut [3] (fun v wx => v = .bool LL ∧ w1 = wx)
  case first =>
    by_cases k0 : 1 ≤ s
    · by_cases k1 : s ≤ 1024
      · by_cases k2 : 1 ≤ t
        · by_cases k3 : t ≤ 64
          · by_cases k4 : (sn : Int) = 32
            · have K4 := Lib.hid k4
              have e4 : ((sn : Int) == 32) = true := beq_iff_eq.2 k4
              clear k4
              go_wp2_with fail
              go_meet
              exact ⟨congrArg Value.bool (Eq.symm ((HLL.out).trans (decide_eq_true (⟨k0, k1, k2, k3, K4.out⟩)))), rfl⟩
            · have K4 := Lib.hid k4
              have e4 : ((sn : Int) == 32) = false := beq_eq_false_iff_ne.2 k4
              clear k4
              go_wp2_with fail
              go_meet
              exact ⟨congrArg Value.bool (Eq.symm ((HLL.out).trans (decide_eq_false (fun h => K4.out h.2.2.2.2)))), rfl⟩
          · go_wp2_with fail
            go_meet
            exact ⟨congrArg Value.bool (Eq.symm ((HLL.out).trans (decide_eq_false (fun h => absurd h.2.2.2.1 (by omega))))), rfl⟩
        · go_wp2_with fail
          go_meet
          exact ⟨congrArg Value.bool (Eq.symm ((HLL.out).trans (decide_eq_false (fun h => absurd h.2.2.1 (by omega))))), rfl⟩
      · go_wp2_with fail
        go_meet
        exact ⟨congrArg Value.bool (Eq.symm ((HLL.out).trans (decide_eq_false (fun h => absurd h.2.1 (by omega))))), rfl⟩
    · go_wp2_with fail
      go_meet
      exact ⟨congrArg Value.bool (Eq.symm ((HLL.out).trans (decide_eq_false (fun h => absurd h.1 (by omega))))), rfl⟩
  case rest =>
    obtain ⟨rfl, hw⟩ := hcut
    subst hw
    cases d
    · cases LL
      · go_wp2
        go_ret
        exact ⟨rfl, HB.out⟩
      · go_wp2_with fail
        (with_reducible refine (KR _).mono ?_)
        rintro e w2 ⟨rfl, b2⟩
        have hb := HB.out.trans (b2.mono HB.out.size)
        cases TT
        · go_wp2
          go_ret
          exact ⟨rfl, hb⟩
        · go_wp2
          go_ret
          exact ⟨rfl, hb⟩
    · go_upto_region 3 with fail
      go_cut [3] (fun v wx => v = .bool DD ∧ w1 = wx)
      case first =>
        by_cases k0 : s = 0
        · have K0 := Lib.hid k0
          have e0 : (s == 0) = true := beq_iff_eq.2 k0
          clear k0
          by_cases k1 : t = 0
          · have K1 := Lib.hid k1
            have e1 : (t == 0) = true := beq_iff_eq.2 k1
            clear k1
            by_cases k2 : (sn : Int) = 0
            · have K2 := Lib.hid k2
              have e2 : ((sn : Int) == 0) = true := beq_iff_eq.2 k2
              clear k2
              go_wp2_with fail
              go_meet
              exact ⟨congrArg Value.bool (Eq.symm ((HLD.out).trans (decide_eq_true (⟨K0.out, K1.out, K2.out⟩)))), rfl⟩
            · have K2 := Lib.hid k2
              have e2 : ((sn : Int) == 0) = false := beq_eq_false_iff_ne.2 k2
              clear k2
              go_wp2_with fail
              go_meet
              exact ⟨congrArg Value.bool (Eq.symm ((HLD.out).trans (decide_eq_false (fun h => K2.out h.2.2)))), rfl⟩
          · have K1 := Lib.hid k1
            have e1 : (t == 0) = false := beq_eq_false_iff_ne.2 k1
            clear k1
            go_wp2_with fail
            go_meet
            exact ⟨congrArg Value.bool (Eq.symm ((HLD.out).trans (decide_eq_false (fun h => K1.out h.2.1)))), rfl⟩
        · have K0 := Lib.hid k0
          have e0 : (s == 0) = false := beq_eq_false_iff_ne.2 k0
          clear k0
          go_wp2_with fail
          go_meet
          exact ⟨congrArg Value.bool (Eq.symm ((HLD.out).trans (decide_eq_false (fun h => K0.out h.1)))), rfl⟩
      case rest =>
        obtain ⟨rfl, hw⟩ := hcut
        subst hw
        cases DD
        · go_wp2
          go_ret
          exact ⟨rfl, HB.out⟩
        · go_wp2_with fail
          (with_reducible refine (KR _).mono ?_)
          rintro e w2 ⟨rfl, b2⟩
          have hb := HB.out.trans (b2.mono HB.out.size)
          cases TT
          · go_wp2
            go_ret
            exact ⟨rfl, hb⟩
          · go_wp2
            go_ret
            exact ⟨rfl, hb⟩
set_option maxRecDepth 10000 in
set_option maxHeartbeats 4000000 in
theorem refRight_any (N c s t : Int) (d : Bool) (sa : Option Addr) (sn sc : Nat) (w : World) :
    Calls Tryd.prog 32 #[.agg #[.int .i64 N, .int .i64 c, .int .i64 s, .int .i64 t, .bool d, .slice sa sn sc]] w fun e w' => e = .returned (.bool (metaB N c s t d sn)) ∧ Below w.heap.size w w' := by
  obtain ⟨LL, hLL⟩ : ∃ b, b = liveB s t sn := ⟨_, rfl⟩
  obtain ⟨DD, hDD⟩ : ∃ b, b = deadB s t sn := ⟨_, rfl⟩
  obtain ⟨TT, hTT⟩ : ∃ b, b = tagB N c := ⟨_, rfl⟩
  have hm : metaB N c s t d sn = ((if d = true then DD else LL) && TT) := by unfold metaB; rw [hLL, hDD, hTT]
  rw [hm]
  have KR := refTag_any N c
  simp only [← hTT] at KR
  have HLL := Lib.hid hLL
  have HLD := Lib.hid hDD
  have b1 := below_alloc w (.cells #[.int .i64 N, .int .i64 c, .int .i64 s, .int .i64 t, .bool d, .slice sa sn sc] 26)
  have h1 := heap_alloc_new w (.cells #[.int .i64 N, .int .i64 c, .int .i64 s, .int .i64 t, .bool d, .slice sa sn sc] 26)
  obtain ⟨w1, hw1⟩ : ∃ x, x = w.alloc (.cells #[.int .i64 N, .int .i64 c, .int .i64 s, .int .i64 t, .bool d, .slice sa sn sc] 26) := ⟨_, rfl⟩
  rw [← hw1] at b1 h1
  have HC := Lib.hid (show ∀ w2, Below w1.heap.size w1 w2 → w2.cell? ⟨w.heap.size, 0, none⟩ = some (.int .i64 N) ∧ w2.cell? ⟨w.heap.size, 1, none⟩ = some (.int .i64 c) ∧ w2.cell? ⟨w.heap.size, 2, none⟩ = some (.int .i64 s) ∧ w2.cell? ⟨w.heap.size, 3, none⟩ = some (.int .i64 t) ∧ w2.cell? ⟨w.heap.size, 4, none⟩ = some (.bool d) ∧ w2.cell? ⟨w.heap.size, 5, none⟩ = some (.slice sa sn sc) from fun w2 b2 => by
    obtain ⟨q0, q1, q2, q3, q4, q5, -⟩ := cells6M ((b2.block _ (Array.getElem?_eq_some_iff.1 h1).1).trans h1)
    exact ⟨q0, q1, q2, q3, q4, q5⟩)
  obtain ⟨m0, m1, m2, m3, m4, m5, -⟩ := cells6M h1
  have HW := Lib.hid hw1
  have HB := Lib.hid b1
  clear hLL hDD hTT hm hw1 b1 h1
  cases TT
  · simp only [Bool.and_false]
    go_enter Tryd.func32, Tryd.ntmps32
    go_upto_region 1 with fail
    rw [← HW.out]
    go_wp2_with fail
    (with_reducible refine (KR _).mono ?_)
    rintro e w2 ⟨rfl, b2⟩
    have hb := HB.out.trans (b2.mono HB.out.size)
    go_wp2
    go_ret
    exact ⟨rfl, hb⟩
  · cases d
    · simp only [Bool.and_true, Bool.false_eq_true, if_false]
      go_enter Tryd.func32, Tryd.ntmps32
      go_upto_region 1 with fail
      rw [← HW.out]
      by_cases k0 : 1 ≤ s
      · by_cases k1 : s ≤ 1024
        · by_cases k2 : 1 ≤ t
          · by_cases k3 : t ≤ 64
            · by_cases k4 : (sn : Int) = 32
              · have K4 := Lib.hid k4
                have e4 : ((sn : Int) == 32) = true := beq_iff_eq.2 k4
                clear k4
                go_wp2_with fail
                (with_reducible refine (KR _).mono ?_)
                rintro e w2 ⟨rfl, b2⟩
                have hb := HB.out.trans (b2.mono HB.out.size)
                obtain ⟨m0, m1, m2, m3, m4, m5⟩ := HC.out w2 b2
                go_wp2
                go_ret
                exact ⟨ret_boolM (Eq.symm ((HLL.out).trans (decide_eq_true (⟨k0, k1, k2, k3, K4.out⟩)))), hb⟩
              · have K4 := Lib.hid k4
                have e4 : ((sn : Int) == 32) = false := beq_eq_false_iff_ne.2 k4
                clear k4
                go_wp2_with fail
                (with_reducible refine (KR _).mono ?_)
                rintro e w2 ⟨rfl, b2⟩
                have hb := HB.out.trans (b2.mono HB.out.size)
                obtain ⟨m0, m1, m2, m3, m4, m5⟩ := HC.out w2 b2
                go_wp2
                go_ret
                exact ⟨ret_boolM (Eq.symm ((HLL.out).trans (decide_eq_false (fun h => K4.out h.2.2.2.2)))), hb⟩
            · go_wp2_with fail
              (with_reducible refine (KR _).mono ?_)
              rintro e w2 ⟨rfl, b2⟩
              have hb := HB.out.trans (b2.mono HB.out.size)
              obtain ⟨m0, m1, m2, m3, m4, m5⟩ := HC.out w2 b2
              go_wp2
              go_ret
              exact ⟨ret_boolM (Eq.symm ((HLL.out).trans (decide_eq_false (fun h => absurd h.2.2.2.1 (by omega))))), hb⟩
          · go_wp2_with fail
            (with_reducible refine (KR _).mono ?_)
            rintro e w2 ⟨rfl, b2⟩
            have hb := HB.out.trans (b2.mono HB.out.size)
            obtain ⟨m0, m1, m2, m3, m4, m5⟩ := HC.out w2 b2
            go_wp2
            go_ret
            exact ⟨ret_boolM (Eq.symm ((HLL.out).trans (decide_eq_false (fun h => absurd h.2.2.1 (by omega))))), hb⟩
        · go_wp2_with fail
          (with_reducible refine (KR _).mono ?_)
          rintro e w2 ⟨rfl, b2⟩
          have hb := HB.out.trans (b2.mono HB.out.size)
          obtain ⟨m0, m1, m2, m3, m4, m5⟩ := HC.out w2 b2
          go_wp2
          go_ret
          exact ⟨ret_boolM (Eq.symm ((HLL.out).trans (decide_eq_false (fun h => absurd h.2.1 (by omega))))), hb⟩
      · go_wp2_with fail
        (with_reducible refine (KR _).mono ?_)
        rintro e w2 ⟨rfl, b2⟩
        have hb := HB.out.trans (b2.mono HB.out.size)
        obtain ⟨m0, m1, m2, m3, m4, m5⟩ := HC.out w2 b2
        go_wp2
        go_ret
        exact ⟨ret_boolM (Eq.symm ((HLL.out).trans (decide_eq_false (fun h => absurd h.1 (by omega))))), hb⟩
    · simp only [Bool.and_true, if_true]
      go_enter Tryd.func32, Tryd.ntmps32
      go_upto_region 1 with fail
      rw [← HW.out]
      by_cases k0 : s = 0
      · have K0 := Lib.hid k0
        have e0 : (s == 0) = true := beq_iff_eq.2 k0
        clear k0
        by_cases k1 : t = 0
        · have K1 := Lib.hid k1
          have e1 : (t == 0) = true := beq_iff_eq.2 k1
          clear k1
          by_cases k2 : (sn : Int) = 0
          · have K2 := Lib.hid k2
            have e2 : ((sn : Int) == 0) = true := beq_iff_eq.2 k2
            clear k2
            go_wp2_with fail
            (with_reducible refine (KR _).mono ?_)
            rintro e w2 ⟨rfl, b2⟩
            have hb := HB.out.trans (b2.mono HB.out.size)
            obtain ⟨m0, m1, m2, m3, m4, m5⟩ := HC.out w2 b2
            go_wp2
            go_ret
            exact ⟨ret_boolM (Eq.symm ((HLD.out).trans (decide_eq_true (⟨K0.out, K1.out, K2.out⟩)))), hb⟩
          · have K2 := Lib.hid k2
            have e2 : ((sn : Int) == 0) = false := beq_eq_false_iff_ne.2 k2
            clear k2
            go_wp2_with fail
            (with_reducible refine (KR _).mono ?_)
            rintro e w2 ⟨rfl, b2⟩
            have hb := HB.out.trans (b2.mono HB.out.size)
            obtain ⟨m0, m1, m2, m3, m4, m5⟩ := HC.out w2 b2
            go_wp2
            go_ret
            exact ⟨ret_boolM (Eq.symm ((HLD.out).trans (decide_eq_false (fun h => K2.out h.2.2)))), hb⟩
        · have K1 := Lib.hid k1
          have e1 : (t == 0) = false := beq_eq_false_iff_ne.2 k1
          clear k1
          go_wp2_with fail
          (with_reducible refine (KR _).mono ?_)
          rintro e w2 ⟨rfl, b2⟩
          have hb := HB.out.trans (b2.mono HB.out.size)
          obtain ⟨m0, m1, m2, m3, m4, m5⟩ := HC.out w2 b2
          go_wp2
          go_ret
          exact ⟨ret_boolM (Eq.symm ((HLD.out).trans (decide_eq_false (fun h => K1.out h.2.1)))), hb⟩
      · have K0 := Lib.hid k0
        have e0 : (s == 0) = false := beq_eq_false_iff_ne.2 k0
        clear k0
        go_wp2_with fail
        (with_reducible refine (KR _).mono ?_)
        rintro e w2 ⟨rfl, b2⟩
        have hb := HB.out.trans (b2.mono HB.out.size)
        obtain ⟨m0, m1, m2, m3, m4, m5⟩ := HC.out w2 b2
        go_wp2
        go_ret
        exact ⟨ret_boolM (Eq.symm ((HLD.out).trans (decide_eq_false (fun h => K0.out h.1)))), hb⟩
def al4 (s t : Int) (d : Bool) (n : Nat) : Bool := decide (s = 0 ∧ t = 0 ∧ d = false ∧ (n : Int) = 0)
end Go.Proofs.YtopnjjehefaghaaDoor
namespace Go.Proofs.YtopnjjehefaghaaDoor
open Go.RowKit

/-- a place: its numbers, its digest and where that lies. -/
structure PlR where
  b : Int
  e : Int
  s : Int
  x : Option Addr × Nat × Nat
  l : List Nat
structure PlAt (w : World) (b o : Nat) (p : PlR) : Prop where
  c0 : w.cell? ⟨b, o, none⟩ = some (.int .i64 p.b)
  c1 : w.cell? ⟨b, o + 1, none⟩ = some (.int .i64 p.e)
  c2 : w.cell? ⟨b, o + 2, none⟩ = some (.int .i64 p.s)
  c3 : w.cell? ⟨b, o + 3, none⟩ = some (.slice p.x.1 p.x.2.1 p.x.2.2)
  by_ : BytesV w (p.x.1, p.x.2.1, p.x.2.2) p.l
theorem PlAt.below {w w' : World} {b o : Nat} {p : PlR} (h : PlAt w b o p) (hlt : b < w.heap.size) (hb : Below w.heap.size w w') : PlAt w' b o p :=
  ⟨(hb.cell (p := ⟨b, o, none⟩) hlt).trans h.c0, (hb.cell (p := ⟨b, o + 1, none⟩) hlt).trans h.c1, (hb.cell (p := ⟨b, o + 2, none⟩) hlt).trans h.c2, (hb.cell (p := ⟨b, o + 3, none⟩) hlt).trans h.c3, h.by_.below hb⟩
structure PlacesV (w : World) (ad : Option Addr) (n c : Nat) (P : Nat → PlR) : Prop where
  small : n ≤ maxLen
  cap : n ≤ c
  nil : ad = none → c = 0
  row : 0 < n → ∃ b o, ad = some ⟨b, o, none⟩ ∧ b < w.heap.size ∧ ∀ i, i < n → PlAt w b (o + i * 4) (P i)
theorem PlacesV.below {w w' : World} {ad : Option Addr} {n c : Nat} {P : Nat → PlR} (h : PlacesV w ad n c P) (hb : Below w.heap.size w w') : PlacesV w' ad n c P :=
  ⟨h.small, h.cap, h.nil, fun h0 => by
    obtain ⟨b, o, e, hlt, hc⟩ := h.row h0
    exact ⟨b, o, e, Nat.lt_of_lt_of_le hlt hb.size, fun i hi => (hc i hi).below hlt hb⟩⟩
def wrongB (S U : Int) (p : PlR) : Bool := !(belowB p.b 1024 && (belowB p.e 16777216 && (belowB p.s S && decide ((p.x.2.1 : Int) = U))))
/-- is one of the first n wrong? -/
def someWrong (S U : Int) (P : Nat → PlR) (n : Nat) : Bool := (List.range n).any fun i => wrongB S U (P i)
theorem someWrong_false {S U : Int} {P : Nat → PlR} {n : Nat} : someWrong S U P n = false ↔ ∀ i, i < n → wrongB S U (P i) = false := by
  unfold someWrong
  rw [List.any_eq_false]
  constructor
  · intro h i hi; have := h i (by simpa using hi); simpa using this
  · intro h i hi; have := h i (by simpa using hi); simp [this]
def FoundM (t : Bool) (w : World) (e : Ending) (w' : World) : Prop := Below w.heap.size w w' ∧ ((t = true ∧ ∃ k : Nat, e = .returned (.int .i64 (k : Int)) ∧ k ≤ 140737488355328) ∨ (t = false ∧ e = .returned (.int .i64 (-1))))
end Go.Proofs.YtopnjjehefaghaaDoor
namespace Go.Proofs.YtopnjjehefaghaaDoor
open Go.RowKit

def fitsB (k N c s t : Int) (d : Bool) (sn pn : Nat) : Bool :=
  if k = 1 then metaB N c s t d sn && !d else if k = 2 then metaB N c s t d sn && decide ((pn : Int) = 0) else if k = 3 then aloneB N c s t d sn && decide (0 < (pn : Int)) else if k = 4 then aloneB N c s t d sn && decide (0 < (pn : Int)) else false
def slotsOf (k : Int) : Int := if k = 4 then 1 else 512
def sumOf (k : Int) : Int := if k = 4 then 0 else 32
def rightB (k : Int) (key : ByteArray) (N c s t : Int) (d : Bool) (sn : Nat) (P : Nat → PlR) (pn : Nat) : Bool :=
  fitsB k N c s t d sn pn && (keyB key.size && (decide ((pn : Int) ≤ 512) && !(someWrong (slotsOf k) (sumOf k) P pn)))
theorem alloc_szM (w : World) (o : Obj) : (w.alloc o).heap.size = w.heap.size + 1 := by simp
theorem check_yes {N c s t : Int} {d : Bool} {sa : Option Addr} {sn sc : Nat} (h : metaB N c s t d sn = true) (w : World) :
    Calls Tryd.prog 42 #[.agg #[.int .i64 N, .int .i64 c, .int .i64 s, .int .i64 t, .bool d, .slice sa sn sc]] w fun e w' => e = .returned (.int .i64 0) ∧ Below w.heap.size w w' := by
  have := check_any N c s t d sa sn sc w; rwa [if_pos h] at this
theorem check_no {N c s t : Int} {d : Bool} {sa : Option Addr} {sn sc : Nat} (h : metaB N c s t d sn = false) (w : World) :
    Calls Tryd.prog 42 #[.agg #[.int .i64 N, .int .i64 c, .int .i64 s, .int .i64 t, .bool d, .slice sa sn sc]] w fun e w' => e = .returned (.int .i64 90) ∧ Below w.heap.size w w' := by
  have := check_any N c s t d sa sn sc w; rwa [if_neg (by rw [h]; decide)] at this
end Go.Proofs.YtopnjjehefaghaaDoor
namespace Go.Proofs.YtopnjjehefaghaaDoor
open Go.RowKit

/-- the first m of the W bytes of a number, the greatest weight first. -/
def numTo (n W m : Nat) : List Nat := (List.range m).map fun t => n / 256 ^ (W - 1 - t) % 256
def numL (n W : Nat) : List Nat := numTo n W W
theorem numTo_succ (n W m : Nat) : numTo n W (m + 1) = numTo n W m ++ [n / 256 ^ (W - 1 - m) % 256] := by
  unfold numTo
  rw [List.range_succ, List.map_append]
  rfl
theorem numTo_len (n W m : Nat) : (numTo n W m).length = m := by simp [numTo]
theorem numTo_bytes (n W m : Nat) : Bytes (numTo n W m) := by
  intro x hx
  simp only [numTo, List.mem_map] at hx
  obtain ⟨t, -, rfl⟩ := hx
  exact Nat.mod_lt _ (by decide)
/-- what may have changed: the writer, and its bytes' block. -/
structure KpW (w w' : World) (b : Nat) (o : Option Nat) : Prop where
  os : w'.os = w.os
  tape : w'.tape = w.tape
  output : w'.output = w.output
  size : w.heap.size ≤ w'.heap.size
  block : ∀ q, q < w.heap.size → q ≠ b → some q ≠ o → w'.heap[q]? = w.heap[q]?
theorem KpW.refl (w : World) (b : Nat) (o : Option Nat) : KpW w w b o := ⟨rfl, rfl, rfl, Nat.le_refl _, fun _ _ _ _ => rfl⟩
theorem KpW.trans {w w1 w2 : World} {b : Nat} {o o1 : Option Nat} (h : KpW w w1 b o) (k : KpW w1 w2 b o1) (ho : o1 = o ∨ ∀ q, o1 = some q → w.heap.size ≤ q) : KpW w w2 b o :=
  ⟨k.os.trans h.os, k.tape.trans h.tape, k.output.trans h.output, Nat.le_trans h.size k.size, fun q h1 h2 h3 => (k.block q (Nat.lt_of_lt_of_le h1 h.size) h2 (fun e => by
    rcases ho with ho | ho
    · exact h3 (e.trans ho)
    · have := ho q e.symm; omega)).trans (h.block q h1 h2 h3)⟩
theorem KpW.below {w w' : World} {b B : Nat} {o : Option Nat} (h : KpW w w' b o) (hb : B ≤ b) (ho : ∀ q, o = some q → B ≤ q) (hB : B ≤ w.heap.size) : Below B w w' :=
  ⟨h.os, h.tape, h.output, h.size, fun q hq => h.block q (by omega) (by omega) (fun e => by have := ho q e.symm; omega)⟩
theorem KpW.of_grown {w w' : World} {b : Nat} {o : Option Nat} (h : w.grownBy w' o) : KpW w w' b o := ⟨h.os, h.tape, h.output, h.size, fun q h1 _ h3 => h.block q h1 h3⟩
theorem ownBlock_len (ad : Option Addr) (n c m d : Nat) : (Value.slice ad n c).ownBlock = (Value.slice ad m d).ownBlock := by cases ad <;> rfl
theorem u8_byte (n D : Nat) (v : Int) (h : v = ((n / D : Nat) : Int)) : IntKind.u8.wrap v = ((n / D % 256 : Nat) : Int) := by
  subst h
  simp [IntKind.wrap, IntKind.bits, IntKind.signed]
end Go.Proofs.YtopnjjehefaghaaDoor
namespace Go.Proofs.YtopnjjehefaghaaDoor
open Go.RowKit

theorem numL_one (n : Nat) : numL n 1 = [n % 256] := by simp [numL, numTo]
end Go.Proofs.YtopnjjehefaghaaDoor
namespace Go.Proofs.YtopnjjehefaghaaDoor
open Go.RowKit

def keyL (s : ByteArray) : List Nat := s.data.toList.map UInt8.toNat
theorem keyL_len (s : ByteArray) : (keyL s).length = s.size := by unfold keyL; simp
theorem grownCap_leM (w : World) (n : Nat) (e : TypeId) : n ≤ grownCap w n 0 e := by
  exact grownCap_ge w n 0 e
theorem key_bytesV {w : World} {g kc : Nat} {key : ByteArray} {fr : Nat × Nat} (h : w.heap[g]? = some (.cells (bytesRow key kc) 5 fr)) (hc : key.size ≤ kc) (hs : key.size ≤ 1000) : BytesV w (some ⟨g, 0, none⟩, key.size, kc) (keyL key) := by
  refine ⟨⟨by rw [List.length_map, keyL_len], fun _ => ⟨g, 0, rfl, fun i hi => ?_⟩⟩, fun x hx => ?_, by simp only; omega, by simp only; omega, fun e => by cases e⟩
  · rw [cell_of_row _ _ _ _ _ _ h]
    simp only at hi
    have hi2 : i < key.data.size := hi
    unfold bytesRow keyL bv
    rw [Nat.zero_add, Array.getElem?_append_left (by simpa using hi2)]
    simp
    rfl
  · simp only [keyL, List.mem_map] at hx
    obtain ⟨y, -, rfl⟩ := hx
    exact y.toNat_lt
/-- a place's bytes. -/
def placeL (p : PlR) : List Nat := numL p.b.toNat 2 ++ numL p.e.toNat 3 ++ numL p.s.toNat 2 ++ (numL p.l.length 1 ++ p.l)
def placesL (P : Nat → PlR) : Nat → List Nat
  | 0 => []
  | m + 1 => placesL P m ++ placeL (P m)
def headL (k : Int) (key : ByteArray) (N c s t : Int) (d : Bool) (sum : List Nat) (pn : Nat) : List Nat :=
  [] ++ numL k.toNat 1 ++ numL key.size 1 ++ keyL key ++ numL N.toNat 4 ++ numL s.toNat 4 ++ numL c.toNat 1 ++ numL t.toNat 1 ++ numL (if d = true then 1 else 0) 1 ++ (numL sum.length 1 ++ sum) ++ numL pn 2
def encL (k : Int) (key : ByteArray) (N c s t : Int) (d : Bool) (sum : List Nat) (P : Nat → PlR) (pn : Nat) : List Nat := headL k key N c s t d sum pn ++ placesL P pn
/-- what a right record keeps. -/
structure Facts (k : Int) (key : ByteArray) (N c s t : Int) (sn : Nat) (P : Nat → PlR) (pn : Nat) : Prop where
  k1 : 1 ≤ k
  k4 : k ≤ 4
  ks : key.size ≤ 32
  N0 : 0 ≤ N
  N1 : N ≤ 2147483647
  c0 : 0 ≤ c
  c1 : c < 4
  s0 : 0 ≤ s
  s1 : s ≤ 1024
  t0 : 0 ≤ t
  t1 : t ≤ 64
  sn32 : sn ≤ 32
  pn512 : pn ≤ 512
  pl : ∀ i, i < pn → 0 ≤ (P i).b ∧ (P i).b < 1024 ∧ 0 ≤ (P i).e ∧ (P i).e < 16777216 ∧ 0 ≤ (P i).s ∧ (P i).s < 512 ∧ (P i).x.2.1 ≤ 32
theorem tagB_iff {N c : Int} : tagB N c = true ↔ 1 ≤ N ∧ N ≤ 2147483647 ∧ 0 ≤ c ∧ c < 4 := by unfold tagB; exact decide_eq_true_iff
theorem belowB_iff {n b : Int} : belowB n b = true ↔ 0 ≤ n ∧ n < b := by unfold belowB; exact decide_eq_true_iff
theorem metaB_facts {N c s t : Int} {d : Bool} {n : Nat} (h : metaB N c s t d n = true) : (0 ≤ N ∧ N ≤ 2147483647 ∧ 0 ≤ c ∧ c < 4) ∧ 0 ≤ s ∧ s ≤ 1024 ∧ 0 ≤ t ∧ t ≤ 64 ∧ n ≤ 32 := by
  unfold metaB at h
  rw [Bool.and_eq_true] at h
  have h2 := tagB_iff.1 h.2
  refine ⟨⟨by omega, h2.2.1, h2.2.2.1, h2.2.2.2⟩, ?_⟩
  have h1 := h.1
  split at h1
  · have := of_decide_eq_true (show decide _ = true from h1)
    omega
  · have := of_decide_eq_true (show decide _ = true from h1)
    omega
theorem aloneB_facts {N c s t : Int} {d : Bool} {n : Nat} (h : aloneB N c s t d n = true) : (0 ≤ N ∧ N ≤ 2147483647 ∧ 0 ≤ c ∧ c < 4) ∧ 0 ≤ s ∧ s ≤ 1024 ∧ 0 ≤ t ∧ t ≤ 64 ∧ n ≤ 32 := by
  unfold aloneB at h
  rw [Bool.and_eq_true] at h
  have h1 := tagB_iff.1 h.1
  have h2 := of_decide_eq_true h.2
  exact ⟨⟨by omega, h1.2.1, h1.2.2.1, h1.2.2.2⟩, by omega, by omega, by omega, by omega, by omega⟩
theorem right_facts {k : Int} {key : ByteArray} {N c s t : Int} {d : Bool} {sn : Nat} {P : Nat → PlR} {pn : Nat} (h : rightB k key N c s t d sn P pn = true) : Facts k key N c s t sn P pn := by
  unfold rightB at h
  simp only [Bool.and_eq_true, Bool.not_eq_true'] at h
  obtain ⟨h1, h2, h3, h4⟩ := h
  have h3 := of_decide_eq_true h3
  have hk := of_decide_eq_true (show decide _ = true from h2)
  have hall := someWrong_false.1 h4
  have hpl : ∀ i, i < pn → 0 ≤ (P i).b ∧ (P i).b < 1024 ∧ 0 ≤ (P i).e ∧ (P i).e < 16777216 ∧ 0 ≤ (P i).s ∧ (P i).s < 512 ∧ (P i).x.2.1 ≤ 32 := fun i hi => by
    have hw := hall i hi
    unfold wrongB at hw
    simp only [Bool.not_eq_false', Bool.and_eq_true] at hw
    obtain ⟨q1, q2, q3, q4⟩ := hw
    have q1 := belowB_iff.1 q1
    have q2 := belowB_iff.1 q2
    have q3 := belowB_iff.1 q3
    have q4 := of_decide_eq_true q4
    have hS : slotsOf k ≤ 512 := by unfold slotsOf; split <;> omega
    have hU : sumOf k ≤ 32 := by unfold sumOf; split <;> omega
    exact ⟨q1.1, q1.2, q2.1, q2.2, q3.1, by omega, by omega⟩
  have hf : (1 ≤ k ∧ k ≤ 4) ∧ (0 ≤ N ∧ N ≤ 2147483647 ∧ 0 ≤ c ∧ c < 4) ∧ 0 ≤ s ∧ s ≤ 1024 ∧ 0 ≤ t ∧ t ≤ 64 ∧ sn ≤ 32 := by
    unfold fitsB at h1
    split at h1
    · rw [Bool.and_eq_true] at h1
      exact ⟨by omega, metaB_facts h1.1⟩
    · split at h1
      · rw [Bool.and_eq_true] at h1
        exact ⟨by omega, metaB_facts h1.1⟩
      · split at h1
        · rw [Bool.and_eq_true] at h1
          exact ⟨by omega, aloneB_facts h1.1⟩
        · split at h1
          · rw [Bool.and_eq_true] at h1
            exact ⟨by omega, aloneB_facts h1.1⟩
          · cases h1
  obtain ⟨⟨a1, a2⟩, ⟨b1, b2, b3, b4⟩, e1, e2, e3, e4, e5⟩ := hf
  exact ⟨a1, a2, by omega, b1, b2, b3, b4, e1, e2, e3, e4, e5, by omega, hpl⟩
theorem cells4M {w : World} {b : Nat} {v0 v1 v2 v3 : Value} {T : TypeId} (h : w.heap[b]? = some (.cells #[v0, v1, v2, v3] T (0, 0))) : w.cell? ⟨b, 0, none⟩ = some v0 ∧ w.cell? ⟨b, 1, none⟩ = some v1 ∧ w.cell? ⟨b, 2, none⟩ = some v2 ∧ w.cell? ⟨b, 3, none⟩ = some v3 :=
  ⟨cell_of_row _ _ 0 _ _ _ h, cell_of_row _ _ 1 _ _ _ h, cell_of_row _ _ 2 _ _ _ h, cell_of_row _ _ 3 _ _ _ h⟩
theorem Below.mono0 {a b : Nat} {w w0 : World} (h : Below a w0 w) (hb : b ≤ a) : Below b w0 w := h.mono hb
end Go.Proofs.YtopnjjehefaghaaDoor
namespace Go.Proofs.YtopnjjehefaghaaDoor
open Go.RowKit

/-- a place as the reference asks: not so. -/
def badP (U : Int) (p : PlR) : Bool := decide (p.b < 0 ∨ 1023 < p.b ∨ p.e < 0 ∨ 16777216 ≤ p.e ∨ p.s < 0 ∨ 511 < p.s ∨ (p.x.2.1 : Int) ≠ U ∨ (U = 0 ∧ p.s ≠ 0))
theorem badP_32 {k : Int} (hk : ¬ k = 4) (p : PlR) : badP 32 p = wrongB (slotsOf k) (sumOf k) p := by
  unfold badP wrongB slotsOf sumOf belowB
  rw [if_neg hk, if_neg hk, Bool.eq_iff_iff]
  simp
  omega
theorem badP_0 (p : PlR) : badP 0 p = wrongB (slotsOf 4) (sumOf 4) p := by
  unfold badP wrongB slotsOf sumOf belowB
  rw [if_pos rfl, if_pos rfl, Bool.eq_iff_iff]
  simp
  omega
theorem below_transM {a b c : World} (h : Below a.heap.size a b) (k : Below b.heap.size b c) : Below a.heap.size a c := h.trans (k.mono h.size)
theorem alone_split (N c s t : Int) (d : Bool) (n : Nat) : aloneB N c s t d n = (tagB N c && al4 s t d n) := rfl
end Go.Proofs.YtopnjjehefaghaaDoor
namespace Go.Proofs.YtopnjjehefaghaaDoor
open Go.RowKit

theorem rowV_oneM {w : World} {g : Nat} {x : Nat} {fr : Nat × Nat} (h : w.heap[g]? = some (.cells #[.int .u8 (x : Nat)] 5 fr)) : RowV w (some ⟨g, 0, none⟩) 1 ([x].map bv) :=
  ⟨rfl, fun _ => ⟨g, 0, rfl, fun i hi => by
    have h0 : i = 0 := by omega
    subst h0
    rw [cell_of_row _ _ _ _ _ _ h]; rfl⟩⟩
def KeepT (w w' : World) : Prop := ∀ (q : Nat) (xs : Array Value) (T : TypeId) (fr : Nat × Nat), T ≠ 5 → w.heap[q]? = some (Obj.cells xs T fr) → w'.heap[q]? = some (Obj.cells xs T fr)
theorem KeepT.refl (w : World) : KeepT w w := fun _ _ _ _ _ h => h
theorem KeepT.trans {w w1 w2 : World} (h : KeepT w w1) (k : KeepT w1 w2) : KeepT w w2 := fun q xs T fr hT hh => k q xs T fr hT (h q xs T fr hT hh)
theorem KeepT.below {w w' : World} (h : Below w.heap.size w w') : KeepT w w' := fun q _ _ _ _ hh => (h.block q (Array.getElem?_eq_some_iff.1 hh).1).trans hh
theorem KeepT.grown {w w' : World} {base n : Nat} {v : Value} {l : List Value} (h : w.ownsRow base 5 1 v n l) (hg : w.grownBy w' v.ownBlock) : KeepT w w' := fun q xs T fr hT hh => by
  refine (hg.block q (Array.getElem?_eq_some_iff.1 hh).1 ?_).trans hh
  intro e
  rcases h.2 with ⟨e1, _⟩ | ⟨g, cp, cur, e1, _, hb, _⟩
  · rw [e1] at e; cases e
  · rw [e1] at e
    obtain rfl : q = g := by injection e
    rw [hb] at hh
    injection hh with hh
    injection hh with _ hh
    exact hT hh.symm
end Go.Proofs.YtopnjjehefaghaaDoor
namespace Go.Proofs.YtopnjjehefaghaaDoor
open Go.RowKit

theorem own_lit2M (w : World) (x y : Int) : (w.alloc (.cells #[.int .u8 x, .int .u8 y] 5)).ownsRow w.heap.size 5 1 (.slice (some ⟨w.heap.size, 0, none⟩) 2 2) 2 [.int .u8 x, .int .u8 y] :=
  ⟨rfl, .inr ⟨w.heap.size, 2, #[.int .u8 x, .int .u8 y], rfl, Nat.le_refl _, heap_alloc_new w _, by decide, by decide, rfl, rfl⟩⟩
theorem u8_small (n : Int) (h0 : 0 ≤ n) (h : n < 256) : IntKind.u8.wrap n = ((n.toNat % 256 : Nat) : Int) := by
  simp [IntKind.wrap, IntKind.bits, IntKind.signed]
  omega
theorem own_belowM {w w' : World} {B n s : Nat} {T : TypeId} {v : Value} {xs : List Value} (h : w.ownsRow B T s v n xs) (hb : Below w.heap.size w w') : w'.ownsRow B T s v n xs := by
  refine ⟨h.1, ?_⟩
  rcases h.2 with e | ⟨g, cp, cur, e, hg, hh, rest⟩
  · exact .inl e
  · exact .inr ⟨g, cp, cur, e, hg, (hb.block g (Array.getElem?_eq_some_iff.1 hh).1).trans hh, rest⟩
theorem rowV_four {w : World} {g : Nat} {a b c d : Nat} {fr : Nat × Nat} (h : w.heap[g]? = some (.cells #[.int .u8 (a : Nat), .int .u8 (b : Nat), .int .u8 (c : Nat), .int .u8 (d : Nat)] 5 fr)) : RowV w (some ⟨g, 0, none⟩) 4 ([a, b, c, d].map bv) :=
  ⟨rfl, fun _ => ⟨g, 0, rfl, fun i hi => by
    rw [cell_of_row _ _ _ _ _ _ h]
    rcases (by omega : i = 0 ∨ i = 1 ∨ i = 2 ∨ i = 3) with rfl | rfl | rfl | rfl <;> rfl⟩⟩
end Go.Proofs.YtopnjjehefaghaaDoor
namespace Go.Proofs.YtopnjjehefaghaaDoor
open Go.RowKit

end Go.Proofs.YtopnjjehefaghaaDoor
namespace Go.Proofs.YtopnjjehefaghaaDoor
open Go.RowKit

def pcells (P : Nat → PlR) : Nat → List Value
  | 0 => []
  | m + 1 => pcells P m ++ [.int .i64 (P m).b, .int .i64 (P m).e, .int .i64 (P m).s, SV (P m).x]
theorem pcells_len (P : Nat → PlR) : ∀ n, (pcells P n).length = n * 4
  | 0 => rfl
  | m + 1 => by simp only [pcells, List.length_append, List.length_cons, List.length_nil, pcells_len P m]; omega
theorem pcells_ext {P P' : Nat → PlR} : ∀ n, (∀ i, i < n → P i = P' i) → pcells P n = pcells P' n
  | 0, _ => rfl
  | m + 1, h => by simp only [pcells]; rw [pcells_ext m (fun i hi => h i (by omega)), h m (by omega)]
theorem pcells_at (P : Nat → PlR) : ∀ (n i : Nat), i < n → (pcells P n)[i * 4]? = some (.int .i64 (P i).b) ∧ (pcells P n)[i * 4 + 1]? = some (.int .i64 (P i).e) ∧ (pcells P n)[i * 4 + 2]? = some (.int .i64 (P i).s) ∧ (pcells P n)[i * 4 + 3]? = some (SV (P i).x)
  | 0, i, h => absurd h (Nat.not_lt_zero _)
  | m + 1, i, h => by
    have hl := pcells_len P m
    by_cases e : i = m
    · subst e
      simp only [pcells]
      refine ⟨?_, ?_, ?_, ?_⟩ <;> rw [List.getElem?_append_right (by omega)] <;> simp [hl]
    · have := pcells_at P m i (by omega)
      simp only [pcells]
      rw [List.getElem?_append_left (by omega), List.getElem?_append_left (by omega), List.getElem?_append_left (by omega), List.getElem?_append_left (by omega)]
      exact this
/-- the same place, wherever its digest lies. -/
structure SameP (p q : PlR) : Prop where
  b : p.b = q.b
  e : p.e = q.e
  s : p.s = q.s
  l : p.l = q.l
  n : p.x.2.1 = q.x.2.1
theorem news4 {w : World} {g : Nat} {v0 v1 v2 v3 : Value} {T : TypeId} {fr : Nat × Nat} (h : w.heap[g]? = some (.cells #[v0, v1, v2, v3] T fr)) : ∀ j u, [v0, v1, v2, v3][j]? = some u → w.cell? ((⟨g, 0, none⟩ : Addr).add j) = some u := World.news_of_block h
end Go.Proofs.YtopnjjehefaghaaDoor
namespace Go.Proofs.YtopnjjehefaghaaDoor
open Go.RowKit

abbrev MT6 : TypeId := 26
theorem cells6X {w : World} {b : Nat} {v0 v1 v2 v3 v4 v5 : Value} {T : TypeId} (h : w.heap[b]? = some (.cells #[v0, v1, v2, v3, v4, v5] T (0, 0))) : w.cell? ⟨b, 0, none⟩ = some v0 ∧ w.cell? ⟨b, 1, none⟩ = some v1 ∧ w.cell? ⟨b, 2, none⟩ = some v2 ∧ w.cell? ⟨b, 3, none⟩ = some v3 ∧ w.cell? ⟨b, 4, none⟩ = some v4 ∧ w.cell? ⟨b, 5, none⟩ = some v5 ∧ ∀ j, w.frozen? ⟨b, j, none⟩ = false :=
  ⟨cell_of_row _ _ 0 _ _ _ h, cell_of_row _ _ 1 _ _ _ h, cell_of_row _ _ 2 _ _ _ h, cell_of_row _ _ 3 _ _ _ h, cell_of_row _ _ 4 _ _ _ h, cell_of_row _ _ 5 _ _ _ h, fun _ => frozen_of_row _ _ _ _ _ h⟩
theorem set6X {w : World} {g : Nat} {u0 u1 u2 u3 u4 u5 : Value} {T : TypeId} (x0 x1 x2 x3 x4 x5 : Value) (h : w.heap[g]? = some (.cells #[u0, u1, u2, u3, u4, u5] T (0, 0))) : ((((((w.setCell ⟨g, 0, none⟩ x0).setCell ⟨g, 1, none⟩ x1).setCell ⟨g, 2, none⟩ x2).setCell ⟨g, 3, none⟩ x3).setCell ⟨g, 4, none⟩ x4).setCell ⟨g, 5, none⟩ x5).heap[g]? = some (.cells #[x0, x1, x2, x3, x4, x5] T (0, 0)) :=
  heap_setCell_same _ g 5 _ _ _ (heap_setCell_same _ g 4 _ _ _ (heap_setCell_same _ g 3 _ _ _ (heap_setCell_same _ g 2 _ _ _ (heap_setCell_same _ g 1 _ _ _ (heap_setCell_same w g 0 _ _ _ h)))))
theorem grown6X (w : World) (g : Nat) (x0 x1 x2 x3 x4 x5 : Value) : w.grownBy ((((((w.setCell ⟨g, 0, none⟩ x0).setCell ⟨g, 1, none⟩ x1).setCell ⟨g, 2, none⟩ x2).setCell ⟨g, 3, none⟩ x3).setCell ⟨g, 4, none⟩ x4).setCell ⟨g, 5, none⟩ x5) (some g) :=
  (((((grownBy_setCellM _ ⟨g, 0, none⟩ x0).trans (grownBy_setCellM _ ⟨g, 1, none⟩ x1)).trans (grownBy_setCellM _ ⟨g, 2, none⟩ x2)).trans (grownBy_setCellM _ ⟨g, 3, none⟩ x3)).trans (grownBy_setCellM _ ⟨g, 4, none⟩ x4)).trans (grownBy_setCellM _ ⟨g, 5, none⟩ x5)
set_option maxRecDepth 100000 in
set_option maxHeartbeats 8000000 in
theorem copyMeta_any (N c s t : Int) (d : Bool) (sa : Option Addr) (sn sc : Nat) (sum : List Nat) (w : World) (hS : BytesV w (sa, sn, sc) sum) :
    Calls Tryd.prog 26 #[.agg #[.int .i64 N, .int .i64 c, .int .i64 s, .int .i64 t, .bool d, .slice sa sn sc]] w fun e w' => ∃ a cp, e = .returned (.agg #[.int .i64 N, .int .i64 c, .int .i64 s, .int .i64 t, .bool d, .slice a sn cp]) ∧ w'.ownsRow w.heap.size 5 1 (.slice a sn cp) sn (sum.map bv) ∧ Below w.heap.size w w' := by
  have hsl : sum.length = sn := hS.length
  obtain ⟨b, hb⟩ : ∃ b, b = w.heap.size := ⟨_, rfl⟩
  obtain ⟨w1, hw1⟩ : ∃ x, x = w.alloc (.cells #[.int .i64 N, .int .i64 c, .int .i64 s, .int .i64 t, .bool d, .slice sa sn sc] MT6) := ⟨_, rfl⟩
  have hs1 : w1.heap.size = b + 1 := by rw [hw1, hb]; simp
  obtain ⟨w2, hw2⟩ : ∃ x, x = w1.alloc (.cells #[.int .i64 0, .int .i64 0, .int .i64 0, .int .i64 0, .bool false, .slice none 0 0] MT6) := ⟨_, rfl⟩
  have h1 : w1.heap[b]? = some (.cells #[.int .i64 N, .int .i64 c, .int .i64 s, .int .i64 t, .bool d, .slice sa sn sc] MT6 (0, 0)) := by rw [hw1, hb]; exact heap_alloc_new w _
  have h2 : w2.heap[b]? = some (.cells #[.int .i64 N, .int .i64 c, .int .i64 s, .int .i64 t, .bool d, .slice sa sn sc] MT6 (0, 0)) := by rw [hw2, heap_alloc_old _ _ (by omega)]; exact h1
  have h3 : w2.heap[b + 1]? = some (.cells #[.int .i64 0, .int .i64 0, .int .i64 0, .int .i64 0, .bool false, .slice none 0 0] MT6 (0, 0)) := by rw [hw2, ← hs1]; exact heap_alloc_new w1 _
  have b2 : Below w.heap.size w w2 := by rw [hw2, hw1]; exact (below_alloc w _).trans ((below_alloc _ _).mono (by simp))
  have HW1 := Lib.hid hw1
  have HW2 := Lib.hid hw2
  have HBB := Lib.hid hb
  have H2 := Lib.hid h2
  have H3 := Lib.hid h3
  have B2 := Lib.hid b2
  have HS2 := Lib.hid (hS.below b2)
  have HS1 := Lib.hid hs1
  obtain ⟨c0, c1, c2, c3, c4, c5, c6⟩ := cells6X h2
  clear hw1 hw2 hb h1 h2 h3 b2 hS hs1
  go_enter Tryd.func26, Tryd.ntmps26
  go_upto_region 1 with fail
  rw [← HBB.out, ← HW1.out, ← HW2.out]
  have KC := copyBytes_any sa sn sc sum w2 HS2.out
  go_wp2_with fail
  (with_reducible refine KC.mono ?_)
  rintro e v1 ⟨a5, c5', rfl, o5, b5⟩
  rw [hsl] at o5 ⊢
  have hs3 : b + 1 < w2.heap.size := (Array.getElem?_eq_some_iff.1 H3.out).1
  have g2 := (b5.block b (by omega)).trans H2.out
  have G3 := Lib.hid ((b5.block (b + 1) hs3).trans H3.out)
  have q6 : v1.frozen? ⟨b, 5, none⟩ = false := frozen_of_row _ _ _ _ _ g2
  have q5 : v1.cell? ⟨b, 5, none⟩ = some (.slice sa sn sc) := cell_of_row _ _ 5 _ _ _ g2
  have HNB := Lib.hid (show (Value.slice a5 sn c5').ownBlock ≠ some (b + 1) from fun e => by have h1 := (o5.lt (b + 1) e).1; omega)
  have hlt5 : w2.heap.size ≤ v1.heap.size := b5.size
  obtain ⟨v2, hv2⟩ : ∃ x, x = v1.setCell ⟨b, 5, none⟩ (.slice a5 sn c5') := ⟨_, rfl⟩
  have hgr : v1.grownBy v2 (some b) := by rw [hv2]; exact grownBy_setCellM v1 ⟨b, 5, none⟩ _
  have k2 : v2.heap[b]? = some (.cells #[.int .i64 N, .int .i64 c, .int .i64 s, .int .i64 t, .bool d, .slice a5 sn c5'] MT6 (0, 0)) := by rw [hv2]; exact heap_setCell_same v1 b 5 _ _ _ g2
  have k3 : v2.heap[b + 1]? = some (.cells #[.int .i64 0, .int .i64 0, .int .i64 0, .int .i64 0, .bool false, .slice none 0 0] MT6 (0, 0)) := by rw [hv2]; exact (heap_setCell_other v1 ⟨b, 5, none⟩ (b + 1) _ (by simp)).trans G3.out
  have HO2 := Lib.hid (o5.kept hgr (.inr (fun e => by have := (o5.lt b e).1; omega)))
  have HB2 : Hid (Below w.heap.size w v2) := Lib.hid (by rw [hv2]; exact (B2.out.trans (b5.mono B2.out.size)).setCell (p := ⟨b, 5, none⟩) (Nat.le_of_eq HBB.out.symm) _)
  have HV2 := Lib.hid hv2
  have K3 := Lib.hid k3
  have K2 := Lib.hid k2
  clear c0 c1 c2 c3 c4 c5 c6 hv2 hgr o5 b5 g2 k2 k3 KC hlt5 hs3
  go_upto_region 2 with fail
  rw [← HV2.out]
  clear q5 q6
  obtain ⟨c0, c1, c2, c3, c4, c5, c6⟩ := cells6X K2.out
  obtain ⟨d0, d1, d2, d3, d4, d5, d6⟩ := cells6X K3.out
  go_wp2
  clear c0 c1 c2 c3 c4 c5 c6 d0 d1 d2 d3 d4 d5 d6 HW1 HW2 H2 H3
  refine bodyPost_ret (results_cell_row rfl _ _ (b + 1) MT6 #[.int .i64 N, .int .i64 c, .int .i64 s, .int .i64 t, .bool d, .slice a5 sn c5'] (0, 0) _ rfl ?hh Tryd.underlying26 rfl (by kernel_rfl)) rfl ⟨a5, c5', rfl, ?_, ?_⟩
  · exact set6X _ _ _ _ _ _ K3.out
  · have := HO2.out.kept (grown6X v2 (b + 1) (.int .i64 N) (.int .i64 c) (.int .i64 s) (.int .i64 t) (.bool d) (.slice a5 sn c5')) (.inr HNB.out)
    exact ownsRow_base this B2.out.size
  · exact HB2.out.grown (grown6X v2 (b + 1) _ _ _ _ _ _) HB2.out.size (fun k hk => by injection hk with hk; have := HBB.out; omega)

theorem set9X {w : World} {g : Nat} {u0 u1 u2 u3 u4 u5 u6 u7 u8 : Value} {T : TypeId} (x0 x1 x2 x3 x4 x5 x6 x7 x8 : Value) (h : w.heap[g]? = some (.cells #[u0, u1, u2, u3, u4, u5, u6, u7, u8] T (0, 0))) : (((((((((w.setCell ⟨g, 0, none⟩ x0).setCell ⟨g, 1, none⟩ x1).setCell ⟨g, 2, none⟩ x2).setCell ⟨g, 3, none⟩ x3).setCell ⟨g, 4, none⟩ x4).setCell ⟨g, 5, none⟩ x5).setCell ⟨g, 6, none⟩ x6).setCell ⟨g, 7, none⟩ x7).setCell ⟨g, 8, none⟩ x8).heap[g]? = some (.cells #[x0, x1, x2, x3, x4, x5, x6, x7, x8] T (0, 0)) := by
  have h0 : (w.setCell ⟨g, 0, none⟩ x0).heap[g]? = some (.cells #[x0, u1, u2, u3, u4, u5, u6, u7, u8] T (0, 0)) := heap_setCell_same w g 0 _ _ _ h
  have h1 : ((w.setCell ⟨g, 0, none⟩ x0).setCell ⟨g, 1, none⟩ x1).heap[g]? = some (.cells #[x0, x1, u2, u3, u4, u5, u6, u7, u8] T (0, 0)) := heap_setCell_same (w.setCell ⟨g, 0, none⟩ x0) g 1 _ _ _ h0
  have h2 : (((w.setCell ⟨g, 0, none⟩ x0).setCell ⟨g, 1, none⟩ x1).setCell ⟨g, 2, none⟩ x2).heap[g]? = some (.cells #[x0, x1, x2, u3, u4, u5, u6, u7, u8] T (0, 0)) := heap_setCell_same ((w.setCell ⟨g, 0, none⟩ x0).setCell ⟨g, 1, none⟩ x1) g 2 _ _ _ h1
  have h3 : ((((w.setCell ⟨g, 0, none⟩ x0).setCell ⟨g, 1, none⟩ x1).setCell ⟨g, 2, none⟩ x2).setCell ⟨g, 3, none⟩ x3).heap[g]? = some (.cells #[x0, x1, x2, x3, u4, u5, u6, u7, u8] T (0, 0)) := heap_setCell_same (((w.setCell ⟨g, 0, none⟩ x0).setCell ⟨g, 1, none⟩ x1).setCell ⟨g, 2, none⟩ x2) g 3 _ _ _ h2
  have h4 : (((((w.setCell ⟨g, 0, none⟩ x0).setCell ⟨g, 1, none⟩ x1).setCell ⟨g, 2, none⟩ x2).setCell ⟨g, 3, none⟩ x3).setCell ⟨g, 4, none⟩ x4).heap[g]? = some (.cells #[x0, x1, x2, x3, x4, u5, u6, u7, u8] T (0, 0)) := heap_setCell_same ((((w.setCell ⟨g, 0, none⟩ x0).setCell ⟨g, 1, none⟩ x1).setCell ⟨g, 2, none⟩ x2).setCell ⟨g, 3, none⟩ x3) g 4 _ _ _ h3
  have h5 : ((((((w.setCell ⟨g, 0, none⟩ x0).setCell ⟨g, 1, none⟩ x1).setCell ⟨g, 2, none⟩ x2).setCell ⟨g, 3, none⟩ x3).setCell ⟨g, 4, none⟩ x4).setCell ⟨g, 5, none⟩ x5).heap[g]? = some (.cells #[x0, x1, x2, x3, x4, x5, u6, u7, u8] T (0, 0)) := heap_setCell_same (((((w.setCell ⟨g, 0, none⟩ x0).setCell ⟨g, 1, none⟩ x1).setCell ⟨g, 2, none⟩ x2).setCell ⟨g, 3, none⟩ x3).setCell ⟨g, 4, none⟩ x4) g 5 _ _ _ h4
  have h6 : (((((((w.setCell ⟨g, 0, none⟩ x0).setCell ⟨g, 1, none⟩ x1).setCell ⟨g, 2, none⟩ x2).setCell ⟨g, 3, none⟩ x3).setCell ⟨g, 4, none⟩ x4).setCell ⟨g, 5, none⟩ x5).setCell ⟨g, 6, none⟩ x6).heap[g]? = some (.cells #[x0, x1, x2, x3, x4, x5, x6, u7, u8] T (0, 0)) := heap_setCell_same ((((((w.setCell ⟨g, 0, none⟩ x0).setCell ⟨g, 1, none⟩ x1).setCell ⟨g, 2, none⟩ x2).setCell ⟨g, 3, none⟩ x3).setCell ⟨g, 4, none⟩ x4).setCell ⟨g, 5, none⟩ x5) g 6 _ _ _ h5
  have h7 : ((((((((w.setCell ⟨g, 0, none⟩ x0).setCell ⟨g, 1, none⟩ x1).setCell ⟨g, 2, none⟩ x2).setCell ⟨g, 3, none⟩ x3).setCell ⟨g, 4, none⟩ x4).setCell ⟨g, 5, none⟩ x5).setCell ⟨g, 6, none⟩ x6).setCell ⟨g, 7, none⟩ x7).heap[g]? = some (.cells #[x0, x1, x2, x3, x4, x5, x6, x7, u8] T (0, 0)) := heap_setCell_same (((((((w.setCell ⟨g, 0, none⟩ x0).setCell ⟨g, 1, none⟩ x1).setCell ⟨g, 2, none⟩ x2).setCell ⟨g, 3, none⟩ x3).setCell ⟨g, 4, none⟩ x4).setCell ⟨g, 5, none⟩ x5).setCell ⟨g, 6, none⟩ x6) g 7 _ _ _ h6
  have h8 : (((((((((w.setCell ⟨g, 0, none⟩ x0).setCell ⟨g, 1, none⟩ x1).setCell ⟨g, 2, none⟩ x2).setCell ⟨g, 3, none⟩ x3).setCell ⟨g, 4, none⟩ x4).setCell ⟨g, 5, none⟩ x5).setCell ⟨g, 6, none⟩ x6).setCell ⟨g, 7, none⟩ x7).setCell ⟨g, 8, none⟩ x8).heap[g]? = some (.cells #[x0, x1, x2, x3, x4, x5, x6, x7, x8] T (0, 0)) := heap_setCell_same ((((((((w.setCell ⟨g, 0, none⟩ x0).setCell ⟨g, 1, none⟩ x1).setCell ⟨g, 2, none⟩ x2).setCell ⟨g, 3, none⟩ x3).setCell ⟨g, 4, none⟩ x4).setCell ⟨g, 5, none⟩ x5).setCell ⟨g, 6, none⟩ x6).setCell ⟨g, 7, none⟩ x7) g 8 _ _ _ h7
  exact h8
theorem grown9X (w : World) (g : Nat) (x0 x1 x2 x3 x4 x5 x6 x7 x8 : Value) : w.grownBy (((((((((w.setCell ⟨g, 0, none⟩ x0).setCell ⟨g, 1, none⟩ x1).setCell ⟨g, 2, none⟩ x2).setCell ⟨g, 3, none⟩ x3).setCell ⟨g, 4, none⟩ x4).setCell ⟨g, 5, none⟩ x5).setCell ⟨g, 6, none⟩ x6).setCell ⟨g, 7, none⟩ x7).setCell ⟨g, 8, none⟩ x8) (some g) := (World.grownBy.trans (World.grownBy.trans (World.grownBy.trans (World.grownBy.trans (World.grownBy.trans (World.grownBy.trans (World.grownBy.trans (World.grownBy.trans (grownBy_setCellM _ ⟨g, 0, none⟩ x0) (grownBy_setCellM _ ⟨g, 1, none⟩ x1)) (grownBy_setCellM _ ⟨g, 2, none⟩ x2)) (grownBy_setCellM _ ⟨g, 3, none⟩ x3)) (grownBy_setCellM _ ⟨g, 4, none⟩ x4)) (grownBy_setCellM _ ⟨g, 5, none⟩ x5)) (grownBy_setCellM _ ⟨g, 6, none⟩ x6)) (grownBy_setCellM _ ⟨g, 7, none⟩ x7)) (grownBy_setCellM _ ⟨g, 8, none⟩ x8))
theorem set62X {w : World} {g : Nat} {u0 u1 u2 u3 u4 u5 u6 u7 u8 : Value} {T : TypeId} (x0 x1 x2 x3 x4 x5 : Value) (h : w.heap[g]? = some (.cells #[u0, u1, u2, u3, u4, u5, u6, u7, u8] T (0, 0))) : ((((((w.setCell ⟨g, 2, none⟩ x0).setCell ⟨g, 3, none⟩ x1).setCell ⟨g, 4, none⟩ x2).setCell ⟨g, 5, none⟩ x3).setCell ⟨g, 6, none⟩ x4).setCell ⟨g, 7, none⟩ x5).heap[g]? = some (.cells #[u0, u1, x0, x1, x2, x3, x4, x5, u8] T (0, 0)) := by
  have h0 : (w.setCell ⟨g, 2, none⟩ x0).heap[g]? = some (.cells #[u0, u1, x0, u3, u4, u5, u6, u7, u8] T (0, 0)) := heap_setCell_same w g 2 _ _ _ h
  have h1 : ((w.setCell ⟨g, 2, none⟩ x0).setCell ⟨g, 3, none⟩ x1).heap[g]? = some (.cells #[u0, u1, x0, x1, u4, u5, u6, u7, u8] T (0, 0)) := heap_setCell_same (w.setCell ⟨g, 2, none⟩ x0) g 3 _ _ _ h0
  have h2 : (((w.setCell ⟨g, 2, none⟩ x0).setCell ⟨g, 3, none⟩ x1).setCell ⟨g, 4, none⟩ x2).heap[g]? = some (.cells #[u0, u1, x0, x1, x2, u5, u6, u7, u8] T (0, 0)) := heap_setCell_same ((w.setCell ⟨g, 2, none⟩ x0).setCell ⟨g, 3, none⟩ x1) g 4 _ _ _ h1
  have h3 : ((((w.setCell ⟨g, 2, none⟩ x0).setCell ⟨g, 3, none⟩ x1).setCell ⟨g, 4, none⟩ x2).setCell ⟨g, 5, none⟩ x3).heap[g]? = some (.cells #[u0, u1, x0, x1, x2, x3, u6, u7, u8] T (0, 0)) := heap_setCell_same (((w.setCell ⟨g, 2, none⟩ x0).setCell ⟨g, 3, none⟩ x1).setCell ⟨g, 4, none⟩ x2) g 5 _ _ _ h2
  have h4 : (((((w.setCell ⟨g, 2, none⟩ x0).setCell ⟨g, 3, none⟩ x1).setCell ⟨g, 4, none⟩ x2).setCell ⟨g, 5, none⟩ x3).setCell ⟨g, 6, none⟩ x4).heap[g]? = some (.cells #[u0, u1, x0, x1, x2, x3, x4, u7, u8] T (0, 0)) := heap_setCell_same ((((w.setCell ⟨g, 2, none⟩ x0).setCell ⟨g, 3, none⟩ x1).setCell ⟨g, 4, none⟩ x2).setCell ⟨g, 5, none⟩ x3) g 6 _ _ _ h3
  have h5 : ((((((w.setCell ⟨g, 2, none⟩ x0).setCell ⟨g, 3, none⟩ x1).setCell ⟨g, 4, none⟩ x2).setCell ⟨g, 5, none⟩ x3).setCell ⟨g, 6, none⟩ x4).setCell ⟨g, 7, none⟩ x5).heap[g]? = some (.cells #[u0, u1, x0, x1, x2, x3, x4, x5, u8] T (0, 0)) := heap_setCell_same (((((w.setCell ⟨g, 2, none⟩ x0).setCell ⟨g, 3, none⟩ x1).setCell ⟨g, 4, none⟩ x2).setCell ⟨g, 5, none⟩ x3).setCell ⟨g, 6, none⟩ x4) g 7 _ _ _ h4
  exact h5
theorem grown62X (w : World) (g : Nat) (x0 x1 x2 x3 x4 x5 : Value) : w.grownBy ((((((w.setCell ⟨g, 2, none⟩ x0).setCell ⟨g, 3, none⟩ x1).setCell ⟨g, 4, none⟩ x2).setCell ⟨g, 5, none⟩ x3).setCell ⟨g, 6, none⟩ x4).setCell ⟨g, 7, none⟩ x5) (some g) := (World.grownBy.trans (World.grownBy.trans (World.grownBy.trans (World.grownBy.trans (World.grownBy.trans (grownBy_setCellM _ ⟨g, 2, none⟩ x0) (grownBy_setCellM _ ⟨g, 3, none⟩ x1)) (grownBy_setCellM _ ⟨g, 4, none⟩ x2)) (grownBy_setCellM _ ⟨g, 5, none⟩ x3)) (grownBy_setCellM _ ⟨g, 6, none⟩ x4)) (grownBy_setCellM _ ⟨g, 7, none⟩ x5))
theorem cells9X {w : World} {b : Nat} {v0 v1 v2 v3 v4 v5 v6 v7 v8 : Value} {T : TypeId} (h : w.heap[b]? = some (.cells #[v0, v1, v2, v3, v4, v5, v6, v7, v8] T (0, 0))) : (∀ j, w.frozen? ⟨b, j, none⟩ = false) := fun _ => frozen_of_row _ _ _ _ _ h
end Go.Proofs.YtopnjjehefaghaaDoor
namespace Go.Proofs.YtopnjjehefaghaaDoor
open Go.RowKit

theorem eqlTag (a0 a1 : Int) (w : World) : (binOp .eql 23 (.agg #[.int .i64 a0, .int .i64 a1]) (.agg #[.int .i64 a0, .int .i64 a1])).run Tryd.prog w = .ok (.bool true) w := by
  rw [run_eql_struct, eqTag, decide_eq_true rfl]
  rfl
set_option maxRecDepth 100000 in
set_option maxHeartbeats 8000000 in
theorem sameMeta_self (N c s t : Int) (d : Bool) (sa : Option Addr) (sc : Nat) (ta : Option Addr) (sn tc : Nat) (sum : List Nat) (w : World) (h1 : BytesV w (sa, sn, sc) sum) (h2 : BytesV w (ta, sn, tc) sum) :
    Calls Tryd.prog 34 #[.agg #[.int .i64 N, .int .i64 c, .int .i64 s, .int .i64 t, .bool d, .slice sa sn sc], .agg #[.int .i64 N, .int .i64 c, .int .i64 s, .int .i64 t, .bool d, .slice ta sn tc]] w fun e w' => e = .returned (.bool true) ∧ Below w.heap.size w w' := by
  obtain ⟨b, hb⟩ : ∃ b, b = w.heap.size := ⟨_, rfl⟩
  obtain ⟨w1, hw1⟩ : ∃ x, x = w.alloc (.cells #[.int .i64 N, .int .i64 c, .int .i64 s, .int .i64 t, .bool d, .slice sa sn sc] MT6) := ⟨_, rfl⟩
  have hs1 : w1.heap.size = b + 1 := by rw [hw1, hb]; simp
  obtain ⟨w2, hw2⟩ : ∃ x, x = w1.alloc (.cells #[.int .i64 N, .int .i64 c, .int .i64 s, .int .i64 t, .bool d, .slice ta sn tc] MT6) := ⟨_, rfl⟩
  have k1 : w1.heap[b]? = some (.cells #[.int .i64 N, .int .i64 c, .int .i64 s, .int .i64 t, .bool d, .slice sa sn sc] MT6 (0, 0)) := by rw [hw1, hb]; exact heap_alloc_new w _
  have k2 : w2.heap[b]? = some (.cells #[.int .i64 N, .int .i64 c, .int .i64 s, .int .i64 t, .bool d, .slice sa sn sc] MT6 (0, 0)) := by rw [hw2, heap_alloc_old _ _ (by omega)]; exact k1
  have k3 : w2.heap[b + 1]? = some (.cells #[.int .i64 N, .int .i64 c, .int .i64 s, .int .i64 t, .bool d, .slice ta sn tc] MT6 (0, 0)) := by rw [hw2, ← hs1]; exact heap_alloc_new w1 _
  have b2 : Below w.heap.size w w2 := by rw [hw2, hw1]; exact (below_alloc w _).trans ((below_alloc _ _).mono (by simp))
  have hcall := sameBytes_any sa sn sc sum ta sn tc sum w2 (h1.below b2) (h2.below b2)
  rw [decide_eq_true rfl] at hcall
  have HC := Lib.hid hcall
  have HW1 := Lib.hid hw1
  have HW2 := Lib.hid hw2
  have HBB := Lib.hid hb
  have B2 := Lib.hid b2
  obtain ⟨c0, c1, c2, c3, c4, c5, -⟩ := cells6X k2
  obtain ⟨d0, d1, d2, d3, d4, d5, -⟩ := cells6X k3
  have he := fun w => eqlTag N c w
  have hse : (s == s) = true := by simp
  have hte : (t == t) = true := by simp
  clear hcall hw1 hw2 hb k1 k2 k3 b2 h1 h2 hs1
  go_enter Tryd.func34, Tryd.ntmps34
  go_upto_region 1 with fail
  rw [← HBB.out, ← HW1.out, ← HW2.out]
  go_wp2_with fail
  (with_reducible refine (HC.out).mono ?_)
  rintro e w3 ⟨rfl, b3⟩
  have B3 := Lib.hid (B2.out.trans (b3.mono B2.out.size))
  clear b3
  go_wp2
  go_ret
  exact ⟨rfl, B3.out⟩
end Go.Proofs.YtopnjjehefaghaaDoor
