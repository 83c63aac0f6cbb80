/-
  msg: the parts of a right message.
-/
import Derived.Test.YtopnjjehefaghaaDoorMMgC
namespace Go.Proofs.YtopnjjehefaghaaDoor
open Go.RowKit

def wiB (n b : Int) : Bool := decide (0 ≤ n ∧ n ≤ b)
theorem wiB_iff {n b : Int} : wiB n b = true ↔ 0 ≤ n ∧ n ≤ b := by unfold wiB; exact decide_eq_true_iff
set_option maxRecDepth 10000 in
set_option maxHeartbeats 1000000 in
theorem within_any (n b : Int) (w : World) : Calls Tryd.prog 41 #[.int .i64 n, .int .i64 b] w fun e w' => e = .returned (.bool (wiB n b)) ∧ w' = w := by
  by_cases k0 : 0 ≤ n
  · by_cases k1 : n ≤ b
    · go_enter Tryd.func41, Tryd.ntmps41
      go_wp2
      go_ret
      exact ⟨ret_boolM (Eq.symm (decide_eq_true (⟨k0, k1⟩))), rfl⟩
    · go_enter Tryd.func41, Tryd.ntmps41
      go_wp2
      go_ret
      exact ⟨ret_boolM (Eq.symm (decide_eq_false (fun h => absurd h.2 (by omega)))), rfl⟩
  · go_enter Tryd.func41, Tryd.ntmps41
    go_wp2
    go_ret
    exact ⟨ret_boolM (Eq.symm (decide_eq_false (fun h => absurd h.1 (by omega)))), rfl⟩
def noneB (m : MeR) : Bool := decide (m.N = 0 ∧ m.c = 0 ∧ m.s = 0 ∧ m.t = 0 ∧ m.d = false ∧ m.l = [])
theorem eqlTag2 (a0 a1 b0 b1 : Int) (w : World) : (binOp .eql 23 (.agg #[.int .i64 a0, .int .i64 a1]) (.agg #[.int .i64 b0, .int .i64 b1])).run Tryd.prog w = .ok (.bool (decide ((a0, a1) = (b0, b1)))) w := by
  rw [run_eql_struct, eqTag]
  rfl
def wrongS (p : Sy) : Bool := !wiB p.1 1023 || (!wiB p.2.1 16777215 || decide (64 < p.2.2.length))
def wrongI (i : ItR) : Bool := !keyB i.key.size || !metaOk i.m
theorem any_false {α : Type} {f : α → Bool} {l : List α} : l.any f = false ↔ ∀ (i : Nat) x, l[i]? = some x → f x = false := by
  constructor
  · intro h i x hx
    have := List.any_eq_false.1 h x (List.mem_of_getElem? hx)
    simpa using this
  · intro h
    refine List.any_eq_false.2 fun x hx => ?_
    obtain ⟨i, hi, e⟩ := List.getElem_of_mem hx
    have := h i x (by rw [← e]; exact List.getElem?_eq_getElem hi)
    simp [this]
def FoundG (T : Bool) (w0 : World) (x : Ending) (w' : World) : Prop := Below w0.heap.size w0 w' ∧ (T = true ∧ (∃ k : Nat, x = .returned (.int .i64 k) ∧ k ≤ 100000) ∨ T = false ∧ x = .returned (.int .i64 (-1)))

set_option maxRecDepth 10000 in
set_option maxHeartbeats 4000000 in
theorem nothing_any (m : MeR) (xa : Option Addr) (xn xc : Nat) (w : World) (hl : m.l.length = xn) : Calls Tryd.prog 43 #[.agg (MC m (xa, xn, xc))] w fun e w' => e = .returned (.bool (noneB m)) ∧ Below w.heap.size w w' := by
  obtain ⟨N, c, s, t, d, ml⟩ := m
  simp only at hl
  have KE := fun w => eqlTag2 N c 0 0 w
  have hb := below_alloc w (.cells #[.int .i64 N, .int .i64 c, .int .i64 s, .int .i64 t, .bool d, .slice xa xn xc] MT6)
  have HB := Lib.hid hb
  have HL := Lib.hid hl
  clear hb hl
  by_cases e0 : (N, c) = (0, 0)
  rotate_left 1
  · have KF : ∀ w, (binOp .eql 23 (.agg #[.int .i64 N, .int .i64 c]) (.agg #[.int .i64 0, .int .i64 0])).run Tryd.prog w = .ok (.bool false) w := fun w => by rw [KE w, decide_eq_false e0]
    clear KE
    go_enter Tryd.func43, Tryd.ntmps43
    go_wp2
    go_ret
    exact ⟨ret_boolM (Eq.symm (decide_eq_false (fun h => e0 (by rw [show N = 0 from h.1, show c = 0 from h.2.1])))), below_alloc w _⟩
  have KT : ∀ w, (binOp .eql 23 (.agg #[.int .i64 N, .int .i64 c]) (.agg #[.int .i64 0, .int .i64 0])).run Tryd.prog w = .ok (.bool true) w := fun w => by rw [KE w, decide_eq_true e0]
  clear KE
  by_cases e1 : s = 0
  rotate_left 1
  · go_enter Tryd.func43, Tryd.ntmps43
    go_wp2
    go_ret
    exact ⟨ret_boolM (Eq.symm (decide_eq_false (fun h => e1 h.2.2.1))), below_alloc w _⟩
  have e1' := e1
  by_cases e2 : t = 0
  rotate_left 1
  · go_enter Tryd.func43, Tryd.ntmps43
    go_wp2
    go_ret
    exact ⟨ret_boolM (Eq.symm (decide_eq_false (fun h => e2 h.2.2.2.1))), below_alloc w _⟩
  have e2' := e2
  cases d with
  | true =>
    go_enter Tryd.func43, Tryd.ntmps43
    go_wp2
    go_ret
    exact ⟨ret_boolM (Eq.symm (decide_eq_false (fun h => absurd h.2.2.2.2.1 (by simp)))), below_alloc w _⟩
  | false =>
    by_cases e4 : xn = 0
    rotate_left 1
    · go_enter Tryd.func43, Tryd.ntmps43
      go_wp2
      go_ret
      exact ⟨ret_boolM ((beq_eq_false_iff_ne.2 (by omega) : ((xn : Int) == 0) = false).trans (Eq.symm (decide_eq_false (fun h => e4 (by rw [← HL.out, show ml = [] from h.2.2.2.2.2]; rfl))))), below_alloc w _⟩
    go_enter Tryd.func43, Tryd.ntmps43
    go_wp2
    go_ret
    exact ⟨ret_boolM (Eq.symm (decide_eq_true ⟨(Prod.mk.inj e0).1, (Prod.mk.inj e0).2, e1, e2, rfl, List.eq_nil_of_length_eq_zero (by rw [HL.out]; exact e4)⟩)), below_alloc w _⟩
set_option maxRecDepth 10000 in
set_option maxHeartbeats 4000000 in
theorem wrongSym_any (p : Sy) (xa : Option Addr) (xn xc : Nat) (w : World) (hl : p.2.2.length = xn) : Calls Tryd.prog 45 #[.agg #[.int .i64 p.1, .int .i64 p.2.1, .slice xa xn xc]] w fun e w' => e = .returned (.bool (wrongS p)) ∧ Below w.heap.size w w' := by
  obtain ⟨z, e, l⟩ := p
  simp only at hl ⊢
  have K1 := fun w => within_any z 1023 w
  have K2 := fun w => within_any e 16777215 w
  have hb := below_alloc w (.cells #[.int .i64 z, .int .i64 e, .slice xa xn xc] ST3)
  obtain ⟨A, hA⟩ : ∃ A, A = wiB z 1023 := ⟨_, rfl⟩
  obtain ⟨B, hB⟩ : ∃ B, B = wiB e 16777215 := ⟨_, rfl⟩
  have HR := Lib.hid (show wrongS (z, e, l) = (!A || (!B || decide (64 < xn))) by rw [hA, hB, ← hl]; rfl)
  rw [← hA] at K1
  rw [← hB] at K2
  have HB := Lib.hid hb
  clear hb hl hA hB
  cases A with
  | false =>
    go_enter Tryd.func45, Tryd.ntmps45
    go_wp2_with fail
    (with_reducible refine (K1 _).mono ?_)
    rintro e' _ ⟨rfl, rfl⟩
    go_wp2
    go_ret
    exact ⟨by rw [HR.out]; rfl, HB.out⟩
  | true =>
    cases B with
    | false =>
      go_enter Tryd.func45, Tryd.ntmps45
      go_wp2_with fail
      (with_reducible refine (K1 _).mono ?_)
      rintro e' _ ⟨rfl, rfl⟩
      go_wp2_with fail
      (with_reducible refine (K2 _).mono ?_)
      rintro e' _ ⟨rfl, rfl⟩
      go_wp2
      go_ret
      exact ⟨by rw [HR.out]; rfl, HB.out⟩
    | true =>
      by_cases h64 : 64 < xn
      · have h64' : 64 < (xn : Int) := by omega
        go_enter Tryd.func45, Tryd.ntmps45
        go_wp2_with fail
        (with_reducible refine (K1 _).mono ?_)
        rintro e' _ ⟨rfl, rfl⟩
        go_wp2_with fail
        (with_reducible refine (K2 _).mono ?_)
        rintro e' _ ⟨rfl, rfl⟩
        go_wp2
        go_ret
        exact ⟨by rw [HR.out, decide_eq_true h64]; rfl, HB.out⟩
      · have h64' : ¬ 64 < (xn : Int) := by omega
        go_enter Tryd.func45, Tryd.ntmps45
        go_wp2_with fail
        (with_reducible refine (K1 _).mono ?_)
        rintro e' _ ⟨rfl, rfl⟩
        go_wp2_with fail
        (with_reducible refine (K2 _).mono ?_)
        rintro e' _ ⟨rfl, rfl⟩
        go_wp2
        go_ret
        exact ⟨by rw [HR.out, decide_eq_false h64]; exact ret_boolM (decide_eq_false (by omega)), HB.out⟩
set_option maxRecDepth 10000 in
set_option maxHeartbeats 4000000 in
theorem wrongItem_any (i : ItR) (xa : Option Addr) (xn xc : Nat) (w : World) (hl : i.m.l.length = xn) : Calls Tryd.prog 47 #[.agg #[.string i.key, .int .i64 i.m.N, .int .i64 i.m.c, .int .i64 i.m.s, .int .i64 i.m.t, .bool i.m.d, .slice xa xn xc]] w fun e w' => e = .returned (.bool (wrongI i)) ∧ Below w.heap.size w w' := by
  obtain ⟨key, N, c, s, t, d, l⟩ := i
  simp only at hl ⊢
  have K1 := fun w => key_any key w
  have K2 := fun w => check_any N c s t d xa xn xc w
  have hb := below_alloc w (.cells #[.string key, .int .i64 N, .int .i64 c, .int .i64 s, .int .i64 t, .bool d, .slice xa xn xc] IT7)
  obtain ⟨A, hA⟩ : ∃ A, A = keyB key.size := ⟨_, rfl⟩
  obtain ⟨B, hB⟩ : ∃ B, B = metaB N c s t d xn := ⟨_, rfl⟩
  have HR := Lib.hid (show wrongI ⟨key, N, c, s, t, d, l⟩ = (!A || !B) by rw [hA, hB, ← hl]; rfl)
  rw [← hA] at K1
  rw [← hB] at K2
  have HB := Lib.hid hb
  clear hb hl hA hB
  cases A with
  | false =>
    go_enter Tryd.func47, Tryd.ntmps47
    go_wp2_with fail
    (with_reducible refine (K1 _).mono ?_)
    rintro e' _ ⟨rfl, rfl⟩
    go_wp2
    go_ret
    exact ⟨by rw [HR.out]; rfl, HB.out⟩
  | true =>
    cases B with
    | false =>
      rw [if_neg (by decide)] at K2
      go_enter Tryd.func47, Tryd.ntmps47
      go_wp2_with fail
      (with_reducible refine (K1 _).mono ?_)
      rintro e' _ ⟨rfl, rfl⟩
      go_wp2_with fail
      (with_reducible refine (K2 _).mono ?_)
      rintro e' w2 ⟨rfl, b2⟩
      go_wp2
      go_ret
      exact ⟨by rw [HR.out]; rfl, HB.out.trans (b2.mono (by simp))⟩
    | true =>
      rw [if_pos rfl] at K2
      go_enter Tryd.func47, Tryd.ntmps47
      go_wp2_with fail
      (with_reducible refine (K1 _).mono ?_)
      rintro e' _ ⟨rfl, rfl⟩
      go_wp2_with fail
      (with_reducible refine (K2 _).mono ?_)
      rintro e' w2 ⟨rfl, b2⟩
      go_wp2
      go_ret
      exact ⟨by rw [HR.out]; rfl, HB.out.trans (b2.mono (by simp))⟩
set_option maxRecDepth 10000 in
set_option maxHeartbeats 4000000 in
theorem indexS_any (a : Option Addr) (n c : Nat) (ss : List Sy) (w : World) (h : SyV w a n ss) (hn : n ≤ 100000) :
    Calls Tryd.prog 63 #[.slice a n c, .func (.func 45) #[] #[]] w (FoundG (ss.any wrongS) w) := by
  have H := Lib.hid h
  have HLEN := Lib.hid h.len
  clear h
  obtain ⟨T, hT⟩ : ∃ T, T = ss.any wrongS := ⟨_, rfl⟩
  rw [← hT]
  have HT := Lib.hid hT
  clear hT
  go_enter Tryd.func63, Tryd.ntmps63
  go_wp2
  go_loopw [8] (fun i wr => ∃ k : Nat, k ≤ n ∧ i = .int .i64 (k : Nat) ∧ Hid (∀ j x, j < k → ss[j]? = some x → wrongS x = false) ∧ Hid (Below w.heap.size w wr)) (fun i _ => n - (intOf i).toNat)
  case atStart => exact ⟨0, Nat.zero_le _, rfl, Lib.hid (fun j x hj => absurd hj (Nat.not_lt_zero _)), Lib.hid (Below.refl _ _)⟩
  case round =>
    obtain ⟨k, hk, rfl, HZ, hB⟩ := hrel
    by_cases hlt : k < n
    · obtain ⟨q, off, z, e, a2, n2, c2, l2, rfl, s0, s1, s2, hpi, hby⟩ := H.out.at hlt
      have q0 := cell_below s0 hB.out
      have q1 := cell_below s1 hB.out
      have q2 := cell_below s2 hB.out
      have KP := wrongSym_any (z, e, l2) a2 n2 c2 wr hby.length
      simp only at KP
      clear s0 s1 s2 hby
      have hsz := hB.out.size
      have hkI : (k : Int) < (n : Int) := by omega
      have HPI := Lib.hid hpi
      obtain ⟨V, hV⟩ : ∃ V, V = wrongS (z, e, l2) := ⟨_, rfl⟩
      rw [← hV] at KP
      have HV := Lib.hid hV
      clear hpi hV
      cases V
      · go_wp2_with fail
        (with_reducible refine KP.mono ?_)
        rintro x w5 ⟨rfl, b5⟩
        have hb5 := Lib.hid (hB.out.trans (b5.mono hsz))
        clear b5 hB KP
        go_wp2
        go_roundw
        case rel => exact ⟨k + 1, by omega, by go_num, Lib.hid (fun j x hj hx => (by
          by_cases e1 : j = k
          · rw [e1, HPI.out] at hx
            injection hx with hx
            rw [← hx]
            exact HV.out.symm
          · exact HZ.out j x (by omega) hx)), hb5⟩
        case measure => simp [intOf]; omega
      · go_wp2_with fail
        (with_reducible refine KP.mono ?_)
        rintro x w5 ⟨rfl, b5⟩
        have hb5 := Lib.hid (hB.out.trans (b5.mono hsz))
        clear b5 hB KP
        have htt : T = true := by
          rw [HT.out]
          cases hbd : ss.any wrongS with
          | true => rfl
          | false =>
            have := any_false.1 hbd k _ HPI.out
            rw [← HV.out] at this
            cases this
        have HTT := Lib.hid htt
        clear htt
        go_wp2
        go_ret
        exact ⟨hb5.out, .inl ⟨HTT.out, k, rfl, by omega⟩⟩
    · obtain rfl : k = n := by omega
      have htt : T = false := by
        rw [HT.out]
        exact any_false.2 fun i x hx => HZ.out i x (by have := (List.getElem?_eq_some_iff.1 hx).1; rw [HLEN.out] at this; exact this) hx
      have HTT := Lib.hid htt
      clear htt
      go_wp2
      go_ret
      exact ⟨hB.out, .inr ⟨HTT.out, rfl⟩⟩
set_option maxRecDepth 10000 in
set_option maxHeartbeats 4000000 in
theorem containsS_any (a : Option Addr) (n c : Nat) (ss : List Sy) (w : World) (h : SyV w a n ss) (hn : n ≤ 100000) :
    Calls Tryd.prog 44 #[.slice a n c, .func (.func 45) #[] #[]] w fun x w' => x = .returned (.bool (ss.any wrongS)) ∧ Below w.heap.size w w' := by
  have KI := indexS_any a n c ss w h hn
  clear h
  obtain ⟨T, hT⟩ : ∃ T, T = ss.any wrongS := ⟨_, rfl⟩
  rw [← hT] at KI ⊢
  clear hT
  go_enter Tryd.func44, Tryd.ntmps44
  go_wp2_with fail
  (with_reducible refine KI.mono ?_)
  rintro x w2 ⟨b2, ⟨rfl, k, rfl, hk⟩ | ⟨rfl, rfl⟩⟩
  · have hk0 : (0 : Int) ≤ (k : Int) := by omega
    go_wp2
    go_ret
    exact ⟨rfl, b2⟩
  · go_wp2
    go_ret
    exact ⟨rfl, b2⟩
set_option maxRecDepth 10000 in
set_option maxHeartbeats 4000000 in
theorem indexI_any (a : Option Addr) (n c : Nat) (ss : List ItR) (w : World) (h : ItV w a n ss) (hn : n ≤ 100000) :
    Calls Tryd.prog 64 #[.slice a n c, .func (.func 47) #[] #[]] w (FoundG (ss.any wrongI) w) := by
  have H := Lib.hid h
  have HLEN := Lib.hid h.len
  clear h
  obtain ⟨T, hT⟩ : ∃ T, T = ss.any wrongI := ⟨_, rfl⟩
  rw [← hT]
  have HT := Lib.hid hT
  clear hT
  go_enter Tryd.func64, Tryd.ntmps64
  go_wp2
  go_loopw [8] (fun i wr => ∃ k : Nat, k ≤ n ∧ i = .int .i64 (k : Nat) ∧ Hid (∀ j x, j < k → ss[j]? = some x → wrongI x = false) ∧ Hid (Below w.heap.size w wr)) (fun i _ => n - (intOf i).toNat)
  case atStart => exact ⟨0, Nat.zero_le _, rfl, Lib.hid (fun j x hj => absurd hj (Nat.not_lt_zero _)), Lib.hid (Below.refl _ _)⟩
  case round =>
    obtain ⟨k, hk, rfl, HZ, hB⟩ := hrel
    by_cases hlt : k < n
    · obtain ⟨q, off, y, ⟨ya, yn, yc⟩, rfl, hpi, hat⟩ := H.out.at hlt
      obtain ⟨ykey, ym⟩ := y
      obtain ⟨p0, p1, p2, p3, p4, p5, p6, hby⟩ := hat.below hB.out
      simp only at p0 p1 p2 p3 p4 p5 p6 hby
      have KP := wrongItem_any ⟨ykey, ym⟩ ya yn yc wr hby.length
      simp only at KP
      clear hby hat
      have hsz := hB.out.size
      have hkI : (k : Int) < (n : Int) := by omega
      have HPI := Lib.hid hpi
      obtain ⟨V, hV⟩ : ∃ V, V = wrongI ⟨ykey, ym⟩ := ⟨_, rfl⟩
      rw [← hV] at KP
      have HV := Lib.hid hV
      clear hpi hV
      cases V
      · go_wp2_with fail
        (with_reducible refine KP.mono ?_)
        rintro x w5 ⟨rfl, b5⟩
        have hb5 := Lib.hid (hB.out.trans (b5.mono hsz))
        clear b5 hB KP
        go_wp2
        go_roundw
        case rel => exact ⟨k + 1, by omega, by go_num, Lib.hid (fun j x hj hx => (by
          by_cases e1 : j = k
          · rw [e1, HPI.out] at hx
            injection hx with hx
            rw [← hx]
            exact HV.out.symm
          · exact HZ.out j x (by omega) hx)), hb5⟩
        case measure => simp [intOf]; omega
      · go_wp2_with fail
        (with_reducible refine KP.mono ?_)
        rintro x w5 ⟨rfl, b5⟩
        have hb5 := Lib.hid (hB.out.trans (b5.mono hsz))
        clear b5 hB KP
        have htt : T = true := by
          rw [HT.out]
          cases hbd : ss.any wrongI with
          | true => rfl
          | false =>
            have := any_false.1 hbd k _ HPI.out
            rw [← HV.out] at this
            cases this
        have HTT := Lib.hid htt
        clear htt
        go_wp2
        go_ret
        exact ⟨hb5.out, .inl ⟨HTT.out, k, rfl, by omega⟩⟩
    · obtain rfl : k = n := by omega
      have htt : T = false := by
        rw [HT.out]
        exact any_false.2 fun i x hx => HZ.out i x (by have := (List.getElem?_eq_some_iff.1 hx).1; rw [HLEN.out] at this; exact this) hx
      have HTT := Lib.hid htt
      clear htt
      go_wp2
      go_ret
      exact ⟨hB.out, .inr ⟨HTT.out, rfl⟩⟩
set_option maxRecDepth 10000 in
set_option maxHeartbeats 4000000 in
theorem containsI_any (a : Option Addr) (n c : Nat) (ss : List ItR) (w : World) (h : ItV w a n ss) (hn : n ≤ 100000) :
    Calls Tryd.prog 46 #[.slice a n c, .func (.func 47) #[] #[]] w fun x w' => x = .returned (.bool (ss.any wrongI)) ∧ Below w.heap.size w w' := by
  have KI := indexI_any a n c ss w h hn
  clear h
  obtain ⟨T, hT⟩ : ∃ T, T = ss.any wrongI := ⟨_, rfl⟩
  rw [← hT] at KI ⊢
  clear hT
  go_enter Tryd.func46, Tryd.ntmps46
  go_wp2_with fail
  (with_reducible refine KI.mono ?_)
  rintro x w2 ⟨b2, ⟨rfl, k, rfl, hk⟩ | ⟨rfl, rfl⟩⟩
  · have hk0 : (0 : Int) ≤ (k : Int) := by omega
    go_wp2
    go_ret
    exact ⟨rfl, b2⟩
  · go_wp2
    go_ret
    exact ⟨rfl, b2⟩
end Go.Proofs.YtopnjjehefaghaaDoor
