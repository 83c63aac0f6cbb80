/-
  meta: places in memory; is a record right?
-/
import Derived.Test.YthofndobmiamjaaDoorMeM
import Derived.Test.YthofndobmiamjaaDoorUse2
namespace Go.Proofs.YthofndobmiamjaaDoor
open Go.RowKit

/-- a place: its numbers, its digest and where that lies. -/
structure PlR where
  b : Int
  e : Int
  s : Int
  x : Option Addr × Nat × Nat
  l : List Nat
structure PlAt (w : World) (b o : Nat) (p : PlR) : Prop where
  c0 : w.cell? ⟨b, o, none⟩ = some (.int .i64 p.b)
  c1 : w.cell? ⟨b, o + 1, none⟩ = some (.int .i64 p.e)
  c2 : w.cell? ⟨b, o + 2, none⟩ = some (.int .i64 p.s)
  c3 : w.cell? ⟨b, o + 3, none⟩ = some (.slice p.x.1 p.x.2.1 p.x.2.2)
  by_ : BytesV w (p.x.1, p.x.2.1, p.x.2.2) p.l
theorem PlAt.below {w w' : World} {b o : Nat} {p : PlR} (h : PlAt w b o p) (hlt : b < w.heap.size) (hb : Below w.heap.size w w') : PlAt w' b o p :=
  ⟨(hb.cell (p := ⟨b, o, none⟩) hlt).trans h.c0, (hb.cell (p := ⟨b, o + 1, none⟩) hlt).trans h.c1, (hb.cell (p := ⟨b, o + 2, none⟩) hlt).trans h.c2, (hb.cell (p := ⟨b, o + 3, none⟩) hlt).trans h.c3, h.by_.below hb⟩
structure PlacesV (w : World) (ad : Option Addr) (n c : Nat) (P : Nat → PlR) : Prop where
  small : n ≤ maxLen
  cap : n ≤ c
  nil : ad = none → c = 0
  row : 0 < n → ∃ b o, ad = some ⟨b, o, none⟩ ∧ b < w.heap.size ∧ ∀ i, i < n → PlAt w b (o + i * 4) (P i)
theorem PlacesV.below {w w' : World} {ad : Option Addr} {n c : Nat} {P : Nat → PlR} (h : PlacesV w ad n c P) (hb : Below w.heap.size w w') : PlacesV w' ad n c P :=
  ⟨h.small, h.cap, h.nil, fun h0 => by
    obtain ⟨b, o, e, hlt, hc⟩ := h.row h0
    exact ⟨b, o, e, Nat.lt_of_lt_of_le hlt hb.size, fun i hi => (hc i hi).below hlt hb⟩⟩
abbrev PT4 : TypeId := 85
abbrev RT9 : TypeId := 65
def wrongB (S U : Int) (p : PlR) : Bool := !(belowB p.b 1024 && (belowB p.e 16777216 && (belowB p.s S && decide ((p.x.2.1 : Int) = U))))
set_option maxRecDepth 100000 in
set_option maxHeartbeats 4000000 in
theorem wrong_any (S U : Int) (p : PlR) (g1 g2 : Nat) (w : World) (h1 : w.cell? ⟨g1, 0, none⟩ = some (.int .i64 S)) (h2 : w.cell? ⟨g2, 0, none⟩ = some (.int .i64 U)) :
    Calls Tryd.prog 52 #[.agg #[.int .i64 p.b, .int .i64 p.e, .int .i64 p.s, .slice p.x.1 p.x.2.1 p.x.2.2], .pointer (some ⟨g1, 0, none⟩), .pointer (some ⟨g2, 0, none⟩)] w fun x w' => x = .returned (.bool (wrongB S U p)) ∧ Below w.heap.size w w' := by
  obtain ⟨b, e, s, ⟨xa, xn, xc⟩, l⟩ := p
  unfold wrongB
  simp only
  have K1 := below_anyM b 1024
  have K2 := below_anyM e 16777216
  have K3 := below_anyM s S
  have hb := below_alloc w (.cells #[.int .i64 b, .int .i64 e, .int .i64 s, .slice xa xn xc] PT4)
  have q1 := (hb.cell (p := ⟨g1, 0, none⟩) (World.block_lt_of_cell? w _ h1)).trans h1
  have q2 := (hb.cell (p := ⟨g2, 0, none⟩) (World.block_lt_of_cell? w _ h2)).trans h2
  have hh := heap_alloc_new w (.cells #[.int .i64 b, .int .i64 e, .int .i64 s, .slice xa xn xc] PT4)
  obtain ⟨w1, hw1⟩ : ∃ x, x = w.alloc (.cells #[.int .i64 b, .int .i64 e, .int .i64 s, .slice xa xn xc] PT4) := ⟨_, rfl⟩
  rw [← hw1] at hb q1 q2 hh
  have c0 : w1.cell? ⟨w.heap.size, 0, none⟩ = some (.int .i64 b) := cell_of_row _ _ 0 _ _ _ hh
  have c1 : w1.cell? ⟨w.heap.size, 1, none⟩ = some (.int .i64 e) := cell_of_row _ _ 1 _ _ _ hh
  have c2 : w1.cell? ⟨w.heap.size, 2, none⟩ = some (.int .i64 s) := cell_of_row _ _ 2 _ _ _ hh
  have c3 : w1.cell? ⟨w.heap.size, 3, none⟩ = some (.slice xa xn xc) := cell_of_row _ _ 3 _ _ _ hh
  have HW := Lib.hid hw1
  generalize belowB b 1024 = t1 at K1 ⊢
  generalize belowB e 16777216 = t2 at K2 ⊢
  generalize belowB s S = t3 at K3 ⊢
  clear hw1 hh h1 h2
  cases t1
  · simp only [Bool.false_and, Bool.not_false]
    go_enter Tryd.func52, Tryd.ntmps52
    go_upto_region 1 with fail
    rw [← HW.out]
    go_wp2_with (first | (go_at_call 53; (with_reducible refine (K1 _).mono ?_); rintro e w2 ⟨rfl, rfl⟩))
    go_ret
    exact ⟨rfl, hb⟩
  simp only [Bool.true_and]
  cases t2
  · simp only [Bool.false_and, Bool.not_false]
    go_enter Tryd.func52, Tryd.ntmps52
    go_upto_region 1 with fail
    rw [← HW.out]
    go_wp2_with (first | (go_at_call 53; (with_reducible first | refine (K1 _).mono ?_ | refine (K2 _).mono ?_); rintro e w2 ⟨rfl, rfl⟩))
    go_ret
    exact ⟨rfl, hb⟩
  simp only [Bool.true_and]
  cases t3
  · simp only [Bool.false_and, Bool.not_false]
    go_enter Tryd.func52, Tryd.ntmps52
    go_upto_region 1 with fail
    rw [← HW.out]
    go_wp2_with (first | (go_at_call 53; (with_reducible first | refine (K1 _).mono ?_ | refine (K2 _).mono ?_ | refine (K3 _).mono ?_); rintro e w2 ⟨rfl, rfl⟩))
    go_ret
    exact ⟨rfl, hb⟩
  simp only [Bool.true_and]
  by_cases hl : (xn : Int) = U
  · have HL := Lib.hid hl
    have e1 : ((xn : Int) != U) = false := by simpa using hl
    rw [decide_eq_true hl]
    simp only [Bool.not_true]
    clear hl
    go_enter Tryd.func52, Tryd.ntmps52
    go_upto_region 1 with fail
    rw [← HW.out]
    go_wp2_with (first | (go_at_call 53; (with_reducible first | refine (K1 _).mono ?_ | refine (K2 _).mono ?_ | refine (K3 _).mono ?_); rintro e w2 ⟨rfl, rfl⟩))
    go_ret
    exact ⟨rfl, hb⟩
  · have HL := Lib.hid hl
    have e1 : ((xn : Int) != U) = true := by simpa using hl
    rw [decide_eq_false hl]
    simp only [Bool.not_false]
    clear hl
    go_enter Tryd.func52, Tryd.ntmps52
    go_upto_region 1 with fail
    rw [← HW.out]
    go_wp2_with (first | (go_at_call 53; (with_reducible first | refine (K1 _).mono ?_ | refine (K2 _).mono ?_ | refine (K3 _).mono ?_); rintro e w2 ⟨rfl, rfl⟩))
    go_ret
    exact ⟨rfl, hb⟩
/-- is one of the first n wrong? -/
def someWrong (S U : Int) (P : Nat → PlR) (n : Nat) : Bool := (List.range n).any fun i => wrongB S U (P i)
theorem someWrong_false {S U : Int} {P : Nat → PlR} {n : Nat} : someWrong S U P n = false ↔ ∀ i, i < n → wrongB S U (P i) = false := by
  unfold someWrong
  rw [List.any_eq_false]
  constructor
  · intro h i hi; have := h i (by simpa using hi); simpa using this
  · intro h i hi; have := h i (by simpa using hi); simp [this]
def FoundM (t : Bool) (w : World) (e : Ending) (w' : World) : Prop := Below w.heap.size w w' ∧ ((t = true ∧ ∃ k : Nat, e = .returned (.int .i64 (k : Int)) ∧ k ≤ 140737488355328) ∨ (t = false ∧ e = .returned (.int .i64 (-1))))
set_option maxRecDepth 100000 in
set_option maxHeartbeats 4000000 in
theorem indexWrong_any (S U : Int) (g1 g2 : Nat) (a : Option Addr) (n c : Nat) (P : Nat → PlR) (w : World) (h : PlacesV w a n c P) (hn : n ≤ 100000) (h1 : w.cell? ⟨g1, 0, none⟩ = some (.int .i64 S)) (h2 : w.cell? ⟨g2, 0, none⟩ = some (.int .i64 U)) :
    Calls Tryd.prog 54 #[.slice a n c, .func (.func 52) #[] #[.pointer (some ⟨g1, 0, none⟩), .pointer (some ⟨g2, 0, none⟩)]] w (FoundM (someWrong S U P n) w) := by
  have H := Lib.hid h
  have hcap := h.cap
  have KW := Lib.hid (fun (k : Nat) (w2 : World) (b2 : Below w.heap.size w w2) => wrong_any S U (P k) g1 g2 w2 ((b2.cell (p := ⟨g1, 0, none⟩) (World.block_lt_of_cell? w _ h1)).trans h1) ((b2.cell (p := ⟨g2, 0, none⟩) (World.block_lt_of_cell? w _ h2)).trans h2))
  clear h h1 h2
  obtain ⟨T, hT⟩ : ∃ T, T = someWrong S U P n := ⟨_, rfl⟩
  rw [← hT]
  have HT := Lib.hid hT
  clear hT
  go_enter Tryd.func54, Tryd.ntmps54
  go_wp2
  go_loopw [8] (fun i wr => ∃ k : Nat, k ≤ n ∧ i = .int .i64 k ∧ Hid (∀ j, j < k → wrongB S U (P j) = false) ∧ Hid (Below w.heap.size w wr)) (fun i _ => n - (intOf i).toNat)
  case atStart => exact ⟨0, Nat.zero_le _, rfl, Lib.hid (fun j hj => absurd hj (Nat.not_lt_zero _)), Lib.hid (Below.refl _ _)⟩
  case round =>
    obtain ⟨k, hk, rfl, HZ, hB⟩ := hrel
    by_cases hlt : k < n
    · obtain ⟨b, off, rfl, hlb, hat0⟩ := H.out.row (by omega)
      have hat := (hat0 k hlt).below hlb hB.out
      have KP := KW.out k wr hB.out
      obtain ⟨p, hp⟩ : ∃ p, p = P k := ⟨_, rfl⟩
      rw [← hp] at hat KP
      have HP := Lib.hid hp
      obtain ⟨pb, pe, ps, ⟨xa, xn, xc⟩, l⟩ := p
      obtain ⟨q0, q1, q2, q3, -⟩ := hat
      simp only at q0 q1 q2 q3
      obtain ⟨V, hV⟩ : ∃ V, V = wrongB S U ⟨pb, pe, ps, (xa, xn, xc), l⟩ := ⟨_, rfl⟩
      rw [← hV] at KP
      simp only at KP
      have hsz := hB.out.size
      have hkI : (k : Int) < (n : Int) := by omega
      have HV := Lib.hid (show V = wrongB S U (P k) by rw [hV, ← HP.out])
      clear hat0 hp hV
      cases V
      · go_wp2_with fail
        (with_reducible refine KP.mono ?_)
        rintro x w5 ⟨rfl, b5⟩
        have hb5 := Lib.hid (hB.out.trans (b5.mono hsz))
        clear b5 hB KP
        go_wp2
        go_roundw
        case rel => exact ⟨k + 1, by omega, by go_num, Lib.hid (fun j hj => (by
          by_cases e1 : j = k
          · rw [e1]; exact HV.out.symm
          · exact HZ.out j (by omega))), hb5⟩
        case measure => simp [intOf]; omega
      · go_wp2_with fail
        (with_reducible refine KP.mono ?_)
        rintro x w5 ⟨rfl, b5⟩
        have hb5 := Lib.hid (hB.out.trans (b5.mono hsz))
        clear b5 hB KP
        have htt : T = true := by
          rw [HT.out]
          cases hbd : someWrong S U P n with
          | true => rfl
          | false =>
            have := someWrong_false.1 hbd k hlt
            rw [← HV.out] at this
            cases this
        have HTT := Lib.hid htt
        clear htt
        go_wp2
        go_ret
        exact ⟨hb5.out, .inl ⟨HTT.out, k, rfl, by omega⟩⟩
    · obtain rfl : k = n := by omega
      have htt : T = false := by
        rw [HT.out]
        exact someWrong_false.2 fun i hi => HZ.out i hi
      have HTT := Lib.hid htt
      clear htt
      go_wp2
      go_ret
      exact ⟨hB.out, .inr ⟨HTT.out, rfl⟩⟩
theorem containsWrong_any (S U : Int) (g1 g2 : Nat) (a : Option Addr) (n c : Nat) (P : Nat → PlR) (w : World) (h : PlacesV w a n c P) (hn : n ≤ 100000) (h1 : w.cell? ⟨g1, 0, none⟩ = some (.int .i64 S)) (h2 : w.cell? ⟨g2, 0, none⟩ = some (.int .i64 U)) :
    Calls Tryd.prog 51 #[.slice a n c, .func (.func 52) #[] #[.pointer (some ⟨g1, 0, none⟩), .pointer (some ⟨g2, 0, none⟩)]] w fun x w' => x = .returned (.bool (someWrong S U P n)) ∧ Below w.heap.size w w' := by
  have KI := indexWrong_any S U g1 g2 a n c P w h hn h1 h2
  generalize someWrong S U P n = t at KI ⊢
  clear h h1 h2
  go_enter Tryd.func51, Tryd.ntmps51
  go_wp2_with fail
  (with_reducible refine KI.mono ?_)
  rintro x w1 ⟨hb, ⟨rfl, k, rfl, hk⟩ | ⟨rfl, rfl⟩⟩
  · go_wp2
    go_ret
    exact ⟨rfl, hb⟩
  · go_wp2
    go_ret
    exact ⟨rfl, hb⟩
end Go.Proofs.YthofndobmiamjaaDoor
