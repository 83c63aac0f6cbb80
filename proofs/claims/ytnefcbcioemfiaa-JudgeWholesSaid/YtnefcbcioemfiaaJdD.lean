/-
  judge: the closures of complete and follows; any.
-/
import Derived.Test.YtnefcbcioemfiaaJdC
namespace Go.Proofs.Ytnefcbcioemfiaa
open Go.RowKit

set_option maxRecDepth 100000 in
set_option maxHeartbeats 4000000 in
theorem must_any (bn bs sb : Nat) (a : Option Addr) (n c mb : Nat) (A : List ActR) (T i : Nat) (l : Int) (w : World) (h : SrA w sb a n c mb A) (n0 : w.cell? ⟨bn, 0, none⟩ = some (.int .u64 (T : Int))) (n1 : w.cell? ⟨bn, 1, none⟩ = some (.int .i64 l)) (s0 : w.cell? ⟨bs, 0, none⟩ = some (PTR sb)) (hT : T < 2 ^ 64) (hi : i < n) :
    Calls Try.prog 59 #[.int .i64 (i : Int), PTR bn, PTR bs] w fun e w' => e = .returned (.bool (!T.testBit i && sureB (A.getD i dAct))) ∧ Below w.heap.size w w' := by
  have hnc : n ≤ c := h.nc
  have hn1 : (i : Int) < (n : Int) := by omega
  have hi0 : (0 : Int) ≤ (i : Int) := by omega
  have H := Lib.hid h
  have KH := has_any T i l w hT (by have := h.n12; omega)
  obtain ⟨t, ht⟩ : ∃ t, t = T.testBit i := ⟨_, rfl⟩
  rw [← ht] at KH ⊢
  have S0 := Lib.hid s0
  obtain ⟨b, o, B, x, y, z, rfl, -, hB, at_⟩ := h.acts.at hi
  rw [hB]
  have HAT := Lib.hid at_
  clear h hT ht s0 hB at_
  cases t
  · go_enter Try.func59, Try.ntmps59
    go_wp2_with fail
    (with_reducible refine KH.mono ?_)
    rintro e w6 ⟨rfl, hb6⟩
    have at6 := HAT.out.below hb6
    have q0 := cellBelow H.out.c0 hb6
    have q1 := cellBelow S0.out hb6
    obtain ⟨e0, e1, e2, e3, e4, e5, e6, e7, e8, e9, ea, eb, ec, ed, ee, -⟩ := at6
    have H6 := Lib.hid hb6
    clear hb6 n0 n1 KH
    go_wp2_with fail
    (with_reducible refine (sure_any B x y z _).mono ?_)
    rintro e w7 ⟨rfl, hb7⟩
    have H7 := Lib.hid (H6.out.trans (hb7.mono H6.out.size))
    clear hb7
    go_wp2
    go_ret
    exact ⟨rfl, H7.out⟩
  · go_enter Try.func59, Try.ntmps59
    go_wp2_with fail
    (with_reducible refine KH.mono ?_)
    rintro e w6 ⟨rfl, hb6⟩
    have H6 := Lib.hid hb6
    clear hb6
    go_wp2
    go_ret
    exact ⟨rfl, H6.out⟩
set_option maxRecDepth 100000 in
set_option maxHeartbeats 8000000 in
theorem late_any (bn bs bi sb : Nat) (a : Option Addr) (n c mb : Nat) (A : List ActR) (T i j : Nat) (l : Int) (w : World) (h : SrA w sb a n c mb A) (n0 : w.cell? ⟨bn, 0, none⟩ = some (.int .u64 (T : Int))) (n1 : w.cell? ⟨bn, 1, none⟩ = some (.int .i64 l)) (s0 : w.cell? ⟨bs, 0, none⟩ = some (PTR sb)) (i0 : w.cell? ⟨bi, 0, none⟩ = some (.int .i64 (i : Int))) (hT : T < 2 ^ 64) (hi : i < n) (hj : j < n) :
    Calls Try.prog 54 #[.int .i64 (j : Int), PTR bn, PTR bs, PTR bi] w fun e w' => e = .returned (.bool (T.testBit j && beforeB (A.getD i dAct) (A.getD j dAct))) ∧ Below w.heap.size w w' := by
  have hnc : n ≤ c := h.nc
  have hn1 : (i : Int) < (n : Int) := by omega
  have hi0 : (0 : Int) ≤ (i : Int) := by omega
  have hn2 : (j : Int) < (n : Int) := by omega
  have hj0 : (0 : Int) ≤ (j : Int) := by omega
  have hj12 : j < 64 := by have := h.n12; omega
  obtain ⟨t, ht⟩ : ∃ t, t = T.testBit j := ⟨_, rfl⟩
  rw [← ht]
  have KH := fun W => has_any T j l W hT hj12
  rw [← ht] at KH
  obtain ⟨b, o, B, x, y, z, rfl, -, hB, at_⟩ := h.acts.at hi
  obtain ⟨b2, o2, C, x2, y2, z2, e2, -, hC, at2⟩ := h.acts.at hj
  injection e2 with e2
  injection e2 with e3 e4
  subst e3 e4
  have q0 := h.c0
  obtain ⟨e0, e1, e2, e3, e4, e5, e6, e7, e8, e9, ea, eb, ec, ed, ee, -⟩ := at_
  obtain ⟨d0, d1, d2, d3, d4, d5, d6, d7, d8, d9, da, db, dc, dd, de, -⟩ := at2
  have HB := Lib.hid hB
  have HC := Lib.hid hC
  have KB := fun W => before_any B x y z C x2 y2 z2 W
  rw [hB, hC]
  clear h hT ht hB hC HB HC
  cases t
  all_goals
    go_enter Try.func54, Try.ntmps54
    go_wp2_with fail
  · have P0 : w.drew.cell? ⟨bn, 0, none⟩ = some (.int .u64 (T : Int)) ∧ w.drew.cell? ⟨bn, 1, none⟩ = some (.int .i64 l) ∧ w.drew.cell? ⟨bs, 0, none⟩ = some (PTR sb) ∧ w.drew.cell? ⟨bi, 0, none⟩ = some (.int .i64 (i : Int)) ∧ w.drew.cell? ⟨sb, 0, none⟩ = some (.slice (some ⟨b, o, none⟩) n c) := ⟨n0, n1, s0, i0, q0⟩
    have HP := Lib.hid (And.intro trivial P0)
    refine GoX.start 20 (fun w' => w'.cell? ⟨bn, 0, none⟩ = some (.int .u64 (T : Int)) ∧ w'.cell? ⟨bn, 1, none⟩ = some (.int .i64 l) ∧ w'.cell? ⟨bs, 0, none⟩ = some (PTR sb) ∧ w'.cell? ⟨bi, 0, none⟩ = some (.int .i64 (i : Int)) ∧ w'.cell? ⟨sb, 0, none⟩ = some (.slice (some ⟨b, o, none⟩) n c)) (by kernel_rfl) ?_
    refine GoX.take 0 rfl (by kernel_rfl) (by kernel_rfl) (by rfl) (fun _ _ _ h => h) (v := ?tv0g1) P0 ?ty0g1 ?tr0g1
    case ty0g1 => (intro w hSw; (try dsimp only at hSw); go_simp; first | done | with_reducible rfl)
    simp only [Act.put, List.setIfInBounds_toArray, List.set_cons_zero, List.set_cons_succ]
    refine GoX.take 1 rfl (by kernel_rfl) (by kernel_rfl) (by rfl) (fun _ _ _ h => h) (v := ?tv1g2) P0 ?ty1g2 ?tr1g2
    case ty1g2 => (intro w hSw; (try dsimp only at hSw); go_simp; first | done | with_reducible rfl)
    simp only [Act.put, List.setIfInBounds_toArray, List.set_cons_zero, List.set_cons_succ]
    refine GoX.one 2 rfl (by kernel_rfl) (by decide) (fun K hK => ?_)
    rw [if_pos (by rfl)]
    go_simp
    (with_reducible refine (KH _).mono ?_)
    rintro e w2 ⟨rfl, hb2⟩
    have P1 : w2.cell? ⟨bn, 0, none⟩ = some (.int .u64 (T : Int)) ∧ w2.cell? ⟨bn, 1, none⟩ = some (.int .i64 l) ∧ w2.cell? ⟨bs, 0, none⟩ = some (PTR sb) ∧ w2.cell? ⟨bi, 0, none⟩ = some (.int .i64 (i : Int)) ∧ w2.cell? ⟨sb, 0, none⟩ = some (.slice (some ⟨b, o, none⟩) n c) := ⟨cellBelow (w := w.drew) n0 hb2, cellBelow (w := w.drew) n1 hb2, cellBelow (w := w.drew) s0 hb2, cellBelow (w := w.drew) i0 hb2, cellBelow (w := w.drew) q0 hb2⟩
    have hd2 : Below w.heap.size w w2 := (show Below w.heap.size w w.drew from (Below.refl _ _).drew).trans hb2
    have B2 := Lib.hid hd2
    clear hb2 hd2
    refine hK.out _ _ P1 (fun _ => ?_)
    clear hK K
    refine GoX.take 3 rfl (by kernel_rfl) (by kernel_rfl) (by rfl) (fun _ _ _ h => h) (v := ?tv3g3) P1 ?ty3g3 ?tr3g3
    case ty3g3 => (intro w hSw; (try dsimp only at hSw); go_simp; first | done | with_reducible rfl)
    simp only [Act.put, List.setIfInBounds_toArray, List.set_cons_zero, List.set_cons_succ]
    refine GoX.skip 4 rfl (by kernel_rfl) (by kernel_rfl) (by rfl) (fun _ _ _ h => h) P1 ?_
    simp only [Act.put, List.setIfInBounds_toArray, List.set_cons_zero, List.set_cons_succ]
    refine GoX.skip 5 rfl (by kernel_rfl) (by kernel_rfl) (by rfl) (fun _ _ _ h => h) P1 ?_
    simp only [Act.put, List.setIfInBounds_toArray, List.set_cons_zero, List.set_cons_succ]
    refine GoX.skip 6 rfl (by kernel_rfl) (by kernel_rfl) (by rfl) (fun _ _ _ h => h) P1 ?_
    simp only [Act.put, List.setIfInBounds_toArray, List.set_cons_zero, List.set_cons_succ]
    refine GoX.skip 7 rfl (by kernel_rfl) (by kernel_rfl) (by rfl) (fun _ _ _ h => h) P1 ?_
    simp only [Act.put, List.setIfInBounds_toArray, List.set_cons_zero, List.set_cons_succ]
    refine GoX.skip 8 rfl (by kernel_rfl) (by kernel_rfl) (by rfl) (fun _ _ _ h => h) P1 ?_
    simp only [Act.put, List.setIfInBounds_toArray, List.set_cons_zero, List.set_cons_succ]
    refine GoX.skip 9 rfl (by kernel_rfl) (by kernel_rfl) (by rfl) (fun _ _ _ h => h) P1 ?_
    simp only [Act.put, List.setIfInBounds_toArray, List.set_cons_zero, List.set_cons_succ]
    refine GoX.skip 10 rfl (by kernel_rfl) (by kernel_rfl) (by rfl) (fun _ _ _ h => h) P1 ?_
    simp only [Act.put, List.setIfInBounds_toArray, List.set_cons_zero, List.set_cons_succ]
    refine GoX.skip 11 rfl (by kernel_rfl) (by kernel_rfl) (by rfl) (fun _ _ _ h => h) P1 ?_
    simp only [Act.put, List.setIfInBounds_toArray, List.set_cons_zero, List.set_cons_succ]
    refine GoX.skip 12 rfl (by kernel_rfl) (by kernel_rfl) (by rfl) (fun _ _ _ h => h) P1 ?_
    simp only [Act.put, List.setIfInBounds_toArray, List.set_cons_zero, List.set_cons_succ]
    refine GoX.skip 13 rfl (by kernel_rfl) (by kernel_rfl) (by rfl) (fun _ _ _ h => h) P1 ?_
    simp only [Act.put, List.setIfInBounds_toArray, List.set_cons_zero, List.set_cons_succ]
    refine GoX.skip 14 rfl (by kernel_rfl) (by kernel_rfl) (by rfl) (fun _ _ _ h => h) P1 ?_
    simp only [Act.put, List.setIfInBounds_toArray, List.set_cons_zero, List.set_cons_succ]
    refine GoX.skip 15 rfl (by kernel_rfl) (by kernel_rfl) (by rfl) (fun _ _ _ h => h) P1 ?_
    simp only [Act.put, List.setIfInBounds_toArray, List.set_cons_zero, List.set_cons_succ]
    refine GoX.skip 16 rfl (by kernel_rfl) (by kernel_rfl) (by rfl) (fun _ _ _ h => h) P1 ?_
    simp only [Act.put, List.setIfInBounds_toArray, List.set_cons_zero, List.set_cons_succ]
    refine GoX.skip 17 rfl (by kernel_rfl) (by kernel_rfl) (by rfl) (fun _ _ _ h => h) P1 ?_
    simp only [Act.put, List.setIfInBounds_toArray, List.set_cons_zero, List.set_cons_succ]
    refine GoX.skip 18 rfl (by kernel_rfl) (by kernel_rfl) (by rfl) (fun _ _ _ h => h) P1 ?_
    simp only [Act.put, List.setIfInBounds_toArray, List.set_cons_zero, List.set_cons_succ]
    refine GoX.take 19 rfl (by kernel_rfl) (by kernel_rfl) (by rfl) (fun _ _ _ h => h) (v := ?tv19g4) P1 ?ty19g4 ?tr19g4
    case ty19g4 => (intro w hSw; (try dsimp only at hSw); go_simp; first | done | with_reducible rfl)
    simp only [Act.put, List.setIfInBounds_toArray, List.set_cons_zero, List.set_cons_succ]
    refine GoX.last 20 rfl (by kernel_rfl) (by kernel_rfl) (by decide) ?_
    go_wp2
    go_ret
    exact ⟨rfl, B2.out⟩
  · have P0 : w.drew.cell? ⟨bn, 0, none⟩ = some (.int .u64 (T : Int)) ∧ w.drew.cell? ⟨bn, 1, none⟩ = some (.int .i64 l) ∧ w.drew.cell? ⟨bs, 0, none⟩ = some (PTR sb) ∧ w.drew.cell? ⟨bi, 0, none⟩ = some (.int .i64 (i : Int)) ∧ w.drew.cell? ⟨sb, 0, none⟩ = some (.slice (some ⟨b, o, none⟩) n c) ∧ w.drew.cell? ⟨b, o + i * 15, none⟩ = some (.int .i64 B.cl) ∧ w.drew.cell? ⟨b, o + i * 15 + 1, none⟩ = some (.int .i64 B.d) ∧ w.drew.cell? ⟨b, o + i * 15 + 2, none⟩ = some (.int .i64 B.st) ∧ w.drew.cell? ⟨b, o + i * 15 + 3, none⟩ = some (.int .i64 B.en) ∧ w.drew.cell? ⟨b, o + i * 15 + 4, none⟩ = some (.string B.key) ∧ w.drew.cell? ⟨b, o + i * 15 + 5, none⟩ = some (.slice x.1 x.2.1 x.2.2) ∧ w.drew.cell? ⟨b, o + i * 15 + 6, none⟩ = some (.int .i64 B.rop) ∧ w.drew.cell? ⟨b, o + i * 15 + 7, none⟩ = some (.int .i64 B.rdo) ∧ w.drew.cell? ⟨b, o + i * 15 + 8, none⟩ = some (.string B.rkey) ∧ w.drew.cell? ⟨b, o + i * 15 + 9, none⟩ = some (.slice y.1 y.2.1 y.2.2) ∧ w.drew.cell? ⟨b, o + i * 15 + 10, none⟩ = some (.int .i64 B.tn) ∧ w.drew.cell? ⟨b, o + i * 15 + 11, none⟩ = some (.int .i64 B.tc) ∧ w.drew.cell? ⟨b, o + i * 15 + 12, none⟩ = some (.int .i64 B.code) ∧ w.drew.cell? ⟨b, o + i * 15 + 13, none⟩ = some (.bool B.found) ∧ w.drew.cell? ⟨b, o + i * 15 + 14, none⟩ = some (.slice z.1 z.2.1 z.2.2) ∧ w.drew.cell? ⟨b, o + j * 15, none⟩ = some (.int .i64 C.cl) ∧ w.drew.cell? ⟨b, o + j * 15 + 1, none⟩ = some (.int .i64 C.d) ∧ w.drew.cell? ⟨b, o + j * 15 + 2, none⟩ = some (.int .i64 C.st) ∧ w.drew.cell? ⟨b, o + j * 15 + 3, none⟩ = some (.int .i64 C.en) ∧ w.drew.cell? ⟨b, o + j * 15 + 4, none⟩ = some (.string C.key) ∧ w.drew.cell? ⟨b, o + j * 15 + 5, none⟩ = some (.slice x2.1 x2.2.1 x2.2.2) ∧ w.drew.cell? ⟨b, o + j * 15 + 6, none⟩ = some (.int .i64 C.rop) ∧ w.drew.cell? ⟨b, o + j * 15 + 7, none⟩ = some (.int .i64 C.rdo) ∧ w.drew.cell? ⟨b, o + j * 15 + 8, none⟩ = some (.string C.rkey) ∧ w.drew.cell? ⟨b, o + j * 15 + 9, none⟩ = some (.slice y2.1 y2.2.1 y2.2.2) ∧ w.drew.cell? ⟨b, o + j * 15 + 10, none⟩ = some (.int .i64 C.tn) ∧ w.drew.cell? ⟨b, o + j * 15 + 11, none⟩ = some (.int .i64 C.tc) ∧ w.drew.cell? ⟨b, o + j * 15 + 12, none⟩ = some (.int .i64 C.code) ∧ w.drew.cell? ⟨b, o + j * 15 + 13, none⟩ = some (.bool C.found) ∧ w.drew.cell? ⟨b, o + j * 15 + 14, none⟩ = some (.slice z2.1 z2.2.1 z2.2.2) := ⟨n0, n1, s0, i0, q0, e0, e1, e2, e3, e4, e5, e6, e7, e8, e9, ea, eb, ec, ed, ee, d0, d1, d2, d3, d4, d5, d6, d7, d8, d9, da, db, dc, dd, de⟩
    have HP := Lib.hid (And.intro trivial P0)
    refine GoX.start 20 (fun w' => w'.cell? ⟨bn, 0, none⟩ = some (.int .u64 (T : Int)) ∧ w'.cell? ⟨bn, 1, none⟩ = some (.int .i64 l) ∧ w'.cell? ⟨bs, 0, none⟩ = some (PTR sb) ∧ w'.cell? ⟨bi, 0, none⟩ = some (.int .i64 (i : Int)) ∧ w'.cell? ⟨sb, 0, none⟩ = some (.slice (some ⟨b, o, none⟩) n c) ∧ w'.cell? ⟨b, o + i * 15, none⟩ = some (.int .i64 B.cl) ∧ w'.cell? ⟨b, o + i * 15 + 1, none⟩ = some (.int .i64 B.d) ∧ w'.cell? ⟨b, o + i * 15 + 2, none⟩ = some (.int .i64 B.st) ∧ w'.cell? ⟨b, o + i * 15 + 3, none⟩ = some (.int .i64 B.en) ∧ w'.cell? ⟨b, o + i * 15 + 4, none⟩ = some (.string B.key) ∧ w'.cell? ⟨b, o + i * 15 + 5, none⟩ = some (.slice x.1 x.2.1 x.2.2) ∧ w'.cell? ⟨b, o + i * 15 + 6, none⟩ = some (.int .i64 B.rop) ∧ w'.cell? ⟨b, o + i * 15 + 7, none⟩ = some (.int .i64 B.rdo) ∧ w'.cell? ⟨b, o + i * 15 + 8, none⟩ = some (.string B.rkey) ∧ w'.cell? ⟨b, o + i * 15 + 9, none⟩ = some (.slice y.1 y.2.1 y.2.2) ∧ w'.cell? ⟨b, o + i * 15 + 10, none⟩ = some (.int .i64 B.tn) ∧ w'.cell? ⟨b, o + i * 15 + 11, none⟩ = some (.int .i64 B.tc) ∧ w'.cell? ⟨b, o + i * 15 + 12, none⟩ = some (.int .i64 B.code) ∧ w'.cell? ⟨b, o + i * 15 + 13, none⟩ = some (.bool B.found) ∧ w'.cell? ⟨b, o + i * 15 + 14, none⟩ = some (.slice z.1 z.2.1 z.2.2) ∧ w'.cell? ⟨b, o + j * 15, none⟩ = some (.int .i64 C.cl) ∧ w'.cell? ⟨b, o + j * 15 + 1, none⟩ = some (.int .i64 C.d) ∧ w'.cell? ⟨b, o + j * 15 + 2, none⟩ = some (.int .i64 C.st) ∧ w'.cell? ⟨b, o + j * 15 + 3, none⟩ = some (.int .i64 C.en) ∧ w'.cell? ⟨b, o + j * 15 + 4, none⟩ = some (.string C.key) ∧ w'.cell? ⟨b, o + j * 15 + 5, none⟩ = some (.slice x2.1 x2.2.1 x2.2.2) ∧ w'.cell? ⟨b, o + j * 15 + 6, none⟩ = some (.int .i64 C.rop) ∧ w'.cell? ⟨b, o + j * 15 + 7, none⟩ = some (.int .i64 C.rdo) ∧ w'.cell? ⟨b, o + j * 15 + 8, none⟩ = some (.string C.rkey) ∧ w'.cell? ⟨b, o + j * 15 + 9, none⟩ = some (.slice y2.1 y2.2.1 y2.2.2) ∧ w'.cell? ⟨b, o + j * 15 + 10, none⟩ = some (.int .i64 C.tn) ∧ w'.cell? ⟨b, o + j * 15 + 11, none⟩ = some (.int .i64 C.tc) ∧ w'.cell? ⟨b, o + j * 15 + 12, none⟩ = some (.int .i64 C.code) ∧ w'.cell? ⟨b, o + j * 15 + 13, none⟩ = some (.bool C.found) ∧ w'.cell? ⟨b, o + j * 15 + 14, none⟩ = some (.slice z2.1 z2.2.1 z2.2.2)) (by kernel_rfl) ?_
    refine GoX.take 0 rfl (by kernel_rfl) (by kernel_rfl) (by rfl) (fun _ _ _ h => h) (v := ?tv0g5) P0 ?ty0g5 ?tr0g5
    case ty0g5 => (intro w hSw; (try dsimp only at hSw); go_simp; first | done | with_reducible rfl)
    simp only [Act.put, List.setIfInBounds_toArray, List.set_cons_zero, List.set_cons_succ]
    refine GoX.take 1 rfl (by kernel_rfl) (by kernel_rfl) (by rfl) (fun _ _ _ h => h) (v := ?tv1g6) P0 ?ty1g6 ?tr1g6
    case ty1g6 => (intro w hSw; (try dsimp only at hSw); go_simp; first | done | with_reducible rfl)
    simp only [Act.put, List.setIfInBounds_toArray, List.set_cons_zero, List.set_cons_succ]
    refine GoX.one 2 rfl (by kernel_rfl) (by decide) (fun K hK => ?_)
    rw [if_pos (by rfl)]
    go_simp
    (with_reducible refine (KH _).mono ?_)
    rintro e w2 ⟨rfl, hb2⟩
    have P1 : w2.cell? ⟨bn, 0, none⟩ = some (.int .u64 (T : Int)) ∧ w2.cell? ⟨bn, 1, none⟩ = some (.int .i64 l) ∧ w2.cell? ⟨bs, 0, none⟩ = some (PTR sb) ∧ w2.cell? ⟨bi, 0, none⟩ = some (.int .i64 (i : Int)) ∧ w2.cell? ⟨sb, 0, none⟩ = some (.slice (some ⟨b, o, none⟩) n c) ∧ w2.cell? ⟨b, o + i * 15, none⟩ = some (.int .i64 B.cl) ∧ w2.cell? ⟨b, o + i * 15 + 1, none⟩ = some (.int .i64 B.d) ∧ w2.cell? ⟨b, o + i * 15 + 2, none⟩ = some (.int .i64 B.st) ∧ w2.cell? ⟨b, o + i * 15 + 3, none⟩ = some (.int .i64 B.en) ∧ w2.cell? ⟨b, o + i * 15 + 4, none⟩ = some (.string B.key) ∧ w2.cell? ⟨b, o + i * 15 + 5, none⟩ = some (.slice x.1 x.2.1 x.2.2) ∧ w2.cell? ⟨b, o + i * 15 + 6, none⟩ = some (.int .i64 B.rop) ∧ w2.cell? ⟨b, o + i * 15 + 7, none⟩ = some (.int .i64 B.rdo) ∧ w2.cell? ⟨b, o + i * 15 + 8, none⟩ = some (.string B.rkey) ∧ w2.cell? ⟨b, o + i * 15 + 9, none⟩ = some (.slice y.1 y.2.1 y.2.2) ∧ w2.cell? ⟨b, o + i * 15 + 10, none⟩ = some (.int .i64 B.tn) ∧ w2.cell? ⟨b, o + i * 15 + 11, none⟩ = some (.int .i64 B.tc) ∧ w2.cell? ⟨b, o + i * 15 + 12, none⟩ = some (.int .i64 B.code) ∧ w2.cell? ⟨b, o + i * 15 + 13, none⟩ = some (.bool B.found) ∧ w2.cell? ⟨b, o + i * 15 + 14, none⟩ = some (.slice z.1 z.2.1 z.2.2) ∧ w2.cell? ⟨b, o + j * 15, none⟩ = some (.int .i64 C.cl) ∧ w2.cell? ⟨b, o + j * 15 + 1, none⟩ = some (.int .i64 C.d) ∧ w2.cell? ⟨b, o + j * 15 + 2, none⟩ = some (.int .i64 C.st) ∧ w2.cell? ⟨b, o + j * 15 + 3, none⟩ = some (.int .i64 C.en) ∧ w2.cell? ⟨b, o + j * 15 + 4, none⟩ = some (.string C.key) ∧ w2.cell? ⟨b, o + j * 15 + 5, none⟩ = some (.slice x2.1 x2.2.1 x2.2.2) ∧ w2.cell? ⟨b, o + j * 15 + 6, none⟩ = some (.int .i64 C.rop) ∧ w2.cell? ⟨b, o + j * 15 + 7, none⟩ = some (.int .i64 C.rdo) ∧ w2.cell? ⟨b, o + j * 15 + 8, none⟩ = some (.string C.rkey) ∧ w2.cell? ⟨b, o + j * 15 + 9, none⟩ = some (.slice y2.1 y2.2.1 y2.2.2) ∧ w2.cell? ⟨b, o + j * 15 + 10, none⟩ = some (.int .i64 C.tn) ∧ w2.cell? ⟨b, o + j * 15 + 11, none⟩ = some (.int .i64 C.tc) ∧ w2.cell? ⟨b, o + j * 15 + 12, none⟩ = some (.int .i64 C.code) ∧ w2.cell? ⟨b, o + j * 15 + 13, none⟩ = some (.bool C.found) ∧ w2.cell? ⟨b, o + j * 15 + 14, none⟩ = some (.slice z2.1 z2.2.1 z2.2.2) := ⟨cellBelow (w := w.drew) n0 hb2, cellBelow (w := w.drew) n1 hb2, cellBelow (w := w.drew) s0 hb2, cellBelow (w := w.drew) i0 hb2, cellBelow (w := w.drew) q0 hb2, cellBelow (w := w.drew) e0 hb2, cellBelow (w := w.drew) e1 hb2, cellBelow (w := w.drew) e2 hb2, cellBelow (w := w.drew) e3 hb2, cellBelow (w := w.drew) e4 hb2, cellBelow (w := w.drew) e5 hb2, cellBelow (w := w.drew) e6 hb2, cellBelow (w := w.drew) e7 hb2, cellBelow (w := w.drew) e8 hb2, cellBelow (w := w.drew) e9 hb2, cellBelow (w := w.drew) ea hb2, cellBelow (w := w.drew) eb hb2, cellBelow (w := w.drew) ec hb2, cellBelow (w := w.drew) ed hb2, cellBelow (w := w.drew) ee hb2, cellBelow (w := w.drew) d0 hb2, cellBelow (w := w.drew) d1 hb2, cellBelow (w := w.drew) d2 hb2, cellBelow (w := w.drew) d3 hb2, cellBelow (w := w.drew) d4 hb2, cellBelow (w := w.drew) d5 hb2, cellBelow (w := w.drew) d6 hb2, cellBelow (w := w.drew) d7 hb2, cellBelow (w := w.drew) d8 hb2, cellBelow (w := w.drew) d9 hb2, cellBelow (w := w.drew) da hb2, cellBelow (w := w.drew) db hb2, cellBelow (w := w.drew) dc hb2, cellBelow (w := w.drew) dd hb2, cellBelow (w := w.drew) de hb2⟩
    have hd2 : Below w.heap.size w w2 := (show Below w.heap.size w w.drew from (Below.refl _ _).drew).trans hb2
    have B2 := Lib.hid hd2
    clear hb2 hd2
    refine hK.out _ _ P1 (fun _ => ?_)
    clear hK K
    refine GoX.take 3 rfl (by kernel_rfl) (by kernel_rfl) (by rfl) (fun _ _ _ h => h) (v := ?tv3g7) P1 ?ty3g7 ?tr3g7
    case ty3g7 => (intro w hSw; (try dsimp only at hSw); go_simp; first | done | with_reducible rfl)
    simp only [Act.put, List.setIfInBounds_toArray, List.set_cons_zero, List.set_cons_succ]
    refine GoX.take 4 rfl (by kernel_rfl) (by kernel_rfl) (by rfl) (fun _ _ _ h => h) (v := ?tv4g8) P1 ?ty4g8 ?tr4g8
    case ty4g8 => (intro w hSw; (try dsimp only at hSw); go_simp; first | done | with_reducible rfl)
    simp only [Act.put, List.setIfInBounds_toArray, List.set_cons_zero, List.set_cons_succ]
    refine GoX.take 5 rfl (by kernel_rfl) (by kernel_rfl) (by rfl) (fun _ _ _ h => h) (v := ?tv5g9) P1 ?ty5g9 ?tr5g9
    case ty5g9 => (intro w hSw; (try dsimp only at hSw); go_simp; first | done | with_reducible rfl)
    simp only [Act.put, List.setIfInBounds_toArray, List.set_cons_zero, List.set_cons_succ]
    refine GoX.take 6 rfl (by kernel_rfl) (by kernel_rfl) (by rfl) (fun _ _ _ h => h) (v := ?tv6g10) P1 ?ty6g10 ?tr6g10
    case ty6g10 => (intro w hSw; (try dsimp only at hSw); go_simp; first | done | with_reducible rfl)
    simp only [Act.put, List.setIfInBounds_toArray, List.set_cons_zero, List.set_cons_succ]
    refine GoX.take 7 rfl (by kernel_rfl) (by kernel_rfl) (by rfl) (fun _ _ _ h => h) (v := ?tv7g11) P1 ?ty7g11 ?tr7g11
    case ty7g11 => (intro w hSw; (try dsimp only at hSw); go_simp; first | done | with_reducible rfl)
    simp only [Act.put, List.setIfInBounds_toArray, List.set_cons_zero, List.set_cons_succ]
    refine GoX.take 8 rfl (by kernel_rfl) (by kernel_rfl) (by rfl) (fun _ _ _ h => h) (v := ?tv8g12) P1 ?ty8g12 ?tr8g12
    case ty8g12 => (intro w hSw; (try dsimp only at hSw); go_simp; first | done | with_reducible rfl)
    simp only [Act.put, List.setIfInBounds_toArray, List.set_cons_zero, List.set_cons_succ]
    refine GoX.take 9 rfl (by kernel_rfl) (by kernel_rfl) (by rfl) (fun _ _ _ h => h) (v := ?tv9g13) P1 ?ty9g13 ?tr9g13
    case ty9g13 => (intro w hSw; (try dsimp only at hSw); go_simp; first | done | with_reducible rfl)
    simp only [Act.put, List.setIfInBounds_toArray, List.set_cons_zero, List.set_cons_succ]
    refine GoX.take 10 rfl (by kernel_rfl) (by kernel_rfl) (by rfl) (fun _ _ _ h => h) (v := ?tv10g14) P1 ?ty10g14 ?tr10g14
    case ty10g14 => (intro w hSw; (try dsimp only at hSw); go_simp; first | done | with_reducible rfl)
    simp only [Act.put, List.setIfInBounds_toArray, List.set_cons_zero, List.set_cons_succ]
    refine GoX.take 11 rfl (by kernel_rfl) (by kernel_rfl) (by rfl) (fun _ _ _ h => h) (v := ?tv11g15) P1 ?ty11g15 ?tr11g15
    case ty11g15 => (intro w hSw; (try dsimp only at hSw); go_simp; first | done | with_reducible rfl)
    simp only [Act.put, List.setIfInBounds_toArray, List.set_cons_zero, List.set_cons_succ]
    refine GoX.take 12 rfl (by kernel_rfl) (by kernel_rfl) (by rfl) (fun _ _ _ h => h) (v := ?tv12g16) P1 ?ty12g16 ?tr12g16
    case ty12g16 => (intro w hSw; (try dsimp only at hSw); go_simp; first | done | with_reducible rfl)
    simp only [Act.put, List.setIfInBounds_toArray, List.set_cons_zero, List.set_cons_succ]
    refine GoX.take 13 rfl (by kernel_rfl) (by kernel_rfl) (by rfl) (fun _ _ _ h => h) (v := ?tv13g17) P1 ?ty13g17 ?tr13g17
    case ty13g17 => (intro w hSw; (try dsimp only at hSw); go_simp; first | done | with_reducible rfl)
    simp only [Act.put, List.setIfInBounds_toArray, List.set_cons_zero, List.set_cons_succ]
    refine GoX.take 14 rfl (by kernel_rfl) (by kernel_rfl) (by rfl) (fun _ _ _ h => h) (v := ?tv14g18) P1 ?ty14g18 ?tr14g18
    case ty14g18 => (intro w hSw; (try dsimp only at hSw); go_simp; first | done | with_reducible rfl)
    simp only [Act.put, List.setIfInBounds_toArray, List.set_cons_zero, List.set_cons_succ]
    refine GoX.take 15 rfl (by kernel_rfl) (by kernel_rfl) (by rfl) (fun _ _ _ h => h) (v := ?tv15g19) P1 ?ty15g19 ?tr15g19
    case ty15g19 => (intro w hSw; (try dsimp only at hSw); go_simp; first | done | with_reducible rfl)
    simp only [Act.put, List.setIfInBounds_toArray, List.set_cons_zero, List.set_cons_succ]
    refine GoX.take 16 rfl (by kernel_rfl) (by kernel_rfl) (by rfl) (fun _ _ _ h => h) (v := ?tv16g20) P1 ?ty16g20 ?tr16g20
    case ty16g20 => (intro w hSw; (try dsimp only at hSw); go_simp; first | done | with_reducible rfl)
    simp only [Act.put, List.setIfInBounds_toArray, List.set_cons_zero, List.set_cons_succ]
    refine GoX.take 17 rfl (by kernel_rfl) (by kernel_rfl) (by rfl) (fun _ _ _ h => h) (v := ?tv17g21) P1 ?ty17g21 ?tr17g21
    case ty17g21 => (intro w hSw; (try dsimp only at hSw); go_simp; first | done | with_reducible rfl)
    simp only [Act.put, List.setIfInBounds_toArray, List.set_cons_zero, List.set_cons_succ]
    refine GoX.one 18 rfl (by kernel_rfl) (by decide) (fun K hK => ?_)
    rw [if_pos (by rfl)]
    go_simp
    (with_reducible refine (KB _).mono ?_)
    rintro e w3 ⟨rfl, hb3⟩
    have P3 : w3.cell? ⟨bn, 0, none⟩ = some (.int .u64 (T : Int)) ∧ w3.cell? ⟨bn, 1, none⟩ = some (.int .i64 l) ∧ w3.cell? ⟨bs, 0, none⟩ = some (PTR sb) ∧ w3.cell? ⟨bi, 0, none⟩ = some (.int .i64 (i : Int)) ∧ w3.cell? ⟨sb, 0, none⟩ = some (.slice (some ⟨b, o, none⟩) n c) ∧ w3.cell? ⟨b, o + i * 15, none⟩ = some (.int .i64 B.cl) ∧ w3.cell? ⟨b, o + i * 15 + 1, none⟩ = some (.int .i64 B.d) ∧ w3.cell? ⟨b, o + i * 15 + 2, none⟩ = some (.int .i64 B.st) ∧ w3.cell? ⟨b, o + i * 15 + 3, none⟩ = some (.int .i64 B.en) ∧ w3.cell? ⟨b, o + i * 15 + 4, none⟩ = some (.string B.key) ∧ w3.cell? ⟨b, o + i * 15 + 5, none⟩ = some (.slice x.1 x.2.1 x.2.2) ∧ w3.cell? ⟨b, o + i * 15 + 6, none⟩ = some (.int .i64 B.rop) ∧ w3.cell? ⟨b, o + i * 15 + 7, none⟩ = some (.int .i64 B.rdo) ∧ w3.cell? ⟨b, o + i * 15 + 8, none⟩ = some (.string B.rkey) ∧ w3.cell? ⟨b, o + i * 15 + 9, none⟩ = some (.slice y.1 y.2.1 y.2.2) ∧ w3.cell? ⟨b, o + i * 15 + 10, none⟩ = some (.int .i64 B.tn) ∧ w3.cell? ⟨b, o + i * 15 + 11, none⟩ = some (.int .i64 B.tc) ∧ w3.cell? ⟨b, o + i * 15 + 12, none⟩ = some (.int .i64 B.code) ∧ w3.cell? ⟨b, o + i * 15 + 13, none⟩ = some (.bool B.found) ∧ w3.cell? ⟨b, o + i * 15 + 14, none⟩ = some (.slice z.1 z.2.1 z.2.2) ∧ w3.cell? ⟨b, o + j * 15, none⟩ = some (.int .i64 C.cl) ∧ w3.cell? ⟨b, o + j * 15 + 1, none⟩ = some (.int .i64 C.d) ∧ w3.cell? ⟨b, o + j * 15 + 2, none⟩ = some (.int .i64 C.st) ∧ w3.cell? ⟨b, o + j * 15 + 3, none⟩ = some (.int .i64 C.en) ∧ w3.cell? ⟨b, o + j * 15 + 4, none⟩ = some (.string C.key) ∧ w3.cell? ⟨b, o + j * 15 + 5, none⟩ = some (.slice x2.1 x2.2.1 x2.2.2) ∧ w3.cell? ⟨b, o + j * 15 + 6, none⟩ = some (.int .i64 C.rop) ∧ w3.cell? ⟨b, o + j * 15 + 7, none⟩ = some (.int .i64 C.rdo) ∧ w3.cell? ⟨b, o + j * 15 + 8, none⟩ = some (.string C.rkey) ∧ w3.cell? ⟨b, o + j * 15 + 9, none⟩ = some (.slice y2.1 y2.2.1 y2.2.2) ∧ w3.cell? ⟨b, o + j * 15 + 10, none⟩ = some (.int .i64 C.tn) ∧ w3.cell? ⟨b, o + j * 15 + 11, none⟩ = some (.int .i64 C.tc) ∧ w3.cell? ⟨b, o + j * 15 + 12, none⟩ = some (.int .i64 C.code) ∧ w3.cell? ⟨b, o + j * 15 + 13, none⟩ = some (.bool C.found) ∧ w3.cell? ⟨b, o + j * 15 + 14, none⟩ = some (.slice z2.1 z2.2.1 z2.2.2) := ⟨cellBelow P1.1 hb3, cellBelow P1.2.1 hb3, cellBelow P1.2.2.1 hb3, cellBelow P1.2.2.2.1 hb3, cellBelow P1.2.2.2.2.1 hb3, cellBelow P1.2.2.2.2.2.1 hb3, cellBelow P1.2.2.2.2.2.2.1 hb3, cellBelow P1.2.2.2.2.2.2.2.1 hb3, cellBelow P1.2.2.2.2.2.2.2.2.1 hb3, cellBelow P1.2.2.2.2.2.2.2.2.2.1 hb3, cellBelow P1.2.2.2.2.2.2.2.2.2.2.1 hb3, cellBelow P1.2.2.2.2.2.2.2.2.2.2.2.1 hb3, cellBelow P1.2.2.2.2.2.2.2.2.2.2.2.2.1 hb3, cellBelow P1.2.2.2.2.2.2.2.2.2.2.2.2.2.1 hb3, cellBelow P1.2.2.2.2.2.2.2.2.2.2.2.2.2.2.1 hb3, cellBelow P1.2.2.2.2.2.2.2.2.2.2.2.2.2.2.2.1 hb3, cellBelow P1.2.2.2.2.2.2.2.2.2.2.2.2.2.2.2.2.1 hb3, cellBelow P1.2.2.2.2.2.2.2.2.2.2.2.2.2.2.2.2.2.1 hb3, cellBelow P1.2.2.2.2.2.2.2.2.2.2.2.2.2.2.2.2.2.2.1 hb3, cellBelow P1.2.2.2.2.2.2.2.2.2.2.2.2.2.2.2.2.2.2.2.1 hb3, cellBelow P1.2.2.2.2.2.2.2.2.2.2.2.2.2.2.2.2.2.2.2.2.1 hb3, cellBelow P1.2.2.2.2.2.2.2.2.2.2.2.2.2.2.2.2.2.2.2.2.2.1 hb3, cellBelow P1.2.2.2.2.2.2.2.2.2.2.2.2.2.2.2.2.2.2.2.2.2.2.1 hb3, cellBelow P1.2.2.2.2.2.2.2.2.2.2.2.2.2.2.2.2.2.2.2.2.2.2.2.1 hb3, cellBelow P1.2.2.2.2.2.2.2.2.2.2.2.2.2.2.2.2.2.2.2.2.2.2.2.2.1 hb3, cellBelow P1.2.2.2.2.2.2.2.2.2.2.2.2.2.2.2.2.2.2.2.2.2.2.2.2.2.1 hb3, cellBelow P1.2.2.2.2.2.2.2.2.2.2.2.2.2.2.2.2.2.2.2.2.2.2.2.2.2.2.1 hb3, cellBelow P1.2.2.2.2.2.2.2.2.2.2.2.2.2.2.2.2.2.2.2.2.2.2.2.2.2.2.2.1 hb3, cellBelow P1.2.2.2.2.2.2.2.2.2.2.2.2.2.2.2.2.2.2.2.2.2.2.2.2.2.2.2.2.1 hb3, cellBelow P1.2.2.2.2.2.2.2.2.2.2.2.2.2.2.2.2.2.2.2.2.2.2.2.2.2.2.2.2.2.1 hb3, cellBelow P1.2.2.2.2.2.2.2.2.2.2.2.2.2.2.2.2.2.2.2.2.2.2.2.2.2.2.2.2.2.2.1 hb3, cellBelow P1.2.2.2.2.2.2.2.2.2.2.2.2.2.2.2.2.2.2.2.2.2.2.2.2.2.2.2.2.2.2.2.1 hb3, cellBelow P1.2.2.2.2.2.2.2.2.2.2.2.2.2.2.2.2.2.2.2.2.2.2.2.2.2.2.2.2.2.2.2.2.1 hb3, cellBelow P1.2.2.2.2.2.2.2.2.2.2.2.2.2.2.2.2.2.2.2.2.2.2.2.2.2.2.2.2.2.2.2.2.2.1 hb3, cellBelow P1.2.2.2.2.2.2.2.2.2.2.2.2.2.2.2.2.2.2.2.2.2.2.2.2.2.2.2.2.2.2.2.2.2.2 hb3⟩
    have hd3 := B2.out.trans (hb3.mono B2.out.size)
    have B3 := Lib.hid hd3
    clear hb3 hd3
    refine hK.out _ _ P3 (fun _ => ?_)
    clear hK K
    refine GoX.take 19 rfl (by kernel_rfl) (by kernel_rfl) (by rfl) (fun _ _ _ h => h) (v := ?tv19g22) P3 ?ty19g22 ?tr19g22
    case ty19g22 => (intro w hSw; (try dsimp only at hSw); go_simp; first | done | with_reducible rfl)
    simp only [Act.put, List.setIfInBounds_toArray, List.set_cons_zero, List.set_cons_succ]
    refine GoX.last 20 rfl (by kernel_rfl) (by kernel_rfl) (by decide) ?_
    go_wp2
    go_ret
    exact ⟨rfl, B3.out⟩
set_option maxRecDepth 100000 in
set_option maxHeartbeats 4000000 in
theorem anyC_any (sb : Nat) (a : Option Addr) (n c mb : Nat) (A : List ActR) (p1 p2 : Nat) (p : Nat → Bool) (w : World) (h : SrA w sb a n c mb A)
    (HF : ∀ (i : Nat) (W : World), i < n → Below w.heap.size w W → Calls Try.prog 59 #[.int .i64 (i : Int), PTR p1, PTR p2] W fun e w' => e = .returned (.bool (p i)) ∧ Below W.heap.size W w') :
    Calls Try.prog 57 #[PTR sb, .func (.func 59) #[] #[PTR p1, PTR p2]] w fun e w' => e = .returned (.bool ((List.range n).any p)) ∧ Below w.heap.size w w' := by
  have q0 := h.c0
  have h12 : n ≤ 12 := h.n12
  clear h
  have KF := Lib.hid HF
  clear HF
  obtain ⟨R, hR⟩ : ∃ R, R = (List.range n).any p := ⟨_, rfl⟩
  rw [← hR]
  have HR := Lib.hid hR
  clear hR
  go_enter Try.func57, Try.ntmps57
  go_wp2
  go_loopw [11] (fun i wr => ∃ k : Nat, k ≤ n ∧ i = .int .i64 k ∧ Hid (∀ j, j < k → p j = false) ∧ Hid (Below w.heap.size w wr)) (fun i _ => n - (intOf i).toNat)
  case atStart => exact ⟨0, Nat.zero_le _, rfl, Lib.hid (fun j hj => absurd hj (Nat.not_lt_zero _)), Lib.hid (Below.refl _ _)⟩
  case round =>
    obtain ⟨k, hk, rfl, HZ, hB⟩ := hrel
    by_cases hlt : k < n
    · have KK := KF.out k wr hlt hB.out
      obtain ⟨v, hv⟩ : ∃ v, v = p k := ⟨_, rfl⟩
      rw [← hv] at KK
      have HV := Lib.hid hv
      clear hv
      cases v
      · go_wp2_with fail
        (with_reducible refine KK.mono ?_)
        rintro x w5 ⟨rfl, b5⟩
        have hb5 := Lib.hid (hB.out.trans (b5.mono hB.out.size))
        clear b5 hB KK
        go_wp2
        go_roundw
        case rel => exact ⟨k + 1, by omega, by go_num, Lib.hid (fun j hj => (by
          by_cases e1 : j = k
          · rw [e1]; exact HV.out.symm
          · exact HZ.out j (by omega))), hb5⟩
        case measure => simp [intOf]; omega
      · go_wp2_with fail
        (with_reducible refine KK.mono ?_)
        rintro x w5 ⟨rfl, b5⟩
        have hb5 := Lib.hid (hB.out.trans (b5.mono hB.out.size))
        clear b5 hB KK
        have hT : R = true := by
          rw [HR.out, List.any_eq_true]
          exact ⟨k, by simpa using hlt, HV.out.symm⟩
        have HT := Lib.hid hT
        clear hT
        go_wp2
        go_ret
        exact ⟨by rw [HT.out]; rfl, hb5.out⟩
    · obtain rfl : k = n := by omega
      have hT : R = false := by
        rw [HR.out, List.any_eq_false]
        intro j hj
        rw [HZ.out j (by simpa using hj)]
        decide
      have HT := Lib.hid hT
      clear hT
      go_wp2
      go_ret
      exact ⟨by rw [HT.out]; rfl, hB.out⟩
set_option maxRecDepth 100000 in
set_option maxHeartbeats 4000000 in
theorem anyF_any (sb : Nat) (a : Option Addr) (n c mb : Nat) (A : List ActR) (p1 p2 p3 : Nat) (p : Nat → Bool) (w : World) (h : SrA w sb a n c mb A)
    (HF : ∀ (i : Nat) (W : World), i < n → Below w.heap.size w W → Calls Try.prog 54 #[.int .i64 (i : Int), PTR p1, PTR p2, PTR p3] W fun e w' => e = .returned (.bool (p i)) ∧ Below W.heap.size W w') :
    Calls Try.prog 57 #[PTR sb, .func (.func 54) #[] #[PTR p1, PTR p2, PTR p3]] w fun e w' => e = .returned (.bool ((List.range n).any p)) ∧ Below w.heap.size w w' := by
  have q0 := h.c0
  have h12 : n ≤ 12 := h.n12
  clear h
  have KF := Lib.hid HF
  clear HF
  obtain ⟨R, hR⟩ : ∃ R, R = (List.range n).any p := ⟨_, rfl⟩
  rw [← hR]
  have HR := Lib.hid hR
  clear hR
  go_enter Try.func57, Try.ntmps57
  go_wp2
  go_loopw [11] (fun i wr => ∃ k : Nat, k ≤ n ∧ i = .int .i64 k ∧ Hid (∀ j, j < k → p j = false) ∧ Hid (Below w.heap.size w wr)) (fun i _ => n - (intOf i).toNat)
  case atStart => exact ⟨0, Nat.zero_le _, rfl, Lib.hid (fun j hj => absurd hj (Nat.not_lt_zero _)), Lib.hid (Below.refl _ _)⟩
  case round =>
    obtain ⟨k, hk, rfl, HZ, hB⟩ := hrel
    by_cases hlt : k < n
    · have KK := KF.out k wr hlt hB.out
      obtain ⟨v, hv⟩ : ∃ v, v = p k := ⟨_, rfl⟩
      rw [← hv] at KK
      have HV := Lib.hid hv
      clear hv
      cases v
      · go_wp2_with fail
        (with_reducible refine KK.mono ?_)
        rintro x w5 ⟨rfl, b5⟩
        have hb5 := Lib.hid (hB.out.trans (b5.mono hB.out.size))
        clear b5 hB KK
        go_wp2
        go_roundw
        case rel => exact ⟨k + 1, by omega, by go_num, Lib.hid (fun j hj => (by
          by_cases e1 : j = k
          · rw [e1]; exact HV.out.symm
          · exact HZ.out j (by omega))), hb5⟩
        case measure => simp [intOf]; omega
      · go_wp2_with fail
        (with_reducible refine KK.mono ?_)
        rintro x w5 ⟨rfl, b5⟩
        have hb5 := Lib.hid (hB.out.trans (b5.mono hB.out.size))
        clear b5 hB KK
        have hT : R = true := by
          rw [HR.out, List.any_eq_true]
          exact ⟨k, by simpa using hlt, HV.out.symm⟩
        have HT := Lib.hid hT
        clear hT
        go_wp2
        go_ret
        exact ⟨by rw [HT.out]; rfl, hb5.out⟩
    · obtain rfl : k = n := by omega
      have hT : R = false := by
        rw [HR.out, List.any_eq_false]
        intro j hj
        rw [HZ.out j (by simpa using hj)]
        decide
      have HT := Lib.hid hT
      clear hT
      go_wp2
      go_ret
      exact ⟨by rw [HT.out]; rfl, hB.out⟩
end Go.Proofs.Ytnefcbcioemfiaa
