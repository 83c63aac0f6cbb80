/-
  The reference of the judge: counts, must, tells.
-/
import Derived.Test.YtnefcbcioemfiaaJdZ
namespace Go.Proofs.Ytnefcbcioemfiaa
open Go Go.RowKit

set_option maxRecDepth 100000 in
theorem refMust_any (A : ActR) (x y z : SH3) (w : World) : Calls Try.prog 41 #[.agg (ActC A x y z)] w fun e w' => e = .returned (.bool (sureB A)) ∧ Below w.heap.size w w' := by
  have hb := below_alloc w (.cells (ActC A x y z) ActT)
  unfold ActC at hb ⊢
  by_cases h0 : 0 ≤ A.en
  · have hS : sureB A = (A.code == 0) := by unfold sureB; rw [decide_eq_true h0]; rfl
    rw [hS]
    clear hS
    go_enter Try.func41, Try.ntmps41
    go_wp2
    go_ret
    exact ⟨rfl, hb⟩
  · have hS : sureB A = false := by unfold sureB; rw [decide_eq_false h0]; rfl
    rw [hS]
    clear hS
    go_enter Try.func41, Try.ntmps41
    go_wp2
    go_ret
    exact ⟨rfl, hb⟩
theorem counts_cases (A : ActR) : countsB A = if A.d < 1 ∨ 3 < A.d then false else if A.d = 2 then sureB A else true := by
  unfold countsB keyedB
  by_cases h1 : A.d = 1
  · rw [h1]; rfl
  by_cases h2 : A.d = 2
  · rw [h2]; simp
  by_cases h3 : A.d = 3
  · rw [h3]; rfl
  rw [if_pos (by omega), decide_eq_false h1, decide_eq_false h2, decide_eq_false h3]
  rfl
set_option maxRecDepth 100000 in
set_option maxHeartbeats 4000000 in
theorem refCounts_any (A : ActR) (x y z : SH3) (key : ByteArray) (w : World) : Calls Try.prog 36 #[.agg (ActC A x y z), .string key] w fun e w' => e = .returned (.bool (decide (A.key = key) && countsB A)) ∧ Below w.heap.size w w' := by
  have hb := below_alloc w (.cells (ActC A x y z) ActT)
  obtain ⟨res, hres⟩ : ∃ r, r = (decide (A.key = key) && countsB A) := ⟨_, rfl⟩
  rw [← hres]
  rw [counts_cases] at hres
  have HRES := Lib.hid hres
  have HB := Lib.hid hb
  unfold ActC at HB ⊢
  clear hres hb
  by_cases hk : A.key = key
  case neg =>
    have e1 : (A.key.toList == key.toList) = false := by rw [str_beqJ]; exact decide_eq_false hk
    have e2 : (A.key.toList != key.toList) = true := by simp only [bne, e1]; rfl
    have hr : res = false := by rw [HRES.out, decide_eq_false hk]; rfl
    subst hr
    clear HRES hk
    go_enter Try.func36, Try.ntmps36
    go_wp2
    go_ret
    exact ⟨rfl, HB.out⟩
  have e1 : (A.key.toList == key.toList) = true := by rw [str_beqJ]; exact decide_eq_true hk
  have e2 : (A.key.toList != key.toList) = false := by simp only [bne, e1]; rfl
  by_cases h1 : A.d < 1
  · have hr : res = false := by rw [HRES.out, if_pos (.inl h1), Bool.and_false]
    subst hr
    clear HRES hk
    go_enter Try.func36, Try.ntmps36
    go_wp2
    go_ret
    exact ⟨rfl, HB.out⟩
  by_cases h3 : 3 < A.d
  · have hr : res = false := by rw [HRES.out, if_pos (.inr h3), Bool.and_false]
    subst hr
    clear HRES hk
    go_enter Try.func36, Try.ntmps36
    go_wp2
    go_ret
    exact ⟨rfl, HB.out⟩
  by_cases h2 : A.d = 2
  · have hr0 : res = sureB A := by rw [HRES.out, decide_eq_true hk, if_neg (by omega), if_pos h2]; rfl
    rw [h2] at HB ⊢
    clear h1 h2 h3
    by_cases h0 : 0 ≤ A.en
    · have hr : res = (A.code == 0) := by rw [hr0]; unfold sureB; rw [decide_eq_true h0]; rfl
      rw [hr]
      clear HRES hk hr hr0
      go_enter Try.func36, Try.ntmps36
      go_wp2
      go_ret
      exact ⟨by rfl, HB.out⟩
    · have hr : res = false := by rw [hr0]; unfold sureB; rw [decide_eq_false h0]; rfl
      subst hr
      clear HRES hk hr0
      go_enter Try.func36, Try.ntmps36
      go_wp2
      go_ret
      exact ⟨by rfl, HB.out⟩
  · have hr : res = true := by rw [HRES.out, decide_eq_true hk, if_neg (by omega), if_neg h2]; rfl
    subst hr
    have e3 : (A.d == 2) = false := by simpa using h2
    have e4 : (A.d != 2) = true := by simpa using h2
    clear HRES hk h2
    go_enter Try.func36, Try.ntmps36
    go_wp2
    go_ret
    exact ⟨by rfl, HB.out⟩
def tellsB (xs : List ActR) (l : Int) (A : ActR) : Bool := if l < 0 ∨ (xs.getD l.toNat dAct).d = 3 then !A.found else A.found && decide (A.rval = (xs.getD l.toNat dAct).val)
set_option maxRecDepth 100000 in
set_option maxHeartbeats 4000000 in
theorem refTells_any (aa : Option Addr) (an ac : Nat) (xs : List ActR) (A : ActR) (x y z : SH3) (l : Int) (w : World) (h : ActsV w aa an xs) (hs : ActS w A x y z) (hl : l < an) : Calls Try.prog 40 #[.slice aa an ac, .agg (ActC A x y z), .int .i64 l] w fun e w' => e = .returned (.bool (tellsB xs l A)) ∧ Below w.heap.size w w' := by
  have hb := below_alloc w (.cells (ActC A x y z) ActT)
  have hbox : (w.alloc (.cells (ActC A x y z) ActT)).heap[w.heap.size]? = some (.cells (ActC A x y z) ActT (0, 0)) := heap_alloc_new w _
  obtain ⟨fd, hfd⟩ : ∃ f, f = A.found := ⟨_, rfl⟩
  have hcells := cells15 hbox
  obtain ⟨res, hres⟩ : ∃ r, r = tellsB xs l A := ⟨_, rfl⟩
  rw [← hres]
  unfold tellsB at hres
  rw [← hfd] at hres
  have HRES := Lib.hid hres
  have HB := Lib.hid hb
  have H := Lib.hid h
  have HS := Lib.hid hs
  obtain ⟨-, -, -, -, -, -, -, -, -, q9, -, -, -, q13, -⟩ := hcells
  unfold ActC at HB q9 q13 ⊢
  rw [← hfd] at q13 q9 HB ⊢
  clear hres hb h hs hbox hfd
  by_cases h0 : l < 0
  · have hr : res = !fd := by rw [HRES.out, if_pos (.inl h0)]
    subst hr
    clear HRES q9
    go_enter Try.func40, Try.ntmps40
    go_wp2
    go_ret
    exact ⟨by rfl, HB.out⟩
  obtain ⟨t, rfl⟩ : ∃ t : Nat, l = t := ⟨l.toNat, by omega⟩
  have ht0 : (0 : Int) ≤ (t : Int) := by omega
  have ht1 : (t : Int) < (an : Int) := hl
  obtain ⟨b, o, C, xc, yc, zc, eaa, hC1, hC, at0⟩ := H.out.at (i := t) (by omega)
  subst eaa
  have hC' : (xs.getD ((t : Int)).toNat dAct) = C := hC
  have HR2 : Hid (res = if C.d = 3 then !fd else fd && decide (A.rval = C.val)) := Lib.hid (by
    rw [HRES.out, hC']
    by_cases h3 : C.d = 3
    · rw [if_pos (.inr h3), if_pos h3]
    · rw [if_neg (by rintro (h | h); exact h0 h; exact h3 h), if_neg h3])
  have V1 := Lib.hid at0.s
  have at1 := at0.below HB.out
  clear HRES hC1 hC hC' at0
  have c1 := at1.c1
  have c5 := at1.c5
  clear at1
  by_cases h3 : C.d = 3
  · have hr : res = !fd := by rw [HR2.out, if_pos h3]
    rw [h3] at c1
    subst hr
    clear HR2 q9 h3
    go_enter Try.func40, Try.ntmps40
    go_wp2
    go_ret
    exact ⟨by rfl, HB.out⟩
  have hr : res = (fd && decide (A.rval = C.val)) := by rw [HR2.out, if_neg h3]
  have HR3 := Lib.hid hr
  have e3 : (C.d == 3) = false := by simpa using h3
  clear HR2 h3 hr
  go_enter Try.func40, Try.ntmps40
  go_upto_region 3 with fail
  refine (?_ : ∀ W : World, W.cell? ⟨w.heap.size, 13, none⟩ = some (.bool fd) ∧ W.cell? ⟨w.heap.size, 9, none⟩ = some (.slice y.1 y.2.1 y.2.2) ∧ W.cell? ⟨b, o + t * 15 + 5, none⟩ = some (.slice xc.1 xc.2.1 xc.2.2) → Hid (Below w.heap.size w W) → Code.wp Try.prog _ _ _ W) _ ⟨q13, q9, c5⟩ HB
  clear q13 q9 c5 c1 HB
  rintro W ⟨q13, q9, c5⟩ HB
  have P0 : W.drew.cell? ⟨w.heap.size, 13, none⟩ = some (.bool fd) ∧ W.drew.cell? ⟨w.heap.size, 9, none⟩ = some (.slice y.1 y.2.1 y.2.2) ∧ W.drew.cell? ⟨b, o + t * 15 + 5, none⟩ = some (.slice xc.1 xc.2.1 xc.2.2) := ⟨q13, q9, c5⟩
  have HBd : Hid (Below w.heap.size w W.drew) := Lib.hid HB.out.drew
  clear q13 q9 c5
  cases fd with
  | false =>
    have hr : res = false := HR3.out
    subst hr
    refine GoX.start 14 (fun w' => w'.cell? ⟨w.heap.size, 13, none⟩ = some (.bool false) ∧ w'.cell? ⟨w.heap.size, 9, none⟩ = some (.slice y.1 y.2.1 y.2.2) ∧ w'.cell? ⟨b, o + t * 15 + 5, none⟩ = some (.slice xc.1 xc.2.1 xc.2.2)) (by kernel_rfl) ?_
    refine GoX.take 0 rfl (by kernel_rfl) (by kernel_rfl) (by rfl) (fun _ _ _ h => h) (v := ?tv0g1) P0 ?ty0g1 ?tr0g1
    case ty0g1 => (intro w hSw; (try dsimp only at hSw); go_simp; first | done | with_reducible rfl)
    simp only [Act.put, List.setIfInBounds_toArray, List.set_cons_zero, List.set_cons_succ]
    refine GoX.take 1 rfl (by kernel_rfl) (by kernel_rfl) (by rfl) (fun _ _ _ h => h) (v := ?tv1g2) P0 ?ty1g2 ?tr1g2
    case ty1g2 => (intro w hSw; (try dsimp only at hSw); go_simp; first | done | with_reducible rfl)
    simp only [Act.put, List.setIfInBounds_toArray, List.set_cons_zero, List.set_cons_succ]
    refine GoX.take 2 rfl (by kernel_rfl) (by kernel_rfl) (by rfl) (fun _ _ _ h => h) (v := ?tv2g3) P0 ?ty2g3 ?tr2g3
    case ty2g3 => (intro w hSw; (try dsimp only at hSw); go_simp; first | done | with_reducible rfl)
    simp only [Act.put, List.setIfInBounds_toArray, List.set_cons_zero, List.set_cons_succ]
    refine GoX.take 3 rfl (by kernel_rfl) (by kernel_rfl) (by rfl) (fun _ _ _ h => h) (v := ?tv3g4) P0 ?ty3g4 ?tr3g4
    case ty3g4 => (intro w hSw; (try dsimp only at hSw); go_simp; first | done | with_reducible rfl)
    simp only [Act.put, List.setIfInBounds_toArray, List.set_cons_zero, List.set_cons_succ]
    refine GoX.skip 4 rfl (by kernel_rfl) (by kernel_rfl) (by rfl) (fun _ _ _ h => h) P0 ?_
    simp only [Act.put, List.setIfInBounds_toArray, List.set_cons_zero, List.set_cons_succ]
    refine GoX.skip 5 rfl (by kernel_rfl) (by kernel_rfl) (by rfl) (fun _ _ _ h => h) P0 ?_
    simp only [Act.put, List.setIfInBounds_toArray, List.set_cons_zero, List.set_cons_succ]
    refine GoX.skip 6 rfl (by kernel_rfl) (by kernel_rfl) (by rfl) (fun _ _ _ h => h) P0 ?_
    simp only [Act.put, List.setIfInBounds_toArray, List.set_cons_zero, List.set_cons_succ]
    refine GoX.skip 7 rfl (by kernel_rfl) (by kernel_rfl) (by rfl) (fun _ _ _ h => h) P0 ?_
    simp only [Act.put, List.setIfInBounds_toArray, List.set_cons_zero, List.set_cons_succ]
    refine GoX.skip 8 rfl (by kernel_rfl) (by kernel_rfl) (by rfl) (fun _ _ _ h => h) P0 ?_
    simp only [Act.put, List.setIfInBounds_toArray, List.set_cons_zero, List.set_cons_succ]
    refine GoX.skip 9 rfl (by kernel_rfl) (by kernel_rfl) (by rfl) (fun _ _ _ h => h) P0 ?_
    simp only [Act.put, List.setIfInBounds_toArray, List.set_cons_zero, List.set_cons_succ]
    refine GoX.skip 10 rfl (by kernel_rfl) (by kernel_rfl) (by rfl) (fun _ _ _ h => h) P0 ?_
    simp only [Act.put, List.setIfInBounds_toArray, List.set_cons_zero, List.set_cons_succ]
    refine GoX.skip 11 rfl (by kernel_rfl) (by kernel_rfl) (by rfl) (fun _ _ _ h => h) P0 ?_
    simp only [Act.put, List.setIfInBounds_toArray, List.set_cons_zero, List.set_cons_succ]
    refine GoX.skip 12 rfl (by kernel_rfl) (by kernel_rfl) (by rfl) (fun _ _ _ h => h) P0 ?_
    simp only [Act.put, List.setIfInBounds_toArray, List.set_cons_zero, List.set_cons_succ]
    refine GoX.take 13 rfl (by kernel_rfl) (by kernel_rfl) (by rfl) (fun _ _ _ h => h) (v := ?tv13g5) P0 ?ty13g5 ?tr13g5
    case ty13g5 => (intro w hSw; (try dsimp only at hSw); go_simp; first | done | with_reducible rfl)
    simp only [Act.put, List.setIfInBounds_toArray, List.set_cons_zero, List.set_cons_succ]
    refine GoX.last 14 rfl (by kernel_rfl) (by kernel_rfl) (by decide) ?_
    go_wp2
    go_ret
    exact ⟨by rfl, HBd.out⟩
  | true =>
    have hr : res = decide (A.rval = C.val) := by rw [HR3.out]; simp
    have KE := sameBytes_any y.1 y.2.1 y.2.2 A.rval xc.1 xc.2.1 xc.2.2 C.val W.drew (HS.out.r.below HBd.out) (V1.out.v.below HBd.out)
    rw [← hr] at KE
    clear hr HR3
    refine GoX.start 14 (fun w' => w'.cell? ⟨w.heap.size, 13, none⟩ = some (.bool true) ∧ w'.cell? ⟨w.heap.size, 9, none⟩ = some (.slice y.1 y.2.1 y.2.2) ∧ w'.cell? ⟨b, o + t * 15 + 5, none⟩ = some (.slice xc.1 xc.2.1 xc.2.2)) (by kernel_rfl) ?_
    refine GoX.take 0 rfl (by kernel_rfl) (by kernel_rfl) (by rfl) (fun _ _ _ h => h) (v := ?tv0g6) P0 ?ty0g6 ?tr0g6
    case ty0g6 => (intro w hSw; (try dsimp only at hSw); go_simp; first | done | with_reducible rfl)
    simp only [Act.put, List.setIfInBounds_toArray, List.set_cons_zero, List.set_cons_succ]
    refine GoX.take 1 rfl (by kernel_rfl) (by kernel_rfl) (by rfl) (fun _ _ _ h => h) (v := ?tv1g7) P0 ?ty1g7 ?tr1g7
    case ty1g7 => (intro w hSw; (try dsimp only at hSw); go_simp; first | done | with_reducible rfl)
    simp only [Act.put, List.setIfInBounds_toArray, List.set_cons_zero, List.set_cons_succ]
    refine GoX.take 2 rfl (by kernel_rfl) (by kernel_rfl) (by rfl) (fun _ _ _ h => h) (v := ?tv2g8) P0 ?ty2g8 ?tr2g8
    case ty2g8 => (intro w hSw; (try dsimp only at hSw); go_simp; first | done | with_reducible rfl)
    simp only [Act.put, List.setIfInBounds_toArray, List.set_cons_zero, List.set_cons_succ]
    refine GoX.take 3 rfl (by kernel_rfl) (by kernel_rfl) (by rfl) (fun _ _ _ h => h) (v := ?tv3g9) P0 ?ty3g9 ?tr3g9
    case ty3g9 => (intro w hSw; (try dsimp only at hSw); go_simp; first | done | with_reducible rfl)
    simp only [Act.put, List.setIfInBounds_toArray, List.set_cons_zero, List.set_cons_succ]
    refine GoX.take 4 rfl (by kernel_rfl) (by kernel_rfl) (by rfl) (fun _ _ _ h => h) (v := ?tv4g10) P0 ?ty4g10 ?tr4g10
    case ty4g10 => (intro w hSw; (try dsimp only at hSw); go_simp; first | done | with_reducible rfl)
    simp only [Act.put, List.setIfInBounds_toArray, List.set_cons_zero, List.set_cons_succ]
    refine GoX.take 5 rfl (by kernel_rfl) (by kernel_rfl) (by rfl) (fun _ _ _ h => h) (v := ?tv5g11) P0 ?ty5g11 ?tr5g11
    case ty5g11 => (intro w hSw; (try dsimp only at hSw); go_simp; first | done | with_reducible rfl)
    simp only [Act.put, List.setIfInBounds_toArray, List.set_cons_zero, List.set_cons_succ]
    refine GoX.take 6 rfl (by kernel_rfl) (by kernel_rfl) (by rfl) (fun _ _ _ h => h) (v := ?tv6g12) P0 ?ty6g12 ?tr6g12
    case ty6g12 => (intro w hSw; (try dsimp only at hSw); go_simp; first | done | with_reducible rfl)
    simp only [Act.put, List.setIfInBounds_toArray, List.set_cons_zero, List.set_cons_succ]
    refine GoX.take 7 rfl (by kernel_rfl) (by kernel_rfl) (by rfl) (fun _ _ _ h => h) (v := ?tv7g13) P0 ?ty7g13 ?tr7g13
    case ty7g13 => (intro w hSw; (try dsimp only at hSw); go_simp; first | done | with_reducible rfl)
    simp only [Act.put, List.setIfInBounds_toArray, List.set_cons_zero, List.set_cons_succ]
    refine GoX.take 8 rfl (by kernel_rfl) (by kernel_rfl) (by rfl) (fun _ _ _ h => h) (v := ?tv8g14) P0 ?ty8g14 ?tr8g14
    case ty8g14 => (intro w hSw; (try dsimp only at hSw); go_simp; first | done | with_reducible rfl)
    simp only [Act.put, List.setIfInBounds_toArray, List.set_cons_zero, List.set_cons_succ]
    refine GoX.take 9 rfl (by kernel_rfl) (by kernel_rfl) (by rfl) (fun _ _ _ h => h) (v := ?tv9g15) P0 ?ty9g15 ?tr9g15
    case ty9g15 => (intro w hSw; (try dsimp only at hSw); go_simp; first | done | with_reducible rfl)
    simp only [Act.put, List.setIfInBounds_toArray, List.set_cons_zero, List.set_cons_succ]
    refine GoX.take 10 rfl (by kernel_rfl) (by kernel_rfl) (by rfl) (fun _ _ _ h => h) (v := ?tv10g16) P0 ?ty10g16 ?tr10g16
    case ty10g16 => (intro w hSw; (try dsimp only at hSw); go_simp; first | done | with_reducible rfl)
    simp only [Act.put, List.setIfInBounds_toArray, List.set_cons_zero, List.set_cons_succ]
    refine GoX.take 11 rfl (by kernel_rfl) (by kernel_rfl) (by rfl) (fun _ _ _ h => h) (v := ?tv11g17) P0 ?ty11g17 ?tr11g17
    case ty11g17 => (intro w hSw; (try dsimp only at hSw); go_simp; first | done | with_reducible rfl)
    simp only [Act.put, List.setIfInBounds_toArray, List.set_cons_zero, List.set_cons_succ]
    refine GoX.one 12 rfl (by kernel_rfl) (by decide) (fun K hK => ?_)
    rw [if_pos (by rfl)]
    go_simp
    (with_reducible refine KE.mono ?_)
    rintro e w9 ⟨rfl, b9⟩
    have P1 : w9.cell? ⟨w.heap.size, 13, none⟩ = some (.bool true) ∧ w9.cell? ⟨w.heap.size, 9, none⟩ = some (.slice y.1 y.2.1 y.2.2) ∧ w9.cell? ⟨b, o + t * 15 + 5, none⟩ = some (.slice xc.1 xc.2.1 xc.2.2) := ⟨cellBelow P0.1 b9, cellBelow P0.2.1 b9, cellBelow P0.2.2 b9⟩
    have H9 := Lib.hid (HBd.out.trans (b9.mono HBd.out.size))
    clear b9 KE
    refine hK.out _ _ P1 (fun _ => ?_)
    clear hK K
    refine GoX.take 13 rfl (by kernel_rfl) (by kernel_rfl) (by rfl) (fun _ _ _ h => h) (v := ?tv13g18) P1 ?ty13g18 ?tr13g18
    case ty13g18 => (intro w hSw; (try dsimp only at hSw); go_simp; first | done | with_reducible rfl)
    simp only [Act.put, List.setIfInBounds_toArray, List.set_cons_zero, List.set_cons_succ]
    refine GoX.last 14 rfl (by kernel_rfl) (by kernel_rfl) (by decide) ?_
    go_wp2
    go_ret
    exact ⟨by rfl, H9.out⟩
end Go.Proofs.Ytnefcbcioemfiaa
