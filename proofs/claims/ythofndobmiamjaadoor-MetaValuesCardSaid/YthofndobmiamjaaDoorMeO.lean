/-
  meta: right, of any record.
-/
import Derived.Test.YthofndobmiamjaaDoorMeN
namespace Go.Proofs.YthofndobmiamjaaDoor
open Go.RowKit

def fitsB (k N c s t : Int) (d : Bool) (sn pn : Nat) : Bool :=
  if k = 1 then metaB N c s t d sn && !d else if k = 2 then metaB N c s t d sn && decide ((pn : Int) = 0) else if k = 3 then aloneB N c s t d sn && decide (0 < (pn : Int)) else if k = 4 then aloneB N c s t d sn && decide (0 < (pn : Int)) else false
def slotsOf (k : Int) : Int := if k = 4 then 1 else 512
def sumOf (k : Int) : Int := if k = 4 then 0 else 32
def rightB (k : Int) (key : ByteArray) (N c s t : Int) (d : Bool) (sn : Nat) (P : Nat → PlR) (pn : Nat) : Bool :=
  fitsB k N c s t d sn pn && (keyB key.size && (decide ((pn : Int) ≤ 512) && !(someWrong (slotsOf k) (sumOf k) P pn)))
theorem alloc_szM (w : World) (o : Obj) : (w.alloc o).heap.size = w.heap.size + 1 := by simp
structure RSt (w0 w : World) (rec : Array Value) (S U : Int) : Prop where
  a : w.heap[w0.heap.size]? = some (.cells rec RT9 (0, 0))
  s : w.heap[w0.heap.size + 1]? = some (.cells #[.int .i64 S] 3 (0, 0))
  u : w.heap[w0.heap.size + 2]? = some (.cells #[.int .i64 U] 3 (0, 0))
  bel : Below w0.heap.size w0 w
theorem RSt.below {w0 w w' : World} {rec : Array Value} {S U : Int} (h : RSt w0 w rec S U) (hb : Below w.heap.size w w') : RSt w0 w' rec S U :=
  ⟨(hb.block _ (Array.getElem?_eq_some_iff.1 h.a).1).trans h.a, (hb.block _ (Array.getElem?_eq_some_iff.1 h.s).1).trans h.s, (hb.block _ (Array.getElem?_eq_some_iff.1 h.u).1).trans h.u, h.bel.trans (hb.mono h.bel.size)⟩
theorem RSt.start (w : World) (rec : Array Value) (S U : Int) : RSt w (((w.alloc (.cells rec RT9)).alloc (.cells #[.int .i64 S] 3)).alloc (.cells #[.int .i64 U] 3)) rec S U := by
  have z1 := alloc_szM w (.cells rec RT9)
  have z2 := alloc_szM (w.alloc (.cells rec RT9)) (.cells #[.int .i64 S] 3)
  refine ⟨(heap_alloc_old _ _ (by omega)).trans ((heap_alloc_old _ _ (by omega)).trans (heap_alloc_new w _)), ?_, ?_, ((below_alloc w _).alloc (by omega) _).alloc (by omega) _⟩
  · have := heap_alloc_new (w.alloc (.cells rec RT9)) (.cells #[.int .i64 S] 3)
    rw [z1] at this
    exact (heap_alloc_old _ _ (by omega)).trans this
  · have := heap_alloc_new ((w.alloc (.cells rec RT9)).alloc (.cells #[.int .i64 S] 3)) (.cells #[.int .i64 U] 3)
    rw [z2, z1] at this
    exact this
theorem RSt.set {w0 w : World} {rec : Array Value} {S U S' U' : Int} (h : RSt w0 w rec S U) : RSt w0 ((w.setCell ⟨w0.heap.size + 1, 0, none⟩ (.int .i64 S')).setCell ⟨w0.heap.size + 2, 0, none⟩ (.int .i64 U')) rec S' U' := by
  refine ⟨?_, ?_, ?_, (h.bel.setCell (p := ⟨w0.heap.size + 1, 0, none⟩) (by show w0.heap.size ≤ w0.heap.size + 1; omega) _).setCell (p := ⟨w0.heap.size + 2, 0, none⟩) (by show w0.heap.size ≤ w0.heap.size + 2; omega) _⟩
  · exact (heap_setCell_other _ ⟨w0.heap.size + 2, 0, none⟩ _ _ (by simp only; omega)).trans ((heap_setCell_other _ ⟨w0.heap.size + 1, 0, none⟩ _ _ (by simp only; omega)).trans h.a)
  · exact (heap_setCell_other _ ⟨w0.heap.size + 2, 0, none⟩ _ _ (by simp only; omega)).trans (heap_setCell_same _ _ 0 _ _ _ h.s)
  · exact heap_setCell_same _ _ 0 _ _ _ ((heap_setCell_other _ ⟨w0.heap.size + 1, 0, none⟩ _ _ (by simp only; omega)).trans h.u)
theorem check_yes {N c s t : Int} {d : Bool} {sa : Option Addr} {sn sc : Nat} (h : metaB N c s t d sn = true) (w : World) :
    Calls Tryd.prog 23 #[.agg #[.int .i64 N, .int .i64 c, .int .i64 s, .int .i64 t, .bool d, .slice sa sn sc]] w fun e w' => e = .returned (.int .i64 0) ∧ Below w.heap.size w w' := by
  have := check_any N c s t d sa sn sc w; rwa [if_pos h] at this
theorem check_no {N c s t : Int} {d : Bool} {sa : Option Addr} {sn sc : Nat} (h : metaB N c s t d sn = false) (w : World) :
    Calls Tryd.prog 23 #[.agg #[.int .i64 N, .int .i64 c, .int .i64 s, .int .i64 t, .bool d, .slice sa sn sc]] w fun e w' => e = .returned (.int .i64 90) ∧ Below w.heap.size w w' := by
  have := check_any N c s t d sa sn sc w; rwa [if_neg (by rw [h]; decide)] at this
set_option maxRecDepth 100000 in
set_option maxHeartbeats 8000000 in
theorem right_any (k : Int) (key : ByteArray) (N c s t : Int) (d : Bool) (sa : Option Addr) (sn sc : Nat) (pa : Option Addr) (pn pc : Nat) (P : Nat → PlR) (w : World) (hP : PlacesV w pa pn pc P) (hpn : pn ≤ 100000) :
    Calls Tryd.prog 46 #[.agg #[.int .i64 k, .string key, .int .i64 N, .int .i64 c, .int .i64 s, .int .i64 t, .bool d, .slice sa sn sc, .slice pa pn pc]] w fun e w' => e = .returned (.bool (rightB k key N c s t d sn P pn)) ∧ Below w.heap.size w w' := by
  obtain ⟨MB, hMB⟩ : ∃ b, b = metaB N c s t d sn := ⟨_, rfl⟩
  obtain ⟨AB, hAB⟩ : ∃ b, b = aloneB N c s t d sn := ⟨_, rfl⟩
  obtain ⟨FB, hFB⟩ : ∃ b, b = fitsB k N c s t d sn pn := ⟨_, rfl⟩
  have hF1 : k = 1 → (MB && !d) = FB := fun e => by rw [hFB, hMB]; unfold fitsB; rw [if_pos e]
  have hF2 : k = 2 → (MB && decide ((pn : Int) = 0)) = FB := fun e => by rw [hFB, hMB]; unfold fitsB; rw [if_neg (by omega), if_pos e]
  have hF3 : k = 3 → (AB && decide (0 < (pn : Int))) = FB := fun e => by rw [hFB, hAB]; unfold fitsB; rw [if_neg (by omega), if_neg (by omega), if_pos e]
  have hF4 : k = 4 → (AB && decide (0 < (pn : Int))) = FB := fun e => by rw [hFB, hAB]; unfold fitsB; rw [if_neg (by omega), if_neg (by omega), if_neg (by omega), if_pos e]
  have hF0 : ¬ k = 1 → ¬ k = 2 → ¬ k = 3 → ¬ k = 4 → false = FB := fun e1 e2 e3 e4 => by rw [hFB]; unfold fitsB; rw [if_neg e1, if_neg e2, if_neg e3, if_neg e4]
  have KCy := fun (h : MB = true) w => check_yes (sa := sa) (sc := sc) (hMB.symm.trans h) w
  have KCn := fun (h : MB = false) w => check_no (sa := sa) (sc := sc) (hMB.symm.trans h) w
  have KA := fun w => tagAlone_any N c s t d sa sn sc w
  simp only [← hAB] at KA
  obtain ⟨RB, hRB⟩ : ∃ b, b = (FB && (keyB key.size && (decide ((pn : Int) ≤ 512) && !(someWrong (slotsOf k) (sumOf k) P pn)))) := ⟨_, rfl⟩
  rw [show rightB k key N c s t d sn P pn = RB by rw [hRB, hFB]; rfl]
  have HRB := Lib.hid hRB
  have HF0 := Lib.hid hF0
  have HF1 := Lib.hid hF1
  have HF2 := Lib.hid hF2
  have HF3 := Lib.hid hF3
  have HF4 := Lib.hid hF4
  have HCy := Lib.hid KCy
  have HCn := Lib.hid KCn
  have HP := Lib.hid hP
  obtain ⟨S0, hS0⟩ : ∃ x, x = slotsOf k := ⟨_, rfl⟩
  obtain ⟨U0, hU0⟩ : ∃ x, x = sumOf k := ⟨_, rfl⟩
  have HS4 := Lib.hid (show k = 4 → S0 = 1 ∧ U0 = 0 from fun e => by rw [hS0, hU0]; unfold slotsOf sumOf; rw [if_pos e, if_pos e]; exact ⟨rfl, rfl⟩)
  have HS5 := Lib.hid (show ¬ k = 4 → S0 = 512 ∧ U0 = 32 from fun e => by rw [hS0, hU0]; unfold slotsOf sumOf; rw [if_neg e, if_neg e]; exact ⟨rfl, rfl⟩)
  have HSS := Lib.hid (And.intro hS0 hU0)
  obtain ⟨rec, hrec⟩ : ∃ r : Array Value, r = #[.int .i64 k, .string key, .int .i64 N, .int .i64 c, .int .i64 s, .int .i64 t, .bool d, .slice sa sn sc, .slice pa pn pc] := ⟨_, rfl⟩
  have HREC := Lib.hid hrec
  clear hMB hAB hFB hF0 hF1 hF2 hF3 hF4 hRB KCy KCn hS0 hU0 hP hrec
  go_enter Tryd.func46, Tryd.ntmps46
  go_upto_region 2 with fail
  refine (?_ : ∀ W, RSt w W rec 512 32 → Code.wp Tryd.prog _ _ _ W) _ ?st
  case st =>
    rw [HREC.out]
    exact RSt.start w _ 512 32
  intro W hW
  have HR0 := Lib.hid hW
  obtain ⟨c0, c1, c2, c3, c4, c5, c6, c7, c8⟩ := cells9M (by have := hW.a; rw [HREC.out] at this; exact this)
  have hs0 : W.cell? ⟨w.heap.size + 1, 0, none⟩ = some (.int .i64 512) := cell_of_row _ _ 0 _ _ _ hW.s
  have hu0 : W.cell? ⟨w.heap.size + 2, 0, none⟩ = some (.int .i64 32) := cell_of_row _ _ 0 _ _ _ hW.u
  have hsf : W.frozen? ⟨w.heap.size + 1, 0, none⟩ = false := frozen_of_row _ _ _ _ _ hW.s
  have huf : W.frozen? ⟨w.heap.size + 2, 0, none⟩ = false := frozen_of_row _ _ _ _ _ hW.u
  clear hW
  go_upto_block 0 with fail
  go_cut [5] (fun v wx => v = .bool FB ∧ Hid (RSt w wx rec S0 U0))
  case first =>
    by_cases q1 : k = 1
    · obtain ⟨e1, e2⟩ := HS5.out (by omega)
      have hf := HF1.out q1
      obtain rfl := q1
      have HE := Lib.hid (And.intro e1 e2)
      have HFF := Lib.hid hf
      clear e1 e2 hf
      cases MB
      · have KK := HCn.out rfl
        go_wp2_with fail
        (with_reducible refine (KK _).mono ?_)
        rintro e w2 ⟨rfl, b2⟩
        have HR2 := Lib.hid (HR0.out.below b2)
        obtain ⟨c0, c1, c2, c3, c4, c5, c6, c7, c8⟩ := cells9M (by have := HR2.out.a; rw [HREC.out] at this; exact this)
        clear b2
        go_wp2_with fail
        go_meet
        refine ⟨congrArg Value.bool (by rw [← HFF.out]; simp), ?_⟩
        rw [HE.out.1, HE.out.2]
        exact HR2
      · have KK := HCy.out rfl
        cases d
        all_goals
          go_wp2_with fail
          (with_reducible refine (KK _).mono ?_)
          rintro e w2 ⟨rfl, b2⟩
          have HR2 := Lib.hid (HR0.out.below b2)
          obtain ⟨c0, c1, c2, c3, c4, c5, c6, c7, c8⟩ := cells9M (by have := HR2.out.a; rw [HREC.out] at this; exact this)
          clear b2
          go_wp2_with fail
          go_meet
          refine ⟨congrArg Value.bool (by rw [← HFF.out]; simp), ?_⟩
          rw [HE.out.1, HE.out.2]
          exact HR2
    by_cases q2 : k = 2
    · obtain ⟨e1, e2⟩ := HS5.out (by omega)
      have hf := HF2.out q2
      obtain rfl := q2
      have HE := Lib.hid (And.intro e1 e2)
      have HFF := Lib.hid hf
      clear e1 e2 hf q1
      cases MB
      · have KK := HCn.out rfl
        go_wp2_with fail
        (with_reducible refine (KK _).mono ?_)
        rintro e w2 ⟨rfl, b2⟩
        have HR2 := Lib.hid (HR0.out.below b2)
        obtain ⟨c0, c1, c2, c3, c4, c5, c6, c7, c8⟩ := cells9M (by have := HR2.out.a; rw [HREC.out] at this; exact this)
        clear b2
        go_wp2_with fail
        go_meet
        refine ⟨congrArg Value.bool (by rw [← HFF.out]; simp), ?_⟩
        rw [HE.out.1, HE.out.2]
        exact HR2
      · have KK := HCy.out rfl
        by_cases h0 : (pn : Int) = 0
        · have e0 : ((pn : Int) == 0) = true := beq_iff_eq.2 h0
          have H0 := Lib.hid (decide_eq_true h0)
          clear h0
          go_wp2_with fail
          (with_reducible refine (KK _).mono ?_)
          rintro e w2 ⟨rfl, b2⟩
          have HR2 := Lib.hid (HR0.out.below b2)
          obtain ⟨c0, c1, c2, c3, c4, c5, c6, c7, c8⟩ := cells9M (by have := HR2.out.a; rw [HREC.out] at this; exact this)
          clear b2
          go_wp2_with fail
          go_meet
          refine ⟨congrArg Value.bool (by rw [← HFF.out, H0.out]; simp), ?_⟩
          rw [HE.out.1, HE.out.2]
          exact HR2
        · have e0 : ((pn : Int) == 0) = false := beq_eq_false_iff_ne.2 h0
          have H0 := Lib.hid (decide_eq_false h0)
          clear h0
          go_wp2_with fail
          (with_reducible refine (KK _).mono ?_)
          rintro e w2 ⟨rfl, b2⟩
          have HR2 := Lib.hid (HR0.out.below b2)
          obtain ⟨c0, c1, c2, c3, c4, c5, c6, c7, c8⟩ := cells9M (by have := HR2.out.a; rw [HREC.out] at this; exact this)
          clear b2
          go_wp2_with fail
          go_meet
          refine ⟨congrArg Value.bool (by rw [← HFF.out, H0.out]; simp), ?_⟩
          rw [HE.out.1, HE.out.2]
          exact HR2
    by_cases q3 : k = 3
    · obtain ⟨e1, e2⟩ := HS5.out (by omega)
      have hf := HF3.out q3
      obtain rfl := q3
      have HE := Lib.hid (And.intro e1 e2)
      have HFF := Lib.hid hf
      clear e1 e2 hf q1 q2
      cases AB
      · go_wp2_with fail
        (with_reducible refine (KA _).mono ?_)
        rintro e w2 ⟨rfl, b2⟩
        have HR2 := Lib.hid (HR0.out.below b2)
        obtain ⟨c0, c1, c2, c3, c4, c5, c6, c7, c8⟩ := cells9M (by have := HR2.out.a; rw [HREC.out] at this; exact this)
        clear b2
        go_wp2_with fail
        go_meet
        refine ⟨congrArg Value.bool (by rw [← HFF.out]; simp), ?_⟩
        rw [HE.out.1, HE.out.2]
        exact HR2
      · by_cases h0 : 0 < (pn : Int)
        · have H0 := Lib.hid (decide_eq_true h0)
          go_wp2_with fail
          (with_reducible refine (KA _).mono ?_)
          rintro e w2 ⟨rfl, b2⟩
          have HR2 := Lib.hid (HR0.out.below b2)
          obtain ⟨c0, c1, c2, c3, c4, c5, c6, c7, c8⟩ := cells9M (by have := HR2.out.a; rw [HREC.out] at this; exact this)
          clear b2
          go_wp2_with fail
          go_meet
          refine ⟨congrArg Value.bool (by rw [← HFF.out, H0.out]; simp <;> omega), ?_⟩
          rw [HE.out.1, HE.out.2]
          exact HR2
        · have H0 := Lib.hid (decide_eq_false h0)
          go_wp2_with fail
          (with_reducible refine (KA _).mono ?_)
          rintro e w2 ⟨rfl, b2⟩
          have HR2 := Lib.hid (HR0.out.below b2)
          obtain ⟨c0, c1, c2, c3, c4, c5, c6, c7, c8⟩ := cells9M (by have := HR2.out.a; rw [HREC.out] at this; exact this)
          clear b2
          go_wp2_with fail
          go_meet
          refine ⟨congrArg Value.bool (by rw [← HFF.out, H0.out]; simp <;> omega), ?_⟩
          rw [HE.out.1, HE.out.2]
          exact HR2
    by_cases q4 : k = 4
    · obtain ⟨e1, e2⟩ := HS4.out q4
      have hf := HF4.out q4
      obtain rfl := q4
      have HE := Lib.hid (And.intro e1 e2)
      have HFF := Lib.hid hf
      clear e1 e2 hf q1 q2 q3
      cases AB
      · go_wp2_with fail
        (with_reducible refine (KA _).mono ?_)
        rintro e w2 ⟨rfl, b2⟩
        have HR2 := Lib.hid (HR0.out.set.below b2)
        obtain ⟨c0, c1, c2, c3, c4, c5, c6, c7, c8⟩ := cells9M (by have := HR2.out.a; rw [HREC.out] at this; exact this)
        clear b2
        go_wp2_with fail
        go_meet
        refine ⟨congrArg Value.bool (by rw [← HFF.out]; simp), ?_⟩
        rw [HE.out.1, HE.out.2]
        exact HR2
      · by_cases h0 : 0 < (pn : Int)
        · have H0 := Lib.hid (decide_eq_true h0)
          go_wp2_with fail
          (with_reducible refine (KA _).mono ?_)
          rintro e w2 ⟨rfl, b2⟩
          have HR2 := Lib.hid (HR0.out.set.below b2)
          obtain ⟨c0, c1, c2, c3, c4, c5, c6, c7, c8⟩ := cells9M (by have := HR2.out.a; rw [HREC.out] at this; exact this)
          clear b2
          go_wp2_with fail
          go_meet
          refine ⟨congrArg Value.bool (by rw [← HFF.out, H0.out]; simp <;> omega), ?_⟩
          rw [HE.out.1, HE.out.2]
          exact HR2
        · have H0 := Lib.hid (decide_eq_false h0)
          go_wp2_with fail
          (with_reducible refine (KA _).mono ?_)
          rintro e w2 ⟨rfl, b2⟩
          have HR2 := Lib.hid (HR0.out.set.below b2)
          obtain ⟨c0, c1, c2, c3, c4, c5, c6, c7, c8⟩ := cells9M (by have := HR2.out.a; rw [HREC.out] at this; exact this)
          clear b2
          go_wp2_with fail
          go_meet
          refine ⟨congrArg Value.bool (by rw [← HFF.out, H0.out]; simp <;> omega), ?_⟩
          rw [HE.out.1, HE.out.2]
          exact HR2
    · obtain ⟨e1, e2⟩ := HS5.out q4
      have hf := HF0.out q1 q2 q3 q4
      have n1 : (k == 1) = false := beq_eq_false_iff_ne.2 q1
      have n2 : (k == 2) = false := beq_eq_false_iff_ne.2 q2
      have n3 : (k == 3) = false := beq_eq_false_iff_ne.2 q3
      have n4 : (k == 4) = false := beq_eq_false_iff_ne.2 q4
      have HE := Lib.hid (And.intro e1 e2)
      have HFF := Lib.hid hf
      clear e1 e2 hf
      go_wp2_with fail
      go_meet
      refine ⟨congrArg Value.bool (by rw [← HFF.out]), ?_⟩
      rw [HE.out.1, HE.out.2]
      exact HR0
  case rest =>
    rename World => wx
    obtain ⟨rfl, hR⟩ := hcut
    obtain ⟨c0, c1, c2, c3, c4, c5, c6, c7, c8⟩ := cells9M (by have := hR.out.a; rw [HREC.out] at this; exact this)
    obtain ⟨KB, hKB⟩ : ∃ b, b = keyB key.size := ⟨_, rfl⟩
    obtain ⟨SW, hSW⟩ : ∃ b, b = someWrong S0 U0 P pn := ⟨_, rfl⟩
    have KK := key_any key
    simp only [← hKB] at KK
    have KC := fun wy (b : Below wx.heap.size wx wy) => containsWrong_any S0 U0 (w.heap.size + 1) (w.heap.size + 2) pa pn pc P wy (HP.out.below (hR.out.bel.trans (b.mono hR.out.bel.size))) hpn (cell_of_row _ _ 0 _ _ _ (hR.out.below b).s) (cell_of_row _ _ 0 _ _ _ (hR.out.below b).u)
    simp only [← hSW] at KC
    have hRB : RB = (FB && (KB && (decide ((pn : Int) ≤ 512) && !SW))) := by rw [HRB.out, hKB, hSW, HSS.out.1, HSS.out.2]
    have HRBB := Lib.hid hRB
    have HKC := Lib.hid KC
    clear hKB hSW hRB KC hs0 hu0 hsf huf HRB
    cases FB
    · go_wp2_with fail
      go_ret
      exact ⟨ret_boolM (by rw [HRBB.out]; rfl), hR.out.bel⟩
    cases KB
    · go_wp2_with fail
      (with_reducible refine (KK _).mono ?_)
      rintro e w2 ⟨rfl, rfl⟩
      go_wp2
      go_ret
      exact ⟨ret_boolM (by rw [HRBB.out]; rfl), hR.out.bel⟩
    by_cases h5 : (pn : Int) ≤ 512
    · have H5 := Lib.hid (decide_eq_true h5)
      cases SW
      all_goals
        go_wp2_with fail
        (with_reducible refine (KK _).mono ?_)
        rintro e w2 ⟨rfl, rfl⟩
        have KC := HKC.out w2 (Below.refl _ _)
        go_wp2_with fail
        (with_reducible refine KC.mono ?_)
        rintro e w3 ⟨rfl, b3⟩
        have hb := (hR.out.below b3).bel
        clear b3 KC
        go_wp2
        go_ret
        exact ⟨ret_boolM (by rw [HRBB.out, H5.out]; rfl), hb⟩
    · have H5 := Lib.hid (decide_eq_false h5)
      go_wp2_with fail
      (with_reducible refine (KK _).mono ?_)
      rintro e w2 ⟨rfl, rfl⟩
      go_wp2
      go_ret
      exact ⟨ret_boolM (by rw [HRBB.out, H5.out]; rfl), hR.out.bel⟩
end Go.Proofs.YthofndobmiamjaaDoor
