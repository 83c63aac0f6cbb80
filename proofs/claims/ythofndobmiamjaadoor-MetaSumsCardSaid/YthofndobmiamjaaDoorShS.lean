/-
  meta: MetaSums' walk.
-/
import Derived.Test.YthofndobmiamjaaDoorShR
namespace Go.Proofs.YthofndobmiamjaaDoor
open Go.RowKit

/-- behind Of: the meta's box. -/
structure MS (w W : World) (N c : Int) (g7 : Nat) (R : Array Value) (a : Option Addr) (cc : Nat) (l : List Nat) : Prop where
  bel : Below w.heap.size w W
  r3 : W.heap[w.heap.size]? = some (.cells #[.int .i64 N, .int .i64 c] TT2 (0, 0))
  r7 : W.heap[g7]? = some (.cells R MT6 (0, 0))
  own : W.ownsRow w.heap.size 5 1 (.slice a 32 cc) 32 ((shaR l).map bv)
structure T3 (w W : World) (N c : Int) : Prop where
  bel : Below w.heap.size w W
  r3 : W.heap[w.heap.size]? = some (.cells #[.int .i64 N, .int .i64 c] TT2 (0, 0))
theorem T3.lt {w W : World} {N c : Int} (h : T3 w W N c) : w.heap.size < W.heap.size := (Array.getElem?_eq_some_iff.1 h.r3).1
theorem T3.below {w W W' : World} {N c : Int} (h : T3 w W N c) (hb : Below W.heap.size W W') : T3 w W' N c := ⟨h.bel.trans (hb.mono h.bel.size), (hb.block _ h.lt).trans h.r3⟩
theorem T3.cells {w W : World} {N c : Int} (h : T3 w W N c) : W.cell? ⟨w.heap.size, 0, none⟩ = some (.int .i64 N) ∧ W.cell? ⟨w.heap.size, 1, none⟩ = some (.int .i64 c) := ⟨cell_of_row _ _ 0 _ _ _ h.r3, cell_of_row _ _ 1 _ _ _ h.r3⟩
theorem T3.start (w : World) (N c : Int) : T3 w (w.alloc (.cells #[.int .i64 N, .int .i64 c] TT2)) N c := ⟨below_alloc w _, heap_alloc_new w _⟩
theorem MS.made {w W : World} {N c : Int} (h : T3 w W N c) {g7 : Nat} {z R : Array Value} (hg : W.heap[g7]? = some (.cells z MT6 (0, 0))) (hl : w.heap.size < g7) {a : Option Addr} {cc : Nat} {l : List Nat} (ho : W.ownsRow w.heap.size 5 1 (.slice a 32 cc) 32 ((shaR l).map bv)) : MS w (W.setRow g7 R) N c g7 R a cc l :=
  ⟨below_setRow h.bel (by omega) _, (_root_.Go.setRow_other W g7 _ R (by omega)).trans h.r3, setRow_heap _ _ _ _ _ _ hg, ho.setRow_other (own_ne_box ho hg (by decide)) _⟩
theorem MS.t3 {w W : World} {N c : Int} {g7 : Nat} {R : Array Value} {a : Option Addr} {cc : Nat} {l : List Nat} (h : MS w W N c g7 R a cc l) : T3 w W N c := ⟨h.bel, h.r3⟩
theorem MS.below {w W W' : World} {N c : Int} {g7 : Nat} {R : Array Value} {a : Option Addr} {cc : Nat} {l : List Nat} (h : MS w W N c g7 R a cc l) (hb : Below W.heap.size W W') : MS w W' N c g7 R a cc l :=
  ⟨(h.t3.below hb).bel, (h.t3.below hb).r3, (hb.block _ (Array.getElem?_eq_some_iff.1 h.r7).1).trans h.r7, h.own.kept (grownBy_of_below hb none) (by cases e : (Value.slice a 32 cc).ownBlock with | none => exact .inl rfl | some g => exact .inr (by simp))⟩
theorem owns_below {W W' : World} {B : Nat} {a : Option Addr} {n cc : Nat} {xs : List Value} (h : W.ownsRow B 5 1 (.slice a n cc) n xs) (hb : Below W.heap.size W W') : W'.ownsRow B 5 1 (.slice a n cc) n xs :=
  h.kept (grownBy_of_below hb none) (by cases e : (Value.slice a n cc).ownBlock with | none => exact .inl rfl | some g => exact .inr (by simp))
set_option maxRecDepth 100000 in
set_option maxHeartbeats 16000000 in
theorem metaSums_walk (N c t : Int) (va : Option Addr) (vn vc : Nat) (l : List Nat) (W : World) (hg : SK W ∧ CK W) (_w0 : (Lit.int .i64 N).wf = true) (_x0 : (Lit.int .i64 c).wf = true) (_w1 : (Lit.int .i64 t).wf = true) (w2 : BytesV W (va, vn, vc) l) (s2 : vn ≤ 140737488351232) :
    Calls Tryd.prog 7 #[.agg #[.int .i64 N, .int .i64 c], .int .i64 t, .slice va vn vc] W fun e W' => e = .returned (.bool true) ∧ Below W.heap.size W W' := by
  have HV := Lib.hid w2
  have hvl : l.length = vn := w2.length
  have HVL := Lib.hid hvl
  have HG := Lib.hid hg
  have KA := fun w => alive9_any w
  clear w2 hvl hg
  go_enter Tryd.func7, Tryd.ntmps7
  go_wp2_with fail
  (with_reducible refine (KA _).mono ?_)
  rintro e W1 ⟨rfl, hb1⟩
  have h1 := (T3.start W N c).below hb1
  clear KA hb1
  go_upto_region 3 with fail
  go_cut [7, 8] (fun v u wx => ∃ g7 a cc, v = .pointer (some ⟨g7, 0, none⟩) ∧ u = .int .i64 (chkE N c vn t false 32) ∧ MS W wx N c g7 (chk N c vn t false a 32 cc) a cc l)
  case first =>
    have h0 := h1.below (below_drewS W1)
    have S0 := h0.cells
    refine GoX.start 10 (fun w' => w'.cell? ⟨W.heap.size, 0, none⟩ = some (.int .i64 N) ∧ w'.cell? ⟨W.heap.size, 1, none⟩ = some (.int .i64 c)) (by kernel_rfl) ?_
    refine GoX.take 0 rfl (by kernel_rfl) (by kernel_rfl) (by rfl) (fun _ _ _ h => h) (v := ?tv0) S0 ?ty0 ?tr0
    case ty0 => (intro w hSw; (try dsimp only at hSw); go_simp; first | done | with_reducible rfl)
    simp only [Act.put, List.setIfInBounds_toArray, List.set_cons_zero, List.set_cons_succ]
    refine GoX.take 1 rfl (by kernel_rfl) (by kernel_rfl) (by rfl) (fun _ _ _ h => h) (v := ?tv1) S0 ?ty1 ?tr1
    case ty1 => (intro w hSw; (try dsimp only at hSw); go_simp; first | done | with_reducible rfl)
    simp only [Act.put, List.setIfInBounds_toArray, List.set_cons_zero, List.set_cons_succ]
    refine GoX.take 2 rfl (by kernel_rfl) (by kernel_rfl) (by rfl) (fun _ _ _ h => h) (v := ?tv2) S0 ?ty2 ?tr2
    case ty2 => (intro w hSw; (try dsimp only at hSw); go_simp; first | done | with_reducible rfl)
    simp only [Act.put, List.setIfInBounds_toArray, List.set_cons_zero, List.set_cons_succ]
    refine (?_ : ∀ W0, T3 W W0 N c → GoX Tryd.prog _ _ _ _ _ _ _ W0) _ h0
    clear S0 h0 h1
    intro W0 h0
    refine GoX.two 3 8 rfl rfl (by kernel_rfl) (by decide) (by decide) (fun K hK => ?_) (fun K hK => ?_)
    · rw [if_pos (by rfl)]
      go_simp
      (with_reducible refine (copyBytes_any va vn vc l W0 (HV.out.below h0.bel)).mono ?_)
      rintro e W3 ⟨xa, xc, rfl, o3, b3⟩
      rw [HVL.out] at o3 ⊢
      have h3 := h0.below b3
      have hby := bytesV_of_owns o3 HV.out.bytes (by omega)
      clear h0 b3 o3
      refine hK.out _ _ h3.cells (fun _ => ?_)
      clear hK K
      refine GoX.two 4 8 rfl rfl (by kernel_rfl) (by decide) (by decide) (fun K hK => ?_) (fun K hK => ?_)
      · rw [if_pos (by rfl)]
        go_simp
        (with_reducible refine (of_any N c t xa vn xc l W3 hby (by omega) (HG.out.1.below h3.bel (Nat.le_refl _)) (HG.out.2.below h3.bel (Nat.le_refl _))).mono ?_)
        rintro e W4 ⟨a, cc, rfl, o4, b4⟩
        have h4 := h3.below b4
        have o4' := ownsRow_base o4 h3.bel.size
        obtain ⟨R, hR⟩ : ∃ R, R = chk N c vn t false a 32 cc := ⟨_, rfl⟩
        rw [← hR]
        have HRH := Lib.hid hR
        clear hR h3 b4 o4 hby
        refine hK.out _ _ h4.cells (fun _ => ?_)
        clear hK K
        have S4 := h4.cells
        refine GoX.take 5 rfl (by kernel_rfl) (by kernel_rfl) (by rfl) (fun _ _ _ h => h) (v := ?tv5q2) S4 ?ty5q2 ?tr5q2
        case ty5q2 => (intro w hSw; (try dsimp only at hSw); go_simp; first | done | with_reducible rfl)
        simp only [Act.put, List.setIfInBounds_toArray, List.set_cons_zero, List.set_cons_succ]
        refine GoX.take 6 rfl (by kernel_rfl) (by kernel_rfl) (by rfl) (fun _ _ _ h => h) (v := ?tv6q2) S4 ?ty6q2 ?tr6q2
        case ty6q2 => (intro w hSw; (try dsimp only at hSw); go_simp; first | done | with_reducible rfl)
        simp only [Act.put, List.setIfInBounds_toArray, List.set_cons_zero, List.set_cons_succ]
        refine GoX.take 7 rfl (by kernel_rfl) (by kernel_rfl) (by rfl) (fun _ _ _ h => h) (v := ?tv7q2) S4 ?ty7q2 ?tr7q2
        case ty7q2 => (intro w hSw; (try dsimp only at hSw); go_simp; first | done | with_reducible rfl)
        simp only [Act.put, List.setIfInBounds_toArray, List.set_cons_zero, List.set_cons_succ]
        refine GoX.one 8 rfl (by kernel_rfl) (by decide) (fun K hK => ?_)
        go_simp
        have b5 := below_alloc W4 (.cells zero6 MT6)
        have r5 := heap_alloc_new W4 (.cells zero6 MT6)
        have h5 := h4.below b5
        refine hK.out _ (W4.alloc (.cells zero6 MT6)) h5.cells (fun _ => ?_)
        clear hK K S4
        refine GoX.one 9 rfl (by kernel_rfl) (by decide) (fun K hK => ?_)
        rw [if_pos (by rfl)]
        refine wp_store_row MT6 _ _ rfl W4.heap.size R rfl rfl MT6 _ r5 (by rw [HRH.out, chk_size]; exact infoMT6) (by rw [HRH.out, chk_size]; rfl) (by rw [HRH.out]; exact chk_one _ _ _ _ _ _ _ _) ?_
        have hm := MS.made (R := R) h5 r5 h4.lt (owns_below o4' b5)
        refine hK.out _ _ hm.t3.cells (fun _ => ?_)
        clear hK K
        simp only [Act.put]
        refine GoX.last 10 rfl (by kernel_rfl) (by kernel_rfl) (by decide) ?_
        go_wp2
        go_meet
        exact ⟨_, a, cc, rfl, rfl, by rw [← HRH.out]; exact hm⟩
      · go_simp
        have b5 := below_alloc W3 (.cells zero6 MT6)
        have r5 := heap_alloc_new W3 (.cells zero6 MT6)
        have h5 := h3.below b5
        have hlt := h3.lt
        refine hK.out _ (W3.alloc (.cells zero6 MT6)) h5.cells (fun _ => ?_)
        clear hK K
        refine GoX.one 4 rfl (by kernel_rfl) (by decide) (fun K hK => ?_)
        rw [if_pos (by rfl)]
        go_simp
        (with_reducible refine (of_any N c t xa vn xc l (W3.alloc (.cells zero6 MT6)) (hby.below b5) (by omega) (HG.out.1.below h5.bel (Nat.le_refl _)) (HG.out.2.below h5.bel (Nat.le_refl _))).mono ?_)
        rintro e W4 ⟨a, cc, rfl, o4, b4⟩
        have h4 := h5.below b4
        have o4' := ownsRow_base o4 h5.bel.size
        have r4 := (b4.block _ (Array.getElem?_eq_some_iff.1 r5).1).trans r5
        obtain ⟨R, hR⟩ : ∃ R, R = chk N c vn t false a 32 cc := ⟨_, rfl⟩
        rw [← hR]
        have HRH := Lib.hid hR
        clear hR h3 b4 o4 hby r5 b5 h5
        refine hK.out _ _ h4.cells (fun _ => ?_)
        clear hK K
        have S4 := h4.cells
        refine GoX.take 5 rfl (by kernel_rfl) (by kernel_rfl) (by rfl) (fun _ _ _ h => h) (v := ?tv5q3) S4 ?ty5q3 ?tr5q3
        case ty5q3 => (intro w hSw; (try dsimp only at hSw); go_simp; first | done | with_reducible rfl)
        simp only [Act.put, List.setIfInBounds_toArray, List.set_cons_zero, List.set_cons_succ]
        refine GoX.take 6 rfl (by kernel_rfl) (by kernel_rfl) (by rfl) (fun _ _ _ h => h) (v := ?tv6q3) S4 ?ty6q3 ?tr6q3
        case ty6q3 => (intro w hSw; (try dsimp only at hSw); go_simp; first | done | with_reducible rfl)
        simp only [Act.put, List.setIfInBounds_toArray, List.set_cons_zero, List.set_cons_succ]
        refine GoX.take 7 rfl (by kernel_rfl) (by kernel_rfl) (by rfl) (fun _ _ _ h => h) (v := ?tv7q3) S4 ?ty7q3 ?tr7q3
        case ty7q3 => (intro w hSw; (try dsimp only at hSw); go_simp; first | done | with_reducible rfl)
        simp only [Act.put, List.setIfInBounds_toArray, List.set_cons_zero, List.set_cons_succ]
        refine GoX.one 9 rfl (by kernel_rfl) (by decide) (fun K hK => ?_)
        rw [if_pos (by rfl)]
        refine wp_store_row MT6 _ _ rfl W3.heap.size R rfl rfl MT6 _ r4 (by rw [HRH.out, chk_size]; exact infoMT6) (by rw [HRH.out, chk_size]; rfl) (by rw [HRH.out]; exact chk_one _ _ _ _ _ _ _ _) ?_
        have hm := MS.made (R := R) h4 r4 hlt o4'
        refine hK.out _ _ hm.t3.cells (fun _ => ?_)
        clear hK K
        simp only [Act.put]
        refine GoX.last 10 rfl (by kernel_rfl) (by kernel_rfl) (by decide) ?_
        go_wp2
        go_meet
        exact ⟨_, a, cc, rfl, rfl, by rw [← HRH.out]; exact hm⟩
    · go_simp
      have b5 := below_alloc W0 (.cells zero6 MT6)
      have r5 := heap_alloc_new W0 (.cells zero6 MT6)
      have h5 := h0.below b5
      have hlt := h0.lt
      refine hK.out _ (W0.alloc (.cells zero6 MT6)) h5.cells (fun _ => ?_)
      clear hK K h0
      refine GoX.one 3 rfl (by kernel_rfl) (by decide) (fun K hK => ?_)
      rw [if_pos (by rfl)]
      go_simp
      (with_reducible refine (copyBytes_any va vn vc l (W0.alloc (.cells zero6 MT6)) (HV.out.below h5.bel)).mono ?_)
      rintro e W3 ⟨xa, xc, rfl, o3, b3⟩
      rw [HVL.out] at o3 ⊢
      have h3 := h5.below b3
      have r3 := (b3.block _ (Array.getElem?_eq_some_iff.1 r5).1).trans r5
      have hby := bytesV_of_owns o3 HV.out.bytes (by omega)
      clear h5 b3 o3 b5 r5
      refine hK.out _ _ h3.cells (fun _ => ?_)
      clear hK K
      refine GoX.one 4 rfl (by kernel_rfl) (by decide) (fun K hK => ?_)
      rw [if_pos (by rfl)]
      go_simp
      (with_reducible refine (of_any N c t xa vn xc l W3 hby (by omega) (HG.out.1.below h3.bel (Nat.le_refl _)) (HG.out.2.below h3.bel (Nat.le_refl _))).mono ?_)
      rintro e W4 ⟨a, cc, rfl, o4, b4⟩
      have h4 := h3.below b4
      have o4' := ownsRow_base o4 h3.bel.size
      have r4 := (b4.block _ (Array.getElem?_eq_some_iff.1 r3).1).trans r3
      obtain ⟨R, hR⟩ : ∃ R, R = chk N c vn t false a 32 cc := ⟨_, rfl⟩
      rw [← hR]
      have HRH := Lib.hid hR
      clear hR h3 b4 o4 hby r3
      refine hK.out _ _ h4.cells (fun _ => ?_)
      clear hK K
      have S4 := h4.cells
      refine GoX.take 5 rfl (by kernel_rfl) (by kernel_rfl) (by rfl) (fun _ _ _ h => h) (v := ?tv5q4) S4 ?ty5q4 ?tr5q4
      case ty5q4 => (intro w hSw; (try dsimp only at hSw); go_simp; first | done | with_reducible rfl)
      simp only [Act.put, List.setIfInBounds_toArray, List.set_cons_zero, List.set_cons_succ]
      refine GoX.take 6 rfl (by kernel_rfl) (by kernel_rfl) (by rfl) (fun _ _ _ h => h) (v := ?tv6q4) S4 ?ty6q4 ?tr6q4
      case ty6q4 => (intro w hSw; (try dsimp only at hSw); go_simp; first | done | with_reducible rfl)
      simp only [Act.put, List.setIfInBounds_toArray, List.set_cons_zero, List.set_cons_succ]
      refine GoX.take 7 rfl (by kernel_rfl) (by kernel_rfl) (by rfl) (fun _ _ _ h => h) (v := ?tv7q4) S4 ?ty7q4 ?tr7q4
      case ty7q4 => (intro w hSw; (try dsimp only at hSw); go_simp; first | done | with_reducible rfl)
      simp only [Act.put, List.setIfInBounds_toArray, List.set_cons_zero, List.set_cons_succ]
      refine GoX.one 9 rfl (by kernel_rfl) (by decide) (fun K hK => ?_)
      rw [if_pos (by rfl)]
      refine wp_store_row MT6 _ _ rfl W0.heap.size R rfl rfl MT6 _ r4 (by rw [HRH.out, chk_size]; exact infoMT6) (by rw [HRH.out, chk_size]; rfl) (by rw [HRH.out]; exact chk_one _ _ _ _ _ _ _ _) ?_
      have hm := MS.made (R := R) h4 r4 hlt o4'
      refine hK.out _ _ hm.t3.cells (fun _ => ?_)
      clear hK K
      simp only [Act.put]
      refine GoX.last 10 rfl (by kernel_rfl) (by kernel_rfl) (by decide) ?_
      go_wp2
      go_meet
      exact ⟨_, a, cc, rfl, rfl, by rw [← HRH.out]; exact hm⟩
  case rest =>
    clear h1
    rename World => W3
    obtain ⟨g7, a, cc, rfl, rfl, hm⟩ := hcut
    have hl5 : 5000 < vn → chkE N c vn t false 32 = 90 := fun h => by
      have hlv : liveB vn t 32 = false := by unfold liveB; exact decide_eq_false (fun h => by omega)
      have hmf : metaB N c vn t false 32 = false := by unfold metaB; simp [hlv]
      unfold chkE
      rw [hmf]
      rfl
    cases hb : metaB N c vn t false 32 with
    | false =>
      have hE : chkE N c vn t false 32 = 90 := by unfold chkE; rw [hb]; rfl
      have hR : chk N c vn t false a 32 cc = zero6 := by unfold chk; rw [hb]; rfl
      rw [hR] at hm
      have HM := Lib.hid hm
      obtain ⟨c0, c1, c2, c3, c4, c5, cF⟩ := cells6M hm.r7
      have KC := fun w => check_no (N := 0) (c := 0) (s := 0) (t := 0) (d := false) (sa := none) (sn := 0) (sc := 0) (by decide) w
      rw [hE]
      clear hl5 hb hE hR hm
      by_cases h5 : 5000 < (vn : Int)
      · go_wp2
        go_ret
        exact ⟨rfl, HM.out.bel⟩
      · go_wp2_with fail
        (with_reducible refine (KC _).mono ?_)
        rintro e W4 ⟨rfl, b4⟩
        clear KC
        go_wp2
        go_ret
        exact ⟨rfl, HM.out.bel.trans (b4.mono HM.out.bel.size)⟩
    | true =>
      have hE : chkE N c vn t false 32 = 0 := by unfold chkE; rw [hb]; rfl
      have hR : chk N c vn t false a 32 cc = #[.int .i64 N, .int .i64 c, .int .i64 vn, .int .i64 t, .bool false, .slice a 32 cc] := by unfold chk; rw [hb]; rfl
      rw [hR] at hm
      have HM := Lib.hid hm
      have h5 : ¬ 5000 < (vn : Int) := fun h => by
        have := hl5 (by omega)
        rw [hE] at this
        cases this
      have KC := fun w => check_yes (sa := a) (sc := cc) hb w
      have KEQ := eqlTag N c
      rw [hE]
      clear hl5 hb hE hR hm
      go_upto_region 8 with fail
      have h0 := HM.out.below (below_drewS W3)
      have hS : ∀ w', MS W w' N c g7 #[.int .i64 N, .int .i64 c, .int .i64 vn, .int .i64 t, .bool false, .slice a 32 cc] a cc l → (w'.cell? ⟨g7, 0, none⟩ = some (.int .i64 N) ∧ w'.cell? ⟨g7, 1, none⟩ = some (.int .i64 c) ∧ w'.cell? ⟨g7, 2, none⟩ = some (.int .i64 vn) ∧ w'.cell? ⟨g7, 3, none⟩ = some (.int .i64 t) ∧ w'.cell? ⟨g7, 4, none⟩ = some (.bool false) ∧ w'.cell? ⟨g7, 5, none⟩ = some (.slice a 32 cc)) ∧ w'.cell? ⟨W.heap.size, 0, none⟩ = some (.int .i64 N) ∧ w'.cell? ⟨W.heap.size, 1, none⟩ = some (.int .i64 c) := fun w' h => by
        obtain ⟨c0, c1, c2, c3, c4, c5, cF⟩ := cells6M h.r7
        exact ⟨⟨c0, c1, c2, c3, c4, c5⟩, h.t3.cells⟩
      have HS := Lib.hid hS
      have S0 := HS.out _ h0
      clear hS
      refine GoX.start 36 (fun w' => (w'.cell? ⟨g7, 0, none⟩ = some (.int .i64 N) ∧ w'.cell? ⟨g7, 1, none⟩ = some (.int .i64 c) ∧ w'.cell? ⟨g7, 2, none⟩ = some (.int .i64 vn) ∧ w'.cell? ⟨g7, 3, none⟩ = some (.int .i64 t) ∧ w'.cell? ⟨g7, 4, none⟩ = some (.bool false) ∧ w'.cell? ⟨g7, 5, none⟩ = some (.slice a 32 cc)) ∧ w'.cell? ⟨W.heap.size, 0, none⟩ = some (.int .i64 N) ∧ w'.cell? ⟨W.heap.size, 1, none⟩ = some (.int .i64 c)) (by kernel_rfl) ?_
      refine GoX.take 0 rfl (by kernel_rfl) (by kernel_rfl) (by rfl) (fun _ _ _ h => h) (v := ?tv0q5) S0 ?ty0q5 ?tr0q5
      case ty0q5 => (intro w hSw; (try dsimp only at hSw); go_simp; first | done | with_reducible rfl)
      simp only [Act.put, List.setIfInBounds_toArray, List.set_cons_zero, List.set_cons_succ]
      refine GoX.one 1 rfl (by kernel_rfl) (by decide) (fun K hK => ?_)
      rw [if_pos (by rfl)]
      go_simp
      (with_reducible refine (KC _).mono ?_)
      rintro e W4 ⟨rfl, b4⟩
      have h4 := HM.out.below (show Below W3.heap.size W3 W4 from ⟨b4.os, b4.tape, b4.output, b4.size, b4.block⟩)
      have S4 := HS.out _ h4
      clear b4 h0 S0 KC
      refine hK.out _ _ S4 (fun _ => ?_)
      clear hK K
      refine GoX.take 2 rfl (by kernel_rfl) (by kernel_rfl) (by rfl) (fun _ _ _ h => h) (v := ?tv2q6) S4 ?ty2q6 ?tr2q6
      case ty2q6 => (intro w hSw; (try dsimp only at hSw); go_simp; first | done | with_reducible rfl)
      simp only [Act.put, List.setIfInBounds_toArray, List.set_cons_zero, List.set_cons_succ]
      refine GoX.take 3 rfl (by kernel_rfl) (by kernel_rfl) (by rfl) (fun _ _ _ h => h) (v := ?tv3q6) S4 ?ty3q6 ?tr3q6
      case ty3q6 => (intro w hSw; (try dsimp only at hSw); go_simp; first | done | with_reducible rfl)
      simp only [Act.put, List.setIfInBounds_toArray, List.set_cons_zero, List.set_cons_succ]
      refine GoX.take 4 rfl (by kernel_rfl) (by kernel_rfl) (by rfl) (fun _ _ _ h => h) (v := ?tv4q6) S4 ?ty4q6 ?tr4q6
      case ty4q6 => (intro w hSw; (try dsimp only at hSw); go_simp; first | done | with_reducible rfl)
      simp only [Act.put, List.setIfInBounds_toArray, List.set_cons_zero, List.set_cons_succ]
      refine GoX.take 5 rfl (by kernel_rfl) (by kernel_rfl) (by rfl) (fun _ _ _ h => h) (v := ?tv5q6) S4 ?ty5q6 ?tr5q6
      case ty5q6 => (intro w hSw; (try dsimp only at hSw); go_simp; first | done | with_reducible rfl)
      simp only [Act.put, List.setIfInBounds_toArray, List.set_cons_zero, List.set_cons_succ]
      refine GoX.take 6 rfl (by kernel_rfl) (by kernel_rfl) (by rfl) (fun _ _ _ h => h) (v := ?tv6q6) S4 ?ty6q6 ?tr6q6
      case ty6q6 => (intro w hSw; (try dsimp only at hSw); go_simp; first | done | with_reducible rfl)
      simp only [Act.put, List.setIfInBounds_toArray, List.set_cons_zero, List.set_cons_succ]
      refine GoX.take 7 rfl (by kernel_rfl) (by kernel_rfl) (by rfl) (fun _ _ _ h => h) (v := ?tv7q6) S4 ?ty7q6 ?tr7q6
      case ty7q6 => (intro w hSw; (try dsimp only at hSw); go_simp; first | done | with_reducible rfl)
      simp only [Act.put, List.setIfInBounds_toArray, List.set_cons_zero, List.set_cons_succ]
      refine GoX.take 8 rfl (by kernel_rfl) (by kernel_rfl) (by rfl) (fun _ _ _ h => h) (v := ?tv8q6) S4 ?ty8q6 ?tr8q6
      case ty8q6 => (intro w hSw; (try dsimp only at hSw); go_simp; first | done | with_reducible rfl)
      simp only [Act.put, List.setIfInBounds_toArray, List.set_cons_zero, List.set_cons_succ]
      refine GoX.take 9 rfl (by kernel_rfl) (by kernel_rfl) (by rfl) (fun _ _ _ h => h) (v := ?tv9q6) S4 ?ty9q6 ?tr9q6
      case ty9q6 => (intro w hSw; (try dsimp only at hSw); go_simp; first | done | with_reducible rfl)
      simp only [Act.put, List.setIfInBounds_toArray, List.set_cons_zero, List.set_cons_succ]
      refine GoX.take 10 rfl (by kernel_rfl) (by kernel_rfl) (by rfl) (fun _ _ _ h => h) (v := ?tv10q6) S4 ?ty10q6 ?tr10q6
      case ty10q6 => (intro w hSw; (try dsimp only at hSw); go_simp; first | done | with_reducible rfl)
      simp only [Act.put, List.setIfInBounds_toArray, List.set_cons_zero, List.set_cons_succ]
      refine GoX.take 11 rfl (by kernel_rfl) (by kernel_rfl) (by rfl) (fun _ _ _ h => h) (v := ?tv11q6) S4 ?ty11q6 ?tr11q6
      case ty11q6 => (intro w hSw; (try dsimp only at hSw); go_simp; first | done | with_reducible rfl)
      simp only [Act.put, List.setIfInBounds_toArray, List.set_cons_zero, List.set_cons_succ]
      refine GoX.take 12 rfl (by kernel_rfl) (by kernel_rfl) (by rfl) (fun _ _ _ h => h) (v := ?tv12q6) S4 ?ty12q6 ?tr12q6
      case ty12q6 => (intro w hSw; (try dsimp only at hSw); go_simp; first | done | with_reducible rfl)
      simp only [Act.put, List.setIfInBounds_toArray, List.set_cons_zero, List.set_cons_succ]
      refine GoX.take 13 rfl (by kernel_rfl) (by kernel_rfl) (by rfl) (fun _ _ _ h => h) (v := ?tv13q6) S4 ?ty13q6 ?tr13q6
      case ty13q6 => (intro w hSw; (try dsimp only at hSw); go_simp; first | done | with_reducible rfl)
      simp only [Act.put, List.setIfInBounds_toArray, List.set_cons_zero, List.set_cons_succ]
      refine GoX.take 14 rfl (by kernel_rfl) (by kernel_rfl) (by rfl) (fun _ _ _ h => h) (v := ?tv14q6) S4 ?ty14q6 ?tr14q6
      case ty14q6 => (intro w hSw; (try dsimp only at hSw); go_simp; first | done | with_reducible rfl)
      simp only [Act.put, List.setIfInBounds_toArray, List.set_cons_zero, List.set_cons_succ]
      refine GoX.take 15 rfl (by kernel_rfl) (by kernel_rfl) (by rfl) (fun _ _ _ h => h) (v := ?tv15q6) S4 ?ty15q6 ?tr15q6
      case ty15q6 => (intro w hSw; (try dsimp only at hSw); go_simp; first | done | with_reducible rfl)
      simp only [Act.put, List.setIfInBounds_toArray, List.set_cons_zero, List.set_cons_succ]
      refine GoX.take 16 rfl (by kernel_rfl) (by kernel_rfl) (by rfl) (fun _ _ _ h => h) (v := ?tv16q6) S4 ?ty16q6 ?tr16q6
      case ty16q6 => (intro w hSw; (try dsimp only at hSw); go_simp; first | done | with_reducible rfl)
      simp only [Act.put, List.setIfInBounds_toArray, List.set_cons_zero, List.set_cons_succ]
      refine GoX.take 17 rfl (by kernel_rfl) (by kernel_rfl) (by rfl) (fun _ _ _ h => h) (v := ?tv17q6) S4 ?ty17q6 ?tr17q6
      case ty17q6 => (intro w hSw; (try dsimp only at hSw); go_simp; first | done | with_reducible rfl)
      simp only [Act.put, List.setIfInBounds_toArray, List.set_cons_zero, List.set_cons_succ]
      refine GoX.take 18 rfl (by kernel_rfl) (by kernel_rfl) (by rfl) (fun _ _ _ h => h) (v := ?tv18q6) S4 ?ty18q6 ?tr18q6
      case ty18q6 => (intro w hSw; (try dsimp only at hSw); go_simp; first | done | with_reducible rfl)
      simp only [Act.put, List.setIfInBounds_toArray, List.set_cons_zero, List.set_cons_succ]
      refine GoX.take 19 rfl (by kernel_rfl) (by kernel_rfl) (by rfl) (fun _ _ _ h => h) (v := ?tv19q6) S4 ?ty19q6 ?tr19q6
      case ty19q6 => (intro w hSw; (try dsimp only at hSw); go_simp; first | done | with_reducible rfl)
      simp only [Act.put, List.setIfInBounds_toArray, List.set_cons_zero, List.set_cons_succ]
      refine GoX.take 20 rfl (by kernel_rfl) (by kernel_rfl) (by rfl) (fun _ _ _ h => h) (v := ?tv20q6) S4 ?ty20q6 ?tr20q6
      case ty20q6 => (intro w hSw; (try dsimp only at hSw); go_simp; first | done | with_reducible rfl)
      simp only [Act.put, List.setIfInBounds_toArray, List.set_cons_zero, List.set_cons_succ]
      refine GoX.take 21 rfl (by kernel_rfl) (by kernel_rfl) (by rfl) (fun _ _ _ h => h) (v := ?tv21q6) S4 ?ty21q6 ?tr21q6
      case ty21q6 => (intro w hSw; (try dsimp only at hSw); go_simp; first | done | with_reducible rfl)
      simp only [Act.put, List.setIfInBounds_toArray, List.set_cons_zero, List.set_cons_succ]
      refine GoX.take 22 rfl (by kernel_rfl) (by kernel_rfl) (by rfl) (fun _ _ _ h => h) (v := ?tv22q6) S4 ?ty22q6 ?tr22q6
      case ty22q6 => (intro w hSw; (try dsimp only at hSw); go_simp; first | done | with_reducible rfl)
      simp only [Act.put, List.setIfInBounds_toArray, List.set_cons_zero, List.set_cons_succ]
      refine GoX.take 23 rfl (by kernel_rfl) (by kernel_rfl) (by rfl) (fun _ _ _ h => h) (v := ?tv23q6) S4 ?ty23q6 ?tr23q6
      case ty23q6 => (intro w hSw; (try dsimp only at hSw); go_simp; first | done | with_reducible rfl)
      simp only [Act.put, List.setIfInBounds_toArray, List.set_cons_zero, List.set_cons_succ]
      refine GoX.take 24 rfl (by kernel_rfl) (by kernel_rfl) (by rfl) (fun _ _ _ h => h) (v := ?tv24q6) S4 ?ty24q6 ?tr24q6
      case ty24q6 => (intro w hSw; (try dsimp only at hSw); go_simp; first | done | with_reducible rfl)
      simp only [Act.put, List.setIfInBounds_toArray, List.set_cons_zero, List.set_cons_succ]
      refine GoX.take 25 rfl (by kernel_rfl) (by kernel_rfl) (by rfl) (fun _ _ _ h => h) (v := ?tv25q6) S4 ?ty25q6 ?tr25q6
      case ty25q6 => (intro w hSw; (try dsimp only at hSw); go_simp; first | done | with_reducible rfl)
      simp only [Act.put, List.setIfInBounds_toArray, List.set_cons_zero, List.set_cons_succ]
      refine GoX.take 26 rfl (by kernel_rfl) (by kernel_rfl) (by rfl) (fun _ _ _ h => h) (v := ?tv26q6) S4 ?ty26q6 ?tr26q6
      case ty26q6 => (intro w hSw; (try dsimp only at hSw); go_simp; first | done | with_reducible rfl)
      simp only [Act.put, List.setIfInBounds_toArray, List.set_cons_zero, List.set_cons_succ]
      refine GoX.take 27 rfl (by kernel_rfl) (by kernel_rfl) (by rfl) (fun _ _ _ h => h) (v := ?tv27q6) S4 ?ty27q6 ?tr27q6
      case ty27q6 => (intro w hSw; (try dsimp only at hSw); go_simp; first | done | with_reducible rfl)
      simp only [Act.put, List.setIfInBounds_toArray, List.set_cons_zero, List.set_cons_succ]
      refine GoX.take 28 rfl (by kernel_rfl) (by kernel_rfl) (by rfl) (fun _ _ _ h => h) (v := ?tv28q6) S4 ?ty28q6 ?tr28q6
      case ty28q6 => (intro w hSw; (try dsimp only at hSw); go_simp; first | done | with_reducible rfl)
      simp only [Act.put, List.setIfInBounds_toArray, List.set_cons_zero, List.set_cons_succ]
      refine GoX.take 29 rfl (by kernel_rfl) (by kernel_rfl) (by rfl) (fun _ _ _ h => h) (v := ?tv29q6) S4 ?ty29q6 ?tr29q6
      case ty29q6 => (intro w hSw; (try dsimp only at hSw); go_simp; first | done | with_reducible rfl)
      simp only [Act.put, List.setIfInBounds_toArray, List.set_cons_zero, List.set_cons_succ]
      refine GoX.take 30 rfl (by kernel_rfl) (by kernel_rfl) (by rfl) (fun _ _ _ h => h) (v := ?tv30q6) S4 ?ty30q6 ?tr30q6
      case ty30q6 => (intro w hSw; (try dsimp only at hSw); go_simp; first | done | with_reducible rfl)
      simp only [Act.put, List.setIfInBounds_toArray, List.set_cons_zero, List.set_cons_succ]
      refine GoX.one 31 rfl (by kernel_rfl) (by decide) (fun K hK => ?_)
      rw [if_pos (by rfl)]
      go_simp
      (with_reducible refine (copyBytes_any va vn vc l W4 (HV.out.below h4.bel)).mono ?_)
      rintro e W5 ⟨xa, xc, rfl, o5, b5⟩
      rw [HVL.out] at o5 ⊢
      have hby := bytesV_of_owns o5 HV.out.bytes (by omega)
      have h5' := h4.below b5
      have S5 := HS.out _ h5'
      clear b5 o5 h4 S4
      refine hK.out _ _ S5 (fun _ => ?_)
      clear hK K
      refine GoX.one 32 rfl (by kernel_rfl) (by decide) (fun K hK => ?_)
      try rw [if_pos (by rfl)]
      go_simp
      have b6 := below_alloc W5 (.cells #[.slice xa vn xc] 24)
      have r6 : RowV (W5.alloc (.cells #[.slice xa vn xc] 24)) (some ⟨W5.heap.size, 0, none⟩) 1 ([(xa, vn, xc)].map SV) := rowV_lit W5 #[.slice xa vn xc] 24 _ 1 _ rfl rfl rfl
      have h6 := h5'.below b6
      have hby6 := hby.below b6
      refine hK.out _ (W5.alloc (.cells #[.slice xa vn xc] 24)) (HS.out _ h6) (fun _ => ?_)
      clear hK K S5
      refine GoX.one 33 rfl (by kernel_rfl) (by decide) (fun K hK => ?_)
      rw [if_pos (by rfl)]
      go_simp
      (with_reducible refine (sum_any (some ⟨W5.heap.size, 0, none⟩) 1 1 [(xa, vn, xc)] [l] (W5.alloc (.cells #[.slice xa vn xc] 24)) r6 (by decide) (fun e => by cases e) (rowsV_cons hby6 (rowsV_nil _)) (by simp only [List.flatten_cons, List.flatten_nil, List.append_nil]; rw [HVL.out]; omega) (HG.out.1.below h6.bel (Nat.le_refl _)) (HG.out.2.below h6.bel (Nat.le_refl _))).mono ?_)
      rintro e W7 ⟨a7, c7, rfl, o7, b7⟩
      rw [show [l].flatten = l by simp, shaR_len] at o7 ⊢
      have h7 := h6.below b7
      have hv7 := bytesV_of_owns o7 (shaR_bytes l) (by decide)
      have hva := bytesV_of_owns h7.own (shaR_bytes l) (by decide)
      have KS := same_any a 32 cc (shaR l) a7 32 c7 (shaR l) W7 hva hv7
      rw [decide_eq_true (And.intro (shaR_len l) rfl)] at KS
      clear b7 o7 r6 h6 hby6 hby h5' b6
      refine hK.out _ _ (HS.out _ h7) (fun _ => ?_)
      clear hK K
      refine GoX.one 34 rfl (by kernel_rfl) (by decide) (fun K hK => ?_)
      rw [if_pos (by rfl)]
      go_simp
      (with_reducible refine KS.mono ?_)
      rintro e W8 ⟨rfl, rfl⟩
      clear KS
      have S8 := HS.out _ h7
      refine hK.out _ _ S8 (fun _ => ?_)
      clear hK K
      refine GoX.take 35 rfl (by kernel_rfl) (by kernel_rfl) (by rfl) (fun _ _ _ h => h) (v := ?tv35q7) S8 ?ty35q7 ?tr35q7
      case ty35q7 => (intro w hSw; (try dsimp only at hSw); go_simp; first | done | with_reducible rfl)
      simp only [Act.put, List.setIfInBounds_toArray, List.set_cons_zero, List.set_cons_succ]
      refine GoX.last 36 rfl (by kernel_rfl) (by kernel_rfl) (by decide) ?_
      go_wp2
      go_ret
      exact ⟨rfl, h7.bel⟩
end Go.Proofs.YthofndobmiamjaaDoor
