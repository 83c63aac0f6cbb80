/-
  meta: Of of whatever value; the reference's.
-/
import Derived.Test.YthofndobmiamjaaDoorShQ
namespace Go.Proofs.YthofndobmiamjaaDoor
open Go.RowKit

/-- what checked answers. -/
def chk (N c s t : Int) (d : Bool) (sa : Option Addr) (sn sc : Nat) : Array Value := if metaB N c s t d sn = true then #[.int .i64 N, .int .i64 c, .int .i64 s, .int .i64 t, .bool d, .slice sa sn sc] else zero6
def chkE (N c s t : Int) (d : Bool) (sn : Nat) : Int := if metaB N c s t d sn = true then 0 else 90
theorem chk_size (N c s t : Int) (d : Bool) (sa : Option Addr) (sn sc : Nat) : (chk N c s t d sa sn sc).size = 6 := by unfold chk; split <;> rfl
theorem chk_one (N c s t : Int) (d : Bool) (sa : Option Addr) (sn sc : Nat) : (chk N c s t d sa sn sc).all (·.oneCell') = true := by unfold chk; split <;> simp [zero6, Value.oneCell']
theorem checked_any (N c s t : Int) (d : Bool) (sa : Option Addr) (sn sc : Nat) (w : World) : Calls Tryd.prog 38 #[.agg #[.int .i64 N, .int .i64 c, .int .i64 s, .int .i64 t, .bool d, .slice sa sn sc]] w fun e w' => e = .returned (.tuple #[.agg (chk N c s t d sa sn sc), .int .i64 (chkE N c s t d sn)]) ∧ Below w.heap.size w w' := by
  unfold chk chkE
  cases h : metaB N c s t d sn with
  | true => rw [if_pos rfl, if_pos rfl]; exact checked_yes h w
  | false => rw [if_neg (by decide), if_neg (by decide)]; exact checked_no h w
theorem end_any (N c : Int) (w : World) : Calls Tryd.prog 21 #[.agg #[.int .i64 N, .int .i64 c]] w fun e w' => e = .returned (.tuple #[.agg (chk N c 0 0 true none 0 0), .int .i64 (chkE N c 0 0 true 0)]) ∧ Below w.heap.size w w' := by
  have hm : metaB N c 0 0 true 0 = tagB N c := by unfold metaB; rfl
  unfold chk chkE
  rw [hm]
  cases h : tagB N c with
  | true => rw [if_pos rfl, if_pos rfl]; exact end_yes h w
  | false => rw [if_neg (by decide), if_neg (by decide)]; exact end_no h w
theorem refEnd_any (N c : Int) (w : World) : Calls Tryd.prog 22 #[.agg #[.int .i64 N, .int .i64 c]] w fun e w' => e = .returned (.tuple #[.agg (chk N c 0 0 true none 0 0), .int .i64 (chkE N c 0 0 true 0)]) ∧ Below w.heap.size w w' := by
  have hm : metaB N c 0 0 true 0 = tagB N c := by unfold metaB; rfl
  unfold chk chkE
  rw [hm]
  cases h : tagB N c with
  | true => rw [if_pos rfl, if_pos rfl]; exact refEnd_yes h w
  | false => rw [if_neg (by decide), if_neg (by decide)]; exact refEnd_no h w
structure O2 (w W : World) (N c : Int) : Prop where
  bel : Below w.heap.size w W
  r3 : W.heap[w.heap.size]? = some (.cells #[.int .i64 N, .int .i64 c] TT2 (0, 0))
  r6 : W.heap[w.heap.size + 1]? = some (.cells zero6 MT6 (0, 0))
theorem O2.start (w : World) (N c : Int) : O2 w ((w.alloc (.cells #[.int .i64 N, .int .i64 c] TT2)).alloc (.cells zero6 MT6)) N c := by
  obtain ⟨h1, h2, h3⟩ := after_call2 w _ (.cells #[.int .i64 N, .int .i64 c] TT2) (.cells zero6 MT6) (Below.refl _ _)
  exact ⟨h3, h1, h2⟩
theorem O2.lt {w W : World} {N c : Int} (h : O2 w W N c) : w.heap.size + 1 < W.heap.size := (Array.getElem?_eq_some_iff.1 h.r6).1
theorem O2.below {w W W' : World} {N c : Int} (h : O2 w W N c) (hb : Below W.heap.size W W') : O2 w W' N c := by
  have := h.lt
  exact ⟨h.bel.trans (hb.mono h.bel.size), (hb.block _ (by omega)).trans h.r3, (hb.block _ (by omega)).trans h.r6⟩
theorem O2.cells {w W : World} {N c : Int} (h : O2 w W N c) : W.cell? ⟨w.heap.size, 0, none⟩ = some (.int .i64 N) ∧ W.cell? ⟨w.heap.size, 1, none⟩ = some (.int .i64 c) := ⟨cell_of_row _ _ 0 _ _ _ h.r3, cell_of_row _ _ 1 _ _ _ h.r3⟩
theorem infoMT6 : (Tryd.prog.info? MT6).map (·.size) = some 6 := by kernel_rfl
set_option maxRecDepth 100000 in
set_option maxHeartbeats 8000000 in
theorem of_any (N c t : Int) (va : Option Addr) (vn vc : Nat) (l : List Nat) (w : World) (hv : BytesV w (va, vn, vc) l) (hn : vn ≤ 140737488355000) (hsk : SK w) (hck : CK w) :
    Calls Tryd.prog 18 #[.agg #[.int .i64 N, .int .i64 c], .int .i64 t, .slice va vn vc] w fun e w' => ∃ a cc, e = .returned (.tuple #[.agg (chk N c vn t false a 32 cc), .int .i64 (chkE N c vn t false 32)]) ∧ w'.ownsRow w.heap.size 5 1 (.slice a 32 cc) 32 ((shaR l).map bv) ∧ Below w.heap.size w w' := by
  have HV := Lib.hid hv
  have HSK := Lib.hid hsk
  have HCK := Lib.hid hck
  have hvl : l.length = vn := hv.length
  have HVL := Lib.hid hvl
  clear hv hsk hck hvl
  go_enter Tryd.func18, Tryd.ntmps18
  go_upto_region 1 with fail
  refine (?_ : ∀ W, O2 w W N c → Code.wp Tryd.prog _ _ _ W) _ (O2.start w N c)
  intro W hW
  have S0 := (hW.below (below_drewS W)).cells
  refine GoX.start 12 (fun w' => w'.cell? ⟨w.heap.size, 0, none⟩ = some (.int .i64 N) ∧ w'.cell? ⟨w.heap.size, 1, none⟩ = some (.int .i64 c)) (by kernel_rfl) ?_
  refine GoX.take 0 rfl (by kernel_rfl) (by kernel_rfl) (by rfl) (fun _ _ _ h => h) (v := ?tv0) S0 ?ty0 ?tr0
  case ty0 => (intro w hSw; (try dsimp only at hSw); go_simp; first | done | with_reducible rfl)
  simp only [Act.put, List.setIfInBounds_toArray, List.set_cons_zero, List.set_cons_succ]
  refine GoX.take 1 rfl (by kernel_rfl) (by kernel_rfl) (by rfl) (fun _ _ _ h => h) (v := ?tv1) S0 ?ty1 ?tr1
  case ty1 => (intro w hSw; (try dsimp only at hSw); go_simp; first | done | with_reducible rfl)
  simp only [Act.put, List.setIfInBounds_toArray, List.set_cons_zero, List.set_cons_succ]
  refine GoX.take 2 rfl (by kernel_rfl) (by kernel_rfl) (by rfl) (fun _ _ _ h => h) (v := ?tv2) S0 ?ty2 ?tr2
  case ty2 => (intro w hSw; (try dsimp only at hSw); go_simp; first | done | with_reducible rfl)
  simp only [Act.put, List.setIfInBounds_toArray, List.set_cons_zero, List.set_cons_succ]
  refine GoX.take 3 rfl (by kernel_rfl) (by kernel_rfl) (by rfl) (fun _ _ _ h => h) (v := ?tv3) S0 ?ty3 ?tr3
  case ty3 => (intro w hSw; (try dsimp only at hSw); go_simp; first | done | with_reducible rfl)
  simp only [Act.put, List.setIfInBounds_toArray, List.set_cons_zero, List.set_cons_succ]
  refine GoX.take 4 rfl (by kernel_rfl) (by kernel_rfl) (by rfl) (fun _ _ _ h => h) (v := ?tv4) S0 ?ty4 ?tr4
  case ty4 => (intro w hSw; (try dsimp only at hSw); go_simp; first | done | with_reducible rfl)
  simp only [Act.put, List.setIfInBounds_toArray, List.set_cons_zero, List.set_cons_succ]
  refine GoX.one 5 rfl (by kernel_rfl) (by decide) (fun K hK => ?_)
  go_simp
  have b2 : Below W.heap.size W (W.alloc (.cells #[.slice va vn vc] 24)).drew := (below_alloc W _).drew
  have r2 : RowV (W.alloc (.cells #[.slice va vn vc] 24)).drew (some ⟨W.heap.size, 0, none⟩) 1 ([(va, vn, vc)].map SV) := (rowV_lit W #[.slice va vn vc] 24 _ 1 _ rfl rfl rfl).below (below_drewS _)
  obtain ⟨W2, hW2⟩ : ∃ W2, W2 = (W.alloc (.cells #[.slice va vn vc] 24)).drew := ⟨_, rfl⟩
  rw [← hW2] at b2 r2 ⊢
  clear hW2 S0
  have h2 := hW.below b2
  clear hW b2
  refine hK.out _ _ h2.cells (fun _ => ?_)
  clear hK K
  refine GoX.one 6 rfl (by kernel_rfl) (by decide) (fun K hK => ?_)
  rw [if_pos (by rfl)]
  go_simp
  (with_reducible refine (sum_any (some ⟨W.heap.size, 0, none⟩) 1 1 [(va, vn, vc)] [l] W2 r2 (by decide) (fun e => by cases e) (rowsV_cons (HV.out.below h2.bel) (rowsV_nil _)) (by simp only [List.flatten_cons, List.flatten_nil, List.append_nil]; rw [HVL.out]; exact hn) (HSK.out.below h2.bel (Nat.le_refl _)) (HCK.out.below h2.bel (Nat.le_refl _))).mono ?_)
  rintro e W3 ⟨a3, c3, rfl, o3, b3⟩
  rw [show [l].flatten = l by simp, shaR_len] at o3 ⊢
  have h3 := h2.below b3
  have o3' := ownsRow_base o3 h2.bel.size
  clear h2 r2 b3 o3
  refine hK.out _ _ h3.cells (fun _ => ?_)
  clear hK K
  have S3 := h3.cells
  refine GoX.take 7 rfl (by kernel_rfl) (by kernel_rfl) (by rfl) (fun _ _ _ h => h) (v := ?tv7q2) S3 ?ty7q2 ?tr7q2
  case ty7q2 => (intro w hSw; (try dsimp only at hSw); go_simp; first | done | with_reducible rfl)
  simp only [Act.put, List.setIfInBounds_toArray, List.set_cons_zero, List.set_cons_succ]
  refine GoX.one 8 rfl (by kernel_rfl) (by decide) (fun K hK => ?_)
  rw [if_pos (by rfl)]
  go_simp
  (with_reducible refine (checked_any N c vn t false a3 32 c3 W3).mono ?_)
  rintro e W4 ⟨rfl, b4⟩
  obtain ⟨R, hR⟩ : ∃ R, R = chk N c vn t false a3 32 c3 := ⟨_, rfl⟩
  have hRs : R.size = 6 := by rw [hR]; exact chk_size _ _ _ _ _ _ _ _
  have hRo : R.all (·.oneCell') = true := by rw [hR]; exact chk_one _ _ _ _ _ _ _ _
  rw [← hR]
  have HR := Lib.hid hR
  have h4 := h3.below b4
  have o4 : W4.ownsRow w.heap.size 5 1 (.slice a3 32 c3) 32 ((shaR l).map bv) := o3'.kept (grownBy_of_below b4 none) (by cases e : (Value.slice a3 32 c3).ownBlock with | none => exact .inl rfl | some g => exact .inr (by simp))
  clear h3 b4 o3' hR S3
  refine hK.out _ _ h4.cells (fun _ => ?_)
  clear hK K
  have S4 := h4.cells
  refine GoX.take 9 rfl (by kernel_rfl) (by kernel_rfl) (by rfl) (fun _ _ _ h => h) (v := ?tv9q3) S4 ?ty9q3 ?tr9q3
  case ty9q3 => (intro w hSw; (try dsimp only at hSw); go_simp; first | done | with_reducible rfl)
  simp only [Act.put, List.setIfInBounds_toArray, List.set_cons_zero, List.set_cons_succ]
  refine GoX.take 10 rfl (by kernel_rfl) (by kernel_rfl) (by rfl) (fun _ _ _ h => h) (v := ?tv10q3) S4 ?ty10q3 ?tr10q3
  case ty10q3 => (intro w hSw; (try dsimp only at hSw); go_simp; first | done | with_reducible rfl)
  simp only [Act.put, List.setIfInBounds_toArray, List.set_cons_zero, List.set_cons_succ]
  refine GoX.one 11 rfl (by kernel_rfl) (by decide) (fun K hK => ?_)
  rw [if_pos (by rfl)]
  refine wp_store_row MT6 _ _ rfl (w.heap.size + 1) R rfl rfl MT6 _ h4.r6 (by rw [hRs]; exact infoMT6) (by rw [hRs]; rfl) hRo ?_
  have r5 : (W4.setRow (w.heap.size + 1) R).heap[w.heap.size + 1]? = some (.cells R MT6 (0, 0)) := setRow_heap _ _ _ _ _ _ h4.r6
  have b5 : Below w.heap.size w (W4.setRow (w.heap.size + 1) R) := below_setRow h4.bel (by omega) _
  have o5 : (W4.setRow (w.heap.size + 1) R).ownsRow w.heap.size 5 1 (.slice a3 32 c3) 32 ((shaR l).map bv) := o4.setRow_other (own_ne_box o4 h4.r6 (by decide)) _
  have S5 : (W4.setRow (w.heap.size + 1) R).cell? ⟨w.heap.size, 0, none⟩ = some (.int .i64 N) ∧ (W4.setRow (w.heap.size + 1) R).cell? ⟨w.heap.size, 1, none⟩ = some (.int .i64 c) := by
    have hr := (_root_.Go.setRow_other W4 (w.heap.size + 1) w.heap.size R (by omega)).trans h4.r3
    exact ⟨cell_of_row _ _ 0 _ _ _ hr, cell_of_row _ _ 1 _ _ _ hr⟩
  refine hK.out _ _ S5 (fun _ => ?_)
  clear hK K S4 S5
  simp only [Act.put]
  refine GoX.last 12 rfl (by kernel_rfl) (by kernel_rfl) (by decide) ?_
  go_wp2
  exact bodyPost_ret (results_meta rfl r5 hRs _ rfl) rfl ⟨a3, c3, by rw [HR.out]; rfl, o5, b5⟩
theorem own_set6 {W : World} {B : Nat} {v : Value} {n : Nat} {xs : List Value} (h : W.ownsRow B 5 1 v n xs) {g : Nat} {cs : Array Value} {T : TypeId} {fr : Nat × Nat} (hg : W.heap[g]? = some (.cells cs T fr)) (hT : T ≠ 5) (v0 v1 v2 v3 v4 v5 : Value) : (set6 W g v0 v1 v2 v3 v4 v5).ownsRow B 5 1 v n xs := by
  have hne := own_ne_box h hg hT
  have hgr : W.grownBy (set6 W g v0 v1 v2 v3 v4 v5) (some g) := by unfold set6; exact grown6X W g v0 v1 v2 v3 v4 v5
  refine h.kept hgr ?_
  cases e : v.ownBlock with
  | none => exact .inl rfl
  | some q => exact .inr (by rw [e] at hne; exact hne)
structure O3 (w W : World) (N c s t : Int) (l : List Nat) (g8 : Nat) (a3 : Option Addr) (c3 : Nat) : Prop where
  o : O2 w W N c
  r8 : W.heap[g8]? = some (.cells #[.int .i64 N, .int .i64 c, .int .i64 s, .int .i64 t, .bool false, .slice a3 32 c3] MT6 (0, 0))
  own : W.ownsRow w.heap.size 5 1 (.slice a3 32 c3) 32 ((shaR l).map bv)
  lt : w.heap.size + 1 < g8
theorem O3.below {w W W' : World} {N c s t : Int} {l : List Nat} {g8 : Nat} {a3 : Option Addr} {c3 : Nat} (h : O3 w W N c s t l g8 a3 c3) (hb : Below W.heap.size W W') : O3 w W' N c s t l g8 a3 c3 :=
  ⟨h.o.below hb, (hb.block _ (Array.getElem?_eq_some_iff.1 h.r8).1).trans h.r8, h.own.kept (grownBy_of_below hb none) (by cases e : (Value.slice a3 32 c3).ownBlock with | none => exact .inl rfl | some g => exact .inr (by simp)), h.lt⟩
set_option maxRecDepth 100000 in
set_option maxHeartbeats 8000000 in
theorem refOf_any (N c t : Int) (va : Option Addr) (vn vc : Nat) (l : List Nat) (w : World) (hv : BytesV w (va, vn, vc) l) (hn : vn ≤ 140737488355000) :
    Calls Tryd.prog 19 #[.agg #[.int .i64 N, .int .i64 c], .int .i64 t, .slice va vn vc] w fun e w' => ∃ a cc, e = .returned (.tuple #[.agg (chk N c vn t false a 32 cc), .int .i64 (chkE N c vn t false 32)]) ∧ w'.ownsRow w.heap.size 5 1 (.slice a 32 cc) 32 ((shaR l).map bv) ∧ Below w.heap.size w w' := by
  have HV := Lib.hid hv
  clear hv
  obtain ⟨vz, hvz⟩ : ∃ z : Int, z = vn := ⟨_, rfl⟩
  have HVZ := Lib.hid hvz
  go_enter Tryd.func19, Tryd.ntmps19
  go_upto_region 1 with fail
  refine (?_ : ∀ W, O2 w W N c → Code.wp Tryd.prog _ _ _ W) _ (O2.start w N c)
  intro W hW
  clear hvz
  go_cut [8] (fun v wx => ∃ g8 a3 c3, v = .pointer (some ⟨g8, 0, none⟩) ∧ O3 w wx N c vn t l g8 a3 c3)
  case first =>
    have h0 := hW.below (below_drewS W)
    have S0 := h0.cells
    refine GoX.start 8 (fun w' => w'.cell? ⟨w.heap.size, 0, none⟩ = some (.int .i64 N) ∧ w'.cell? ⟨w.heap.size, 1, none⟩ = some (.int .i64 c)) (by kernel_rfl) ?_
    refine GoX.take 0 rfl (by kernel_rfl) (by kernel_rfl) (by rfl) (fun _ _ _ h => h) (v := ?tv0q4) S0 ?ty0q4 ?tr0q4
    case ty0q4 => (intro w hSw; (try dsimp only at hSw); go_simp; first | done | with_reducible rfl)
    simp only [Act.put, List.setIfInBounds_toArray, List.set_cons_zero, List.set_cons_succ]
    refine GoX.take 1 rfl (by kernel_rfl) (by kernel_rfl) (by rfl) (fun _ _ _ h => h) (v := ?tv1q4) S0 ?ty1q4 ?tr1q4
    case ty1q4 => (intro w hSw; (try dsimp only at hSw); go_simp; first | done | with_reducible rfl)
    simp only [Act.put, List.setIfInBounds_toArray, List.set_cons_zero, List.set_cons_succ]
    refine GoX.take 2 rfl (by kernel_rfl) (by kernel_rfl) (by rfl) (fun _ _ _ h => h) (v := ?tv2q4) S0 ?ty2q4 ?tr2q4
    case ty2q4 => (intro w hSw; (try dsimp only at hSw); go_simp; first | done | with_reducible rfl)
    simp only [Act.put, List.setIfInBounds_toArray, List.set_cons_zero, List.set_cons_succ]
    refine GoX.take 3 rfl (by kernel_rfl) (by kernel_rfl) (by rfl) (fun _ _ _ h => h) (v := ?tv3q4) S0 ?ty3q4 ?tr3q4
    case ty3q4 => (intro w hSw; (try dsimp only at hSw); go_simp; first | done | with_reducible rfl)
    simp only [Act.put, List.setIfInBounds_toArray, List.set_cons_zero, List.set_cons_succ]
    refine GoX.take 4 rfl (by kernel_rfl) (by kernel_rfl) (by rfl) (fun _ _ _ h => h) (v := ?tv4q4) S0 ?ty4q4 ?tr4q4
    case ty4q4 => (intro w hSw; (try dsimp only at hSw); go_simp; first | done | with_reducible rfl)
    simp only [Act.put, List.setIfInBounds_toArray, List.set_cons_zero, List.set_cons_succ]
    refine (?_ : ∀ W0, O2 w W0 N c → GoX Tryd.prog _ _ _ _ _ _ _ W0) _ h0
    clear S0 h0 hW
    intro W0 h0
    refine GoX.two 5 7 rfl rfl (by kernel_rfl) (by decide) (by decide) (fun K hK => ?_) (fun K hK => ?_)
    · rw [if_pos (by rfl)]
      go_simp
      (with_reducible refine (refSum6_any va vn vc l W0 (HV.out.below h0.bel) hn).mono ?_)
      rintro e W3 ⟨a3, c3, rfl, o3, b3⟩
      rw [shaR_len] at o3 ⊢
      have h3 := h0.below b3
      have o3' := ownsRow_base o3 h0.bel.size
      clear h0 b3 o3
      refine hK.out _ _ h3.cells (fun _ => ?_)
      clear hK K
      have S3 := h3.cells
      refine GoX.take 6 rfl (by kernel_rfl) (by kernel_rfl) (by rfl) (fun _ _ _ h => h) (v := ?tv6q5) S3 ?ty6q5 ?tr6q5
      case ty6q5 => (intro w hSw; (try dsimp only at hSw); go_simp; first | done | with_reducible rfl)
      simp only [Act.put, List.setIfInBounds_toArray, List.set_cons_zero, List.set_cons_succ]
      refine GoX.one 7 rfl (by kernel_rfl) (by decide) (fun K hK => ?_)
      go_simp
      have b4 := below_alloc W3 (.cells zero6 MT6)
      have r4 := heap_alloc_new W3 (.cells zero6 MT6)
      obtain ⟨g8, hg8⟩ : ∃ g, g = W3.heap.size := ⟨_, rfl⟩
      rw [← hg8] at r4 ⊢
      have h4 := h3.below b4
      refine hK.out _ (W3.alloc (.cells zero6 MT6)) h4.cells (fun _ => ?_)
      clear hK K S3
      have hlt := h3.lt
      refine GoX.last 8 rfl (by kernel_rfl) (by kernel_rfl) (by decide) ?_
      rw [if_pos (by rfl)]
      refine wp_store_row MT6 _ _ rfl g8 #[.int .i64 N, .int .i64 c, .int .i64 vn, .int .i64 t, .bool false, .slice a3 32 c3] rfl rfl MT6 _ r4 (by kernel_rfl) rfl (by simp [Value.oneCell']) ?_
      go_wp2
      go_meet
      exact ⟨g8, a3, c3, rfl, ⟨below_setRow h4.bel (by omega) _, (_root_.Go.setRow_other _ g8 _ _ (by omega)).trans h4.r3, (_root_.Go.setRow_other _ g8 _ _ (by omega)).trans h4.r6⟩, setRow_heap _ _ _ _ _ _ r4, (o3'.alloc (.cells zero6 MT6)).setRow_other (own_ne_box (o3'.alloc (.cells zero6 MT6)) r4 (by decide)) _, by omega⟩
    · go_simp
      have b4 := below_alloc W0 (.cells zero6 MT6)
      have r4 := heap_alloc_new W0 (.cells zero6 MT6)
      have hlt := h0.lt
      have h4 := h0.below b4
      refine hK.out _ (W0.alloc (.cells zero6 MT6)) h4.cells (fun _ => ?_)
      clear hK K h0
      refine GoX.one 5 rfl (by kernel_rfl) (by decide) (fun K hK => ?_)
      rw [if_pos (by rfl)]
      go_simp
      (with_reducible refine (refSum6_any va vn vc l (W0.alloc (.cells zero6 MT6)) (HV.out.below h4.bel) hn).mono ?_)
      rintro e W3 ⟨a3, c3, rfl, o3, b3⟩
      rw [shaR_len] at o3 ⊢
      have h3 := h4.below b3
      have o3' := ownsRow_base o3 h4.bel.size
      have r3 := (b3.block W0.heap.size (Array.getElem?_eq_some_iff.1 r4).1).trans r4
      clear b3 o3 h4 r4
      refine hK.out _ _ h3.cells (fun _ => ?_)
      clear hK K
      have S3 := h3.cells
      refine GoX.take 6 rfl (by kernel_rfl) (by kernel_rfl) (by rfl) (fun _ _ _ h => h) (v := ?tv6q6) S3 ?ty6q6 ?tr6q6
      case ty6q6 => (intro w hSw; (try dsimp only at hSw); go_simp; first | done | with_reducible rfl)
      simp only [Act.put, List.setIfInBounds_toArray, List.set_cons_zero, List.set_cons_succ]
      refine GoX.last 8 rfl (by kernel_rfl) (by kernel_rfl) (by decide) ?_
      rw [if_pos (by rfl)]
      refine wp_store_row MT6 _ _ rfl W0.heap.size #[.int .i64 N, .int .i64 c, .int .i64 vn, .int .i64 t, .bool false, .slice a3 32 c3] rfl rfl MT6 _ r3 (by kernel_rfl) rfl (by simp [Value.oneCell']) ?_
      go_wp2
      go_meet
      exact ⟨W0.heap.size, a3, c3, rfl, ⟨below_setRow h3.bel (by omega) _, (_root_.Go.setRow_other _ W0.heap.size _ _ (by omega)).trans h3.r3, (_root_.Go.setRow_other _ W0.heap.size _ _ (by omega)).trans h3.r6⟩, setRow_heap _ _ _ _ _ _ r3, o3'.setRow_other (own_ne_box o3' r3 (by decide)) _, by omega⟩
  case rest =>
    clear hW
    rename World => W3
    obtain ⟨g8, a3, c3, rfl, h3⟩ := hcut
    obtain ⟨c0, c1, c2, c4, c5, c6, cF⟩ := cells6M h3.r8
    cases hm : metaB N c vn t false 32 with
    | true =>
      have KR := fun w => refRight_any N c vn t false a3 32 c3 w
      rw [hm] at KR
      have HM := Lib.hid hm
      clear hm
      go_wp2_with fail
      (with_reducible refine (KR _).mono ?_)
      rintro e W4 ⟨rfl, b4⟩
      have h4 := h3.below b4
      obtain ⟨d0, d1, d2, d4, d5, d6, dF⟩ := cells6M h4.r8
      have r6 := h4.o.r6
      clear c0 c1 c2 c4 c5 c6 cF KR h3 b4
      obtain ⟨f0, f1, f2, f4, f5, f6, fF⟩ := cells6M r6
      go_wp2
      refine bodyPost_ret (results_meta rfl (set6_heap _ _ _ _ _ _ r6) rfl _ rfl) rfl ⟨a3, c3, by unfold chk chkE; rw [HM.out]; rfl, own_set6 h4.own h4.o.r6 (by decide) _ _ _ _ _ _, set6_below h4.o.bel (Nat.le_succ _) _ _ _ _ _ _⟩
    | false =>
      have KR := fun w => refRight_any N c vn t false a3 32 c3 w
      rw [hm] at KR
      have HM := Lib.hid hm
      clear hm
      go_wp2_with fail
      (with_reducible refine (KR _).mono ?_)
      rintro e W4 ⟨rfl, b4⟩
      have h4 := h3.below b4
      have r6 := h4.o.r6
      clear c0 c1 c2 c4 c5 c6 cF KR h3 b4
      obtain ⟨f0, f1, f2, f4, f5, f6, fF⟩ := cells6M r6
      go_wp2
      refine bodyPost_ret (results_meta rfl (set6_heap _ _ _ _ _ _ r6) rfl _ rfl) rfl ⟨a3, c3, by unfold chk chkE; rw [HM.out]; rfl, own_set6 h4.own h4.o.r6 (by decide) _ _ _ _ _ _, set6_below h4.o.bel (Nat.le_succ _) _ _ _ _ _ _⟩
end Go.Proofs.YthofndobmiamjaaDoor
