/-
  meta: checked, Of, End with whatever answer; the reference's.; meta: Of of whatever value; the reference's.; meta: MetaSums' walk.; meta: MetaValues' walk.
-/
import Derived.Test.YthofndobmiamjaaDoorShM
import Derived.Test.YthofndobmiamjaaDoorShO
import Derived.Test.YthofndobmiamjaaDoorMeY
namespace Go.Proofs.YthofndobmiamjaaDoor
open Go.RowKit

abbrev TT2 : TypeId := 34
abbrev zero6 : Array Value := #[.int .i64 0, .int .i64 0, .int .i64 0, .int .i64 0, .bool false, .slice none 0 0]
theorem results_meta {fn : Func} {p u : Tmp} (hf : fn.results = #[.cell p MT6, .tmp u]) {w : World} {g1 : Nat} {cs : Array Value} (k1 : w.heap[g1]? = some (.cells cs MT6 (0, 0))) (hs : cs.size = 6) (tmps : Array Value) (hp : tmps.getD p undef = .pointer (some ⟨g1, 0, none⟩)) : (results fn tmps).run Tryd.prog w = .ok (.tuple #[.agg cs, tmps.getD u undef]) w := by
  rw [results_cell_tmp hf, hp]
  simp only [asAddr, Sem.run_pure, Result.andThen_ok]
  rw [run_loadVar_row w g1 MT6 MT6 cs (0, 0) _ k1 Tryd.underlying36 rfl (by rw [hs]; kernel_rfl)]
  rfl
set_option maxRecDepth 10000 in
set_option maxHeartbeats 2000000 in
theorem checked_yes {N c s t : Int} {d : Bool} {sa : Option Addr} {sn sc : Nat} (h : metaB N c s t d sn = true) (w : World) : Calls Tryd.prog 38 #[.agg #[.int .i64 N, .int .i64 c, .int .i64 s, .int .i64 t, .bool d, .slice sa sn sc]] w fun e w' => e = .returned (.tuple #[.agg #[.int .i64 N, .int .i64 c, .int .i64 s, .int .i64 t, .bool d, .slice sa sn sc], .int .i64 0]) ∧ Below w.heap.size w w' := by
  have KR := fun w => check_yes (sa := sa) (sc := sc) h w
  clear h
  go_enter Tryd.func38, Tryd.ntmps38
  go_wp2_with (first
    | (go_at_call 23; (with_reducible refine (KR _).mono ?_); rintro e w1 ⟨rfl, hd1⟩; obtain ⟨h1, h2, hb1⟩ := after_call2 _ _ _ _ hd1; obtain ⟨c0, c1, c2, c3, c4, c5, cF⟩ := cells6M h1; obtain ⟨d0, d1, d2, d3, d4, d5, dF⟩ := cells6M h2))
  exact bodyPost_ret (results_meta rfl (set6_heap _ _ _ _ _ _ h2) rfl _ rfl) rfl ⟨rfl, set6_below hb1 (Nat.le_succ _) _ _ _ _ _ _⟩
set_option maxRecDepth 10000 in
set_option maxHeartbeats 2000000 in
theorem checked_no {N c s t : Int} {d : Bool} {sa : Option Addr} {sn sc : Nat} (h : metaB N c s t d sn = false) (w : World) : Calls Tryd.prog 38 #[.agg #[.int .i64 N, .int .i64 c, .int .i64 s, .int .i64 t, .bool d, .slice sa sn sc]] w fun e w' => e = .returned (.tuple #[.agg zero6, .int .i64 90]) ∧ Below w.heap.size w w' := by
  have KR := fun w => check_no (sa := sa) (sc := sc) h w
  clear h
  go_enter Tryd.func38, Tryd.ntmps38
  go_wp2_with (first
    | (go_at_call 23; (with_reducible refine (KR _).mono ?_); rintro e w1 ⟨rfl, hd1⟩; obtain ⟨h1, h2, hb1⟩ := after_call2 _ _ _ _ hd1; obtain ⟨c0, c1, c2, c3, c4, c5, cF⟩ := cells6M h1; obtain ⟨d0, d1, d2, d3, d4, d5, dF⟩ := cells6M h2))
  exact bodyPost_ret (results_meta rfl (set6_heap _ _ _ _ _ _ h2) rfl _ rfl) rfl ⟨rfl, set6_below hb1 (Nat.le_succ _) _ _ _ _ _ _⟩
set_option maxRecDepth 10000 in
set_option maxHeartbeats 2000000 in
theorem end_yes {N c : Int} (h : tagB N c = true) (w : World) : Calls Tryd.prog 21 #[.agg #[.int .i64 N, .int .i64 c]] w fun e w' => e = .returned (.tuple #[.agg #[.int .i64 N, .int .i64 c, .int .i64 0, .int .i64 0, .bool true, .slice none 0 0], .int .i64 0]) ∧ Below w.heap.size w w' := by
  have KR := fun w => checked_yes (N := N) (c := c) (s := 0) (t := 0) (d := true) (sa := none) (sn := 0) (sc := 0) (by unfold metaB; rw [h]; rfl) w
  clear h
  go_enter Tryd.func21, Tryd.ntmps21
  go_wp2_with (first
    | (go_at_call 38; (with_reducible refine (KR _).mono ?_); rintro e w1 ⟨rfl, hd1⟩; obtain ⟨h1, h2, hb1⟩ := after_call2 _ _ _ _ hd1; obtain ⟨d0, d1, d2, d3, d4, d5, dF⟩ := cells6M h2))
  exact bodyPost_ret (results_meta rfl (set6_heap _ _ _ _ _ _ h2) rfl _ rfl) rfl ⟨rfl, set6_below hb1 (Nat.le_succ _) _ _ _ _ _ _⟩
set_option maxRecDepth 10000 in
set_option maxHeartbeats 2000000 in
theorem end_no {N c : Int} (h : tagB N c = false) (w : World) : Calls Tryd.prog 21 #[.agg #[.int .i64 N, .int .i64 c]] w fun e w' => e = .returned (.tuple #[.agg zero6, .int .i64 90]) ∧ Below w.heap.size w w' := by
  have KR := fun w => checked_no (N := N) (c := c) (s := 0) (t := 0) (d := true) (sa := none) (sn := 0) (sc := 0) (by unfold metaB; rw [h, Bool.and_false]) w
  clear h
  go_enter Tryd.func21, Tryd.ntmps21
  go_wp2_with (first
    | (go_at_call 38; (with_reducible refine (KR _).mono ?_); rintro e w1 ⟨rfl, hd1⟩; obtain ⟨h1, h2, hb1⟩ := after_call2 _ _ _ _ hd1; obtain ⟨d0, d1, d2, d3, d4, d5, dF⟩ := cells6M h2))
  exact bodyPost_ret (results_meta rfl (set6_heap _ _ _ _ _ _ h2) rfl _ rfl) rfl ⟨rfl, set6_below hb1 (Nat.le_succ _) _ _ _ _ _ _⟩
set_option maxRecDepth 10000 in
set_option maxHeartbeats 2000000 in
theorem refEnd_yes {N c : Int} (h : tagB N c = true) (w : World) : Calls Tryd.prog 22 #[.agg #[.int .i64 N, .int .i64 c]] w fun e w' => e = .returned (.tuple #[.agg #[.int .i64 N, .int .i64 c, .int .i64 0, .int .i64 0, .bool true, .slice none 0 0], .int .i64 0]) ∧ Below w.heap.size w w' := by
  have KR := fun w => refTag_any N c w
  rw [h] at KR
  clear h
  go_enter Tryd.func22, Tryd.ntmps22
  go_wp2_with fail
  (with_reducible refine (KR _).mono ?_)
  rintro e w1 ⟨rfl, hd1⟩
  obtain ⟨h1, h2, hb1⟩ := after_call2 _ _ _ _ hd1
  obtain ⟨d0, d1, d2, d3, d4, d5, dF⟩ := cells6M h2
  have e0 : w1.cell? ⟨w.heap.size, 0, none⟩ = some (.int .i64 N) := cell_of_row _ _ 0 _ _ _ h1
  have e1 : w1.cell? ⟨w.heap.size, 1, none⟩ = some (.int .i64 c) := cell_of_row _ _ 1 _ _ _ h1
  clear KR hd1
  go_wp2
  exact bodyPost_ret (results_meta rfl (set6_heap _ _ _ _ _ _ h2) rfl _ rfl) rfl ⟨rfl, set6_below hb1 (Nat.le_succ _) _ _ _ _ _ _⟩
set_option maxRecDepth 10000 in
set_option maxHeartbeats 2000000 in
theorem refEnd_no {N c : Int} (h : tagB N c = false) (w : World) : Calls Tryd.prog 22 #[.agg #[.int .i64 N, .int .i64 c]] w fun e w' => e = .returned (.tuple #[.agg zero6, .int .i64 90]) ∧ Below w.heap.size w w' := by
  have KR := fun w => refTag_any N c w
  rw [h] at KR
  clear h
  go_enter Tryd.func22, Tryd.ntmps22
  go_wp2_with fail
  (with_reducible refine (KR _).mono ?_)
  rintro e w1 ⟨rfl, hd1⟩
  obtain ⟨h1, h2, hb1⟩ := after_call2 _ _ _ _ hd1
  obtain ⟨d0, d1, d2, d3, d4, d5, dF⟩ := cells6M h2
  clear KR hd1
  go_wp2
  exact bodyPost_ret (results_meta rfl (set6_heap _ _ _ _ _ _ h2) rfl _ rfl) rfl ⟨rfl, set6_below hb1 (Nat.le_succ _) _ _ _ _ _ _⟩
set_option maxRecDepth 10000 in
set_option maxHeartbeats 2000000 in
theorem refCheck_any (N c s t : Int) (d : Bool) (sa : Option Addr) (sn sc : Nat) (w : World) :
    Calls Tryd.prog 25 #[.agg #[.int .i64 N, .int .i64 c, .int .i64 s, .int .i64 t, .bool d, .slice sa sn sc]] w fun e w' => e = .returned (.int .i64 (if metaB N c s t d sn = true then 0 else 90)) ∧ Below w.heap.size w w' := by
  have KR := fun w => refRight_any N c s t d sa sn sc w
  obtain ⟨B, hB⟩ : ∃ B, B = metaB N c s t d sn := ⟨_, rfl⟩
  rw [← hB] at KR ⊢
  clear hB
  cases B with
  | true =>
    go_enter Tryd.func25, Tryd.ntmps25
    go_wp2_with fail
    (with_reducible refine (KR _).mono ?_)
    rintro e w1 ⟨rfl, hd1⟩
    clear KR
    go_wp2
    go_ret
    exact ⟨rfl, (below_alloc w _).trans (hd1.mono (by simp))⟩
  | false =>
    go_enter Tryd.func25, Tryd.ntmps25
    go_wp2_with fail
    (with_reducible refine (KR _).mono ?_)
    rintro e w1 ⟨rfl, hd1⟩
    clear KR
    go_wp2
    go_ret
    exact ⟨rfl, (below_alloc w _).trans (hd1.mono (by simp))⟩
end Go.Proofs.YthofndobmiamjaaDoor

namespace Go.Proofs.YthofndobmiamjaaDoor
open Go.RowKit

/-- what checked answers. -/
def chk (N c s t : Int) (d : Bool) (sa : Option Addr) (sn sc : Nat) : Array Value := if metaB N c s t d sn = true then #[.int .i64 N, .int .i64 c, .int .i64 s, .int .i64 t, .bool d, .slice sa sn sc] else zero6
def chkE (N c s t : Int) (d : Bool) (sn : Nat) : Int := if metaB N c s t d sn = true then 0 else 90
theorem chk_size (N c s t : Int) (d : Bool) (sa : Option Addr) (sn sc : Nat) : (chk N c s t d sa sn sc).size = 6 := by unfold chk; split <;> rfl
theorem chk_one (N c s t : Int) (d : Bool) (sa : Option Addr) (sn sc : Nat) : (chk N c s t d sa sn sc).all (·.oneCell') = true := by unfold chk; split <;> simp [zero6, Value.oneCell']
theorem checked_any (N c s t : Int) (d : Bool) (sa : Option Addr) (sn sc : Nat) (w : World) : Calls Tryd.prog 38 #[.agg #[.int .i64 N, .int .i64 c, .int .i64 s, .int .i64 t, .bool d, .slice sa sn sc]] w fun e w' => e = .returned (.tuple #[.agg (chk N c s t d sa sn sc), .int .i64 (chkE N c s t d sn)]) ∧ Below w.heap.size w w' := by
  unfold chk chkE
  cases h : metaB N c s t d sn with
  | true => rw [if_pos rfl, if_pos rfl]; exact checked_yes h w
  | false => rw [if_neg (by decide), if_neg (by decide)]; exact checked_no h w
theorem end_any (N c : Int) (w : World) : Calls Tryd.prog 21 #[.agg #[.int .i64 N, .int .i64 c]] w fun e w' => e = .returned (.tuple #[.agg (chk N c 0 0 true none 0 0), .int .i64 (chkE N c 0 0 true 0)]) ∧ Below w.heap.size w w' := by
  have hm : metaB N c 0 0 true 0 = tagB N c := by unfold metaB; rfl
  unfold chk chkE
  rw [hm]
  cases h : tagB N c with
  | true => rw [if_pos rfl, if_pos rfl]; exact end_yes h w
  | false => rw [if_neg (by decide), if_neg (by decide)]; exact end_no h w
theorem refEnd_any (N c : Int) (w : World) : Calls Tryd.prog 22 #[.agg #[.int .i64 N, .int .i64 c]] w fun e w' => e = .returned (.tuple #[.agg (chk N c 0 0 true none 0 0), .int .i64 (chkE N c 0 0 true 0)]) ∧ Below w.heap.size w w' := by
  have hm : metaB N c 0 0 true 0 = tagB N c := by unfold metaB; rfl
  unfold chk chkE
  rw [hm]
  cases h : tagB N c with
  | true => rw [if_pos rfl, if_pos rfl]; exact refEnd_yes h w
  | false => rw [if_neg (by decide), if_neg (by decide)]; exact refEnd_no h w
structure O2 (w W : World) (N c : Int) : Prop where
  bel : Below w.heap.size w W
  r3 : W.heap[w.heap.size]? = some (.cells #[.int .i64 N, .int .i64 c] TT2 (0, 0))
  r6 : W.heap[w.heap.size + 1]? = some (.cells zero6 MT6 (0, 0))
theorem O2.start (w : World) (N c : Int) : O2 w ((w.alloc (.cells #[.int .i64 N, .int .i64 c] TT2)).alloc (.cells zero6 MT6)) N c := by
  obtain ⟨h1, h2, h3⟩ := after_call2 w _ (.cells #[.int .i64 N, .int .i64 c] TT2) (.cells zero6 MT6) (Below.refl _ _)
  exact ⟨h3, h1, h2⟩
theorem O2.lt {w W : World} {N c : Int} (h : O2 w W N c) : w.heap.size + 1 < W.heap.size := (Array.getElem?_eq_some_iff.1 h.r6).1
theorem O2.below {w W W' : World} {N c : Int} (h : O2 w W N c) (hb : Below W.heap.size W W') : O2 w W' N c := by
  have := h.lt
  exact ⟨h.bel.trans (hb.mono h.bel.size), (hb.block _ (by omega)).trans h.r3, (hb.block _ (by omega)).trans h.r6⟩
theorem O2.cells {w W : World} {N c : Int} (h : O2 w W N c) : W.cell? ⟨w.heap.size, 0, none⟩ = some (.int .i64 N) ∧ W.cell? ⟨w.heap.size, 1, none⟩ = some (.int .i64 c) := ⟨cell_of_row _ _ 0 _ _ _ h.r3, cell_of_row _ _ 1 _ _ _ h.r3⟩
theorem infoMT6 : (Tryd.prog.info? MT6).map (·.size) = some 6 := by kernel_rfl
set_option maxRecDepth 100000 in
set_option maxHeartbeats 8000000 in
theorem of_any (N c t : Int) (va : Option Addr) (vn vc : Nat) (l : List Nat) (w : World) (hv : BytesV w (va, vn, vc) l) (hn : vn ≤ 140737488355000) (hsk : SK w) (hck : CK w) :
    Calls Tryd.prog 18 #[.agg #[.int .i64 N, .int .i64 c], .int .i64 t, .slice va vn vc] w fun e w' => ∃ a cc, e = .returned (.tuple #[.agg (chk N c vn t false a 32 cc), .int .i64 (chkE N c vn t false 32)]) ∧ w'.ownsRow w.heap.size 5 1 (.slice a 32 cc) 32 ((shaR l).map bv) ∧ Below w.heap.size w w' := by
  have HV := Lib.hid hv
  have HSK := Lib.hid hsk
  have HCK := Lib.hid hck
  have hvl : l.length = vn := hv.length
  have HVL := Lib.hid hvl
  clear hv hsk hck hvl
  go_enter Tryd.func18, Tryd.ntmps18
  go_upto_region 1 with fail
  refine (?_ : ∀ W, O2 w W N c → Code.wp Tryd.prog _ _ _ W) _ (O2.start w N c)
  intro W hW
  have S0 := (hW.below (below_drewS W)).cells
  refine GoX.start 12 (fun w' => w'.cell? ⟨w.heap.size, 0, none⟩ = some (.int .i64 N) ∧ w'.cell? ⟨w.heap.size, 1, none⟩ = some (.int .i64 c)) (by kernel_rfl) ?_
  refine GoX.take 0 rfl (by kernel_rfl) (by kernel_rfl) (by rfl) (fun _ _ _ h => h) (v := ?tv0) S0 ?ty0 ?tr0
  case ty0 => (intro w hSw; (try dsimp only at hSw); go_simp; first | done | with_reducible rfl)
  simp only [Act.put, List.setIfInBounds_toArray, List.set_cons_zero, List.set_cons_succ]
  refine GoX.take 1 rfl (by kernel_rfl) (by kernel_rfl) (by rfl) (fun _ _ _ h => h) (v := ?tv1) S0 ?ty1 ?tr1
  case ty1 => (intro w hSw; (try dsimp only at hSw); go_simp; first | done | with_reducible rfl)
  simp only [Act.put, List.setIfInBounds_toArray, List.set_cons_zero, List.set_cons_succ]
  refine GoX.take 2 rfl (by kernel_rfl) (by kernel_rfl) (by rfl) (fun _ _ _ h => h) (v := ?tv2) S0 ?ty2 ?tr2
  case ty2 => (intro w hSw; (try dsimp only at hSw); go_simp; first | done | with_reducible rfl)
  simp only [Act.put, List.setIfInBounds_toArray, List.set_cons_zero, List.set_cons_succ]
  refine GoX.take 3 rfl (by kernel_rfl) (by kernel_rfl) (by rfl) (fun _ _ _ h => h) (v := ?tv3) S0 ?ty3 ?tr3
  case ty3 => (intro w hSw; (try dsimp only at hSw); go_simp; first | done | with_reducible rfl)
  simp only [Act.put, List.setIfInBounds_toArray, List.set_cons_zero, List.set_cons_succ]
  refine GoX.take 4 rfl (by kernel_rfl) (by kernel_rfl) (by rfl) (fun _ _ _ h => h) (v := ?tv4) S0 ?ty4 ?tr4
  case ty4 => (intro w hSw; (try dsimp only at hSw); go_simp; first | done | with_reducible rfl)
  simp only [Act.put, List.setIfInBounds_toArray, List.set_cons_zero, List.set_cons_succ]
  refine GoX.one 5 rfl (by kernel_rfl) (by decide) (fun K hK => ?_)
  go_simp
  have b2 : Below W.heap.size W (W.alloc (.cells #[.slice va vn vc] 24)).drew := (below_alloc W _).drew
  have r2 : RowV (W.alloc (.cells #[.slice va vn vc] 24)).drew (some ⟨W.heap.size, 0, none⟩) 1 ([(va, vn, vc)].map SV) := (rowV_lit W #[.slice va vn vc] 24 _ 1 _ rfl rfl rfl).below (below_drewS _)
  obtain ⟨W2, hW2⟩ : ∃ W2, W2 = (W.alloc (.cells #[.slice va vn vc] 24)).drew := ⟨_, rfl⟩
  rw [← hW2] at b2 r2 ⊢
  clear hW2 S0
  have h2 := hW.below b2
  clear hW b2
  refine hK.out _ _ h2.cells (fun _ => ?_)
  clear hK K
  refine GoX.one 6 rfl (by kernel_rfl) (by decide) (fun K hK => ?_)
  rw [if_pos (by rfl)]
  go_simp
  (with_reducible refine (sum_any (some ⟨W.heap.size, 0, none⟩) 1 1 [(va, vn, vc)] [l] W2 r2 (by decide) (fun e => by cases e) (rowsV_cons (HV.out.below h2.bel) (rowsV_nil _)) (by simp only [List.flatten_cons, List.flatten_nil, List.append_nil]; rw [HVL.out]; exact hn) (HSK.out.below h2.bel (Nat.le_refl _)) (HCK.out.below h2.bel (Nat.le_refl _))).mono ?_)
  rintro e W3 ⟨a3, c3, rfl, o3, b3⟩
  rw [show [l].flatten = l by simp, shaR_len] at o3 ⊢
  have h3 := h2.below b3
  have o3' := ownsRow_base o3 h2.bel.size
  clear h2 r2 b3 o3
  refine hK.out _ _ h3.cells (fun _ => ?_)
  clear hK K
  have S3 := h3.cells
  refine GoX.take 7 rfl (by kernel_rfl) (by kernel_rfl) (by rfl) (fun _ _ _ h => h) (v := ?tv7q2) S3 ?ty7q2 ?tr7q2
  case ty7q2 => (intro w hSw; (try dsimp only at hSw); go_simp; first | done | with_reducible rfl)
  simp only [Act.put, List.setIfInBounds_toArray, List.set_cons_zero, List.set_cons_succ]
  refine GoX.one 8 rfl (by kernel_rfl) (by decide) (fun K hK => ?_)
  rw [if_pos (by rfl)]
  go_simp
  (with_reducible refine (checked_any N c vn t false a3 32 c3 W3).mono ?_)
  rintro e W4 ⟨rfl, b4⟩
  obtain ⟨R, hR⟩ : ∃ R, R = chk N c vn t false a3 32 c3 := ⟨_, rfl⟩
  have hRs : R.size = 6 := by rw [hR]; exact chk_size _ _ _ _ _ _ _ _
  have hRo : R.all (·.oneCell') = true := by rw [hR]; exact chk_one _ _ _ _ _ _ _ _
  rw [← hR]
  have HR := Lib.hid hR
  have h4 := h3.below b4
  have o4 : W4.ownsRow w.heap.size 5 1 (.slice a3 32 c3) 32 ((shaR l).map bv) := o3'.kept (grownBy_of_below b4 none) (by cases e : (Value.slice a3 32 c3).ownBlock with | none => exact .inl rfl | some g => exact .inr (by simp))
  clear h3 b4 o3' hR S3
  refine hK.out _ _ h4.cells (fun _ => ?_)
  clear hK K
  have S4 := h4.cells
  refine GoX.take 9 rfl (by kernel_rfl) (by kernel_rfl) (by rfl) (fun _ _ _ h => h) (v := ?tv9q3) S4 ?ty9q3 ?tr9q3
  case ty9q3 => (intro w hSw; (try dsimp only at hSw); go_simp; first | done | with_reducible rfl)
  simp only [Act.put, List.setIfInBounds_toArray, List.set_cons_zero, List.set_cons_succ]
  refine GoX.take 10 rfl (by kernel_rfl) (by kernel_rfl) (by rfl) (fun _ _ _ h => h) (v := ?tv10q3) S4 ?ty10q3 ?tr10q3
  case ty10q3 => (intro w hSw; (try dsimp only at hSw); go_simp; first | done | with_reducible rfl)
  simp only [Act.put, List.setIfInBounds_toArray, List.set_cons_zero, List.set_cons_succ]
  refine GoX.one 11 rfl (by kernel_rfl) (by decide) (fun K hK => ?_)
  rw [if_pos (by rfl)]
  refine wp_store_row MT6 _ _ rfl (w.heap.size + 1) R rfl rfl MT6 _ h4.r6 (by rw [hRs]; exact infoMT6) (by rw [hRs]; rfl) hRo ?_
  have r5 : (W4.setRow (w.heap.size + 1) R).heap[w.heap.size + 1]? = some (.cells R MT6 (0, 0)) := setRow_heap _ _ _ _ _ _ h4.r6
  have b5 : Below w.heap.size w (W4.setRow (w.heap.size + 1) R) := below_setRow h4.bel (by omega) _
  have o5 : (W4.setRow (w.heap.size + 1) R).ownsRow w.heap.size 5 1 (.slice a3 32 c3) 32 ((shaR l).map bv) := o4.setRow_other (own_ne_box o4 h4.r6 (by decide)) _
  have S5 : (W4.setRow (w.heap.size + 1) R).cell? ⟨w.heap.size, 0, none⟩ = some (.int .i64 N) ∧ (W4.setRow (w.heap.size + 1) R).cell? ⟨w.heap.size, 1, none⟩ = some (.int .i64 c) := by
    have hr := (_root_.Go.setRow_other W4 (w.heap.size + 1) w.heap.size R (by omega)).trans h4.r3
    exact ⟨cell_of_row _ _ 0 _ _ _ hr, cell_of_row _ _ 1 _ _ _ hr⟩
  refine hK.out _ _ S5 (fun _ => ?_)
  clear hK K S4 S5
  simp only [Act.put]
  refine GoX.last 12 rfl (by kernel_rfl) (by kernel_rfl) (by decide) ?_
  go_wp2
  exact bodyPost_ret (results_meta rfl r5 hRs _ rfl) rfl ⟨a3, c3, by rw [HR.out]; rfl, o5, b5⟩
theorem own_set6 {W : World} {B : Nat} {v : Value} {n : Nat} {xs : List Value} (h : W.ownsRow B 5 1 v n xs) {g : Nat} {cs : Array Value} {T : TypeId} {fr : Nat × Nat} (hg : W.heap[g]? = some (.cells cs T fr)) (hT : T ≠ 5) (v0 v1 v2 v3 v4 v5 : Value) : (set6 W g v0 v1 v2 v3 v4 v5).ownsRow B 5 1 v n xs := by
  have hne := own_ne_box h hg hT
  have hgr : W.grownBy (set6 W g v0 v1 v2 v3 v4 v5) (some g) := by unfold set6; exact grown6X W g v0 v1 v2 v3 v4 v5
  refine h.kept hgr ?_
  cases e : v.ownBlock with
  | none => exact .inl rfl
  | some q => exact .inr (by rw [e] at hne; exact hne)
structure O3 (w W : World) (N c s t : Int) (l : List Nat) (g8 : Nat) (a3 : Option Addr) (c3 : Nat) : Prop where
  o : O2 w W N c
  r8 : W.heap[g8]? = some (.cells #[.int .i64 N, .int .i64 c, .int .i64 s, .int .i64 t, .bool false, .slice a3 32 c3] MT6 (0, 0))
  own : W.ownsRow w.heap.size 5 1 (.slice a3 32 c3) 32 ((shaR l).map bv)
  lt : w.heap.size + 1 < g8
theorem O3.below {w W W' : World} {N c s t : Int} {l : List Nat} {g8 : Nat} {a3 : Option Addr} {c3 : Nat} (h : O3 w W N c s t l g8 a3 c3) (hb : Below W.heap.size W W') : O3 w W' N c s t l g8 a3 c3 :=
  ⟨h.o.below hb, (hb.block _ (Array.getElem?_eq_some_iff.1 h.r8).1).trans h.r8, h.own.kept (grownBy_of_below hb none) (by cases e : (Value.slice a3 32 c3).ownBlock with | none => exact .inl rfl | some g => exact .inr (by simp)), h.lt⟩
set_option maxRecDepth 100000 in
set_option maxHeartbeats 8000000 in
theorem refOf_any (N c t : Int) (va : Option Addr) (vn vc : Nat) (l : List Nat) (w : World) (hv : BytesV w (va, vn, vc) l) (hn : vn ≤ 140737488355000) :
    Calls Tryd.prog 19 #[.agg #[.int .i64 N, .int .i64 c], .int .i64 t, .slice va vn vc] w fun e w' => ∃ a cc, e = .returned (.tuple #[.agg (chk N c vn t false a 32 cc), .int .i64 (chkE N c vn t false 32)]) ∧ w'.ownsRow w.heap.size 5 1 (.slice a 32 cc) 32 ((shaR l).map bv) ∧ Below w.heap.size w w' := by
  have HV := Lib.hid hv
  clear hv
  obtain ⟨vz, hvz⟩ : ∃ z : Int, z = vn := ⟨_, rfl⟩
  have HVZ := Lib.hid hvz
  go_enter Tryd.func19, Tryd.ntmps19
  go_upto_region 1 with fail
  refine (?_ : ∀ W, O2 w W N c → Code.wp Tryd.prog _ _ _ W) _ (O2.start w N c)
  intro W hW
  clear hvz
  go_cut [8] (fun v wx => ∃ g8 a3 c3, v = .pointer (some ⟨g8, 0, none⟩) ∧ O3 w wx N c vn t l g8 a3 c3)
  case first =>
    have h0 := hW.below (below_drewS W)
    have S0 := h0.cells
    refine GoX.start 8 (fun w' => w'.cell? ⟨w.heap.size, 0, none⟩ = some (.int .i64 N) ∧ w'.cell? ⟨w.heap.size, 1, none⟩ = some (.int .i64 c)) (by kernel_rfl) ?_
    refine GoX.take 0 rfl (by kernel_rfl) (by kernel_rfl) (by rfl) (fun _ _ _ h => h) (v := ?tv0q4) S0 ?ty0q4 ?tr0q4
    case ty0q4 => (intro w hSw; (try dsimp only at hSw); go_simp; first | done | with_reducible rfl)
    simp only [Act.put, List.setIfInBounds_toArray, List.set_cons_zero, List.set_cons_succ]
    refine GoX.take 1 rfl (by kernel_rfl) (by kernel_rfl) (by rfl) (fun _ _ _ h => h) (v := ?tv1q4) S0 ?ty1q4 ?tr1q4
    case ty1q4 => (intro w hSw; (try dsimp only at hSw); go_simp; first | done | with_reducible rfl)
    simp only [Act.put, List.setIfInBounds_toArray, List.set_cons_zero, List.set_cons_succ]
    refine GoX.take 2 rfl (by kernel_rfl) (by kernel_rfl) (by rfl) (fun _ _ _ h => h) (v := ?tv2q4) S0 ?ty2q4 ?tr2q4
    case ty2q4 => (intro w hSw; (try dsimp only at hSw); go_simp; first | done | with_reducible rfl)
    simp only [Act.put, List.setIfInBounds_toArray, List.set_cons_zero, List.set_cons_succ]
    refine GoX.take 3 rfl (by kernel_rfl) (by kernel_rfl) (by rfl) (fun _ _ _ h => h) (v := ?tv3q4) S0 ?ty3q4 ?tr3q4
    case ty3q4 => (intro w hSw; (try dsimp only at hSw); go_simp; first | done | with_reducible rfl)
    simp only [Act.put, List.setIfInBounds_toArray, List.set_cons_zero, List.set_cons_succ]
    refine GoX.take 4 rfl (by kernel_rfl) (by kernel_rfl) (by rfl) (fun _ _ _ h => h) (v := ?tv4q4) S0 ?ty4q4 ?tr4q4
    case ty4q4 => (intro w hSw; (try dsimp only at hSw); go_simp; first | done | with_reducible rfl)
    simp only [Act.put, List.setIfInBounds_toArray, List.set_cons_zero, List.set_cons_succ]
    refine (?_ : ∀ W0, O2 w W0 N c → GoX Tryd.prog _ _ _ _ _ _ _ W0) _ h0
    clear S0 h0 hW
    intro W0 h0
    refine GoX.two 5 7 rfl rfl (by kernel_rfl) (by decide) (by decide) (fun K hK => ?_) (fun K hK => ?_)
    · rw [if_pos (by rfl)]
      go_simp
      (with_reducible refine (refSum6_any va vn vc l W0 (HV.out.below h0.bel) hn).mono ?_)
      rintro e W3 ⟨a3, c3, rfl, o3, b3⟩
      rw [shaR_len] at o3 ⊢
      have h3 := h0.below b3
      have o3' := ownsRow_base o3 h0.bel.size
      clear h0 b3 o3
      refine hK.out _ _ h3.cells (fun _ => ?_)
      clear hK K
      have S3 := h3.cells
      refine GoX.take 6 rfl (by kernel_rfl) (by kernel_rfl) (by rfl) (fun _ _ _ h => h) (v := ?tv6q5) S3 ?ty6q5 ?tr6q5
      case ty6q5 => (intro w hSw; (try dsimp only at hSw); go_simp; first | done | with_reducible rfl)
      simp only [Act.put, List.setIfInBounds_toArray, List.set_cons_zero, List.set_cons_succ]
      refine GoX.one 7 rfl (by kernel_rfl) (by decide) (fun K hK => ?_)
      go_simp
      have b4 := below_alloc W3 (.cells zero6 MT6)
      have r4 := heap_alloc_new W3 (.cells zero6 MT6)
      obtain ⟨g8, hg8⟩ : ∃ g, g = W3.heap.size := ⟨_, rfl⟩
      rw [← hg8] at r4 ⊢
      have h4 := h3.below b4
      refine hK.out _ (W3.alloc (.cells zero6 MT6)) h4.cells (fun _ => ?_)
      clear hK K S3
      have hlt := h3.lt
      refine GoX.last 8 rfl (by kernel_rfl) (by kernel_rfl) (by decide) ?_
      rw [if_pos (by rfl)]
      refine wp_store_row MT6 _ _ rfl g8 #[.int .i64 N, .int .i64 c, .int .i64 vn, .int .i64 t, .bool false, .slice a3 32 c3] rfl rfl MT6 _ r4 (by kernel_rfl) rfl (by simp [Value.oneCell']) ?_
      go_wp2
      go_meet
      exact ⟨g8, a3, c3, rfl, ⟨below_setRow h4.bel (by omega) _, (_root_.Go.setRow_other _ g8 _ _ (by omega)).trans h4.r3, (_root_.Go.setRow_other _ g8 _ _ (by omega)).trans h4.r6⟩, setRow_heap _ _ _ _ _ _ r4, (o3'.alloc (.cells zero6 MT6)).setRow_other (own_ne_box (o3'.alloc (.cells zero6 MT6)) r4 (by decide)) _, by omega⟩
    · go_simp
      have b4 := below_alloc W0 (.cells zero6 MT6)
      have r4 := heap_alloc_new W0 (.cells zero6 MT6)
      have hlt := h0.lt
      have h4 := h0.below b4
      refine hK.out _ (W0.alloc (.cells zero6 MT6)) h4.cells (fun _ => ?_)
      clear hK K h0
      refine GoX.one 5 rfl (by kernel_rfl) (by decide) (fun K hK => ?_)
      rw [if_pos (by rfl)]
      go_simp
      (with_reducible refine (refSum6_any va vn vc l (W0.alloc (.cells zero6 MT6)) (HV.out.below h4.bel) hn).mono ?_)
      rintro e W3 ⟨a3, c3, rfl, o3, b3⟩
      rw [shaR_len] at o3 ⊢
      have h3 := h4.below b3
      have o3' := ownsRow_base o3 h4.bel.size
      have r3 := (b3.block W0.heap.size (Array.getElem?_eq_some_iff.1 r4).1).trans r4
      clear b3 o3 h4 r4
      refine hK.out _ _ h3.cells (fun _ => ?_)
      clear hK K
      have S3 := h3.cells
      refine GoX.take 6 rfl (by kernel_rfl) (by kernel_rfl) (by rfl) (fun _ _ _ h => h) (v := ?tv6q6) S3 ?ty6q6 ?tr6q6
      case ty6q6 => (intro w hSw; (try dsimp only at hSw); go_simp; first | done | with_reducible rfl)
      simp only [Act.put, List.setIfInBounds_toArray, List.set_cons_zero, List.set_cons_succ]
      refine GoX.last 8 rfl (by kernel_rfl) (by kernel_rfl) (by decide) ?_
      rw [if_pos (by rfl)]
      refine wp_store_row MT6 _ _ rfl W0.heap.size #[.int .i64 N, .int .i64 c, .int .i64 vn, .int .i64 t, .bool false, .slice a3 32 c3] rfl rfl MT6 _ r3 (by kernel_rfl) rfl (by simp [Value.oneCell']) ?_
      go_wp2
      go_meet
      exact ⟨W0.heap.size, a3, c3, rfl, ⟨below_setRow h3.bel (by omega) _, (_root_.Go.setRow_other _ W0.heap.size _ _ (by omega)).trans h3.r3, (_root_.Go.setRow_other _ W0.heap.size _ _ (by omega)).trans h3.r6⟩, setRow_heap _ _ _ _ _ _ r3, o3'.setRow_other (own_ne_box o3' r3 (by decide)) _, by omega⟩
  case rest =>
    clear hW
    rename World => W3
    obtain ⟨g8, a3, c3, rfl, h3⟩ := hcut
    obtain ⟨c0, c1, c2, c4, c5, c6, cF⟩ := cells6M h3.r8
    cases hm : metaB N c vn t false 32 with
    | true =>
      have KR := fun w => refRight_any N c vn t false a3 32 c3 w
      rw [hm] at KR
      have HM := Lib.hid hm
      clear hm
      go_wp2_with fail
      (with_reducible refine (KR _).mono ?_)
      rintro e W4 ⟨rfl, b4⟩
      have h4 := h3.below b4
      obtain ⟨d0, d1, d2, d4, d5, d6, dF⟩ := cells6M h4.r8
      have r6 := h4.o.r6
      clear c0 c1 c2 c4 c5 c6 cF KR h3 b4
      obtain ⟨f0, f1, f2, f4, f5, f6, fF⟩ := cells6M r6
      go_wp2
      refine bodyPost_ret (results_meta rfl (set6_heap _ _ _ _ _ _ r6) rfl _ rfl) rfl ⟨a3, c3, by unfold chk chkE; rw [HM.out]; rfl, own_set6 h4.own h4.o.r6 (by decide) _ _ _ _ _ _, set6_below h4.o.bel (Nat.le_succ _) _ _ _ _ _ _⟩
    | false =>
      have KR := fun w => refRight_any N c vn t false a3 32 c3 w
      rw [hm] at KR
      have HM := Lib.hid hm
      clear hm
      go_wp2_with fail
      (with_reducible refine (KR _).mono ?_)
      rintro e W4 ⟨rfl, b4⟩
      have h4 := h3.below b4
      have r6 := h4.o.r6
      clear c0 c1 c2 c4 c5 c6 cF KR h3 b4
      obtain ⟨f0, f1, f2, f4, f5, f6, fF⟩ := cells6M r6
      go_wp2
      refine bodyPost_ret (results_meta rfl (set6_heap _ _ _ _ _ _ r6) rfl _ rfl) rfl ⟨a3, c3, by unfold chk chkE; rw [HM.out]; rfl, own_set6 h4.own h4.o.r6 (by decide) _ _ _ _ _ _, set6_below h4.o.bel (Nat.le_succ _) _ _ _ _ _ _⟩
end Go.Proofs.YthofndobmiamjaaDoor

namespace Go.Proofs.YthofndobmiamjaaDoor
open Go.RowKit

/-- behind Of: the meta's box. -/
structure MS (w W : World) (N c : Int) (g7 : Nat) (R : Array Value) (a : Option Addr) (cc : Nat) (l : List Nat) : Prop where
  bel : Below w.heap.size w W
  r3 : W.heap[w.heap.size]? = some (.cells #[.int .i64 N, .int .i64 c] TT2 (0, 0))
  r7 : W.heap[g7]? = some (.cells R MT6 (0, 0))
  own : W.ownsRow w.heap.size 5 1 (.slice a 32 cc) 32 ((shaR l).map bv)
structure T3 (w W : World) (N c : Int) : Prop where
  bel : Below w.heap.size w W
  r3 : W.heap[w.heap.size]? = some (.cells #[.int .i64 N, .int .i64 c] TT2 (0, 0))
theorem T3.lt {w W : World} {N c : Int} (h : T3 w W N c) : w.heap.size < W.heap.size := (Array.getElem?_eq_some_iff.1 h.r3).1
theorem T3.below {w W W' : World} {N c : Int} (h : T3 w W N c) (hb : Below W.heap.size W W') : T3 w W' N c := ⟨h.bel.trans (hb.mono h.bel.size), (hb.block _ h.lt).trans h.r3⟩
theorem T3.cells {w W : World} {N c : Int} (h : T3 w W N c) : W.cell? ⟨w.heap.size, 0, none⟩ = some (.int .i64 N) ∧ W.cell? ⟨w.heap.size, 1, none⟩ = some (.int .i64 c) := ⟨cell_of_row _ _ 0 _ _ _ h.r3, cell_of_row _ _ 1 _ _ _ h.r3⟩
theorem T3.start (w : World) (N c : Int) : T3 w (w.alloc (.cells #[.int .i64 N, .int .i64 c] TT2)) N c := ⟨below_alloc w _, heap_alloc_new w _⟩
theorem MS.made {w W : World} {N c : Int} (h : T3 w W N c) {g7 : Nat} {z R : Array Value} (hg : W.heap[g7]? = some (.cells z MT6 (0, 0))) (hl : w.heap.size < g7) {a : Option Addr} {cc : Nat} {l : List Nat} (ho : W.ownsRow w.heap.size 5 1 (.slice a 32 cc) 32 ((shaR l).map bv)) : MS w (W.setRow g7 R) N c g7 R a cc l :=
  ⟨below_setRow h.bel (by omega) _, (_root_.Go.setRow_other W g7 _ R (by omega)).trans h.r3, setRow_heap _ _ _ _ _ _ hg, ho.setRow_other (own_ne_box ho hg (by decide)) _⟩
theorem MS.t3 {w W : World} {N c : Int} {g7 : Nat} {R : Array Value} {a : Option Addr} {cc : Nat} {l : List Nat} (h : MS w W N c g7 R a cc l) : T3 w W N c := ⟨h.bel, h.r3⟩
theorem MS.below {w W W' : World} {N c : Int} {g7 : Nat} {R : Array Value} {a : Option Addr} {cc : Nat} {l : List Nat} (h : MS w W N c g7 R a cc l) (hb : Below W.heap.size W W') : MS w W' N c g7 R a cc l :=
  ⟨(h.t3.below hb).bel, (h.t3.below hb).r3, (hb.block _ (Array.getElem?_eq_some_iff.1 h.r7).1).trans h.r7, h.own.kept (grownBy_of_below hb none) (by cases e : (Value.slice a 32 cc).ownBlock with | none => exact .inl rfl | some g => exact .inr (by simp))⟩
theorem owns_below {W W' : World} {B : Nat} {a : Option Addr} {n cc : Nat} {xs : List Value} (h : W.ownsRow B 5 1 (.slice a n cc) n xs) (hb : Below W.heap.size W W') : W'.ownsRow B 5 1 (.slice a n cc) n xs :=
  h.kept (grownBy_of_below hb none) (by cases e : (Value.slice a n cc).ownBlock with | none => exact .inl rfl | some g => exact .inr (by simp))
set_option maxRecDepth 100000 in
set_option maxHeartbeats 16000000 in
theorem metaSums_walk (N c t : Int) (va : Option Addr) (vn vc : Nat) (l : List Nat) (W : World) (hg : SK W ∧ CK W) (_w0 : (Lit.int .i64 N).wf = true) (_x0 : (Lit.int .i64 c).wf = true) (_w1 : (Lit.int .i64 t).wf = true) (w2 : BytesV W (va, vn, vc) l) (s2 : vn ≤ 140737488351232) :
    Calls Tryd.prog 7 #[.agg #[.int .i64 N, .int .i64 c], .int .i64 t, .slice va vn vc] W fun e W' => e = .returned (.bool true) ∧ Below W.heap.size W W' := by
  have HV := Lib.hid w2
  have hvl : l.length = vn := w2.length
  have HVL := Lib.hid hvl
  have HG := Lib.hid hg
  have KA := fun w => alive9_any w
  clear w2 hvl hg
  go_enter Tryd.func7, Tryd.ntmps7
  go_wp2_with fail
  (with_reducible refine (KA _).mono ?_)
  rintro e W1 ⟨rfl, hb1⟩
  have h1 := (T3.start W N c).below hb1
  clear KA hb1
  go_upto_region 3 with fail
  go_cut [7, 8] (fun v u wx => ∃ g7 a cc, v = .pointer (some ⟨g7, 0, none⟩) ∧ u = .int .i64 (chkE N c vn t false 32) ∧ MS W wx N c g7 (chk N c vn t false a 32 cc) a cc l)
  case first =>
    have h0 := h1.below (below_drewS W1)
    have S0 := h0.cells
    refine GoX.start 10 (fun w' => w'.cell? ⟨W.heap.size, 0, none⟩ = some (.int .i64 N) ∧ w'.cell? ⟨W.heap.size, 1, none⟩ = some (.int .i64 c)) (by kernel_rfl) ?_
    refine GoX.take 0 rfl (by kernel_rfl) (by kernel_rfl) (by rfl) (fun _ _ _ h => h) (v := ?tv0q7) S0 ?ty0q7 ?tr0q7
    case ty0q7 => (intro w hSw; (try dsimp only at hSw); go_simp; first | done | with_reducible rfl)
    simp only [Act.put, List.setIfInBounds_toArray, List.set_cons_zero, List.set_cons_succ]
    refine GoX.take 1 rfl (by kernel_rfl) (by kernel_rfl) (by rfl) (fun _ _ _ h => h) (v := ?tv1q7) S0 ?ty1q7 ?tr1q7
    case ty1q7 => (intro w hSw; (try dsimp only at hSw); go_simp; first | done | with_reducible rfl)
    simp only [Act.put, List.setIfInBounds_toArray, List.set_cons_zero, List.set_cons_succ]
    refine GoX.take 2 rfl (by kernel_rfl) (by kernel_rfl) (by rfl) (fun _ _ _ h => h) (v := ?tv2q7) S0 ?ty2q7 ?tr2q7
    case ty2q7 => (intro w hSw; (try dsimp only at hSw); go_simp; first | done | with_reducible rfl)
    simp only [Act.put, List.setIfInBounds_toArray, List.set_cons_zero, List.set_cons_succ]
    refine (?_ : ∀ W0, T3 W W0 N c → GoX Tryd.prog _ _ _ _ _ _ _ W0) _ h0
    clear S0 h0 h1
    intro W0 h0
    refine GoX.two 3 8 rfl rfl (by kernel_rfl) (by decide) (by decide) (fun K hK => ?_) (fun K hK => ?_)
    · rw [if_pos (by rfl)]
      go_simp
      (with_reducible refine (copyBytes_any va vn vc l W0 (HV.out.below h0.bel)).mono ?_)
      rintro e W3 ⟨xa, xc, rfl, o3, b3⟩
      rw [HVL.out] at o3 ⊢
      have h3 := h0.below b3
      have hby := bytesV_of_owns o3 HV.out.bytes (by omega)
      clear h0 b3 o3
      refine hK.out _ _ h3.cells (fun _ => ?_)
      clear hK K
      refine GoX.two 4 8 rfl rfl (by kernel_rfl) (by decide) (by decide) (fun K hK => ?_) (fun K hK => ?_)
      · rw [if_pos (by rfl)]
        go_simp
        (with_reducible refine (of_any N c t xa vn xc l W3 hby (by omega) (HG.out.1.below h3.bel (Nat.le_refl _)) (HG.out.2.below h3.bel (Nat.le_refl _))).mono ?_)
        rintro e W4 ⟨a, cc, rfl, o4, b4⟩
        have h4 := h3.below b4
        have o4' := ownsRow_base o4 h3.bel.size
        obtain ⟨R, hR⟩ : ∃ R, R = chk N c vn t false a 32 cc := ⟨_, rfl⟩
        rw [← hR]
        have HRH := Lib.hid hR
        clear hR h3 b4 o4 hby
        refine hK.out _ _ h4.cells (fun _ => ?_)
        clear hK K
        have S4 := h4.cells
        refine GoX.take 5 rfl (by kernel_rfl) (by kernel_rfl) (by rfl) (fun _ _ _ h => h) (v := ?tv5q8) S4 ?ty5q8 ?tr5q8
        case ty5q8 => (intro w hSw; (try dsimp only at hSw); go_simp; first | done | with_reducible rfl)
        simp only [Act.put, List.setIfInBounds_toArray, List.set_cons_zero, List.set_cons_succ]
        refine GoX.take 6 rfl (by kernel_rfl) (by kernel_rfl) (by rfl) (fun _ _ _ h => h) (v := ?tv6q8) S4 ?ty6q8 ?tr6q8
        case ty6q8 => (intro w hSw; (try dsimp only at hSw); go_simp; first | done | with_reducible rfl)
        simp only [Act.put, List.setIfInBounds_toArray, List.set_cons_zero, List.set_cons_succ]
        refine GoX.take 7 rfl (by kernel_rfl) (by kernel_rfl) (by rfl) (fun _ _ _ h => h) (v := ?tv7q8) S4 ?ty7q8 ?tr7q8
        case ty7q8 => (intro w hSw; (try dsimp only at hSw); go_simp; first | done | with_reducible rfl)
        simp only [Act.put, List.setIfInBounds_toArray, List.set_cons_zero, List.set_cons_succ]
        refine GoX.one 8 rfl (by kernel_rfl) (by decide) (fun K hK => ?_)
        go_simp
        have b5 := below_alloc W4 (.cells zero6 MT6)
        have r5 := heap_alloc_new W4 (.cells zero6 MT6)
        have h5 := h4.below b5
        refine hK.out _ (W4.alloc (.cells zero6 MT6)) h5.cells (fun _ => ?_)
        clear hK K S4
        refine GoX.one 9 rfl (by kernel_rfl) (by decide) (fun K hK => ?_)
        rw [if_pos (by rfl)]
        refine wp_store_row MT6 _ _ rfl W4.heap.size R rfl rfl MT6 _ r5 (by rw [HRH.out, chk_size]; exact infoMT6) (by rw [HRH.out, chk_size]; rfl) (by rw [HRH.out]; exact chk_one _ _ _ _ _ _ _ _) ?_
        have hm := MS.made (R := R) h5 r5 h4.lt (owns_below o4' b5)
        refine hK.out _ _ hm.t3.cells (fun _ => ?_)
        clear hK K
        simp only [Act.put]
        refine GoX.last 10 rfl (by kernel_rfl) (by kernel_rfl) (by decide) ?_
        go_wp2
        go_meet
        exact ⟨_, a, cc, rfl, rfl, by rw [← HRH.out]; exact hm⟩
      · go_simp
        have b5 := below_alloc W3 (.cells zero6 MT6)
        have r5 := heap_alloc_new W3 (.cells zero6 MT6)
        have h5 := h3.below b5
        have hlt := h3.lt
        refine hK.out _ (W3.alloc (.cells zero6 MT6)) h5.cells (fun _ => ?_)
        clear hK K
        refine GoX.one 4 rfl (by kernel_rfl) (by decide) (fun K hK => ?_)
        rw [if_pos (by rfl)]
        go_simp
        (with_reducible refine (of_any N c t xa vn xc l (W3.alloc (.cells zero6 MT6)) (hby.below b5) (by omega) (HG.out.1.below h5.bel (Nat.le_refl _)) (HG.out.2.below h5.bel (Nat.le_refl _))).mono ?_)
        rintro e W4 ⟨a, cc, rfl, o4, b4⟩
        have h4 := h5.below b4
        have o4' := ownsRow_base o4 h5.bel.size
        have r4 := (b4.block _ (Array.getElem?_eq_some_iff.1 r5).1).trans r5
        obtain ⟨R, hR⟩ : ∃ R, R = chk N c vn t false a 32 cc := ⟨_, rfl⟩
        rw [← hR]
        have HRH := Lib.hid hR
        clear hR h3 b4 o4 hby r5 b5 h5
        refine hK.out _ _ h4.cells (fun _ => ?_)
        clear hK K
        have S4 := h4.cells
        refine GoX.take 5 rfl (by kernel_rfl) (by kernel_rfl) (by rfl) (fun _ _ _ h => h) (v := ?tv5q9) S4 ?ty5q9 ?tr5q9
        case ty5q9 => (intro w hSw; (try dsimp only at hSw); go_simp; first | done | with_reducible rfl)
        simp only [Act.put, List.setIfInBounds_toArray, List.set_cons_zero, List.set_cons_succ]
        refine GoX.take 6 rfl (by kernel_rfl) (by kernel_rfl) (by rfl) (fun _ _ _ h => h) (v := ?tv6q9) S4 ?ty6q9 ?tr6q9
        case ty6q9 => (intro w hSw; (try dsimp only at hSw); go_simp; first | done | with_reducible rfl)
        simp only [Act.put, List.setIfInBounds_toArray, List.set_cons_zero, List.set_cons_succ]
        refine GoX.take 7 rfl (by kernel_rfl) (by kernel_rfl) (by rfl) (fun _ _ _ h => h) (v := ?tv7q9) S4 ?ty7q9 ?tr7q9
        case ty7q9 => (intro w hSw; (try dsimp only at hSw); go_simp; first | done | with_reducible rfl)
        simp only [Act.put, List.setIfInBounds_toArray, List.set_cons_zero, List.set_cons_succ]
        refine GoX.one 9 rfl (by kernel_rfl) (by decide) (fun K hK => ?_)
        rw [if_pos (by rfl)]
        refine wp_store_row MT6 _ _ rfl W3.heap.size R rfl rfl MT6 _ r4 (by rw [HRH.out, chk_size]; exact infoMT6) (by rw [HRH.out, chk_size]; rfl) (by rw [HRH.out]; exact chk_one _ _ _ _ _ _ _ _) ?_
        have hm := MS.made (R := R) h4 r4 hlt o4'
        refine hK.out _ _ hm.t3.cells (fun _ => ?_)
        clear hK K
        simp only [Act.put]
        refine GoX.last 10 rfl (by kernel_rfl) (by kernel_rfl) (by decide) ?_
        go_wp2
        go_meet
        exact ⟨_, a, cc, rfl, rfl, by rw [← HRH.out]; exact hm⟩
    · go_simp
      have b5 := below_alloc W0 (.cells zero6 MT6)
      have r5 := heap_alloc_new W0 (.cells zero6 MT6)
      have h5 := h0.below b5
      have hlt := h0.lt
      refine hK.out _ (W0.alloc (.cells zero6 MT6)) h5.cells (fun _ => ?_)
      clear hK K h0
      refine GoX.one 3 rfl (by kernel_rfl) (by decide) (fun K hK => ?_)
      rw [if_pos (by rfl)]
      go_simp
      (with_reducible refine (copyBytes_any va vn vc l (W0.alloc (.cells zero6 MT6)) (HV.out.below h5.bel)).mono ?_)
      rintro e W3 ⟨xa, xc, rfl, o3, b3⟩
      rw [HVL.out] at o3 ⊢
      have h3 := h5.below b3
      have r3 := (b3.block _ (Array.getElem?_eq_some_iff.1 r5).1).trans r5
      have hby := bytesV_of_owns o3 HV.out.bytes (by omega)
      clear h5 b3 o3 b5 r5
      refine hK.out _ _ h3.cells (fun _ => ?_)
      clear hK K
      refine GoX.one 4 rfl (by kernel_rfl) (by decide) (fun K hK => ?_)
      rw [if_pos (by rfl)]
      go_simp
      (with_reducible refine (of_any N c t xa vn xc l W3 hby (by omega) (HG.out.1.below h3.bel (Nat.le_refl _)) (HG.out.2.below h3.bel (Nat.le_refl _))).mono ?_)
      rintro e W4 ⟨a, cc, rfl, o4, b4⟩
      have h4 := h3.below b4
      have o4' := ownsRow_base o4 h3.bel.size
      have r4 := (b4.block _ (Array.getElem?_eq_some_iff.1 r3).1).trans r3
      obtain ⟨R, hR⟩ : ∃ R, R = chk N c vn t false a 32 cc := ⟨_, rfl⟩
      rw [← hR]
      have HRH := Lib.hid hR
      clear hR h3 b4 o4 hby r3
      refine hK.out _ _ h4.cells (fun _ => ?_)
      clear hK K
      have S4 := h4.cells
      refine GoX.take 5 rfl (by kernel_rfl) (by kernel_rfl) (by rfl) (fun _ _ _ h => h) (v := ?tv5q10) S4 ?ty5q10 ?tr5q10
      case ty5q10 => (intro w hSw; (try dsimp only at hSw); go_simp; first | done | with_reducible rfl)
      simp only [Act.put, List.setIfInBounds_toArray, List.set_cons_zero, List.set_cons_succ]
      refine GoX.take 6 rfl (by kernel_rfl) (by kernel_rfl) (by rfl) (fun _ _ _ h => h) (v := ?tv6q10) S4 ?ty6q10 ?tr6q10
      case ty6q10 => (intro w hSw; (try dsimp only at hSw); go_simp; first | done | with_reducible rfl)
      simp only [Act.put, List.setIfInBounds_toArray, List.set_cons_zero, List.set_cons_succ]
      refine GoX.take 7 rfl (by kernel_rfl) (by kernel_rfl) (by rfl) (fun _ _ _ h => h) (v := ?tv7q10) S4 ?ty7q10 ?tr7q10
      case ty7q10 => (intro w hSw; (try dsimp only at hSw); go_simp; first | done | with_reducible rfl)
      simp only [Act.put, List.setIfInBounds_toArray, List.set_cons_zero, List.set_cons_succ]
      refine GoX.one 9 rfl (by kernel_rfl) (by decide) (fun K hK => ?_)
      rw [if_pos (by rfl)]
      refine wp_store_row MT6 _ _ rfl W0.heap.size R rfl rfl MT6 _ r4 (by rw [HRH.out, chk_size]; exact infoMT6) (by rw [HRH.out, chk_size]; rfl) (by rw [HRH.out]; exact chk_one _ _ _ _ _ _ _ _) ?_
      have hm := MS.made (R := R) h4 r4 hlt o4'
      refine hK.out _ _ hm.t3.cells (fun _ => ?_)
      clear hK K
      simp only [Act.put]
      refine GoX.last 10 rfl (by kernel_rfl) (by kernel_rfl) (by decide) ?_
      go_wp2
      go_meet
      exact ⟨_, a, cc, rfl, rfl, by rw [← HRH.out]; exact hm⟩
  case rest =>
    clear h1
    rename World => W3
    obtain ⟨g7, a, cc, rfl, rfl, hm⟩ := hcut
    have hl5 : 5000 < vn → chkE N c vn t false 32 = 90 := fun h => by
      have hlv : liveB vn t 32 = false := by unfold liveB; exact decide_eq_false (fun h => by omega)
      have hmf : metaB N c vn t false 32 = false := by unfold metaB; simp [hlv]
      unfold chkE
      rw [hmf]
      rfl
    cases hb : metaB N c vn t false 32 with
    | false =>
      have hE : chkE N c vn t false 32 = 90 := by unfold chkE; rw [hb]; rfl
      have hR : chk N c vn t false a 32 cc = zero6 := by unfold chk; rw [hb]; rfl
      rw [hR] at hm
      have HM := Lib.hid hm
      obtain ⟨c0, c1, c2, c3, c4, c5, cF⟩ := cells6M hm.r7
      have KC := fun w => check_no (N := 0) (c := 0) (s := 0) (t := 0) (d := false) (sa := none) (sn := 0) (sc := 0) (by decide) w
      rw [hE]
      clear hl5 hb hE hR hm
      by_cases h5 : 5000 < (vn : Int)
      · go_wp2
        go_ret
        exact ⟨rfl, HM.out.bel⟩
      · go_wp2_with fail
        (with_reducible refine (KC _).mono ?_)
        rintro e W4 ⟨rfl, b4⟩
        clear KC
        go_wp2
        go_ret
        exact ⟨rfl, HM.out.bel.trans (b4.mono HM.out.bel.size)⟩
    | true =>
      have hE : chkE N c vn t false 32 = 0 := by unfold chkE; rw [hb]; rfl
      have hR : chk N c vn t false a 32 cc = #[.int .i64 N, .int .i64 c, .int .i64 vn, .int .i64 t, .bool false, .slice a 32 cc] := by unfold chk; rw [hb]; rfl
      rw [hR] at hm
      have HM := Lib.hid hm
      have h5 : ¬ 5000 < (vn : Int) := fun h => by
        have := hl5 (by omega)
        rw [hE] at this
        cases this
      have KC := fun w => check_yes (sa := a) (sc := cc) hb w
      have KEQ := eqlTag N c
      rw [hE]
      clear hl5 hb hE hR hm
      go_upto_region 8 with fail
      have h0 := HM.out.below (below_drewS W3)
      have hS : ∀ w', MS W w' N c g7 #[.int .i64 N, .int .i64 c, .int .i64 vn, .int .i64 t, .bool false, .slice a 32 cc] a cc l → (w'.cell? ⟨g7, 0, none⟩ = some (.int .i64 N) ∧ w'.cell? ⟨g7, 1, none⟩ = some (.int .i64 c) ∧ w'.cell? ⟨g7, 2, none⟩ = some (.int .i64 vn) ∧ w'.cell? ⟨g7, 3, none⟩ = some (.int .i64 t) ∧ w'.cell? ⟨g7, 4, none⟩ = some (.bool false) ∧ w'.cell? ⟨g7, 5, none⟩ = some (.slice a 32 cc)) ∧ w'.cell? ⟨W.heap.size, 0, none⟩ = some (.int .i64 N) ∧ w'.cell? ⟨W.heap.size, 1, none⟩ = some (.int .i64 c) := fun w' h => by
        obtain ⟨c0, c1, c2, c3, c4, c5, cF⟩ := cells6M h.r7
        exact ⟨⟨c0, c1, c2, c3, c4, c5⟩, h.t3.cells⟩
      have HS := Lib.hid hS
      have S0 := HS.out _ h0
      clear hS
      refine GoX.start 36 (fun w' => (w'.cell? ⟨g7, 0, none⟩ = some (.int .i64 N) ∧ w'.cell? ⟨g7, 1, none⟩ = some (.int .i64 c) ∧ w'.cell? ⟨g7, 2, none⟩ = some (.int .i64 vn) ∧ w'.cell? ⟨g7, 3, none⟩ = some (.int .i64 t) ∧ w'.cell? ⟨g7, 4, none⟩ = some (.bool false) ∧ w'.cell? ⟨g7, 5, none⟩ = some (.slice a 32 cc)) ∧ w'.cell? ⟨W.heap.size, 0, none⟩ = some (.int .i64 N) ∧ w'.cell? ⟨W.heap.size, 1, none⟩ = some (.int .i64 c)) (by kernel_rfl) ?_
      refine GoX.take 0 rfl (by kernel_rfl) (by kernel_rfl) (by rfl) (fun _ _ _ h => h) (v := ?tv0q11) S0 ?ty0q11 ?tr0q11
      case ty0q11 => (intro w hSw; (try dsimp only at hSw); go_simp; first | done | with_reducible rfl)
      simp only [Act.put, List.setIfInBounds_toArray, List.set_cons_zero, List.set_cons_succ]
      refine GoX.one 1 rfl (by kernel_rfl) (by decide) (fun K hK => ?_)
      rw [if_pos (by rfl)]
      go_simp
      (with_reducible refine (KC _).mono ?_)
      rintro e W4 ⟨rfl, b4⟩
      have h4 := HM.out.below (show Below W3.heap.size W3 W4 from ⟨b4.os, b4.tape, b4.output, b4.size, b4.block⟩)
      have S4 := HS.out _ h4
      clear b4 h0 S0 KC
      refine hK.out _ _ S4 (fun _ => ?_)
      clear hK K
      refine GoX.take 2 rfl (by kernel_rfl) (by kernel_rfl) (by rfl) (fun _ _ _ h => h) (v := ?tv2q12) S4 ?ty2q12 ?tr2q12
      case ty2q12 => (intro w hSw; (try dsimp only at hSw); go_simp; first | done | with_reducible rfl)
      simp only [Act.put, List.setIfInBounds_toArray, List.set_cons_zero, List.set_cons_succ]
      refine GoX.take 3 rfl (by kernel_rfl) (by kernel_rfl) (by rfl) (fun _ _ _ h => h) (v := ?tv3q12) S4 ?ty3q12 ?tr3q12
      case ty3q12 => (intro w hSw; (try dsimp only at hSw); go_simp; first | done | with_reducible rfl)
      simp only [Act.put, List.setIfInBounds_toArray, List.set_cons_zero, List.set_cons_succ]
      refine GoX.take 4 rfl (by kernel_rfl) (by kernel_rfl) (by rfl) (fun _ _ _ h => h) (v := ?tv4q12) S4 ?ty4q12 ?tr4q12
      case ty4q12 => (intro w hSw; (try dsimp only at hSw); go_simp; first | done | with_reducible rfl)
      simp only [Act.put, List.setIfInBounds_toArray, List.set_cons_zero, List.set_cons_succ]
      refine GoX.take 5 rfl (by kernel_rfl) (by kernel_rfl) (by rfl) (fun _ _ _ h => h) (v := ?tv5q12) S4 ?ty5q12 ?tr5q12
      case ty5q12 => (intro w hSw; (try dsimp only at hSw); go_simp; first | done | with_reducible rfl)
      simp only [Act.put, List.setIfInBounds_toArray, List.set_cons_zero, List.set_cons_succ]
      refine GoX.take 6 rfl (by kernel_rfl) (by kernel_rfl) (by rfl) (fun _ _ _ h => h) (v := ?tv6q12) S4 ?ty6q12 ?tr6q12
      case ty6q12 => (intro w hSw; (try dsimp only at hSw); go_simp; first | done | with_reducible rfl)
      simp only [Act.put, List.setIfInBounds_toArray, List.set_cons_zero, List.set_cons_succ]
      refine GoX.take 7 rfl (by kernel_rfl) (by kernel_rfl) (by rfl) (fun _ _ _ h => h) (v := ?tv7q12) S4 ?ty7q12 ?tr7q12
      case ty7q12 => (intro w hSw; (try dsimp only at hSw); go_simp; first | done | with_reducible rfl)
      simp only [Act.put, List.setIfInBounds_toArray, List.set_cons_zero, List.set_cons_succ]
      refine GoX.take 8 rfl (by kernel_rfl) (by kernel_rfl) (by rfl) (fun _ _ _ h => h) (v := ?tv8q12) S4 ?ty8q12 ?tr8q12
      case ty8q12 => (intro w hSw; (try dsimp only at hSw); go_simp; first | done | with_reducible rfl)
      simp only [Act.put, List.setIfInBounds_toArray, List.set_cons_zero, List.set_cons_succ]
      refine GoX.take 9 rfl (by kernel_rfl) (by kernel_rfl) (by rfl) (fun _ _ _ h => h) (v := ?tv9q12) S4 ?ty9q12 ?tr9q12
      case ty9q12 => (intro w hSw; (try dsimp only at hSw); go_simp; first | done | with_reducible rfl)
      simp only [Act.put, List.setIfInBounds_toArray, List.set_cons_zero, List.set_cons_succ]
      refine GoX.take 10 rfl (by kernel_rfl) (by kernel_rfl) (by rfl) (fun _ _ _ h => h) (v := ?tv10q12) S4 ?ty10q12 ?tr10q12
      case ty10q12 => (intro w hSw; (try dsimp only at hSw); go_simp; first | done | with_reducible rfl)
      simp only [Act.put, List.setIfInBounds_toArray, List.set_cons_zero, List.set_cons_succ]
      refine GoX.take 11 rfl (by kernel_rfl) (by kernel_rfl) (by rfl) (fun _ _ _ h => h) (v := ?tv11q12) S4 ?ty11q12 ?tr11q12
      case ty11q12 => (intro w hSw; (try dsimp only at hSw); go_simp; first | done | with_reducible rfl)
      simp only [Act.put, List.setIfInBounds_toArray, List.set_cons_zero, List.set_cons_succ]
      refine GoX.take 12 rfl (by kernel_rfl) (by kernel_rfl) (by rfl) (fun _ _ _ h => h) (v := ?tv12q12) S4 ?ty12q12 ?tr12q12
      case ty12q12 => (intro w hSw; (try dsimp only at hSw); go_simp; first | done | with_reducible rfl)
      simp only [Act.put, List.setIfInBounds_toArray, List.set_cons_zero, List.set_cons_succ]
      refine GoX.take 13 rfl (by kernel_rfl) (by kernel_rfl) (by rfl) (fun _ _ _ h => h) (v := ?tv13q12) S4 ?ty13q12 ?tr13q12
      case ty13q12 => (intro w hSw; (try dsimp only at hSw); go_simp; first | done | with_reducible rfl)
      simp only [Act.put, List.setIfInBounds_toArray, List.set_cons_zero, List.set_cons_succ]
      refine GoX.take 14 rfl (by kernel_rfl) (by kernel_rfl) (by rfl) (fun _ _ _ h => h) (v := ?tv14q12) S4 ?ty14q12 ?tr14q12
      case ty14q12 => (intro w hSw; (try dsimp only at hSw); go_simp; first | done | with_reducible rfl)
      simp only [Act.put, List.setIfInBounds_toArray, List.set_cons_zero, List.set_cons_succ]
      refine GoX.take 15 rfl (by kernel_rfl) (by kernel_rfl) (by rfl) (fun _ _ _ h => h) (v := ?tv15q12) S4 ?ty15q12 ?tr15q12
      case ty15q12 => (intro w hSw; (try dsimp only at hSw); go_simp; first | done | with_reducible rfl)
      simp only [Act.put, List.setIfInBounds_toArray, List.set_cons_zero, List.set_cons_succ]
      refine GoX.take 16 rfl (by kernel_rfl) (by kernel_rfl) (by rfl) (fun _ _ _ h => h) (v := ?tv16q12) S4 ?ty16q12 ?tr16q12
      case ty16q12 => (intro w hSw; (try dsimp only at hSw); go_simp; first | done | with_reducible rfl)
      simp only [Act.put, List.setIfInBounds_toArray, List.set_cons_zero, List.set_cons_succ]
      refine GoX.take 17 rfl (by kernel_rfl) (by kernel_rfl) (by rfl) (fun _ _ _ h => h) (v := ?tv17q12) S4 ?ty17q12 ?tr17q12
      case ty17q12 => (intro w hSw; (try dsimp only at hSw); go_simp; first | done | with_reducible rfl)
      simp only [Act.put, List.setIfInBounds_toArray, List.set_cons_zero, List.set_cons_succ]
      refine GoX.take 18 rfl (by kernel_rfl) (by kernel_rfl) (by rfl) (fun _ _ _ h => h) (v := ?tv18q12) S4 ?ty18q12 ?tr18q12
      case ty18q12 => (intro w hSw; (try dsimp only at hSw); go_simp; first | done | with_reducible rfl)
      simp only [Act.put, List.setIfInBounds_toArray, List.set_cons_zero, List.set_cons_succ]
      refine GoX.take 19 rfl (by kernel_rfl) (by kernel_rfl) (by rfl) (fun _ _ _ h => h) (v := ?tv19q12) S4 ?ty19q12 ?tr19q12
      case ty19q12 => (intro w hSw; (try dsimp only at hSw); go_simp; first | done | with_reducible rfl)
      simp only [Act.put, List.setIfInBounds_toArray, List.set_cons_zero, List.set_cons_succ]
      refine GoX.take 20 rfl (by kernel_rfl) (by kernel_rfl) (by rfl) (fun _ _ _ h => h) (v := ?tv20q12) S4 ?ty20q12 ?tr20q12
      case ty20q12 => (intro w hSw; (try dsimp only at hSw); go_simp; first | done | with_reducible rfl)
      simp only [Act.put, List.setIfInBounds_toArray, List.set_cons_zero, List.set_cons_succ]
      refine GoX.take 21 rfl (by kernel_rfl) (by kernel_rfl) (by rfl) (fun _ _ _ h => h) (v := ?tv21q12) S4 ?ty21q12 ?tr21q12
      case ty21q12 => (intro w hSw; (try dsimp only at hSw); go_simp; first | done | with_reducible rfl)
      simp only [Act.put, List.setIfInBounds_toArray, List.set_cons_zero, List.set_cons_succ]
      refine GoX.take 22 rfl (by kernel_rfl) (by kernel_rfl) (by rfl) (fun _ _ _ h => h) (v := ?tv22q12) S4 ?ty22q12 ?tr22q12
      case ty22q12 => (intro w hSw; (try dsimp only at hSw); go_simp; first | done | with_reducible rfl)
      simp only [Act.put, List.setIfInBounds_toArray, List.set_cons_zero, List.set_cons_succ]
      refine GoX.take 23 rfl (by kernel_rfl) (by kernel_rfl) (by rfl) (fun _ _ _ h => h) (v := ?tv23q12) S4 ?ty23q12 ?tr23q12
      case ty23q12 => (intro w hSw; (try dsimp only at hSw); go_simp; first | done | with_reducible rfl)
      simp only [Act.put, List.setIfInBounds_toArray, List.set_cons_zero, List.set_cons_succ]
      refine GoX.take 24 rfl (by kernel_rfl) (by kernel_rfl) (by rfl) (fun _ _ _ h => h) (v := ?tv24q12) S4 ?ty24q12 ?tr24q12
      case ty24q12 => (intro w hSw; (try dsimp only at hSw); go_simp; first | done | with_reducible rfl)
      simp only [Act.put, List.setIfInBounds_toArray, List.set_cons_zero, List.set_cons_succ]
      refine GoX.take 25 rfl (by kernel_rfl) (by kernel_rfl) (by rfl) (fun _ _ _ h => h) (v := ?tv25q12) S4 ?ty25q12 ?tr25q12
      case ty25q12 => (intro w hSw; (try dsimp only at hSw); go_simp; first | done | with_reducible rfl)
      simp only [Act.put, List.setIfInBounds_toArray, List.set_cons_zero, List.set_cons_succ]
      refine GoX.take 26 rfl (by kernel_rfl) (by kernel_rfl) (by rfl) (fun _ _ _ h => h) (v := ?tv26q12) S4 ?ty26q12 ?tr26q12
      case ty26q12 => (intro w hSw; (try dsimp only at hSw); go_simp; first | done | with_reducible rfl)
      simp only [Act.put, List.setIfInBounds_toArray, List.set_cons_zero, List.set_cons_succ]
      refine GoX.take 27 rfl (by kernel_rfl) (by kernel_rfl) (by rfl) (fun _ _ _ h => h) (v := ?tv27q12) S4 ?ty27q12 ?tr27q12
      case ty27q12 => (intro w hSw; (try dsimp only at hSw); go_simp; first | done | with_reducible rfl)
      simp only [Act.put, List.setIfInBounds_toArray, List.set_cons_zero, List.set_cons_succ]
      refine GoX.take 28 rfl (by kernel_rfl) (by kernel_rfl) (by rfl) (fun _ _ _ h => h) (v := ?tv28q12) S4 ?ty28q12 ?tr28q12
      case ty28q12 => (intro w hSw; (try dsimp only at hSw); go_simp; first | done | with_reducible rfl)
      simp only [Act.put, List.setIfInBounds_toArray, List.set_cons_zero, List.set_cons_succ]
      refine GoX.take 29 rfl (by kernel_rfl) (by kernel_rfl) (by rfl) (fun _ _ _ h => h) (v := ?tv29q12) S4 ?ty29q12 ?tr29q12
      case ty29q12 => (intro w hSw; (try dsimp only at hSw); go_simp; first | done | with_reducible rfl)
      simp only [Act.put, List.setIfInBounds_toArray, List.set_cons_zero, List.set_cons_succ]
      refine GoX.take 30 rfl (by kernel_rfl) (by kernel_rfl) (by rfl) (fun _ _ _ h => h) (v := ?tv30q12) S4 ?ty30q12 ?tr30q12
      case ty30q12 => (intro w hSw; (try dsimp only at hSw); go_simp; first | done | with_reducible rfl)
      simp only [Act.put, List.setIfInBounds_toArray, List.set_cons_zero, List.set_cons_succ]
      refine GoX.one 31 rfl (by kernel_rfl) (by decide) (fun K hK => ?_)
      rw [if_pos (by rfl)]
      go_simp
      (with_reducible refine (copyBytes_any va vn vc l W4 (HV.out.below h4.bel)).mono ?_)
      rintro e W5 ⟨xa, xc, rfl, o5, b5⟩
      rw [HVL.out] at o5 ⊢
      have hby := bytesV_of_owns o5 HV.out.bytes (by omega)
      have h5' := h4.below b5
      have S5 := HS.out _ h5'
      clear b5 o5 h4 S4
      refine hK.out _ _ S5 (fun _ => ?_)
      clear hK K
      refine GoX.one 32 rfl (by kernel_rfl) (by decide) (fun K hK => ?_)
      try rw [if_pos (by rfl)]
      go_simp
      have b6 := below_alloc W5 (.cells #[.slice xa vn xc] 24)
      have r6 : RowV (W5.alloc (.cells #[.slice xa vn xc] 24)) (some ⟨W5.heap.size, 0, none⟩) 1 ([(xa, vn, xc)].map SV) := rowV_lit W5 #[.slice xa vn xc] 24 _ 1 _ rfl rfl rfl
      have h6 := h5'.below b6
      have hby6 := hby.below b6
      refine hK.out _ (W5.alloc (.cells #[.slice xa vn xc] 24)) (HS.out _ h6) (fun _ => ?_)
      clear hK K S5
      refine GoX.one 33 rfl (by kernel_rfl) (by decide) (fun K hK => ?_)
      rw [if_pos (by rfl)]
      go_simp
      (with_reducible refine (sum_any (some ⟨W5.heap.size, 0, none⟩) 1 1 [(xa, vn, xc)] [l] (W5.alloc (.cells #[.slice xa vn xc] 24)) r6 (by decide) (fun e => by cases e) (rowsV_cons hby6 (rowsV_nil _)) (by simp only [List.flatten_cons, List.flatten_nil, List.append_nil]; rw [HVL.out]; omega) (HG.out.1.below h6.bel (Nat.le_refl _)) (HG.out.2.below h6.bel (Nat.le_refl _))).mono ?_)
      rintro e W7 ⟨a7, c7, rfl, o7, b7⟩
      rw [show [l].flatten = l by simp, shaR_len] at o7 ⊢
      have h7 := h6.below b7
      have hv7 := bytesV_of_owns o7 (shaR_bytes l) (by decide)
      have hva := bytesV_of_owns h7.own (shaR_bytes l) (by decide)
      have KS := same_any a 32 cc (shaR l) a7 32 c7 (shaR l) W7 hva hv7
      rw [decide_eq_true (And.intro (shaR_len l) rfl)] at KS
      clear b7 o7 r6 h6 hby6 hby h5' b6
      refine hK.out _ _ (HS.out _ h7) (fun _ => ?_)
      clear hK K
      refine GoX.one 34 rfl (by kernel_rfl) (by decide) (fun K hK => ?_)
      rw [if_pos (by rfl)]
      go_simp
      (with_reducible refine KS.mono ?_)
      rintro e W8 ⟨rfl, rfl⟩
      clear KS
      have S8 := HS.out _ h7
      refine hK.out _ _ S8 (fun _ => ?_)
      clear hK K
      refine GoX.take 35 rfl (by kernel_rfl) (by kernel_rfl) (by rfl) (fun _ _ _ h => h) (v := ?tv35q13) S8 ?ty35q13 ?tr35q13
      case ty35q13 => (intro w hSw; (try dsimp only at hSw); go_simp; first | done | with_reducible rfl)
      simp only [Act.put, List.setIfInBounds_toArray, List.set_cons_zero, List.set_cons_succ]
      refine GoX.last 36 rfl (by kernel_rfl) (by kernel_rfl) (by decide) ?_
      go_wp2
      go_ret
      exact ⟨rfl, h7.bel⟩
end Go.Proofs.YthofndobmiamjaaDoor

namespace Go.Proofs.YthofndobmiamjaaDoor
open Go.RowKit

theorem bytesV_noneT (w : World) : BytesV w (none, 0, 0) [] := ⟨⟨rfl, fun h => by simp at h⟩, fun x hx => by simp at hx, Nat.zero_le _, Nat.le_refl _, fun _ => rfl⟩
theorem sameMeta_chk (N c s t : Int) (d : Bool) (a : Option Addr) (n cc : Nat) (a2 : Option Addr) (c2 : Nat) (sum : List Nat) (w : World) (h1 : BytesV w (a, n, cc) sum) (h2 : BytesV w (a2, n, c2) sum) :
    Calls Tryd.prog 20 #[.agg (chk N c s t d a n cc), .agg (chk N c s t d a2 n c2)] w fun e w' => e = .returned (.bool true) ∧ Below w.heap.size w w' := by
  unfold chk
  cases metaB N c s t d n with
  | true => rw [if_pos rfl, if_pos rfl]; exact sameMeta_self N c s t d a cc a2 n c2 sum w h1 h2
  | false => rw [if_neg (by decide), if_neg (by decide)]; exact sameMeta_self 0 0 0 0 false none 0 none 0 0 [] w (bytesV_noneT w) (bytesV_noneT w)
structure V2 (w W : World) (N c : Int) (M : Array Value) : Prop where
  bel : Below w.heap.size w W
  r5 : W.heap[w.heap.size]? = some (.cells #[.int .i64 N, .int .i64 c] TT2 (0, 0))
  r8 : W.heap[w.heap.size + 1]? = some (.cells M MT6 (0, 0))
theorem V2.start (w : World) (N c : Int) (M : Array Value) : V2 w ((w.alloc (.cells #[.int .i64 N, .int .i64 c] TT2)).alloc (.cells M MT6)) N c M := by
  obtain ⟨h1, h2, h3⟩ := after_call2 w _ (.cells #[.int .i64 N, .int .i64 c] TT2) (.cells M MT6) (Below.refl _ _)
  exact ⟨h3, h1, h2⟩
theorem V2.lt {w W : World} {N c : Int} {M : Array Value} (h : V2 w W N c M) : w.heap.size + 1 < W.heap.size := (Array.getElem?_eq_some_iff.1 h.r8).1
theorem V2.below {w W W' : World} {N c : Int} {M : Array Value} (h : V2 w W N c M) (hb : Below W.heap.size W W') : V2 w W' N c M := by
  have := h.lt
  exact ⟨h.bel.trans (hb.mono h.bel.size), (hb.block _ (by omega)).trans h.r5, (hb.block _ (by omega)).trans h.r8⟩
theorem V2.cells {w W : World} {N c : Int} {M : Array Value} (h : V2 w W N c M) : W.cell? ⟨w.heap.size, 0, none⟩ = some (.int .i64 N) ∧ W.cell? ⟨w.heap.size, 1, none⟩ = some (.int .i64 c) := ⟨cell_of_row _ _ 0 _ _ _ h.r5, cell_of_row _ _ 1 _ _ _ h.r5⟩
theorem V2.setRow {w W : World} {N c : Int} {M : Array Value} (h : V2 w W N c M) {g : Nat} (hg : w.heap.size + 1 < g) (cs : Array Value) : V2 w (W.setRow g cs) N c M :=
  ⟨below_setRow h.bel (by omega) _, (_root_.Go.setRow_other W g _ cs (by omega)).trans h.r5, (_root_.Go.setRow_other W g _ cs (by omega)).trans h.r8⟩
structure V3 (w W : World) (N c : Int) (M : Array Value) (g : Nat) (R : Array Value) : Prop where
  v : V2 w W N c M
  r12 : W.heap[g]? = some (.cells R MT6 (0, 0))
  l12 : w.heap.size + 1 < g
theorem V3.below {w W W' : World} {N c : Int} {M : Array Value} {g : Nat} {R : Array Value} (h : V3 w W N c M g R) (hb : Below W.heap.size W W') : V3 w W' N c M g R := ⟨h.v.below hb, (hb.block _ (Array.getElem?_eq_some_iff.1 h.r12).1).trans h.r12, h.l12⟩
theorem V3.made {w W : World} {N c : Int} {M : Array Value} (h : V2 w W N c M) {g : Nat} {z : Array Value} (hg : W.heap[g]? = some (.cells z MT6 (0, 0))) (hl : w.heap.size + 1 < g) (R : Array Value) : V3 w (W.setRow g R) N c M g R := ⟨h.setRow hl R, setRow_heap _ _ _ _ _ _ hg, hl⟩
theorem bytesV_setBox {w : World} {a : Option Addr} {n cc B : Nat} {l : List Nat} (h : w.ownsRow B 5 1 (.slice a n cc) n (l.map bv)) {g : Nat} {z : Array Value} {T : TypeId} (hg : w.heap[g]? = some (.cells z T (0, 0))) (hT : T ≠ 5) (R : Array Value) : (w.setRow g R).ownsRow B 5 1 (.slice a n cc) n (l.map bv) := h.setRow_other (own_ne_box h hg hT) _
structure V4 (w W : World) (N c : Int) (M : Array Value) (g : Nat) (R : Array Value) (k : Nat) (Q : Array Value) : Prop where
  v : V3 w W N c M g R
  r14 : W.heap[k]? = some (.cells Q MT6 (0, 0))
  l14 : w.heap.size + 1 < k
  ne : g ≠ k
theorem V4.below {w W W' : World} {N c : Int} {M : Array Value} {g k : Nat} {R Q : Array Value} (h : V4 w W N c M g R k Q) (hb : Below W.heap.size W W') : V4 w W' N c M g R k Q := ⟨h.v.below hb, (hb.block _ (Array.getElem?_eq_some_iff.1 h.r14).1).trans h.r14, h.l14, h.ne⟩
theorem V4.set12 {w W : World} {N c : Int} {M : Array Value} {g k : Nat} {R Q : Array Value} (h : V4 w W N c M g R k Q) (R' : Array Value) : V4 w (W.setRow g R') N c M g R' k Q :=
  ⟨V3.made h.v.v h.v.r12 h.v.l12 R', (_root_.Go.setRow_other W g k R' (Ne.symm h.ne)).trans h.r14, h.l14, h.ne⟩
theorem V4.set14 {w W : World} {N c : Int} {M : Array Value} {g k : Nat} {R Q : Array Value} (h : V4 w W N c M g R k Q) (Q' : Array Value) : V4 w (W.setRow k Q') N c M g R k Q' :=
  ⟨⟨h.v.v.setRow h.l14 Q', (_root_.Go.setRow_other W k g Q' h.ne).trans h.v.r12, h.v.l12⟩, setRow_heap _ _ _ _ _ _ h.r14, h.l14, h.ne⟩
theorem BytesV.takeT {w : World} {a : Option Addr} {n c m : Nat} {l : List Nat} (h : BytesV w (a, n, c) l) (hm : m ≤ n) : BytesV w (a, m, c) (l.take m) := by
  have hs := h.small
  have hc := h.cap
  simp only at hs hc
  refine ⟨?_, fun x hx => h.bytes x (List.mem_of_mem_take hx), by simp only; omega, by simp only; omega, h.nil⟩
  rw [List.map_take]
  refine ⟨by simp [h.length]; omega, fun h0 => ?_⟩
  obtain ⟨b, o, e, hcc⟩ := h.row.2 (by simp only at h0 ⊢; omega)
  exact ⟨b, o, e, fun i hi => by simp only at hi; rw [hcc i (by simp only; omega), List.getElem?_take, if_pos hi]⟩
set_option maxRecDepth 100000 in
set_option maxHeartbeats 32000000 in
theorem metaValues_walk (N c t : Int) (va : Option Addr) (vn vc : Nat) (l : List Nat) (mN mc ms mt : Int) (md : Bool) (sa : Option Addr) (sn sc : Nat) (sum : List Nat) (key : ByteArray) (W : World) (hg : SK W ∧ CK W) (_w0 : (Lit.int .i64 N).wf = true) (_x0 : (Lit.int .i64 c).wf = true) (_w1 : (Lit.int .i64 t).wf = true) (w2 : BytesV W (va, vn, vc) l) (_s2 : vn ≤ 140737488351232) (w3 : BytesV W (sa, sn, sc) sum) (_w4 : key.size ≤ maxLen) :
    Calls Tryd.prog 6 #[.agg #[.int .i64 N, .int .i64 c], .int .i64 t, .slice va vn vc, .agg #[.int .i64 mN, .int .i64 mc, .int .i64 ms, .int .i64 mt, .bool md, .slice sa sn sc], .string key] W fun e W' => e = .returned (.bool true) ∧ Below W.heap.size W W' := by
  have HV := Lib.hid w2
  have hvl : l.length = vn := w2.length
  have HVL := Lib.hid hvl
  have HG := Lib.hid hg
  have H3 := Lib.hid w3
  have KA := fun w => alive9_any w
  obtain ⟨M, hM⟩ : ∃ M : Array Value, M = #[.int .i64 mN, .int .i64 mc, .int .i64 ms, .int .i64 mt, .bool md, .slice sa sn sc] := ⟨_, rfl⟩
  clear w2 w3 hvl hg
  go_enter Tryd.func6, Tryd.ntmps6
  go_wp2_with fail
  (with_reducible refine (KA _).mono ?_)
  rintro e W1 ⟨rfl, hb1⟩
  have h1 := (V2.start W N c #[.int .i64 mN, .int .i64 mc, .int .i64 ms, .int .i64 mt, .bool md, .slice sa sn sc]).below hb1
  rw [← hM] at h1
  have HM := Lib.hid hM
  clear KA hb1 hM
  by_cases h5 : 5000 < vn
  · have h5' : 5000 < (vn : Int) := by omega
    go_wp2
    go_ret
    exact ⟨rfl, h1.bel⟩
  have h5' : ¬ 5000 < (vn : Int) := by omega
  go_wp2_with fail
  (with_reducible refine (spare_any va vn vc l W1 (HV.out.below h1.bel) (by omega)).mono ?_)
  rintro e W2 ⟨fa, fc, rfl, of, b2⟩
  have hfl : (spareB l).length = vn + 8 := by rw [spareB_length, HVL.out]
  rw [hfl] at of ⊢
  have h2 := h1.below b2
  have hfull := bytesV_of_owns of (spareB_bytes HV.out.bytes) (by omega)
  obtain ⟨fad, fcap, efa, hfcase, hfc1, -, -⟩ := ownsRow_parts of
  simp only [Value.slice.injEq] at efa
  obtain ⟨rfl, -, rfl⟩ := efa
  rcases hfcase with ⟨-, h, -⟩ | ⟨gf, rfl, -, -⟩
  · omega
  have hft := hfull.takeT (m := vn) (by omega)
  rw [show (spareB l).take vn = l by rw [← HVL.out]; simp [spareB]] at hft
  have HFULL := Lib.hid hfull
  have HFT := Lib.hid hft
  have hfc2 : vn ≤ fc := by omega
  clear h1 b2 of hfull hft
  go_upto_region 6 with fail
  go_cut [12, 13] (fun v u wx => ∃ g a cc, v = .pointer (some ⟨g, 0, none⟩) ∧ u = .int .i64 (chkE N c vn t false 32) ∧ V3 W wx N c M g (chk N c vn t false a 32 cc) ∧ BytesV wx (a, 32, cc) (shaR l) ∧ BytesV wx (some ⟨gf, 0, none⟩, vn + 8, fc) (spareB l))
  case first =>
    have h0 := h2.below (below_drewS W2)
    have F0 := HFT.out.below (below_drewS W2)
    have G0 := HFULL.out.below (below_drewS W2)
    have S0 := h0.cells
    refine GoX.start 12 (fun w' => w'.cell? ⟨W.heap.size, 0, none⟩ = some (.int .i64 N) ∧ w'.cell? ⟨W.heap.size, 1, none⟩ = some (.int .i64 c)) (by kernel_rfl) ?_
    refine GoX.take 0 rfl (by kernel_rfl) (by kernel_rfl) (by rfl) (fun _ _ _ h => h) (v := ?tv0q14) S0 ?ty0q14 ?tr0q14
    case ty0q14 => (intro w hSw; (try dsimp only at hSw); go_simp; first | done | with_reducible rfl)
    simp only [Act.put, List.setIfInBounds_toArray, List.set_cons_zero, List.set_cons_succ]
    refine GoX.take 1 rfl (by kernel_rfl) (by kernel_rfl) (by rfl) (fun _ _ _ h => h) (v := ?tv1q14) S0 ?ty1q14 ?tr1q14
    case ty1q14 => (intro w hSw; (try dsimp only at hSw); go_simp; first | done | with_reducible rfl)
    simp only [Act.put, List.setIfInBounds_toArray, List.set_cons_zero, List.set_cons_succ]
    refine GoX.take 2 rfl (by kernel_rfl) (by kernel_rfl) (by rfl) (fun _ _ _ h => h) (v := ?tv2q14) S0 ?ty2q14 ?tr2q14
    case ty2q14 => (intro w hSw; (try dsimp only at hSw); go_simp; first | done | with_reducible rfl)
    simp only [Act.put, List.setIfInBounds_toArray, List.set_cons_zero, List.set_cons_succ]
    refine GoX.take 3 rfl (by kernel_rfl) (by kernel_rfl) (by rfl) (fun _ _ _ h => h) (v := ?tv3q14) S0 ?ty3q14 ?tr3q14
    case ty3q14 => (intro w hSw; (try dsimp only at hSw); go_simp; first | done | with_reducible rfl)
    simp only [Act.put, List.setIfInBounds_toArray, List.set_cons_zero, List.set_cons_succ]
    refine GoX.take 4 rfl (by kernel_rfl) (by kernel_rfl) (by rfl) (fun _ _ _ h => h) (v := ?tv4q14) S0 ?ty4q14 ?tr4q14
    case ty4q14 => (intro w hSw; (try dsimp only at hSw); go_simp; first | done | with_reducible rfl)
    simp only [Act.put, List.setIfInBounds_toArray, List.set_cons_zero, List.set_cons_succ]
    refine GoX.take 5 rfl (by kernel_rfl) (by kernel_rfl) (by rfl) (fun _ _ _ h => h) (v := ?tv5q14) S0 ?ty5q14 ?tr5q14
    case ty5q14 => (intro w hSw; (try dsimp only at hSw); go_simp; first | done | with_reducible rfl)
    simp only [Act.put, List.setIfInBounds_toArray, List.set_cons_zero, List.set_cons_succ]
    refine (?_ : ∀ W0, V2 W W0 N c M → BytesV W0 (some ⟨gf, 0, none⟩, vn, fc) l → BytesV W0 (some ⟨gf, 0, none⟩, vn + 8, fc) (spareB l) → GoX Tryd.prog _ _ _ _ _ _ _ W0) _ h0 F0 G0
    clear S0 h0 h2 F0 G0
    intro W0 h0 F0 G0
    refine GoX.two 6 10 rfl rfl (by kernel_rfl) (by decide) (by decide) (fun K hK => ?_) (fun K hK => ?_)
    · rw [if_pos (by rfl)]
      go_simp
      (with_reducible refine (of_any N c t (some ⟨gf, 0, none⟩) vn fc l W0 F0 (by omega) (HG.out.1.below h0.bel (Nat.le_refl _)) (HG.out.2.below h0.bel (Nat.le_refl _))).mono ?_)
      rintro e W4 ⟨a, cc, rfl, o4, b4⟩
      have h4 := h0.below b4
      have G4 := G0.below b4
      obtain ⟨R, hR⟩ : ∃ R, R = chk N c vn t false a 32 cc := ⟨_, rfl⟩
      rw [← hR]
      have HRH := Lib.hid hR
      clear hR h0 b4 F0 G0
      refine hK.out _ _ h4.cells (fun _ => ?_)
      clear hK K
      have S4 := h4.cells
      refine GoX.take 7 rfl (by kernel_rfl) (by kernel_rfl) (by rfl) (fun _ _ _ h => h) (v := ?tv7q15) S4 ?ty7q15 ?tr7q15
      case ty7q15 => (intro w hSw; (try dsimp only at hSw); go_simp; first | done | with_reducible rfl)
      simp only [Act.put, List.setIfInBounds_toArray, List.set_cons_zero, List.set_cons_succ]
      refine GoX.take 8 rfl (by kernel_rfl) (by kernel_rfl) (by rfl) (fun _ _ _ h => h) (v := ?tv8q15) S4 ?ty8q15 ?tr8q15
      case ty8q15 => (intro w hSw; (try dsimp only at hSw); go_simp; first | done | with_reducible rfl)
      simp only [Act.put, List.setIfInBounds_toArray, List.set_cons_zero, List.set_cons_succ]
      refine GoX.take 9 rfl (by kernel_rfl) (by kernel_rfl) (by rfl) (fun _ _ _ h => h) (v := ?tv9q15) S4 ?ty9q15 ?tr9q15
      case ty9q15 => (intro w hSw; (try dsimp only at hSw); go_simp; first | done | with_reducible rfl)
      simp only [Act.put, List.setIfInBounds_toArray, List.set_cons_zero, List.set_cons_succ]
      refine GoX.one 10 rfl (by kernel_rfl) (by decide) (fun K hK => ?_)
      go_simp
      have b5 := below_alloc W4 (.cells zero6 MT6)
      have r5 := heap_alloc_new W4 (.cells zero6 MT6)
      have h5 := h4.below b5
      refine hK.out _ (W4.alloc (.cells zero6 MT6)) h5.cells (fun _ => ?_)
      clear hK K S4
      refine GoX.one 11 rfl (by kernel_rfl) (by decide) (fun K hK => ?_)
      rw [if_pos (by rfl)]
      refine wp_store_row MT6 _ _ rfl W4.heap.size R rfl rfl MT6 _ r5 (by rw [HRH.out, chk_size]; exact infoMT6) (by rw [HRH.out, chk_size]; rfl) (by rw [HRH.out]; exact chk_one _ _ _ _ _ _ _ _) ?_
      have hm := V3.made h5 r5 h4.lt R
      have o5 := bytesV_setBox (owns_below o4 b5) r5 (by decide) R
      have b6 : BytesV ((W4.alloc (.cells zero6 MT6)).setRow W4.heap.size R) (some ⟨gf, 0, none⟩, vn + 8, fc) (spareB l) := G4.keptS fun h0 a ha => by
        have hlt := G4.row.lt h0 ha
        exact (_root_.Go.setRow_other _ W4.heap.size _ R (by omega)).trans (heap_alloc_old W4 _ hlt)
      refine hK.out _ _ hm.v.cells (fun _ => ?_)
      clear hK K
      simp only [Act.put]
      refine GoX.last 12 rfl (by kernel_rfl) (by kernel_rfl) (by decide) ?_
      go_wp2
      go_meet
      exact ⟨_, a, cc, rfl, rfl, by rw [← HRH.out]; exact hm, bytesV_of_owns o5 (shaR_bytes l) (by decide), b6⟩
    · go_simp
      have b5 := below_alloc W0 (.cells zero6 MT6)
      have r5 := heap_alloc_new W0 (.cells zero6 MT6)
      have h5 := h0.below b5
      have hlt := h0.lt
      refine hK.out _ (W0.alloc (.cells zero6 MT6)) h5.cells (fun _ => ?_)
      clear hK K
      refine GoX.one 6 rfl (by kernel_rfl) (by decide) (fun K hK => ?_)
      rw [if_pos (by rfl)]
      go_simp
      (with_reducible refine (of_any N c t (some ⟨gf, 0, none⟩) vn fc l (W0.alloc (.cells zero6 MT6)) (F0.below b5) (by omega) (HG.out.1.below h5.bel (Nat.le_refl _)) (HG.out.2.below h5.bel (Nat.le_refl _))).mono ?_)
      rintro e W4 ⟨a, cc, rfl, o4, b4⟩
      have h4 := h5.below b4
      have G4 := (G0.below b5).below b4
      have r4 := (b4.block _ (Array.getElem?_eq_some_iff.1 r5).1).trans r5
      have hgf : 0 < vn + 8 → gf < W0.heap.size := fun h => G0.row.lt (a := ⟨gf, 0, none⟩) h rfl
      obtain ⟨R, hR⟩ : ∃ R, R = chk N c vn t false a 32 cc := ⟨_, rfl⟩
      rw [← hR]
      have HRH := Lib.hid hR
      clear hR b4 F0 G0 h5 r5 b5 h0
      refine hK.out _ _ h4.cells (fun _ => ?_)
      clear hK K
      have S4 := h4.cells
      refine GoX.take 7 rfl (by kernel_rfl) (by kernel_rfl) (by rfl) (fun _ _ _ h => h) (v := ?tv7q16) S4 ?ty7q16 ?tr7q16
      case ty7q16 => (intro w hSw; (try dsimp only at hSw); go_simp; first | done | with_reducible rfl)
      simp only [Act.put, List.setIfInBounds_toArray, List.set_cons_zero, List.set_cons_succ]
      refine GoX.take 8 rfl (by kernel_rfl) (by kernel_rfl) (by rfl) (fun _ _ _ h => h) (v := ?tv8q16) S4 ?ty8q16 ?tr8q16
      case ty8q16 => (intro w hSw; (try dsimp only at hSw); go_simp; first | done | with_reducible rfl)
      simp only [Act.put, List.setIfInBounds_toArray, List.set_cons_zero, List.set_cons_succ]
      refine GoX.take 9 rfl (by kernel_rfl) (by kernel_rfl) (by rfl) (fun _ _ _ h => h) (v := ?tv9q16) S4 ?ty9q16 ?tr9q16
      case ty9q16 => (intro w hSw; (try dsimp only at hSw); go_simp; first | done | with_reducible rfl)
      simp only [Act.put, List.setIfInBounds_toArray, List.set_cons_zero, List.set_cons_succ]
      refine GoX.one 11 rfl (by kernel_rfl) (by decide) (fun K hK => ?_)
      rw [if_pos (by rfl)]
      refine wp_store_row MT6 _ _ rfl W0.heap.size R rfl rfl MT6 _ r4 (by rw [HRH.out, chk_size]; exact infoMT6) (by rw [HRH.out, chk_size]; rfl) (by rw [HRH.out]; exact chk_one _ _ _ _ _ _ _ _) ?_
      have hm := V3.made h4 r4 hlt R
      have o5 := bytesV_setBox o4 r4 (by decide) R
      have b6 : BytesV (W4.setRow W0.heap.size R) (some ⟨gf, 0, none⟩, vn + 8, fc) (spareB l) := G4.keptS fun h0 a ha => by
        injection ha with ha
        subst ha
        exact _root_.Go.setRow_other _ W0.heap.size _ R (by have := hgf h0; simp only; omega)
      refine hK.out _ _ hm.v.cells (fun _ => ?_)
      clear hK K
      simp only [Act.put]
      refine GoX.last 12 rfl (by kernel_rfl) (by kernel_rfl) (by decide) ?_
      go_wp2
      go_meet
      exact ⟨_, a, cc, rfl, rfl, by rw [← HRH.out]; exact hm, bytesV_of_owns o5 (shaR_bytes l) (by decide), b6⟩
  case rest =>
    clear h2 HFULL HFT
    rename World => W3
    obtain ⟨g, a, cc, rfl, rfl, h3, ha, hf⟩ := hcut
    obtain ⟨t0, t1⟩ := h3.v.cells
    obtain ⟨R1, hR1⟩ : ∃ R, R = chk N c vn t false a 32 cc := ⟨_, rfl⟩
    rw [← hR1] at h3
    have HR1 := Lib.hid hR1
    have HA := Lib.hid ha
    have HF := Lib.hid hf
    obtain ⟨E, hE⟩ : ∃ E, E = chkE N c vn t false 32 := ⟨_, rfl⟩
    have HE := Lib.hid hE
    rw [← hE]
    clear hR1 ha hf hE
    go_wp2_with fail
    (with_reducible refine (refOf_any N c t va vn vc l W3 (HV.out.below h3.v.bel) (by omega)).mono ?_)
    rintro e W4 ⟨a2, c2, rfl, o4, b4⟩
    rw [← HE.out]
    have h4 := h3.below b4
    have HA4 := Lib.hid (HA.out.below b4)
    have HF4 := Lib.hid (HF.out.below b4)
    obtain ⟨R2, hR2⟩ : ∃ R, R = chk N c vn t false a2 32 c2 := ⟨_, rfl⟩
    rw [← hR2]
    have HR2 := Lib.hid hR2
    have HO4 := Lib.hid o4
    clear hR2 t0 t1 h3 b4 HA HF o4
    have r2s : R2.size = 6 := by rw [HR2.out]; exact chk_size _ _ _ _ _ _ _ _
    have r2i : (Tryd.prog.info? MT6).map (·.size) = some R2.size := by rw [r2s]; exact infoMT6
    have r2o : R2.all (·.oneCell') = true := by rw [HR2.out]; exact chk_one _ _ _ _ _ _ _ _
    have r5 := heap_alloc_new W4 (.cells zero6 MT6)
    go_upto_region 8 with (first | (refine wpList_store_row rfl MT6 _ _ rfl W4.heap.size R2 rfl rfl MT6 _ r5 r2i (by rw [r2s]; rfl) r2o ?_))
    obtain ⟨k, hk⟩ : ∃ k, k = W4.heap.size := ⟨_, rfl⟩
    have hgk : g < W4.heap.size := (Array.getElem?_eq_some_iff.1 h4.r12).1
    have h8 : V4 W ((W4.alloc (.cells zero6 MT6)).setRow W4.heap.size R2) N c M g R1 k R2 := by
      have b5 := below_alloc W4 (.cells zero6 MT6)
      have h4' := h4.below b5
      have hl := h4.v.lt
      have h14 : W.heap.size + 1 < W4.heap.size := by omega
      rw [hk]
      exact ⟨⟨h4'.v.setRow h14 R2, (_root_.Go.setRow_other _ W4.heap.size g R2 (by omega)).trans h4'.r12, h4'.l12⟩, setRow_heap _ _ _ _ _ _ r5, h14, by omega⟩
    have HA8 : Hid (BytesV ((W4.alloc (.cells zero6 MT6)).setRow W4.heap.size R2) (a, 32, cc) (shaR l)) := Lib.hid (HA4.out.keptS fun h0 x hx => by
      have hlt := HA4.out.row.lt h0 hx
      exact (_root_.Go.setRow_other _ W4.heap.size _ R2 (by omega)).trans (heap_alloc_old W4 _ hlt))
    have HF8 : Hid (BytesV ((W4.alloc (.cells zero6 MT6)).setRow W4.heap.size R2) (some ⟨gf, 0, none⟩, vn + 8, fc) (spareB l)) := Lib.hid (HF4.out.keptS fun h0 x hx => by
      have hlt := HF4.out.row.lt h0 hx
      exact (_root_.Go.setRow_other _ W4.heap.size _ R2 (by omega)).trans (heap_alloc_old W4 _ hlt))
    have HO8 : Hid (BytesV ((W4.alloc (.cells zero6 MT6)).setRow W4.heap.size R2) (a2, 32, c2) (shaR l)) := Lib.hid (bytesV_of_owns (bytesV_setBox (owns_below HO4.out (below_alloc W4 (.cells zero6 MT6))) r5 (by decide) R2) (shaR_bytes l) (by decide))
    rw [← hk]
    rw [← hk] at h8 HA8 HF8 HO8
    have r1s : R1.size = 6 := by rw [HR1.out]; exact chk_size _ _ _ _ _ _ _ _
    have r1i : (Tryd.prog.info? MT6).map (·.size) = some R1.size := by rw [r1s]; exact infoMT6
    refine (?_ : ∀ W8, V4 W W8 N c M g R1 k R2 → Hid (BytesV W8 (a, 32, cc) (shaR l)) → Hid (BytesV W8 (some ⟨gf, 0, none⟩, vn + 8, fc) (spareB l)) → Hid (BytesV W8 (a2, 32, c2) (shaR l)) → Code.wp Tryd.prog _ _ _ W8) _ h8 HA8 HF8 HO8
    clear h8 HA8 HF8 HO8 hk hgk r5 HA4 HF4 HO4 h4
    intro W8 h8 HA8 HF8 HO8
    have KS := sameMeta_chk N c vn t false a 32 cc a2 c2 (shaR l) W8 HA8.out HO8.out
    rw [← HR1.out, ← HR2.out] at KS
    have g12 := h8.v.r12
    have g14 := h8.r14
    go_wp2_with (first | (refine wpList_load_row rfl MT6 _ rfl g rfl MT6 R1 (0, 0) _ g12 Tryd.underlying36 rfl r1i ?_) | (refine wpList_load_row rfl MT6 _ rfl k rfl MT6 R2 (0, 0) _ g14 Tryd.underlying36 rfl r2i ?_) | (go_at_call 20; refine Hid.out ?_))
    refine Lib.hid ?_
    (with_reducible refine KS.mono ?_)
    rintro e W9 ⟨rfl, b9⟩
    have h9 := h8.below b9
    have HF9 := Lib.hid (HF8.out.below b9)
    clear KS g12 g14 h8 HA8 HO8 HF8 b9
    go_wp2_with fail
    (with_reducible refine (spare_any va vn vc l W9 (HV.out.below h9.v.v.bel) (by omega)).mono ?_)
    rintro e W10 ⟨xa, xc, rfl, o10, b10⟩
    rw [hfl] at o10 ⊢
    have h10 := h9.below b10
    have hx10 := bytesV_of_owns o10 (spareB_bytes HV.out.bytes) (by omega)
    have KB := sameBytes_any (some ⟨gf, 0, none⟩) (vn + 8) fc (spareB l) xa (vn + 8) xc (spareB l) W10 (HF9.out.below b10) hx10
    rw [decide_eq_true rfl] at KB
    clear o10 h9 HF9 b10 hx10
    go_wp2_with fail
    (with_reducible refine KB.mono ?_)
    rintro e W11 ⟨rfl, b11⟩
    have h11 := h10.below b11
    clear KB h10 b11
    obtain ⟨t0, t1⟩ := h11.v.v.cells
    obtain ⟨E6, hE6⟩ : ∃ E, E = chk N c 0 0 true none 0 0 := ⟨_, rfl⟩
    obtain ⟨EE, hEE⟩ : ∃ E, E = chkE N c 0 0 true 0 := ⟨_, rfl⟩
    have e6s : E6.size = 6 := by rw [hE6]; exact chk_size _ _ _ _ _ _ _ _
    have e6i : (Tryd.prog.info? MT6).map (·.size) = some E6.size := by rw [e6s]; exact infoMT6
    have e6o : E6.all (·.oneCell') = true := by rw [hE6]; exact chk_one _ _ _ _ _ _ _ _
    have KE := fun w => end_any N c w
    have KF := fun w => refEnd_any N c w
    have KS := fun w => sameMeta_chk N c 0 0 true none 0 0 none 0 [] w (bytesV_noneT w) (bytesV_noneT w)
    simp only [← hE6, ← hEE] at KE KF KS
    have HE6 := Lib.hid (And.intro hE6 hEE)
    clear hE6 hEE
    go_wp2_with fail
    (with_reducible refine (KE _).mono ?_)
    rintro e W12 ⟨rfl, b12⟩
    have h12 := h11.below b12
    clear KE h11 b12 t0 t1
    have g12 := h12.v.r12
    go_upto_region 11 with (first | (refine wpList_store_row rfl MT6 _ _ rfl g E6 rfl rfl MT6 _ g12 e6i (by rw [r1s, e6s]) e6o ?_))
    refine (?_ : ∀ W8, V4 W W8 N c M g E6 k R2 → Code.wp Tryd.prog _ _ _ W8) _ (h12.set12 E6)
    clear h12 g12
    intro W13 h13
    obtain ⟨t0, t1⟩ := h13.v.v.cells
    go_wp2_with fail
    (with_reducible refine (KF _).mono ?_)
    rintro e W14 ⟨rfl, b14⟩
    have h14 := h13.below b14
    clear KF h13 b14 t0 t1
    have g14 := h14.r14
    go_upto_region 12 with (first | (refine wpList_store_row rfl MT6 _ _ rfl k E6 rfl rfl MT6 _ g14 e6i (by rw [r2s, e6s]) e6o ?_))
    refine (?_ : ∀ W8, V4 W W8 N c M g E6 k E6 → Code.wp Tryd.prog _ _ _ W8) _ (h14.set14 E6)
    clear h14 g14 r1i r2i r2o
    intro W15 h15
    have h0 := h15.below (below_drewS W15)
    have hS : ∀ w', V4 W w' N c M g E6 k E6 → (w'.heap[g]? = some (.cells E6 MT6 (0, 0)) ∧ w'.heap[k]? = some (.cells E6 MT6 (0, 0))) ∧ w'.heap[W.heap.size + 1]? = some (.cells M MT6 (0, 0)) := fun w' h => ⟨⟨h.v.r12, h.r14⟩, h.v.v.r8⟩
    have mi : (Tryd.prog.info? MT6).map (·.size) = some M.size := by rw [HM.out]; kernel_rfl
    have S0 := hS _ h0
    refine GoX.start 23 (fun w' => (w'.heap[g]? = some (.cells E6 MT6 (0, 0)) ∧ w'.heap[k]? = some (.cells E6 MT6 (0, 0))) ∧ w'.heap[W.heap.size + 1]? = some (.cells M MT6 (0, 0))) (by kernel_rfl) ?_
    refine GoX.take 0 rfl (by kernel_rfl) (by kernel_rfl) (by rfl) (fun _ _ _ h => h) (v := .agg E6) S0 ?tyA0 ?trA0
    case tyA0 => (intro w1 hSw; exact exec_load_row MT6 _ rfl g rfl MT6 E6 (0, 0) _ hSw.1.1 Tryd.underlying36 rfl e6i)
    simp only [Act.put, List.setIfInBounds_toArray, List.set_cons_zero, List.set_cons_succ]
    refine GoX.take 1 rfl (by kernel_rfl) (by kernel_rfl) (by rfl) (fun _ _ _ h => h) (v := .agg E6) S0 ?tyA1 ?trA1
    case tyA1 => (intro w1 hSw; exact exec_load_row MT6 _ rfl k rfl MT6 E6 (0, 0) _ hSw.1.2 Tryd.underlying36 rfl e6i)
    simp only [Act.put, List.setIfInBounds_toArray, List.set_cons_zero, List.set_cons_succ]
    refine GoX.one 2 rfl (by kernel_rfl) (by decide) (fun K hK => ?_)
    rw [if_pos (by rfl)]
    go_simp
    (with_reducible refine (KS _).mono ?_)
    rintro e W16 ⟨rfl, b16⟩
    have h16 := h15.below (show Below W15.heap.size W15 W16 from ⟨b16.os, b16.tape, b16.output, b16.size, b16.block⟩)
    have S1 := hS _ h16
    clear S0 h0 h15 b16 KS
    refine hK.out _ _ S1 (fun _ => ?_)
    clear hK K
    refine GoX.take 3 rfl (by kernel_rfl) (by kernel_rfl) (by rfl) (fun _ _ _ h => h) (v := ?tv3q17) S1 ?ty3q17 ?tr3q17
    case ty3q17 => (intro w hSw; (try dsimp only at hSw); go_simp; first | done | with_reducible rfl)
    simp only [Act.put, List.setIfInBounds_toArray, List.set_cons_zero, List.set_cons_succ]
    refine GoX.take 4 rfl (by kernel_rfl) (by kernel_rfl) (by rfl) (fun _ _ _ h => h) (v := ?tv4q17) S1 ?ty4q17 ?tr4q17
    case ty4q17 => (intro w hSw; (try dsimp only at hSw); go_simp; first | done | with_reducible rfl)
    simp only [Act.put, List.setIfInBounds_toArray, List.set_cons_zero, List.set_cons_succ]
    refine GoX.take 5 rfl (by kernel_rfl) (by kernel_rfl) (by rfl) (fun _ _ _ h => h) (v := ?tv5q17) S1 ?ty5q17 ?tr5q17
    case ty5q17 => (intro w hSw; (try dsimp only at hSw); go_simp; first | done | with_reducible rfl)
    simp only [Act.put, List.setIfInBounds_toArray, List.set_cons_zero, List.set_cons_succ]
    refine GoX.take 6 rfl (by kernel_rfl) (by kernel_rfl) (by rfl) (fun _ _ _ h => h) (v := ?tv6q17) S1 ?ty6q17 ?tr6q17
    case ty6q17 => (intro w hSw; (try dsimp only at hSw); go_simp; first | done | with_reducible rfl)
    simp only [Act.put, List.setIfInBounds_toArray, List.set_cons_zero, List.set_cons_succ]
    refine GoX.take 7 rfl (by kernel_rfl) (by kernel_rfl) (by rfl) (fun _ _ _ h => h) (v := ?tv7q17) S1 ?ty7q17 ?tr7q17
    case ty7q17 => (intro w hSw; (try dsimp only at hSw); go_simp; first | done | with_reducible rfl)
    simp only [Act.put, List.setIfInBounds_toArray, List.set_cons_zero, List.set_cons_succ]
    refine GoX.take 8 rfl (by kernel_rfl) (by kernel_rfl) (by rfl) (fun _ _ _ h => h) (v := ?tv8q17) S1 ?ty8q17 ?tr8q17
    case ty8q17 => (intro w hSw; (try dsimp only at hSw); go_simp; first | done | with_reducible rfl)
    simp only [Act.put, List.setIfInBounds_toArray, List.set_cons_zero, List.set_cons_succ]
    refine GoX.take 9 rfl (by kernel_rfl) (by kernel_rfl) (by rfl) (fun _ _ _ h => h) (v := .agg M) S1 ?tyA9 ?trA9
    case tyA9 => (intro w1 hSw; exact exec_load_row MT6 _ rfl (W.heap.size + 1) rfl MT6 M (0, 0) _ hSw.2 Tryd.underlying36 rfl mi)
    simp only [Act.put, List.setIfInBounds_toArray, List.set_cons_zero, List.set_cons_succ]
    refine GoX.take 12 rfl (by kernel_rfl) (by kernel_rfl) (by rfl) (fun _ _ _ h => h) (v := .agg M) S1 ?tyA12 ?trA12
    case tyA12 => (intro w1 hSw; exact exec_load_row MT6 _ rfl (W.heap.size + 1) rfl MT6 M (0, 0) _ hSw.2 Tryd.underlying36 rfl mi)
    simp only [Act.put, List.setIfInBounds_toArray, List.set_cons_zero, List.set_cons_succ]
    have KM := copyMeta_any mN mc ms mt md sa sn sc sum W16 (H3.out.below h16.v.v.bel)
    rw [← HM.out] at KM
    refine GoX.one 10 rfl (by kernel_rfl) (by decide) (fun K hK => ?_)
    rw [if_pos (by rfl)]
    go_simp
    (with_reducible refine KM.mono ?_)
    rintro e W17 ⟨xa, xc, rfl, o17, b17⟩
    have h17 := h16.below b17
    have S2 := hS _ h17
    clear S1 h16 o17 b17 KM
    refine hK.out _ _ S2 (fun _ => ?_)
    clear hK K
    obtain ⟨Z, hZ⟩ : ∃ Z : Int, Z = (if metaB mN mc ms mt md sn = true then 0 else 90) := ⟨_, rfl⟩
    have KC := fun w => check_any mN mc ms mt md xa sn xc w
    have KD := fun w => refCheck_any mN mc ms mt md sa sn sc w
    rw [← hZ] at KC KD
    rw [← HM.out] at KD
    clear hZ
    refine GoX.one 11 rfl (by kernel_rfl) (by decide) (fun K hK => ?_)
    rw [if_pos (by rfl)]
    go_simp
    (with_reducible refine (KC _).mono ?_)
    rintro e W18 ⟨rfl, b18⟩
    have h18 := h17.below b18
    have S3 := hS _ h18
    clear S2 h17 b18 KC
    refine hK.out _ _ S3 (fun _ => ?_)
    clear hK K
    refine GoX.one 13 rfl (by kernel_rfl) (by decide) (fun K hK => ?_)
    rw [if_pos (by rfl)]
    go_simp
    (with_reducible refine (KD _).mono ?_)
    rintro e W19 ⟨rfl, b19⟩
    have h19 := h18.below b19
    have S4 := hS _ h19
    clear S3 h18 b19 KD
    refine hK.out _ _ S4 (fun _ => ?_)
    clear hK K
    refine GoX.take 14 rfl (by kernel_rfl) (by kernel_rfl) (by rfl) (fun _ _ _ h => h) (v := ?tv14q18) S4 ?ty14q18 ?tr14q18
    case ty14q18 => (intro w hSw; (try dsimp only at hSw); go_simp; first | done | with_reducible rfl)
    simp only [Act.put, List.setIfInBounds_toArray, List.set_cons_zero, List.set_cons_succ]
    refine GoX.take 15 rfl (by kernel_rfl) (by kernel_rfl) (by rfl) (fun _ _ _ h => h) (v := ?tv15q18) S4 ?ty15q18 ?tr15q18
    case ty15q18 => (intro w hSw; (try dsimp only at hSw); go_simp; first | done | with_reducible rfl)
    simp only [Act.put, List.setIfInBounds_toArray, List.set_cons_zero, List.set_cons_succ]
    refine GoX.take 16 rfl (by kernel_rfl) (by kernel_rfl) (by rfl) (fun _ _ _ h => h) (v := ?tv16q18) S4 ?ty16q18 ?tr16q18
    case ty16q18 => (intro w hSw; (try dsimp only at hSw); go_simp; first | done | with_reducible rfl)
    simp only [Act.put, List.setIfInBounds_toArray, List.set_cons_zero, List.set_cons_succ]
    refine GoX.take 17 rfl (by kernel_rfl) (by kernel_rfl) (by rfl) (fun _ _ _ h => h) (v := ?tv17q18) S4 ?ty17q18 ?tr17q18
    case ty17q18 => (intro w hSw; (try dsimp only at hSw); go_simp; first | done | with_reducible rfl)
    simp only [Act.put, List.setIfInBounds_toArray, List.set_cons_zero, List.set_cons_succ]
    refine GoX.take 19 rfl (by kernel_rfl) (by kernel_rfl) (by rfl) (fun _ _ _ h => h) (v := ?tv19q18) S4 ?ty19q18 ?tr19q18
    case ty19q18 => (intro w hSw; (try dsimp only at hSw); go_simp; first | done | with_reducible rfl)
    simp only [Act.put, List.setIfInBounds_toArray, List.set_cons_zero, List.set_cons_succ]
    obtain ⟨B, hB⟩ : ∃ B, B = keyB key.size := ⟨_, rfl⟩
    have KK := fun w => key_any key w
    have KL := fun w => refKey_any key w
    rw [← hB] at KK KL
    clear hB
    refine GoX.one 18 rfl (by kernel_rfl) (by decide) (fun K hK => ?_)
    rw [if_pos (by rfl)]
    go_simp
    (with_reducible refine (KK _).mono ?_)
    rintro e W20 ⟨rfl, rfl⟩
    clear KK
    refine hK.out _ _ S4 (fun _ => ?_)
    clear hK K
    refine GoX.one 20 rfl (by kernel_rfl) (by decide) (fun K hK => ?_)
    rw [if_pos (by rfl)]
    go_simp
    (with_reducible refine (KL _).mono ?_)
    rintro e W21 ⟨rfl, rfl⟩
    clear KL
    refine hK.out _ _ S4 (fun _ => ?_)
    clear hK K
    refine GoX.take 21 rfl (by kernel_rfl) (by kernel_rfl) (by rfl) (fun _ _ _ h => h) (v := ?tv21q19) S4 ?ty21q19 ?tr21q19
    case ty21q19 => (intro w hSw; (try dsimp only at hSw); go_simp; first | done | with_reducible rfl)
    simp only [Act.put, List.setIfInBounds_toArray, List.set_cons_zero, List.set_cons_succ]
    refine GoX.take 22 rfl (by kernel_rfl) (by kernel_rfl) (by rfl) (fun _ _ _ h => h) (v := ?tv22q19) S4 ?ty22q19 ?tr22q19
    case ty22q19 => (intro w hSw; (try dsimp only at hSw); go_simp; first | done | with_reducible rfl)
    simp only [Act.put, List.setIfInBounds_toArray, List.set_cons_zero, List.set_cons_succ]
    refine GoX.last 23 rfl (by kernel_rfl) (by kernel_rfl) (by decide) ?_
    go_wp2
    go_ret
    exact ⟨by first | rfl | simp, h19.v.v.bel⟩
end Go.Proofs.YthofndobmiamjaaDoor
