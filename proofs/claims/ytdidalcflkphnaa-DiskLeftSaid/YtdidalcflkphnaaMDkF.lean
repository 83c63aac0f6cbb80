/-
  rilllaw08: step.
-/
import Derived.Deep.CutBlock
import Derived.Deep.DeepCutAuto
import Derived.Deep.RegionHeld3
import Derived.StillTailTactics
import Derived.Test.YtdidalcflkphnaaMDkE
import Derived.Test.YtdidalcflkphnaaMCh3
import Derived.Test.YtdidalcflkphnaaMDjI
namespace Go.Proofs.Ytdidalcflkphnaa
open Go.RowKit

theorem results_three {fn : Func} {p u v : Tmp} {ty : TypeId} (hf : fn.results = #[.tmp u, .cell p ty, .tmp v]) (tmps : Array Value) (P : Program) (w : World) :
    (results fn tmps).run P w = ((asAddr (tmps.getD p undef)).run P w).andThen fun a w₁ => ((loadVar ty a).run P w₁).andThen fun x w₂ => .ok (.tuple #[tmps.getD u undef, x, tmps.getD v undef]) w₂ := by
  simp only [results, hf]
  simp [Sem.run_bind, Result.andThen]

theorem results_step {fn : Func} (hf : fn.results = #[.tmp 6, .cell 7 RT, .tmp 8]) (w : World) (g : Nat) (h : RefH) (hg : w.heap[g]? = some (.cells h.cells RT (0, 0))) (tmps : Array Value) (x y : Value) (hp : tmps.getD 7 undef = .pointer (some ⟨g, 0, none⟩)) (h6 : tmps.getD 6 undef = x) (h8 : tmps.getD 8 undef = y) :
    (results fn tmps).run Try.prog w = .ok (.tuple #[x, h.v, y]) w := by
  rw [results_three hf, hp, h6, h8]
  simp only [asAddr, Sem.run_pure, Result.andThen_ok]
  rw [loadVar_ref w _ h hg]
  rfl
set_option maxRecDepth 100000 in
set_option maxHeartbeats 16000000 in
theorem step_any (w0 wS : World) (F : Nat → Prop) (g : Nat) (R : Nat → Prop) (h : RefH) (d : DV) (M : Nat) (what nn mm : Int) (b1 : Option Addr) (b3 : Nat) (l : List Nat) (keep : Int) (reset : Bool) (fa : Option Addr) (fc : Nat) (fs : List Int)
    (k : Pr w0 wS F g R h d M) (hb0 : BytesV w0 (b1, l.length, b3) l) (hf0 : IntsV w0 (fa, fs.length, fc) fs) (hl : l.length ≤ 5000) (hM : M ≤ 900000000) (hmm : mm ≤ 9223372036854775807) (hf8 : fs.length * 8 ≤ 140737488355328) (hwf : ∀ z ∈ fs, -9223372036854775808 ≤ z ∧ z ≤ 9223372036854775807) :
    Calls Try.prog 14 #[.pointer (some ⟨g, 0, none⟩), h.v, .agg #[.int .i64 what, .int .i64 nn, .int .i64 mm, .slice b1 l.length b3, .int .i64 keep, .bool reset, .slice fa fs.length fc]] wS (fun e w' => ∃ F' g' R' h', e = .returned (.tuple #[.pointer (some ⟨g', 0, none⟩), RefH.v h', .bool true]) ∧ Pr w0 w' F' g' R' h' (stepV d what nn mm l keep reset fs).1 (M + 5000) ∧ (∀ q, F' q → F q ∨ wS.heap.size ≤ q) ∧ (∀ q, R' q → R q ∨ wS.heap.size ≤ q) ∧ ChF F wS w') := by
  obtain ⟨OC, hOC⟩ : ∃ o : Array Value, o = #[.int .i64 what, .int .i64 nn, .int .i64 mm, .slice b1 l.length b3, .int .i64 keep, .bool reset, .slice fa fs.length fc] := ⟨_, rfl⟩
  have hFS : ∀ q, F q → q < wS.heap.size := k.a.hi
  have hRS : ∀ q, R q → q < wS.heap.size := k.b.lt
  have B0 := StB.new wS h OC
  have bW : Below wS.heap.size wS (((wS.alloc (.cells h.cells RT)).alloc (.cells OC OT)).alloc (.cells zH.cells RT)) := ((below_alloc wS _).alloc (by simp) _).alloc (by simp; omega) _
  have hzW : (((wS.alloc (.cells h.cells RT)).alloc (.cells OC OT)).alloc (.cells zH.cells RT)).heap.size = wS.heap.size + 3 := by simp
  rw [hOC] at bW B0 hzW
  have HOC := Lib.hid hOC
  have HK := Lib.hid k
  have HBW := Lib.hid bW
  have HZW := Lib.hid hzW
  have hS0 : w0.heap.size ≤ wS.heap.size := k.bel.size
  have HFS := Lib.hid hFS
  have HRS := Lib.hid hRS
  have HBL := Lib.hid hb0
  have HFV := Lib.hid hf0
  obtain ⟨p, ⟨sa1, sa2, sa3⟩, laid, ⟨ba1, ba2, ba3⟩, ⟨mo1, mo2, mo3⟩, ⟨st1, st2, st3⟩, ⟨no1, no2, no3⟩, ⟨fr1, fr2, fr3⟩, op⟩ := h
  unfold RefH.v RefH.cells
  clear k hOC bW hzW hFS hRS hb0 hf0
  go_enter Try.func14, Try.ntmps14
  go_upto_region 3 with fail
  refine (?_ : ∀ W, StB wS W ⟨p, (sa1, sa2, sa3), laid, (ba1, ba2, ba3), (mo1, mo2, mo3), (st1, st2, st3), (no1, no2, no3), (fr1, fr2, fr3), op⟩ OC → Below wS.heap.size wS W → W.heap.size = wS.heap.size + 3 → Code.wp Try.prog _ _ _ W) _ (by rw [HOC.out]; exact B0) HBW.out HZW.out
  intro W BX bW hzW
  clear B0 HBW HZW
  have hoc := BX.f
  rw [HOC.out] at hoc
  obtain ⟨o0, o1, o2, o3, o4, o5, o6⟩ := cells7D hoc
  have KP := HK.out.below bW
  have KC := copyBytes_any b1 l.length b3 l W (HBL.out.below KP.bel)
  have HKP := Lib.hid KP
  have HBX := Lib.hid BX
  have HBW := Lib.hid bW
  have HZW := Lib.hid hzW
  clear hoc KP BX bW hzW
  go_wp2_with fail
  (with_reducible refine KC.mono ?_)
  rintro e wA ⟨a8, c8, rfl, o8, b8⟩
  clear KC o0 o1 o2 o3 o4 o5 o6
  have PA := HKP.out.below b8
  have bxA := HBX.out.below b8
  have hWA : Below wS.heap.size wS wA := below_trans' HBW.out b8
  have chA : ChF F wS wA := .of_below hWA
  have obA : wA.ownsRow (wS.heap.size + 3) 5 1 (.slice a8 l.length c8) l.length (l.map bv) := by rw [← HZW.out]; exact o8
  have hOBV : BytesV wA (a8, l.length, c8) l := bytesV_of_owns o8 HBL.out.bytes (by omega)
  have hap := HKP.out.a.apartN (x := (a8, l.length, c8)) o8
  have hoc := bxA.f
  rw [HOC.out] at hoc
  obtain ⟨o0, o1, o2, o3, o4, o5, o6⟩ := cells7D hoc
  obtain ⟨⟨m0, m1, m2, m3, m4, m5, m6, m7, m8⟩, -⟩ := cells9D bxA.a
  simp only at m0 m1 m2 m3 m4 m5 m6 m7 m8
  have HPA := Lib.hid PA
  have HBXA := Lib.hid bxA
  have HCHA := Lib.hid chA
  have HWA := Lib.hid hWA
  have HOBA : Hid (wA.ownsRow (wS.heap.size + 3) 5 1 (SV (a8, l.length, c8)) l.length (l.map bv)) := Lib.hid obA
  clear PA bxA chA obA o8 b8 hoc HKP HBX hWA
  go_upto_block 0 with fail
  go_cut [0, 9, 10] (fun vd ve vf wx => ∃ F' g' R' h' err, vd = .pointer (some ⟨g', 0, none⟩) ∧ ve = .int .i64 err ∧ vf = .int .i64 err ∧ Hid (PostS w0 wS wA wx F R F' g' R' h' OC (a8, l.length, c8) l (stepV d what nn mm l keep reset fs).1 (M + 5000)))
  case first =>
    by_cases hw1 : what = 1
    · obtain rfl := hw1
      have KA := append_l w0.heap.size F g d a8 l.length c8 l wA HPA.out.a hOBV hap (by have := HPA.out.sz.rd; omega)
      have hsv : stepV d 1 nn mm l keep reset fs = appV d l := by simp [stepV]
      have HSV := Lib.hid hsv
      clear hsv
      go_wp2_with fail
      (with_reducible refine KA.mono ?_)
      rintro e w2 ⟨rfl, F2, D2, hF2, hc2⟩
      clear KA m0 m1 m2 m3 m4 m5 m6 m7 m8 o0 o1 o2 o3 o4 o5 o6
      have RB := HPA.out.ref hc2
      have bx2 := HBXA.out.keep hc2 (fun b e => .inl (HFS.out b e))
      have hoc := bx2.f
      rw [HOC.out] at hoc
      obtain ⟨o0, o1, o2, o3, o4, o5, o6⟩ := cells7D hoc
      obtain ⟨⟨m0, m1, m2, m3, m4, m5, m6, m7, m8⟩, -⟩ := cells9D bx2.a
      simp only at m0 m1 m2 m3 m4 m5 m6 m7 m8
      have hbl2 := HBL.out.below (HPA.out.bel.trans (hc2.below (B := w0.heap.size) HPA.out.a.lo HPA.out.bel.size))
      have KB := refApp_any R ⟨p, (sa1, sa2, sa3), laid, (ba1, ba2, ba3), (mo1, mo2, mo3), (st1, st2, st3), (no1, no2, no3), (fr1, fr2, fr3), op⟩ d b1 l.length b3 l w2 RB hbl2 (by have := HPA.out.sz.rd; omega) HPA.out.sz.pw
      have HBX2 := Lib.hid bx2
      have HD2 := Lib.hid D2
      have HF2 := Lib.hid hF2
      have HC2 := Lib.hid hc2
      clear RB hoc bx2 D2 hF2 hc2 hbl2
      unfold RefH.v RefH.cells at KB
      simp only at KB
      go_wp2_with fail
      (with_reducible refine KB.mono ?_)
      rintro e w3 ⟨h3, rfl, R3, bb3⟩
      clear KB m0 m1 m2 m3 m4 m5 m6 m7 m8 o0 o1 o2 o3 o4 o5 o6
      have HFIN := Lib.hid (PostS.of HPA.out HBXA.out HOBA.out HFS.out HRS.out hS0 HCHA.out HD2.out HF2.out HC2.out R3 bb3 (HPA.out.sz.app hl))
      have bx3 := HBX2.out.below bb3
      clear R3 bb3
      go_wp2_with (first | ((with_reducible show wpList _ _ _ (⟨_, Op.store RT _ _, _, _, _, _⟩ :: _) _ _); refine Hid.out ?_))
      refine Lib.hid ?_
      refine wpList_store_row rfl RT _ _ rfl wS.heap.size h3.cells rfl rfl RT _ bx3.a (by kernel_rfl) rfl (RefH.one _) ?_
      clear bx3
      go_wp2_with fail
      go_meet
      refine ⟨F2, g, Gr R w2 w3, h3, _, rfl, rfl, rfl, ?_⟩
      rw [HSV.out]
      exact HFIN
    by_cases hw2 : what = 2
    · obtain rfl := hw2
      have KA := lay_l w0.heap.size F g d a8 l.length c8 l wA HPA.out.a hOBV hap (by omega)
      have hsv : stepV d 2 nn mm l keep reset fs = layV d l := by simp [stepV]
      have HSV := Lib.hid hsv
      clear hsv
      go_wp2_with fail
      (with_reducible refine KA.mono ?_)
      rintro e w2 ⟨rfl, F2, D2, hF2, hc2⟩
      clear KA m0 m1 m2 m3 m4 m5 m6 m7 m8 o0 o1 o2 o3 o4 o5 o6
      have RB := HPA.out.ref hc2
      have bx2 := HBXA.out.keep hc2 (fun b e => .inl (HFS.out b e))
      have hoc := bx2.f
      rw [HOC.out] at hoc
      obtain ⟨o0, o1, o2, o3, o4, o5, o6⟩ := cells7D hoc
      obtain ⟨⟨m0, m1, m2, m3, m4, m5, m6, m7, m8⟩, -⟩ := cells9D bx2.a
      simp only at m0 m1 m2 m3 m4 m5 m6 m7 m8
      have hbl2 := HBL.out.below (HPA.out.bel.trans (hc2.below (B := w0.heap.size) HPA.out.a.lo HPA.out.bel.size))
      have KB := refLay_any R ⟨p, (sa1, sa2, sa3), laid, (ba1, ba2, ba3), (mo1, mo2, mo3), (st1, st2, st3), (no1, no2, no3), (fr1, fr2, fr3), op⟩ d b1 l.length b3 l w2 RB HPA.out.sz.pw hbl2 (by omega)
      have HBX2 := Lib.hid bx2
      have HD2 := Lib.hid D2
      have HF2 := Lib.hid hF2
      have HC2 := Lib.hid hc2
      clear RB hoc bx2 D2 hF2 hc2 hbl2
      unfold RefH.v RefH.cells at KB
      simp only at KB
      go_wp2_with fail
      (with_reducible refine KB.mono ?_)
      rintro e w3 ⟨h3, rfl, R3, bb3⟩
      clear KB m0 m1 m2 m3 m4 m5 m6 m7 m8 o0 o1 o2 o3 o4 o5 o6
      have HFIN := Lib.hid (PostS.of HPA.out HBXA.out HOBA.out HFS.out HRS.out hS0 HCHA.out HD2.out HF2.out HC2.out R3 bb3 (HPA.out.sz.lay hl))
      have bx3 := HBX2.out.below bb3
      clear R3 bb3
      go_wp2_with (first | ((with_reducible show wpList _ _ _ (⟨_, Op.store RT _ _, _, _, _, _⟩ :: _) _ _); refine Hid.out ?_))
      refine Lib.hid ?_
      refine wpList_store_row rfl RT _ _ rfl wS.heap.size h3.cells rfl rfl RT _ bx3.a (by kernel_rfl) rfl (RefH.one _) ?_
      clear bx3
      go_wp2_with fail
      go_meet
      refine ⟨F2, g, Gr R w2 w3, h3, _, rfl, rfl, rfl, ?_⟩
      rw [HSV.out]
      exact HFIN
    by_cases hw3 : what = 3
    · obtain rfl := hw3
      have KA := sync_l w0.heap.size F g d wA HPA.out.a
      have hsv : stepV d 3 nn mm l keep reset fs = syncV d := by simp [stepV]
      have HSV := Lib.hid hsv
      clear hsv
      go_wp2_with fail
      (with_reducible refine KA.mono ?_)
      rintro e w2 ⟨rfl, F2, D2, hF2, hc2⟩
      clear KA m0 m1 m2 m3 m4 m5 m6 m7 m8 o0 o1 o2 o3 o4 o5 o6
      have RB := HPA.out.ref hc2
      have bx2 := HBXA.out.keep hc2 (fun b e => .inl (HFS.out b e))
      have hoc := bx2.f
      rw [HOC.out] at hoc
      obtain ⟨o0, o1, o2, o3, o4, o5, o6⟩ := cells7D hoc
      obtain ⟨⟨m0, m1, m2, m3, m4, m5, m6, m7, m8⟩, -⟩ := cells9D bx2.a
      simp only at m0 m1 m2 m3 m4 m5 m6 m7 m8
      have hbl2 := HBL.out.below (HPA.out.bel.trans (hc2.below (B := w0.heap.size) HPA.out.a.lo HPA.out.bel.size))
      have KB := refSync_any R ⟨p, (sa1, sa2, sa3), laid, (ba1, ba2, ba3), (mo1, mo2, mo3), (st1, st2, st3), (no1, no2, no3), (fr1, fr2, fr3), op⟩ d w2 RB HPA.out.sz.pw (by have := HPA.out.sz.rd; omega) HPA.out.bytes
      have HBX2 := Lib.hid bx2
      have HD2 := Lib.hid D2
      have HF2 := Lib.hid hF2
      have HC2 := Lib.hid hc2
      clear RB hoc bx2 D2 hF2 hc2 hbl2
      unfold RefH.v RefH.cells at KB
      simp only at KB
      go_wp2_with fail
      (with_reducible refine KB.mono ?_)
      rintro e w3 ⟨h3, rfl, R3, bb3⟩
      clear KB m0 m1 m2 m3 m4 m5 m6 m7 m8 o0 o1 o2 o3 o4 o5 o6
      have HFIN := Lib.hid (PostS.of HPA.out HBXA.out HOBA.out HFS.out HRS.out hS0 HCHA.out HD2.out HF2.out HC2.out R3 bb3 HPA.out.sz.sync)
      have bx3 := HBX2.out.below bb3
      clear R3 bb3
      go_wp2_with (first | ((with_reducible show wpList _ _ _ (⟨_, Op.store RT _ _, _, _, _, _⟩ :: _) _ _); refine Hid.out ?_))
      refine Lib.hid ?_
      refine wpList_store_row rfl RT _ _ rfl wS.heap.size h3.cells rfl rfl RT _ bx3.a (by kernel_rfl) rfl (RefH.one _) ?_
      clear bx3
      go_wp2_with fail
      go_meet
      refine ⟨F2, g, Gr R w2 w3, h3, _, rfl, rfl, rfl, ?_⟩
      rw [HSV.out]
      exact HFIN
    by_cases hw4 : what = 4
    · obtain rfl := hw4
      have KA := write_l w0.heap.size F g d nn a8 l.length c8 l wA HPA.out.a hOBV hap
      have hsv : stepV d 4 nn mm l keep reset fs = writeV d nn l := by simp [stepV]
      have HSV := Lib.hid hsv
      clear hsv
      go_wp2_with fail
      (with_reducible refine KA.mono ?_)
      rintro e w2 ⟨rfl, F2, D2, hF2, hc2⟩
      clear KA m0 m1 m2 m3 m4 m5 m6 m7 m8 o0 o1 o2 o3 o4 o5 o6
      have RB := HPA.out.ref hc2
      have bx2 := HBXA.out.keep hc2 (fun b e => .inl (HFS.out b e))
      have hoc := bx2.f
      rw [HOC.out] at hoc
      obtain ⟨o0, o1, o2, o3, o4, o5, o6⟩ := cells7D hoc
      obtain ⟨⟨m0, m1, m2, m3, m4, m5, m6, m7, m8⟩, -⟩ := cells9D bx2.a
      simp only at m0 m1 m2 m3 m4 m5 m6 m7 m8
      have hbl2 := HBL.out.below (HPA.out.bel.trans (hc2.below (B := w0.heap.size) HPA.out.a.lo HPA.out.bel.size))
      have KB := refWrite_all R ⟨p, (sa1, sa2, sa3), laid, (ba1, ba2, ba3), (mo1, mo2, mo3), (st1, st2, st3), (no1, no2, no3), (fr1, fr2, fr3), op⟩ d nn b1 l.length b3 l w2 RB HPA.out.sz.pw hbl2 (by have := HPA.out.sz.s2; omega)
      have HBX2 := Lib.hid bx2
      have HD2 := Lib.hid D2
      have HF2 := Lib.hid hF2
      have HC2 := Lib.hid hc2
      clear RB hoc bx2 D2 hF2 hc2 hbl2
      unfold RefH.v RefH.cells at KB
      simp only at KB
      go_wp2_with fail
      (with_reducible refine KB.mono ?_)
      rintro e w3 ⟨h3, rfl, R3, bb3⟩
      clear KB m0 m1 m2 m3 m4 m5 m6 m7 m8 o0 o1 o2 o3 o4 o5 o6
      have HFIN := Lib.hid (PostS.of HPA.out HBXA.out HOBA.out HFS.out HRS.out hS0 HCHA.out HD2.out HF2.out HC2.out R3 bb3 HPA.out.sz.write)
      have bx3 := HBX2.out.below bb3
      clear R3 bb3
      go_wp2_with (first | ((with_reducible show wpList _ _ _ (⟨_, Op.store RT _ _, _, _, _, _⟩ :: _) _ _); refine Hid.out ?_))
      refine Lib.hid ?_
      refine wpList_store_row rfl RT _ _ rfl wS.heap.size h3.cells rfl rfl RT _ bx3.a (by kernel_rfl) rfl (RefH.one _) ?_
      clear bx3
      go_wp2_with fail
      go_meet
      refine ⟨F2, g, Gr R w2 w3, h3, _, rfl, rfl, rfl, ?_⟩
      rw [HSV.out]
      exact HFIN
    by_cases hw5 : what = 5
    · obtain rfl := hw5
      have KA := slots_l w0.heap.size F g d wA HPA.out.a
      have hsv : stepV d 5 nn mm l keep reset fs = slotsV d := by simp [stepV]
      have HSV := Lib.hid hsv
      clear hsv
      go_wp2_with fail
      (with_reducible refine KA.mono ?_)
      rintro e w2 ⟨rfl, F2, D2, hF2, hc2⟩
      clear KA m0 m1 m2 m3 m4 m5 m6 m7 m8 o0 o1 o2 o3 o4 o5 o6
      have RB := HPA.out.ref hc2
      have bx2 := HBXA.out.keep hc2 (fun b e => .inl (HFS.out b e))
      have hoc := bx2.f
      rw [HOC.out] at hoc
      obtain ⟨o0, o1, o2, o3, o4, o5, o6⟩ := cells7D hoc
      obtain ⟨⟨m0, m1, m2, m3, m4, m5, m6, m7, m8⟩, -⟩ := cells9D bx2.a
      simp only at m0 m1 m2 m3 m4 m5 m6 m7 m8
      have hbl2 := HBL.out.below (HPA.out.bel.trans (hc2.below (B := w0.heap.size) HPA.out.a.lo HPA.out.bel.size))
      have KB := refSlots_any R ⟨p, (sa1, sa2, sa3), laid, (ba1, ba2, ba3), (mo1, mo2, mo3), (st1, st2, st3), (no1, no2, no3), (fr1, fr2, fr3), op⟩ d w2 RB HPA.out.sz.pw (by have := HPA.out.sz.s2; omega)
      have HBX2 := Lib.hid bx2
      have HD2 := Lib.hid D2
      have HF2 := Lib.hid hF2
      have HC2 := Lib.hid hc2
      clear RB hoc bx2 D2 hF2 hc2 hbl2
      unfold RefH.v RefH.cells at KB
      simp only at KB
      go_wp2_with fail
      (with_reducible refine KB.mono ?_)
      rintro e w3 ⟨h3, rfl, R3, bb3⟩
      clear KB m0 m1 m2 m3 m4 m5 m6 m7 m8 o0 o1 o2 o3 o4 o5 o6
      have HFIN := Lib.hid (PostS.of HPA.out HBXA.out HOBA.out HFS.out HRS.out hS0 HCHA.out HD2.out HF2.out HC2.out R3 bb3 HPA.out.sz.slots)
      have bx3 := HBX2.out.below bb3
      clear R3 bb3
      go_wp2_with (first | ((with_reducible show wpList _ _ _ (⟨_, Op.store RT _ _, _, _, _, _⟩ :: _) _ _); refine Hid.out ?_))
      refine Lib.hid ?_
      refine wpList_store_row rfl RT _ _ rfl wS.heap.size h3.cells rfl rfl RT _ bx3.a (by kernel_rfl) rfl (RefH.one _) ?_
      clear bx3
      go_wp2_with fail
      go_meet
      refine ⟨F2, g, Gr R w2 w3, h3, _, rfl, rfl, rfl, ?_⟩
      rw [HSV.out]
      exact HFIN
    by_cases hw6 : what = 6
    · obtain rfl := hw6
      have KA := rot_l w0.heap.size F g d nn mm wA HPA.out.a hmm
      have hsv : stepV d 6 nn mm l keep reset fs = rotV d nn mm := by simp [stepV]
      have HSV := Lib.hid hsv
      clear hsv
      go_wp2_with fail
      (with_reducible refine KA.mono ?_)
      rintro e w2 ⟨rfl, F2, D2, hF2, hc2⟩
      clear KA m0 m1 m2 m3 m4 m5 m6 m7 m8 o0 o1 o2 o3 o4 o5 o6
      have RB := HPA.out.ref hc2
      have bx2 := HBXA.out.keep hc2 (fun b e => .inl (HFS.out b e))
      have hoc := bx2.f
      rw [HOC.out] at hoc
      obtain ⟨o0, o1, o2, o3, o4, o5, o6⟩ := cells7D hoc
      obtain ⟨⟨m0, m1, m2, m3, m4, m5, m6, m7, m8⟩, -⟩ := cells9D bx2.a
      simp only at m0 m1 m2 m3 m4 m5 m6 m7 m8
      have hbl2 := HBL.out.below (HPA.out.bel.trans (hc2.below (B := w0.heap.size) HPA.out.a.lo HPA.out.bel.size))
      have KB := refRot_all R ⟨p, (sa1, sa2, sa3), laid, (ba1, ba2, ba3), (mo1, mo2, mo3), (st1, st2, st3), (no1, no2, no3), (fr1, fr2, fr3), op⟩ d nn mm w2 RB hmm (by have := HPA.out.sz.s2; omega)
      have HBX2 := Lib.hid bx2
      have HD2 := Lib.hid D2
      have HF2 := Lib.hid hF2
      have HC2 := Lib.hid hc2
      clear RB hoc bx2 D2 hF2 hc2 hbl2
      unfold RefH.v RefH.cells at KB
      simp only at KB
      go_wp2_with fail
      (with_reducible refine KB.mono ?_)
      rintro e w3 ⟨h3, rfl, R3, bb3⟩
      clear KB m0 m1 m2 m3 m4 m5 m6 m7 m8 o0 o1 o2 o3 o4 o5 o6
      have HFIN := Lib.hid (PostS.of HPA.out HBXA.out HOBA.out HFS.out HRS.out hS0 HCHA.out HD2.out HF2.out HC2.out R3 bb3 HPA.out.sz.rot)
      have bx3 := HBX2.out.below bb3
      clear R3 bb3
      go_wp2_with (first | ((with_reducible show wpList _ _ _ (⟨_, Op.store RT _ _, _, _, _, _⟩ :: _) _ _); refine Hid.out ?_))
      refine Lib.hid ?_
      refine wpList_store_row rfl RT _ _ rfl wS.heap.size h3.cells rfl rfl RT _ bx3.a (by kernel_rfl) rfl (RefH.one _) ?_
      clear bx3
      go_wp2_with fail
      go_meet
      refine ⟨F2, g, Gr R w2 w3, h3, _, rfl, rfl, rfl, ?_⟩
      rw [HSV.out]
      exact HFIN
    by_cases hw7 : what = 7
    · obtain rfl := hw7
      have hsv : stepV d 7 nn mm l keep reset fs = (leftV d keep reset fs mm, 0) := by simp [stepV]
      have HSV := Lib.hid hsv
      clear hsv
      have hlt0 := HBXA.out.sz
      have HK4 := Lib.hid (show ∀ w5, Below wA.heap.size wA w5 → w5.cell? ⟨wS.heap.size + 1, 2, none⟩ = some (.int .i64 mm) ∧ w5.cell? ⟨wS.heap.size + 1, 4, none⟩ = some (.int .i64 keep) ∧ w5.cell? ⟨wS.heap.size + 1, 5, none⟩ = some (.bool reset) ∧ w5.cell? ⟨wS.heap.size + 1, 6, none⟩ = some (.slice fa fs.length fc) from fun w5 b5 => ⟨(b5.cell (p := ⟨wS.heap.size + 1, 2, none⟩) (by show wS.heap.size + 1 < wA.heap.size; omega)).trans o2, (b5.cell (p := ⟨wS.heap.size + 1, 4, none⟩) (by show wS.heap.size + 1 < wA.heap.size; omega)).trans o4, (b5.cell (p := ⟨wS.heap.size + 1, 5, none⟩) (by show wS.heap.size + 1 < wA.heap.size; omega)).trans o5, (b5.cell (p := ⟨wS.heap.size + 1, 6, none⟩) (by show wS.heap.size + 1 < wA.heap.size; omega)).trans o6⟩)
      have P4 := HK4.out wA (Below.refl _ _)
      have bcd : Below wA.heap.size wA wA.drew := ⟨rfl, rfl, rfl, Nat.le_refl _, fun _ _ => rfl⟩
      have KF := Lib.hid (copyFate_any keep reset fa fs.length fc fs wA.drew ((HFV.out.below HPA.out.bel).below bcd) hf8)
      have KL := Lib.hid (fun (w2 : World) (b2 : Below wA.heap.size wA w2) fa' fc' (of : w2.ownsRow wA.heap.size 3 1 (.slice fa' fs.length fc') fs.length (fs.map iv)) => left_l w0.heap.size F g d keep reset fa' fs.length fc' fs mm w2 (HPA.out.a.below b2) (intsV_owns of (by omega)) hmm (by have := HPA.out.sz.s2; omega) (by have := HPA.out.sz.sf; omega) hwf)
      clear o0 o1 o2 o3 o4 o5 o6 m0 m1 m2 m3 m4 m5 m6 m7 m8
      go_wp2_with fail
      go_region_held3 (fun w' => w'.cell? ⟨wS.heap.size + 1, 2, none⟩ = some (.int .i64 mm) ∧ w'.cell? ⟨wS.heap.size + 1, 4, none⟩ = some (.int .i64 keep) ∧ w'.cell? ⟨wS.heap.size + 1, 5, none⟩ = some (.bool reset) ∧ w'.cell? ⟨wS.heap.size + 1, 6, none⟩ = some (.slice fa fs.length fc)) (first | exact P4 | exact P5 | exact P7 | go_keep)
        (first
          | (go_at_call 16; (with_reducible refine KF.out.mono ?_); rintro e w2 ⟨fa', fc', rfl, of, b2e⟩; have b2 : Below wA.heap.size wA w2 := ⟨b2e.os, b2e.tape, b2e.output, b2e.size, b2e.block⟩; have P5 := HK4.out w2 b2; have KL2 := Lib.hid (KL.out w2 b2 fa' fc' of); have HB2 := Lib.hid b2; clear of b2e b2)
          | (go_at_call 17; (with_reducible refine KL2.out.mono ?_); rintro e w3 ⟨g2, F2, rfl, D2, hF2, bb3⟩; have P7 := HK4.out w3 (below_trans' HB2.out bb3); have HD2 := Lib.hid D2; have HF2 := Lib.hid hF2; have HB3 := Lib.hid bb3; clear D2 hF2 bb3))
      have b3 := below_trans' HB2.out HB3.out
      have bx3 := HBXA.out.below b3
      have RB := HPA.out.b.below b3
      obtain ⟨⟨m0, m1, m2, m3, m4, m5, m6, m7, m8⟩, -⟩ := cells9D bx3.a
      simp only at m0 m1 m2 m3 m4 m5 m6 m7 m8
      obtain ⟨o2, o4, o5, o6⟩ := P7
      have hsm : (logS d.safe d.read d.base d.laid keep reset).length ≤ 1000000000 := by
        have q := logS_len d.safe d.read d.base d.laid keep reset
        have := HPA.out.sz.rd
        have := HPA.out.sz.sf
        omega
      have KB := refLeft_any R ⟨p, (sa1, sa2, sa3), laid, (ba1, ba2, ba3), (mo1, mo2, mo3), (st1, st2, st3), (no1, no2, no3), (fr1, fr2, fr3), op⟩ d keep reset fa fs.length fc fs mm w3 RB ((HFV.out.below HPA.out.bel).below b3) HPA.out.sz.s1 HPA.out.sz.s2 hsm
      have HBX3 := Lib.hid bx3
      have HC3 := Lib.hid (show ChF F wA w3 from .of_below b3)
      have HFF := Lib.hid (show ∀ q, F2 q → F q ∨ wA.heap.size ≤ q from fun q hq => .inr (by have := HF2.out q hq; have := HB2.out.size; omega))
      have HZ3 := Lib.hid b3.size
      clear RB bx3 b3 hsm P4 P5
      unfold RefH.v RefH.cells at KB
      simp only at KB
      go_wp2_with fail
      (with_reducible refine KB.mono ?_)
      rintro e w4 ⟨h3, rfl, R3, bb4⟩
      clear KB m0 m1 m2 m3 m4 m5 m6 m7 m8 o2 o4 o5 o6
      have R4 : RefD w4 (Gr R w3 w4) h3 (leftV d keep reset fs mm) := R3.mono (fun b q => .inr q) (fun b q => by
        rcases q with q | q
        · have := HRS.out b q; have := bb4.size; have := HZ3.out; omega
        · exact q.2)
      have HFIN := Lib.hid (PostS.of HPA.out HBXA.out HOBA.out HFS.out HRS.out hS0 HCHA.out HD2.out HFF.out HC3.out R4 bb4 (HPA.out.sz.left hmm))
      have bx4 := HBX3.out.below bb4
      clear R3 R4 bb4
      go_wp2_with (first | ((with_reducible show wpList _ _ _ (⟨_, Op.store RT _ _, _, _, _, _⟩ :: _) _ _); refine Hid.out ?_))
      refine Lib.hid ?_
      refine wpList_store_row rfl RT _ _ rfl wS.heap.size h3.cells rfl rfl RT _ bx4.a (by kernel_rfl) rfl (RefH.one _) ?_
      clear bx4
      go_wp2_with fail
      go_meet
      refine ⟨F2, g2, Gr R w3 w4, h3, 0, rfl, rfl, rfl, ?_⟩
      rw [HSV.out]
      exact HFIN
    · have hsv : stepV d what nn mm l keep reset fs = (d, 0) := by simp [stepV, hw1, hw2, hw3, hw4, hw5, hw6, hw7]
      have HSV := Lib.hid hsv
      clear hsv
      have HP := Lib.hid (show PostS w0 wS wA wA F R F g R ⟨p, (sa1, sa2, sa3), laid, (ba1, ba2, ba3), (mo1, mo2, mo3), (st1, st2, st3), (no1, no2, no3), (fr1, fr2, fr3), op⟩ OC (a8, l.length, c8) l d (M + 5000) from
        ⟨⟨HPA.out.a, HPA.out.b, HPA.out.ap, HPA.out.lo, HPA.out.bel, HPA.out.sz.mono (by omega)⟩, HBXA.out, HOBA.out, fun q hq => (HOBA.out.lt q hq).2, fun q hq => .inl hq, fun q hq => .inl hq, HCHA.out⟩)
      go_wp2_with fail
      go_meet
      refine ⟨F, g, R, ⟨p, (sa1, sa2, sa3), laid, (ba1, ba2, ba3), (mo1, mo2, mo3), (st1, st2, st3), (no1, no2, no3), (fr1, fr2, fr3), op⟩, 0, rfl, rfl, rfl, ?_⟩
      rw [HSV.out]
      exact HP
  case rest =>
    rename World => wx
    obtain ⟨F', g', R', h', err, rfl, rfl, rfl, hP⟩ := hcut
    have HI8 := Lib.hid (show ∃ L, ByF wx (fun _ => True) (a8, l.length, c8) L ∧ L.length = l.length from ⟨l, ⟨own_zero hP.out.ob, rfl, HBL.out.bytes, by omega, fun _ _ => trivial⟩, rfl⟩)
    clear o0 o1 o2 o3 o4 o5 o6 m0 m1 m2 m3 m4 m5 m6 m7 m8 hap hOBV
    go_wp2_with fail
    go_loopw [12] (fun i wr => ∃ k : Nat, k ≤ l.length ∧ i = .int .i64 k ∧ Hid (∃ L, ByF wr (fun _ => True) (a8, l.length, c8) L ∧ L.length = l.length) ∧ Hid (ChF (fun q => (SV (a8, l.length, c8)).ownBlock = some q) wx wr)) (fun i _ => l.length - (intOf i).toNat)
    case atStart => exact ⟨0, Nat.zero_le _, rfl, HI8, Lib.hid (ChF.refl _ _)⟩
    case round =>
      clear HI8
      obtain ⟨k, hk, rfl, hI, hG⟩ := hrel
      by_cases hlt : k < l.length
      · obtain ⟨LL, hL, hLl⟩ := hI.out
        obtain ⟨xb, e8, q1, q2, q3, q4, q5, -⟩ := hL.cell (j := k) (by rw [hLl]; exact hlt)
        simp only at e8 q1 q2
        subst e8
        rw [hLl] at q1
        have f3 := q4 k
        obtain ⟨y, hy⟩ : ∃ y, y = LL.getD k 0 := ⟨_, rfl⟩
        rw [← hy] at q3
        have hy8 : y < 256 := by rw [hy]; exact hL.bytes.getD k
        have hxr : bits .xor .u8 (y : Int) 255 = ((y ^^^ 255 : Nat) : Int) := u8_xor_nat y 255 hy8 (by omega)
        obtain ⟨z, hz⟩ : ∃ z, z = y ^^^ 255 := ⟨_, rfl⟩
        rw [← hz] at hxr
        have hz8 : z < 256 := by rw [hz]; exact Nat.xor_lt_two_pow (n := 8) hy8 (by decide)
        have hI' := Lib.hid (show ∃ L, ByF (wr.setCell ⟨xb, k, none⟩ (.int .u8 (z : Nat))) (fun _ => True) (some ⟨xb, 0, none⟩, l.length, c8) L ∧ L.length = l.length from ⟨LL.set k z, ByF.poke (yb := xb) (j := k) hL rfl hz8, by simpa using hLl⟩)
        have hG' := Lib.hid (hG.out.set (g := xb) (i := k) (v := .int .u8 (z : Nat)) (.inl (show (SV (some ⟨xb, 0, none⟩, l.length, c8)).ownBlock = some xb from rfl)))
        have hkI : (k : Int) < ((l.length : Nat) : Int) := by omega
        clear hy hz hI hG hL q4 hy8 hz8
        go_wp2
        go_roundw
        case rel => exact ⟨k + 1, by omega, by go_num, hI', hG'⟩
        case measure => simp [intOf]; omega
      · obtain rfl : k = l.length := by omega
        clear hlt hk hI
        have hXS := fun q e => (hP.out.ob.lt q e).1
        have hX1 : ∀ q, F' q → ¬ (SV (a8, l.length, c8)).ownBlock = some q := fun q hq e => by
          have q1 := hXS q e
          have q2 := hP.out.hx q e
          rcases hP.out.hF q hq with q3 | q3
          · have := HFS.out q q3; omega
          · omega
        have hX2 : ∀ q, R' q → ¬ (SV (a8, l.length, c8)).ownBlock = some q := fun q hq e => by
          have q1 := hXS q e
          have q2 := hP.out.hx q e
          rcases hP.out.hR q hq with q3 | q3
          · have := HRS.out q q3; omega
          · omega
        have P9 := hP.out.p.chF hG.out hX1 hX2 (fun q e => by have := hXS q e; omega)
        have bx9 := hP.out.bx.keep hG.out (fun q e => .inr (hXS q e))
        have ch9 : ChF F wS wr := hP.out.ch.trans hG.out (fun q e => .inr (by have := hXS q e; omega))
        have hF9 : ∀ q, F' q → F q ∨ wS.heap.size ≤ q := fun q hq => (hP.out.hF q hq).imp id (fun e => by have := HWA.out.size; omega)
        have hR9 : ∀ q, R' q → R q ∨ wS.heap.size ≤ q := fun q hq => (hP.out.hR q hq).imp id (fun e => by have := HWA.out.size; omega)
        have hX3 : ∀ q, F' q → q ≠ wS.heap.size + 2 := fun q hq e => by
          have := HBXA.out.sz
          rcases hP.out.hF q hq with q3 | q3
          · have := HFS.out q q3; omega
          · omega
        have hX4 : ∀ q, R' q → q ≠ wS.heap.size + 2 := fun q hq e => by
          have := HBXA.out.sz
          rcases hP.out.hR q hq with q3 | q3
          · have := HRS.out q q3; omega
          · omega
        have HX3 := Lib.hid hX3
        have HX4 := Lib.hid hX4
        have HP9 := Lib.hid P9
        have HBX9 := Lib.hid bx9
        have HC9 := Lib.hid ch9
        have HF9 := Lib.hid hF9
        have HR9 := Lib.hid hR9
        obtain ⟨⟨m0, m1, m2, m3, m4, m5, m6, m7, m8⟩, mF⟩ := cells9D bx9.a
        obtain ⟨⟨r0, r1, r2, r3, r4, r5, r6, r7, r8⟩, rF⟩ := cells9D bx9.r
        obtain ⟨p', ⟨sa1', sa2', sa3'⟩, laid', ⟨ba1', ba2', ba3'⟩, ⟨mo1', mo2', mo3'⟩, ⟨st1', st2', st3'⟩, ⟨no1', no2', no3'⟩, ⟨fr1', fr2', fr3'⟩, op'⟩ := h'
        simp only at m0 m1 m2 m3 m4 m5 m6 m7 m8
        clear P9 bx9 ch9 hF9 hR9 hX1 hX2 hX3 hX4 hXS hP hG
        go_wp2_with fail
        have P0 : wr.cell? ⟨wS.heap.size, 0, none⟩ = some (.int .i64 p') ∧ wr.cell? ⟨wS.heap.size, 1, none⟩ = some (.slice sa1' sa2' sa3') ∧ wr.cell? ⟨wS.heap.size, 2, none⟩ = some (.bool laid') ∧ wr.cell? ⟨wS.heap.size, 3, none⟩ = some (.slice ba1' ba2' ba3') ∧ wr.cell? ⟨wS.heap.size, 4, none⟩ = some (.slice mo1' mo2' mo3') ∧ wr.cell? ⟨wS.heap.size, 5, none⟩ = some (.slice st1' st2' st3') ∧ wr.cell? ⟨wS.heap.size, 6, none⟩ = some (.slice no1' no2' no3') ∧ wr.cell? ⟨wS.heap.size, 7, none⟩ = some (.slice fr1' fr2' fr3') ∧ wr.cell? ⟨wS.heap.size, 8, none⟩ = some (.bool op') := ⟨m0, m1, m2, m3, m4, m5, m6, m7, m8⟩
        refine wp_region_noPanic ?_
        refine GoX.start 11 (fun w' => w'.cell? ⟨wS.heap.size, 0, none⟩ = some (.int .i64 p') ∧ w'.cell? ⟨wS.heap.size, 1, none⟩ = some (.slice sa1' sa2' sa3') ∧ w'.cell? ⟨wS.heap.size, 2, none⟩ = some (.bool laid') ∧ w'.cell? ⟨wS.heap.size, 3, none⟩ = some (.slice ba1' ba2' ba3') ∧ w'.cell? ⟨wS.heap.size, 4, none⟩ = some (.slice mo1' mo2' mo3') ∧ w'.cell? ⟨wS.heap.size, 5, none⟩ = some (.slice st1' st2' st3') ∧ w'.cell? ⟨wS.heap.size, 6, none⟩ = some (.slice no1' no2' no3') ∧ w'.cell? ⟨wS.heap.size, 7, none⟩ = some (.slice fr1' fr2' fr3') ∧ w'.cell? ⟨wS.heap.size, 8, none⟩ = some (.bool op')) (by kernel_rfl) ?_
        refine GoX.take 0 rfl (by kernel_rfl) (by kernel_rfl) (by rfl) (fun _ _ _ h => h) (v := ?tv0) P0 ?ty0 ?tr0
        case ty0 => (intro w hSw; (try dsimp only at hSw); go_simp; first | done | with_reducible rfl)
        simp only [Act.put, List.setIfInBounds_toArray, List.set_cons_zero, List.set_cons_succ]
        refine GoX.take 1 rfl (by kernel_rfl) (by kernel_rfl) (by rfl) (fun _ _ _ h => h) (v := ?tv1) P0 ?ty1 ?tr1
        case ty1 => (intro w hSw; (try dsimp only at hSw); go_simp; first | done | with_reducible rfl)
        simp only [Act.put, List.setIfInBounds_toArray, List.set_cons_zero, List.set_cons_succ]
        refine GoX.take 2 rfl (by kernel_rfl) (by kernel_rfl) (by rfl) (fun _ _ _ h => h) (v := ?tv2) P0 ?ty2 ?tr2
        case ty2 => (intro w hSw; (try dsimp only at hSw); go_simp; first | done | with_reducible rfl)
        simp only [Act.put, List.setIfInBounds_toArray, List.set_cons_zero, List.set_cons_succ]
        refine GoX.take 3 rfl (by kernel_rfl) (by kernel_rfl) (by rfl) (fun _ _ _ h => h) (v := ?tv3) P0 ?ty3 ?tr3
        case ty3 => (intro w hSw; (try dsimp only at hSw); go_simp; first | done | with_reducible rfl)
        simp only [Act.put, List.setIfInBounds_toArray, List.set_cons_zero, List.set_cons_succ]
        refine GoX.take 4 rfl (by kernel_rfl) (by kernel_rfl) (by rfl) (fun _ _ _ h => h) (v := ?tv4) P0 ?ty4 ?tr4
        case ty4 => (intro w hSw; (try dsimp only at hSw); go_simp; first | done | with_reducible rfl)
        simp only [Act.put, List.setIfInBounds_toArray, List.set_cons_zero, List.set_cons_succ]
        refine GoX.take 5 rfl (by kernel_rfl) (by kernel_rfl) (by rfl) (fun _ _ _ h => h) (v := ?tv5) P0 ?ty5 ?tr5
        case ty5 => (intro w hSw; (try dsimp only at hSw); go_simp; first | done | with_reducible rfl)
        simp only [Act.put, List.setIfInBounds_toArray, List.set_cons_zero, List.set_cons_succ]
        refine GoX.take 6 rfl (by kernel_rfl) (by kernel_rfl) (by rfl) (fun _ _ _ h => h) (v := ?tv6) P0 ?ty6 ?tr6
        case ty6 => (intro w hSw; (try dsimp only at hSw); go_simp; first | done | with_reducible rfl)
        simp only [Act.put, List.setIfInBounds_toArray, List.set_cons_zero, List.set_cons_succ]
        refine GoX.take 7 rfl (by kernel_rfl) (by kernel_rfl) (by rfl) (fun _ _ _ h => h) (v := ?tv7) P0 ?ty7 ?tr7
        case ty7 => (intro w hSw; (try dsimp only at hSw); go_simp; first | done | with_reducible rfl)
        simp only [Act.put, List.setIfInBounds_toArray, List.set_cons_zero, List.set_cons_succ]
        refine GoX.take 8 rfl (by kernel_rfl) (by kernel_rfl) (by rfl) (fun _ _ _ h => h) (v := ?tv8) P0 ?ty8 ?tr8
        case ty8 => (intro w hSw; (try dsimp only at hSw); go_simp; first | done | with_reducible rfl)
        simp only [Act.put, List.setIfInBounds_toArray, List.set_cons_zero, List.set_cons_succ]
        refine GoX.take 9 rfl (by kernel_rfl) (by kernel_rfl) (by rfl) (fun _ _ _ h => h) (v := ?tv9) P0 ?ty9 ?tr9
        case ty9 => (intro w hSw; (try dsimp only at hSw); go_simp; first | done | with_reducible rfl)
        simp only [Act.put, List.setIfInBounds_toArray, List.set_cons_zero, List.set_cons_succ]
        have bR : wr.drew.heap[wS.heap.size + 2]? = some (.cells zH.cells RT (0, 0)) := HBX9.out.r
        have cR : ChF (fun b => b = wS.heap.size + 2) wr (wr.drew.setRow (wS.heap.size + 2) (RefH.mk p' (sa1', sa2', sa3') laid' (ba1', ba2', ba3') (mo1', mo2', mo3') (st1', st2', st3') (no1', no2', no3') (fr1', fr2', fr3') op').cells) := ((ChF.refl (fun b => b = wS.heap.size + 2) wr).drew).trans (chF_setRow (w := wr.drew) (F := fun b => b = wS.heap.size + 2) rfl _) (fun _ e => .inl e)
        have eA := (cR.block wS.heap.size (by have := HBX9.out.sz; omega) (by omega)).trans HBX9.out.a
        have P10 := (cells9D eA).1
        simp only at P10
        refine GoX.one 10 rfl (by kernel_rfl) (by decide) (fun K hK => ?_)
        rw [if_pos (by rfl)]
        refine wp_store_row RT (.tmp 7) (.tmp 121) rfl (wS.heap.size + 2) (RefH.mk p' (sa1', sa2', sa3') laid' (ba1', ba2', ba3') (mo1', mo2', mo3') (st1', st2', st3') (no1', no2', no3') (fr1', fr2', fr3') op').cells (by rfl) (by rfl) RT _ bR (by kernel_rfl) rfl (RefH.one _) ?_
        refine hK.out _ _ P10 (fun _ => ?_)
        clear hK K
        simp only [Act.put]
        refine GoX.last 11 rfl (by kernel_rfl) (by kernel_rfl) (by decide) ?_
        rw [if_pos (by rfl)]
        go_simp
        refine NoPanic.normal ?_
        go_wp2_with fail
        refine bodyPost_ret (results_step rfl _ (wS.heap.size + 2) ⟨p', (sa1', sa2', sa3'), laid', (ba1', ba2', ba3'), (mo1', mo2', mo3'), (st1', st2', st3'), (no1', no2', no3'), (fr1', fr2', fr3'), op'⟩ (setRow_same bR) _ _ _ rfl rfl rfl) rfl ⟨F', g', R', ⟨p', (sa1', sa2', sa3'), laid', (ba1', ba2', ba3'), (mo1', mo2', mo3'), (st1', st2', st3'), (no1', no2', no3'), (fr1', fr2', fr3'), op'⟩, rfl, HP9.out.chF cR HX3.out HX4.out (fun q e => by omega), HF9.out, HR9.out, HC9.out.trans cR (fun q e => .inr (by omega))⟩
end Go.Proofs.Ytdidalcflkphnaa
