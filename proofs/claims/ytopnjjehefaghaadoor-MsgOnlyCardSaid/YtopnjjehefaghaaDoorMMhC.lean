/-
  rillref11's scan: a meta. A scan's box and another one that is filled, part by part.
-/
import Derived.Test.YtopnjjehefaghaaDoorMMhB
namespace Go.Proofs.YtopnjjehefaghaaDoor
open Go.RowKit

/-- box bs is a scan over what is left; box bm, of type T, is being filled; all else of W0 stays. -/
structure SS (u W0 W : World) (bs bm : Nat) (T : TypeId) (s : Sd) (cs : Array Value) : Prop where
  k : KeepR (fun k => k = bs ∨ k = bm) W0 W
  s : ∃ ad n c, BytesV u (ad, n, c) s.l ∧ W.heap[bs]? = some (.cells #[.slice ad n c, .bool s.bad] SC2 (0, 0))
  m : W.heap[bm]? = some (.cells cs T (0, 0))
  us : u.heap.size ≤ bs
  um : u.heap.size ≤ bm
  ne : bs ≠ bm
  s0 : bs < W0.heap.size
  m0 : bm < W0.heap.size
  bu : Below u.heap.size u W0
theorem SS.bel {u W0 W : World} {bs bm : Nat} {T : TypeId} {s : Sd} {cs : Array Value} (h : SS u W0 W bs bm T s cs) : Below u.heap.size u W :=
  ⟨h.k.os.trans h.bu.os, h.k.tape.trans h.bu.tape, h.k.output.trans h.bu.output, Nat.le_trans h.bu.size h.k.size, fun i hi => (h.k.block i (Nat.lt_of_lt_of_le hi h.bu.size) (by have := h.us; have := h.um; rintro (e | e) <;> omega)).trans (h.bu.block i hi)⟩
theorem KeepR.below {X : Nat → Prop} {a b c : World} (h : KeepR X a b) (k : Below b.heap.size b c) : KeepR X a c := h.trans (KeepR.of_below k)
theorem SS.on {u W0 W W1 : World} {bs bm : Nat} {T : TypeId} {s : Sd} {cs : Array Value} (h : SS u W0 W bs bm T s cs) (hb : Below W.heap.size W W1) : SS u W0 W1 bs bm T s cs := by
  obtain ⟨ad, n, c, h1, h2⟩ := h.s
  exact ⟨h.k.below hb, ⟨ad, n, c, h1, (hb.block bs (Array.getElem?_eq_some_iff.1 h2).1).trans h2⟩, (hb.block bm (Array.getElem?_eq_some_iff.1 h.m).1).trans h.m, h.us, h.um, h.ne, h.s0, h.m0, h.bu⟩
theorem KeepR.set {X : Nat → Prop} {a b : World} (h : KeepR X a b) {g : Nat} (hg : X g) (j : Nat) (v : Value) : KeepR X a (b.setCell ⟨g, j, none⟩ v) :=
  ⟨h.os, h.tape, h.output, by simpa [World.setCell] using h.size, fun k hk hn => (heap_setCell_other b ⟨g, j, none⟩ k v (fun e => hn (by rw [show k = g from e]; exact hg))).trans (h.block k hk hn)⟩
theorem SS.scan {u W0 W W1 : World} {bs bm : Nat} {T : TypeId} {s s' : Sd} {cs : Array Value} (h : SS u W0 W bs bm T s cs) (hb : Below W.heap.size W W1) {a : Option Addr} {n c : Nat} (hy : BytesV u (a, n, c) s'.l) : SS u W0 ((W1.setCell ⟨bs, 0, none⟩ (.slice a n c)).setCell ⟨bs, 1, none⟩ (.bool s'.bad)) bs bm T s' cs := by
  have h1 := h.on hb
  obtain ⟨ad, n', c', -, h2⟩ := h1.s
  exact ⟨(h1.k.set (.inl rfl) 0 _).set (.inl rfl) 1 _, ⟨a, n, c, hy, set2M _ _ h2⟩, (heap_setCell_other _ ⟨bs, 1, none⟩ bm _ (by simp only; exact fun e => h.ne e.symm)).trans ((heap_setCell_other W1 ⟨bs, 0, none⟩ bm _ (by simp only; exact fun e => h.ne e.symm)).trans h1.m), h.us, h.um, h.ne, h.s0, h.m0, h.bu⟩
theorem SS.put {u W0 W : World} {bs bm : Nat} {T : TypeId} {s : Sd} {cs cs' : Array Value} (h : SS u W0 W bs bm T s cs) (j : Nat) (v : Value) (hcs : cs.setIfInBounds j v = cs') : SS u W0 (W.setCell ⟨bm, j, none⟩ v) bs bm T s cs' := by
  obtain ⟨ad, n', c', h1, h2⟩ := h.s
  subst hcs
  exact ⟨h.k.set (.inr rfl) j v, ⟨ad, n', c', h1, (heap_setCell_other W ⟨bm, j, none⟩ bs v (by simp only; exact h.ne)).trans h2⟩, heap_setCell_same W bm j cs T v h.m, h.us, h.um, h.ne, h.s0, h.m0, h.bu⟩
theorem results_scan_meta {fn : Func} {p r : Tmp} (hf : fn.results = #[.cell p SC2, .cell r MT6]) {w : World} {g k : Nat} {cs ds : Array Value} (h1 : w.heap[g]? = some (.cells cs SC2 (0, 0))) (h2 : w.heap[k]? = some (.cells ds MT6 (0, 0))) (s1 : cs.size = 2) (s2 : ds.size = 6) (tmps : Array Value) (hp : tmps.getD p undef = .pointer (some ⟨g, 0, none⟩)) (hr : tmps.getD r undef = .pointer (some ⟨k, 0, none⟩)) : (results fn tmps).run Tryd.prog w = .ok (.tuple #[.agg cs, .agg ds]) w := by
  have e1 := run_loadVar_row (P := Tryd.prog) w g SC2 SC2 cs (0, 0) _ h1 Tryd.underlying68 rfl (by rw [s1]; kernel_rfl)
  have e2 := run_loadVar_row (P := Tryd.prog) w k MT6 MT6 ds (0, 0) _ h2 Tryd.underlying26 rfl (by rw [s2]; kernel_rfl)
  rw [Array.getD_eq_getD_getElem?] at hp hr
  simp only [results, hf]
  simp [Sem.run_bind, Result.andThen, asAddr, hp, hr, e1, e2]
set_option maxRecDepth 100000 in
set_option maxHeartbeats 16000000 in
theorem rmeta11_any (ad : Option Addr) (n c : Nat) (s : Sd) (u w : World) (hu : Below u.heap.size u w) (h : BytesV u (ad, n, c) s.l) :
    Calls Tryd.prog 40 #[.agg #[.slice ad n c, .bool s.bad]] w fun e w' => ∃ a' n' c' ta tc, e = .returned (.tuple #[.agg #[.slice a' n' c', .bool s.meta.bad], .agg (MC s.metaV (ta, s.metaV.l.length, tc))]) ∧ BytesV u (a', n', c') s.meta.l ∧ w'.ownsRow w.heap.size 5 1 (.slice ta s.metaV.l.length tc) s.metaV.l.length (s.metaV.l.map bv) ∧ Bytes s.metaV.l ∧ s.metaV.l.length ≤ 255 ∧ Below w.heap.size w w' := by
  obtain ⟨b, hb⟩ : ∃ b, b = w.heap.size := ⟨_, rfl⟩
  obtain ⟨w1, hw1⟩ : ∃ x, x = w.alloc (.cells #[.slice ad n c, .bool s.bad] SC2) := ⟨_, rfl⟩
  have hs1 : w1.heap.size = b + 1 := by rw [hw1, hb]; simp
  obtain ⟨w2, hw2⟩ : ∃ x, x = w1.alloc (.cells #[.slice none 0 0, .bool false] SC2) := ⟨_, rfl⟩
  have hs2 : w2.heap.size = b + 2 := by rw [hw2]; simp [hs1]
  obtain ⟨w3, hw3⟩ : ∃ x, x = w2.alloc (.cells Z6 MT6) := ⟨_, rfl⟩
  have hs3 : w3.heap.size = b + 3 := by rw [hw3]; simp [hs2]
  obtain ⟨w4, hw4⟩ : ∃ x, x = w3.alloc (.cells Z6 MT6) := ⟨_, rfl⟩
  have hs4 : w4.heap.size = b + 4 := by rw [hw4]; simp [hs3]
  have k1 : w4.heap[b]? = some (.cells #[.slice ad n c, .bool s.bad] SC2 (0, 0)) := by rw [hw4, heap_alloc_old _ _ (by omega), hw3, heap_alloc_old _ _ (by omega), hw2, heap_alloc_old _ _ (by omega), hw1, hb]; exact heap_alloc_new w _
  have k2 : w4.heap[b + 1]? = some (.cells #[.slice none 0 0, .bool false] SC2 (0, 0)) := by rw [hw4, heap_alloc_old _ _ (by omega), hw3, heap_alloc_old _ _ (by omega), hw2, ← hs1]; exact heap_alloc_new w1 _
  have k3 : w4.heap[b + 2]? = some (.cells Z6 MT6 (0, 0)) := by rw [hw4, heap_alloc_old _ _ (by omega), hw3, ← hs2]; exact heap_alloc_new w2 _
  have k4 : w4.heap[b + 3]? = some (.cells Z6 MT6 (0, 0)) := by rw [hw4, ← hs3]; exact heap_alloc_new w3 _
  have hb4 : Below w.heap.size w w4 := by rw [hw4, hw3, hw2, hw1]; exact (((below_alloc w _).trans ((below_alloc _ _).mono (by simp))).trans ((below_alloc _ _).mono (by simp; omega))).trans ((below_alloc _ _).mono (by simp; omega))
  have hus := hu.size
  have h0 : SS u w4 w4 b (b + 3) MT6 s Z6 := ⟨KeepR.refl _ _, ⟨ad, n, c, h, k1⟩, k4, by omega, by omega, by omega, by omega, by omega, hu.trans (hb4.mono hus)⟩
  have HW1 := Lib.hid hw1
  have HW2 := Lib.hid hw2
  have HW3 := Lib.hid hw3
  have HW4 := Lib.hid hw4
  have HBB := Lib.hid hb
  have H0 := Lib.hid h0
  have K2 := Lib.hid k2
  have K3 := Lib.hid k3
  have HB4 := Lib.hid hb4
  have hbw1 : w.heap.size ≤ b := Nat.le_of_eq hb.symm
  have hz4 : b + 4 ≤ w4.heap.size := Nat.le_of_eq hs4.symm
  clear hb hw1 hs1 hw2 hs2 hw3 hs3 hw4 hs4 k1 k2 k3 k4 hb4 h0 hu h hus
  go_enter Tryd.func40, Tryd.ntmps40
  go_upto_region 2 with fail
  rw [← HBB.out, ← HW1.out, ← HW2.out, ← HW3.out, ← HW4.out]
  refine (?_ : ∀ W0 : World, Hid (SS u w4 W0 b (b + 3) MT6 s Z6) → Code.wp Tryd.prog _ _ _ W0) _ H0
  clear H0 HW1 HW2 HW3 HW4
  intro W0 H0
  obtain ⟨ad0, n0, c0, hby, hsc⟩ := H0.out.s
  have K := rnum_is 4 ad0 n0 c0 (s) u W0 H0.out.bel hby (by decide) 4 rfl
  obtain ⟨e0, e1, ez⟩ := cells2R hsc
  obtain ⟨v0, hv0⟩ : ∃ v, v = Sd.val (s) 4 := ⟨_, rfl⟩
  rw [← hv0] at K
  have V0 := Lib.hid hv0
  clear hv0 hby
  go_wp2_with fail
  (with_reducible refine K.mono ?_)
  rintro e X0 ⟨a', n', c', rfl, hy, hb⟩
  have hx := H0.out.on hb
  obtain ⟨_, _, _, -, hxs⟩ := hx.s
  have hfz : ∀ j, X0.frozen? ⟨b + 3, j, none⟩ = false := fun _ => frozen_of_row _ _ _ _ _ hx.m
  obtain ⟨q0, q1, qz⟩ := cells2R hxs
  obtain ⟨d0, d1, d2, d3, d4, d5, -⟩ := cells6X hx.m
  have HS := Lib.hid ((H0.out.scan (s' := (s.num 4)) hb hy).put 0 (.int .i64 (v0 : Nat)) (cs' := #[.int .i64 (v0 : Nat), .int .i64 0, .int .i64 0, .int .i64 0, .bool false, .slice none 0 0]) rfl)
  clear K hy hb hx hxs hsc e0 e1 ez
  go_upto_region 3 with fail
  clear hfz q0 q1 qz d0 d1 d2 d3 d4 d5
  refine (?_ : ∀ W1 : World, Hid (SS u w4 W1 b (b + 3) MT6 ((s.num 4)) #[.int .i64 (v0 : Nat), .int .i64 0, .int .i64 0, .int .i64 0, .bool false, .slice none 0 0]) → Code.wp Tryd.prog _ _ _ W1) _ HS
  clear HS H0
  intro W1 H1
  obtain ⟨ad1, n1, c1, hby, hsc⟩ := H1.out.s
  have K := rnum_is 4 ad1 n1 c1 ((s.num 4)) u W1 H1.out.bel hby (by decide) 4 rfl
  obtain ⟨e0, e1, ez⟩ := cells2R hsc
  obtain ⟨v1, hv1⟩ : ∃ v, v = Sd.val ((s.num 4)) 4 := ⟨_, rfl⟩
  rw [← hv1] at K
  have V1 := Lib.hid hv1
  clear hv1 hby
  go_wp2_with fail
  (with_reducible refine K.mono ?_)
  rintro e X1 ⟨a', n', c', rfl, hy, hb⟩
  have hx := H1.out.on hb
  obtain ⟨_, _, _, -, hxs⟩ := hx.s
  have hfz : ∀ j, X1.frozen? ⟨b + 3, j, none⟩ = false := fun _ => frozen_of_row _ _ _ _ _ hx.m
  obtain ⟨q0, q1, qz⟩ := cells2R hxs
  obtain ⟨d0, d1, d2, d3, d4, d5, -⟩ := cells6X hx.m
  have HS := Lib.hid ((H1.out.scan (s' := ((s.num 4).num 4)) hb hy).put 2 (.int .i64 (v1 : Nat)) (cs' := #[.int .i64 (v0 : Nat), .int .i64 0, .int .i64 (v1 : Nat), .int .i64 0, .bool false, .slice none 0 0]) rfl)
  clear K hy hb hx hxs hsc e0 e1 ez
  go_upto_region 4 with fail
  clear hfz q0 q1 qz d0 d1 d2 d3 d4 d5
  refine (?_ : ∀ W2 : World, Hid (SS u w4 W2 b (b + 3) MT6 (((s.num 4).num 4)) #[.int .i64 (v0 : Nat), .int .i64 0, .int .i64 (v1 : Nat), .int .i64 0, .bool false, .slice none 0 0]) → Code.wp Tryd.prog _ _ _ W2) _ HS
  clear HS H1
  intro W2 H2
  obtain ⟨ad2, n2, c2, hby, hsc⟩ := H2.out.s
  have K := rnum_is 1 ad2 n2 c2 (((s.num 4).num 4)) u W2 H2.out.bel hby (by decide) 1 rfl
  obtain ⟨e0, e1, ez⟩ := cells2R hsc
  obtain ⟨v2, hv2⟩ : ∃ v, v = Sd.val (((s.num 4).num 4)) 1 := ⟨_, rfl⟩
  rw [← hv2] at K
  have V2 := Lib.hid hv2
  clear hv2 hby
  go_wp2_with fail
  (with_reducible refine K.mono ?_)
  rintro e X2 ⟨a', n', c', rfl, hy, hb⟩
  have hx := H2.out.on hb
  obtain ⟨_, _, _, -, hxs⟩ := hx.s
  have hfz : ∀ j, X2.frozen? ⟨b + 3, j, none⟩ = false := fun _ => frozen_of_row _ _ _ _ _ hx.m
  obtain ⟨q0, q1, qz⟩ := cells2R hxs
  obtain ⟨d0, d1, d2, d3, d4, d5, -⟩ := cells6X hx.m
  have HS := Lib.hid ((H2.out.scan (s' := (((s.num 4).num 4).num 1)) hb hy).put 1 (.int .i64 (v2 : Nat)) (cs' := #[.int .i64 (v0 : Nat), .int .i64 (v2 : Nat), .int .i64 (v1 : Nat), .int .i64 0, .bool false, .slice none 0 0]) rfl)
  clear K hy hb hx hxs hsc e0 e1 ez
  go_upto_region 5 with fail
  clear hfz q0 q1 qz d0 d1 d2 d3 d4 d5
  refine (?_ : ∀ W3 : World, Hid (SS u w4 W3 b (b + 3) MT6 ((((s.num 4).num 4).num 1)) #[.int .i64 (v0 : Nat), .int .i64 (v2 : Nat), .int .i64 (v1 : Nat), .int .i64 0, .bool false, .slice none 0 0]) → Code.wp Tryd.prog _ _ _ W3) _ HS
  clear HS H2
  intro W3 H3
  obtain ⟨ad3, n3, c3, hby, hsc⟩ := H3.out.s
  have K := rnum_is 1 ad3 n3 c3 ((((s.num 4).num 4).num 1)) u W3 H3.out.bel hby (by decide) 1 rfl
  obtain ⟨e0, e1, ez⟩ := cells2R hsc
  obtain ⟨v3, hv3⟩ : ∃ v, v = Sd.val ((((s.num 4).num 4).num 1)) 1 := ⟨_, rfl⟩
  rw [← hv3] at K
  have V3 := Lib.hid hv3
  clear hv3 hby
  go_wp2_with fail
  (with_reducible refine K.mono ?_)
  rintro e X3 ⟨a', n', c', rfl, hy, hb⟩
  have hx := H3.out.on hb
  obtain ⟨_, _, _, -, hxs⟩ := hx.s
  have hfz : ∀ j, X3.frozen? ⟨b + 3, j, none⟩ = false := fun _ => frozen_of_row _ _ _ _ _ hx.m
  obtain ⟨q0, q1, qz⟩ := cells2R hxs
  obtain ⟨d0, d1, d2, d3, d4, d5, -⟩ := cells6X hx.m
  have HS := Lib.hid ((H3.out.scan (s' := ((((s.num 4).num 4).num 1).num 1)) hb hy).put 3 (.int .i64 (v3 : Nat)) (cs' := #[.int .i64 (v0 : Nat), .int .i64 (v2 : Nat), .int .i64 (v1 : Nat), .int .i64 (v3 : Nat), .bool false, .slice none 0 0]) rfl)
  clear K hy hb hx hxs hsc e0 e1 ez
  go_upto_region 6 with fail
  clear hfz q0 q1 qz d0 d1 d2 d3 d4 d5
  refine (?_ : ∀ W4 : World, Hid (SS u w4 W4 b (b + 3) MT6 (((((s.num 4).num 4).num 1).num 1)) #[.int .i64 (v0 : Nat), .int .i64 (v2 : Nat), .int .i64 (v1 : Nat), .int .i64 (v3 : Nat), .bool false, .slice none 0 0]) → Code.wp Tryd.prog _ _ _ W4) _ HS
  clear HS H3
  intro W4 H4
  obtain ⟨ad4, n4, c4, hby, hsc⟩ := H4.out.s
  have K := rnum_is 1 ad4 n4 c4 (((((s.num 4).num 4).num 1).num 1)) u W4 H4.out.bel hby (by decide) 1 rfl
  obtain ⟨e0, e1, ez⟩ := cells2R hsc
  obtain ⟨v4, hv4⟩ : ∃ v, v = Sd.val (((((s.num 4).num 4).num 1).num 1)) 1 := ⟨_, rfl⟩
  rw [← hv4] at K
  have V4 := Lib.hid hv4
  clear hv4 hby
  go_wp2_with fail
  (with_reducible refine K.mono ?_)
  rintro e X4 ⟨a', n', c', rfl, hy, hb⟩
  have hx := H4.out.on hb
  obtain ⟨_, _, _, -, hxs⟩ := hx.s
  have hfz : ∀ j, X4.frozen? ⟨b + 3, j, none⟩ = false := fun _ => frozen_of_row _ _ _ _ _ hx.m
  obtain ⟨q0, q1, qz⟩ := cells2R hxs
  obtain ⟨d0, d1, d2, d3, d4, d5, -⟩ := cells6X hx.m
  have HS := Lib.hid ((H4.out.scan (s' := s.m6) hb hy).put 4 (.bool ((v4 : Int) == 1)) (cs' := #[.int .i64 (v0 : Nat), .int .i64 (v2 : Nat), .int .i64 (v1 : Nat), .int .i64 (v3 : Nat), .bool ((v4 : Int) == 1), .slice none 0 0]) rfl)
  clear K hy hb hx hxs hsc e0 e1 ez
  go_upto_region 8 with fail
  clear hfz q0 q1 qz d0 d1 d2 d3 d4 d5
  refine (?_ : ∀ W5 : World, Hid (SS u w4 W5 b (b + 3) MT6 (s.m6) #[.int .i64 (v0 : Nat), .int .i64 (v2 : Nat), .int .i64 (v1 : Nat), .int .i64 (v3 : Nat), .bool ((v4 : Int) == 1), .slice none 0 0]) → Code.wp Tryd.prog _ _ _ W5) _ HS
  clear HS H4
  intro W5 H5
  obtain ⟨ad5, n5, c5, hby, hsc⟩ := H5.out.s
  have K := rtextM_any ad5 n5 c5 s.m6 u W5 H5.out.bel hby
  obtain ⟨L, hL⟩ : ∃ L, L = s.m6.bytes := ⟨_, rfl⟩
  rw [← hL] at K
  have HL := Lib.hid hL
  obtain ⟨tn, htn⟩ : ∃ n, n = L.length := ⟨_, rfl⟩
  rw [← htn] at K
  have HTN := Lib.hid htn
  obtain ⟨e0, e1, ez⟩ := cells2R hsc
  have hsz5 : b + 4 ≤ W5.heap.size := Nat.le_trans hz4 H5.out.k.size
  clear hL htn hby
  go_wp2_with fail
  (with_reducible refine K.mono ?_)
  rintro e X5 ⟨a', n', c', ta, tc, rfl, hy, ho, hbb, h255, hb⟩
  have hx := H5.out.on hb
  obtain ⟨_, _, _, -, hxs⟩ := hx.s
  have hfz : ∀ j, X5.frozen? ⟨b + 3, j, none⟩ = false := fun _ => frozen_of_row _ _ _ _ _ hx.m
  obtain ⟨q0, q1, qz⟩ := cells2R hxs
  obtain ⟨d0, d1, d2, d3, d4, d5, -⟩ := cells6X hx.m
  have HS := Lib.hid ((H5.out.scan (s' := s.meta) hb hy).put 5 (.slice ta tn tc) (cs' := #[.int .i64 (v0 : Nat), .int .i64 (v2 : Nat), .int .i64 (v1 : Nat), .int .i64 (v3 : Nat), .bool ((v4 : Int) == 1), .slice ta tn tc]) rfl)
  have HO := Lib.hid (ownsRow_base (((ho.kept (grownBy_setCellM X5 ⟨b, 0, none⟩ (.slice a' n' c')) (.inr (fun e => by have := (ho.lt b e).1; omega))).kept (grownBy_setCellM _ ⟨b, 1, none⟩ (.bool s.meta.bad)) (.inr (fun e => by have := (ho.lt b e).1; omega))).kept (grownBy_setCellM _ ⟨b + 3, 5, none⟩ (.slice ta tn tc)) (.inr (fun e => by have := (ho.lt (b + 3) e).1; omega))) hsz5)
  have HBY := Lib.hid (And.intro hbb h255)
  clear K hy hb hx hxs hsc e0 e1 ez ho hbb h255
  go_upto_region 9 with fail
  clear hfz q0 q1 qz d0 d1 d2 d3 d4 d5
  refine (?_ : ∀ W6 : World, Hid (SS u w4 W6 b (b + 3) MT6 s.meta #[.int .i64 (v0 : Nat), .int .i64 (v2 : Nat), .int .i64 (v1 : Nat), .int .i64 (v3 : Nat), .bool ((v4 : Int) == 1), .slice ta tn tc]) → Hid (W6.ownsRow (b + 4) 5 1 (.slice ta tn tc) tn (L.map bv)) → Code.wp Tryd.prog _ _ _ W6) _ HS HO
  clear HS HO H5 hsz5
  intro W6 H6 HO
  obtain ⟨a6, n6, c6, hby6, hsc6⟩ := H6.out.s
  obtain ⟨e0, e1, -⟩ := cells2R (show W6.drew.heap[b]? = _ from hsc6)
  obtain ⟨d0, d1, d2, d3, d4, d5, -⟩ := cells6X (show W6.drew.heap[b + 3]? = _ from H6.out.m)
  have HSC := Lib.hid (And.intro hby6 hsc6)
  have P0 : W6.drew.cell? ⟨b, 0, none⟩ = some (.slice a6 n6 c6) ∧ W6.drew.cell? ⟨b, 1, none⟩ = some (.bool s.meta.bad) ∧ W6.drew.cell? ⟨b + 3, 0, none⟩ = some (.int .i64 (v0 : Nat)) ∧ W6.drew.cell? ⟨b + 3, 1, none⟩ = some (.int .i64 (v2 : Nat)) ∧ W6.drew.cell? ⟨b + 3, 2, none⟩ = some (.int .i64 (v1 : Nat)) ∧ W6.drew.cell? ⟨b + 3, 3, none⟩ = some (.int .i64 (v3 : Nat)) ∧ W6.drew.cell? ⟨b + 3, 4, none⟩ = some (.bool ((v4 : Int) == 1)) ∧ W6.drew.cell? ⟨b + 3, 5, none⟩ = some (.slice ta tn tc) := ⟨e0, e1, d0, d1, d2, d3, d4, d5⟩
  clear e0 e1 d0 d1 d2 d3 d4 d5 hby6 hsc6
  refine GoX.start 3 (fun w' => w'.cell? ⟨b, 0, none⟩ = some (.slice a6 n6 c6) ∧ w'.cell? ⟨b, 1, none⟩ = some (.bool s.meta.bad) ∧ w'.cell? ⟨b + 3, 0, none⟩ = some (.int .i64 (v0 : Nat)) ∧ w'.cell? ⟨b + 3, 1, none⟩ = some (.int .i64 (v2 : Nat)) ∧ w'.cell? ⟨b + 3, 2, none⟩ = some (.int .i64 (v1 : Nat)) ∧ w'.cell? ⟨b + 3, 3, none⟩ = some (.int .i64 (v3 : Nat)) ∧ w'.cell? ⟨b + 3, 4, none⟩ = some (.bool ((v4 : Int) == 1)) ∧ w'.cell? ⟨b + 3, 5, none⟩ = some (.slice ta tn tc)) (by kernel_rfl) ?_
  refine GoX.take 0 rfl (by kernel_rfl) (by kernel_rfl) (by rfl) (fun _ _ _ h => h) (v := ?tv0g1) P0 ?ty0g1 ?tr0g1
  case ty0g1 => (intro w hSw; (try dsimp only at hSw); go_simp; first | done | with_reducible rfl)
  simp only [Act.put, List.setIfInBounds_toArray, List.set_cons_zero, List.set_cons_succ]
  refine GoX.take 1 rfl (by kernel_rfl) (by kernel_rfl) (by rfl) (fun _ _ _ h => h) (v := ?tv1g2) P0 ?ty1g2 ?tr1g2
  case ty1g2 => (intro w hSw; (try dsimp only at hSw); go_simp; first | done | with_reducible rfl)
  simp only [Act.put, List.setIfInBounds_toArray, List.set_cons_zero, List.set_cons_succ]
  refine GoX.one 2 rfl (by kernel_rfl) (by decide) (fun K hK => ?_)
  rw [if_pos (by rfl)]
  have kk := (H6.out.k.block (b + 1) (by omega) (by rintro (e | e) <;> omega)).trans K2.out
  refine wp_store_row SC2 (.tmp 2) (.tmp 47) rfl (b + 1) #[.slice a6 n6 c6, .bool s.meta.bad] (by rfl) (by rfl) SC2 _ (show W6.drew.heap[b + 1]? = _ from kk) (by kernel_rfl) (by simp) (by simp [Value.oneCell']) ?_
  have hg7 : W6.grownBy (W6.drew.setRow (b + 1) #[.slice a6 n6 c6, .bool s.meta.bad]) (some (b + 1)) := ⟨rfl, rfl, rfl, by simp, fun k hk hn => (_root_.Go.setRow_other W6.drew (b + 1) k _ (fun e => hn (by rw [e])))⟩
  have hh7 : (W6.drew.setRow (b + 1) #[.slice a6 n6 c6, .bool s.meta.bad]).heap[b + 1]? = some (.cells #[.slice a6 n6 c6, .bool s.meta.bad] SC2 (0, 0)) := setRow_sameM (show W6.drew.heap[b + 1]? = _ from kk)
  refine (?_ : ∀ W7 : World, W6.grownBy W7 (some (b + 1)) → W7.heap[b + 1]? = some (.cells #[.slice a6 n6 c6, .bool s.meta.bad] SC2 (0, 0)) → K _ W7) _ hg7 hh7
  clear hg7 hh7 kk
  intro W7 hg7 hh7
  have hszb : b + 3 < W6.heap.size := (Array.getElem?_eq_some_iff.1 H6.out.m).1
  obtain ⟨e0, e1, -⟩ := cells2R ((hg7.block b (by omega) (fun e => by injection e with e; omega)).trans HSC.out.2)
  obtain ⟨d0, d1, d2, d3, d4, d5, -⟩ := cells6X ((hg7.block (b + 3) hszb (fun e => by injection e with e; omega)).trans H6.out.m)
  have P7 : W7.cell? ⟨b, 0, none⟩ = some (.slice a6 n6 c6) ∧ W7.cell? ⟨b, 1, none⟩ = some (.bool s.meta.bad) ∧ W7.cell? ⟨b + 3, 0, none⟩ = some (.int .i64 (v0 : Nat)) ∧ W7.cell? ⟨b + 3, 1, none⟩ = some (.int .i64 (v2 : Nat)) ∧ W7.cell? ⟨b + 3, 2, none⟩ = some (.int .i64 (v1 : Nat)) ∧ W7.cell? ⟨b + 3, 3, none⟩ = some (.int .i64 (v3 : Nat)) ∧ W7.cell? ⟨b + 3, 4, none⟩ = some (.bool ((v4 : Int) == 1)) ∧ W7.cell? ⟨b + 3, 5, none⟩ = some (.slice ta tn tc) := ⟨e0, e1, d0, d1, d2, d3, d4, d5⟩
  clear e0 e1 d0 d1 d2 d3 d4 d5
  refine hK.out _ _ P7 (fun _ => ?_)
  clear hK K
  refine GoX.last 3 rfl (by kernel_rfl) (by kernel_rfl) (by decide) ?_
  have kk := (hg7.block (b + 2) (by omega) (fun e => by injection e with e; omega)).trans ((H6.out.k.block (b + 2) (by omega) (by rintro (e | e) <;> omega)).trans K3.out)
  rw [if_pos (by rfl)]
  refine wp_store_row MT6 (.tmp 3) (.tmp 48) rfl (b + 2) #[.int .i64 (v0 : Nat), .int .i64 (v2 : Nat), .int .i64 (v1 : Nat), .int .i64 (v3 : Nat), .bool ((v4 : Int) == 1), .slice ta tn tc] (by rfl) (by rfl) MT6 _ kk (by kernel_rfl) (by simp) (by simp [Value.oneCell']) ?_
  have hg8 : W7.grownBy (W7.setRow (b + 2) #[.int .i64 (v0 : Nat), .int .i64 (v2 : Nat), .int .i64 (v1 : Nat), .int .i64 (v3 : Nat), .bool ((v4 : Int) == 1), .slice ta tn tc]) (some (b + 2)) := ⟨rfl, rfl, rfl, by simp, fun k hk hn => _root_.Go.setRow_other W7 (b + 2) k _ (fun e => hn (by rw [e]))⟩
  have hh8 : (W7.setRow (b + 2) #[.int .i64 (v0 : Nat), .int .i64 (v2 : Nat), .int .i64 (v1 : Nat), .int .i64 (v3 : Nat), .bool ((v4 : Int) == 1), .slice ta tn tc]).heap[b + 2]? = some (.cells #[.int .i64 (v0 : Nat), .int .i64 (v2 : Nat), .int .i64 (v1 : Nat), .int .i64 (v3 : Nat), .bool ((v4 : Int) == 1), .slice ta tn tc] MT6 (0, 0)) := setRow_sameM kk
  clear P0 P7 kk
  go_wp2_with fail
  refine (?_ : ∀ W8 : World, W7.grownBy W8 (some (b + 2)) → W8.heap[b + 2]? = some (.cells #[.int .i64 (v0 : Nat), .int .i64 (v2 : Nat), .int .i64 (v1 : Nat), .int .i64 (v3 : Nat), .bool ((v4 : Int) == 1), .slice ta tn tc] MT6 (0, 0)) → bodyPost _ _ _ _ _ W8) _ hg8 hh8
  clear hg8 hh8
  intro W8 hg8 hh8
  have hj8 := (hg8.block (b + 1) (Array.getElem?_eq_some_iff.1 hh7).1 (fun e => by injection e with e; omega)).trans hh7
  have e1 : s.metaV = ⟨(v0 : Nat), (v2 : Nat), (v1 : Nat), (v3 : Nat), ((v4 : Int) == 1), L⟩ := by rw [V0.out, V1.out, V2.out, V3.out, V4.out, HL.out]; rfl
  have HE1 := Lib.hid e1
  clear e1
  refine bodyPost_ret (results_scan_meta rfl hj8 hh8 rfl rfl _ rfl rfl) rfl ?_
  rw [HE1.out]
  simp only [← HTN.out]
  refine ⟨a6, n6, c6, ta, tc, rfl, HSC.out.1, ownsRow_base ((HO.out.kept hg7 (.inr (fun e => by have := (HO.out.lt (b + 1) e).1; omega))).kept hg8 (.inr (fun e => by have := ((HO.out.kept hg7 (.inr (fun e => by have := (HO.out.lt (b + 1) e).1; omega))).lt (b + 2) e).1; omega))) (by omega), HBY.out.1, by have := HBY.out.2; rw [HTN.out]; rw [HTN.out] at this; exact this, ?_⟩
  have h46 : Below w.heap.size w W6 := ⟨H6.out.k.os.trans HB4.out.os, H6.out.k.tape.trans HB4.out.tape, H6.out.k.output.trans HB4.out.output, Nat.le_trans HB4.out.size H6.out.k.size, fun i hi => (H6.out.k.block i (by have := HB4.out.size; omega) (by rintro (e | e) <;> omega)).trans (HB4.out.block i hi)⟩
  exact (h46.grown hg7 h46.size (fun q hq => by injection hq with hq; omega)).grown hg8 (Nat.le_trans h46.size hg7.size) (fun q hq => by injection hq with hq; omega)
end Go.Proofs.YtopnjjehefaghaaDoor
