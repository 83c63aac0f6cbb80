/-
  msg's reader: a meta, a symbol, an item read.
-/
import Derived.Laws.ResultCell
import Derived.Test.YtopnjjehefaghaaDoorMCh3
import Derived.Test.YtopnjjehefaghaaDoorMMgO
import Derived.Test.YtopnjjehefaghaaDoorMMgV
namespace Go.Proofs.YtopnjjehefaghaaDoor
open Go.RowKit

def Sd.m6 (s : Sd) : Sd := ((((s.num 4).num 4).num 1).num 1).num 1
def Sd.meta (s : Sd) : Sd := s.m6.text
def Sd.metaV (s : Sd) : MeR := ⟨(s.val 4 : Nat), (((s.num 4).num 4).val 1 : Nat), ((s.num 4).val 4 : Nat), ((((s.num 4).num 4).num 1).val 1 : Nat), (((((((s.num 4).num 4).num 1).num 1).val 1 : Nat) : Int) == 1), s.m6.bytes⟩
abbrev Z6 : Array Value := #[.int .i64 0, .int .i64 0, .int .i64 0, .int .i64 0, .bool false, .slice none 0 0]
theorem grown_newM {w w5 w6 : World} {r : Option Nat} {q : Nat} (h : w.grownBy w5 r) (k : w5.grownBy w6 (some q)) (hq : w.heap.size ≤ q) : w.grownBy w6 r :=
  ⟨k.os.trans h.os, k.tape.trans h.tape, k.output.trans h.output, Nat.le_trans h.size k.size, fun i hi hne => (k.block i (Nat.lt_of_lt_of_le hi h.size) (fun e => by injection e with e; omega)).trans (h.block i hi hne)⟩
structure RmS (u w0 w : World) (b q2 : Nat) (s : Sd) (cs : Array Value) : Prop where
  g : w0.grownBy w (some b)
  r : RdM u w b s
  q : w.heap[w0.heap.size]? = some (.cells Z6 MT6 (0, 0))
  c : w.heap[q2]? = some (.cells cs MT6 (0, 0))
  lt : w0.heap.size < q2
  bq : b < w0.heap.size
theorem RmS.set {u w0 w w1 : World} {b q2 : Nat} {s s' : Sd} {cs cs' : Array Value} (h : RmS u w0 w b q2 s cs) (hg : w.grownBy w1 (some b)) (hr : RdM u w1 b s') (j : Nat) (x : Value) (hcs : cs.setIfInBounds j x = cs') : RmS u w0 (w1.setCell ⟨q2, j, none⟩ x) b q2 s' cs' := by
  have h1 := h.lt
  have h2 := h.bq
  have hc := (hg.block q2 (Array.getElem?_eq_some_iff.1 h.c).1 (fun e => by injection e with e; omega)).trans h.c
  have hq := (hg.block w0.heap.size (Array.getElem?_eq_some_iff.1 h.q).1 (fun e => by injection e with e; omega)).trans h.q
  subst hcs
  exact ⟨grown_newM (h.g.trans hg) (grownBy_setCellM w1 ⟨q2, j, none⟩ x) (Nat.le_of_lt h1), hr.of_block (heap_setCell_other w1 ⟨q2, j, none⟩ b x (by simp only; omega)), (heap_setCell_other w1 ⟨q2, j, none⟩ _ x (by simp only; omega)).trans hq, heap_setCell_same w1 q2 j cs MT6 x hc, h1, h2⟩
theorem RmS.cell {u w0 w w1 : World} {b q2 : Nat} {s : Sd} {cs : Array Value} (h : RmS u w0 w b q2 s cs) (hg : w.grownBy w1 (some b)) : w1.heap[q2]? = some (.cells cs MT6 (0, 0)) := by
  have h1 := h.lt
  have h2 := h.bq
  exact (hg.block q2 (Array.getElem?_eq_some_iff.1 h.c).1 (fun e => by injection e with e; omega)).trans h.c
set_option maxRecDepth 100000 in
set_option maxHeartbeats 16000000 in
theorem metaM_any (b : Nat) (s : Sd) (u w : World) (hu : Below u.heap.size u w) (hub : u.heap.size ≤ b) (hr : RdM u w b s) :
    Calls Tryd.prog 57 #[.pointer (some ⟨b, 0, none⟩)] w fun e w' => ∃ ta tc, e = .returned (.agg (MC s.metaV (ta, s.metaV.l.length, tc))) ∧ w'.ownsRow w.heap.size 5 1 (.slice ta s.metaV.l.length tc) s.metaV.l.length (s.metaV.l.map bv) ∧ Bytes s.metaV.l ∧ s.metaV.l.length ≤ 255 ∧ RdM u w' b s.meta ∧ w.grownBy w' (some b) := by
  have hbw := hr.lt
  obtain ⟨q, hq⟩ : ∃ q, q = w.heap.size := ⟨_, rfl⟩
  obtain ⟨w1, hw1⟩ : ∃ x, x = w.alloc (.cells Z6 MT6) := ⟨_, rfl⟩
  have k1 : w1.heap[w.heap.size]? = some (.cells Z6 MT6 (0, 0)) := by rw [hw1]; exact heap_alloc_new w _
  have b1 : Below w.heap.size w w1 := by rw [hw1]; exact below_alloc w _
  have hs1 : w1.heap.size = q + 1 := by rw [hw1, hq]; simp
  obtain ⟨w2, hw2⟩ : ∃ x, x = w1.alloc (.cells Z6 MT6) := ⟨_, rfl⟩
  have k2 : w2.heap[q + 1]? = some (.cells Z6 MT6 (0, 0)) := by rw [hw2, ← hs1]; exact heap_alloc_new w1 _
  have b2 : Below w1.heap.size w1 w2 := by rw [hw2]; exact below_alloc w1 _
  have hg2 : w.grownBy w2 (some b) := World.grownBy.trans (grownBy_of_below b1 _) (grownBy_of_below b2 _)
  have h0 : RmS u w w2 b (q + 1) s Z6 := ⟨hg2, hr.of_block ((b2.block b (by have := b1.size; omega)).trans (b1.block b hbw)), (b2.block _ (by omega)).trans k1, k2, by omega, hbw⟩
  have H0 := Lib.hid h0
  have HW1 := Lib.hid hw1
  have HW2 := Lib.hid hw2
  have HQ := Lib.hid hq
  have HU := Lib.hid hu
  have hqw1 : w.heap.size ≤ q := Nat.le_of_eq hq.symm
  have hqw2 : q ≤ w.heap.size := Nat.le_of_eq hq
  clear hq hw1 hw2 k1 b1 k2 b2 hg2 h0 hs1 hr hu
  go_enter Tryd.func57, Tryd.ntmps57
  go_upto_region 2 with fail
  rw [← HQ.out, ← HW1.out, ← HW2.out]
  refine (?_ : ∀ W0 : World, Hid (RmS u w W0 b (q + 1) s Z6) → Code.wp Tryd.prog _ _ _ W0) _ H0
  clear H0 HW1 HW2 HQ
  intro W0 H0

  have K := numM_is b 4 s u W0 (below_onM HU.out hub H0.out.g) hub H0.out.r (by decide) 4 rfl
  obtain ⟨v0, hv0⟩ : ∃ v, v = Sd.val s 4 := ⟨_, rfl⟩
  rw [← hv0] at K
  have V0 := Lib.hid hv0
  clear hv0
  go_wp2_with fail
  (with_reducible refine K.mono ?_)
  rintro e X0 ⟨rfl, hr, hg⟩
  have hfz : ∀ j, X0.frozen? ⟨q + 1, j, none⟩ = false := fun _ => frozen_of_row _ _ _ _ _ (H0.out.cell hg)
  have hcc := H0.out.cell hg
  have hcj : X0.cell? ⟨q + 1, 0, none⟩ = some (.int .i64 0) := cell_of_row _ _ 0 _ _ _ hcc
  have hs := H0.out.set hg hr 0 (.int .i64 (v0 : Nat)) (cs' := #[.int .i64 (v0 : Nat), .int .i64 0, .int .i64 0, .int .i64 0, .bool false, .slice none 0 0]) rfl
  have HS := Lib.hid hs
  clear K hr hg hcc hs
  go_upto_region 3 with fail
  clear hfz hcj
  refine (?_ : ∀ W1 : World, Hid (RmS u w W1 b (q + 1) ((s.num 4)) #[.int .i64 (v0 : Nat), .int .i64 0, .int .i64 0, .int .i64 0, .bool false, .slice none 0 0]) → Code.wp Tryd.prog _ _ _ W1) _ HS
  clear HS H0
  intro W1 H1
  have K := numM_is b 4 (s.num 4) u W1 (below_onM HU.out hub H1.out.g) hub H1.out.r (by decide) 4 rfl
  obtain ⟨v1, hv1⟩ : ∃ v, v = Sd.val (s.num 4) 4 := ⟨_, rfl⟩
  rw [← hv1] at K
  have V1 := Lib.hid hv1
  clear hv1
  go_wp2_with fail
  (with_reducible refine K.mono ?_)
  rintro e X1 ⟨rfl, hr, hg⟩
  have hfz : ∀ j, X1.frozen? ⟨q + 1, j, none⟩ = false := fun _ => frozen_of_row _ _ _ _ _ (H1.out.cell hg)
  have hcc := H1.out.cell hg
  have hcj : X1.cell? ⟨q + 1, 2, none⟩ = some (.int .i64 0) := cell_of_row _ _ 2 _ _ _ hcc
  have hs := H1.out.set hg hr 2 (.int .i64 (v1 : Nat)) (cs' := #[.int .i64 (v0 : Nat), .int .i64 0, .int .i64 (v1 : Nat), .int .i64 0, .bool false, .slice none 0 0]) rfl
  have HS := Lib.hid hs
  clear K hr hg hcc hs
  go_upto_region 4 with fail
  clear hfz hcj
  refine (?_ : ∀ W2 : World, Hid (RmS u w W2 b (q + 1) (((s.num 4).num 4)) #[.int .i64 (v0 : Nat), .int .i64 0, .int .i64 (v1 : Nat), .int .i64 0, .bool false, .slice none 0 0]) → Code.wp Tryd.prog _ _ _ W2) _ HS
  clear HS H1
  intro W2 H2
  have K := numM_is b 1 ((s.num 4).num 4) u W2 (below_onM HU.out hub H2.out.g) hub H2.out.r (by decide) 1 rfl
  obtain ⟨v2, hv2⟩ : ∃ v, v = Sd.val ((s.num 4).num 4) 1 := ⟨_, rfl⟩
  rw [← hv2] at K
  have V2 := Lib.hid hv2
  clear hv2
  go_wp2_with fail
  (with_reducible refine K.mono ?_)
  rintro e X2 ⟨rfl, hr, hg⟩
  have hfz : ∀ j, X2.frozen? ⟨q + 1, j, none⟩ = false := fun _ => frozen_of_row _ _ _ _ _ (H2.out.cell hg)
  have hcc := H2.out.cell hg
  have hcj : X2.cell? ⟨q + 1, 1, none⟩ = some (.int .i64 0) := cell_of_row _ _ 1 _ _ _ hcc
  have hs := H2.out.set hg hr 1 (.int .i64 (v2 : Nat)) (cs' := #[.int .i64 (v0 : Nat), .int .i64 (v2 : Nat), .int .i64 (v1 : Nat), .int .i64 0, .bool false, .slice none 0 0]) rfl
  have HS := Lib.hid hs
  clear K hr hg hcc hs
  go_upto_region 5 with fail
  clear hfz hcj
  refine (?_ : ∀ W3 : World, Hid (RmS u w W3 b (q + 1) ((((s.num 4).num 4).num 1)) #[.int .i64 (v0 : Nat), .int .i64 (v2 : Nat), .int .i64 (v1 : Nat), .int .i64 0, .bool false, .slice none 0 0]) → Code.wp Tryd.prog _ _ _ W3) _ HS
  clear HS H2
  intro W3 H3
  have K := numM_is b 1 (((s.num 4).num 4).num 1) u W3 (below_onM HU.out hub H3.out.g) hub H3.out.r (by decide) 1 rfl
  obtain ⟨v3, hv3⟩ : ∃ v, v = Sd.val (((s.num 4).num 4).num 1) 1 := ⟨_, rfl⟩
  rw [← hv3] at K
  have V3 := Lib.hid hv3
  clear hv3
  go_wp2_with fail
  (with_reducible refine K.mono ?_)
  rintro e X3 ⟨rfl, hr, hg⟩
  have hfz : ∀ j, X3.frozen? ⟨q + 1, j, none⟩ = false := fun _ => frozen_of_row _ _ _ _ _ (H3.out.cell hg)
  have hcc := H3.out.cell hg
  have hcj : X3.cell? ⟨q + 1, 3, none⟩ = some (.int .i64 0) := cell_of_row _ _ 3 _ _ _ hcc
  have hs := H3.out.set hg hr 3 (.int .i64 (v3 : Nat)) (cs' := #[.int .i64 (v0 : Nat), .int .i64 (v2 : Nat), .int .i64 (v1 : Nat), .int .i64 (v3 : Nat), .bool false, .slice none 0 0]) rfl
  have HS := Lib.hid hs
  clear K hr hg hcc hs
  go_upto_region 6 with fail
  clear hfz hcj
  refine (?_ : ∀ W4 : World, Hid (RmS u w W4 b (q + 1) (((((s.num 4).num 4).num 1).num 1)) #[.int .i64 (v0 : Nat), .int .i64 (v2 : Nat), .int .i64 (v1 : Nat), .int .i64 (v3 : Nat), .bool false, .slice none 0 0]) → Code.wp Tryd.prog _ _ _ W4) _ HS
  clear HS H3
  intro W4 H4
  have K := numM_is b 1 ((((s.num 4).num 4).num 1).num 1) u W4 (below_onM HU.out hub H4.out.g) hub H4.out.r (by decide) 1 rfl
  obtain ⟨v4, hv4⟩ : ∃ v, v = Sd.val ((((s.num 4).num 4).num 1).num 1) 1 := ⟨_, rfl⟩
  rw [← hv4] at K
  have V4 := Lib.hid hv4
  clear hv4
  go_wp2_with fail
  (with_reducible refine K.mono ?_)
  rintro e X4 ⟨rfl, hr, hg⟩
  have hfz : ∀ j, X4.frozen? ⟨q + 1, j, none⟩ = false := fun _ => frozen_of_row _ _ _ _ _ (H4.out.cell hg)
  have hcc := H4.out.cell hg
  have hcj : X4.cell? ⟨q + 1, 4, none⟩ = some (.bool false) := cell_of_row _ _ 4 _ _ _ hcc
  have hs := H4.out.set hg hr 4 (.bool ((v4 : Int) == 1)) (cs' := #[.int .i64 (v0 : Nat), .int .i64 (v2 : Nat), .int .i64 (v1 : Nat), .int .i64 (v3 : Nat), .bool ((v4 : Int) == 1), .slice none 0 0]) rfl
  have HS := Lib.hid hs
  clear K hr hg hcc hs
  go_upto_region 7 with fail
  clear hfz hcj
  refine (?_ : ∀ W5 : World, Hid (RmS u w W5 b (q + 1) (s.m6) #[.int .i64 (v0 : Nat), .int .i64 (v2 : Nat), .int .i64 (v1 : Nat), .int .i64 (v3 : Nat), .bool ((v4 : Int) == 1), .slice none 0 0]) → Code.wp Tryd.prog _ _ _ W5) _ HS
  clear HS H4
  intro W5 H5
  have K := textM_any b s.m6 u W5 (below_onM HU.out hub H5.out.g) hub H5.out.r
  obtain ⟨L, hL⟩ : ∃ L, L = s.m6.bytes := ⟨_, rfl⟩
  rw [← hL] at K
  have HL := Lib.hid hL
  obtain ⟨n, hn⟩ : ∃ n, n = L.length := ⟨_, rfl⟩
  rw [← hn] at K
  have HN := Lib.hid hn
  clear hL hn
  go_wp2_with fail
  (with_reducible refine K.mono ?_)
  rintro e X5 ⟨ta, tc, rfl, ho, hby, h255, hr, hg⟩
  have hfz : ∀ j, X5.frozen? ⟨q + 1, j, none⟩ = false := fun _ => frozen_of_row _ _ _ _ _ (H5.out.cell hg)
  have hcc := H5.out.cell hg
  have hcj : X5.cell? ⟨q + 1, 5, none⟩ = some (.slice none 0 0) := cell_of_row _ _ 5 _ _ _ hcc
  have hlt5 : q + 1 < W5.heap.size := (Array.getElem?_eq_some_iff.1 H5.out.c).1
  have hs := H5.out.set hg hr 5 (.slice ta n tc) (cs' := #[.int .i64 (v0 : Nat), .int .i64 (v2 : Nat), .int .i64 (v1 : Nat), .int .i64 (v3 : Nat), .bool ((v4 : Int) == 1), .slice ta n tc]) rfl
  have HO := Lib.hid (ownsRow_base (ho.kept (grownBy_setCellM X5 ⟨q + 1, 5, none⟩ (.slice ta n tc)) (.inr (fun e => by have := (ho.lt (q + 1) e).1; omega))) (show q + 2 ≤ W5.heap.size by omega))
  have HS := Lib.hid hs
  have HBY := Lib.hid (And.intro hby h255)
  clear K hr hg hcc hs ho hby h255
  go_upto_region 8 with fail
  clear hfz hcj
  refine (?_ : ∀ W6 : World, Hid (RmS u w W6 b (q + 1) s.meta #[.int .i64 (v0 : Nat), .int .i64 (v2 : Nat), .int .i64 (v1 : Nat), .int .i64 (v3 : Nat), .bool ((v4 : Int) == 1), .slice ta n tc]) → Hid (W6.ownsRow (q + 2) 5 1 (.slice ta n tc) n (L.map bv)) → Code.wp Tryd.prog _ _ _ W6) _ HS HO
  clear HS H5 HO hlt5
  intro W6 H6 HO
  obtain ⟨c0, c1, c2, c3, c4, c5, -⟩ := cells6X H6.out.c
  have hq6 := H6.out.q
  have hqe : w.heap.size = q := by omega
  rw [hqe] at hq6
  have hfz : ∀ j, W6.frozen? ⟨q, j, none⟩ = false := fun _ => frozen_of_row _ _ _ _ _ hq6
  obtain ⟨d0, d1, d2, d3, d4, d5, -⟩ := cells6X hq6
  have HQ6 := Lib.hid hq6
  clear hq6 hqe
  go_wp2
  clear c0 c1 c2 c3 c4 c5 d0 d1 d2 d3 d4 d5 hfz
  have hgr := grown_setsFrom (g := q) [.int .i64 (v0 : Nat), .int .i64 (v2 : Nat), .int .i64 (v1 : Nat), .int .i64 (v3 : Nat), .bool ((v4 : Int) == 1), .slice ta n tc] 0 W6
  have hbq := H6.out.bq
  have hr6 := H6.out.r
  have hh := heap_setsFrom 0 [.int .i64 (v0 : Nat), .int .i64 (v2 : Nat), .int .i64 (v1 : Nat), .int .i64 (v3 : Nat), .bool ((v4 : Int) == 1), .slice ta n tc] HQ6.out (l' := [.int .i64 (v0 : Nat), .int .i64 (v2 : Nat), .int .i64 (v1 : Nat), .int .i64 (v3 : Nat), .bool ((v4 : Int) == 1), .slice ta n tc]) rfl
  have hlow : ∀ k, k < W6.heap.size → k ≠ q → (setsFrom W6 q 0 [.int .i64 (v0 : Nat), .int .i64 (v2 : Nat), .int .i64 (v1 : Nat), .int .i64 (v3 : Nat), .bool ((v4 : Int) == 1), .slice ta n tc]).heap[k]? = W6.heap[k]? := fun k h1 h2 => setsFrom_other [.int .i64 (v0 : Nat), .int .i64 (v2 : Nat), .int .i64 (v1 : Nat), .int .i64 (v3 : Nat), .bool ((v4 : Int) == 1), .slice ta n tc] 0 h1 h2
  refine (?_ : ∀ WF : World, WF.heap[q]? = some (.cells #[.int .i64 (v0 : Nat), .int .i64 (v2 : Nat), .int .i64 (v1 : Nat), .int .i64 (v3 : Nat), .bool ((v4 : Int) == 1), .slice ta n tc] MT6 (0, 0)) → W6.grownBy WF (some q) → bodyPost _ _ _ _ _ WF) _ hh hgr
  clear hh hgr hlow
  intro WF hh hgr
  have e1 : s.metaV = ⟨(v0 : Nat), (v2 : Nat), (v1 : Nat), (v3 : Nat), ((v4 : Int) == 1), L⟩ := by rw [V0.out, V1.out, V2.out, V3.out, V4.out, HL.out]; rfl
  have HE1 := Lib.hid e1
  have HGR := Lib.hid hgr
  clear e1 hgr
  refine bodyPost_ret (results_cell_row rfl _ _ q MT6 #[.int .i64 (v0 : Nat), .int .i64 (v2 : Nat), .int .i64 (v1 : Nat), .int .i64 (v3 : Nat), .bool ((v4 : Int) == 1), .slice ta n tc] (0, 0) _ rfl hh Tryd.underlying26 rfl (by kernel_rfl)) (by rfl) ?_
  rw [HE1.out]
  simp only [← HN.out]
  have hgr := HGR.out
  refine ⟨ta, tc, rfl, ownsRow_base (HO.out.kept hgr (.inr (fun e => by have := (HO.out.lt q e).1; omega))) (by omega), HBY.out.1, HBY.out.2, hr6.of_block (hgr.block b hr6.lt (fun e => by injection e with e; omega)), grown_newM H6.out.g hgr hqw1⟩
end Go.Proofs.YtopnjjehefaghaaDoor
