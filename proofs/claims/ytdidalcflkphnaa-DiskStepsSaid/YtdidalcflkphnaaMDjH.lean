/-
  rillref00: CopyInts, CopyFate.
-/
import Derived.Test.YtdidalcflkphnaaMBase
import Derived.Test.YtdidalcflkphnaaMDjF
namespace Go.Proofs.Ytdidalcflkphnaa
open Go.RowKit

theorem Try.info3 : (Try.prog.info? 3).map (fun i => (i.zero, i.size, i.bytes)) = some (some (.int .i64 0), 1, 8) := by kernel_rfl
theorem iv_onesD (l : List Int) : ∀ u ∈ l.map iv, u.oneCell' = true := by
  intro u hu
  obtain ⟨x, _, rfl⟩ := List.mem_map.1 hu
  rfl
theorem alloc_sz' (w : World) (o : Obj) : (w.alloc o).heap.size = w.heap.size + 1 := by simp
def GivesInts (T : TypeId) (w0 : World) (l : List Int) (e : Ending) (w' : World) : Prop :=
  ∃ ad cap, e = .returned (.slice ad l.length cap) ∧ w'.ownsRow w0.heap.size T 1 (.slice ad l.length cap) l.length (l.map iv) ∧ Below w0.heap.size w0 w'
set_option maxHeartbeats 400000 in
theorem copyInts_any (ad : Option Addr) (n c : Nat) (l : List Int) (w : World) (h : IntsV w (ad, n, c) l) (hn8 : n * 8 ≤ 140737488355328) :
    Calls Try.prog 39 #[.slice ad n c] w (GivesInts 3 w l) := by
  obtain ⟨i0, hi, hz0, hz1, hz2⟩ := info_parts Try.info3
  have hsm : n ≤ 140737488355328 := h.small
  have hl : l.length = n := h.length
  have hr := h.row.below (below_alloc w (.cells #[] 3))
  have hnil := h.nil
  have HL := Lib.hid hl
  have hown0 := World.ownsRow_made (base := w.heap.size) (e := 3) (size := 1) w #[] 0 (Nat.le_refl _) (by simp [maxLen]) rfl
  clear h hl
  go_enter Try.func39, Try.ntmps39
  go_wp2_with (first | (at_builtin; refine wpList_append_row rfl _ _ 36 rfl w.heap.size 3 i0 (.int .i64 0) 8 Try.underlying36 hi hz0 hz1 hz2 rfl _ _ _ rfl hown0 ad n c (l.map iv) rfl hr hnil (iv_onesD l) (by simp [maxLen]; omega) (by omega) (by simp) ?_; intro v' w1 hown1 hgrow1 hnil1))
  obtain ⟨ad', cap', rfl, _⟩ := ownsRow_parts hown1
  have hb := below_grown (below_alloc w _) hgrow1 (ownBlock_ge hown0)
  simp only [Nat.zero_add, List.nil_append] at hown1 ⊢
  clear hgrow1 hnil1 hr
  go_wp2
  go_ret
  obtain rfl := HL.out
  exact ⟨ad', cap', rfl, hown1, hb⟩
theorem loadVar_fate (w : World) (g : Nat) (cs : Array Value) (hg : w.heap[g]? = some (.cells cs FT (0, 0))) (hs : cs.size = 3) : (loadVar FT ⟨g, 0, none⟩).run Try.prog w = .ok (.agg cs) w :=
  run_loadVar_row w g FT FT cs (0, 0) _ hg Try.underlying38 rfl (by rw [hs]; kernel_rfl)
theorem results_fate (tmps : Array Value) (w : World) (g : Nat) (cs : Array Value) (hp : tmps.getD 2 undef = .pointer (some ⟨g, 0, none⟩)) (hg : w.heap[g]? = some (.cells cs FT (0, 0))) (hs : cs.size = 3) :
    (results Try.f16 tmps).run Try.prog w = .ok (.agg cs) w := by
  have hp' : tmps[2]?.getD undef = .pointer (some ⟨g, 0, none⟩) := by simpa using hp
  simp [results, Try.results16, hp', asAddr, loadVar_fate w g cs hg hs]
theorem cells3D {w : World} {b : Nat} {v0 v1 v2 : Value} {T : TypeId} (h : w.heap[b]? = some (.cells #[v0, v1, v2] T (0, 0))) :
    w.cell? ⟨b, 0, none⟩ = some v0 ∧ w.cell? ⟨b, 1, none⟩ = some v1 ∧ w.cell? ⟨b, 2, none⟩ = some v2 ∧ ∀ j, w.frozen? ⟨b, j, none⟩ = false :=
  ⟨cell_of_row _ _ 0 _ _ _ h, cell_of_row _ _ 1 _ _ _ h, cell_of_row _ _ 2 _ _ _ h, fun _ => frozen_of_row _ _ _ _ _ h⟩
set_option maxRecDepth 100000 in
set_option maxHeartbeats 4000000 in
theorem copyFate_any (keep : Int) (reset : Bool) (fa : Option Addr) (fn fc : Nat) (fs : List Int) (w : World) (h : IntsV w (fa, fn, fc) fs) (hn8 : fn * 8 ≤ 140737488355328) :
    Calls Try.prog 16 #[.agg #[.int .i64 keep, .bool reset, .slice fa fn fc]] w fun e w' => ∃ fa' fc', e = .returned (.agg #[.int .i64 keep, .bool reset, .slice fa' fs.length fc']) ∧ w'.ownsRow w.heap.size 3 1 (.slice fa' fs.length fc') fs.length (fs.map iv) ∧ Below w.heap.size w w' := by
  have b1 := below_alloc w (.cells #[.int .i64 keep, .bool reset, .slice fa fn fc] FT)
  have b2 := b1.alloc b1.size (.cells #[.int .i64 0, .bool false, .slice none 0 0] FT)
  have KC := copyInts_any fa fn fc fs _ (h.below b2) hn8
  have H2 := Lib.hid b2
  clear b1 b2 h
  go_enter Try.func16, Try.ntmps16
  go_wp2_with fail
  (with_reducible refine KC.mono ?_)
  rintro e w3 ⟨a3, c3, rfl, o3, b3⟩
  clear KC
  obtain ⟨p, hp⟩ : ∃ p, p = w.heap.size := ⟨_, rfl⟩
  have e1 := heap_alloc_self w (.cells #[.int .i64 keep, .bool reset, .slice fa fn fc] FT)
  have z1 := alloc_sz' w (.cells #[.int .i64 keep, .bool reset, .slice fa fn fc] FT)
  have e2 := heap_alloc_self (w.alloc (.cells #[.int .i64 keep, .bool reset, .slice fa fn fc] FT)) (.cells #[.int .i64 0, .bool false, .slice none 0 0] FT)
  have e1' := (heap_alloc_old (w.alloc (.cells #[.int .i64 keep, .bool reset, .slice fa fn fc] FT)) (.cells #[.int .i64 0, .bool false, .slice none 0 0] FT) (show w.heap.size < (w.alloc (.cells #[.int .i64 keep, .bool reset, .slice fa fn fc] FT)).heap.size by omega)).trans e1
  obtain ⟨w2, hw2⟩ : ∃ x, x = (w.alloc (.cells #[.int .i64 keep, .bool reset, .slice fa fn fc] FT)).alloc (.cells #[.int .i64 0, .bool false, .slice none 0 0] FT) := ⟨_, rfl⟩
  have z2 := alloc_sz' (w.alloc (.cells #[.int .i64 keep, .bool reset, .slice fa fn fc] FT)) (.cells #[.int .i64 0, .bool false, .slice none 0 0] FT)
  rw [← hw2] at o3 b3 e2 e1' z2
  have H2' := H2.out
  rw [← hw2] at H2'
  rw [z1] at e2 z2
  clear hw2 H2
  have f1 := (b3.block w.heap.size (by omega)).trans e1'
  have f2 := (b3.block (w.heap.size + 1) (by omega)).trans e2
  rw [← hp] at f1 f2 ⊢
  obtain ⟨c0, c1, c2, cF⟩ := cells3D f1
  have cF2 := cF 2
  have HF1 := Lib.hid f1
  have HF2 := Lib.hid f2
  have HO3 := Lib.hid o3
  have HB3 := Lib.hid (H2'.trans (b3.mono H2'.size))
  have HZ := Lib.hid (show w2.heap.size = p + 2 by omega)
  have HS3 := Lib.hid b3.size
  have HP := Lib.hid hp
  clear e1 z1 e2 e1' z2 f1 f2 o3 b3 H2' cF hp
  obtain ⟨g0, g1, g2, gF⟩ := cells3D HF2.out
  have gF0 := gF 0
  have gF1 := gF 1
  have gF2 := gF 2
  clear gF
  go_wp2
  have k1 := (heap_setCell_other w3 ⟨p, 2, none⟩ (p + 1) (.slice a3 fs.length c3) (by show p + 1 ≠ p; omega)).trans HF2.out
  have k4 := heap_setCell_same _ (p + 1) 2 _ _ (.slice a3 fs.length c3) (heap_setCell_same _ (p + 1) 1 _ _ (.bool reset) (heap_setCell_same _ (p + 1) 0 _ _ (.int .i64 keep) k1))
  have hch : ChF (fun q => q = p ∨ q = p + 1) w3 ((((w3.setCell ⟨p, 2, none⟩ (.slice a3 fs.length c3)).setCell ⟨p + 1, 0, none⟩ (.int .i64 keep)).setCell ⟨p + 1, 1, none⟩ (.bool reset)).setCell ⟨p + 1, 2, none⟩ (.slice a3 fs.length c3)) :=
    ((((ChF.refl (fun q => q = p ∨ q = p + 1) w3).set (g := p) (.inl (.inl rfl))).set (g := p + 1) (.inl (.inr rfl))).set (g := p + 1) (.inl (.inr rfl))).set (g := p + 1) (.inl (.inr rfl))
  refine bodyPost_ret (results_fate _ _ (p + 1) _ rfl k4 rfl) rfl ⟨a3, c3, rfl, own_ChF (ownsRow_base HO3.out (by have := HZ.out; have := HP.out; omega)) hch (fun q hq e => ?_), HB3.out.trans (hch.below (B := w.heap.size) (fun q e => by have := HP.out; omega) HB3.out.size)⟩
  have := (HO3.out.lt q hq).1
  have := HZ.out
  omega
end Go.Proofs.Ytdidalcflkphnaa
