/-
  tally: the reference.
-/
import Derived.Test.YtehaijdbmnljnaaTaK
import Derived.Deep.RegionHeld3
namespace Go.Proofs.Ytehaijdbmnljnaa
open Go.RowKit

/-- those of the first k that have said x. -/
def those (said : List Int) (x : Int) : Nat → List Int
  | 0 => []
  | k + 1 => those said x k ++ (if said.getD k 0 = x then [(k : Int)] else [])
theorem those_silent (said : List Int) : ∀ k, those said 0 k = silent said k
  | 0 => rfl
  | k + 1 => by simp only [those, silent, those_silent said k]
theorem those_length (said : List Int) (x : Int) : ∀ k, k ≤ said.length → (those said x k).length = cnt said k x
  | 0, _ => by simp [those, cnt]
  | k + 1, h => by
    rw [cnt_succ said k x (by omega)]
    simp only [those, List.length_append]
    rw [those_length said x k (by omega)]
    split <;> simp
theorem those_le (said : List Int) (x : Int) : ∀ k, (those said x k).length ≤ k
  | 0 => Nat.le_refl _
  | k + 1 => by
    have := those_le said x k
    simp only [those, List.length_append]
    split <;> simp <;> omega

theorem loadVar_rt (w : World) (g : Nat) (cs : Array Value) (hg : w.heap[g]? = some (.cells cs 28 (0, 0))) (hs : cs.size = 2) : (loadVar 28 ⟨g, 0, none⟩).run Try.prog w = .ok (.agg cs) w :=
  run_loadVar_row w g 28 28 cs (0, 0) _ hg Try.underlying28 rfl (by rw [hs]; kernel_rfl)

theorem results_rt (tmps : Array Value) (w : World) (g : Nat) (cs : Array Value) (hp : tmps.getD 4 undef = .pointer (some ⟨g, 0, none⟩)) (hg : w.heap[g]? = some (.cells cs 28 (0, 0))) (hs : cs.size = 2) :
    (results Try.f10 tmps).run Try.prog w = .ok (.agg cs) w := by
  have hp' : tmps[4]?.getD undef = .pointer (some ⟨g, 0, none⟩) := by simpa using hp
  simp [results, Try.results10, hp', asAddr, loadVar_rt w g cs hg hs]
theorem below_setRowT {B : Nat} {a w : World} (h : Below B a w) {g : Nat} (hg : B ≤ g) (cs : Array Value) : Below B a (w.setRow g cs) :=
  ⟨h.os, h.tape, h.output, by simpa using h.size, fun k hk => (setRow_other w g k cs (by omega)).trans (h.block k hk)⟩
theorem two_alloc (w : World) (A B : Obj) : ((w.alloc A).alloc B).heap[w.heap.size + 1]? = some B := by
  have := heap_alloc_new (w.alloc A) B
  simpa using this
theorem ne_own {w : World} {base : Nat} {e : TypeId} {size : Nat} {v : Value} {n : Nat} {xs : List Value} (h : w.ownsRow base e size v n xs) {g : Nat} (hg : g < base) : some g ≠ v.ownBlock := by
  intro e
  have := ownBlock_ge h g e.symm
  omega

set_option maxRecDepth 10000 in
set_option maxHeartbeats 4000000 in
theorem refNew_any (nodes need : Int) (w : World) :
    Calls Try.prog 10 #[.int .i64 nodes, .int .i64 need] w fun e w' => ∃ ad cap, e = .returned (.agg #[.slice ad (nodesOf nodes) cap, .int .i64 need]) ∧ IntsV w' (ad, nodesOf nodes, cap) (List.replicate (nodesOf nodes) 0) ∧ (∀ a, ad = some a → w.heap.size ≤ a.block ∧ a.block < w'.heap.size) ∧ Below w.heap.size w w' := by
  obtain ⟨i0, hi, hz0, hz1, hz2⟩ := info_partsT Try.infoInt
  have hle : nodesOf nodes ≤ 8 := by unfold nodesOf; omega
  go_enter Try.func10, Try.ntmps10
  go_wp2
  obtain ⟨w2, hw2⟩ : ∃ w2, w2 = (w.alloc (.cells #[.slice none 0 0, .int .i64 0] 28)).alloc (.cells #[.slice none 0 0, .int .i64 need] 28) := ⟨_, rfl⟩
  rw [← hw2]
  have hsz : w2.heap.size = w.heap.size + 2 := by rw [hw2]; simp
  have h4 : w2.heap[w.heap.size]? = some (.cells #[.slice none 0 0, .int .i64 0] 28 (0, 0)) := by
    rw [hw2, heap_alloc_old _ _ (by simp)]; exact heap_alloc_new _ _
  have h5 : w2.heap[w.heap.size + 1]? = some (.cells #[.slice none 0 0, .int .i64 need] 28 (0, 0)) := by
    rw [hw2]
    have := heap_alloc_new (w.alloc (.cells #[.slice none 0 0, .int .i64 0] 28)) (.cells #[.slice none 0 0, .int .i64 need] 28)
    simpa using this
  have hb2 : Below w.heap.size w w2 := by rw [hw2]; exact (below_alloc _ _).alloc (by simp) _
  have hown0 : w2.ownsRow w2.heap.size 3 1 (.slice none 0 0) 0 ([] : List Value) := ⟨rfl, .inl ⟨rfl, rfl⟩⟩
  clear hw2
  go_loopw [6] (fun i wr => ∃ k : Nat, k ≤ nodesOf nodes ∧ i = .int .i64 k ∧ (∃ v, Hid (wr.heap[w.heap.size + 1]? = some (.cells #[v, .int .i64 need] 28 (0, 0))) ∧ wr.ownsRow w2.heap.size 3 1 v k ((List.replicate k (0 : Int)).map iv)) ∧ Hid (wr.heap[w.heap.size]? = some (.cells #[.slice none 0 0, .int .i64 0] 28 (0, 0))) ∧ Below w.heap.size w wr ∧ w2.heap.size ≤ wr.heap.size) (fun i _ => nodesOf nodes - (intOf i).toNat)
  case atStart => exact ⟨0, Nat.zero_le _, rfl, ⟨_, Lib.hid h5, hown0⟩, Lib.hid h4, hb2, Nat.le_refl _⟩
  case round =>
    clear h4 h5 hown0 hb2
    obtain ⟨k, hk, rfl, ⟨v, H5, hown⟩, H4, hb, hs2⟩ := hrel
    have k0 : wr.cell? ⟨w.heap.size + 1, 0, none⟩ = some v := cell_of_row _ _ 0 _ _ _ H5.out
    have k1 : wr.cell? ⟨w.heap.size + 1, 1, none⟩ = some (.int .i64 need) := cell_of_row _ _ 1 _ _ _ H5.out
    obtain ⟨ad, cap, rfl, hcase, _⟩ := ownsRow_parts hown
    by_cases hkN : k < nodesOf nodes
    · have hk1 : (k : Int) < nodes := by unfold nodesOf at hkN; omega
      have hk2 : (k : Int) < 8 := by omega
      go_wp2_with (first
        | (at_builtin; refine wpList_append_row rfl (.tmp 19) (.tmp 20) 26 rfl w2.heap.size 3 i0 (.int .i64 0) 8 Try.underlying26 hi hz0 hz1 hz2 rfl _ _ _ rfl (hown.alloc _) (some ⟨wr.heap.size, 0, Option.none⟩) 1 1 [iv 0] rfl (rowV_lit _ _ _ _ _ _ rfl rfl rfl) (by intro h; cases h) (iv_ones [0]) (by simp [maxLen]; omega) (by omega) (by simp; omega) ?_; intro v' w4 hown4 hgrow4 _; have hgrow5 := grownBy_trans (World.grownBy_alloc wr (.cells #[.int .i64 0] 3) (Value.slice ad k cap).ownBlock) hgrow4; have H5' := (hgrow5.block (w.heap.size + 1) (by omega) (ne_own hown (by omega))).trans H5.out; have H4' := (hgrow5.block w.heap.size (by omega) (ne_own hown (by omega))).trans H4.out; have hf4 := frozen_of_row w4 (w.heap.size + 1) 0 _ _ H5'; have hc4 := cell_of_row w4 (w.heap.size + 1) 0 _ _ _ H5'; clear hgrow4; obtain ⟨ad', cap', rfl, _⟩ := ownsRow_parts hown4))
      have hg6 := grownBy_setCell w4 ⟨w.heap.size + 1, 0, none⟩ (.slice ad' (k + 1) cap')
      have hb4 : Below w.heap.size w w4 := hb.grown hgrow5 hb.size (fun j hj => Nat.le_trans (by omega) (ownBlock_ge hown j hj))
      have hb6 := hb4.setCell (p := ⟨w.heap.size + 1, 0, none⟩) (Nat.le_succ _) (.slice ad' (k + 1) cap')
      have hs6 := hgrow5.size
      go_roundw
      case rel =>
        refine ⟨k + 1, by omega, by go_num, ⟨_, Lib.hid (heap_setCell_same w4 (w.heap.size + 1) 0 _ _ _ H5'), ?_⟩, Lib.hid ((heap_setCell_other w4 ⟨w.heap.size + 1, 0, none⟩ w.heap.size _ (by simp)).trans H4'), hb6, by have := hg6.size; omega⟩
        rw [List.replicate_succ', List.map_append]
        exact hown4.kept hg6 (.inr (fun e => (ne_own (g := w.heap.size + 1) hown4 (by omega)) e.symm))
      case measure => simp [intOf]; omega
    · have hkN2 : k = nodesOf nodes := by omega
      have hI : IntsV wr (ad, k, cap) (List.replicate k 0) := (intsV_own hown (by omega)).1
      have harm : (k : Int) < nodes ∧ (8 : Int) ≤ k ∨ nodes ≤ k := by unfold nodesOf at hkN2; omega
      clear hkN
      have q0 : wr.cell? ⟨w.heap.size, 0, none⟩ = some (.slice none 0 0) := cell_of_row _ _ 0 _ _ _ H4.out
      have q1 : wr.cell? ⟨w.heap.size, 1, none⟩ = some (.int .i64 0) := cell_of_row _ _ 1 _ _ _ H4.out
      have q2 : ∀ j, wr.frozen? ⟨w.heap.size, j, none⟩ = false := fun j => frozen_of_row _ _ _ _ _ H4.out
      have hset : ((wr.setCell ⟨w.heap.size, 0, none⟩ (.slice ad k cap)).setCell ⟨w.heap.size, 1, none⟩ (.int .i64 need)).heap[w.heap.size]? = some (.cells #[.slice ad k cap, .int .i64 need] 28 (0, 0)) :=
        heap_setCell_same _ _ 1 _ _ _ (heap_setCell_same wr _ 0 _ _ _ H4.out)
      have hbS : Below w.heap.size w ((wr.setCell ⟨w.heap.size, 0, none⟩ (.slice ad k cap)).setCell ⟨w.heap.size, 1, none⟩ (.int .i64 need)) := (hb.setCell (p := ⟨w.heap.size, 0, none⟩) (Nat.le_refl _) _).setCell (p := ⟨w.heap.size, 1, none⟩) (Nat.le_refl _) _
      have hIS : IntsV ((wr.setCell ⟨w.heap.size, 0, none⟩ (.slice ad k cap)).setCell ⟨w.heap.size, 1, none⟩ (.int .i64 need)) (ad, k, cap) (List.replicate k 0) := hI.grown (b := w.heap.size) (grownBy_trans (grownBy_setCell _ ⟨w.heap.size, 0, none⟩ _) (grownBy_setCell _ ⟨w.heap.size, 1, none⟩ _)) (by
        intro a ha
        rcases hcase with ⟨h1, _⟩ | ⟨g, h1, h2, _⟩
        · rw [h1] at ha; cases ha
        · rw [h1] at ha; cases ha; simp only; omega)
      have hkN3 := Lib.hid hkN2
      clear hkN2
      rcases harm with ⟨h8, h9⟩ | h8
      all_goals
        go_wp2
        exact bodyPost_ret (v := .agg #[.slice ad k cap, .int .i64 need]) (results_rt _ _ _ _ rfl hset rfl) rfl ⟨ad, cap, by rw [hkN3.out], by rw [← hkN3.out]; exact hIS, (fun a ha => by
          rcases hcase with ⟨h1, _⟩ | ⟨g, h1, h2, h3⟩
          · rw [h1] at ha; cases ha
          · rw [h1] at ha; cases ha; exact ⟨by simp only; omega, by simpa using h3⟩), hbS⟩

theorem results_rs (tmps : Array Value) (w : World) (g : Nat) (cs : Array Value) (hp : tmps.getD 6 undef = .pointer (some ⟨g, 0, none⟩)) (hg : w.heap[g]? = some (.cells cs 28 (0, 0))) (hs : cs.size = 2) :
    (results Try.f13 tmps).run Try.prog w = .ok (.agg cs) w := by
  have hp' : tmps[6]?.getD undef = .pointer (some ⟨g, 0, none⟩) := by simpa using hp
  simp [results, Try.results13, hp', asAddr, loadVar_rt w g cs hg hs]

set_option maxRecDepth 10000 in
set_option maxHeartbeats 4000000 in
theorem refSay_stays (need node x : Int) (N : Nat) (ad : Option Addr) (cap : Nat) (sd : List Int) (w : World) (hI : IntsV w (ad, N, cap) sd) (hN : N ≤ 8) (h : node < 0 ∨ (N : Int) ≤ node ∨ (0 ≤ node ∧ node < N ∧ sd.getD node.toNat 0 ≠ 0)) :
    Calls Try.prog 13 #[.agg #[.slice ad N cap, .int .i64 need], .int .i64 node, .int .i64 x] w fun e w' => e = .returned (.agg #[.slice ad N cap, .int .i64 need]) ∧ IntsV w' (ad, N, cap) sd ∧ Below w.heap.size w w' := by
  have hl : sd.length = N := hI.length
  have hbF : Below w.heap.size w ((w.alloc (.cells #[.slice ad N cap, .int .i64 need] 28)).alloc (.cells #[.slice ad N cap, .int .i64 need] 28)) := (below_alloc _ _).alloc (by simp) _
  have hF := two_alloc w (.cells #[.slice ad N cap, .int .i64 need] 28) (.cells #[.slice ad N cap, .int .i64 need] 28)
  rcases h with h | h | ⟨h0, h1, h2⟩
  · go_enter Try.func13, Try.ntmps13
    go_wp2
    refine bodyPost_ret (v := .agg #[.slice ad N cap, .int .i64 need]) (results_rs _ _ _ _ rfl hF rfl) rfl ⟨rfl, hI.below hbF, hbF⟩
  · go_enter Try.func13, Try.ntmps13
    go_wp2
    refine bodyPost_ret (v := .agg #[.slice ad N cap, .int .i64 need]) (results_rs _ _ _ _ rfl hF rfl) rfl ⟨rfl, hI.below hbF, hbF⟩
  · obtain ⟨i, rfl⟩ := Int.eq_ofNat_of_zero_le h0
    have hi : i < N := by omega
    obtain ⟨b3, o3, e3, hc3⟩ := hI.row.2 (by simp; omega)
    simp only at e3
    subst e3
    have d1 := (hc3 i hi).trans (iv_getD (by omega))
    clear hc3
    obtain ⟨y, hy⟩ : ∃ y, y = sd.getD i 0 := ⟨_, rfl⟩
    have hy0 : (y != 0) = true := by rw [bne_iff_ne, hy]; simpa using h2
    rw [← hy] at d1
    clear hy h2
    have hlt : b3 < w.heap.size := hI.row.lt (by simp; omega) rfl
    obtain ⟨w2, hw2⟩ : ∃ w2, w2 = (w.alloc (.cells #[.slice (some ⟨b3, o3, none⟩) N cap, .int .i64 need] 28)).alloc (.cells #[.slice none 0 0, .int .i64 0] 28) := ⟨_, rfl⟩
    have hb2 : Below w.heap.size w w2 := by rw [hw2]; exact (below_alloc _ _).alloc (by simp) _
    have d2 : w2.cell? ⟨b3, o3 + i, none⟩ = some (.int .i64 y) := (hb2.cell hlt).trans d1
    rw [hw2] at d2
    clear hw2
    go_enter Try.func13, Try.ntmps13
    go_wp2
    refine bodyPost_ret (v := .agg #[.slice (some ⟨b3, o3, none⟩) N cap, .int .i64 need]) (results_rs _ _ _ _ rfl hF rfl) rfl ⟨rfl, hI.below hbF, hbF⟩
end Go.Proofs.Ytehaijdbmnljnaa
