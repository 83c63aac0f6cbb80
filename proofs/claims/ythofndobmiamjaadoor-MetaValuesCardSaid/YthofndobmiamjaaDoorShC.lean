/-
  sha: elements of arrays; a block's words.
-/
import Derived.Test.YthofndobmiamjaaDoorShB
import Derived.Laws.ResultCell
import Derived.Deep.CutBlock
import Derived.Deep.DeepCutAuto
namespace Go.Proofs.YthofndobmiamjaaDoor
open Go.RowKit

def uv (n : Nat) : Value := .int .u32 (n : Nat)
theorem index_u8 (A : Array Value) (k : Nat) (x : Value) (h : A[k]? = some x) (hk : k < 64) (w : World) : (Instr.index 54 (.agg A) (.int .i64 (k : Nat))).run Tryd.prog w = .ok x w := by
  have h2 : (sizeOf 5).run Tryd.prog w = .ok 1 w := by kernel_rfl
  simp [Instr.index, go_sem, Sem.run_bind, run_underlying Tryd.underlying54, h2, part, h]
  omega
theorem index_8 (A : Array Value) (k : Nat) (x : Value) (h : A[k]? = some x) (hk : k < 8) (w : World) : (Instr.index 48 (.agg A) (.int .i64 (k : Nat))).run Tryd.prog w = .ok x w := by
  have h2 : (sizeOf 47).run Tryd.prog w = .ok 1 w := by kernel_rfl
  simp [Instr.index, go_sem, Sem.run_bind, run_underlying Tryd.underlying48, h2, part, h]
  omega
theorem index_64 (A : Array Value) (k : Nat) (x : Value) (h : A[k]? = some x) (hk : k < 64) (w : World) : (Instr.index 58 (.agg A) (.int .i64 (k : Nat))).run Tryd.prog w = .ok x w := by
  have h2 : (sizeOf 47).run Tryd.prog w = .ok 1 w := by kernel_rfl
  simp [Instr.index, go_sem, Sem.run_bind, run_underlying Tryd.underlying58, h2, part, h]
  omega
/-- the words, so far as k bytes say. -/
def wordsTo (b : List Nat) : Nat → List Nat
  | 0 => List.replicate 16 0
  | k + 1 => (wordsTo b k).set (k / 4) (g' (wordsTo b k) (k / 4) * 256 + g' b k)
theorem wordsTo_len (b : List Nat) : ∀ k, (wordsTo b k).length = 16
  | 0 => rfl
  | k + 1 => by simp only [wordsTo, List.length_set]; exact wordsTo_len b k
/-- a word of which m bytes are there. -/
def pwS (b : List Nat) (i : Nat) : Nat → Nat
  | 0 => 0
  | 1 => g' b (4 * i)
  | 2 => g' b (4 * i) * 256 + g' b (4 * i + 1)
  | 3 => (g' b (4 * i) * 256 + g' b (4 * i + 1)) * 256 + g' b (4 * i + 2)
  | _ + 4 => wordR b i
theorem wordsTo_at (b : List Nat) : ∀ k, k ≤ 64 → ∀ i, i < 16 → g' (wordsTo b k) i = pwS b i (k - 4 * i)
  | 0, _, i, hi => by
    rw [Nat.zero_sub]
    show (List.replicate 16 0).getD i 0 = 0
    rw [List.getD_eq_getElem?_getD, List.getElem?_replicate, if_pos hi]; rfl
  | k + 1, hk, i, hi => by
    have ih := wordsTo_at b k (by omega) i hi
    have hlen := wordsTo_len b k
    by_cases e : k / 4 = i
    · have h4 : k - 4 * i = 0 ∨ k - 4 * i = 1 ∨ k - 4 * i = 2 ∨ k - 4 * i = 3 := by omega
      have hs : g' (wordsTo b (k + 1)) i = g' (wordsTo b k) i * 256 + g' b k := by
        simp only [wordsTo]
        rw [e]
        unfold g'
        rw [List.getD_eq_getElem?_getD, List.getElem?_set_self (by rw [hlen]; exact hi)]
        rfl
      rw [hs, ih]
      rcases h4 with h | h | h | h
      · rw [h, show k + 1 - 4 * i = 1 by omega, show k = 4 * i by omega]; simp [pwS]
      · rw [h, show k + 1 - 4 * i = 2 by omega, show k = 4 * i + 1 by omega]; simp [pwS]
      · rw [h, show k + 1 - 4 * i = 3 by omega, show k = 4 * i + 2 by omega]; simp [pwS]
      · rw [h, show k + 1 - 4 * i = 4 by omega, show k = 4 * i + 3 by omega]; simp [pwS, wordR]
    · have hs : g' (wordsTo b (k + 1)) i = g' (wordsTo b k) i := by
        simp only [wordsTo]
        unfold g'
        rw [List.getD_eq_getElem?_getD, List.getElem?_set_ne e, ← List.getD_eq_getElem?_getD]
      rw [hs, ih]
      by_cases hlt : k < 4 * i
      · rw [show k - 4 * i = 0 by omega, show k + 1 - 4 * i = 0 by omega]
      · obtain ⟨m, hm⟩ : ∃ m, k - 4 * i = m + 4 := ⟨k - 4 * i - 4, by omega⟩
        rw [hm, show k + 1 - 4 * i = (m + 1) + 4 by omega]
        simp only [pwS]
theorem wordsTo_all (b : List Nat) : wordsTo b 64 = wordsR b := by
  apply List.ext_getElem (by rw [wordsTo_len, wordsR_len])
  intro i h1 h2
  rw [wordsTo_len] at h1
  have h := wordsTo_at b 64 (Nat.le_refl _) i h1
  unfold g' at h
  rw [List.getD_eq_getElem?_getD, List.getElem?_eq_getElem (by rw [wordsTo_len]; exact h1)] at h
  simp only [Option.getD_some] at h
  rw [h]
  obtain ⟨m, hm⟩ : ∃ m, 64 - 4 * i = m + 4 := ⟨60 - 4 * i, by omega⟩
  rw [hm]
  show wordR b i = _
  simp [wordsR]
theorem pwS_lt {b : List Nat} (h : Bytes b) (i m : Nat) (hm : m < 4) : pwS b i m < 16777216 := by
  have h0 := h.getD (4 * i)
  have h1 := h.getD (4 * i + 1)
  have h2 := h.getD (4 * i + 2)
  have h4 : m = 0 ∨ m = 1 ∨ m = 2 ∨ m = 3 := by omega
  rcases h4 with rfl | rfl | rfl | rfl <;> simp only [pwS, g'] <;> omega
theorem shl8_u32 (x d : Nat) (hx : x < 16777216) (hd : d < 256) : bits .or .u32 ((x : Int) * 256) (d : Int) = ((x * 256 + d : Nat) : Int) := by
  have e : x * 256 ||| d = x * 256 + d := by
    rw [show x * 256 = x <<< 8 from (Nat.shiftLeft_eq x 8).symm, ← Nat.shiftLeft_add_eq_or_of_lt hd]
  have h1 : (x : Int) * 256 = ((x * 256 : Nat) : Int) := by simp
  rw [h1, u32_or_nat _ _ (by omega) (by omega), e]
theorem uv_at {l : List Nat} {i : Nat} (h : i < l.length) : (l.map uv).toArray[i]? = some (.int .u32 (g' l i : Nat)) := by
  simp [uv, g', h]
theorem bv_at {l : List Nat} {i : Nat} (h : i < l.length) : (l.map bv).toArray[i]? = some (.int .u8 (g' l i : Nat)) := by
  simp [bv, g', h]
theorem set_uv (l : List Nat) (i x : Nat) : ((l.map uv).toArray).setIfInBounds i (.int .u32 (x : Nat)) = ((l.set i x).map uv).toArray := by
  simp [uv, List.map_set]
abbrev AT16 : TypeId := 74
abbrev AT8 : TypeId := 48
abbrev BT64 : TypeId := 54
theorem below_setRow {B : Nat} {w w' : World} (h : Below B w w') {g : Nat} (hg : B ≤ g) (cs : Array Value) : Below B w (w'.setRow g cs) :=
  ⟨h.os, h.tape, h.output, by simpa using h.size, fun k hk => (_root_.Go.setRow_other w' g k cs (by omega)).trans (h.block k hk)⟩
structure WdS (w W : World) (A : Array Value) (l : List Nat) : Prop where
  bel : Below w.heap.size w W
  a : W.heap[w.heap.size]? = some (.cells A BT64 (0, 0))
  r : W.heap[w.heap.size + 1]? = some (.cells ((List.replicate 16 0).map uv).toArray AT16 (0, 0))
  s : W.heap[w.heap.size + 1 + 1]? = some (.cells (l.map uv).toArray AT16 (0, 0))
theorem WdS.start (w : World) (A : Array Value) (l : List Nat) (hl : l = List.replicate 16 0) : WdS w (((w.alloc (.cells A BT64)).alloc (.cells ((List.replicate 16 0).map uv).toArray AT16)).alloc (.cells ((List.replicate 16 0).map uv).toArray AT16)) A l := by
  subst hl
  refine ⟨(below_alloc w _).trans (((below_alloc _ _).mono (by simp)).trans ((below_alloc _ _).mono (by simp <;> omega))), ?_, ?_, ?_⟩
  · rw [heap_alloc_old _ _ (by simp; omega), heap_alloc_old _ _ (by simp)]; exact heap_alloc_new w _
  · rw [heap_alloc_old _ _ (by simp)]
    have := heap_alloc_new (w.alloc (.cells A BT64)) (.cells ((List.replicate 16 0).map uv).toArray AT16)
    simpa using this
  · have := heap_alloc_new ((w.alloc (.cells A BT64)).alloc (.cells ((List.replicate 16 0).map uv).toArray AT16)) (.cells ((List.replicate 16 0).map uv).toArray AT16)
    simpa using this
theorem WdS.set {w W : World} {A : Array Value} {l : List Nat} (h : WdS w W A l) (i x : Nat) : WdS w (W.setCell ⟨w.heap.size + 1 + 1, i, none⟩ (.int .u32 (x : Nat))) A (l.set i x) :=
  ⟨h.bel.setCell (p := ⟨w.heap.size + 1 + 1, i, none⟩) (by show w.heap.size ≤ w.heap.size + 1 + 1; omega) _, (heap_setCell_other W ⟨w.heap.size + 1 + 1, i, none⟩ _ _ (by simp only; omega)).trans h.a, (heap_setCell_other W ⟨w.heap.size + 1 + 1, i, none⟩ _ _ (by simp only; omega)).trans h.r, by rw [← set_uv]; exact heap_setCell_same W _ i _ AT16 _ h.s⟩
set_option maxRecDepth 100000 in
set_option maxHeartbeats 4000000 in
theorem wordsOf_any (b : List Nat) (hb : Bytes b) (hl : b.length = 64) (w : World) :
    Calls Tryd.prog 44 #[.agg (b.map bv).toArray] w fun e w' => e = .returned (.agg ((wordsR b).map uv).toArray) ∧ Below w.heap.size w w' := by
  obtain ⟨A, hA⟩ : ∃ A, A = (b.map bv).toArray := ⟨_, rfl⟩
  have hsz : A.size = 64 := by rw [hA]; simp [hl]
  have HA := Lib.hid hA
  have HB := Lib.hid hb
  have HL := Lib.hid hl
  have HSZ := Lib.hid hsz
  rw [← hA]
  clear hA hb hl hsz
  go_enter Tryd.func44, Tryd.ntmps44
  go_upto_region 2 with fail
  refine (?_ : ∀ W, WdS w W A (wordsTo b 0) → Code.wp Tryd.prog _ _ _ W) _ (WdS.start w A (wordsTo b 0) rfl)
  intro W hW
  have HW := Lib.hid hW
  go_wp2_with (refine wpList_load_row rfl 54 _ rfl w.heap.size rfl BT64 A (0, 0) _ HW.out.a Tryd.underlying54 rfl (by rw [HSZ.out]; kernel_rfl) ?_)
  clear hW
  go_loopw [7] (fun vi wr => ∃ k : Nat, k ≤ 64 ∧ vi = .int .i64 k ∧ Hid (WdS w wr A (wordsTo b k))) (fun vi _ => (64 - intOf vi).toNat)
  case atStart => exact ⟨0, by omega, rfl, HW⟩
  case round =>
    clear HW
    obtain ⟨k, hk, rfl, HW⟩ := hrel
    by_cases hlt : k < 64
    · obtain ⟨j, hj⟩ : ∃ j, j = k / 4 := ⟨_, rfl⟩
      have hj16 : j < 16 := by omega
      obtain ⟨x, hx⟩ : ∃ x, x = g' (wordsTo b k) j := ⟨_, rfl⟩
      obtain ⟨d, hd⟩ : ∃ d, d = g' b k := ⟨_, rfl⟩
      have hx24 : x < 16777216 := by
        rw [hx, wordsTo_at b k (by omega) j hj16]
        exact pwS_lt HB.out _ _ (by omega)
      have hd8 : d < 256 := by rw [hd]; exact HB.out.getD k
      have hix := fun w => index_u8 A k (.int .u8 (d : Nat)) (by rw [HA.out, hd]; exact bv_at (by rw [HL.out]; exact hlt)) hlt w
      have hc : wr.cell? ⟨w.heap.size + 1 + 1, j, none⟩ = some (.int .u32 (x : Nat)) := by
        rw [cell_of_row _ _ _ _ _ _ HW.out.s, hx]
        exact uv_at (by rw [wordsTo_len]; exact hj16)
      have hfz : wr.frozen? ⟨w.heap.size + 1 + 1, j, none⟩ = false := frozen_of_row _ _ _ _ _ HW.out.s
      have hor := shl8_u32 x d hx24 hd8
      obtain ⟨y, hy⟩ : ∃ y, y = x * 256 + d := ⟨_, rfl⟩
      rw [← hy] at hor
      have HS : Hid (WdS w (wr.setCell ⟨w.heap.size + 1 + 1, j, none⟩ (.int .u32 (y : Nat))) A (wordsTo b (k + 1))) := Lib.hid (by
        have := HW.out.set j y
        simp only [wordsTo]
        rw [← hj, ← hx, ← hd, ← hy]
        exact this)
      have hq4 : (k : Int) / 4 = (j : Nat) := by omega
      have hqt : (k : Int).tdiv 4 = (j : Nat) := by rw [Int.tdiv_eq_ediv_of_nonneg (by omega)]; exact hq4
      clear hj hx hd hy
      go_wp2
      go_roundw
      case rel => exact ⟨k + 1, by omega, by go_num, HS⟩
      case measure => simp [intOf] <;> omega
    · obtain rfl : k = 64 := by omega
      have hW := HW.out
      rw [wordsTo_all] at hW
      obtain ⟨R, hR⟩ : ∃ R, R = ((wordsR b).map uv).toArray := ⟨_, rfl⟩
      have hs := hW.s
      rw [← hR] at hs
      have HRE := Lib.hid hR
      have hRs : R.size = 16 := by rw [hR]; simp [wordsR_len]
      have hi16 : (Tryd.prog.info? AT16).map (·.size) = some R.size := by rw [hRs]; kernel_rfl
      have HE := Lib.hid (And.intro hW.bel (And.intro hW.r hs))
      have hone : R.all (·.oneCell') = true := by
        rw [hR]
        simp [uv, Value.oneCell']
      have hrs : ((List.replicate 16 0).map uv).toArray.size = R.size := by rw [hRs]; rfl
      clear hW hs hR HW
      go_wp2_with (first | (refine wpList_load_row rfl AT16 _ rfl (w.heap.size + 1 + 1) rfl AT16 R (0, 0) _ HE.out.2.2 Tryd.underlying74 rfl hi16 ?_) | (refine wpList_store_row rfl AT16 _ _ rfl (w.heap.size + 1) R rfl rfl AT16 _ HE.out.2.1 hi16 hrs hone ?_))
      refine bodyPost_ret (results_cell_row rfl _ _ (w.heap.size + 1) AT16 R (0, 0) _ rfl ?hh Tryd.underlying74 rfl hi16) (by rfl) ?_
      · exact setRow_heap _ _ _ _ _ _ HE.out.2.1
      exact ⟨by rw [HRE.out], below_setRow HE.out.1 (by omega) _⟩
end Go.Proofs.YthofndobmiamjaaDoor
