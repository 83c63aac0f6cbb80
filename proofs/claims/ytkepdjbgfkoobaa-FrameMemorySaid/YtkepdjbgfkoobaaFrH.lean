/-
  frame: the laws' 'alive'.
-/
import Derived.Test.YtkepdjbgfkoobaaFrG
import Derived.Lib.SlBytesConst
namespace Go.Proofs.Ytkepdjbgfkoobaa
open Go.RowKit

theorem bytesV_litF (w : World) (cs : Array Value) (T : TypeId) (fr : Nat × Nat) (n : Nat) (l : List Nat) (hcs : cs.toList = l.map bv) (hn : l.length = n) (hl : Bytes l) (hs : n ≤ 140737488355328) :
    BytesV (w.alloc (.cells cs T fr)) (some ⟨w.heap.size, 0, none⟩, n, n) l := by
  refine ⟨⟨by simpa using hn, fun _ => ⟨w.heap.size, 0, rfl, fun i hi => ?_⟩⟩, hl, hs, Nat.le_refl _, fun h => by cases h⟩
  rw [cell_of_row _ _ _ _ _ _ (heap_alloc_new w _), ← hcs]
  simp
theorem rowV_own {w : World} {base : Nat} {T : TypeId} {ad : Option Addr} {n cap : Nat} {xs : List Value} (h : w.ownsRow base T 1 (.slice ad n cap) n xs) : RowV w ad n xs := by
  obtain ⟨ad', cap', e, _, _, _, hr⟩ := ownsRow_parts h
  cases e
  exact hr
theorem decide_true_of {p : Prop} [Decidable p] (h : p) : Ending.returned (.bool (decide p)) = .returned (.bool true) := by rw [decide_eq_true h]

def ab : List Nat := [97, 98]
theorem ab_bytes : Bytes ab := bytes_of (by decide)
theorem scan_ab : scanN (frameN ab) = ([ab], 10) := by
  have := scan_frames [ab] (fun p hp => by simp at hp; subst hp; exact ⟨ab_bytes, by decide⟩) []
  simpa [framesN, frameN_length, ab, scanN, scanF] using this

set_option maxRecDepth 100000 in
set_option maxHeartbeats 4000000 in
theorem alive_any (w : World) : Calls Try.prog 10 #[] w fun e w' => e = .returned (.bool true) ∧ Below w.heap.size w w' := by
  have kc := fun (w : World) (C : Array Value) (n c : Nat) => Lib.run_convert_bytes_const (P := Try.prog) w 22 5 C n c Try.underlying22 Try.underlying5
  have h97 : ∀ w : World, BytesV (w.alloc (.cells #[.int .u8 97, .int .u8 98] 5 (2, 3))) (some ⟨w.heap.size, 0, none⟩, 2, 2) ab := fun w => bytesV_litF w _ _ _ 2 ab rfl rfl ab_bytes (by omega)
  have h49 : ∀ w : World, BytesV (w.alloc (.cells #[.int .u8 49, .int .u8 50, .int .u8 51, .int .u8 52, .int .u8 53, .int .u8 54, .int .u8 55, .int .u8 56, .int .u8 57] 5 (9, 10))) (some ⟨w.heap.size, 0, none⟩, 9, 9) [49, 50, 51, 52, 53, 54, 55, 56, 57] := fun w => bytesV_litF w _ _ _ 9 _ rfl rfl (bytes_of (by decide)) (by omega)
  have hcr : crcN [49, 50, 51, 52, 53, 54, 55, 56, 57] = 3421780262 := by decide +kernel
  have KC : ∀ w : World, Calls Try.prog 15 #[.slice (some ⟨w.heap.size + 1, 0, none⟩) 1 1] ((w.alloc (.cells #[.int .u8 49, .int .u8 50, .int .u8 51, .int .u8 52, .int .u8 53, .int .u8 54, .int .u8 55, .int .u8 56, .int .u8 57] 5 (9, 10))).alloc (.cells #[.slice (some ⟨w.heap.size, 0, none⟩) 9 9] 22)) fun e w'' => e = .returned (.int .u32 3421780262) ∧ w'' = (w.alloc (.cells #[.int .u8 49, .int .u8 50, .int .u8 51, .int .u8 52, .int .u8 53, .int .u8 54, .int .u8 55, .int .u8 56, .int .u8 57] 5 (9, 10))).alloc (.cells #[.slice (some ⟨w.heap.size, 0, none⟩) 9 9] 22) := fun w => by
    have := check_one (some ⟨w.heap.size, 0, none⟩) 9 9 _ _ (h49 w)
    rw [hcr] at this
    simpa using this
  clear hcr
  have hF : Bytes (frameN ab) := frameN_bytes ab_bytes
  go_enter Try.func10, Try.ntmps10
  go_wp2_with fail
  (with_reducible refine (pack_any _ 2 2 ab (by omega) _ (h97 w)).mono ?_)
  rintro e w1 ⟨a1, c1, rfl, hown1, hb1⟩
  have hB1 : BytesV w1 (a1, 2 + 8, c1) (frameN ab) := bytesV_of_owns hown1 hF (by omega)
  have hbb : Below w.heap.size w w1 := (below_alloc w _).trans (hb1.mono (by simp))
  clear hown1 hb1
  go_wp2_with fail
  (with_reducible refine (KC w1).mono ?_)
  rintro e w2 ⟨rfl, rfl⟩
  have hB2 := hB1.alloc (o := (.cells #[.int .u8 49, .int .u8 50, .int .u8 51, .int .u8 52, .int .u8 53, .int .u8 54, .int .u8 55, .int .u8 56, .int .u8 57] 5 (9, 10))) |>.alloc (o := .cells #[.slice (some ⟨w1.heap.size, 0, none⟩) 9 9] 22)
  have hb2 := (hbb.alloc hbb.size (.cells #[.int .u8 49, .int .u8 50, .int .u8 51, .int .u8 52, .int .u8 53, .int .u8 54, .int .u8 55, .int .u8 56, .int .u8 57] 5 (9, 10))).alloc (by have := hbb.size; simp; omega) (.cells #[.slice (some ⟨w1.heap.size, 0, none⟩) 9 9] 22)
  go_wp2_with fail
  (with_reducible refine (scan_any _ _ _ _ (by omega) _ hB2).mono ?_)
  rw [scan_ab]
  rintro e w3 ⟨a3, c3, hs3, rfl, hown3, hins3, hb3⟩
  have hv3 := rowV_own hown3
  have hr3 := hins3.rowsV (fun l hl => by simp at hl; subst hl; exact ⟨ab_bytes, by decide⟩)
  replace hb3 := hb2.trans (hb3.mono (by have := hbb.size; simp; omega))
  have hr2 : RowsV ((w3.alloc (.cells #[.int .u8 97, .int .u8 98] 5 (2, 3))).alloc (.cells #[.slice (some ⟨w3.heap.size, 0, none⟩) 2 2] 22)) [(some ⟨w3.heap.size, 0, none⟩, 2, 2)] [ab] := rowsV_cons (h97 w3).alloc (rowsV_nil _)
  have hv2 : RowV ((w3.alloc (.cells #[.int .u8 97, .int .u8 98] 5 (2, 3))).alloc (.cells #[.slice (some ⟨w3.heap.size, 0, none⟩) 2 2] 22)) (some ⟨w3.heap.size + 1, 0, none⟩) 1 ([(some ⟨w3.heap.size, 0, none⟩, 2, 2)].map SV) := by
    have := rowV_one (w3.alloc (.cells #[.int .u8 97, .int .u8 98] 5 (2, 3))) (.slice (some ⟨w3.heap.size, 0, none⟩) 2 2) 22
    simpa [SV] using this
  have hb4 := (hb3.alloc hb3.size (.cells #[.int .u8 97, .int .u8 98] 5 (2, 3))).alloc (by have := hb3.size; simp; omega) (.cells #[.slice (some ⟨w3.heap.size, 0, none⟩) 2 2] 22)
  go_wp2_with fail
  (with_reducible refine (sameRows_any a3 1 c3 hs3 [ab] (some ⟨w3.heap.size + 1, 0, none⟩) 1 1 _ [ab] _ (hv3.alloc.alloc) ((hr3.below (below_alloc _ _)).below (below_alloc _ _)) hv2 hr2 (by simp)).mono ?_)
  rintro e w4 ⟨rfl, hb5⟩
  rw [decide_eq_true rfl]
  go_wp2
  go_ret
  exact ⟨rfl, hb4.trans (hb5.mono (by have := hb3.size; simp; omega))⟩
end Go.Proofs.Ytkepdjbgfkoobaa
