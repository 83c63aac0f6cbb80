/-
  frame.Pack.
-/
import Derived.Test.YtkepdjbgfkoobaaFrB
import Derived.Test.YtkepdjbgfkoobaaFrD
namespace Go.Proofs.Ytkepdjbgfkoobaa
open Go.RowKit

set_option maxRecDepth 100000 in
set_option maxHeartbeats 2000000 in
theorem pack_long (ad : Option Addr) (n c : Nat) (hn : 32768 < n) (hs : n ≤ 140737488355328) (w : World) :
    Calls Try.prog 13 #[.slice ad n c] w fun e w' => e = .returned (.tuple #[.slice none 0 0, .int .i64 71]) ∧ w' = w := by
  go_enter Try.func13, Try.ntmps13
  go_wp2
  go_ret2
  exact ⟨rfl, rfl⟩

set_option maxRecDepth 100000 in
set_option maxHeartbeats 2000000 in
theorem pack_any (ad : Option Addr) (n c : Nat) (l : List Nat) (hn : n ≤ 32768) (w : World) (h : BytesV w (ad, n, c) l) :
    Calls Try.prog 13 #[.slice ad n c] w fun e w' => ∃ ad' cap, e = .returned (.tuple #[.slice ad' (n + 8) cap, .int .i64 0]) ∧ w'.ownsRow w.heap.size 5 1 (.slice ad' (n + 8) cap) (n + 8) ((frameN l).map bv) ∧ Below w.heap.size w w' := by
  obtain ⟨i0, hi, hz0, hz1, hz2⟩ := info_parts Try.info5
  have hl : l.length = n := h.length
  have hby := h.bytes
  have hcr : crcN (headN n ++ l) < 4294967296 := crcN_lt ((headN_bytes n).app hby)
  have hfr : frameN l = (headN n ++ l) ++ be4 (crcN (headN n ++ l)) := by unfold frameN; rw [hl]
  have hhl : (headN n ++ l).length = n + 4 := by rw [List.length_append, hl, headN_length]; omega
  obtain ⟨f, hf⟩ : ∃ f, f = headN n ++ l := ⟨_, rfl⟩
  rw [← hf] at hcr hfr hhl
  have HL := Lib.hid hl
  have HFR := Lib.hid hfr
  have HHL := Lib.hid hhl
  have HF := Lib.hid hf
  have hfb : Bytes f := by rw [hf]; exact (headN_bytes n).app hby
  clear hl hfr hhl hf
  have KH : ∀ w : World, BytesV (w.alloc (.cells #[.int .u8 90, .int .u8 ((n : Int) / 65536), .int .u8 ((n : Int) / 256), .int .u8 ((n : Int) % 256)] 5)) (some ⟨w.heap.size, 0, none⟩, 4, 4) (headN n) := fun w =>
    bytesV_lit w _ 5 w.heap.size 4 (headN n) rfl (by simp [headN, bv]; omega) rfl (headN_bytes n) (by omega)
  go_enter Try.func13, Try.ntmps13
  go_wp2_with fail
  (with_reducible refine (concat_any _ 2 2 [(some ⟨w.heap.size, 0, none⟩, 4, 4), (ad, n, c)] [headN n, l] (by omega) _ (rowV_two w _ _ _ _) (rowsV_cons (KH w).alloc (rowsV_cons h.alloc.alloc (rowsV_nil _))) ?c1).mono ?_)
  case c1 =>
    have := HHL.out
    rw [HF.out] at this
    simpa using (by omega : (headN n ++ l).length ≤ 140737488355328)
  rintro e w1 ⟨ad1, cap1, rfl, hown1, hb1⟩
  have hfl : [headN n, l].flatten = f := by rw [HF.out]; simp
  rw [hfl] at hown1 ⊢
  rw [HHL.out] at hown1 ⊢
  have hbb : Below w.heap.size w w1 := ((below_alloc w _).alloc (by simp) _).trans (hb1.mono (by simp; omega))
  have hown1 := ownsRow_base hown1 (base' := w.heap.size) (by simp; omega)
  have hB1 : BytesV w1 (ad1, n + 4, cap1) f := bytesV_of_owns hown1 hfb (by omega)
  clear hfl hb1 KH
  have hbs := hbb.size
  go_wp2_with fail
  (with_reducible refine (check_one ad1 (n + 4) cap1 f _ hB1).mono ?_)
  rintro e w2 ⟨rfl, rfl⟩
  obtain ⟨v, hv⟩ : ∃ v, v = crcN f := ⟨_, rfl⟩
  rw [← hv] at hcr ⊢
  rw [← hv] at HFR
  have HV := Lib.hid hv
  clear hv
  have KB : ∀ (w : World) (o : Obj), RowV ((w.alloc o).alloc (.cells #[.int .u8 ((v : Int) / 16777216), .int .u8 ((v : Int) / 65536 % 256), .int .u8 ((v : Int) / 256 % 256), .int .u8 ((v : Int) % 256)] 5)) (some ⟨w.heap.size + 1, 0, none⟩) 4 ((be4 v).map bv) := fun w o =>
    rowV_lit (w.alloc o) _ 5 (w.heap.size + 1) 4 ((be4 v).map bv) (by simp) (by simp [be4, bv]; omega) rfl
  have hown2 := (hown1.alloc (.cells #[.slice ad1 (n + 4) cap1] 22)).alloc (.cells #[.int .u8 ((v : Int) / 16777216), .int .u8 ((v : Int) / 65536 % 256), .int .u8 ((v : Int) / 256 % 256), .int .u8 ((v : Int) % 256)] 5)
  go_wp2_with (first | (at_builtin; refine wpList_append_row rfl _ _ 22 rfl w.heap.size 5 i0 (.int .u8 0) 1 Try.underlying22 hi hz0 hz1 hz2 rfl _ _ _ rfl hown2 _ 4 4 ((be4 v).map bv) rfl (KB _ _) (fun e => by cases e) (bv_one _) (by simp [maxLen]; omega) (by omega) (by simp; omega) ?_; intro v' w3 hown3 hgrow3 hnil3))
  obtain ⟨ad', cap', rfl, _⟩ := ownsRow_parts hown3
  have hb3 := below_grown ((hbb.alloc hbs _).alloc (by simp; omega) _) hgrow3 (ownBlock_ge hown2)
  rw [← List.map_append, ← HFR.out] at hown3
  clear hgrow3 hnil3 hown2 hown1 hB1
  go_wp2
  go_ret2
  exact ⟨ad', cap', rfl, hown3, hb3⟩
end Go.Proofs.Ytkepdjbgfkoobaa
