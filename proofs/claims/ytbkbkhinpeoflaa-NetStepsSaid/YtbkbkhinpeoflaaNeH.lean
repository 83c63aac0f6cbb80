/-
  net: the laws' 'alive'.
-/
import Derived.Test.YtbkbkhinpeoflaaNeG
import Derived.Lib.SlBytesConst
namespace Go.Proofs.Ytbkbkhinpeoflaa
open Go.RowKit

theorem NetV.only {w0 w1 w2 : World} {g B : Nat} {v : Value} {sent : Int} {xs : List (Int × Hd)} {bs : List (List Nat)} (hN : NetV w1 g B v sent xs bs) (hO : OnlyN w1 w2 g v) (hb : Below B w0 w1) (hB : B ≤ w0.heap.size) : Below B w0 w2 :=
  hO.below hb (Nat.le_trans hB hb.size) hN.ge (fun b e => (hN.row.lt b e).1)
theorem bytesV_litF (w : World) (cs : Array Value) (T : TypeId) (fr : Nat × Nat) (n : Nat) (l : List Nat) (hcs : cs.toList = l.map bv) (hn : l.length = n) (hl : Bytes l) (hs : n ≤ 140737488355328) :
    BytesV (w.alloc (.cells cs T fr)) (some ⟨w.heap.size, 0, none⟩, n, n) l := by
  refine ⟨⟨by simpa using hn, fun _ => ⟨w.heap.size, 0, rfl, fun i hi => ?_⟩⟩, hl, hs, Nat.le_refl _, fun h => by cases h⟩
  rw [cell_of_row _ _ _ _ _ _ (heap_alloc_new w _), ← hcs]
  simp
theorem conv_b (w : World) (a : Option Addr) (c : Nat) (h : BytesV w (a, 1, c) [98]) : (convert 31 9 (.slice a 1 c)).run Try.prog w = .ok (.string { data := #[98] }) w := by
  obtain ⟨b, o, e, hc⟩ := h.row.2 (by simp)
  simp only at e hc
  subst e
  have := run_convert_bytes_back (P := Try.prog) w 31 9 5 ⟨b, o, none⟩ c [98] Try.underlying31 Try.underlying5 Try.underlying9 (fun j hj => by
    have : j = 0 := by simpa using hj
    subst this
    have := hc 0 (by omega)
    simpa [bv, Addr.add] using this)
  exact this
theorem intsV_lit (w : World) (cs : Array Value) (b n : Nat) (l : List Int) (hb : b = w.heap.size) (hcs : cs.toList = l.map iv) (hn : l.length = n) (hs : n ≤ 140737488355328) : IntsV (w.alloc (.cells cs 3)) (some ⟨b, 0, none⟩, n, n) l :=
  ⟨rowV_lit w cs 3 b n _ hb hcs (by simpa using hn), hs, Nat.le_refl _, fun h => by cases h⟩
theorem intsV_own {w : World} {base : Nat} {ad : Option Addr} {cap n : Nat} {l : List Int} (h : w.ownsRow base 3 1 (.slice ad n cap) n (l.map iv)) (hs : n ≤ 140737488355328) : IntsV w (ad, n, cap) l := by
  obtain ⟨ad', cap', e, hcase, hnc, _, hrow⟩ := ownsRow_parts h
  cases e
  exact ⟨hrow, hs, hnc, fun e => by rcases hcase with ⟨_, _, hc⟩ | ⟨g, hg, _⟩; exact hc; rw [hg] at e; cases e⟩

set_option maxRecDepth 100000 in
set_option maxHeartbeats 4000000 in
theorem alive_any (w : World) : Calls Try.prog 8 #[] w fun e w' => e = .returned (.bool true) ∧ Below w.heap.size w w' := by
  have kc := fun (w : World) (C : Array Value) (n c : Nat) => Lib.run_convert_bytes_const (P := Try.prog) w 31 5 C n c Try.underlying31 Try.underlying5
  have h97 : ∀ w : World, BytesV (w.alloc (.cells #[.int .u8 97] 5 (1, 2))) (some ⟨w.heap.size, 0, none⟩, 1, 1) [97] := fun w => bytesV_litF w _ _ _ 1 _ rfl rfl (bytes_of (by decide)) (by omega)
  have h98 : ∀ w : World, BytesV (w.alloc (.cells #[.int .u8 98] 5 (1, 2))) (some ⟨w.heap.size, 0, none⟩, 1, 1) [98] := fun w => bytesV_litF w _ _ _ 1 _ rfl rfl (bytes_of (by decide)) (by omega)
  go_enter Try.func8, Try.ntmps8
  go_wp2_with fail
  (with_reducible refine (new_any w w.heap.size (Nat.le_refl _)).mono ?_)
  rintro e w1 ⟨rfl, hN1, hb1⟩
  generalize hg : w.heap.size = g at hN1 hb1 ⊢
  have HG := Lib.hid hg
  have hNa := hN1.below (below_alloc w1 (.cells #[.int .u8 97] 5 (1, 2)))
  have hba := hb1.alloc (by have := hb1.size; omega) (.cells #[.int .u8 97] 5 (1, 2))
  clear hg
  have KS := send_any g g _ _ _ _ 3 (some ⟨w1.heap.size, 0, none⟩, 1, 1) [97] _ hNa (h97 w1) (by simp) (by have := hb1.size; have := HG.out; simp; omega) (by omega) (by omega)
  unfold SV at KS
  simp only at KS
  go_wp2_with fail
  (with_reducible refine KS.mono ?_)
  rintro e w2 ⟨rfl, v2, x2, hN2, hO2, hF2, -⟩
  have hb2 := hNa.only hO2 hba (by have := HG.out; omega)
  clear KS hNa hba hN1 hb1
  rw [show (0 : Int) + 1 = 1 from rfl] at hN2
  simp only [List.nil_append] at hN2
  have hNb := hN2.below (below_alloc w2 (.cells #[.int .u8 98] 5 (1, 2)))
  have hbb := hb2.alloc (by have := hb2.size; have := HG.out; omega) (.cells #[.int .u8 98] 5 (1, 2))
  have KS := send_any g g _ _ _ _ 4 (some ⟨w2.heap.size, 0, none⟩, 1, 1) [98] _ hNb (h98 w2) (by simp) (by have := hbb.size; have := HG.out; omega) (by omega) (by omega)
  unfold SV at KS
  simp only at KS
  go_wp2_with fail
  (with_reducible refine KS.mono ?_)
  rintro e w3 ⟨rfl, v3, x3, hN3, hO3, hF3, -⟩
  have hb3 := hNb.only hO3 hbb (by have := HG.out; omega)
  clear KS hNb hbb hN2 hb2 hO2 hF2 hO3 hF3
  rw [show (1 : Int) + 1 = 2 from rfl] at hN3
  simp only [List.cons_append, List.nil_append] at hN3
  have KS := double_yes g g _ _ _ _ 0 (3, x2) [97] _ hN3 rfl rfl (by simp) (by have := hb3.size; have := HG.out; omega) (by omega) (by omega)
  rw [show ((0 : Nat) : Int) = 0 from rfl] at KS
  go_wp2_with fail
  (with_reducible refine KS.mono ?_)
  rintro e w4 ⟨rfl, v4, x4, hN4, hO4, hF4, -⟩
  have hb4 := hN3.only hO4 hb3 (by have := HG.out; omega)
  clear KS hN3 hb3 hO4 hF4
  rw [show (2 : Int) + 1 = 3 from rfl] at hN4
  simp only [List.cons_append, List.nil_append] at hN4
  obtain ⟨a3, n3, c3⟩ := x3
  have KS := take_yes g g _ _ _ _ 1 (4, a3, n3, c3) [98] _ hN4 (by simp) rfl rfl
  rw [show ((1 : Nat) : Int) = 1 from rfl] at KS
  unfold SV at KS
  simp only at KS
  go_wp2_with fail
  (with_reducible refine KS.mono ?_)
  rintro e w5 ⟨rfl, v5, hN5, hO5, hF5, ho, hn3, -, -⟩
  have hb5 := hN4.only hO5 hb4 (by have := HG.out; omega)
  clear KS hN4 hb4 hO5 hF5
  simp only [List.length_cons, List.length_nil, Nat.zero_add] at hn3
  subst hn3
  have hconv := conv_b w5 a3 c3 (bytesV_of_owns (l := [98]) ho (bytes_of (by decide)) (by simp))
  have KF := flight_any g g _ _ _ _ w5 hN5 (by simp)
  rw [show tos (List.eraseIdx [((3 : Int), x2), (4, a3, 1, c3), (3, x4)] 1) = [3, 3] from rfl] at KF
  go_wp2_with fail
  (with_reducible refine KF.mono ?_)
  rintro e w6 ⟨ad, cap, rfl, hF, hb6⟩
  simp only [List.length_cons, List.length_nil, Nat.zero_add] at hF ⊢
  have hbc := hb6.alloc hb6.size (.cells #[.int .i64 3, .int .i64 3] 3)
  have KI := sameInts_any ad 2 cap [3, 3] (some ⟨w6.heap.size, 0, none⟩) 2 2 [3, 3] _ ((intsV_own hF (by omega)).below (below_alloc w6 (.cells #[.int .i64 3, .int .i64 3] 3))) (intsV_lit w6 #[.int .i64 3, .int .i64 3] _ 2 [3, 3] rfl rfl rfl (by omega))
  simp only [decide_true] at KI
  go_wp2_with fail
  (with_reducible refine KI.mono ?_)
  rintro e w7 ⟨rfl, b7⟩
  have hb7 := hbc.trans (b7.mono hbc.size)
  have hN7 := hN5.below hb7
  go_wp2_with fail
  (with_reducible refine (sent_any g g _ _ _ _ w7 hN7).mono ?_)
  rintro e w8 ⟨rfl, rfl⟩
  go_wp2
  go_ret
  rw [HG.out]
  exact ⟨by simp, hb5.trans (hb7.mono (by have := hb5.size; have := HG.out; omega))⟩
end Go.Proofs.Ytbkbkhinpeoflaa
