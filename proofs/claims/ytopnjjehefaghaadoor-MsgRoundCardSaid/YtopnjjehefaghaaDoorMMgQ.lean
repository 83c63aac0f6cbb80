/-
  msg: the names of kinds; an answer's envelope.
-/
import Derived.Test.YtopnjjehefaghaaDoorMMgP
import Derived.Test.YtopnjjehefaghaaDoorMMgN
import Derived.Test.YtopnjjehefaghaaDoorMLawM
namespace Go.Proofs.YtopnjjehefaghaaDoor
open Go.RowKit

def nameR (k : Int) : ByteArray := if 1 ≤ k ∧ k ≤ 10 then nmL.getD (k - 1).toNat ⟨#[]⟩ else ⟨#[]⟩
theorem NmV.at {w : World} (h : NmV w) (j : Nat) (hj : j < 10) : w.cell? ⟨0, j, none⟩ = some (.string (nmL.getD j ⟨#[]⟩)) := by
  obtain ⟨t, fr, hh⟩ := h
  have : j = 0 ∨ j = 1 ∨ j = 2 ∨ j = 3 ∨ j = 4 ∨ j = 5 ∨ j = 6 ∨ j = 7 ∨ j = 8 ∨ j = 9 := by omega
  rcases this with rfl | rfl | rfl | rfl | rfl | rfl | rfl | rfl | rfl | rfl <;> exact cell_of_row _ _ _ _ _ _ hh
set_option maxRecDepth 10000 in
set_option maxHeartbeats 4000000 in
theorem names_any (k : Int) (w : World) (hn : NmV w) :
    Calls Tryd.prog 23 #[.int .i64 k] w fun e w' => e = .returned (.string (nameR k)) ∧ w' = w := by
  obtain ⟨R, hR⟩ : ∃ r, r = nameR k := ⟨_, rfl⟩
  rw [← hR]
  have HR := Lib.hid hR
  clear hR
  by_cases h1 : k < 1
  · go_enter Tryd.func23, Tryd.ntmps23
    go_wp2
    go_ret
    exact ⟨by show Ending.returned (.string _) = .returned (.string R); rw [HR.out, nameR, if_neg (by omega)], rfl⟩
  by_cases h2 : 10 < k
  · go_enter Tryd.func23, Tryd.ntmps23
    go_wp2
    go_ret
    exact ⟨by show Ending.returned (.string _) = .returned (.string R); rw [HR.out, nameR, if_neg (by omega)], rfl⟩
  obtain ⟨j, rfl⟩ : ∃ j : Nat, k = ((j + 1 : Nat) : Int) := ⟨(k - 1).toNat, by omega⟩
  have hj : j < 10 := by omega
  have c0 := hn.at j hj
  have e1 : nameR ((j + 1 : Nat) : Int) = nmL.getD j ⟨#[]⟩ := by
    rw [nameR, if_pos (by omega), show (((j + 1 : Nat) : Int) - 1).toNat = j by omega]
  obtain ⟨S, hS⟩ : ∃ S, S = nmL.getD j ⟨#[]⟩ := ⟨_, rfl⟩
  rw [← hS] at c0 e1
  have HE := Lib.hid e1
  clear e1 hn hS
  have hj' : (j : Int) < 10 := by omega
  go_enter Tryd.func23, Tryd.ntmps23
  go_wp2
  go_ret
  exact ⟨by show Ending.returned (.string S) = .returned (.string R); rw [HR.out, HE.out], rfl⟩
set_option maxRecDepth 10000 in
set_option maxHeartbeats 4000000 in
theorem rnames_any (k : Int) (w : World) :
    Calls Tryd.prog 24 #[.int .i64 k] w fun e w' => e = .returned (.string (nameR k)) ∧ Below w.heap.size w w' := by
  obtain ⟨R, hR⟩ : ∃ r, r = nameR k := ⟨_, rfl⟩
  rw [← hR]
  have HR := Lib.hid hR
  clear hR
  obtain ⟨cs, hcs⟩ : ∃ cs, cs = (Value.string ⟨#[]⟩ :: nmL.map Value.string).toArray := ⟨_, rfl⟩
  obtain ⟨T, hT⟩ : ∃ T : TypeId, T = 76 := ⟨_, rfl⟩
  obtain ⟨w1, hw1⟩ : ∃ x, x = w.alloc (.cells cs T) := ⟨_, rfl⟩
  have hb1 : Below w.heap.size w w1 := by rw [hw1]; exact below_alloc w _
  have hh1 : w1.heap[w.heap.size]? = some (.cells cs T (0, 0)) := by rw [hw1]; exact heap_alloc_new w _
  have HB1 := Lib.hid hb1
  have HH1 := Lib.hid hh1
  have HE1 := Lib.hid (show w1 = w.alloc (.cells #[.string ⟨#[]⟩, .string ⟨#[97, 115, 107]⟩, .string ⟨#[116, 111, 108, 100]⟩, .string ⟨#[115, 116, 97, 103, 101]⟩, .string ⟨#[115, 116, 97, 103, 101, 100]⟩, .string ⟨#[99, 111, 109, 109, 105, 116]⟩, .string ⟨#[100, 111, 110, 101]⟩, .string ⟨#[102, 101, 116, 99, 104]⟩, .string ⟨#[115, 121, 109, 115]⟩, .string ⟨#[108, 105, 115, 116]⟩, .string ⟨#[107, 101, 121, 115]⟩] 76) from by rw [hw1, hcs, hT]; rfl)
  have HCS := Lib.hid hcs
  clear hb1 hh1 hcs hT hw1
  by_cases h1 : k < 0
  · go_enter Tryd.func24, Tryd.ntmps24
    go_upto_region 2 with fail
    rw [← HE1.out]
    go_wp2
    go_ret
    exact ⟨by show Ending.returned (.string _) = .returned (.string R); rw [HR.out, nameR, if_neg (by omega)], HB1.out⟩
  by_cases h2 : 10 < k
  · go_enter Tryd.func24, Tryd.ntmps24
    go_upto_region 2 with fail
    rw [← HE1.out]
    go_wp2
    go_ret
    exact ⟨by show Ending.returned (.string _) = .returned (.string R); rw [HR.out, nameR, if_neg (by omega)], HB1.out⟩
  obtain ⟨j, rfl⟩ : ∃ j : Nat, k = (j : Int) := ⟨k.toNat, by omega⟩
  have hj : j < 11 := by omega
  obtain ⟨S, hS⟩ : ∃ S, S = nameR (j : Int) := ⟨_, rfl⟩
  have c0 : w1.cell? ⟨w.heap.size, j, none⟩ = some (.string S) := by
    rw [hS]
    have hh := HH1.out
    rw [HCS.out] at hh
    have : j = 0 ∨ j = 1 ∨ j = 2 ∨ j = 3 ∨ j = 4 ∨ j = 5 ∨ j = 6 ∨ j = 7 ∨ j = 8 ∨ j = 9 ∨ j = 10 := by omega
    rcases this with rfl | rfl | rfl | rfl | rfl | rfl | rfl | rfl | rfl | rfl | rfl <;> exact cell_of_row _ _ _ _ _ _ hh
  have HS := Lib.hid hS
  have hj' : (j : Int) < 11 := by omega
  clear hS
  go_enter Tryd.func24, Tryd.ntmps24
  go_upto_region 2 with fail
  rw [← HE1.out]
  go_wp2
  go_ret
  exact ⟨by show Ending.returned (.string S) = .returned (.string R); rw [HR.out, HS.out], HB1.out⟩
/-- an answer's envelope. -/
def replyM (M : MsR) (k : Int) : MsR := ⟨k, M.t, M.f, M.op, 0, M.key, ⟨0, 0, 0, 0, false, []⟩, [], []⟩
theorem reply_v (M : MsR) (k : Int) (w : World) : MsV w (replyM M k) (none, 0, 0) none none :=
  ⟨bytesV_nil w, ⟨by simp [replyM], [], by simp [replyM], fun h => absurd h (by simp [replyM]), fun i x p h => by simp at h⟩, ⟨rfl, fun _ => (none, 0, 0), fun h => absurd h (by simp [replyM])⟩⟩
set_option maxRecDepth 100000 in
set_option maxHeartbeats 8000000 in
theorem reply_any (M : MsR) (x : Option Addr × Nat × Nat) (sa : Option Addr) (sc : Nat) (ia : Option Addr) (ic : Nat) (k : Int) (w : World) :
    Calls Tryd.prog 21 #[.agg (MsC M x sa sc ia ic), .int .i64 k] w fun e w' => e = .returned (.agg (MsC (replyM M k) (none, 0, 0) none 0 none 0)) ∧ Below w.heap.size w w' := by
  obtain ⟨w1, hw1⟩ : ∃ x', x' = w.alloc (.cells (MsC M x sa sc ia ic) MMT) := ⟨_, rfl⟩
  have hh1 : w1.heap[w.heap.size]? = some (.cells (MsC M x sa sc ia ic) MMT (0, 0)) := by rw [hw1]; exact heap_alloc_new w _
  have hb1 : Below w.heap.size w w1 := by rw [hw1]; exact below_alloc w _
  have hz1 : w1.heap.size = w.heap.size + 1 := by rw [hw1]; simp
  obtain ⟨w2, hw2⟩ : ∃ x', x' = w1.alloc (.cells #[.int .i64 0, .int .i64 0, .int .i64 0, .int .i64 0, .int .i64 0, .string ⟨#[]⟩, .int .i64 0, .int .i64 0, .int .i64 0, .int .i64 0, .bool false, .slice none 0 0, .slice none 0 0, .slice none 0 0] MMT) := ⟨_, rfl⟩
  have hh2 : w2.heap[w.heap.size + 1]? = some (.cells #[.int .i64 0, .int .i64 0, .int .i64 0, .int .i64 0, .int .i64 0, .string ⟨#[]⟩, .int .i64 0, .int .i64 0, .int .i64 0, .int .i64 0, .bool false, .slice none 0 0, .slice none 0 0, .slice none 0 0] MMT (0, 0)) := by rw [hw2, ← hz1]; exact heap_alloc_new w1 _
  have hb2 : Below w1.heap.size w1 w2 := by rw [hw2]; exact below_alloc w1 _
  have gg1 := (hb2.block _ (Array.getElem?_eq_some_iff.1 hh1).1).trans hh1
  have hbb := hb1.trans (hb2.mono hb1.size)
  obtain ⟨⟨c0, c1, c2, c3, c4, c5, c6⟩, c7, c8, c9, c10, c11, c12, c13⟩ := cells14 gg1
  obtain ⟨⟨d0, d1, d2, d3, d4, d5, d6⟩, d7, d8, d9, d10, d11, d12, d13⟩ := cells14 hh2
  have hfz := frozen_none hh2
  have HW1 := Lib.hid hw1
  have HW2 := Lib.hid hw2
  have HBB := Lib.hid hbb
  have HH2 := Lib.hid hh2
  clear hw1 hw2 hh2 hb2 hb1 hh1 hz1 gg1 hbb
  go_enter Tryd.func21, Tryd.ntmps21
  go_upto_region 1 with fail
  rw [← HW1.out, ← HW2.out]
  go_wp2
  refine bodyPost_ret (results_cell_row rfl _ _ (w.heap.size + 1) MMT (MsC (replyM M k) (none, 0, 0) none 0 none 0) (0, 0) _ rfl ?hh Tryd.underlying30 rfl (by kernel_rfl)) rfl ⟨rfl, ?_⟩
  · exact heap_setsFrom 0 [.int .i64 k, .int .i64 M.t, .int .i64 M.f, .int .i64 M.op, .int .i64 0, .string M.key, .int .i64 0, .int .i64 0, .int .i64 0, .int .i64 0, .bool false, .slice none 0 0, .slice none 0 0, .slice none 0 0] HH2.out rfl
  · exact HBB.out.grown (grown_setsFrom (g := w.heap.size + 1) [.int .i64 k, .int .i64 M.t, .int .i64 M.f, .int .i64 M.op, .int .i64 0, .string M.key, .int .i64 0, .int .i64 0, .int .i64 0, .int .i64 0, .bool false, .slice none 0 0, .slice none 0 0, .slice none 0 0] 0 w2) HBB.out.size (fun q hq => by injection hq with hq; omega)
set_option maxRecDepth 100000 in
set_option maxHeartbeats 8000000 in
theorem rreply_any (M : MsR) (x : Option Addr × Nat × Nat) (sa : Option Addr) (sc : Nat) (ia : Option Addr) (ic : Nat) (k : Int) (w : World) :
    Calls Tryd.prog 22 #[.agg (MsC M x sa sc ia ic), .int .i64 k] w fun e w' => e = .returned (.agg (MsC (replyM M k) (none, 0, 0) none 0 none 0)) ∧ Below w.heap.size w w' := by
  obtain ⟨w1, hw1⟩ : ∃ x', x' = w.alloc (.cells (MsC M x sa sc ia ic) MMT) := ⟨_, rfl⟩
  have hh1 : w1.heap[w.heap.size]? = some (.cells (MsC M x sa sc ia ic) MMT (0, 0)) := by rw [hw1]; exact heap_alloc_new w _
  have hb1 : Below w.heap.size w w1 := by rw [hw1]; exact below_alloc w _
  have hz1 : w1.heap.size = w.heap.size + 1 := by rw [hw1]; simp
  obtain ⟨w2, hw2⟩ : ∃ x', x' = w1.alloc (.cells #[.int .i64 0, .int .i64 0, .int .i64 0, .int .i64 0, .int .i64 0, .string ⟨#[]⟩, .int .i64 0, .int .i64 0, .int .i64 0, .int .i64 0, .bool false, .slice none 0 0, .slice none 0 0, .slice none 0 0] MMT) := ⟨_, rfl⟩
  have hh2 : w2.heap[w.heap.size + 1]? = some (.cells #[.int .i64 0, .int .i64 0, .int .i64 0, .int .i64 0, .int .i64 0, .string ⟨#[]⟩, .int .i64 0, .int .i64 0, .int .i64 0, .int .i64 0, .bool false, .slice none 0 0, .slice none 0 0, .slice none 0 0] MMT (0, 0)) := by rw [hw2, ← hz1]; exact heap_alloc_new w1 _
  have hb2 : Below w1.heap.size w1 w2 := by rw [hw2]; exact below_alloc w1 _
  have gg1 := (hb2.block _ (Array.getElem?_eq_some_iff.1 hh1).1).trans hh1
  have hbb := hb1.trans (hb2.mono hb1.size)
  obtain ⟨⟨c0, c1, c2, c3, c4, c5, c6⟩, c7, c8, c9, c10, c11, c12, c13⟩ := cells14 gg1
  obtain ⟨⟨d0, d1, d2, d3, d4, d5, d6⟩, d7, d8, d9, d10, d11, d12, d13⟩ := cells14 hh2
  have hfz := frozen_none hh2
  have HW1 := Lib.hid hw1
  have HW2 := Lib.hid hw2
  have HBB := Lib.hid hbb
  have HH2 := Lib.hid hh2
  clear hw1 hw2 hh2 hb2 hb1 hh1 hz1 gg1 hbb
  go_enter Tryd.func22, Tryd.ntmps22
  go_upto_region 1 with fail
  rw [← HW1.out, ← HW2.out]
  go_wp2
  refine bodyPost_ret (results_cell_row rfl _ _ (w.heap.size + 1) MMT (MsC (replyM M k) (none, 0, 0) none 0 none 0) (0, 0) _ rfl ?hh Tryd.underlying30 rfl (by kernel_rfl)) rfl ⟨rfl, ?_⟩
  · exact heap_setsFrom 0 [.int .i64 k, .int .i64 M.t, .int .i64 M.f, .int .i64 M.op, .int .i64 0, .string M.key, .int .i64 0, .int .i64 0, .int .i64 0, .int .i64 0, .bool false, .slice none 0 0, .slice none 0 0, .slice none 0 0] HH2.out rfl
  · exact HBB.out.grown (grown_setsFrom (g := w.heap.size + 1) [.int .i64 k, .int .i64 M.t, .int .i64 M.f, .int .i64 M.op, .int .i64 0, .string M.key, .int .i64 0, .int .i64 0, .int .i64 0, .int .i64 0, .bool false, .slice none 0 0, .slice none 0 0, .slice none 0 0] 0 w2) HBB.out.size (fun q hq => by injection hq with hq; omega)
end Go.Proofs.YtopnjjehefaghaaDoor
