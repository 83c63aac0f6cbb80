/-
  net: Flight.
-/
import Derived.Test.YtbkbkhinpeoflaaNeF
import Derived.Test.YtbkbkhinpeoflaaUseI
import Derived.Laws.MakeOwn
namespace Go.Proofs.Ytbkbkhinpeoflaa
open Go.RowKit

theorem Try.info3 : (Try.prog.info? 3).map (fun i => (i.zero, i.size, i.bytes)) = some (some (.int .i64 0), 1, 8) := by kernel_rfl
theorem make_ints (n : Nat) (hn : n ≤ 1000000) (w : World) : ∃ cs : Array Value, cs.size = n * 1 ∧ (Instr.makeSlice 26 (.int .i64 0) (.int .i64 (n : Int))).run Try.prog w = .ok (.slice (some ⟨w.heap.size, 0, none⟩) 0 n) (w.alloc (.cells cs 3)) := by
  obtain ⟨i0, hi, hz0, hz1, hz2⟩ := info_parts Try.info3
  have hr := run_make (P := Try.prog) w 26 3 i0 (.int .i64 0) Try.underlying26 hi hz0 .i64 .i64 (0 : Nat) (n : Nat) (by omega) (by omega) (by rw [hz2]; omega) (by omega)
  simp only [Int.toNat_natCast] at hr
  exact ⟨_, by rw [hz1]; simp [madeCells, Value.cells], hr⟩

theorem rowV_lit2 (w : World) (o : Obj) (v0 : Value) (T : TypeId) : RowV ((w.alloc o).alloc (.cells #[v0] T)) (some ⟨w.heap.size + 1, 0, none⟩) 1 [v0] := rowV_lit (w.alloc o) _ T (w.heap.size + 1) 1 _ (by simp) rfl rfl
theorem iv_one (l : List Int) : ∀ u ∈ l.map iv, u.oneCell' = true := by
  intro u hu
  obtain ⟨x, _, rfl⟩ := List.mem_map.1 hu
  rfl
def tos (xs : List (Int × Hd)) : List Int := xs.map Prod.fst
theorem tos_take (xs : List (Int × Hd)) {k : Nat} {x : Int × Hd} (h : xs[k]? = some x) : tos (xs.take (k + 1)) = tos (xs.take k) ++ [x.1] := by
  unfold tos
  rw [take_step xs k x h, List.map_append]
  rfl
def FlightGives (w : World) (l : List Int) (e : Ending) (w' : World) : Prop :=
  ∃ ad cap, e = .returned (.slice ad l.length cap) ∧ w'.ownsRow w.heap.size 3 1 (.slice ad l.length cap) l.length (l.map iv) ∧ Below w.heap.size w w'

set_option maxRecDepth 100000 in
set_option maxHeartbeats 4000000 in
theorem flight_any (g base : Nat) (v : Value) (sent : Int) (xs : List (Int × Hd)) (bs : List (List Nat)) (w : World) (h : NetV w g base v sent xs bs) (hn : xs.length ≤ 400) :
    Calls Try.prog 22 #[.pointer (some ⟨g, 0, none⟩)] w (FlightGives w (tos xs)) := by
  obtain ⟨ad, cap, rfl, hcap⟩ := h.val
  obtain ⟨j0, ji, jz0, jz1, jz2⟩ := info_parts Try.info3
  obtain ⟨cs, hcs, hmk⟩ := make_ints xs.length (by omega) w
  obtain ⟨m, hm⟩ : ∃ m, m = xs.length := ⟨_, rfl⟩
  rw [← hm] at hmk hcs hn
  have hown0 := World.ownsRow_made (base := w.heap.size) (e := 3) (size := 1) w cs m (Nat.le_refl _) (by unfold maxLen; omega) hcs
  have hb0 := below_alloc w (.cells cs 3)
  have hN1 := h.below hb0
  obtain ⟨p0, p1, pF⟩ := h.cells
  obtain ⟨q0, q1, qF⟩ := hN1.cells
  rw [← hm] at p0 q0
  have HM := Lib.hid hm
  clear hm hcap hN1
  go_enter Try.func22, Try.ntmps22
  go_wp2
  clear hmk p0 p1 pF q0 q1 qF
  go_loopw [3, 19] (fun u i wr => ∃ (k : Nat) (a : Option Addr) (c : Nat), k ≤ m ∧ i = .int .i64 k ∧ u = .slice a k c ∧ wr.ownsRow w.heap.size 3 1 (.slice a k c) k ((tos (xs.take k)).map iv) ∧ Below w.heap.size w wr) (fun _ i _ => m - (intOf i).toNat)
  case atStart => exact ⟨0, _, m, Nat.zero_le _, rfl, rfl, hown0, hb0⟩
  case round =>
    clear hown0 hb0
    obtain ⟨k, a, c, hk, rfl, rfl, hown, hb⟩ := hrel
    have hbs := hb.size
    by_cases hlt : k < m
    · obtain ⟨x, hx⟩ : ∃ x, xs[k]? = some x := ⟨_, List.getElem?_eq_getElem (by rw [← HM.out]; exact hlt)⟩
      obtain ⟨b, rfl, hbl, r0, r1⟩ := (h.below hb).elem hx
      have HT := Lib.hid (tos_take xs hx)
      obtain ⟨to, a2, n2, c2⟩ := x
      unfold SV at r1
      simp only at r0 r1
      clear hx
      have HO := hown
      have e0 : wr.cell? ⟨b, k * 2, none⟩ = some (.int .i64 to) := r0
      go_wp2_with (first
        | (at_builtin; refine wpList_append_row rfl (.tmp 23) (.tmp 26) 26 rfl w.heap.size 3 j0 (.int .i64 0) 8 Try.underlying26 ji jz0 jz1 jz2 rfl _ _ _ rfl ((hown.alloc _).alloc _) (some ⟨wr.heap.size + 1, 0, none⟩) 1 1 [iv to] rfl (rowV_lit2 _ _ _ _) (fun h => by cases h) (iv_one [_]) (by simp [maxLen]; omega) (by omega) (by simp; omega) ?_; intro v' w4 hE4 g4 _; have hb4 := grow_step (hb.alloc hbs _) _ (hown.alloc _) g4; obtain ⟨a4, c4, rfl, _⟩ := ownsRow_parts hE4; clear g4))
      go_roundw
      case rel =>
        refine ⟨k + 1, a4, c4, by omega, by go_num, rfl, ?_, hb4⟩
        rw [HT.out, List.map_append]
        exact hE4
      case measure => simp [intOf]; omega
    · obtain rfl : k = m := by omega
      have e : xs.take k = xs := List.take_of_length_le (by rw [← HM.out]; exact Nat.le_refl _)
      rw [e] at hown
      have hl : (tos xs).length = k := by simp [tos, HM.out]
      have HL := Lib.hid hl
      clear hl e
      go_wp2
      go_ret
      refine ⟨a, c, ?_, ?_, hb⟩
      · rw [HL.out]; rfl
      · rw [HL.out]; exact hown
end Go.Proofs.Ytbkbkhinpeoflaa
