/-
  disk: what a slot keeps behind the power's loss.
-/
import Derived.StillTailTactics
import Derived.Test.YtdidalcflkphnaaMBase
import Derived.Test.YtdidalcflkphnaaMDs1
namespace Go.Proofs.Ytdidalcflkphnaa
open Go.RowKit

theorem heap_alloc_self (w : World) (o : Obj) : (w.alloc o).heap[w.heap.size]? = some o := by show (w.heap.push o)[w.heap.size]? = some o; simp
def remS (safe read : List Nat) (fate : Int) : List Nat := if fate = 1 then read else if fate = 2 then read.take (read.length / 2) ++ safe.drop (min (read.length / 2) safe.length) else safe
theorem BytesV.dropAt {w : World} {sa : Option Addr} {x : Addr} {n c m : Nat} {l : List Nat} (h : BytesV w (sa, n, c) l) (e : sa = some x) (hm : m ≤ n) : BytesV w (some (x.add m), n - m, c - m) (l.drop m) := by
  have hl : l.length = n := h.length
  have hc : n ≤ c := h.cap
  have hs : n ≤ 140737488355328 := h.small
  subst e
  refine ⟨⟨by simp [hl], fun h0 => ?_⟩, fun y hy => h.bytes y (List.mem_of_mem_drop hy), by simp only; omega, by simp only; omega, fun e => by cases e⟩
  simp only at h0
  obtain ⟨b, off, e, hcl⟩ := h.row.2 (by simp only; omega)
  injection e with e
  subst e
  refine ⟨b, off + m, by unfold Addr.add; split <;> simp_all, fun i hi => ?_⟩
  simp only at hi
  rw [show off + m + i = off + (m + i) by omega, hcl (m + i) (by simp only; omega), List.getElem?_map, List.getElem?_map, List.getElem?_drop]
theorem BytesV.dropTo {w : World} {sa : Option Addr} {n c m : Nat} {l : List Nat} (h : BytesV w (sa, n, c) l) (hm : m ≤ n) : c = m → BytesV w (sa, 0, 0) (l.drop m) := fun e => by
  have hl : l.length = n := h.length
  have hc : n ≤ c := h.cap
  rw [List.drop_eq_nil_of_le (by omega)]
  exact ⟨⟨rfl, fun h => absurd h (by simp)⟩, fun x hx => (by cases hx), by simp, by simp, fun _ => rfl⟩
theorem clone_up (ad : Option Addr) (n c : Nat) (l : List Nat) (w w0 : World) (h : BytesV w (ad, n, c) l) (hb : Below w0.heap.size w0 w) :
    Calls Try.prog 47 #[.slice ad n c] w (GivesBytes 5 w0 l) := by
  refine (clone_any ad n c l w h).mono ?_
  rintro e w' ⟨a, cp, rfl, o, b⟩
  exact ⟨a, cp, rfl, ownsRow_base o hb.size, hb.trans (b.mono hb.size)⟩
theorem concat_two (w0 w4 : World) (b4 : Below w0.heap.size w0 w4) (e4 : w4.heap.size = w0.heap.size + 1) (xa : Option Addr) (n1 c1 : Nat) (x : List Nat) (ya : Option Addr) (n2 c2 : Nat) (y : List Nat) (h1 : BytesV w4 (xa, n1, c1) x) (h2 : BytesV w4 (ya, n2, c2) y) (h3 : n1 + n2 ≤ 3000000000) :
    Calls Try.prog 51 #[.slice (some ⟨w0.heap.size + 1, 0, none⟩) 2 2] (w4.alloc (.cells #[.slice xa n1 c1, .slice ya n2 c2] 28)).drew (GivesBytes 5 w0 (x ++ y)) := by
  have hb : Below w4.heap.size w4 (w4.alloc (.cells #[.slice xa n1 c1, .slice ya n2 c2] 28)).drew := ⟨rfl, rfl, rfl, by show w4.heap.size ≤ (w4.alloc _).heap.size; simp, fun b hb => heap_alloc_old w4 _ hb⟩
  have hz : (w4.alloc (.cells #[.slice xa n1 c1, .slice ya n2 c2] 28)).drew.heap.size = w4.heap.size + 1 := by show (w4.alloc _).heap.size = _; simp
  have hr : RowV (w4.alloc (.cells #[.slice xa n1 c1, .slice ya n2 c2] 28)).drew (some ⟨w0.heap.size + 1, 0, none⟩) 2 ([(xa, n1, c1), (ya, n2, c2)].map SV) :=
    (rowV_lit w4 #[.slice xa n1 c1, .slice ya n2 c2] 28 (w0.heap.size + 1) 2 _ e4.symm rfl rfl).kept (fun _ _ => rfl)
  have l1 : x.length = n1 := h1.length
  have l2 : y.length = n2 := h2.length
  refine (concat_any _ 2 2 [(xa, n1, c1), (ya, n2, c2)] [x, y] (by omega) _ hr (rowsV_cons (h1.below hb) (rowsV_cons (h2.below hb) (rowsV_nil _))) (by simp; omega)).mono ?_
  rintro e w' ⟨a, c, rfl, o, b⟩
  have hfl : [x, y].flatten = x ++ y := by simp
  rw [hfl] at o ⊢
  exact ⟨a, c, rfl, ownsRow_base o (by omega), b4.trans ((hb.mono (by omega)).trans (b.mono (by omega)))⟩
set_option maxRecDepth 100000 in
set_option maxHeartbeats 4000000 in
theorem slotRem_any (sa : Option Addr) (sn sc : Nat) (ra : Option Addr) (rn rc : Nat) (bo : Bool) (safe read : List Nat) (fate : Int) (w : World) (hs : BytesV w (sa, sn, sc) safe) (hr : BytesV w (ra, rn, rc) read) (ks : sn ≤ 1000000000) (kr : rn ≤ 1000000000) :
    Calls Try.prog 43 #[.agg #[.slice sa sn sc, .slice ra rn rc, .bool bo], .int .i64 fate] w (GivesBytes 5 w (remS safe read fate)) := by
  have hsl : safe.length = sn := hs.length
  have hrl : read.length = rn := hr.length
  have bt := below_alloc w (.cells #[.slice sa sn sc, .slice ra rn rc, .bool bo] KT)
  have KR := clone_up ra rn rc read _ w (hr.below bt) bt
  have KS := clone_up sa sn sc safe _ w (hs.below bt) bt
  unfold remS
  by_cases h1 : fate = 1
  · subst h1
    rw [if_pos rfl]
    clear KS hs hr hsl hrl
    go_enter Try.func43, Try.ntmps43
    go_wp2_with fail
    (with_reducible refine KR.mono ?_)
    rintro e w' ⟨a, c, rfl, o, b⟩
    clear KR
    go_wp2
    go_ret
    exact ⟨a, c, rfl, o, b⟩
  · rw [if_neg h1]
    by_cases h2 : fate = 2
    · subst h2
      rw [if_pos rfl]
      obtain ⟨hf, hhf⟩ : ∃ h, h = rn / 2 := ⟨_, rfl⟩
      rw [hrl, ← hhf]
      obtain ⟨m, hm⟩ : ∃ m, m = if sn < hf then sn else hf := ⟨_, rfl⟩
      have hmin : min hf safe.length = m := by rw [hm, hsl]; split <;> omega
      rw [hmin]
      obtain ⟨L, hL⟩ : ∃ L, L = read.take hf ++ safe.drop m := ⟨_, rfl⟩
      rw [← hL]
      have HLL := Lib.hid hL
      clear hmin hL
      have hfr : hf ≤ rn := by omega
      have q1 : (rn : Int) / 2 = (hf : Nat) := by omega
      have q2 : IntKind.i64.wrap ((hf : Nat) : Int) = (hf : Nat) := wrap_i64_id _ (by omega) (by omega)
      have hrc : rn ≤ rc := hr.cap
      have hsc : sn ≤ sc := hs.cap
      have HR := Lib.hid hr
      have HS := Lib.hid hs
      have HHF := Lib.hid hhf
      have HSL := Lib.hid hsl
      have HRL := Lib.hid hrl
      clear KR KS hs hr hsl hrl hhf
      go_enter Try.func43, Try.ntmps43
      go_wp2
      obtain ⟨w4, hw4⟩ : ∃ x, x = w.alloc (.cells #[.slice sa sn sc, .slice ra rn rc, .bool bo] KT) := ⟨_, rfl⟩
      have k0 : w4.cell? ⟨w.heap.size, 0, none⟩ = some (.slice sa sn sc) := by rw [hw4]; exact cell_of_row _ _ 0 _ _ _ (heap_alloc_self w _)
      have k1 : w4.cell? ⟨w.heap.size, 1, none⟩ = some (.slice ra rn rc) := by rw [hw4]; exact cell_of_row _ _ 1 _ _ _ (heap_alloc_self w _)
      rw [← hw4] at bt ⊢
      have h4s : w4.heap.size = w.heap.size + 1 := by rw [hw4]; simp
      clear hw4
      obtain ⟨t, ht⟩ : ∃ t, t = w.heap.size := ⟨_, rfl⟩
      rw [← ht] at k0 k1 ⊢
      have HT := Lib.hid ht
      clear ht
      have hfc : ((hf : Nat) : Int) ≤ (rc : Nat) := by omega
      have hms : m ≤ sn := by rw [hm]; split <;> omega
      have KC := concat_two w w4 bt h4s
      have h1r : BytesV w4 (ra, hf, rc) (read.take hf) := by
        have q := HR.out.below bt
        exact ⟨⟨by simp [HRL.out]; omega, fun h0 => by
          obtain ⟨b, off, e, hcl⟩ := q.row.2 (by simp only at h0 ⊢; omega)
          exact ⟨b, off, e, fun i hi => by simp only at hi ⊢; rw [hcl i (by simp only; omega), List.getElem?_map, List.getElem?_map, List.getElem?_take, if_pos hi]⟩⟩, fun y hy => q.bytes y (List.mem_of_mem_take hy), by simp only; omega, by simp only; omega, q.nil⟩
      have HX1 := Lib.hid h1r
      have HSB := Lib.hid (HS.out.below bt)
      have HM := Lib.hid hm
      clear hm h1r
      by_cases hc : sc = m
      · have h2r := HSB.out.dropTo hms hc
        have KCC := KC _ _ _ _ _ _ _ _ HX1.out h2r (by omega)
        rw [← HLL.out] at KCC
        clear KC h2r
        have hsm : sn = m := by omega
        subst hc
        subst hsm
        by_cases hlt : sn < hf
        · go_still_tail 12, (by kernel_rfl)
          go_wp2_with fail
          (with_reducible refine KCC.mono ?_)
          rintro e w' ⟨a, c, rfl, o, b⟩
          clear KCC
          go_wp2
          go_ret
          exact ⟨a, c, rfl, o, b⟩
        · have hhs : hf = sn := by have := HM.out; rw [if_neg hlt] at this; exact this.symm
          subst hhs
          go_still_tail 12, (by kernel_rfl)
          go_wp2_with fail
          (with_reducible refine KCC.mono ?_)
          rintro e w' ⟨a, c, rfl, o, b⟩
          clear KCC
          go_wp2
          go_ret
          exact ⟨a, c, rfl, o, b⟩
      · obtain ⟨x, hx⟩ : ∃ x, sa = some x := by
          cases sa with
          | none => have := HSB.out.nil rfl; simp only at this; omega
          | some x => exact ⟨x, rfl⟩
        have h2r := HSB.out.dropAt hx hms
        have KCC := KC _ _ _ _ _ _ _ _ HX1.out h2r (by omega)
        rw [← HLL.out] at KCC
        clear KC h2r
        subst hx
        by_cases hlt : sn < hf
        · obtain rfl : m = sn := by rw [HM.out, if_pos hlt]
          rw [Nat.sub_self] at KCC
          go_still_tail 12, (by kernel_rfl)
          go_wp2_with fail
          (with_reducible refine KCC.mono ?_)
          rintro e w' ⟨a, c, rfl, o, b⟩
          clear KCC
          go_wp2
          go_ret
          exact ⟨a, c, rfl, o, b⟩
        · obtain rfl : m = hf := by rw [HM.out, if_neg hlt]
          go_still_tail 12, (by kernel_rfl)
          go_wp2_with fail
          (with_reducible refine KCC.mono ?_)
          rintro e w' ⟨a, c, rfl, o, b⟩
          clear KCC
          go_wp2
          go_ret
          exact ⟨a, c, rfl, o, b⟩
    · rw [if_neg h2]
      clear KR hs hr hsl hrl
      go_enter Try.func43, Try.ntmps43
      go_wp2_with fail
      (with_reducible refine KS.mono ?_)
      rintro e w' ⟨a, c, rfl, o, b⟩
      clear KS
      go_wp2
      go_ret
      exact ⟨a, c, rfl, o, b⟩
end Go.Proofs.Ytdidalcflkphnaa
