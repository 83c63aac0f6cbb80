/-
  meta's reader: bytes taken.
-/
import Derived.Test.YtikjcmijmhmilaaMfB
namespace Go.Proofs.Ytikjcmijmhmilaa
open Go.RowKit

abbrev RT1 : TypeId := 66
/-- bytes that may be somewhat longer than what comes in. -/
structure BytesR (w : World) (x : Option Addr × Nat × Nat) (l : List Nat) : Prop where
  row : RowV w x.1 x.2.1 (l.map bv)
  bytes : Bytes l
  small : x.2.1 ≤ 281474976710656
  cap : x.2.1 ≤ x.2.2
  nil : x.1 = none → x.2.2 = 0
theorem BytesR.length {w : World} {x : Option Addr × Nat × Nat} {l : List Nat} (h : BytesR w x l) : l.length = x.2.1 := by have := h.row.1; simpa using this
theorem BytesR.below {w w' : World} {x : Option Addr × Nat × Nat} {l : List Nat} (h : BytesR w x l) (hb : Below w.heap.size w w') : BytesR w' x l := ⟨h.row.below hb, h.bytes, h.small, h.cap, h.nil⟩
theorem BytesV.r {w : World} {x : Option Addr × Nat × Nat} {l : List Nat} (h : BytesV w x l) : BytesR w x l := ⟨h.row, h.bytes, Nat.le_trans h.small (by decide), h.cap, h.nil⟩
theorem BytesR.v {w : World} {x : Option Addr × Nat × Nat} {l : List Nat} (h : BytesR w x l) (hs : x.2.1 ≤ 140737488355328) : BytesV w x l := ⟨h.row, h.bytes, hs, h.cap, h.nil⟩
theorem bytesR_none {w : World} {a : Option Addr} {c : Nat} {l : List Nat} (hl : l = []) (h : a = none → c = 0) : BytesR w (a, 0, c) l := (bytesV_none hl h).r
theorem bytesR_take {w : World} {a : Option Addr} {n c m : Nat} {l : List Nat} (h : BytesR w (a, n, c) l) (hm : m ≤ n) : BytesR w (a, m, c) (l.take m) := by
  have hl : l.length = n := h.length
  have hc : n ≤ c := h.cap
  have hs : n ≤ 281474976710656 := h.small
  refine ⟨⟨by simp; omega, fun h0 => ?_⟩, fun y hy => h.bytes y (List.mem_of_mem_take hy), by simp only; omega, by simp only; omega, h.nil⟩
  simp only at h0
  obtain ⟨b, off, e, hcl⟩ := h.row.2 (by simp only; omega)
  refine ⟨b, off, e, fun i hi => ?_⟩
  simp only at hi
  rw [hcl i (by simp only; omega), List.getElem?_map, List.getElem?_map, List.getElem?_take, if_pos hi]
theorem bytesR_drop {w : World} {sa : Option Addr} {x : Addr} {n c m : Nat} {l : List Nat} (h : BytesR w (sa, n, c) l) (e : sa = some x) (hm : m ≤ n) : BytesR w (some (x.add m), n - m, c - m) (l.drop m) := by
  have hl : l.length = n := h.length
  have hc : n ≤ c := h.cap
  have hs : n ≤ 281474976710656 := h.small
  subst e
  refine ⟨⟨by simp [hl], fun h0 => ?_⟩, fun y hy => h.bytes y (List.mem_of_mem_drop hy), by simp only; omega, by simp only; omega, fun e => by cases e⟩
  simp only at h0
  obtain ⟨b, off, e, hcl⟩ := h.row.2 (by simp only; omega)
  injection e with e
  subst e
  refine ⟨b, off + m, by unfold Addr.add; split <;> simp_all, fun i hi => ?_⟩
  simp only at hi
  rw [show off + m + i = off + (m + i) by omega, hcl (m + i) (by simp only; omega), List.getElem?_map, List.getElem?_map, List.getElem?_drop]
set_option maxRecDepth 100000 in
set_option maxHeartbeats 8000000 in
theorem take_yes (b m : Nat) (ad : Option Addr) (n c : Nat) (l : List Nat) (u w : World) (h : BytesR u (ad, n, c) l) (hh : w.heap[b]? = some (.cells #[.slice ad n c] RT1 (0, 0))) (hm : m ≤ n) :
    Calls Try.prog 54 #[.pointer (some ⟨b, 0, none⟩), .int .i64 m] w fun e w' => ∃ c1 a' c', e = .returned (.slice ad m c1) ∧ BytesR u (ad, m, c1) (l.take m) ∧ BytesR u (a', n - m, c') (l.drop m) ∧ w'.heap[b]? = some (.cells #[.slice a' (n - m) c'] RT1 (0, 0)) ∧ w.grownBy w' (some b) := by
  have hln : l.length = n := h.length
  have hc := h.cap
  have hs := h.small
  simp only at hc hs
  have H := Lib.hid h
  have HH := Lib.hid hh
  have HLN := Lib.hid hln
  have c0 : w.cell? ⟨b, 0, none⟩ = some (.slice ad n c) := cell_of_row _ _ 0 _ _ _ hh
  have hfz : w.frozen? ⟨b, 0, none⟩ = false := frozen_of_row _ _ _ _ _ hh
  clear h hh hln
  by_cases hc1 : c = m
  · have hn1 : n = m := by omega
    subst hc1 hn1
    go_enter Try.func54, Try.ntmps54
    go_wp2
    go_ret
    simp only [Nat.sub_self]
    exact ⟨_, _, _, rfl, bytesR_take H.out (Nat.le_refl _), bytesR_none (List.drop_eq_nil_of_le (by have := HLN.out; omega)) (fun _ => rfl), heap_setCell_same w b 0 _ _ _ HH.out, grownBy_setCellM w ⟨b, 0, none⟩ _⟩
  · obtain ⟨x, rfl⟩ : ∃ x, ad = some x := by
      cases h1 : ad with
      | some x => exact ⟨x, rfl⟩
      | none => have := H.out.nil h1; simp only at this; omega
    go_enter Try.func54, Try.ntmps54
    go_wp2
    go_ret
    exact ⟨_, _, _, rfl, bytesR_take H.out hm, bytesR_drop H.out rfl hm, heap_setCell_same w b 0 _ _ _ HH.out, grownBy_setCellM w ⟨b, 0, none⟩ _⟩
set_option maxRecDepth 100000 in
set_option maxHeartbeats 8000000 in
theorem take_no (b m : Nat) (ad : Option Addr) (n c : Nat) (w : World) (hh : w.heap[b]? = some (.cells #[.slice ad n c] RT1 (0, 0))) (hm : n < m) :
    Calls Try.prog 54 #[.pointer (some ⟨b, 0, none⟩), .int .i64 m] w fun e w' => e = .panicked [{ v := .iface 39 (.int .i64 90), recovered := false }] ∧ w' = w := by
  have c0 : w.cell? ⟨b, 0, none⟩ = some (.slice ad n c) := cell_of_row _ _ 0 _ _ _ hh
  clear hh
  go_enter Try.func54, Try.ntmps54
  go_wp2
  first | exact ⟨rfl, rfl⟩ | (simp [bodyPost])
end Go.Proofs.Ytikjcmijmhmilaa
