/-
  meta's reader: bytes taken.
-/
import Derived.Test.YtikjcmijmhmilaaMfB
namespace Go.Proofs.Ytikjcmijmhmilaa
open Go.RowKit

abbrev RT1 : TypeId := 66
set_option maxRecDepth 100000 in
set_option maxHeartbeats 8000000 in
theorem take_yes (b m : Nat) (ad : Option Addr) (n c : Nat) (l : List Nat) (u w : World) (h : BytesV u (ad, n, c) l) (hh : w.heap[b]? = some (.cells #[.slice ad n c] RT1 (0, 0))) (hm : m ≤ n) :
    Calls Try.prog 54 #[.pointer (some ⟨b, 0, none⟩), .int .i64 m] w fun e w' => ∃ c1 a' c', e = .returned (.slice ad m c1) ∧ BytesV u (ad, m, c1) (l.take m) ∧ BytesV u (a', n - m, c') (l.drop m) ∧ w'.heap[b]? = some (.cells #[.slice a' (n - m) c'] RT1 (0, 0)) ∧ w.grownBy w' (some b) := by
  have hln : l.length = n := h.length
  have hc := h.cap
  have hs := h.small
  simp only at hc hs
  have H := Lib.hid h
  have HH := Lib.hid hh
  have HLN := Lib.hid hln
  have c0 : w.cell? ⟨b, 0, none⟩ = some (.slice ad n c) := cell_of_row _ _ 0 _ _ _ hh
  have hfz : w.frozen? ⟨b, 0, none⟩ = false := frozen_of_row _ _ _ _ _ hh
  clear h hh hln
  by_cases hc1 : c = m
  · have hn1 : n = m := by omega
    subst hc1 hn1
    go_enter Try.func54, Try.ntmps54
    go_wp2
    go_ret
    simp only [Nat.sub_self]
    exact ⟨_, _, _, rfl, bytesV_takeB H.out (Nat.le_refl _), bytesV_none (List.drop_eq_nil_of_le (by have := HLN.out; omega)) (fun _ => rfl), heap_setCell_same w b 0 _ _ _ HH.out, grownBy_setCellM w ⟨b, 0, none⟩ _⟩
  · obtain ⟨x, rfl⟩ : ∃ x, ad = some x := by
      cases h1 : ad with
      | some x => exact ⟨x, rfl⟩
      | none => have := H.out.nil h1; simp only at this; omega
    go_enter Try.func54, Try.ntmps54
    go_wp2
    go_ret
    exact ⟨_, _, _, rfl, bytesV_takeB H.out hm, bytesV_dropB H.out rfl hm, heap_setCell_same w b 0 _ _ _ HH.out, grownBy_setCellM w ⟨b, 0, none⟩ _⟩
set_option maxRecDepth 100000 in
set_option maxHeartbeats 8000000 in
theorem take_no (b m : Nat) (ad : Option Addr) (n c : Nat) (w : World) (hh : w.heap[b]? = some (.cells #[.slice ad n c] RT1 (0, 0))) (hm : n < m) :
    Calls Try.prog 54 #[.pointer (some ⟨b, 0, none⟩), .int .i64 m] w fun e w' => e = .panicked [{ v := .iface 39 (.int .i64 90), recovered := false }] ∧ w' = w := by
  have c0 : w.cell? ⟨b, 0, none⟩ = some (.slice ad n c) := cell_of_row _ _ 0 _ _ _ hh
  clear hh
  go_enter Try.func54, Try.ntmps54
  go_wp2
  first | exact ⟨rfl, rfl⟩ | (simp [bodyPost])
end Go.Proofs.Ytikjcmijmhmilaa
