/-
  lin: ContainsFunc of bytes and of rows; even, width, right; a row's value.
-/
import Derived.Test.YtgnnfpnkhemimaaLiP
import Derived.BigQuiet
import Derived.Deep.QuietTactic
namespace Go.Proofs.Ytgnnfpnkhemimaa
open Go.RowKit

theorem isMore_any (x : Nat) (w : World) : Calls Try.prog 42 #[.int .u8 (x : Int)] w fun e w' => e = .returned (.bool (x != 0)) ∧ w = w' := by
  have h : (x != 0) = (((x : Nat) : Int) != 0) := by
    rw [Bool.eq_iff_iff, bne_iff_ne, bne_iff_ne]; omega
  rw [h]
  clear h
  go_enter Try.func42, Try.ntmps42
  go_wp2
  go_ret
  exact ⟨rfl, rfl⟩
theorem isMore_no (x : Nat) (h : x = 0) (w : World) : Calls Try.prog 42 #[.int .u8 (x : Int)] w fun e w' => e = .returned (.bool false) ∧ w = w' := by
  have := isMore_any x w; rwa [show (x != 0) = false by simpa using h] at this
theorem isMore_yes (x : Nat) (h : x ≠ 0) (w : World) : Calls Try.prog 42 #[.int .u8 (x : Int)] w fun e w' => e = .returned (.bool true) ∧ w = w' := by
  have := isMore_any x w; rwa [show (x != 0) = true by simpa using h] at this

/-- an index was found, or -1. -/
def Found (p : Prop) (w : World) (e : Ending) (w' : World) : Prop := w = w' ∧ ((p ∧ ∃ k : Nat, e = .returned (.int .i64 (k : Int)) ∧ k ≤ 140737488355328) ∨ (¬ p ∧ e = .returned (.int .i64 (-1))))

set_option maxRecDepth 100000 in
set_option maxHeartbeats 2000000 in
theorem indexMore_any (a : Option Addr) (L c : Nat) (e : List Nat) (w : World) (h : BytesV w (a, L, c) e) :
    Calls Try.prog 52 #[.slice a L c, .func (.func 42) #[] #[]] w (Found (e.any (· != 0) = true) w) := by
  have hle : e.length = L := h.length
  have hsm := h.small
  simp only at hsm
  have HLE := Lib.hid hle
  have HB := Lib.hid h.bytes
  have HR := Lib.hid h.row
  clear hle h
  have KN := isMore_no
  have KY := isMore_yes
  go_enter Try.func52, Try.ntmps52
  go_wp2
  go_loopw [8] (fun i wr => ∃ k : Nat, k ≤ L ∧ i = .int .i64 k ∧ (∀ j, j < k → e.getD j 0 = 0) ∧ wr = w) (fun i _ => L - (intOf i).toNat)
  case atStart => exact ⟨0, Nat.zero_le _, rfl, fun j hj => absurd hj (Nat.not_lt_zero _), rfl⟩
  case round =>
    obtain ⟨k, hk, rfl, hz, rfl⟩ := hrel
    have HZ := Lib.hid hz
    clear hz
    by_cases hlt : k < L
    · obtain ⟨b, off, rfl, hcl⟩ := HR.out.2 (by omega)
      have hc1 := hcl k hlt
      rw [bv_getD (by rw [HLE.out]; omega)] at hc1
      obtain ⟨x, hxx⟩ : ∃ x, x = e.getD k 0 := ⟨_, rfl⟩
      rw [← hxx] at hc1
      have HX := Lib.hid hxx
      clear hxx hcl
      by_cases h0 : x = 0
      · have H0 := Lib.hid h0
        clear h0
        go_wp2_with ((with_reducible refine (KN _ H0.out _).mono ?_); rintro e w' ⟨rfl, rfl⟩)
        go_roundw
        case rel => exact ⟨k + 1, by omega, by go_num, fun j hj => (by
          by_cases e : j = k
          · rw [e, ← HX.out]; exact H0.out
          · exact HZ.out j (by omega)), trivial⟩
        case measure => simp [intOf]; omega
      · have H0 := Lib.hid h0
        clear h0
        go_wp2_with ((with_reducible refine (KY _ H0.out _).mono ?_); rintro e w' ⟨rfl, rfl⟩)
        go_ret
        refine ⟨rfl, .inl ⟨List.any_eq_true.2 ⟨e.getD k 0, ?_, ?_⟩, k, rfl, by omega⟩⟩
        · rw [List.getD_eq_getElem?_getD, List.getElem?_eq_getElem (by rw [HLE.out]; exact hlt)]
          exact List.getElem_mem _
        · rw [← HX.out]; simpa using H0.out
    · obtain rfl : k = L := by omega
      go_wp2
      go_ret
      refine ⟨rfl, .inr ⟨fun h => ?_, rfl⟩⟩
      obtain ⟨x, hx, hn⟩ := List.any_eq_true.1 h
      obtain ⟨j, hj, rfl⟩ := List.mem_iff_getElem.1 hx
      have := HZ.out j (by rw [HLE.out] at hj; exact hj)
      rw [List.getD_eq_getElem?_getD, List.getElem?_eq_getElem hj] at this
      simp only [Option.getD_some] at this
      rw [this] at hn
      cases hn
theorem containsMore_any (a : Option Addr) (L c : Nat) (e : List Nat) (w : World) (h : BytesV w (a, L, c) e) :
    Calls Try.prog 41 #[.slice a L c, .func (.func 42) #[] #[]] w fun x w' => x = .returned (.bool (e.any (· != 0))) ∧ w = w' := by
  have KI := indexMore_any a L c e w h
  generalize e.any (· != 0) = t at KI ⊢
  go_enter Try.func41, Try.ntmps41
  go_wp2_with fail
  (with_reducible refine KI.mono ?_)
  rintro x w1 ⟨rfl, ⟨hp, k, rfl, hk⟩ | ⟨hp, rfl⟩⟩
  · go_wp2
    go_ret
    exact ⟨by rw [hp]; rfl, rfl⟩
  · go_wp2
    go_ret
    exact ⟨by rw [show t = false by simpa using hp]; rfl, rfl⟩

theorem evenLen_any (a : Option Addr) (n c g : Nat) (k : Int) (w : World) (hg : w.cell? ⟨g, 0, none⟩ = some (.int .i64 k)) :
    Calls Try.prog 48 #[.slice a n c, .pointer (some ⟨g, 0, none⟩)] w fun e w' => e = .returned (.bool ((n : Int) != k)) ∧ w = w' := by
  go_enter Try.func48, Try.ntmps48
  go_wp2
  go_ret
  exact ⟨rfl, rfl⟩
theorem evenLen_no (a : Option Addr) (n c g : Nat) (k : Int) (w : World) (hg : w.cell? ⟨g, 0, none⟩ = some (.int .i64 k)) (h : (n : Int) = k) :
    Calls Try.prog 48 #[.slice a n c, .pointer (some ⟨g, 0, none⟩)] w fun e w' => e = .returned (.bool false) ∧ w = w' := by
  have := evenLen_any a n c g k w hg; rwa [show ((n : Int) != k) = false by simpa using h] at this
theorem evenLen_yes (a : Option Addr) (n c g : Nat) (k : Int) (w : World) (hg : w.cell? ⟨g, 0, none⟩ = some (.int .i64 k)) (h : (n : Int) ≠ k) :
    Calls Try.prog 48 #[.slice a n c, .pointer (some ⟨g, 0, none⟩)] w fun e w' => e = .returned (.bool true) ∧ w = w' := by
  have := evenLen_any a n c g k w hg; rwa [show ((n : Int) != k) = true by simpa using h] at this

/-- have all lists this length? -/
def evenB (ls : List (List Nat)) (k : Int) : Bool := ls.all fun l => decide ((l.length : Int) = k)
theorem evenB_iff {ls : List (List Nat)} {k : Int} : evenB ls k = true ↔ ∀ l ∈ ls, (l.length : Int) = k := by simp [evenB]

set_option maxRecDepth 100000 in
set_option maxHeartbeats 2000000 in
theorem indexLen_any (adv : Option Addr) (n cv g : Nat) (k : Int) (hs : List (Option Addr × Nat × Nat)) (ls : List (List Nat)) (w : World) (hv : RowV w adv n (hs.map SV)) (hn : n ≤ 140737488355328) (hr : RowsV w hs ls) (hg : w.cell? ⟨g, 0, none⟩ = some (.int .i64 k)) :
    Calls Try.prog 56 #[.slice adv n cv, .func (.func 48) #[] #[.pointer (some ⟨g, 0, none⟩)]] w (Found (evenB ls k = false) w) := by
  have hhs : hs.length = n := by have := hv.1; simpa using this
  have hls : ls.length = n := by rw [← hr.1, hhs]
  have HHS := Lib.hid hhs
  have HLS := Lib.hid hls
  have HV := Lib.hid hv
  have HR := Lib.hid hr
  clear hhs hls hv hr
  have KN := fun a n c h => evenLen_no a n c g k w hg h
  have KY := fun a n c h => evenLen_yes a n c g k w hg h
  go_enter Try.func56, Try.ntmps56
  go_wp2
  go_loopw [8] (fun i wr => ∃ m : Nat, m ≤ n ∧ i = .int .i64 m ∧ (∀ j l, j < m → ls[j]? = some l → (l.length : Int) = k) ∧ wr = w) (fun i _ => n - (intOf i).toNat)
  case atStart => exact ⟨0, Nat.zero_le _, rfl, fun j _ hj => absurd hj (Nat.not_lt_zero _), rfl⟩
  case round =>
    obtain ⟨m, hm, rfl, hz, rfl⟩ := hrel
    have HZ := Lib.hid hz
    clear hz
    by_cases hlt : m < n
    · obtain ⟨b, off, rfl, hcl⟩ := HV.out.2 (by omega)
      obtain ⟨⟨a2, n2, c2⟩, hx⟩ : ∃ x, hs[m]? = some x := ⟨_, List.getElem?_eq_getElem (by rw [HHS.out]; exact hlt)⟩
      obtain ⟨l, hl⟩ : ∃ l, ls[m]? = some l := ⟨_, List.getElem?_eq_getElem (by rw [HLS.out]; exact hlt)⟩
      have hB := HR.out.2 m _ l hx hl
      have hc1 := hcl m hlt
      rw [List.getElem?_map, hx] at hc1
      unfold SV at hc1
      simp only [Option.map_some] at hc1
      have hll : l.length = n2 := hB.length
      have HLL := Lib.hid hll
      have HL := Lib.hid hl
      clear hcl hx hl hB hll
      by_cases h0 : (n2 : Int) = k
      · have H0 := Lib.hid h0
        clear h0
        go_wp2_with ((with_reducible refine (KN _ _ _ H0.out).mono ?_); rintro e w' ⟨rfl, rfl⟩)
        go_roundw
        case rel => exact ⟨m + 1, by omega, by go_num, fun j l' hj hl' => (by
          by_cases e : j = m
          · rw [e, HL.out] at hl'
            injection hl' with hl'
            rw [← hl', HLL.out]; exact H0.out
          · exact HZ.out j l' (by omega) hl'), trivial⟩
        case measure => simp [intOf]; omega
      · have H0 := Lib.hid h0
        clear h0
        go_wp2_with ((with_reducible refine (KY _ _ _ H0.out).mono ?_); rintro e w' ⟨rfl, rfl⟩)
        go_ret
        refine ⟨rfl, .inl ⟨?_, m, rfl, by omega⟩⟩
        cases he : evenB ls k with
        | false => rfl
        | true => exact absurd (by rw [← HLL.out]; exact evenB_iff.1 he l (List.mem_of_getElem? HL.out)) H0.out
    · obtain rfl : m = n := by omega
      go_wp2
      go_ret
      refine ⟨rfl, .inr ⟨?_, rfl⟩⟩
      rw [evenB_iff.2 fun l hl => ?_]
      · simp
      · obtain ⟨j, hj⟩ := List.getElem?_of_mem hl
        exact HZ.out j l (by have := (List.getElem?_eq_some_iff.1 hj).1; rw [HLS.out] at this; exact this) hj
theorem containsLen_any (adv : Option Addr) (n cv g : Nat) (k : Int) (hs : List (Option Addr × Nat × Nat)) (ls : List (List Nat)) (w : World) (hv : RowV w adv n (hs.map SV)) (hn : n ≤ 140737488355328) (hr : RowsV w hs ls) (hg : w.cell? ⟨g, 0, none⟩ = some (.int .i64 k)) :
    Calls Try.prog 47 #[.slice adv n cv, .func (.func 48) #[] #[.pointer (some ⟨g, 0, none⟩)]] w fun x w' => x = .returned (.bool (!evenB ls k)) ∧ w = w' := by
  have KI := indexLen_any adv n cv g k hs ls w hv hn hr hg
  generalize evenB ls k = t at KI ⊢
  go_enter Try.func47, Try.ntmps47
  go_wp2_with fail
  (with_reducible refine KI.mono ?_)
  rintro x w1 ⟨rfl, ⟨hp, m, rfl, hm⟩ | ⟨hp, rfl⟩⟩
  · go_wp2
    go_ret
    exact ⟨by rw [hp]; rfl, rfl⟩
  · go_wp2
    go_ret
    exact ⟨by rw [show t = true by simpa using hp]; rfl, rfl⟩
set_option maxHeartbeats 1000000 in
theorem even_any (adv : Option Addr) (n cv : Nat) (k : Int) (hs : List (Option Addr × Nat × Nat)) (ls : List (List Nat)) (w : World) (hv : RowV w adv n (hs.map SV)) (hn : n ≤ 140737488355328) (hr : RowsV w hs ls) :
    Calls Try.prog 32 #[.slice adv n cv, .int .i64 k] w fun x w' => x = .returned (.bool (evenB ls k)) ∧ Below w.heap.size w w' := by
  have hb := below_alloc w (.cells #[.int .i64 k] 3)
  have KC := containsLen_any adv n cv w.heap.size k hs ls (w.alloc (.cells #[.int .i64 k] 3)) (hv.below hb) hn (hr.below hb) (by rw [cell_of_row _ _ 0 _ _ _ (heap_alloc_new w _)]; rfl)
  generalize evenB ls k = t at KC ⊢
  clear hv hr
  go_enter Try.func32, Try.ntmps32
  go_wp2_with fail
  (with_reducible refine KC.mono ?_)
  rintro x w1 ⟨rfl, rfl⟩
  go_wp2
  go_ret
  exact ⟨by cases t <;> rfl, hb⟩
end Go.Proofs.Ytgnnfpnkhemimaa
