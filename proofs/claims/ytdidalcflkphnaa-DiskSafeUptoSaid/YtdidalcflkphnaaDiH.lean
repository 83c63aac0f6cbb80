/-
  disk: has, Slots, Read.
-/
import Derived.Test.YtdidalcflkphnaaDiG
namespace Go.Proofs.Ytdidalcflkphnaa
open Go.RowKit

theorem kcells_at : ∀ (hs : List SlH) (k : Nat) (x : SlH), hs[k]? = some x → (kcells hs)[k * 3]? = some (SV x.1) ∧ (kcells hs)[k * 3 + 1]? = some (SV x.2.1) ∧ (kcells hs)[k * 3 + 2]? = some (.bool x.2.2)
  | [], k, x, h => by simp at h
  | y :: ys, 0, x, h => by
    simp only [List.getElem?_cons_zero, Option.some.injEq] at h
    subst h
    exact ⟨rfl, rfl, rfl⟩
  | y :: ys, k + 1, x, h => by
    have := kcells_at ys k x (by simpa using h)
    rw [show (k + 1) * 3 = k * 3 + 3 by omega]
    exact this
theorem SlM.at {w : World} {F : Nat → Prop} {sh : HdT} {hs : List SlH} {sl : List Slot} (h : SlM w F sh hs sl) {k : Nat} (hk : k < sl.length) :
    ∃ b c x, sh = (some ⟨b, 0, none⟩, sl.length, c) ∧ sl.length ≤ c ∧ hs[k]? = some x ∧ w.cell? ⟨b, 0 + k * 3, none⟩ = some (SV x.1) ∧ w.cell? ⟨b, 0 + k * 3 + 1, none⟩ = some (SV x.2.1) ∧ w.cell? ⟨b, 0 + k * 3 + 2, none⟩ = some (.bool x.2.2) ∧ ∀ j, w.frozen? ⟨b, j, none⟩ = false := by
  obtain ⟨s1, s2, s3⟩ := sh
  obtain ⟨x, hx⟩ : ∃ x, hs[k]? = some x := ⟨_, List.getElem?_eq_getElem (by rw [h.hl]; exact hk)⟩
  rcases h.own.2 with ⟨-, e⟩ | ⟨b, cap, cur, e, -, hh, hnc, hcm, hcs, ht⟩
  · omega
  · injection e with e1 e2 e3
    subst e1 e2 e3
    obtain ⟨q1, q2, q3⟩ := kcells_at hs k _ hx
    have hat : ∀ j v, j < sl.length * 3 → (kcells hs)[j]? = some v → cur[j]? = some v := fun j v hj hv => by
      rw [← ht, List.getElem?_take_of_lt hj] at hv
      simpa using hv
    refine ⟨b, _, _, rfl, hnc, hx, ?_, ?_, ?_, fun j => frozen_of_row _ _ _ _ _ hh⟩
    · exact (cell_of_row _ _ _ _ _ _ hh).trans (by rw [Nat.zero_add]; exact hat _ _ (by omega) q1)
    · exact (cell_of_row _ _ _ _ _ _ hh).trans (by rw [Nat.zero_add]; exact hat _ _ (by omega) q2)
    · exact (cell_of_row _ _ _ _ _ _ hh).trans (by rw [Nat.zero_add]; exact hat _ _ (by omega) q3)
set_option maxRecDepth 100000 in
set_option maxHeartbeats 4000000 in
theorem has_any (g : Nat) (i : Int) (a : Option Addr) (n c : Nat) (w : World) (k5 : w.cell? ⟨g, 5, none⟩ = some (.slice a n c)) :
    Calls Try.prog 46 #[.pointer (some ⟨g, 0, none⟩), .int .i64 i] w fun e w' => e = .returned (.bool (decide (0 ≤ i ∧ i < (n : Int)))) ∧ w' = w := by
  by_cases h0 : 0 ≤ i
  · by_cases h1 : i < (n : Int)
    · rw [decide_eq_true ⟨h0, h1⟩]
      go_enter Try.func46, Try.ntmps46
      go_wp2
      go_ret
      exact ⟨rfl, rfl⟩
    · rw [decide_eq_false (fun e => h1 e.2)]
      go_enter Try.func46, Try.ntmps46
      go_wp2
      go_ret
      exact ⟨rfl, rfl⟩
  · rw [decide_eq_false (fun e => h0 e.1)]
    go_enter Try.func46, Try.ntmps46
    go_wp2
    go_ret
    exact ⟨rfl, rfl⟩
set_option maxRecDepth 100000 in
set_option maxHeartbeats 4000000 in
theorem slots_any (F : Nat → Prop) (g : Nat) (d : DV) (w : World) (hD : DiskM w F g d) :
    Calls Try.prog 30 #[.pointer (some ⟨g, 0, none⟩)] w fun e w' => e = .returned (.int .i64 (d.sl.length : Nat)) ∧ w' = w := by
  obtain ⟨FL, FS, sa, rd, sh, hs, h1, h2, h3, h4, h5, h6, h7, h8, h9⟩ := hD
  obtain ⟨-, -, -, -, -, c5, cF⟩ := cells6D h1
  have hl := h3.len
  obtain ⟨s1, s2, s3⟩ := sh
  simp only at hl
  rw [← hl]
  clear h1 h2 h3 h4 h5 h6 h7 h8 h9 hl
  replace c5 : w.cell? ⟨g, 5, none⟩ = some (.slice s1 s2 s3) := c5
  go_enter Try.func30, Try.ntmps30
  go_wp2
  go_ret
  exact ⟨rfl, rfl⟩
def readV (d : DV) (i : Int) : List Nat × Int := if 0 ≤ i ∧ i < (d.sl.length : Int) then ((d.sl.getD i.toNat ([], [], false)).2.1, 0) else ([], 80)
set_option maxRecDepth 100000 in
set_option maxHeartbeats 4000000 in
theorem read_any (F : Nat → Prop) (g : Nat) (d : DV) (i : Int) (w : World) (hD : DiskM w F g d) :
    Calls Try.prog 28 #[.pointer (some ⟨g, 0, none⟩), .int .i64 i] w fun e w' => ∃ ad cap, e = .returned (.tuple #[.slice ad (readV d i).1.length cap, .int .i64 (readV d i).2]) ∧ w'.ownsRow w.heap.size 5 1 (.slice ad (readV d i).1.length cap) (readV d i).1.length ((readV d i).1.map bv) ∧ Below w.heap.size w w' := by
  obtain ⟨FL, FS, sa, rd, sh, hs, h1, h2, h3, h4, h5, h6, h7, h8, h9⟩ := hD
  obtain ⟨-, -, -, -, -, c5, cF⟩ := cells6D h1
  have f5 := cF 5
  unfold readV
  by_cases hi : 0 ≤ i ∧ i < (d.sl.length : Int)
  · rw [if_pos hi]
    obtain ⟨h0, hlt⟩ := hi
    obtain ⟨k, rfl⟩ : ∃ k : Nat, i = k := ⟨i.toNat, by omega⟩
    have hk : k < d.sl.length := by omega
    obtain ⟨b, c, x, rfl, hc, hx, x0, x1, x2, xF⟩ := h3.at hk
    obtain ⟨o, ho⟩ : ∃ o, o = 0 := ⟨0, rfl⟩
    rw [← ho] at x1
    have fx := xF (o + k * 3 + 1)
    have hsl : d.sl[k]? = some (d.sl.getD k ([], [], false)) := by rw [List.getD_eq_getElem?_getD, List.getElem?_eq_getElem hk]; rfl
    rw [Int.toNat_natCast]
    obtain ⟨y, hy⟩ : ∃ y, y = d.sl.getD k ([], [], false) := ⟨_, rfl⟩
    rw [← hy] at hsl ⊢
    obtain ⟨-, -, hby⟩ := h3.each k x y hx hsl
    have hb : BytesV w (x.2.1.1, x.2.1.2.1, x.2.1.2.2) y.2.1 := by
      have q := hby.bytesV
      rw [← hby.len] at q
      exact q
    have KH := has_any g k (some ⟨b, o, none⟩) d.sl.length c w (by rw [ho]; exact c5)
    rw [decide_eq_true ⟨h0, hlt⟩] at KH
    replace c5 : w.cell? ⟨g, 5, none⟩ = some (.slice (some ⟨b, o, none⟩) d.sl.length c) := by rw [ho]; exact c5
    obtain ⟨xs, ⟨r1, r2, r3⟩, xb⟩ := x
    replace x1 : w.cell? ⟨b, o + k * 3 + 1, none⟩ = some (.slice r1 r2 r3) := x1
    have KC := clone_any r1 r2 r3 y.2.1 w hb
    obtain ⟨N, hN⟩ : ∃ N, N = d.sl.length := ⟨_, rfl⟩
    rw [← hN] at c5 hk hlt hc
    dsimp only
    clear h1 h2 h3 h4 h5 h6 h7 h8 h9 x0 x2 xF hx hsl hby hb ho hN hy cF
    go_enter Try.func28, Try.ntmps28
    go_wp2_with fail
    (with_reducible refine KH.mono ?_)
    rintro e w1 ⟨rfl, hw⟩
    subst hw
    go_wp2_with fail
    (with_reducible refine KC.mono ?_)
    rintro e w2 ⟨ad, cap, rfl, o2, b2⟩
    have HO := Lib.hid o2
    have HB := Lib.hid b2
    clear KC KH o2 b2
    go_wp2
    refine bodyPost_ret (results_tmp2 rfl _ _ _) rfl ?_
    exact ⟨ad, cap, rfl, HO.out, HB.out⟩
  · rw [if_neg hi]
    have hl := h3.len
    obtain ⟨s1, s2, s3⟩ := sh
    have KH := has_any g i s1 s2 s3 w c5
    simp only at hl
    rw [hl, decide_eq_false hi] at KH
    clear h1 h2 h3 h4 h5 h6 h7 h8 h9 c5 f5 cF
    go_enter Try.func28, Try.ntmps28
    go_wp2_with fail
    (with_reducible refine KH.mono ?_)
    rintro e w1 ⟨rfl, hw⟩
    subst hw
    clear KH
    go_wp2
    refine bodyPost_ret (results_tmp2 rfl _ _ _) rfl ?_
    exact ⟨none, 0, rfl, ⟨rfl, .inl ⟨rfl, rfl⟩⟩, .refl _ _⟩
end Go.Proofs.Ytdidalcflkphnaa
