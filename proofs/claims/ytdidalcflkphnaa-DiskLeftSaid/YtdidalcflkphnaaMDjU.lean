/-
  rillref08: rows that are read, rows that are copied; Read.
-/
import Derived.Test.YtdidalcflkphnaaMDjT
namespace Go.Proofs.Ytdidalcflkphnaa
open Go.RowKit

theorem Try.info4 : (Try.prog.info? 4).map (fun i => (i.zero, i.size, i.bytes)) = some (some (.bool false), 1, 1) := by kernel_rfl
theorem RowsR.parts {w : World} {R : Nat → Prop} {x : HdT} {ls : List (List Nat)} (h : RowsR w R x ls) : ∃ hs : List HdT, RowV w x.1 x.2.1 (hs.map SV) ∧ RowsV w hs ls ∧ (∀ (i : Nat) y l, hs[i]? = some y → ls[i]? = some l → ByR w R y l) ∧ hs.length = ls.length := by
  obtain ⟨hs, h1, h2, h3⟩ := h.ex
  exact ⟨hs, h1.row, ⟨h2, fun i y l a b => (h3 i y l a b).bv_⟩, h3, h2⟩
theorem RowsR.bytes {w : World} {R : Nat → Prop} {x : HdT} {ls : List (List Nat)} (h : RowsR w R x ls) : ∀ l ∈ ls, Bytes l ∧ l.length ≤ 1000000000 := by
  obtain ⟨hs, -, h2, h3⟩ := h.ex
  intro l hl
  obtain ⟨i, hi⟩ := List.getElem?_of_mem hl
  have hlt := (List.getElem?_eq_some_iff.1 hi).1
  have q := h3 i _ l (List.getElem?_eq_getElem (by omega)) hi
  exact ⟨q.bytes, q.small⟩
theorem RowsR.own {w : World} {R : Nat → Prop} {B c : Nat} {T : TypeId} {a : Option Addr} {hs : List HdT} {ls : List (List Nat)} (o : w.ownsRow B T 1 (.slice a ls.length c) ls.length (hs.map SV)) (k : OwnsRows w B 5 hs ls) (hb : ∀ l ∈ ls, Bytes l ∧ l.length ≤ 1000000000) (hR : ∀ b, B ≤ b → b < w.heap.size → R b) : RowsR w R (a, ls.length, c) ls := by
  refine ⟨hs, .own o hR, k.1, fun i y l h1 h2 => ?_⟩
  obtain ⟨q1, q2⟩ := k.2 i y l h1 h2
  obtain ⟨y1, y2, y3⟩ := y
  simp only at q1
  subst q1
  obtain ⟨z1, z2⟩ := hb l (List.mem_of_getElem? h2)
  exact .own q2 z1 z2 hR
theorem made_bool (n : Nat) : (madeCells #[.bool false] (n * 1)).toList = List.replicate n (.bool false) := by
  apply List.ext_getElem?
  intro j
  by_cases hj : j < n
  · unfold madeCells
    rw [Array.getElem?_toList, Array.getElem?_map, Array.getElem?_range, if_pos (by omega), List.getElem?_replicate, if_pos hj]
    show some (#[Value.bool false][j % 1]!) = _
    rw [Nat.mod_one]
    rfl
  · rw [List.getElem?_eq_none (by simp [size_madeCells]; omega), List.getElem?_eq_none (by simp; omega)]
set_option maxRecDepth 100000 in
set_option maxHeartbeats 4000000 in
theorem refRead_any (R : Nat → Prop) (h : RefH) (d : DV) (i : Int) (w : World) (k : RefD w R h d) :
    Calls Try.prog 38 #[h.v, .int .i64 i] w fun e w' => ∃ ad cap, e = .returned (.tuple #[.slice ad (readV d i).1.length cap, .int .i64 (readV d i).2]) ∧ w'.ownsRow w.heap.size 5 1 (.slice ad (readV d i).1.length cap) (readV d i).1.length ((readV d i).1.map bv) ∧ Below w.heap.size w w' := by
  obtain ⟨p, ⟨sa1, sa2, sa3⟩, laid, ⟨ba1, ba2, ba3⟩, ⟨mo1, mo2, mo3⟩, ⟨st1, st2, st3⟩, ⟨no1, no2, no3⟩, ⟨fr1, fr2, fr3⟩, op⟩ := h
  have hn2 := k.no.len
  simp only [List.length_map] at hn2
  have bt := below_alloc w (.cells (RefH.cells ⟨p, (sa1, sa2, sa3), laid, (ba1, ba2, ba3), (mo1, mo2, mo3), (st1, st2, st3), (no1, no2, no3), (fr1, fr2, fr3), op⟩) RT)
  obtain ⟨hs, hrow, hrows, hby, hlen⟩ := k.no.parts
  have hcp : no2 ≤ no3 := by obtain ⟨_, q, -⟩ := k.no.ex; exact q.cap
  simp only at hrow
  unfold readV
  unfold RefH.cells at bt
  simp only at bt
  unfold RefH.v RefH.cells
  by_cases hi : 0 ≤ i ∧ i < (d.sl.length : Int)
  · rw [if_pos hi]
    obtain ⟨hi0, hi1⟩ := hi
    obtain ⟨j, rfl⟩ : ∃ j : Nat, i = j := ⟨i.toNat, by omega⟩
    rw [Int.toNat_natCast]
    have hj : j < d.sl.length := by omega
    obtain ⟨s, hs'⟩ : ∃ s, d.sl[j]? = some s := ⟨_, List.getElem?_eq_getElem hj⟩
    have hg : d.sl.getD j ([], [], false) = s := by rw [List.getD_eq_getElem?_getD, hs']; rfl
    rw [hg]
    obtain ⟨⟨y1, y2, y3⟩, hy⟩ : ∃ y, hs[j]? = some y := ⟨_, List.getElem?_eq_getElem (by rw [hlen]; simpa using hj)⟩
    have hb := hby j _ s.2.1 hy (by rw [List.getElem?_map, hs']; rfl)
    obtain ⟨X, hX⟩ : ∃ X, X = s.2.1 := ⟨_, rfl⟩
    rw [← hX] at hb ⊢
    obtain rfl : X.length = y2 := hb.len
    have KC := copyBytes_any y1 X.length y3 X _ (hb.bv_.below bt)
    obtain ⟨nb, no, e, hc⟩ := hrow.2 (by omega)
    subst e
    have hcell : w.cell? ⟨nb, no + j, none⟩ = some (.slice y1 X.length y3) := by
      rw [hc j (by omega), List.getElem?_map, hy]; rfl
    have hc4 := (bt.cell (p := ⟨nb, no + j, none⟩) (World.block_lt_of_cell? w ⟨nb, no + j, none⟩ hcell)).trans hcell
    have hjI : (j : Int) < (no2 : Int) := by omega
    have HBT := Lib.hid bt
    clear hX hb hc hcell hrow hrows hby hy hs' hg k hlen hn2 bt
    go_enter Try.func38, Try.ntmps38
    go_wp2_with fail
    (with_reducible refine KC.mono ?_)
    rintro e w1 ⟨a1, c1, rfl, o1, b1⟩
    have HO := Lib.hid (ownsRow_base o1 HBT.out.size)
    have HB := Lib.hid (HBT.out.trans (b1.mono HBT.out.size))
    clear KC o1 b1
    go_wp2
    refine bodyPost_ret (results_tmp2 rfl _ _ _) rfl ?_
    exact ⟨a1, c1, rfl, HO.out, HB.out⟩
  · rw [if_neg hi]
    have HBT := Lib.hid bt
    have hn2' := Lib.hid hn2
    clear hrow hrows hby k hlen bt hn2
    by_cases h0 : i < 0
    · go_enter Try.func38, Try.ntmps38
      go_wp2
      refine bodyPost_ret (results_tmp2 rfl _ _ _) rfl ?_
      exact ⟨none, 0, rfl, ⟨rfl, .inl ⟨rfl, rfl⟩⟩, HBT.out⟩
    · have h1 : (no2 : Int) ≤ i := by have := hn2'.out; omega
      clear hi
      go_enter Try.func38, Try.ntmps38
      go_wp2
      refine bodyPost_ret (results_tmp2 rfl _ _ _) rfl ?_
      exact ⟨none, 0, rfl, ⟨rfl, .inl ⟨rfl, rfl⟩⟩, HBT.out⟩
end Go.Proofs.Ytdidalcflkphnaa
