/-
  rillref08: turned; Write's refusals.
-/
import Derived.Test.YtdidalcflkphnaaMDjW
namespace Go.Proofs.Ytdidalcflkphnaa
open Go.RowKit

set_option maxRecDepth 100000 in
set_option maxHeartbeats 4000000 in
theorem turned_any (b1 : Option Addr) (b2 b3 B : Nat) (l : List Nat) (w : World) (hb : BytesV w (b1, b2, b3) l) (hB : B ≤ 9223372036854775807) :
    Calls Try.prog 50 #[.slice b1 b2 b3, .int .i64 (B : Nat)] w (GivesBytes 5 w (flip l (B / 8) (B % 8))) := by
  obtain rfl : l.length = b2 := hb.length
  have hls := hb.small
  simp only at hls
  have KB := copyBytes_any b1 l.length b3 l w hb
  have HB := Lib.hid hb.bytes
  obtain ⟨j, hj⟩ : ∃ j, j = B / 8 := ⟨_, rfl⟩
  obtain ⟨r, hr⟩ : ∃ r, r = B % 8 := ⟨_, rfl⟩
  rw [← hj, ← hr]
  have hr8 : r < 8 := by omega
  have hqB : (B : Int) / 8 = (j : Nat) := by rw [hj]; omega
  have hqT : (B : Int).tdiv 8 = (j : Nat) := by rw [hj, Int.tdiv_eq_ediv_of_nonneg (by omega)]; omega
  have hrB : (B : Int).tmod 8 = (r : Nat) := by rw [hr, Int.tmod_eq_emod_of_nonneg (by omega)]; exact (Int.natCast_emod B 8).symm
  have hwj : IntKind.i64.wrap ((j : Nat) : Int) = (j : Nat) := wrap_i64_id _ (by omega) (by omega)
  have hwr : IntKind.i64.wrap ((r : Nat) : Int) = (r : Nat) := wrap_i64_id _ (by omega) (by omega)
  have hBI : (0 : Int) ≤ (B : Int) := by omega
  clear hj hr hb
  go_enter Try.func50, Try.ntmps50
  go_wp2_with fail
  (with_reducible refine KB.mono ?_)
  rintro e w1 ⟨a1, c1, rfl, o1, b1⟩
  clear KB
  by_cases hjl : j < l.length
  · have hjI : ((j : Nat) : Int) < (l.length : Nat) := by omega
    obtain ⟨g, rfl⟩ : ∃ q, a1 = some ⟨q, 0, none⟩ := by
      rcases o1.2 with ⟨_, h⟩ | ⟨g', _, _, h, _⟩
      · omega
      · injection h with h
        exact ⟨g', h⟩
    have hg := o1.lt g rfl
    have hlc : l.length ≤ c1 := by obtain ⟨_, _, e, -, q, -⟩ := ownsRow_parts o1; injection e with _ _ e; rw [e]; exact q
    obtain ⟨y, hy⟩ : ∃ y, y = l.getD j 0 := ⟨_, rfl⟩
    have hy8 : y < 256 := by rw [hy]; exact HB.out.getD j
    have q1 : w1.cell? ⟨g, j, none⟩ = some (.int .u8 (y : Nat)) := by
      rw [o1.cellAt (g := g) j (by omega), List.getElem?_map, List.getElem?_eq_getElem hjl, hy, List.getD_eq_getElem?_getD, List.getElem?_eq_getElem hjl]; rfl
    have q2 : w1.frozen? ⟨g, j, none⟩ = false := by
      rcases o1.2 with ⟨e, _⟩ | ⟨g', cap', cur', e, _, hh, _⟩
      · cases e
      · injection e with e
        injection e with e
        injection e with e
        subst e
        exact frozen_of_row _ _ _ _ _ hh
    have HY := Lib.hid hy
    have HO := Lib.hid o1
    have HBL := Lib.hid b1
    have HXR := Lib.hid (show bits .xor .u8 (y : Int) ((2 : Int) ^ r % 256) = ((y ^^^ 2 ^ r : Nat) : Int) from xor_one y r hy8 hr8)
    clear hy o1 b1
    go_wp2
    go_ret
    rw [HXR.out]
    have o2 := own_setS HO.out j (bv (y ^^^ 2 ^ r))
    rw [show (l.map bv).set j (bv (y ^^^ 2 ^ r)) = (flip l j r).map bv by rw [show flip l j r = l.set j (y ^^^ 2 ^ r) by unfold flip; rw [if_pos hjl, HY.out], List.map_set]] at o2
    have hfl : (flip l j r).length = l.length := by unfold flip; split <;> simp
    refine ⟨some ⟨g, 0, none⟩, c1, ?_, ?_, HBL.out.setCell (p := ⟨g, j, none⟩) hg.1 _⟩
    · rw [hfl]; rfl
    · rw [hfl]
      exact o2
  · have hjI : ¬ ((j : Nat) : Int) < (l.length : Nat) := by omega
    have HO := Lib.hid o1
    have HBL := Lib.hid b1
    clear o1 b1
    go_wp2
    go_ret
    refine ⟨a1, c1, ?_⟩
    rw [show flip l j r = l from if_neg hjl]
    exact ⟨rfl, HO.out, HBL.out⟩

theorem rows_set {w : World} {B nb c j c6 : Nat} {a6 : Option Addr} {hs : List HdT} {NL : List (List Nat)} {l : List Nat} (o : w.ownsRow B 28 1 (.slice (some ⟨nb, 0, none⟩) NL.length c) NL.length (hs.map SV)) (os : OwnsRows w B 5 hs NL)
    (o6 : w.ownsRow B 5 1 (.slice a6 l.length c6) l.length (l.map bv)) (hj : j < NL.length) (hb : ∀ x ∈ NL, Bytes x ∧ x.length ≤ 1000000000) (hl : Bytes l ∧ l.length ≤ 1000000000) :
    RowsR (w.setCell ⟨nb, j, none⟩ (.slice a6 l.length c6)) (fun q => B ≤ q ∧ q < w.heap.size) (some ⟨nb, 0, none⟩, NL.length, c) (NL.set j l) := by
  have z4 : (w.setCell ⟨nb, j, none⟩ (.slice a6 l.length c6)).heap.size = w.heap.size := by simp [World.setCell]
  have hset : ChF (fun q => q = nb) w (w.setCell ⟨nb, j, none⟩ (.slice a6 l.length c6)) := (ChF.refl (fun q => q = nb) w).set (g := nb) (.inl rfl)
  have hno4 : RowsR (w.setCell ⟨nb, j, none⟩ (.slice a6 l.length c6)) (fun q => B ≤ q ∧ q < w.heap.size) (some ⟨nb, 0, none⟩, (NL.set j l).length, c) (NL.set j l) := by
    refine .own (hs := hs.set j (a6, l.length, c6)) (B := B) (T := 28) ?_ ⟨by rw [List.length_set, List.length_set]; exact os.1, fun q x l1 h1 h2 => ?_⟩ (fun x hx => ?_) (fun b h1 h2 => ⟨h1, by omega⟩)
    · rw [List.length_set, List.map_set]
      exact own_setS o j _
    · rw [List.getElem?_set] at h1 h2
      by_cases hq : j = q
      · subst hq
        rw [if_pos rfl, if_pos (by have := os.1; omega)] at h1
        rw [if_pos rfl, if_pos (by omega)] at h2
        injection h1 with h1
        injection h2 with h2
        subst h1 h2
        refine ⟨rfl, own_ChF o6 hset (fun b hb e => ?_)⟩
        rcases own_ne o6 o (by decide) with e1 | e1
        · rw [show SV (a6, l.length, c6) = .slice a6 l.length c6 from rfl, e1] at hb; cases hb
        · rw [e] at hb; exact e1 hb
      · rw [if_neg hq] at h1 h2
        obtain ⟨q1, q2⟩ := os.2 q x l1 h1 h2
        refine ⟨q1, own_ChF q2 hset (fun b hb e => ?_)⟩
        rcases own_ne q2 o (by decide) with e1 | e1
        · rw [e1] at hb; cases hb
        · rw [e] at hb; exact e1 hb
    · rcases List.mem_or_eq_of_mem_set hx with q | q
      · exact hb x q
      · subst q; exact hl
  rw [List.length_set] at hno4
  exact hno4

set_option maxRecDepth 100000 in
set_option maxHeartbeats 8000000 in
theorem refWrite_bad (R : Nat → Prop) (h : RefH) (d : DV) (i : Int) (bb1 : Option Addr) (bb2 bb3 : Nat) (l : List Nat) (w : World) (k : RefD w R h d) (hb : BytesV w (bb1, bb2, bb3) l) (hbad : ¬ (0 ≤ i ∧ i < (d.sl.length : Int)) ∨ 64 < l.length) :
    Calls Try.prog 34 #[h.v, .int .i64 i, .slice bb1 bb2 bb3] w (RefGives R (writeV d i l).1 (writeV d i l).2 w) := by
  obtain rfl : l.length = bb2 := hb.length
  obtain ⟨p, ⟨sa1, sa2, sa3⟩, laid, ⟨ba1, ba2, ba3⟩, ⟨mo1, mo2, mo3⟩, ⟨st1, st2, st3⟩, ⟨no1, no2, no3⟩, ⟨fr1, fr2, fr3⟩, op⟩ := h
  have hn2 := k.no.len
  simp only [List.length_map] at hn2
  have K0 := Boxes.new w ⟨p, (sa1, sa2, sa3), laid, (ba1, ba2, ba3), (mo1, mo2, mo3), (st1, st2, st3), (no1, no2, no3), (fr1, fr2, fr3), op⟩
  have HK := Lib.hid k
  have HN2 := Lib.hid hn2
  unfold RefH.v RefH.cells
  unfold writeV
  clear k hb
  by_cases hi : 0 ≤ i ∧ i < (d.sl.length : Int)
  · have hll : 64 < l.length := hbad.resolve_left (fun f => f hi)
    rw [if_pos hi, if_pos hll]
    obtain ⟨hi0, hi1⟩ := hi
    have h1 : i < (no2 : Int) := by omega
    have hlI : (64 : Int) < (l.length : Int) := by omega
    clear hbad hn2
    go_enter Try.func34, Try.ntmps34
    go_wp2_with (first | ((with_reducible show wpList _ _ _ (⟨_, Op.store RT _ _, _, _, _, _⟩ :: _) _ _); refine Hid.out ?_))
    refine Lib.hid ?_
    refine wpList_store_B K0 rfl _ _ rfl ⟨p, (sa1, sa2, sa3), laid, (ba1, ba2, ba3), (mo1, mo2, mo3), (st1, st2, st3), (no1, no2, no3), (fr1, fr2, fr3), op⟩ rfl rfl ?_
    rintro w3 K4 -
    clear K0
    go_wp2
    exact bodyPost_ret (results_ref rfl K4 _ rfl) rfl ⟨_, rfl, HK.out.gr K4.bel, K4.bel⟩
  · rw [if_neg hi]
    clear hbad
    by_cases h0 : i < 0
    · clear hn2 hi
      go_enter Try.func34, Try.ntmps34
      go_wp2_with (first | ((with_reducible show wpList _ _ _ (⟨_, Op.store RT _ _, _, _, _, _⟩ :: _) _ _); refine Hid.out ?_))
      refine Lib.hid ?_
      refine wpList_store_B K0 rfl _ _ rfl ⟨p, (sa1, sa2, sa3), laid, (ba1, ba2, ba3), (mo1, mo2, mo3), (st1, st2, st3), (no1, no2, no3), (fr1, fr2, fr3), op⟩ rfl rfl ?_
      rintro w3 K4 -
      clear K0
      go_wp2
      exact bodyPost_ret (results_ref rfl K4 _ rfl) rfl ⟨_, rfl, HK.out.gr K4.bel, K4.bel⟩
    · have h1 : (no2 : Int) ≤ i := by omega
      have h2 : 0 ≤ i := by omega
      clear hi hn2
      go_enter Try.func34, Try.ntmps34
      go_wp2_with (first | ((with_reducible show wpList _ _ _ (⟨_, Op.store RT _ _, _, _, _, _⟩ :: _) _ _); refine Hid.out ?_))
      refine Lib.hid ?_
      refine wpList_store_B K0 rfl _ _ rfl ⟨p, (sa1, sa2, sa3), laid, (ba1, ba2, ba3), (mo1, mo2, mo3), (st1, st2, st3), (no1, no2, no3), (fr1, fr2, fr3), op⟩ rfl rfl ?_
      rintro w3 K4 -
      clear K0
      go_wp2
      exact bodyPost_ret (results_ref rfl K4 _ rfl) rfl ⟨_, rfl, HK.out.gr K4.bel, K4.bel⟩

/-- Write of the reference. -/
theorem refWrite_all (R : Nat → Prop) (h : RefH) (d : DV) (i : Int) (bb1 : Option Addr) (bb2 bb3 : Nat) (l : List Nat) (w : World) (k : RefD w R h d) (hp : d.pow ≤ 9223372036854775807) (hb : BytesV w (bb1, bb2, bb3) l) (hn : d.sl.length ≤ 1000) :
    Calls Try.prog 34 #[h.v, .int .i64 i, .slice bb1 bb2 bb3] w (RefGives R (writeV d i l).1 (writeV d i l).2 w) := by
  by_cases hi : 0 ≤ i ∧ i < (d.sl.length : Int)
  · by_cases hl : 64 < l.length
    · exact refWrite_bad R h d i bb1 bb2 bb3 l w k hb (.inr hl)
    · obtain ⟨j, rfl⟩ : ∃ j : Nat, i = j := ⟨i.toNat, by omega⟩
      exact refWrite_any R h d j bb1 bb2 bb3 l w k hp hb hn (by omega) (by omega)
  · exact refWrite_bad R h d i bb1 bb2 bb3 l w k hb (.inl hi)
end Go.Proofs.Ytdidalcflkphnaa
