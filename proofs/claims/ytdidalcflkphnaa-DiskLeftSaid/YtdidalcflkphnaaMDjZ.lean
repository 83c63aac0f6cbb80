/-
  rillref08: Rot's refusals.
-/
import Derived.Test.YtdidalcflkphnaaMDjY
namespace Go.Proofs.Ytdidalcflkphnaa
open Go.RowKit

set_option maxRecDepth 100000 in
set_option maxHeartbeats 8000000 in
theorem refRot_bad (R : Nat → Prop) (h : RefH) (d : DV) (i bit : Int) (w : World) (k : RefD w R h d) (hbi : bit ≤ 9223372036854775807) (hbad : ¬ (0 ≤ i ∧ i < (d.sl.length : Int)) ∨ bit < 0 ∨ 8 * ((d.sl.getD i.toNat ([], [], false)).2.1.length : Int) ≤ bit) :
    Calls Try.prog 36 #[h.v, .int .i64 i, .int .i64 bit] w (RefGives R (rotV d i bit).1 (rotV d i bit).2 w) := by
  obtain ⟨p, ⟨sa1, sa2, sa3⟩, laid, ⟨ba1, ba2, ba3⟩, ⟨mo1, mo2, mo3⟩, ⟨st1, st2, st3⟩, ⟨no1, no2, no3⟩, ⟨fr1, fr2, fr3⟩, op⟩ := h
  have hn2 := k.no.len
  simp only [List.length_map] at hn2
  have K0 := Boxes.new w ⟨p, (sa1, sa2, sa3), laid, (ba1, ba2, ba3), (mo1, mo2, mo3), (st1, st2, st3), (no1, no2, no3), (fr1, fr2, fr3), op⟩
  have HK := Lib.hid k
  have HN2 := Lib.hid hn2
  unfold RefH.v RefH.cells
  unfold rotV
  by_cases hi : 0 ≤ i ∧ i < (d.sl.length : Int)
  · rw [if_pos hi]
    have hb2 : bit < 0 ∨ 8 * ((d.sl.getD i.toNat ([], [], false)).2.1.length : Int) ≤ bit := hbad.resolve_left (fun f => f hi)
    simp only
    rw [if_pos hb2]
    obtain ⟨hi0, hi1⟩ := hi
    have h1 : i < (no2 : Int) := by omega
    clear hbad
    by_cases hb0 : bit < 0
    · clear hb2 hn2 k
      go_enter Try.func36, Try.ntmps36
      go_wp2_with (first | ((with_reducible show wpList _ _ _ (⟨_, Op.store RT _ _, _, _, _, _⟩ :: _) _ _); refine Hid.out ?_))
      refine Lib.hid ?_
      refine wpList_store_B K0 rfl _ _ rfl ⟨p, (sa1, sa2, sa3), laid, (ba1, ba2, ba3), (mo1, mo2, mo3), (st1, st2, st3), (no1, no2, no3), (fr1, fr2, fr3), op⟩ rfl rfl ?_
      rintro w3 K4 -
      clear K0
      go_wp2
      exact bodyPost_ret (results_ref rfl K4 _ rfl) rfl ⟨_, rfl, HK.out.gr K4.bel, K4.bel⟩
    · have hb3 := hb2.resolve_left hb0
      have hbn : 0 ≤ bit := by omega
      clear hb2
      obtain ⟨j, rfl⟩ : ∃ j : Nat, i = j := ⟨i.toNat, by omega⟩
      rw [Int.toNat_natCast] at hb3
      obtain ⟨B, rfl⟩ : ∃ B : Nat, bit = B := ⟨bit.toNat, by omega⟩
      have hj : j < d.sl.length := by omega
      obtain ⟨s, hs'⟩ : ∃ s, d.sl[j]? = some s := ⟨_, List.getElem?_eq_getElem hj⟩
      have hg : d.sl.getD j ([], [], false) = s := by rw [List.getD_eq_getElem?_getD, hs']; rfl
      rw [hg] at hb3
      obtain ⟨YS, XN, fl⟩ := s
      simp only at hb3
      obtain ⟨hs, hrow, -, hby, hlen⟩ := k.no.parts
      obtain ⟨⟨y1, y2, y3⟩, hy⟩ : ∃ y, hs[j]? = some y := ⟨_, List.getElem?_eq_getElem (by rw [hlen]; simpa using hj)⟩
      have hb := hby j _ XN hy (by rw [List.getElem?_map, hs']; rfl)
      obtain rfl : XN.length = y2 := hb.len
      obtain ⟨nb0, no0, e, hc⟩ := hrow.2 (by simp only; omega)
      simp only at e hc
      subst e
      have hcell : w.cell? ⟨nb0, no0 + j, none⟩ = some (.slice y1 XN.length y3) := by
        rw [hc j (by omega), List.getElem?_map, hy]; rfl
      have hc4 := (K0.bel.cell (p := ⟨nb0, no0 + j, none⟩) (World.block_lt_of_cell? w ⟨nb0, no0 + j, none⟩ hcell)).trans hcell
      unfold RefH.cells zH at hc4
      simp only at hc4
      obtain ⟨q, hq⟩ : ∃ q, q = B / 8 := ⟨_, rfl⟩
      have hwq : IntKind.i64.wrap ((q : Nat) : Int) = (q : Nat) := wrap_i64_id _ (by omega) (by omega)
      have hqB : (B : Int) / 8 = (q : Nat) := by rw [hq]; omega
      have hqT : (B : Int).tdiv 8 = (q : Nat) := by rw [hq, Int.tdiv_eq_ediv_of_nonneg (by omega)]; omega
      have hqI : (XN.length : Int) ≤ ((q : Nat) : Int) := by omega
      clear k hs' hg hrow hby hlen hb hy hc hcell hq hb3 hn2 hb0 hj
      go_enter Try.func36, Try.ntmps36
      go_wp2_with (first | ((with_reducible show wpList _ _ _ (⟨_, Op.store RT _ _, _, _, _, _⟩ :: _) _ _); refine Hid.out ?_))
      refine Lib.hid ?_
      refine wpList_store_B K0 rfl _ _ rfl ⟨p, (sa1, sa2, sa3), laid, (ba1, ba2, ba3), (mo1, mo2, mo3), (st1, st2, st3), (some ⟨nb0, no0, none⟩, no2, no3), (fr1, fr2, fr3), op⟩ rfl rfl ?_
      rintro w3 K4 -
      clear K0
      go_wp2
      exact bodyPost_ret (results_ref rfl K4 _ rfl) rfl ⟨_, rfl, HK.out.gr K4.bel, K4.bel⟩
  · rw [if_neg hi]
    clear hbad k
    by_cases h0 : i < 0
    · clear hn2 hi
      go_enter Try.func36, Try.ntmps36
      go_wp2_with (first | ((with_reducible show wpList _ _ _ (⟨_, Op.store RT _ _, _, _, _, _⟩ :: _) _ _); refine Hid.out ?_))
      refine Lib.hid ?_
      refine wpList_store_B K0 rfl _ _ rfl ⟨p, (sa1, sa2, sa3), laid, (ba1, ba2, ba3), (mo1, mo2, mo3), (st1, st2, st3), (no1, no2, no3), (fr1, fr2, fr3), op⟩ rfl rfl ?_
      rintro w3 K4 -
      clear K0
      go_wp2
      exact bodyPost_ret (results_ref rfl K4 _ rfl) rfl ⟨_, rfl, HK.out.gr K4.bel, K4.bel⟩
    · have h1 : (no2 : Int) ≤ i := by omega
      have h2 : 0 ≤ i := by omega
      clear hi hn2
      go_enter Try.func36, Try.ntmps36
      go_wp2_with (first | ((with_reducible show wpList _ _ _ (⟨_, Op.store RT _ _, _, _, _, _⟩ :: _) _ _); refine Hid.out ?_))
      refine Lib.hid ?_
      refine wpList_store_B K0 rfl _ _ rfl ⟨p, (sa1, sa2, sa3), laid, (ba1, ba2, ba3), (mo1, mo2, mo3), (st1, st2, st3), (no1, no2, no3), (fr1, fr2, fr3), op⟩ rfl rfl ?_
      rintro w3 K4 -
      clear K0
      go_wp2
      exact bodyPost_ret (results_ref rfl K4 _ rfl) rfl ⟨_, rfl, HK.out.gr K4.bel, K4.bel⟩

/-- Rot of the reference. -/
theorem refRot_all (R : Nat → Prop) (h : RefH) (d : DV) (i bit : Int) (w : World) (k : RefD w R h d) (hbi : bit ≤ 9223372036854775807) (hn : d.sl.length ≤ 1000) :
    Calls Try.prog 36 #[h.v, .int .i64 i, .int .i64 bit] w (RefGives R (rotV d i bit).1 (rotV d i bit).2 w) := by
  by_cases hi : 0 ≤ i ∧ i < (d.sl.length : Int)
  · by_cases hl : bit < 0 ∨ 8 * ((d.sl.getD i.toNat ([], [], false)).2.1.length : Int) ≤ bit
    · exact refRot_bad R h d i bit w k hbi (.inr hl)
    · obtain ⟨j, rfl⟩ : ∃ j : Nat, i = j := ⟨i.toNat, by omega⟩
      obtain ⟨B, rfl⟩ : ∃ B : Nat, bit = B := ⟨bit.toNat, by omega⟩
      rw [Int.toNat_natCast] at hl
      exact refRot_any R h d j B w k hn (by omega) (by omega)
  · exact refRot_bad R h d i bit w k hbi (.inl hi)
end Go.Proofs.Ytdidalcflkphnaa
