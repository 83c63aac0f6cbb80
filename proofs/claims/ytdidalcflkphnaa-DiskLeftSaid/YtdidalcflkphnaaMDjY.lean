/-
  rillref08: Rot.
-/
import Derived.Test.YtdidalcflkphnaaMDjX
namespace Go.Proofs.Ytdidalcflkphnaa
open Go.RowKit

theorem set_at {α β : Type} {d : List α} {f : α → β} {j : Nat} {s : α} (h : d[j]? = some s) : (d.map f).set j (f s) = d.map f := by
  refine List.ext_getElem? (fun i => ?_)
  rw [List.getElem?_set]
  by_cases e : j = i
  · subst e; rw [if_pos rfl, if_pos (by rw [List.length_map]; exact (List.getElem?_eq_some_iff.1 h).1), List.getElem?_map, h]; rfl
  · rw [if_neg e]

set_option maxRecDepth 100000 in
set_option maxHeartbeats 8000000 in
theorem refRot_any (R : Nat → Prop) (h : RefH) (d : DV) (j B : Nat) (w : World) (k : RefD w R h d) (hn : d.sl.length ≤ 1000) (hj : j < d.sl.length) (hB : B < 8 * (d.sl.getD j ([], [], false)).2.1.length) :
    Calls Try.prog 36 #[h.v, .int .i64 (j : Nat), .int .i64 (B : Nat)] w (RefGives R (rotV d (j : Int) (B : Int)).1 (rotV d (j : Int) (B : Int)).2 w) := by
  obtain ⟨p, ⟨sa1, sa2, sa3⟩, laid, ⟨ba1, ba2, ba3⟩, ⟨mo1, mo2, mo3⟩, ⟨st1, st2, st3⟩, ⟨no1, no2, no3⟩, ⟨fr1, fr2, fr3⟩, op⟩ := h
  have hv : rotV d (j : Int) (B : Int) = ({ d with sl := d.sl.set j (flip (d.sl.getD j ([], [], false)).1 (B / 8) (B % 8), flip (d.sl.getD j ([], [], false)).2.1 (B / 8) (B % 8), (d.sl.getD j ([], [], false)).2.2) }, 0) := by
    unfold rotV
    rw [if_pos ⟨by omega, by omega⟩]
    simp only [Int.toNat_natCast]
    rw [if_neg (by omega)]
  rw [hv]
  clear hv
  obtain ⟨s, hs'⟩ : ∃ s, d.sl[j]? = some s := ⟨_, List.getElem?_eq_getElem hj⟩
  have hg : d.sl.getD j ([], [], false) = s := by rw [List.getD_eq_getElem?_getD, hs']; rfl
  rw [hg] at hB ⊢
  obtain ⟨YS, XN, fl⟩ := s
  simp only at hB ⊢
  obtain ⟨NL, hNL⟩ : ∃ X, X = d.sl.map (fun s => s.2.1) := ⟨_, rfl⟩
  obtain ⟨SL, hSL⟩ : ∃ X, X = d.sl.map (fun s => s.1) := ⟨_, rfl⟩
  have hnl : NL.length = d.sl.length := by rw [hNL]; simp
  have hsl : SL.length = d.sl.length := by rw [hSL]; simp
  have HX := Lib.hid (show NL[j]? = some XN by rw [hNL, List.getElem?_map, hs']; rfl)
  have HY := Lib.hid (show SL[j]? = some YS by rw [hSL, List.getElem?_map, hs']; rfl)
  have knn := k.no.len
  rw [← hNL] at knn
  obtain rfl : no2 = NL.length := knn
  have kss := k.st.len
  rw [← hSL] at kss
  obtain rfl : st2 = SL.length := kss
  have K0 := Boxes.new w ⟨p, (sa1, sa2, sa3), laid, (ba1, ba2, ba3), (mo1, mo2, mo3), (st1, SL.length, st3), (no1, NL.length, no3), (fr1, fr2, fr3), op⟩
  obtain ⟨hs, hrow, -, hby, hlen⟩ := k.no.parts
  obtain ⟨⟨y1, y2, y3⟩, hy⟩ : ∃ y, hs[j]? = some y := ⟨_, List.getElem?_eq_getElem (by rw [hlen]; simpa using hj)⟩
  have hb := hby j _ XN hy (by rw [List.getElem?_map, hs']; rfl)
  obtain rfl : XN.length = y2 := hb.len
  obtain ⟨nb0, no0, e, hc⟩ := hrow.2 (by simp only; omega)
  simp only at e hc
  subst e
  have hcell : w.cell? ⟨nb0, no0 + j, none⟩ = some (.slice y1 XN.length y3) := by
    rw [hc j (by omega), List.getElem?_map, hy]; rfl
  have hc4 := (K0.bel.cell (p := ⟨nb0, no0 + j, none⟩) (World.block_lt_of_cell? w ⟨nb0, no0 + j, none⟩ hcell)).trans hcell
  have hxs := hb.small
  unfold RefH.cells zH at hc4
  simp only at hc4
  have hjn : j < NL.length := by omega
  have hjs : j < SL.length := by omega
  have hjI : (j : Int) < (NL.length : Int) := by omega
  have hjS : (j : Int) < (SL.length : Int) := by omega
  have hnk : NL.length ≤ 1000 := by omega
  have hsk : SL.length ≤ 1000 := by omega
  have hB64 : B ≤ 9223372036854775807 := by omega
  obtain ⟨q, hq⟩ : ∃ q, q = B / 8 := ⟨_, rfl⟩
  have hqX : q < XN.length := by omega
  have hqB : (B : Int) / 8 = (q : Nat) := by rw [hq]; omega
  have hwq : IntKind.i64.wrap ((q : Nat) : Int) = (q : Nat) := wrap_i64_id _ (by omega) (by omega)
  have hqI : ((q : Nat) : Int) < (XN.length : Int) := by omega
  have hBI : ¬ (B : Int) < 0 := by omega
  have HK := Lib.hid k
  have HNL := Lib.hid hNL
  have HSL := Lib.hid hSL
  have HSV := Lib.hid hs'
  have HNN := Lib.hid hnl
  have HSS := Lib.hid hsl
  unfold RefH.v RefH.cells
  clear k hNL hSL hs' hg hnl hsl hn hj hrow hby hlen hb hy hc hcell hB hq
  go_enter Try.func36, Try.ntmps36
  go_wp2_with fail
  refine (?_ : ∀ W, Boxes w W ⟨p, (sa1, sa2, sa3), laid, (ba1, ba2, ba3), (mo1, mo2, mo3), (st1, SL.length, st3), (some ⟨nb0, no0, none⟩, NL.length, no3), (fr1, fr2, fr3), op⟩ zH → Calls Try.prog _ _ W _) _ K0
  intro W K1
  clear K0 hc4 hqX hqB hwq hqI
  have HZ1 := Lib.hid (show w.heap.size + 2 ≤ W.heap.size from K1.sz)
  have kno := HK.out.no.keep (G := fun _ => False) (.of_below K1.bel) (fun _ _ e => e)
  rw [← HNL.out] at kno
  obtain ⟨hs6, hrow, hrows, -, -⟩ := kno.parts
  have hnb := kno.bytes
  have KC := copyRows_any (some ⟨nb0, no0, none⟩) NL.length no3 hs6 NL W hrow (by omega) hrows
  have HNB1 := Lib.hid hnb
  clear kno hrow hrows hnb
  (with_reducible refine KC.mono ?_)
  rintro e w31 ⟨a5, c51, hs51, rfl, o5, os5, b3⟩
  have K4 := K1.below b3
  clear KC
  have hbv := (OwnsRows.rowsV os5 (fun x hx => ⟨(HNB1.out x hx).1, by have := (HNB1.out x hx).2; omega⟩)).2
  obtain ⟨nb1, rfl⟩ : ∃ q, a5 = some ⟨q, 0, none⟩ := by
    rcases o5.2 with ⟨_, h⟩ | ⟨g', _, _, h, _⟩
    · omega
    · injection h with h
      exact ⟨g', h⟩
  have hnb5 := o5.lt nb1 rfl
  have hcc5 : NL.length ≤ c51 := by obtain ⟨_, _, e, -, q, -⟩ := ownsRow_parts o5; injection e with _ _ e; rw [e]; exact q
  obtain ⟨y5, hy5⟩ : ∃ y, hs51[j]? = some y := ⟨_, List.getElem?_eq_getElem (by rw [os5.1]; omega)⟩
  have hby := hbv j y5 XN hy5 HX.out
  obtain ⟨y51, y52, y53⟩ := y5
  obtain rfl : XN.length = y52 := hby.length
  have KT := turned_any y51 XN.length y53 B XN w31 hby hB64
  have n3 : w31.cell? ⟨nb1, j, none⟩ = some (.slice y51 XN.length y53) := by
    have q := o5.cellAt (g := nb1) j (by omega)
    rw [q, List.getElem?_map, hy5]; rfl
  have HO5 := Lib.hid o5
  have HOS := Lib.hid os5
  have HB3 := Lib.hid b3
  clear o5 os5 b3 hy5 hby hbv
  obtain ⟨⟨m0, m1, m2, m3, m4, m5, m6, m7, m8⟩, mF⟩ := cells9D K4.a
  simp only at m0 m1 m2 m3 m4 m5 m6 m7 m8
  clear mF
  go_wp2_with fail
  (with_reducible refine KT.mono ?_)
  rintro e w41 ⟨a61, c61, rfl, o6, b4⟩
  have K5 := K4.below b4
  clear KT K4 m0 m1 m2 m3 m4 m5 m6 m7 m8
  obtain ⟨Z1, hZ⟩ : ∃ z, z = flip XN (B / 8) (B % 8) := ⟨_, rfl⟩
  rw [← hZ] at o6 ⊢
  have hZb : Bytes Z1 ∧ Z1.length ≤ 1000000000 := by
    have q := HNB1.out XN (List.mem_of_getElem? HX.out)
    rw [hZ]
    exact ⟨flip_bytes q.1 _ _ (by omega), by unfold flip; split <;> (try simp only [List.length_set]) <;> omega⟩
  have o5' := own_ChF HO5.out (ChF.of_below (F := fun _ => False) b4) (fun _ _ e => e)
  have n5 := (b4.cell (p := ⟨nb1, j, none⟩) hnb5.2).trans n3
  have n5F : w41.frozen? ⟨nb1, j, none⟩ = false := by
    rcases o5'.2 with ⟨e, _⟩ | ⟨g', cap', cur', e, _, hh, _⟩
    · cases e
    · injection e with e
      injection e with e
      injection e with e
      subst e
      exact frozen_of_row _ _ _ _ _ hh
  have hno4 := rows_set o5' (HOS.out.below b4) (ownsRow_base o6 HB3.out.size) (by omega) HNB1.out hZb
  have hset : ChF (fun q => q = nb1) w41 (w41.setCell ⟨nb1, j, none⟩ (.slice a61 Z1.length c61)) := (ChF.refl (fun q => q = nb1) w41).set (g := nb1) (.inl rfl)
  have hs34 := b4.size
  have K6 : Boxes w (w41.setCell ⟨nb1, j, none⟩ (.slice a61 Z1.length c61)) ⟨p, (sa1, sa2, sa3), laid, (ba1, ba2, ba3), (mo1, mo2, mo3), (st1, SL.length, st3), (some ⟨nb0, no0, none⟩, NL.length, no3), (fr1, fr2, fr3), op⟩ zH := ⟨(hset.block _ (by have := K5.sz; omega) (by have := HZ1.out; omega)).trans K5.a, (hset.block _ (by have := K5.sz; omega) (by have := HZ1.out; omega)).trans K5.b, K5.bel.trans (hset.below (B := w.heap.size) (fun q e => by have := HZ1.out; omega) K5.bel.size)⟩
  have K7 := K6.cell (h' := ⟨p, (sa1, sa2, sa3), laid, (ba1, ba2, ba3), (mo1, mo2, mo3), (st1, SL.length, st3), (some ⟨nb1, 0, none⟩, NL.length, c51), (fr1, fr2, fr3), op⟩) 6 (.slice (some ⟨nb1, 0, none⟩) NL.length c51) rfl
  have hno7 := hno4.keep ((ChF.refl (BX w) _).set (g := w.heap.size) (i := 6) (v := .slice (some ⟨nb1, 0, none⟩) NL.length c51) (.inl (.inl rfl))) (fun b q e => by have := HZ1.out; rcases e with e | e <;> omega)
  obtain ⟨⟨m0, m1, m2, m3, m4, m5, m6, m7, m8⟩, mF⟩ := cells9D K6.a
  simp only at m0 m1 m2 m3 m4 m5 m6 m7 m8
  have mFF := mF 6
  have HNO1 := Lib.hid hno7
  have HB41 := Lib.hid b4
  have HB31 := Lib.hid HB3.out
  have HZE1 := Lib.hid hZ
  have HWZ1 := Lib.hid (show W.heap.size ≤ w41.heap.size by have := HB3.out.size; omega)
  have HNB51 := Lib.hid hnb5
  clear mF o6 b4 o5' K5 hno4 hno7 hset n3 hZb hs34 hZ hnb5
  go_wp2_with fail
  refine (?_ : ∀ W2, Boxes w W2 ⟨p, (sa1, sa2, sa3), laid, (ba1, ba2, ba3), (mo1, mo2, mo3), (st1, SL.length, st3), (some ⟨nb1, 0, none⟩, NL.length, c51), (fr1, fr2, fr3), op⟩ zH → RowsR W2 (fun q => W.heap.size ≤ q ∧ q < w41.heap.size) (some ⟨nb1, 0, none⟩, NL.length, c51) (NL.set j Z1) → w41.heap.size ≤ W2.heap.size → Calls Try.prog _ _ W2 _) _ K7 HNO1.out (by simp [World.setCell])
  intro W2 K2 hno2 hz2
  have HNO2 := Lib.hid hno2
  clear K6 K7 n5 n5F m0 m1 m2 m3 m4 m5 m6 m7 m8 mFF K1 hno2 HNO1 HO5 HOS HB3
  have HZ2 := Lib.hid (show w.heap.size + 2 ≤ W2.heap.size from K2.sz)
  have kno := HK.out.st.keep (G := fun _ => False) (.of_below K2.bel) (fun _ _ e => e)
  rw [← HSL.out] at kno
  obtain ⟨hs6, hrow, hrows, -, -⟩ := kno.parts
  have hnb := kno.bytes
  have KC := copyRows_any st1 SL.length st3 hs6 SL W2 hrow (by omega) hrows
  have HNB2 := Lib.hid hnb
  clear kno hrow hrows hnb
  (with_reducible refine KC.mono ?_)
  rintro e w32 ⟨a5, c52, hs52, rfl, o5, os5, b3⟩
  have K4 := K2.below b3
  clear KC
  have hbv := (OwnsRows.rowsV os5 (fun x hx => ⟨(HNB2.out x hx).1, by have := (HNB2.out x hx).2; omega⟩)).2
  obtain ⟨nb2, rfl⟩ : ∃ q, a5 = some ⟨q, 0, none⟩ := by
    rcases o5.2 with ⟨_, h⟩ | ⟨g', _, _, h, _⟩
    · omega
    · injection h with h
      exact ⟨g', h⟩
  have hnb5 := o5.lt nb2 rfl
  have hcc5 : SL.length ≤ c52 := by obtain ⟨_, _, e, -, q, -⟩ := ownsRow_parts o5; injection e with _ _ e; rw [e]; exact q
  obtain ⟨y5, hy5⟩ : ∃ y, hs52[j]? = some y := ⟨_, List.getElem?_eq_getElem (by rw [os5.1]; omega)⟩
  have hby := hbv j y5 YS hy5 HY.out
  obtain ⟨y51, y52, y53⟩ := y5
  obtain rfl : YS.length = y52 := hby.length
  have KT := turned_any y51 YS.length y53 B YS w32 hby hB64
  have n3 : w32.cell? ⟨nb2, j, none⟩ = some (.slice y51 YS.length y53) := by
    have q := o5.cellAt (g := nb2) j (by omega)
    rw [q, List.getElem?_map, hy5]; rfl
  have HO5 := Lib.hid o5
  have HOS := Lib.hid os5
  have HB3 := Lib.hid b3
  clear o5 os5 b3 hy5 hby hbv
  obtain ⟨⟨m0, m1, m2, m3, m4, m5, m6, m7, m8⟩, mF⟩ := cells9D K4.a
  simp only at m0 m1 m2 m3 m4 m5 m6 m7 m8
  clear mF
  go_wp2_with fail
  (with_reducible refine KT.mono ?_)
  rintro e w42 ⟨a62, c62, rfl, o6, b4⟩
  have K5 := K4.below b4
  clear KT K4 m0 m1 m2 m3 m4 m5 m6 m7 m8
  obtain ⟨Z2, hZ⟩ : ∃ z, z = flip YS (B / 8) (B % 8) := ⟨_, rfl⟩
  rw [← hZ] at o6 ⊢
  have hZb : Bytes Z2 ∧ Z2.length ≤ 1000000000 := by
    have q := HNB2.out YS (List.mem_of_getElem? HY.out)
    rw [hZ]
    exact ⟨flip_bytes q.1 _ _ (by omega), by unfold flip; split <;> (try simp only [List.length_set]) <;> omega⟩
  have o5' := own_ChF HO5.out (ChF.of_below (F := fun _ => False) b4) (fun _ _ e => e)
  have n5 := (b4.cell (p := ⟨nb2, j, none⟩) hnb5.2).trans n3
  have n5F : w42.frozen? ⟨nb2, j, none⟩ = false := by
    rcases o5'.2 with ⟨e, _⟩ | ⟨g', cap', cur', e, _, hh, _⟩
    · cases e
    · injection e with e
      injection e with e
      injection e with e
      subst e
      exact frozen_of_row _ _ _ _ _ hh
  have hno4 := rows_set o5' (HOS.out.below b4) (ownsRow_base o6 HB3.out.size) (by omega) HNB2.out hZb
  have hset : ChF (fun q => q = nb2) w42 (w42.setCell ⟨nb2, j, none⟩ (.slice a62 Z2.length c62)) := (ChF.refl (fun q => q = nb2) w42).set (g := nb2) (.inl rfl)
  have hs34 := b4.size
  have K6 : Boxes w (w42.setCell ⟨nb2, j, none⟩ (.slice a62 Z2.length c62)) ⟨p, (sa1, sa2, sa3), laid, (ba1, ba2, ba3), (mo1, mo2, mo3), (st1, SL.length, st3), (some ⟨nb1, 0, none⟩, NL.length, c51), (fr1, fr2, fr3), op⟩ zH := ⟨(hset.block _ (by have := K5.sz; omega) (by have := HZ2.out; omega)).trans K5.a, (hset.block _ (by have := K5.sz; omega) (by have := HZ2.out; omega)).trans K5.b, K5.bel.trans (hset.below (B := w.heap.size) (fun q e => by have := HZ2.out; omega) K5.bel.size)⟩
  have K7 := K6.cell (h' := ⟨p, (sa1, sa2, sa3), laid, (ba1, ba2, ba3), (mo1, mo2, mo3), (some ⟨nb2, 0, none⟩, SL.length, c52), (some ⟨nb1, 0, none⟩, NL.length, c51), (fr1, fr2, fr3), op⟩) 5 (.slice (some ⟨nb2, 0, none⟩) SL.length c52) rfl
  have hno7 := hno4.keep ((ChF.refl (BX w) _).set (g := w.heap.size) (i := 5) (v := .slice (some ⟨nb2, 0, none⟩) SL.length c52) (.inl (.inl rfl))) (fun b q e => by have := HZ2.out; rcases e with e | e <;> omega)
  obtain ⟨⟨m0, m1, m2, m3, m4, m5, m6, m7, m8⟩, mF⟩ := cells9D K6.a
  simp only at m0 m1 m2 m3 m4 m5 m6 m7 m8
  have mFF := mF 5
  have HNQ2 := Lib.hid hno7
  have HB42 := Lib.hid b4
  have HB32 := Lib.hid HB3.out
  have HZE2 := Lib.hid hZ
  have HWZ2 := Lib.hid (show W2.heap.size ≤ w42.heap.size by have := HB3.out.size; omega)
  have HNB52 := Lib.hid hnb5
  clear mF o6 b4 o5' K5 hno4 hno7 hset n3 hZb hs34 hZ hnb5
  go_wp2_with (first | ((with_reducible show wpList _ _ _ (⟨_, Op.store RT _ _, _, _, _, _⟩ :: _) _ _); refine Hid.out ?_))
  refine Lib.hid ?_
  refine wpList_store_B K7 rfl _ _ rfl ⟨p, (sa1, sa2, sa3), laid, (ba1, ba2, ba3), (mo1, mo2, mo3), (some ⟨nb2, 0, none⟩, SL.length, c52), (some ⟨nb1, 0, none⟩, NL.length, c51), (fr1, fr2, fr3), op⟩ rfl rfl ?_
  intro w7 K12 hc7
  have HC7 := Lib.hid hc7
  clear hc7 m0 m1 m2 m3 m4 m5 m6 m7 m8 mFF n5 n5F
  go_wp2
  have kG := HK.out.gr K12.bel
  have s2 := HZ1.out
  have s3 := HZ2.out
  have s4 := HWZ1.out
  have s5 := HWZ2.out
  have s6 := HB32.out.size
  have s7 := HB42.out.size
  have s8 : w42.heap.size ≤ w7.heap.size := by have := HC7.out.size; simpa [World.setCell] using this
  have hnb := HNB2.out
  have c1 : ChF (fun q => BX w q ∨ q = nb2) W2 w42 := (ChF.of_below (F := fun q => BX w q ∨ q = nb2) HB32.out).trans (ChF.of_below (F := fun q => BX w q ∨ q = nb2) HB42.out) (fun _ q => .inl q)
  have c2 := (c1.set (g := nb2) (i := j) (v := .slice a62 Z2.length c62) (.inl (.inr rfl))).set (g := w.heap.size) (i := 5) (v := .slice (some ⟨nb2, 0, none⟩) SL.length c52) (.inl (.inl (.inl rfl)))
  have c3 := c2.trans HC7.out (fun _ q => .inl (.inl q))
  have hno7 : RowsR w7 (Gr R w w7) (some ⟨nb1, 0, none⟩, NL.length, c51) (NL.set j Z1) := (HNO2.out.keep c3 (fun b q e => by have := HNB52.out; rcases e with (e | e) | e <;> omega)).mono (fun b q => .inr ⟨by omega, by omega⟩)
  have hst7 : RowsR w7 (Gr R w w7) (some ⟨nb2, 0, none⟩, SL.length, c52) (SL.set j Z2) := (HNQ2.out.keep HC7.out (fun b q e => by rcases e with e | e <;> omega)).mono (fun b q => .inr ⟨by omega, by omega⟩)
  refine bodyPost_ret (results_ref rfl K12 _ rfl) rfl ⟨⟨p, (sa1, sa2, sa3), laid, (ba1, ba2, ba3), (mo1, mo2, mo3), (some ⟨nb2, 0, none⟩, SL.length, c52), (some ⟨nb1, 0, none⟩, NL.length, c51), (fr1, fr2, fr3), op⟩, rfl, ⟨kG.pow, kG.laid, kG.sa, kG.log, ?_, ?_, ?_, ?_, kG.lt⟩, K12.bel⟩
  · rw [List.map_set, ← HSL.out, ← HZE2.out]
    exact hst7
  · rw [List.map_set, ← HNL.out, ← HZE1.out]
    exact hno7
  · rw [List.map_set, set_at (f := fun s : Slot => Value.bool s.2.2) HSV.out]
    exact kG.fr
  · intro s hs hw
    rcases List.mem_or_eq_of_mem_set hs with q | q
    · exact HK.out.still s q hw
    · subst q
      have e : YS = XN := HK.out.still _ (List.mem_of_getElem? HSV.out) hw
      rw [e]
end Go.Proofs.Ytdidalcflkphnaa
