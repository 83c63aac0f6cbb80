/-
  rillref08: Write.
-/
import Derived.Test.YtdidalcflkphnaaMDjV
namespace Go.Proofs.Ytdidalcflkphnaa
open Go.RowKit

theorem set_same {d : List Slot} {f : Slot → List Nat} {j : Nat} (h : j < d.length) : (d.map f).set j (f (d.getD j ([], [], false))) = d.map f := by
  rw [List.getD_eq_getElem?_getD, List.getElem?_eq_getElem h]
  refine List.ext_getElem? (fun i => ?_)
  rw [List.getElem?_set]
  by_cases e : j = i
  · subst e; rw [if_pos rfl, if_pos (by simpa using h), List.getElem?_map, List.getElem?_eq_getElem h]; rfl
  · rw [if_neg e]

set_option maxRecDepth 100000 in
set_option maxHeartbeats 8000000 in
theorem refWrite_any (R : Nat → Prop) (h : RefH) (d : DV) (j : Nat) (bb1 : Option Addr) (bb2 bb3 : Nat) (l : List Nat) (w : World) (k : RefD w R h d) (hp : d.pow ≤ 9223372036854775807) (hb : BytesV w (bb1, bb2, bb3) l) (hn : d.sl.length ≤ 1000) (hj : j < d.sl.length) (hll : l.length ≤ 64) :
    Calls Try.prog 34 #[h.v, .int .i64 (j : Nat), .slice bb1 bb2 bb3] w (RefGives R (writeV d (j : Int) l).1 (writeV d (j : Int) l).2 w) := by
  obtain rfl : l.length = bb2 := hb.length
  have HB := Lib.hid hb
  obtain ⟨p, ⟨sa1, sa2, sa3⟩, laid, ⟨ba1, ba2, ba3⟩, ⟨mo1, mo2, mo3⟩, ⟨st1, st2, st3⟩, ⟨no1, no2, no3⟩, ⟨fr1, fr2, fr3⟩, op⟩ := h
  have hpw : p = d.pow := k.pow
  obtain ⟨NL, hNL⟩ : ∃ X, X = d.sl.map (fun s => s.2.1) := ⟨_, rfl⟩
  have hnl : NL.length = d.sl.length := by rw [hNL]; simp
  have knn := k.no.len
  rw [← hNL] at knn
  obtain rfl : no2 = NL.length := knn
  have hnk : NL.length ≤ 1000 := by omega
  have hjl : j < NL.length := by omega
  have hjI0 : (j : Int) < (NL.length : Int) := by omega
  have hlI : ¬ (64 : Int) < (l.length : Int) := by omega
  have HNL := Lib.hid hNL
  have HNN := Lib.hid hnl
  clear hNL hnl hn hj
  have K0 := Boxes.new w ⟨p, (sa1, sa2, sa3), laid, (ba1, ba2, ba3), (mo1, mo2, mo3), (st1, st2, st3), (no1, NL.length, no3), (fr1, fr2, fr3), op⟩
  obtain ⟨P, hP⟩ : ∃ P, P = (spendV p).1 := ⟨_, rfl⟩
  have HK := Lib.hid k
  have HP := Lib.hid hP
  have HPW := Lib.hid hpw
  unfold RefH.v RefH.cells
  clear k hP hpw hb
  go_enter Try.func34, Try.ntmps34
  go_wp2_with fail
  refine (?_ : ∀ W, Boxes w W ⟨p, (sa1, sa2, sa3), laid, (ba1, ba2, ba3), (mo1, mo2, mo3), (st1, st2, st3), (no1, NL.length, no3), (fr1, fr2, fr3), op⟩ zH → Calls Try.prog _ _ W _) _ K0
  intro W K1
  clear K0
  have KD := draw_any ⟨p, (sa1, sa2, sa3), laid, (ba1, ba2, ba3), (mo1, mo2, mo3), (st1, st2, st3), (no1, NL.length, no3), (fr1, fr2, fr3), op⟩ W (by rw [HPW.out]; exact hp)
  unfold RefH.v RefH.cells at KD
  simp only at KD
  rw [← HP.out] at KD
  by_cases h0 : p = 0
  · rw [decide_eq_false (by simpa using h0)] at KD
    (with_reducible refine KD.mono ?_)
    rintro e w1 ⟨rfl, b1⟩
    have K2 := K1.below b1
    clear KD K1 b1
    go_wp2_with (first | ((with_reducible show wpList _ _ _ (⟨_, Op.store RT _ _, _, _, _, _⟩ :: _) _ _); refine Hid.out ?_))
    refine Lib.hid ?_
    refine wpList_store_A K2 rfl _ _ rfl ⟨P, (sa1, sa2, sa3), laid, (ba1, ba2, ba3), (mo1, mo2, mo3), (st1, st2, st3), (no1, NL.length, no3), (fr1, fr2, fr3), op⟩ rfl rfl ?_
    rintro w2 K3 -
    clear K2
    obtain ⟨⟨m0, m1, m2, m3, m4, m5, m6, m7, m8⟩, mF⟩ := cells9D K3.a
    simp only at m0 m1 m2 m3 m4 m5 m6 m7 m8
    go_wp2_with (first | ((with_reducible show wpList _ _ _ (⟨_, Op.store RT _ _, _, _, _, _⟩ :: _) _ _); refine Hid.out ?_))
    refine Lib.hid ?_
    refine wpList_store_B K3 rfl _ _ rfl ⟨P, (sa1, sa2, sa3), laid, (ba1, ba2, ba3), (mo1, mo2, mo3), (st1, st2, st3), (no1, NL.length, no3), (fr1, fr2, fr3), op⟩ rfl rfl ?_
    rintro w3 K4 -
    clear K3 m0 m1 m2 m3 m4 m5 m6 m7 m8 mF
    go_wp2
    have hv : writeV d (j : Int) l = (d, 81) := by unfold writeV; rw [if_pos ⟨by omega, by rw [← HNN.out]; omega⟩, if_neg (by omega), if_pos (by rw [← HPW.out]; exact h0)]
    rw [hv]
    have hP0 : P = p := by rw [HP.out, h0]; rfl
    refine bodyPost_ret (results_ref rfl K4 _ rfl) rfl ⟨_, rfl, ?_, K4.bel⟩
    rw [hP0]
    exact HK.out.gr K4.bel
  · rw [decide_eq_true h0] at KD
    (with_reducible refine KD.mono ?_)
    rintro e w1 ⟨rfl, b1⟩
    have K2 := K1.below b1
    clear KD K1 b1
    go_wp2_with (first | ((with_reducible show wpList _ _ _ (⟨_, Op.store RT _ _, _, _, _, _⟩ :: _) _ _); refine Hid.out ?_))
    refine Lib.hid ?_
    refine wpList_store_A K2 rfl _ _ rfl ⟨P, (sa1, sa2, sa3), laid, (ba1, ba2, ba3), (mo1, mo2, mo3), (st1, st2, st3), (no1, NL.length, no3), (fr1, fr2, fr3), op⟩ rfl rfl ?_
    rintro w2 K3 -
    clear K2
    obtain ⟨⟨m0, m1, m2, m3, m4, m5, m6, m7, m8⟩, mF⟩ := cells9D K3.a
    simp only at m0 m1 m2 m3 m4 m5 m6 m7 m8

    have HZ := Lib.hid (show w.heap.size + 2 ≤ w2.heap.size from K3.sz)
    have kno := HK.out.no.keep (G := fun _ => False) (.of_below K3.bel) (fun _ _ e => e)
    rw [← HNL.out] at kno
    obtain ⟨hs6, hrow, hrows, -, -⟩ := kno.parts
    have hnb := kno.bytes
    have KC := copyRows_any no1 NL.length no3 hs6 NL w2 hrow (by omega) hrows
    have HNB := Lib.hid hnb
    clear kno hrow hrows hnb mF
    go_wp2_with fail
    (with_reducible refine KC.mono ?_)
    rintro e w3 ⟨a5, c5, hs5, rfl, o5, os5, b3⟩
    have K4 := K3.below b3
    clear KC K3 m0 m1 m2 m3 m4 m5 m6 m7 m8
    have KB := copyBytes_any bb1 l.length bb3 l w3 (HB.out.below K4.bel)
    have HO5 := Lib.hid o5
    have HOS := Lib.hid os5
    have HZ3 := Lib.hid b3.size
    clear o5 os5 b3
    go_wp2_with fail
    (with_reducible refine KB.mono ?_)
    rintro e w4 ⟨a6, c6, rfl, o6, b4⟩
    have K5 := K4.below b4
    have o5' := own_ChF HO5.out (ChF.of_below (F := fun _ => False) b4) (fun _ _ e => e)
    obtain ⟨nb, rfl⟩ : ∃ q, a5 = some ⟨q, 0, none⟩ := by
      rcases HO5.out.2 with ⟨_, h⟩ | ⟨g', _, _, h, _⟩
      · omega
      · injection h with h
        exact ⟨g', h⟩
    have hnb5 := HO5.out.lt nb rfl
    have hcc5 : NL.length ≤ c5 := by obtain ⟨_, _, e, -, q, -⟩ := ownsRow_parts HO5.out; injection e with _ _ e; rw [e]; exact q
    have hns : hs5.length = NL.length := HOS.out.1
    obtain ⟨y5, hy5⟩ : ∃ y, hs5[j]? = some y := ⟨_, List.getElem?_eq_getElem (by omega)⟩
    have n5 : w4.cell? ⟨nb, j, none⟩ = some (SV y5) := by
      have q := o5'.cellAt (g := nb) j (by omega)
      rw [q, List.getElem?_map, hy5]; rfl
    have n5F : w4.frozen? ⟨nb, j, none⟩ = false := by
      rcases o5'.2 with ⟨e, _⟩ | ⟨g', cap', cur', e, _, hh, _⟩
      · cases e
      · injection e with e
        injection e with e
        injection e with e
        subst e
        exact frozen_of_row _ _ _ _ _ hh
    obtain ⟨y51, y52, y53⟩ := y5
    simp only [SV] at n5
    have hjI : (j : Int) < (NL.length : Int) := by omega
    have hset : ChF (fun q => q = nb) w4 (w4.setCell ⟨nb, j, none⟩ (.slice a6 l.length c6)) := (ChF.refl (fun q => q = nb) w4).set (g := nb) (.inl rfl)
    have o5s := own_setS o5' j (.slice a6 l.length c6)
    have HO6 := Lib.hid o6
    have HOS4 := Lib.hid (show ∀ (q : Nat) x l, hs5[q]? = some x → NL[q]? = some l → x.2.1 = l.length ∧ w4.ownsRow w2.heap.size 5 1 (SV x) l.length (l.map bv) from fun q x l h1 h2 => ⟨(HOS.out.2 q x l h1 h2).1, own_ChF (HOS.out.2 q x l h1 h2).2 (ChF.of_below (F := fun _ => False) b4) (fun _ _ e => e)⟩)
    have HZ4 := Lib.hid b4.size
    have K6 : Boxes w (w4.setCell ⟨nb, j, none⟩ (.slice a6 l.length c6)) ⟨P, (sa1, sa2, sa3), laid, (ba1, ba2, ba3), (mo1, mo2, mo3), (st1, st2, st3), (no1, NL.length, no3), (fr1, fr2, fr3), op⟩ zH := ⟨(hset.block _ (by have := K5.sz; omega) (by have := HZ.out; omega)).trans K5.a, (hset.block _ (by have := K5.sz; omega) (by have := HZ.out; omega)).trans K5.b, K5.bel.trans (hset.below (B := w.heap.size) (fun q e => by have := HZ.out; omega) K5.bel.size)⟩
    clear KB o6 b4 o5' K4 K5 hy5 hns
    obtain ⟨⟨m0, m1, m2, m3, m4, m5, m6, m7, m8⟩, mF⟩ := cells9D K6.a
    simp only at m0 m1 m2 m3 m4 m5 m6 m7 m8
    have mF6 := mF 6
    have kfr := HK.out.fr.keep (G := fun _ => False) (.of_below (K6.bel)) (fun _ _ e => e)
    have K7 := K6.cell (h' := ⟨P, (sa1, sa2, sa3), laid, (ba1, ba2, ba3), (mo1, mo2, mo3), (st1, st2, st3), (some ⟨nb, 0, none⟩, NL.length, c5), (fr1, fr2, fr3), op⟩) 6 (.slice (some ⟨nb, 0, none⟩) NL.length c5) rfl
    have K8 := K7.below (below_alloc _ (.cells #[] 4))
    obtain ⟨⟨-, -, -, -, -, -, -, q7, -⟩, -⟩ := cells9D K8.a
    simp only at q7
    have hfrl : fr2 = NL.length := by have q := HK.out.fr.row.1; simp at q; rw [HNN.out]; exact q.symm
    obtain ⟨j0, hj0, hy0, hy1, hy2⟩ := info_parts Try.info4
    have HO5S := Lib.hid o5s
    have HSET := Lib.hid hset
    clear o5s hset mF hfrl
    obtain ⟨X, hX⟩ : ∃ x, x = (w4.setCell ⟨nb, j, none⟩ (.slice a6 l.length c6)).setCell ⟨w.heap.size, 6, none⟩ (.slice (some ⟨nb, 0, none⟩) NL.length c5) := ⟨_, rfl⟩
    have hXz : X.heap.size = w4.heap.size := by rw [hX]; simp [World.setCell]
    have hown0 := World.ownsRow_made (base := X.heap.size) (e := 4) (size := 1) X #[] 0 (Nat.le_refl _) (by simp [maxLen]) rfl
    have K8X := K8
    have q7X := q7
    rw [← hX] at K8X q7X
    have hcX : ChF (fun q => q = nb ∨ BX w q) w4 X := by rw [hX]; exact ((ChF.refl (fun q => q = nb ∨ BX w q) w4).set (g := nb) (.inl (.inl rfl))).set (g := w.heap.size) (.inl (.inr (.inl rfl)))
    have kfr := (HK.out.fr.keep (G := fun _ => False) (.of_below K8X.bel) (fun _ _ e => e))
    have hvl : fr2 = NL.length := by have q := HK.out.fr.row.1; simp at q; rw [HNN.out]; exact q.symm
    have KF := Lib.hid kfr
    have HX := Lib.hid hX
    have HCX := Lib.hid hcX
    have HVL := Lib.hid hvl
    clear K8 q7X kfr hcX hvl
    go_wp2_with (first | (at_builtin; refine Hid.out ?_))
    refine Lib.hid ?_
    rw [← HX.out]
    rw [hXz] at hown0
    have kf := KF.out
    obtain rfl : fr2 = NL.length := HVL.out
    refine wpList_append_row rfl _ _ 30 rfl w4.heap.size 4 j0 (.bool false) 1 Try.underlying30 hj0 hy0 hy1 hy2 rfl _ _ _ rfl hown0 fr1 NL.length fr3 (d.sl.map (fun s => Value.bool s.2.2)) rfl kf.row kf.nil (fun u hu => by obtain ⟨s, -, rfl⟩ := List.mem_map.1 hu; rfl) (by simp [maxLen]; omega) (by omega) (by rw [alloc_sz, hXz]; omega) ?_
    intro v5 w5 o7 g7 _
    have b45 : Below w4.heap.size X w5 := by
      have q := below_grown (w0 := X) (below_alloc X _) g7 (fun k hk => by have := ownBlock_ge hown0 k hk; omega)
      rw [hXz] at q
      exact q
    simp only [Nat.zero_add, List.nil_append] at o7
    obtain ⟨a8, c8, rfl, hcs8, hcc8, -, -⟩ := ownsRow_parts o7
    obtain ⟨fb, rfl⟩ : ∃ q, a8 = some ⟨q, 0, none⟩ := by
      rcases o7.2 with ⟨_, h⟩ | ⟨g', _, _, h, _⟩
      · omega
      · injection h with h
        exact ⟨g', h⟩
    have hfb := o7.lt fb rfl
    have K7X : Boxes w X ⟨P, (sa1, sa2, sa3), laid, (ba1, ba2, ba3), (mo1, mo2, mo3), (st1, st2, st3), (some ⟨nb, 0, none⟩, NL.length, c5), (fr1, NL.length, fr3), op⟩ zH := by rw [HX.out]; exact K7
    have K9 := K7X.below (by rw [hXz]; exact b45)
    have f5 : w5.cell? ⟨fb, j, none⟩ = some (.bool ((d.sl.getD j ([], [], false)).2.2)) := by
      have q := o7.cellAt (g := fb) j (by omega)
      rw [q, List.getElem?_map, List.getD_eq_getElem?_getD, List.getElem?_eq_getElem (show j < d.sl.length by have := HNN.out; omega)]; rfl
    have f5F : w5.frozen? ⟨fb, j, none⟩ = false := by
      rcases o7.2 with ⟨e, _⟩ | ⟨g', cap', cur', e, _, hh, _⟩
      · cases e
      · injection e with e
        injection e with e
        injection e with e
        subst e
        exact frozen_of_row _ _ _ _ _ hh
    have o7s := own_setS o7 j (.bool true)
    have hset7 : ChF (fun q => q = fb) w5 (w5.setCell ⟨fb, j, none⟩ (.bool true)) := (ChF.refl (fun q => q = fb) w5).set (g := fb) (.inl rfl)
    have hz4 : w.heap.size + 2 ≤ w4.heap.size := by have := HZ.out; have := HZ3.out; have := HZ4.out; omega
    have K10 : Boxes w (w5.setCell ⟨fb, j, none⟩ (.bool true)) ⟨P, (sa1, sa2, sa3), laid, (ba1, ba2, ba3), (mo1, mo2, mo3), (st1, st2, st3), (some ⟨nb, 0, none⟩, NL.length, c5), (fr1, NL.length, fr3), op⟩ zH := ⟨(hset7.block _ (by have := K9.sz; omega) (by omega)).trans K9.a, (hset7.block _ (by have := K9.sz; omega) (by omega)).trans K9.b, K9.bel.trans (hset7.below (B := w.heap.size) (fun q e => by omega) K9.bel.size)⟩
    have K11 := K10.cell (h' := ⟨P, (sa1, sa2, sa3), laid, (ba1, ba2, ba3), (mo1, mo2, mo3), (st1, st2, st3), (some ⟨nb, 0, none⟩, NL.length, c5), (some ⟨fb, 0, none⟩, NL.length, c8), op⟩) 7 (.slice (some ⟨fb, 0, none⟩) NL.length c8) rfl
    have HC5 := Lib.hid b45
    have HO7 := Lib.hid o7s
    have HS7 := Lib.hid hset7
    clear m0 m1 m2 m3 m4 m5 m6 m7 m8 K8X KF kf hown0 g7 o7 hcs8 b45 o7s hset7 K7 K6 K7X K9 q7 mF6 n5 n5F hXz
    obtain ⟨⟨m0, m1, m2, m3, m4, m5, m6, m7, m8⟩, mF⟩ := cells9D K10.a
    simp only at m0 m1 m2 m3 m4 m5 m6 m7 m8
    have mF7 := mF 7
    clear mF
    go_wp2_with (first | ((with_reducible show wpList _ _ _ (⟨_, Op.store RT _ _, _, _, _, _⟩ :: _) _ _); refine Hid.out ?_))
    refine Lib.hid ?_
    refine wpList_store_B K11 rfl _ _ rfl ⟨P, (sa1, sa2, sa3), laid, (ba1, ba2, ba3), (mo1, mo2, mo3), (st1, st2, st3), (some ⟨nb, 0, none⟩, NL.length, c5), (some ⟨fb, 0, none⟩, NL.length, c8), op⟩ rfl rfl ?_
    intro w7 K12 hc7
    have HC7 := Lib.hid hc7
    clear hc7 m0 m1 m2 m3 m4 m5 m6 m7 m8 mF7
    go_wp2
    have kG := HK.out.gr K12.bel
    have hv : writeV d (j : Int) l = ({ d with pow := P, sl := d.sl.set j ((d.sl.getD j ([], [], false)).1, l, true) }, 0) := by unfold writeV; rw [if_pos ⟨by omega, by rw [← HNN.out]; omega⟩, if_neg (by omega), if_neg (by rw [← HPW.out]; exact h0), Int.toNat_natCast, ← HPW.out, ← HP.out]
    rw [hv]
    have hjd : j < d.sl.length := by have := HNN.out; omega
    have hXz : X.heap.size = w4.heap.size := by rw [HX.out]; simp [World.setCell]
    have b5 : Below X.heap.size X w5 := by rw [hXz]; exact HC5.out
    have s23 := HZ3.out
    have s34 := HZ4.out
    have s2 := HZ.out
    have s45 : w4.heap.size ≤ w5.heap.size := by have := b5.size; omega
    have s57 : w5.heap.size ≤ w7.heap.size := by have := HC7.out.size; simpa [World.setCell] using this
    have c57 : ChF (BX w) (w5.setCell ⟨fb, j, none⟩ (.bool true)) w7 := ((ChF.refl (BX w) _).set (g := w.heap.size) (.inl (.inl rfl))).trans HC7.out (fun _ q => .inl q)
    have c4X : ChF (fun q => BX w q ∨ q = fb) (w4.setCell ⟨nb, j, none⟩ (.slice a6 l.length c6)) X := by rw [HX.out]; exact (ChF.refl _ _).set (g := w.heap.size) (.inl (.inl (.inl rfl)))
    have c45 : ChF (fun q => BX w q ∨ q = fb) (w4.setCell ⟨nb, j, none⟩ (.slice a6 l.length c6)) (w5.setCell ⟨fb, j, none⟩ (.bool true)) := (c4X.trans (ChF.of_below (F := fun q => BX w q ∨ q = fb) b5) (fun _ q => .inl q)).set (g := fb) (.inl (.inr rfl))
    have c47 := c45.trans c57 (fun _ q => .inl (.inl q))
    have z4 : (w4.setCell ⟨nb, j, none⟩ (.slice a6 l.length c6)).heap.size = w4.heap.size := by simp [World.setCell]
    have hno4 : RowsR (w4.setCell ⟨nb, j, none⟩ (.slice a6 l.length c6)) (fun q => w2.heap.size ≤ q ∧ q < w4.heap.size) (some ⟨nb, 0, none⟩, (NL.set j l).length, c5) (NL.set j l) := by
      refine .own (hs := hs5.set j (a6, l.length, c6)) (B := w2.heap.size) (T := 28) ?_ ⟨by rw [List.length_set, List.length_set]; exact HOS.out.1, fun q x l1 h1 h2 => ?_⟩ (fun x hx => ?_) (fun b h1 h2 => ⟨h1, by omega⟩)
      · rw [List.length_set, List.map_set]
        exact HO5S.out
      · rw [List.getElem?_set] at h1 h2
        by_cases hq : j = q
        · subst hq
          rw [if_pos rfl, if_pos (by have := HOS.out.1; omega)] at h1
          rw [if_pos rfl, if_pos (by omega)] at h2
          injection h1 with h1
          injection h2 with h2
          subst h1 h2
          exact ⟨rfl, own_ChF (ownsRow_base HO6.out (by omega)) HSET.out (fun b hb e => by have := (HO6.out.lt b hb).1; omega)⟩
        · rw [if_neg hq] at h1 h2
          obtain ⟨q1, q2⟩ := HOS4.out q x l1 h1 h2
          refine ⟨q1, own_ChF q2 HSET.out (fun b hb e => ?_)⟩
          rcases own_ne (HOS.out.2 q x l1 h1 h2).2 HO5.out (by decide) with e1 | e1
          · rw [e1] at hb; cases hb
          · rw [e] at hb; exact e1 hb
      · rcases List.mem_or_eq_of_mem_set hx with q | q
        · exact HNB.out x q
        · subst q; exact ⟨HB.out.bytes, by omega⟩
    rw [List.length_set] at hno4
    have hno7 : RowsR w7 (Gr R w w7) (some ⟨nb, 0, none⟩, NL.length, c5) (NL.set j l) := (hno4.keep c47 (fun b q e => by rcases e with (e | e) | e <;> omega)).mono (fun b q => .inr ⟨by omega, by omega⟩)
    have hfr5 : HdR (w5.setCell ⟨fb, j, none⟩ (.bool true)) (fun q => w4.heap.size ≤ q ∧ q < w5.heap.size) (some ⟨fb, 0, none⟩, NL.length, c8) ((d.sl.map (fun s => Value.bool s.2.2)).set j (.bool true)) := .own HO7.out (fun b h1 h2 => ⟨h1, by simpa [World.setCell] using h2⟩)
    have hfr7 : HdR w7 (Gr R w w7) (some ⟨fb, 0, none⟩, NL.length, c8) ((d.sl.map (fun s => Value.bool s.2.2)).set j (.bool true)) := (hfr5.keep c57 (fun b q e => by rcases e with e | e <;> omega)).mono (fun b q => .inr ⟨by omega, by omega⟩)
    refine bodyPost_ret (results_ref rfl K12 _ rfl) rfl ⟨⟨P, (sa1, sa2, sa3), laid, (ba1, ba2, ba3), (mo1, mo2, mo3), (st1, st2, st3), (some ⟨nb, 0, none⟩, NL.length, c5), (some ⟨fb, 0, none⟩, NL.length, c8), op⟩, rfl, ⟨rfl, kG.laid, kG.sa, kG.log, ?_, ?_, ?_, ?_, kG.lt⟩, K12.bel⟩
    · rw [List.map_set, set_same (f := fun s : Slot => s.1) hjd]
      exact kG.st
    · rw [List.map_set, ← HNL.out]
      exact hno7
    · rw [List.map_set]
      exact hfr7
    · intro s hs hw
      rcases List.mem_or_eq_of_mem_set hs with q | q
      · exact HK.out.still s q hw
      · subst q; cases hw
end Go.Proofs.Ytdidalcflkphnaa
