/-
  rillref08: Lay, SyncLog.
-/
import Derived.Test.YtdidalcflkphnaaMDs4
namespace Go.Proofs.Ytdidalcflkphnaa
open Go.RowKit

set_option maxRecDepth 100000 in
set_option maxHeartbeats 8000000 in
theorem refLay_any (R : Nat → Prop) (h : RefH) (d : DV) (bb1 : Option Addr) (bb2 bb3 : Nat) (l : List Nat) (w : World) (k : RefD w R h d) (hp : d.pow ≤ 9223372036854775807) (hb : BytesV w (bb1, bb2, bb3) l) (hs : l.length ≤ 1000000000) :
    Calls Try.prog 32 #[h.v, .slice bb1 bb2 bb3] w (RefGives R (layV d l).1 (layV d l).2 w) := by
  obtain rfl : l.length = bb2 := hb.length
  have HB := Lib.hid hb
  obtain ⟨p, ⟨sa1, sa2, sa3⟩, laid, ⟨ba1, ba2, ba3⟩, ⟨mo1, mo2, mo3⟩, ⟨st1, st2, st3⟩, ⟨no1, no2, no3⟩, ⟨fr1, fr2, fr3⟩, op⟩ := h
  have hpw : p = d.pow := k.pow
  have K0 := Boxes.new w ⟨p, (sa1, sa2, sa3), laid, (ba1, ba2, ba3), (mo1, mo2, mo3), (st1, st2, st3), (no1, no2, no3), (fr1, fr2, fr3), op⟩
  obtain ⟨P, hP⟩ : ∃ P, P = (spendV p).1 := ⟨_, rfl⟩
  have HK := Lib.hid k
  have HP := Lib.hid hP
  have HPW := Lib.hid hpw
  unfold RefH.v RefH.cells
  clear k hP hpw hb
  go_enter Try.func32, Try.ntmps32
  go_wp2_with fail
  refine (?_ : ∀ W, Boxes w W ⟨p, (sa1, sa2, sa3), laid, (ba1, ba2, ba3), (mo1, mo2, mo3), (st1, st2, st3), (no1, no2, no3), (fr1, fr2, fr3), op⟩ zH → Calls Try.prog _ _ W _) _ K0
  intro W K1
  clear K0
  have KD := draw_any ⟨p, (sa1, sa2, sa3), laid, (ba1, ba2, ba3), (mo1, mo2, mo3), (st1, st2, st3), (no1, no2, no3), (fr1, fr2, fr3), op⟩ W (by rw [HPW.out]; exact hp)
  unfold RefH.v RefH.cells at KD
  simp only at KD
  rw [← HP.out] at KD
  by_cases h0 : p = 0
  · rw [decide_eq_false (by simpa using h0)] at KD
    (with_reducible refine KD.mono ?_)
    rintro e w1 ⟨rfl, b1⟩
    have K2 := K1.below b1
    clear KD K1 b1
    go_wp2_with (first | ((with_reducible show wpList _ _ _ (⟨_, Op.store RT _ _, _, _, _, _⟩ :: _) _ _); refine Hid.out ?_))
    refine Lib.hid ?_
    refine wpList_store_A K2 rfl _ _ rfl ⟨P, (sa1, sa2, sa3), laid, (ba1, ba2, ba3), (mo1, mo2, mo3), (st1, st2, st3), (no1, no2, no3), (fr1, fr2, fr3), op⟩ rfl rfl ?_
    rintro w2 K3 -
    clear K2
    obtain ⟨⟨m0, m1, m2, m3, m4, m5, m6, m7, m8⟩, mF⟩ := cells9D K3.a
    simp only at m0 m1 m2 m3 m4 m5 m6 m7 m8
    go_wp2_with (first | ((with_reducible show wpList _ _ _ (⟨_, Op.store RT _ _, _, _, _, _⟩ :: _) _ _); refine Hid.out ?_))
    refine Lib.hid ?_
    refine wpList_store_B K3 rfl _ _ rfl ⟨P, (sa1, sa2, sa3), laid, (ba1, ba2, ba3), (mo1, mo2, mo3), (st1, st2, st3), (no1, no2, no3), (fr1, fr2, fr3), op⟩ rfl rfl ?_
    rintro w3 K4 -
    clear K3 m0 m1 m2 m3 m4 m5 m6 m7 m8 mF
    go_wp2
    have hv : layV d l = (d, 81) := by unfold layV; rw [if_pos (by rw [← HPW.out]; exact h0)]
    rw [hv]
    have hP0 : P = p := by rw [HP.out, h0]; rfl
    refine bodyPost_ret (results_ref rfl K4 _ rfl) rfl ⟨_, rfl, ?_, K4.bel⟩
    rw [hP0]
    exact HK.out.gr K4.bel
  · rw [decide_eq_true h0] at KD
    (with_reducible refine KD.mono ?_)
    rintro e w1 ⟨rfl, b1⟩
    have K2 := K1.below b1
    clear KD K1 b1
    go_wp2_with (first | ((with_reducible show wpList _ _ _ (⟨_, Op.store RT _ _, _, _, _, _⟩ :: _) _ _); refine Hid.out ?_))
    refine Lib.hid ?_
    refine wpList_store_A K2 rfl _ _ rfl ⟨P, (sa1, sa2, sa3), laid, (ba1, ba2, ba3), (mo1, mo2, mo3), (st1, st2, st3), (no1, no2, no3), (fr1, fr2, fr3), op⟩ rfl rfl ?_
    rintro w2 K3 -
    clear K2
    obtain ⟨⟨m0, m1, m2, m3, m4, m5, m6, m7, m8⟩, mF⟩ := cells9D K3.a
    simp only at m0 m1 m2 m3 m4 m5 m6 m7 m8

    have HZ := Lib.hid (show w.heap.size + 2 ≤ w2.heap.size from K3.sz)
    have mF2 := mF 2
    have KL := K3.cell (h' := ⟨P, (sa1, sa2, sa3), true, (ba1, ba2, ba3), (mo1, mo2, mo3), (st1, st2, st3), (no1, no2, no3), (fr1, fr2, fr3), op⟩) 2 (.bool true) rfl
    go_wp2_with fail
    obtain ⟨w2', hw2'⟩ : ∃ x, x = w2.setCell ⟨w.heap.size, 2, none⟩ (.bool true) := ⟨_, rfl⟩
    rw [← hw2'] at KL ⊢
    have hz2' : w2'.heap.size = w2.heap.size := by rw [hw2']; simp [World.setCell]
    clear hw2' mF2 mF
    have KC := copyBytes_any bb1 l.length bb3 l w2' (HB.out.below KL.bel)
    (with_reducible refine KC.mono ?_)
    rintro e w3 ⟨a5, c5, rfl, o5, b3⟩
    have K4 := KL.below b3
    clear KC K3 KL m0 m1 m2 m3 m4 m5 m6 m7 m8
    obtain ⟨⟨m0, m1, m2, m3, m4, m5, m6, m7, m8⟩, mF⟩ := cells9D K4.a
    simp only at m0 m1 m2 m3 m4 m5 m6 m7 m8
    have mF3 := mF 3
    have mF4 := mF 4
    have hba3 : ByR w3 (fun q => w2'.heap.size ≤ q ∧ q < w3.heap.size) (a5, l.length, c5) l := .own o5 HB.out.bytes (by omega) (fun b h1 h2 => ⟨h1, h2⟩)
    have HBA := Lib.hid hba3
    have HZ3 := Lib.hid b3.size
    have K5 := (K4.cell (h' := ⟨P, (sa1, sa2, sa3), true, (a5, l.length, c5), (mo1, mo2, mo3), (st1, st2, st3), (no1, no2, no3), (fr1, fr2, fr3), op⟩) 3 (.slice a5 l.length c5) rfl).cell (h' := ⟨P, (sa1, sa2, sa3), true, (a5, l.length, c5), (none, 0, 0), (st1, st2, st3), (no1, no2, no3), (fr1, fr2, fr3), op⟩) 4 (.slice none 0 0) rfl
    clear K4 o5 b3 hba3 mF
    go_wp2_with (first | ((with_reducible show wpList _ _ _ (⟨_, Op.store RT _ _, _, _, _, _⟩ :: _) _ _); refine Hid.out ?_))
    refine Lib.hid ?_
    refine wpList_store_B K5 rfl _ _ rfl ⟨P, (sa1, sa2, sa3), true, (a5, l.length, c5), (none, 0, 0), (st1, st2, st3), (no1, no2, no3), (fr1, fr2, fr3), op⟩ rfl rfl ?_
    intro w7 K7 hc7
    have hc47 : ChF (BX w) w3 w7 := (((ChF.refl (BX w) w3).set (g := w.heap.size) (.inl (.inl rfl))).set (g := w.heap.size) (.inl (.inl rfl))).trans hc7 (fun _ q => .inl q)
    have HC7 := Lib.hid hc47
    clear K5 hc7 hc47 m0 m1 m2 m3 m4 m5 m6 m7 m8
    go_wp2
    have kG := HK.out.gr K7.bel
    have hs47 := HC7.out.size

    have hv : layV d l = ({ d with pow := P, read := l, base := l.length, laid := true }, 0) := by unfold layV; rw [if_neg (by rw [← HPW.out]; exact h0), ← HPW.out, ← HP.out]
    rw [hv]
    have hba7 : ByR w7 (Gr R w w7) (a5, l.length, c5) l := (HBA.out.keep HC7.out (fun b q e => by have := HZ.out; rcases e with e | e <;> omega)).mono (fun b q => .inr ⟨by have := HZ.out; omega, by omega⟩)
    exact bodyPost_ret (results_ref rfl K7 _ rfl) rfl ⟨⟨P, (sa1, sa2, sa3), true, (a5, l.length, c5), (none, 0, 0), (st1, st2, st3), (no1, no2, no3), (fr1, fr2, fr3), op⟩, rfl, ⟨rfl, rfl, kG.sa, ⟨l, [], hba7, .empty _ _, (List.append_nil l).symm, rfl⟩, kG.st, kG.no, kG.fr, kG.still, kG.lt⟩, K7.bel⟩
set_option maxRecDepth 100000 in
set_option maxHeartbeats 8000000 in
theorem refSync_any (R : Nat → Prop) (h : RefH) (d : DV) (w : World) (k : RefD w R h d) (hp : d.pow ≤ 9223372036854775807) (hrd : d.read.length ≤ 1000000000) (hrb : Bytes d.read) :
    Calls Try.prog 33 #[h.v] w (RefGives R (syncV d).1 (syncV d).2 w) := by
  obtain ⟨p, ⟨sa1, sa2, sa3⟩, laid, ⟨ba1, ba2, ba3⟩, ⟨mo1, mo2, mo3⟩, ⟨st1, st2, st3⟩, ⟨no1, no2, no3⟩, ⟨fr1, fr2, fr3⟩, op⟩ := h
  have hpw : p = d.pow := k.pow
  have K0 := Boxes.new w ⟨p, (sa1, sa2, sa3), laid, (ba1, ba2, ba3), (mo1, mo2, mo3), (st1, st2, st3), (no1, no2, no3), (fr1, fr2, fr3), op⟩
  obtain ⟨P, hP⟩ : ∃ P, P = (spendV p).1 := ⟨_, rfl⟩
  have HK := Lib.hid k
  have HP := Lib.hid hP
  have HPW := Lib.hid hpw
  unfold RefH.v RefH.cells
  clear k hP hpw
  go_enter Try.func33, Try.ntmps33
  go_wp2_with fail
  refine (?_ : ∀ W, Boxes w W ⟨p, (sa1, sa2, sa3), laid, (ba1, ba2, ba3), (mo1, mo2, mo3), (st1, st2, st3), (no1, no2, no3), (fr1, fr2, fr3), op⟩ zH → Calls Try.prog _ _ W _) _ K0
  intro W K1
  clear K0
  have KD := draw_any ⟨p, (sa1, sa2, sa3), laid, (ba1, ba2, ba3), (mo1, mo2, mo3), (st1, st2, st3), (no1, no2, no3), (fr1, fr2, fr3), op⟩ W (by rw [HPW.out]; exact hp)
  unfold RefH.v RefH.cells at KD
  simp only at KD
  rw [← HP.out] at KD
  by_cases h0 : p = 0
  · rw [decide_eq_false (by simpa using h0)] at KD
    (with_reducible refine KD.mono ?_)
    rintro e w1 ⟨rfl, b1⟩
    have K2 := K1.below b1
    clear KD K1 b1
    go_wp2_with (first | ((with_reducible show wpList _ _ _ (⟨_, Op.store RT _ _, _, _, _, _⟩ :: _) _ _); refine Hid.out ?_))
    refine Lib.hid ?_
    refine wpList_store_A K2 rfl _ _ rfl ⟨P, (sa1, sa2, sa3), laid, (ba1, ba2, ba3), (mo1, mo2, mo3), (st1, st2, st3), (no1, no2, no3), (fr1, fr2, fr3), op⟩ rfl rfl ?_
    rintro w2 K3 -
    clear K2
    obtain ⟨⟨m0, m1, m2, m3, m4, m5, m6, m7, m8⟩, mF⟩ := cells9D K3.a
    simp only at m0 m1 m2 m3 m4 m5 m6 m7 m8
    go_wp2_with (first | ((with_reducible show wpList _ _ _ (⟨_, Op.store RT _ _, _, _, _, _⟩ :: _) _ _); refine Hid.out ?_))
    refine Lib.hid ?_
    refine wpList_store_B K3 rfl _ _ rfl ⟨P, (sa1, sa2, sa3), laid, (ba1, ba2, ba3), (mo1, mo2, mo3), (st1, st2, st3), (no1, no2, no3), (fr1, fr2, fr3), op⟩ rfl rfl ?_
    rintro w3 K4 -
    clear K3 m0 m1 m2 m3 m4 m5 m6 m7 m8 mF
    go_wp2
    have hv : syncV d = (d, 81) := by unfold syncV; rw [if_pos (by rw [← HPW.out]; exact h0)]
    rw [hv]
    have hP0 : P = p := by rw [HP.out, h0]; rfl
    refine bodyPost_ret (results_ref rfl K4 _ rfl) rfl ⟨_, rfl, ?_, K4.bel⟩
    rw [hP0]
    exact HK.out.gr K4.bel
  · rw [decide_eq_true h0] at KD
    (with_reducible refine KD.mono ?_)
    rintro e w1 ⟨rfl, b1⟩
    have K2 := K1.below b1
    clear KD K1 b1
    go_wp2_with (first | ((with_reducible show wpList _ _ _ (⟨_, Op.store RT _ _, _, _, _, _⟩ :: _) _ _); refine Hid.out ?_))
    refine Lib.hid ?_
    refine wpList_store_A K2 rfl _ _ rfl ⟨P, (sa1, sa2, sa3), laid, (ba1, ba2, ba3), (mo1, mo2, mo3), (st1, st2, st3), (no1, no2, no3), (fr1, fr2, fr3), op⟩ rfl rfl ?_
    rintro w2 K3 -
    clear K2
    obtain ⟨⟨m0, m1, m2, m3, m4, m5, m6, m7, m8⟩, mF⟩ := cells9D K3.a
    simp only at m0 m1 m2 m3 m4 m5 m6 m7 m8

    have kd : RefD w2 R ⟨P, (sa1, sa2, sa3), laid, (ba1, ba2, ba3), (mo1, mo2, mo3), (st1, st2, st3), (no1, no2, no3), (fr1, fr2, fr3), op⟩ { d with pow := P } := by
      have q := HK.out.below K3.bel
      exact ⟨rfl, q.laid, q.sa, q.log, q.st, q.no, q.fr, q.still, q.lt⟩
    have HZ := Lib.hid (show w.heap.size + 2 ≤ w2.heap.size from K3.sz)
    have KC := refLog_any R ⟨P, (sa1, sa2, sa3), laid, (ba1, ba2, ba3), (mo1, mo2, mo3), (st1, st2, st3), (no1, no2, no3), (fr1, fr2, fr3), op⟩ { d with pow := P } w2 kd
    unfold RefH.v RefH.cells at KC
    simp only at KC
    obtain ⟨RD, hRD⟩ : ∃ X, X = d.read := ⟨_, rfl⟩
    rw [← hRD] at KC hrd hrb
    have HRD := Lib.hid hRD
    clear kd hRD mF
    go_wp2_with fail
    (with_reducible refine KC.mono ?_)
    rintro e w3 ⟨a5, c5, rfl, o5, b3⟩
    have K4 := K3.below b3
    clear KC K3 m0 m1 m2 m3 m4 m5 m6 m7 m8
    obtain ⟨⟨m0, m1, m2, m3, m4, m5, m6, m7, m8⟩, mF⟩ := cells9D K4.a
    simp only at m0 m1 m2 m3 m4 m5 m6 m7 m8
    have mF1 := mF 1
    have mF2 := mF 2
    have mF3 := mF 3
    have mF4 := mF 4
    have hba3 : ByR w3 (fun q => w2.heap.size ≤ q ∧ q < w3.heap.size) (a5, RD.length, c5) RD := .own o5 hrb hrd (fun b h1 h2 => ⟨h1, h2⟩)
    have HBA := Lib.hid hba3
    have HZ3 := Lib.hid b3.size
    have K5 := (((K4.cell (h' := ⟨P, (a5, RD.length, c5), laid, (ba1, ba2, ba3), (mo1, mo2, mo3), (st1, st2, st3), (no1, no2, no3), (fr1, fr2, fr3), op⟩) 1 (.slice a5 RD.length c5) rfl).cell (h' := ⟨P, (a5, RD.length, c5), false, (ba1, ba2, ba3), (mo1, mo2, mo3), (st1, st2, st3), (no1, no2, no3), (fr1, fr2, fr3), op⟩) 2 (.bool false) rfl).cell (h' := ⟨P, (a5, RD.length, c5), false, (none, 0, 0), (mo1, mo2, mo3), (st1, st2, st3), (no1, no2, no3), (fr1, fr2, fr3), op⟩) 3 (.slice none 0 0) rfl).cell (h' := ⟨P, (a5, RD.length, c5), false, (none, 0, 0), (none, 0, 0), (st1, st2, st3), (no1, no2, no3), (fr1, fr2, fr3), op⟩) 4 (.slice none 0 0) rfl
    clear K4 o5 b3 hba3 mF
    go_wp2_with (first | ((with_reducible show wpList _ _ _ (⟨_, Op.store RT _ _, _, _, _, _⟩ :: _) _ _); refine Hid.out ?_))
    refine Lib.hid ?_
    refine wpList_store_B K5 rfl _ _ rfl ⟨P, (a5, RD.length, c5), false, (none, 0, 0), (none, 0, 0), (st1, st2, st3), (no1, no2, no3), (fr1, fr2, fr3), op⟩ rfl rfl ?_
    intro w7 K7 hc7
    have hc47 : ChF (BX w) w3 w7 := (((((ChF.refl (BX w) w3).set (g := w.heap.size) (.inl (.inl rfl))).set (g := w.heap.size) (.inl (.inl rfl))).set (g := w.heap.size) (.inl (.inl rfl))).set (g := w.heap.size) (.inl (.inl rfl))).trans hc7 (fun _ q => .inl q)
    have HC7 := Lib.hid hc47
    clear K5 hc7 hc47 m0 m1 m2 m3 m4 m5 m6 m7 m8
    go_wp2
    have kG := HK.out.gr K7.bel
    have hs47 := HC7.out.size

    have hv : syncV d = ({ d with pow := P, safe := RD, base := RD.length, laid := false }, 0) := by unfold syncV; rw [if_neg (by rw [← HPW.out]; exact h0), ← HPW.out, ← HP.out, HRD.out]
    rw [hv]
    have hba7 : ByR w7 (Gr R w w7) (a5, RD.length, c5) RD := (HBA.out.keep HC7.out (fun b q e => by have := HZ.out; rcases e with e | e <;> omega)).mono (fun b q => .inr ⟨by have := HZ.out; omega, by omega⟩)
    exact bodyPost_ret (results_ref rfl K7 _ rfl) rfl ⟨⟨P, (a5, RD.length, c5), false, (none, 0, 0), (none, 0, 0), (st1, st2, st3), (no1, no2, no3), (fr1, fr2, fr3), op⟩, rfl, ⟨rfl, rfl, hba7, ⟨[], [], .empty _ _, .empty _ _, by rw [if_neg (by simp)]; show d.read = RD ++ []; rw [List.append_nil, HRD.out], by rw [if_neg (by simp)]⟩, kG.st, kG.no, kG.fr, kG.still, kG.lt⟩, K7.bel⟩
end Go.Proofs.Ytdidalcflkphnaa
