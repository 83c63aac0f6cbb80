/-
  rillref08: SyncSlots.
-/
import Derived.Test.YtdidalcflkphnaaMDjU
namespace Go.Proofs.Ytdidalcflkphnaa
open Go.RowKit

set_option maxRecDepth 100000 in
set_option maxHeartbeats 8000000 in
theorem refSlots_any (R : Nat → Prop) (h : RefH) (d : DV) (w : World) (k : RefD w R h d) (hp : d.pow ≤ 9223372036854775807) (hn : d.sl.length ≤ 1000) :
    Calls Try.prog 35 #[h.v] w (RefGives R (slotsV d).1 (slotsV d).2 w) := by
  obtain ⟨p, ⟨sa1, sa2, sa3⟩, laid, ⟨ba1, ba2, ba3⟩, ⟨mo1, mo2, mo3⟩, ⟨st1, st2, st3⟩, ⟨no1, no2, no3⟩, ⟨fr1, fr2, fr3⟩, op⟩ := h
  have hpw : p = d.pow := k.pow
  have K0 := Boxes.new w ⟨p, (sa1, sa2, sa3), laid, (ba1, ba2, ba3), (mo1, mo2, mo3), (st1, st2, st3), (no1, no2, no3), (fr1, fr2, fr3), op⟩
  obtain ⟨P, hP⟩ : ∃ P, P = (spendV p).1 := ⟨_, rfl⟩
  have HK := Lib.hid k
  have HP := Lib.hid hP
  have HPW := Lib.hid hpw
  unfold RefH.v RefH.cells
  clear k hP hpw
  go_enter Try.func35, Try.ntmps35
  go_wp2_with fail
  refine (?_ : ∀ W, Boxes w W ⟨p, (sa1, sa2, sa3), laid, (ba1, ba2, ba3), (mo1, mo2, mo3), (st1, st2, st3), (no1, no2, no3), (fr1, fr2, fr3), op⟩ zH → Calls Try.prog _ _ W _) _ K0
  intro W K1
  clear K0
  have KD := draw_any ⟨p, (sa1, sa2, sa3), laid, (ba1, ba2, ba3), (mo1, mo2, mo3), (st1, st2, st3), (no1, no2, no3), (fr1, fr2, fr3), op⟩ W (by rw [HPW.out]; exact hp)
  unfold RefH.v RefH.cells at KD
  simp only at KD
  rw [← HP.out] at KD
  by_cases h0 : p = 0
  · rw [decide_eq_false (by simpa using h0)] at KD
    (with_reducible refine KD.mono ?_)
    rintro e w1 ⟨rfl, b1⟩
    have K2 := K1.below b1
    clear KD K1 b1
    go_wp2_with (first | ((with_reducible show wpList _ _ _ (⟨_, Op.store RT _ _, _, _, _, _⟩ :: _) _ _); refine Hid.out ?_))
    refine Lib.hid ?_
    refine wpList_store_A K2 rfl _ _ rfl ⟨P, (sa1, sa2, sa3), laid, (ba1, ba2, ba3), (mo1, mo2, mo3), (st1, st2, st3), (no1, no2, no3), (fr1, fr2, fr3), op⟩ rfl rfl ?_
    rintro w2 K3 -
    clear K2
    obtain ⟨⟨m0, m1, m2, m3, m4, m5, m6, m7, m8⟩, mF⟩ := cells9D K3.a
    simp only at m0 m1 m2 m3 m4 m5 m6 m7 m8
    go_wp2_with (first | ((with_reducible show wpList _ _ _ (⟨_, Op.store RT _ _, _, _, _, _⟩ :: _) _ _); refine Hid.out ?_))
    refine Lib.hid ?_
    refine wpList_store_B K3 rfl _ _ rfl ⟨P, (sa1, sa2, sa3), laid, (ba1, ba2, ba3), (mo1, mo2, mo3), (st1, st2, st3), (no1, no2, no3), (fr1, fr2, fr3), op⟩ rfl rfl ?_
    rintro w3 K4 -
    clear K3 m0 m1 m2 m3 m4 m5 m6 m7 m8 mF
    go_wp2
    have hv : slotsV d = (d, 81) := by unfold slotsV; rw [if_pos (by rw [← HPW.out]; exact h0)]
    rw [hv]
    have hP0 : P = p := by rw [HP.out, h0]; rfl
    refine bodyPost_ret (results_ref rfl K4 _ rfl) rfl ⟨_, rfl, ?_, K4.bel⟩
    rw [hP0]
    exact HK.out.gr K4.bel
  · rw [decide_eq_true h0] at KD
    (with_reducible refine KD.mono ?_)
    rintro e w1 ⟨rfl, b1⟩
    have K2 := K1.below b1
    clear KD K1 b1
    go_wp2_with (first | ((with_reducible show wpList _ _ _ (⟨_, Op.store RT _ _, _, _, _, _⟩ :: _) _ _); refine Hid.out ?_))
    refine Lib.hid ?_
    refine wpList_store_A K2 rfl _ _ rfl ⟨P, (sa1, sa2, sa3), laid, (ba1, ba2, ba3), (mo1, mo2, mo3), (st1, st2, st3), (no1, no2, no3), (fr1, fr2, fr3), op⟩ rfl rfl ?_
    rintro w2 K3 -
    clear K2
    obtain ⟨⟨m0, m1, m2, m3, m4, m5, m6, m7, m8⟩, mF⟩ := cells9D K3.a
    simp only at m0 m1 m2 m3 m4 m5 m6 m7 m8

    have HZ := Lib.hid (show w.heap.size + 2 ≤ w2.heap.size from K3.sz)
    have kno := HK.out.no.keep (G := fun _ => False) (.of_below K3.bel) (fun _ _ e => e)
    obtain ⟨NL, hNL⟩ : ∃ X, X = d.sl.map (fun s => s.2.1) := ⟨_, rfl⟩
    rw [← hNL] at kno
    have hnl : NL.length = d.sl.length := by rw [hNL]; simp
    obtain ⟨hs6, hrow, hrows, -, -⟩ := kno.parts
    have hnb := kno.bytes
    obtain rfl : no2 = NL.length := kno.len
    have KC := copyRows_any no1 NL.length no3 hs6 NL w2 hrow (by omega) hrows
    have HNB := Lib.hid hnb
    have HNL := Lib.hid hNL
    have HNN := Lib.hid hnl
    have hnk : NL.length ≤ 1000 := by omega
    clear kno hrow hrows hnb hNL mF hnl
    go_wp2_with fail
    (with_reducible refine KC.mono ?_)
    rintro e w3 ⟨a5, c5, hs5, rfl, o5, os5, b3⟩
    have K4 := K3.below b3
    clear KC K3 m0 m1 m2 m3 m4 m5 m6 m7 m8
    obtain ⟨⟨m0, m1, m2, m3, m4, m5, m6, m7, m8⟩, mF⟩ := cells9D K4.a
    simp only at m0 m1 m2 m3 m4 m5 m6 m7 m8
    have mF5 := mF 5
    have hst3 : RowsR w3 (fun q => w2.heap.size ≤ q ∧ q < w3.heap.size) (a5, NL.length, c5) NL := .own o5 os5 HNB.out (fun b h1 h2 => ⟨h1, h2⟩)
    have HST := Lib.hid hst3
    have HZ3 := Lib.hid b3.size
    have K4' := K4.cell (h' := ⟨P, (sa1, sa2, sa3), laid, (ba1, ba2, ba3), (mo1, mo2, mo3), (a5, NL.length, c5), (no1, NL.length, no3), (fr1, fr2, fr3), op⟩) 5 (.slice a5 NL.length c5) rfl
    clear K4 o5 os5 b3 hst3 mF
    obtain ⟨j0, hj, hy0, hy1, hy2⟩ := info_parts Try.info4
    go_wp2_with (first | (at_make; refine Hid.out ?_))
    refine Lib.hid ?_
    refine wpList_make_full _ rfl _ _ 30 rfl w3.heap.size 4 j0 (.bool false) 1 Try.underlying30 hj hy0 hy1 _ _ _ _ NL.length rfl rfl rfl rfl (by rw [hy2]; omega) (by unfold maxLen; omega) (by simp [World.setCell]) ?_
    intro w4 hown4 hgrow4
    rw [show (Value.bool false).cells = #[.bool false] from rfl, made_bool] at hown4
    have hz34 : (w3.setCell ⟨w.heap.size, 5, none⟩ (.slice a5 NL.length c5)).heap.size = w3.heap.size := by simp [World.setCell]
    have b34 : Below (w3.setCell ⟨w.heap.size, 5, none⟩ (.slice a5 NL.length c5)).heap.size (w3.setCell ⟨w.heap.size, 5, none⟩ (.slice a5 NL.length c5)) w4 := ⟨hgrow4.os, hgrow4.tape, hgrow4.output, hgrow4.size, fun i hi => hgrow4.block i hi (by simp)⟩
    have hc34 : ChF (BX w) w3 w4 := ((ChF.refl (BX w) w3).set (g := w.heap.size) (.inl (.inl rfl))).trans (ChF.of_below (F := BX w) b34) (fun _ q => .inl q)
    have K4q := K4'.below b34
    have hfr4 : HdR w4 (fun q => w3.heap.size ≤ q ∧ q < w4.heap.size) (some ⟨(w3.setCell ⟨w.heap.size, 5, none⟩ (.slice a5 NL.length c5)).heap.size, 0, none⟩, NL.length, NL.length) (List.replicate NL.length (.bool false)) := .own hown4 (fun b h1 h2 => ⟨h1, h2⟩)
    rw [hz34] at hfr4 ⊢
    clear m0 m1 m2 m3 m4 m5 m6 m7 m8 mF5
    obtain ⟨⟨m0, m1, m2, m3, m4, m5, m6, m7, m8⟩, mF⟩ := cells9D K4q.a
    simp only at m0 m1 m2 m3 m4 m5 m6 m7 m8
    have mF7 := mF 7
    have HFR := Lib.hid hfr4
    have HC34 := Lib.hid hc34
    have K5 := K4q.cell (h' := ⟨P, (sa1, sa2, sa3), laid, (ba1, ba2, ba3), (mo1, mo2, mo3), (a5, NL.length, c5), (no1, NL.length, no3), (some ⟨w3.heap.size, 0, none⟩, NL.length, NL.length), op⟩) 7 (.slice (some ⟨w3.heap.size, 0, none⟩) NL.length NL.length) rfl
    clear K4' K4q hown4 hgrow4 b34 hc34 hfr4 mF hj hz34 hy0 hy1 hy2
    go_wp2_with (first | ((with_reducible show wpList _ _ _ (⟨_, Op.store RT _ _, _, _, _, _⟩ :: _) _ _); refine Hid.out ?_))
    refine Lib.hid ?_
    refine wpList_store_B K5 rfl _ _ rfl ⟨P, (sa1, sa2, sa3), laid, (ba1, ba2, ba3), (mo1, mo2, mo3), (a5, NL.length, c5), (no1, NL.length, no3), (some ⟨w3.heap.size, 0, none⟩, NL.length, NL.length), op⟩ rfl rfl ?_
    intro w7 K7 hc7
    have hc47 : ChF (BX w) w4 w7 := ((ChF.refl (BX w) w4).set (g := w.heap.size) (.inl (.inl rfl))).trans hc7 (fun _ q => .inl q)
    have HC7 := Lib.hid hc47
    clear K5 hc7 hc47 m0 m1 m2 m3 m4 m5 m6 m7 m8
    go_wp2
    have kG := HK.out.gr K7.bel
    have hs47 := HC7.out.size

    have hs34 := HC34.out.size
    have hv : slotsV d = ({ d with pow := P, sl := d.sl.map syncS }, 0) := by unfold slotsV; rw [if_neg (by rw [← HPW.out]; exact h0), ← HPW.out, ← HP.out]
    rw [hv]
    have hsy : d.sl.map syncS = d.sl.map (fun s => (s.2.1, s.2.1, false)) := List.map_congr_left (fun s hs => by
      unfold syncS
      split
      · rfl
      · rename_i hw
        have hw' : s.2.2 = false := by simpa using hw
        have := HK.out.still s hs hw'
        obtain ⟨x, y, z⟩ := s
        simp only at this hw' ⊢
        rw [this, hw'])
    have hst7 : RowsR w7 (Gr R w w7) (a5, NL.length, c5) NL := ((HST.out.keep HC34.out (fun b q e => by have := HZ.out; rcases e with e | e <;> omega)).keep HC7.out (fun b q e => by have := HZ.out; rcases e with e | e <;> omega)).mono (fun b q => .inr ⟨by have := HZ.out; omega, by omega⟩)
    have hfr7 : HdR w7 (Gr R w w7) (some ⟨w3.heap.size, 0, none⟩, NL.length, NL.length) (List.replicate NL.length (.bool false)) := (HFR.out.keep HC7.out (fun b q e => by have := HZ.out; have := HZ3.out; rcases e with e | e <;> omega)).mono (fun b q => .inr ⟨by have := HZ.out; have := HZ3.out; omega, by omega⟩)
    refine bodyPost_ret (results_ref rfl K7 _ rfl) rfl ⟨⟨P, (sa1, sa2, sa3), laid, (ba1, ba2, ba3), (mo1, mo2, mo3), (a5, NL.length, c5), (no1, NL.length, no3), (some ⟨w3.heap.size, 0, none⟩, NL.length, NL.length), op⟩, rfl, ⟨rfl, kG.laid, kG.sa, kG.log, ?_, ?_, ?_, ?_, kG.lt⟩, K7.bel⟩
    · rw [hsy, List.map_map]
      exact (show List.map ((fun s => s.1) ∘ fun s : Slot => (s.2.1, s.2.1, false)) d.sl = NL from HNL.out.symm) ▸ hst7
    · rw [hsy, List.map_map]
      exact kG.no
    · rw [hsy, List.map_map]
      have : List.map ((fun s : Slot => Value.bool s.2.2) ∘ fun s : Slot => (s.2.1, s.2.1, false)) d.sl = List.replicate NL.length (.bool false) := by rw [HNN.out, List.map_eq_replicate_iff]; intro x _; rfl
      rw [this]
      exact hfr7
    · intro s hs hw
      rw [hsy] at hs
      obtain ⟨x, -, rfl⟩ := List.mem_map.1 hs
      rfl
end Go.Proofs.Ytdidalcflkphnaa
