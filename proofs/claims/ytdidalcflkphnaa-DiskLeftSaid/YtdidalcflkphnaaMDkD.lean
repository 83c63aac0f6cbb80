/-
  rillref08: Left, the walk up to the loop and behind it.
-/
import Derived.Deep.CutBlock
import Derived.Deep.DeepCutAuto
import Derived.Test.YtdidalcflkphnaaMDkC
namespace Go.Proofs.Ytdidalcflkphnaa
open Go.RowKit

theorem bytesV_take8 {w : World} {a : Option Addr} {n c m : Nat} {l : List Nat} (h : BytesV w (a, n, c) l) (hm : m ≤ n) : BytesV w (a, m, c) (l.take m) := by
  have hc := h.cap
  have hs := h.small
  simp only at hc hs
  have hr := rowV_take8 h.row hm
  rw [← List.map_take] at hr
  exact ⟨hr, fun y hy => h.bytes y (List.mem_of_mem_take hy), by simp only; omega, by simp only; omega, h.nil⟩
theorem logS_app {safe read X ml : List Nat} {base kk : Nat} {laid reset : Bool} {keep : Int} (h : ¬ (laid = true ∧ reset = false)) (e1 : read = X ++ ml) (e2 : base = X.length) (hk : kk = min keep.toNat ml.length) : logS safe read base laid keep reset = X ++ ml.take kk := by
  unfold logS
  rw [if_neg h, e1, e2, List.length_append, Nat.add_sub_cancel_left, ← hk, List.take_append, List.take_of_length_le (by omega), Nat.add_sub_cancel_left]
set_option maxRecDepth 100000 in
set_option maxHeartbeats 8000000 in
theorem refLeft_any (R : Nat → Prop) (h : RefH) (d : DV) (keep : Int) (reset : Bool) (fa : Option Addr) (fn fc : Nat) (fs : List Int) (pw : Int) (w : World) (k : RefD w R h d) (hf : IntsV w (fa, fn, fc) fs) (h1 : 1 ≤ d.sl.length) (h2 : d.sl.length ≤ 512) (hsm : (logS d.safe d.read d.base d.laid keep reset).length ≤ 1000000000) :
    Calls Try.prog 18 #[h.v, .agg #[.int .i64 keep, .bool reset, .slice fa fn fc], .int .i64 pw] w (fun e w' => ∃ h' : RefH, e = .returned h'.v ∧ RefD w' (fun b => w.heap.size ≤ b ∧ b < w'.heap.size) h' (leftV d keep reset fs pw) ∧ Below w.heap.size w w') := by
  obtain ⟨p, ⟨sa1, sa2, sa3⟩, laid, ⟨ba1, ba2, ba3⟩, ⟨mo1, mo2, mo3⟩, ⟨st1, st2, st3⟩, ⟨no1, no2, no3⟩, ⟨fr1, fr2, fr3⟩, op⟩ := h
  have hn2 := k.no.len
  simp only [List.length_map] at hn2
  obtain ⟨n, hn⟩ : ∃ n, n = d.sl.length := ⟨_, rfl⟩
  rw [← hn] at hn2 h1 h2
  obtain rfl : no2 = n := hn2
  have K0 := Box3.new w ⟨p, (sa1, sa2, sa3), laid, (ba1, ba2, ba3), (mo1, mo2, mo3), (st1, st2, st3), (no1, no2, no3), (fr1, fr2, fr3), op⟩ (fcells keep reset (fa, fn, fc))
  have HK := Lib.hid k
  have HF := Lib.hid hf
  have HN := Lib.hid hn
  unfold RefH.v RefH.cells
  have HSM := Lib.hid hsm
  clear k hf hn hsm
  go_enter Try.func18, Try.ntmps18
  go_wp2_with fail
  refine (?_ : ∀ W, Box3 w W ⟨p, (sa1, sa2, sa3), laid, (ba1, ba2, ba3), (mo1, mo2, mo3), (st1, st2, st3), (no1, no2, no3), (fr1, fr2, fr3), op⟩ (fcells keep reset (fa, fn, fc)) → Calls Try.prog _ _ W _) _ K0
  intro W K1
  clear K0
  have KN := refNew_any no2 pw W h1 h2
  unfold RefH.v RefH.cells at KN
  simp only at KN
  (with_reducible refine KN.mono ?_)
  rintro e w1 ⟨a5, a6, a7, c5, c6, c7, rfl, kR, kN, b1⟩
  have K2 := K1.below b1
  clear KN
  obtain ⟨t, ht⟩ : ∃ t, t = w1.heap.size := ⟨_, rfl⟩
  have HT := Lib.hid ht
  have HR := Lib.hid kR
  have HNR := Lib.hid kN
  have HB1 := Lib.hid b1
  clear kR kN b1 ht
  go_wp2_with (first | ((with_reducible show wpList _ _ _ (⟨_, Op.store RT _ _, _, _, _, _⟩ :: _) _ _); refine Hid.out ?_))
  refine Lib.hid ?_
  refine wpList_store_row rfl RT _ _ rfl w1.heap.size (RefH.mk pw nH false nH nH (a5, no2, c5) (a6, no2, c6) (a7, no2, c7) true).cells rfl rfl RT _ (heap_alloc_self w1 _) (by kernel_rfl) rfl (RefH.one _) ?_
  obtain ⟨w2, hw2⟩ : ∃ x, x = (w1.alloc (.cells zH.cells RT)).setRow w1.heap.size (RefH.mk pw nH false nH nH (a5, no2, c5) (a6, no2, c6) (a7, no2, c7) true).cells := ⟨_, rfl⟩
  refine (?_ : wpList _ _ _ _ _ ((w1.alloc (.cells zH.cells RT)).setRow w1.heap.size (RefH.mk pw nH false nH nH (a5, no2, c5) (a6, no2, c6) (a7, no2, c7) true).cells))
  have OB : w2.heap[w1.heap.size]? = some (.cells (RefH.mk pw nH false nH nH (a5, no2, c5) (a6, no2, c6) (a7, no2, c7) true).cells RT (0, 0)) := by rw [hw2]; exact setRow_same (heap_alloc_self w1 _)
  have b12 : Below w1.heap.size w1 w2 := by
    rw [hw2]
    exact ((ChF.of_below (F := fun _ => False) (below_alloc w1 (.cells zH.cells RT))).trans (chF_setRow (F := fun b => b = w1.heap.size) rfl _) (fun x e => .inr (by omega))).below (B := w1.heap.size) (fun b e => e.elim) (Nat.le_refl _)
  rw [← hw2]
  rw [← HT.out] at OB ⊢
  have K3 := K2.below b12
  have HB12 := Lib.hid b12
  have hts : w.heap.size + 3 ≤ t := by rw [HT.out]; exact K2.sz
  have HTS := Lib.hid hts
  clear K2 hw2 b12 hts
  obtain ⟨⟨m0, m1, m2, m3, m4, m5, m6, m7, m8⟩, mF⟩ := cells9D K3.a
  simp only at m0 m1 m2 m3 m4 m5 m6 m7 m8
  obtain ⟨f0, f1, f2⟩ := cells3F K3.f
  simp only at f0 f1 f2
  have oc := cells9D OB
  simp only at oc
  have OF := oc.2 1
  have o1 := oc.1.2.1
  clear oc mF
  have hmol := HK.out.log
  obtain ⟨bl, ml, hlog⟩ := hmol
  have hmoL := hlog.2.1.len
  have hsaL := HK.out.sa.len
  have hbaL := hlog.1.len
  simp only at hmoL hsaL hbaL
  subst hmoL hsaL hbaL
  have hmoS := hlog.2.1.small
  have hsaS := HK.out.sa.small
  have hbaS := hlog.1.small
  obtain ⟨kk, hkd⟩ : ∃ kk : Nat, kk = min keep.toNat ml.length := ⟨_, rfl⟩
  obtain ⟨k1, hk1⟩ : ∃ k1 : Int, k1 = if keep < 0 then 0 else keep := ⟨_, rfl⟩
  obtain ⟨lg, hlg⟩ : ∃ lg, lg = logS d.safe d.read d.base d.laid keep reset := ⟨_, rfl⟩
  have hk1a : 0 ≤ k1 := by rw [hk1]; split <;> omega
  have HK1b : Hid (keep < 0 → (0 : Int) = k1) := Lib.hid (fun h => by rw [hk1, if_pos h])
  have HK1c : Hid (¬ keep < 0 → keep = k1) := Lib.hid (fun h => by rw [hk1, if_neg h])
  have HK1d : Hid ((ml.length : Int) < k1 → (ml.length : Int) = (kk : Nat)) := Lib.hid (fun h => by rw [hk1] at h; split at h <;> omega)
  have HK1e : Hid (¬ (ml.length : Int) < k1 → k1 = ((kk : Nat) : Int)) := Lib.hid (fun h => by rw [hk1] at h ⊢; split at h <;> omega)
  have hkk : kk ≤ ml.length := by omega
  have HLG1 : Hid (laid = false → lg = d.safe ++ ml.take kk) := Lib.hid (fun hl => by
    have el : d.laid = false := HK.out.laid.symm.trans hl
    have e1 := hlog.2.2.1
    have e2 := hlog.2.2.2
    rw [el] at e1 e2
    rw [hlg]
    exact logS_app (fun q => by rw [el] at q; exact absurd q.1 (by decide)) e1 e2 hkd)
  have HLG2 : Hid (laid = true → reset = true → lg = bl ++ ml.take kk) := Lib.hid (fun hl hr => by
    have el : d.laid = true := HK.out.laid.symm.trans hl
    have e1 := hlog.2.2.1
    have e2 := hlog.2.2.2
    rw [el] at e1 e2
    rw [hlg]
    exact logS_app (fun q => by rw [hr] at q; exact absurd q.2 (by decide)) e1 e2 hkd)
  have HLG3 : Hid (laid = true → reset = false → lg = d.safe) := Lib.hid (fun hl hr => by
    have el : d.laid = true := HK.out.laid.symm.trans hl
    rw [hlg]
    unfold logS
    rw [if_pos ⟨el, hr⟩])
  have hgB : Bytes lg := by
    rw [hlg]
    refine logS_bytes HK.out.sa.bytes ?_ _ _ _ _
    rw [hlog.2.2.1]
    intro x hx
    rcases List.mem_append.1 hx with q | q
    · split at q
      · exact hlog.1.bytes x q
      · exact HK.out.sa.bytes x q
    · exact hlog.2.1.bytes x q
  have hgs : lg.length ≤ 1000000000 := by rw [hlg]; exact HSM.out
  have HGB := Lib.hid hgB
  have HLG := Lib.hid hlg
  have HLOG := Lib.hid hlog
  obtain ⟨StL, hSt⟩ : ∃ S : World → Prop, S = fun wx => ∃ a9 c9, Box3 w wx ⟨p, (sa1, d.safe.length, sa3), laid, (ba1, bl.length, ba3), (mo1, ml.length, mo3), (st1, st2, st3), (no1, no2, no3), (fr1, fr2, fr3), op⟩ (fcells keep reset (fa, fn, fc)) ∧
      wx.heap[t]? = some (.cells (RefH.mk pw (a9, lg.length, c9) false nH nH (a5, no2, c5) (a6, no2, c6) (a7, no2, c7) true).cells RT (0, 0)) ∧ wx.ownsRow w2.heap.size 5 1 (.slice a9 lg.length c9) lg.length (lg.map bv) ∧ ChF (fun b => w2.heap.size ≤ b ∨ b = t) w2 wx := ⟨_, rfl⟩
  have HST := Lib.hid hSt
  have htz : t < w2.heap.size := (Array.getElem?_eq_some_iff.1 OB).1
  clear hlog hk1 hkd hlg hgB hSt
  go_upto_if 28 with fail
  go_cut [9] (fun v wx => v = .int .i64 k1 ∧ w2 = wx)
  case first =>
    by_cases hk0 : keep < 0
    · go_wp2_with fail
      go_meet
      exact ⟨by rw [HK1b.out hk0], rfl⟩
    · go_wp2_with fail
      go_meet
      exact ⟨by rw [HK1c.out hk0], rfl⟩
  case rest =>
    obtain ⟨rfl, hw⟩ := hcut
    subst hw
    go_upto_if 33 with fail
    go_cut [9] (fun v wx => v = .int .i64 (kk : Nat) ∧ w2 = wx)
    case first =>
      by_cases hk0 : (ml.length : Int) < k1
      · go_wp2_with fail
        go_meet
        exact ⟨by rw [HK1d.out hk0], rfl⟩
      · go_wp2_with fail
        go_meet
        exact ⟨by rw [HK1e.out hk0], rfl⟩
    case rest =>
    obtain ⟨rfl, hw⟩ := hcut
    subst hw
    clear hk1a HK1b HK1c HK1d HK1e
    go_upto_block 0 with fail
    go_cut [] (fun wx => StL wx)
    case first =>
     by_cases hl : laid = true
     · subst hl
       by_cases hr : reset = true
       · subst hr
         have HLL := Lib.hid (HLG2.out rfl rfl)
         have KS := copyBytes_any ba1 _ ba3 _ w2 (HLOG.out.1.bv_.below K3.bel)
         go_wp2_with fail
         (with_reducible refine KS.mono ?_)
         rintro e w3 ⟨a8, c8, rfl, o8, b3⟩
         clear KS
         have K4 := K3.below b3
         have OB4 : w3.heap[t]? = some (.cells (RefH.mk pw nH false nH nH (a5, no2, c5) (a6, no2, c6) (a7, no2, c7) true).cells RT (0, 0)) := (b3.block t htz).trans OB
         have oc := cells9D OB4
         have OF := oc.2 1
         have o13 := oc.1.2.1
         simp only at o13
         clear m0 m1 m2 m3 m4 m5 m6 m7 m8 f0 f1 f2 o1 oc K3 OB
         have hset3 : ChF (fun q => q = t) w3 (w3.setCell ⟨t, 1, none⟩ (.slice a8 bl.length c8)) := (ChF.refl (fun q => q = t) w3).set (g := t) (.inl rfl)
         have K5 := K4.keep hset3 (fun b e => by have := HTS.out; omega)
         obtain ⟨⟨m0, m1, m2, m3, m4, m5, m6, m7, m8⟩, -⟩ := cells9D K5.a
         simp only at m0 m1 m2 m3 m4 m5 m6 m7 m8
         have OB5 : (w3.setCell ⟨t, 1, none⟩ (.slice a8 bl.length c8)).heap[t]? = some (.cells (RefH.mk pw (a8, bl.length, c8) false nH nH (a5, no2, c5) (a6, no2, c6) (a7, no2, c7) true).cells RT (0, 0)) := heap_setCell_same _ _ 1 _ _ _ OB4
         have oc := cells9D OB5
         simp only at oc
         have o1 := oc.1.2.1
         have OF5 := oc.2 1
         have o8' := own_ChF o8 hset3 (fun b h1 h2 => by have := (o8.lt b h1).1; omega)
         have hmo5 := HLOG.out.2.1.hd.row.kept' (w' := w3.setCell ⟨t, 1, none⟩ (.slice a8 bl.length c8)) (fun h0 a ha => (K5.bel.block _ (HLOG.out.2.1.hd.row.lt h0 ha)))
         obtain ⟨i0, hi, hz0, hz1, hz2⟩ := info_parts Try.info5
         have HK5 := Lib.hid K5
         have HO8 := Lib.hid o8
         have HB3 := Lib.hid b3
         have HOB5 := Lib.hid OB5
         have hs8 : (w3.setCell ⟨t, 1, none⟩ (.slice a8 bl.length c8)).heap.size = w3.heap.size := by simp [World.setCell]
         have HS8 := Lib.hid hs8
         have hmo3 := HLOG.out.2.1.hd.cap
         simp only at hmo3
         have hmoI : (ml.length : Int) ≤ (mo3 : Int) := by omega
         have hk0N : (0 : Int) ≤ (kk : Int) := by omega
         have hk3I : (kk : Int) ≤ (mo3 : Int) := by omega
         have HO8' := Lib.hid o8'
         have HMO5 := Lib.hid hmo5
         have HROW := Lib.hid (show RowV (w3.setCell ⟨t, 1, none⟩ (.slice a8 bl.length c8)) mo1 kk ((ml.map bv).take kk) from rowV_take8 hmo5 hkk)
         have HONE := Lib.hid (show ∀ u ∈ (ml.map bv).take kk, u.oneCell' = true from fun u hu => bv_one ml u (List.mem_of_mem_take hu))
         have HFIN := Lib.hid (show ∀ v' w', w'.ownsRow w2.heap.size 5 1 v' (bl.length + kk) (bl.map bv ++ (ml.map bv).take kk) → (w3.setCell ⟨t, 1, none⟩ (.slice a8 bl.length c8)).grownBy w' (Value.slice a8 bl.length c8).ownBlock →
             ∃ a9 c9, v' = .slice a9 (bl.length + kk) c9 ∧ w'.cell? ⟨t, 1, none⟩ = some (.slice a8 bl.length c8) ∧ w'.frozen? ⟨t, 1, none⟩ = false ∧ Hid (StL (w'.setCell ⟨t, 1, none⟩ (.slice a9 (bl.length + kk) c9))) from fun v' w' ho hg => by
           obtain ⟨a9, c9, rfl, -⟩ := ownsRow_parts ho
           have hch : ChF (fun b => w2.heap.size ≤ b) (w3.setCell ⟨t, 1, none⟩ (.slice a8 bl.length c8)) w' := .of_grown hg (fun b hb => ownBlock_ge HO8.out b hb)
           have hO := (hch.block t (by rw [hs8]; have := HB3.out.size; omega) (by omega)).trans OB5
           have hc := cells9D hO
           refine ⟨a9, c9, rfl, hc.1.2.1, hc.2 1, Lib.hid ?_⟩
           have hset9 : ChF (fun q => q = t) w' (w'.setCell ⟨t, 1, none⟩ (.slice a9 (bl.length + kk) c9)) := (ChF.refl (fun q => q = t) w').set (g := t) (.inl rfl)
           have el : lg.length = bl.length + kk := by rw [HLL.out]; simp; omega
           rw [HST.out]
           refine ⟨a9, c9, (K5.keep hch (fun b hb => by have := HTS.out; omega)).keep hset9 (fun b e => by have := HTS.out; omega), ?_, ?_, ?_⟩
           · rw [el]; exact heap_setCell_same _ _ 1 _ _ _ hO
           · rw [el, HLL.out, List.map_append, List.map_take]
             exact own_ChF ho hset9 (fun b h1 h2 => by have := (ho.lt b h1).1; omega)
           · have hb2 := (Lib.hid b3).out.size
             exact ((((ChF.of_below b3).trans hset3 (fun b q => .inl (.inr q))).trans hch (fun b q => .inl (.inl q))).trans hset9 (fun b q => .inl (.inr q))))
         clear o8 b3 OB5 oc hset3 K5 K4 OB4 o8' hmo5 hs8
         go_wp2_with fail
         go_region_law
           (first
             | (refine step_append_all rfl (.tmp 65) (.tmp 69) 28 rfl w2.heap.size 5 i0 (.int .u8 0) 1 Try.underlying28 hi hz0 hz1 hz2 rfl (.slice a8 bl.length c8) bl.length (bl.map bv) (by rfl) HO8'.out mo1 kk mo3 ((ml.map bv).take kk) (by rfl) ?hrow ?hnil ?hone (by unfold maxLen; omega) (by omega) (by have e := HS8.out; have := HB3.out.size; show w2.heap.size ≤ (World.setCell _ _ _).heap.size; omega) ?_; (case hrow => exact HROW.out); (case hnil => exact HLOG.out.2.1.hd.nil); (case hone => exact HONE.out); intro v9 w9 o9 g9; obtain ⟨a9, c9, rfl, x9, xF9, HS9⟩ := HFIN.out v9 w9 o9 ⟨g9.os, g9.tape, g9.output, g9.size, g9.block⟩; clear o9 g9))
         all_goals
           go_wp2_with fail
           go_meet
           exact HS9.out
       · have hr' : reset = false := by simpa using hr
         subst hr'
         have hlg3 := HLG3.out rfl rfl
         have KS := copyBytes_any sa1 _ sa3 _ w2 (HK.out.sa.bv_.below K3.bel)
         go_wp2_with fail
         (with_reducible refine KS.mono ?_)
         rintro e w3 ⟨a8, c8, rfl, o8, b3⟩
         clear KS
         have K4 := K3.below b3
         have OB4 : w3.heap[t]? = some (.cells (RefH.mk pw nH false nH nH (a5, no2, c5) (a6, no2, c6) (a7, no2, c7) true).cells RT (0, 0)) := (b3.block t htz).trans OB
         have oc := cells9D OB4
         have OF := oc.2 1
         have o13 := oc.1.2.1
         simp only at o13
         clear m0 m1 m2 m3 m4 m5 m6 m7 m8 f0 f1 f2 o1 oc K3 OB
         have hset3 : ChF (fun q => q = t) w3 (w3.setCell ⟨t, 1, none⟩ (.slice a8 d.safe.length c8)) := (ChF.refl (fun q => q = t) w3).set (g := t) (.inl rfl)
         have HEND : Hid (StL (w3.setCell ⟨t, 1, none⟩ (.slice a8 d.safe.length c8))) := Lib.hid (by
           rw [HST.out]
           refine ⟨a8, c8, K4.keep hset3 (fun b e => by have := HTS.out; omega), ?_, ?_, (ChF.of_below b3).trans hset3 (fun b q => .inl (.inr q))⟩
           · rw [hlg3]; exact heap_setCell_same _ _ 1 _ _ _ OB4
           · rw [hlg3]; exact own_ChF o8 hset3 (fun b h1 h2 => by have := (o8.lt b h1).1; omega))
         clear hset3 K4 OB4 o8 b3 hlg3
         go_wp2_with fail
         go_meet
         exact HEND.out
     · have hl' : laid = false := by simpa using hl
       subst hl'
       have HLL := Lib.hid (HLG1.out rfl)
       have KS := copyBytes_any sa1 _ sa3 _ w2 (HK.out.sa.bv_.below K3.bel)
       go_wp2_with fail
       (with_reducible refine KS.mono ?_)
       rintro e w3 ⟨a8, c8, rfl, o8, b3⟩
       clear KS
       have K4 := K3.below b3
       have OB4 : w3.heap[t]? = some (.cells (RefH.mk pw nH false nH nH (a5, no2, c5) (a6, no2, c6) (a7, no2, c7) true).cells RT (0, 0)) := (b3.block t htz).trans OB
       have oc := cells9D OB4
       have OF := oc.2 1
       have o13 := oc.1.2.1
       simp only at o13
       clear m0 m1 m2 m3 m4 m5 m6 m7 m8 f0 f1 f2 o1 oc K3 OB
       have hset3 : ChF (fun q => q = t) w3 (w3.setCell ⟨t, 1, none⟩ (.slice a8 d.safe.length c8)) := (ChF.refl (fun q => q = t) w3).set (g := t) (.inl rfl)
       have K5 := K4.keep hset3 (fun b e => by have := HTS.out; omega)
       obtain ⟨⟨m0, m1, m2, m3, m4, m5, m6, m7, m8⟩, -⟩ := cells9D K5.a
       simp only at m0 m1 m2 m3 m4 m5 m6 m7 m8
       have OB5 : (w3.setCell ⟨t, 1, none⟩ (.slice a8 d.safe.length c8)).heap[t]? = some (.cells (RefH.mk pw (a8, d.safe.length, c8) false nH nH (a5, no2, c5) (a6, no2, c6) (a7, no2, c7) true).cells RT (0, 0)) := heap_setCell_same _ _ 1 _ _ _ OB4
       have oc := cells9D OB5
       simp only at oc
       have o1 := oc.1.2.1
       have OF5 := oc.2 1
       have o8' := own_ChF o8 hset3 (fun b h1 h2 => by have := (o8.lt b h1).1; omega)
       have hmo5 := HLOG.out.2.1.hd.row.kept' (w' := w3.setCell ⟨t, 1, none⟩ (.slice a8 d.safe.length c8)) (fun h0 a ha => (K5.bel.block _ (HLOG.out.2.1.hd.row.lt h0 ha)))
       obtain ⟨i0, hi, hz0, hz1, hz2⟩ := info_parts Try.info5
       have HK5 := Lib.hid K5
       have HO8 := Lib.hid o8
       have HB3 := Lib.hid b3
       have HOB5 := Lib.hid OB5
       have hs8 : (w3.setCell ⟨t, 1, none⟩ (.slice a8 d.safe.length c8)).heap.size = w3.heap.size := by simp [World.setCell]
       have HS8 := Lib.hid hs8
       have hmo3 := HLOG.out.2.1.hd.cap
       simp only at hmo3
       have hmoI : (ml.length : Int) ≤ (mo3 : Int) := by omega
       have hk0N : (0 : Int) ≤ (kk : Int) := by omega
       have hk3I : (kk : Int) ≤ (mo3 : Int) := by omega
       have HO8' := Lib.hid o8'
       have HMO5 := Lib.hid hmo5
       have HROW := Lib.hid (show RowV (w3.setCell ⟨t, 1, none⟩ (.slice a8 d.safe.length c8)) mo1 kk ((ml.map bv).take kk) from rowV_take8 hmo5 hkk)
       have HONE := Lib.hid (show ∀ u ∈ (ml.map bv).take kk, u.oneCell' = true from fun u hu => bv_one ml u (List.mem_of_mem_take hu))
       have HFIN := Lib.hid (show ∀ v' w', w'.ownsRow w2.heap.size 5 1 v' (d.safe.length + kk) (d.safe.map bv ++ (ml.map bv).take kk) → (w3.setCell ⟨t, 1, none⟩ (.slice a8 d.safe.length c8)).grownBy w' (Value.slice a8 d.safe.length c8).ownBlock →
           ∃ a9 c9, v' = .slice a9 (d.safe.length + kk) c9 ∧ w'.cell? ⟨t, 1, none⟩ = some (.slice a8 d.safe.length c8) ∧ w'.frozen? ⟨t, 1, none⟩ = false ∧ Hid (StL (w'.setCell ⟨t, 1, none⟩ (.slice a9 (d.safe.length + kk) c9))) from fun v' w' ho hg => by
         obtain ⟨a9, c9, rfl, -⟩ := ownsRow_parts ho
         have hch : ChF (fun b => w2.heap.size ≤ b) (w3.setCell ⟨t, 1, none⟩ (.slice a8 d.safe.length c8)) w' := .of_grown hg (fun b hb => ownBlock_ge HO8.out b hb)
         have hO := (hch.block t (by rw [hs8]; have := HB3.out.size; omega) (by omega)).trans OB5
         have hc := cells9D hO
         refine ⟨a9, c9, rfl, hc.1.2.1, hc.2 1, Lib.hid ?_⟩
         have hset9 : ChF (fun q => q = t) w' (w'.setCell ⟨t, 1, none⟩ (.slice a9 (d.safe.length + kk) c9)) := (ChF.refl (fun q => q = t) w').set (g := t) (.inl rfl)
         have el : lg.length = d.safe.length + kk := by rw [HLL.out]; simp; omega
         rw [HST.out]
         refine ⟨a9, c9, (K5.keep hch (fun b hb => by have := HTS.out; omega)).keep hset9 (fun b e => by have := HTS.out; omega), ?_, ?_, ?_⟩
         · rw [el]; exact heap_setCell_same _ _ 1 _ _ _ hO
         · rw [el, HLL.out, List.map_append, List.map_take]
           exact own_ChF ho hset9 (fun b h1 h2 => by have := (ho.lt b h1).1; omega)
         · have hb2 := (Lib.hid b3).out.size
           exact ((((ChF.of_below b3).trans hset3 (fun b q => .inl (.inr q))).trans hch (fun b q => .inl (.inl q))).trans hset9 (fun b q => .inl (.inr q))))
       clear o8 b3 OB5 oc hset3 K5 K4 OB4 o8' hmo5 hs8
       go_wp2_with fail
       go_region_law
         (first
           | (refine step_append_all rfl (.tmp 50) (.tmp 54) 28 rfl w2.heap.size 5 i0 (.int .u8 0) 1 Try.underlying28 hi hz0 hz1 hz2 rfl (.slice a8 d.safe.length c8) d.safe.length (d.safe.map bv) (by rfl) HO8'.out mo1 kk mo3 ((ml.map bv).take kk) (by rfl) ?hrow ?hnil ?hone (by unfold maxLen; omega) (by omega) (by have e := HS8.out; have := HB3.out.size; show w2.heap.size ≤ (World.setCell _ _ _).heap.size; omega) ?_; (case hrow => exact HROW.out); (case hnil => exact HLOG.out.2.1.hd.nil); (case hone => exact HONE.out); intro v9 w9 o9 g9; obtain ⟨a9, c9, rfl, x9, xF9, HS9⟩ := HFIN.out v9 w9 o9 ⟨g9.os, g9.tape, g9.output, g9.size, g9.block⟩; clear o9 g9))
       all_goals
         go_wp2_with fail
         go_meet
         exact HS9.out
    case rest =>
    rename World => wA
    rw [HST.out] at hcut
    obtain ⟨a9, c9, K10, OB9, o10, c29⟩ := hcut
    clear m0 m1 m2 m3 m4 m5 m6 m7 m8 f0 f1 f2 o1 OF K3 OB HST HLG1 HLG2 HLG3
    obtain ⟨OO, hOO⟩ : ∃ x : RefH, x = ⟨pw, (a9, lg.length, c9), false, nH, nH, (a5, no2, c5), (a6, no2, c6), (a7, no2, c7), true⟩ := ⟨_, rfl⟩
    obtain ⟨RH, hRH⟩ : ∃ x : RefH, x = ⟨p, (sa1, d.safe.length, sa3), laid, (ba1, bl.length, ba3), (mo1, ml.length, mo3), (st1, st2, st3), (no1, no2, no3), (fr1, fr2, fr3), op⟩ := ⟨_, rfl⟩
    have OB10 : wA.heap[t]? = some (.cells OO.cells RT (0, 0)) := by rw [hOO]; exact OB9
    have z12 := HB12.out.size
    have ht := HT.out
    have ht2 : w1.heap.size < w2.heap.size := by rw [← ht]; exact htz
    have c19 : ChF (fun b => w1.heap.size ≤ b) w1 wA := (ChF.of_below HB12.out).trans c29 (fun b q => by rcases q with q | q; exact .inr (by omega); exact .inr (by omega))
    have zW := HB1.out.size
    have LI : LInv w (W.heap.size + 2) t RH (fcells keep reset (fa, fn, fc)) OO (List.replicate no2 []) (List.replicate no2 []) wA := by
      exact .start ht HNR.out c19 (by rw [hRH]; exact K10) OB10 (by rw [hOO]) (by rw [hOO]) (by rw [hOO]) HTS.out (by have := K1.sz; omega) (by rw [ht]; exact HNR.out.le h1)
    have hWB : W.heap.size + 2 ≤ w1.heap.size := HNR.out.le h1
    have hgr : ByR wA (RowQ (W.heap.size + 2) t OO wA) (a9, lg.length, c9) lg :=
      (ByR.own o10 HGB.out hgs (R := fun b => w2.heap.size ≤ b ∧ b < wA.heap.size) (fun b q1 q2 => ⟨q1, q2⟩)).mono (fun b q => ⟨by omega, q.2, by omega, fun e => by have := LI.lt5 b e; omega, fun e => by have := LI.lt6 b e; omega, fun e => by have := LI.lt7 b e; omega⟩)
    have HGR := Lib.hid hgr
    have LL := Lib.hid LI
    have HOO := Lib.hid hOO
    have HRH := Lib.hid hRH
    clear hWB hgr K10 OB10 OB9 z12 ht ht2 c19 c29 zW LI hOO hRH o10
    go_wp2_with fail
    go_loopw [10, 11] (fun vk vi wr => ∃ (i : Nat), i ≤ no2 ∧ vi = .int .i64 (i : Nat) ∧ vk = .int .i64 (cntW d.sl i : Nat) ∧ Hid (LInv w (W.heap.size + 2) t RH (fcells keep reset (fa, fn, fc)) OO ((leftTo d.sl fs i).map (fun s => s.1)) ((leftTo d.sl fs i).map (fun s => s.2.1)) wr) ∧ Hid (ByR wr (RowQ (W.heap.size + 2) t OO wr) (a9, lg.length, c9) lg)) (fun _ vi _ => (no2 - intOf vi).toNat)
    case atStart => exact ⟨0, Nat.zero_le _, rfl, rfl, by
      have e1 : (leftTo d.sl fs 0).map (fun s => s.1) = List.replicate no2 [] := by rw [HN.out]; simp [leftTo, noSl]
      have e2 : (leftTo d.sl fs 0).map (fun s => s.2.1) = List.replicate no2 [] := by rw [HN.out]; simp [leftTo, noSl]
      rw [e1, e2]
      exact LL, HGR⟩
    case round =>
     obtain ⟨i, hi', rfl, rfl, hL, hG⟩ := hrel
     by_cases hlt : i < no2
     · have hltI : (i : Int) < (no2 : Int) := by omega
       have L := hL.out
       have hB := L.bx
       obtain ⟨⟨m0, m1, m2, m3, m4, m5, m6, m7, m8⟩, -⟩ := cells9D (by have := hB.a; rw [HRH.out] at this; exact this)
       simp only at m0 m1 m2 m3 m4 m5 m6 m7 m8
       obtain ⟨f0, f1, f2⟩ := cells3F hB.f
       simp only at f0 f1 f2
       have hil : i < d.sl.length := by rw [← HN.out]; exact hlt
       obtain ⟨s, hs'⟩ : ∃ s, d.sl[i]? = some s := ⟨_, List.getElem?_eq_getElem hil⟩
       have kst := HK.out.st.keep (G := fun _ => False) (.of_below hB.bel) (fun _ _ e => e)
       have hst2 := HK.out.st.len
       simp only [List.length_map] at hst2
       obtain ⟨hs, hrow, -, hby, hlen⟩ := kst.parts
       obtain ⟨⟨y1, y2, y3⟩, hy⟩ : ∃ y, hs[i]? = some y := ⟨_, List.getElem?_eq_getElem (by rw [hlen]; simpa using hil)⟩
       have hb := hby i _ s.1 hy (by rw [List.getElem?_map, hs']; rfl)
       obtain ⟨X, hX⟩ : ∃ X, X = s.1 := ⟨_, rfl⟩
       rw [← hX] at hb
       obtain rfl : X.length = y2 := hb.len
       obtain ⟨nb0, no0, e, hc⟩ := hrow.2 (by simp only; omega)
       simp only at e hc
       have hcS : wr.cell? ⟨nb0, no0 + i, none⟩ = some (.slice y1 X.length y3) := by
         rw [hc i (by omega), List.getElem?_map, hy]; rfl
       have kfr := HK.out.fr.keep (G := fun _ => False) (.of_below hB.bel) (fun _ _ e => e)
       have hfr2 := kfr.row.1
       simp only [List.length_map] at hfr2
       obtain ⟨fb0, fo0, e', hc'⟩ := kfr.row.2 (by simp only; omega)
       simp only at e' hc'
       have hcF : wr.cell? ⟨fb0, fo0 + i, none⟩ = some (.bool s.2.2) := by
         rw [hc' i (by omega), List.getElem?_map, hs']; rfl
       have hiS : (i : Int) < (st2 : Int) := by omega
       have hiF : (i : Int) < (fr2 : Int) := by omega
       have kno := HK.out.no.keep (G := fun _ => False) (.of_below hB.bel) (fun _ _ e => e)
       obtain ⟨hsn, hrowN, -, hbyN, hlenN⟩ := kno.parts
       obtain ⟨⟨z1, z2, z3⟩, hzN⟩ : ∃ y, hsn[i]? = some y := ⟨_, List.getElem?_eq_getElem (by rw [hlenN]; simpa using hil)⟩
       have hbz := hbyN i _ s.2.1 hzN (by rw [List.getElem?_map, hs']; rfl)
       obtain ⟨Z, hZ⟩ : ∃ Z, Z = s.2.1 := ⟨_, rfl⟩
       rw [← hZ] at hbz
       obtain rfl : Z.length = z2 := hbz.len
       obtain ⟨mb0, mo0, eN, hcN⟩ := hrowN.2 (by simp only; omega)
       simp only at eN hcN
       have hcW : wr.cell? ⟨mb0, mo0 + i, none⟩ = some (.slice z1 Z.length z3) := by
         rw [hcN i (by omega), List.getElem?_map, hzN]; rfl
       have hcnt := cntW_le d.sl i
       have hcs := cntW_step hs'
       obtain ⟨Y, hY⟩ : ∃ Y, Y = (leftS fs (cntW d.sl i) s).1 := ⟨_, rfl⟩
       have hget : d.sl.getD i ([], [], false) = s := by rw [List.getD_eq_getElem?_getD, hs']; rfl
       have hset1 : (leftTo d.sl fs (i + 1)).map (fun s => s.1) = ((leftTo d.sl fs i).map (fun s => s.1)).set i Y := by rw [leftTo_succ, List.map_set, hget, hY]
       have hset2 : (leftTo d.sl fs (i + 1)).map (fun s => s.2.1) = ((leftTo d.sl fs i).map (fun s => s.2.1)).set i Y := by rw [leftTo_succ, List.map_set, hget, hY]; rfl
       have hmS : s ∈ d.sl := List.mem_of_getElem? hs'
       have hXs := HK.out.st.bytes s.1 (List.mem_map.2 ⟨s, hmS, rfl⟩)
       have hZs := HK.out.no.bytes s.2.1 (List.mem_map.2 ⟨s, hmS, rfl⟩)
       have hYB : Bytes Y := by rw [hY]; exact remS_bytes hXs.1 hZs.1 _
       have hYL : Y.length ≤ 1000000000 := by
         have q := remS_len s.1 s.2.1 (fateOf fs (cntW d.sl i) s.2.2)
         have q1 := hXs.2
         have q2 := hZs.2
         rw [hY]
         show (remS s.1 s.2.1 (fateOf fs (cntW d.sl i) s.2.2)).length ≤ _
         omega
       rw [← hX] at hXs
       rw [← hZ] at hZs
       have hYe : Y = remS X Z (fateOf fs (cntW d.sl i) s.2.2) := by rw [hY, hX, hZ]; rfl
       obtain ⟨fr, hfv⟩ : ∃ b, b = s.2.2 := ⟨_, rfl⟩
       rw [← hfv] at hcF
       have HFV := Lib.hid hfv
       clear hfv
       have KC := copyBytes_any y1 X.length y3 X wr hb.bv_
       have HSV := Lib.hid hs'
       have HXX := Lib.hid hX
       have HYE := Lib.hid hYe
       have HYB := Lib.hid (And.intro hYB hYL)
       have HXS := Lib.hid hXs
       have HZS := Lib.hid hZs
       have HS1 := Lib.hid hset1
       have HS2 := Lib.hid hset2
       have HCS := Lib.hid hcs
       have HBZ := Lib.hid hbz
       have HF2 : Hid (wr.heap[w.heap.size + 1]? = some (.cells (fcells keep reset (fa, fn, fc)) FT (0, 0))) := Lib.hid hB.f
       clear hrow hby hlen hy hb hc hc' kfr kst hst2 hfr2 hX hs' L hB hrowN hbyN hlenN hzN hbz hcN kno hZ hcs hY hget hset1 hset2 hmS hXs hZs hYB hYL hYe
       subst e e' eN
       go_wp2_with fail
       (with_reducible refine KC.mono ?_)
       rintro e w5 ⟨a8b, c8b, rfl, o5, b5⟩
       clear KC
       have hcF5 := (b5.cell (p := ⟨fb0, fo0 + i, none⟩) (World.block_lt_of_cell? wr _ hcF)).trans hcF
       have hcW5 := (b5.cell (p := ⟨mb0, mo0 + i, none⟩) (World.block_lt_of_cell? wr _ hcW)).trans hcW
       have LB := hL.out.below b5
       obtain ⟨⟨g0, -, g2, g3, g4, g5, g6, g7, g8⟩, -⟩ := cells9D (by have := LB.bx.a; rw [HRH.out] at this; exact this)
       simp only at g0 g2 g3 g4 g5 g6 g7 g8
       obtain ⟨-, -, ff2⟩ := cells3F LB.bx.f
       simp only at ff2
       have HO5 := Lib.hid o5
       have HB5 := Lib.hid b5
       have HBW5 := Lib.hid LB.bx.bel
       clear m0 m1 m2 m3 m4 m5 m6 m7 m8 f0 f1 f2 hcS hcF hcW o5 b5 LB
       go_upto_if 89 with fail
       go_cut [10, 12] (fun vk vb wx => vk = .int .i64 (cntW d.sl (i + 1) : Nat) ∧ ∃ a8 c8, vb = .slice a8 Y.length c8 ∧ Hid (wx.ownsRow wr.heap.size 5 1 (.slice a8 Y.length c8) Y.length (Y.map bv)) ∧ Hid (Below w5.heap.size w5 wx))
       case first =>
         clear hG
         by_cases hfr : fr = true
         · subst hfr
           have hfr := HFV.out.symm
           have hfl : fs.length = fn := HF.out.length
           have hcs1 : ((cntW d.sl i : Nat) : Int) + 1 = ((cntW d.sl (i + 1) : Nat) : Int) := by have := HCS.out; rw [if_pos hfr] at this; omega
           have HCS1 := Lib.hid hcs1
           clear hcs1
           obtain ⟨f, hfa, hf1, hf2⟩ : ∃ f : Int, fateOf fs (cntW d.sl i) s.2.2 = f ∧ 0 ≤ f ∧ f < 3 := by
             refine ⟨_, rfl, ?_⟩
             unfold fateOf
             split
             · have := Int.lt_tmod_of_pos (fs.getD (cntW d.sl i % fs.length) 0) (b := 3) (by decide)
               rw [Int.tmod_eq_emod_of_nonneg (by omega)]; omega
             · omega
           have HFA := Lib.hid hfa
           have HFL := Lib.hid hfl
           have HFR := Lib.hid hfr
           clear hfa hfl hfr
           go_upto_if 93 with fail
           go_cut [13] (fun v wx => v = .int .i64 f ∧ ∃ m, wx = w5.drewN m)
           case first =>
             by_cases hfn : 0 < fn
             · obtain ⟨fb, fo, efa, hcl⟩ := HF.out.row.2 (by show 0 < fn; exact hfn)
               simp only at efa
               subst efa
               obtain ⟨m, hm⟩ : ∃ m, m = cntW d.sl i % fn := ⟨_, rfl⟩
               have hmf : m < fn := by rw [hm]; exact Nat.mod_lt _ hfn
               have hzc := hcl m hmf
               obtain ⟨z, hz⟩ : ∃ z, z = fs.getD m 0 := ⟨_, rfl⟩
               rw [iv_getD (by rw [HFL.out]; exact hmf), ← hz] at hzc
               have hzl := World.block_lt_of_cell? w ⟨fb, fo + m, none⟩ hzc
               have hz4 := (HBW5.out.cell (p := ⟨fb, fo + m, none⟩) hzl).trans hzc
               obtain ⟨y, hy⟩ : ∃ y, y = z.tmod 3 := ⟨_, rfl⟩
               have hy1 : -3 < y := by rw [hy]; have := Int.lt_tmod_of_pos z (b := 3) (by decide); omega
               have hy2 : y < 3 := by rw [hy]; exact Int.tmod_lt_of_pos z (by decide)
               have hwy : IntKind.i64.wrap y = y := wrap_i64_in y (by omega) (by omega)
               have hwy3 : IntKind.i64.wrap (y + 3) = y + 3 := wrap_i64_in _ (by omega) (by omega)
               have hf' : (y + 3).tmod 3 = f := by have := HFA.out; unfold fateOf at this; rw [HFR.out, if_pos ⟨rfl, by rw [HFL.out]; exact hfn⟩, HFL.out, ← hm, ← hz, ← hy] at this; exact this
               have hwf2 : IntKind.i64.wrap f = f := wrap_i64_in _ (by omega) (by omega)
               have hy' := hy.symm
               have hcf : fn ≤ fc := HF.out.cap
               have hmod : ((cntW d.sl i : Nat) : Int).tmod ((fn : Nat) : Int) = (m : Nat) := by rw [Int.tmod_eq_emod_of_nonneg (by omega), hm]; exact (Int.natCast_emod _ _).symm
               have hfI : ((fn : Nat) : Int) ≠ 0 := by omega
               have hmod2 : ((cntW d.sl i : Nat) : Int) % ((fn : Nat) : Int) = (m : Nat) := by rw [hm]; exact (Int.natCast_emod _ _).symm
               have hb1 : (((fn : Nat) : Int) == 0) = false := beq_eq_false_iff_ne.2 hfI
               have hb2 : (((fn : Nat) : Int) = 0) = False := eq_false hfI
               have hb3 : (fn = 0) = False := eq_false (by omega)
               have hmI : ((m : Nat) : Int) < ((fn : Nat) : Int) := by omega
               have hfpos : (0 : Int) < ((fn : Nat) : Int) := by omega
               have hmc : m ≤ cntW d.sl i := by rw [hm]; exact Nat.mod_le _ _
               have hmw : IntKind.i64.wrap ((m : Nat) : Int) = (m : Nat) := wrap_i64_id _ (by omega) (by omega)
               have HYE2 := Lib.hid hy
               have HM2 := Lib.hid hm
               have HZ2 := Lib.hid hz
               clear hy hm hz hzc hcl
               go_wp2_with fail
               go_quiet (fail)
               go_wp2_with fail
               go_meet
               exact ⟨rfl, nq, rfl⟩
             · have hf0 : (0 : Int) = f := by
                 have := HFA.out
                 unfold fateOf at this
                 rw [if_neg (by rw [HFL.out]; exact fun q => hfn q.2)] at this
                 exact this
               have HF0 := Lib.hid hf0
               have hfnI : ¬ (0 : Int) < (fn : Int) := by omega
               clear hf0
               go_wp2_with fail
               go_meet
               exact ⟨by rw [HF0.out], 0, rfl⟩
           case rest =>
             rename World => wd
             obtain ⟨rfl, m, hwd⟩ := hcut
             have hbd : Below w5.heap.size w5 wd := by rw [hwd]; exact below_drewN (Below.refl _ _) m
             have LB6 := (hL.out.below HB5.out).below hbd
             obtain ⟨⟨-, -, -, -, -, -, q6, -, -⟩, -⟩ := cells9D (by have := LB6.bx.a; rw [HRH.out] at this; exact this)
             simp only at q6
             have hcW6 := (hbd.cell (p := ⟨mb0, mo0 + i, none⟩) (World.block_lt_of_cell? w5 _ hcW5)).trans hcW5
             have HZB := Lib.hid ((HBZ.out.bv_.below HB5.out).below hbd)
             have HXB := Lib.hid (own_ChF HO5.out (ChF.of_below (F := fun _ => False) hbd) (fun _ _ e => e))
             have HBD := Lib.hid hbd
             have hwz : wr.heap.size ≤ wd.heap.size := Nat.le_trans HB5.out.size hbd.size
             have HWZ := Lib.hid hwz
             have hzcap : Z.length ≤ z3 := HZB.out.cap
             obtain ⟨q, hq⟩ : ∃ q, q = Z.length / 2 := ⟨_, rfl⟩
             have hqI : ((Z.length : Nat) : Int) / 2 = ((q : Nat) : Int) := by omega
             have hqz : q ≤ Z.length := by omega
             have HQ := Lib.hid hq
             have hzs := HZS.out.2
             have hxs := HXS.out.2
             clear hwd hbd LB6 hcW5 hcF5 g0 g2 g3 g4 g5 g6 g7 g8 ff2 hwz hq
             rcases (by omega : f = 0 ∨ f = 1 ∨ f = 2) with rfl | rfl | rfl
             · have hYX : Y = X := by have := HYE.out; rw [HFA.out] at this; exact this
               have HYX := Lib.hid hYX
               clear hYX
               go_wp2_with fail
               go_meet
               refine ⟨by rw [HCS1.out], a8b, c8b, ?_⟩
               rw [HYX.out]
               exact ⟨rfl, HXB, HBD⟩
             · have hYZ : Y = Z := by have := HYE.out; rw [HFA.out] at this; exact this
               have HYZ := Lib.hid hYZ
               have KN := copyBytes_any z1 Z.length z3 Z wd HZB.out
               clear hYZ
               go_wp2_with fail
               (with_reducible refine KN.mono ?_)
               rintro e w7 ⟨a8, c8, rfl, o7, b7⟩
               clear KN
               have HO7 := Lib.hid (ownsRow_base o7 HWZ.out)
               have HB7 := Lib.hid (below_trans' HBD.out b7)
               clear o7 b7
               go_wp2_with fail
               go_meet
               refine ⟨by rw [HCS1.out], a8, c8, ?_⟩
               rw [HYZ.out]
               exact ⟨rfl, HO7, HB7⟩
             · have hYR : Y = Z.take q ++ X.drop (min q X.length) := by have := HYE.out; rw [HFA.out] at this; rw [this, HQ.out]; rfl
               have HYR := Lib.hid hYR
               have HXV := Lib.hid (bytesV_of_owns HXB.out HXS.out.1 (by omega))
               have hxc : X.length ≤ c8b := HXV.out.cap
               clear hYR
               go_upto_if 127 with fail
               obtain ⟨wE, hwE⟩ : ∃ x, x = wd.alloc (.cells #[] 5) := ⟨_, rfl⟩
               have hbE : Below wd.heap.size wd wE := by rw [hwE]; exact below_alloc wd _
               rw [← hwE]
               have HBE := Lib.hid hbE
               have hzE : wE.heap.size = wd.heap.size + 1 := by rw [hwE]; simp
               have HZE := Lib.hid hzE
               clear hwE hbE hzE
               go_cut [16] (fun v wx => wE = wx ∧ ∃ ar nr cr, v = .slice ar nr cr ∧ Hid (BytesV wE (ar, nr, cr) (X.drop (min q X.length))))
               case first =>
                 by_cases hqx : q < X.length
                 · have hne : ¬ c8b = q := by omega
                   have hqc : q ≤ c8b := by omega
                   have hqcI : (q : Int) ≤ (c8b : Int) := by omega
                   have hqxI : (q : Int) < (X.length : Int) := by omega
                   have hqxI2 : (q : Int) ≤ (X.length : Int) := by omega
                   obtain ⟨gb, rfl⟩ : ∃ x, a8b = some x := by
                     cases ha : a8b with
                     | none =>
                       have := HXV.out.nil (by simpa using ha)
                       simp only at this
                       omega
                     | some x => exact ⟨x, rfl⟩
                   have HD := Lib.hid ((HXV.out.below HBE.out).dropAt rfl (m := q) (by omega))
                   go_wp2_with fail
                   go_meet
                   refine ⟨rfl, _, _, _, rfl, Lib.hid ?_⟩
                   rw [Nat.min_eq_left (by omega)]
                   exact HD.out
                 · go_wp2_with fail
                   go_meet
                   refine ⟨rfl, _, _, _, rfl, Lib.hid ?_⟩
                   rw [Nat.min_eq_right (by omega), List.drop_length]
                   exact ⟨⟨rfl, fun h => absurd h (by simp)⟩, fun x hx => (nomatch hx), by simp, by simp, fun e => by cases e⟩
               case rest =>
                 obtain ⟨hw, ar, nr, cr, rfl, hR⟩ := hcut
                 subst hw
                 obtain ⟨V, hV⟩ : ∃ V, V = Z.take q := ⟨_, rfl⟩
                 obtain ⟨D, hD⟩ : ∃ D, D = X.drop (min q X.length) := ⟨_, rfl⟩
                 have hYV : Y = V ++ D := by rw [HYR.out, hV, hD]
                 rw [← hD] at hR
                 obtain rfl : D.length = nr := hR.out.length
                 have hDl : D.length ≤ X.length := by rw [hD]; simp
                 have hVl : V.length ≤ Z.length := by rw [hV]; simp; omega
                 have hVq : V.length = q := by rw [hV]; simp; omega
                 have KH := copyBytes_any z1 q z3 V wE (by rw [hV]; exact bytesV_take8 (HZB.out.below HBE.out) hqz)
                 have HYV := Lib.hid hYV
                 have HVQ := Lib.hid hVq
                 have hqzc : (q : Int) ≤ (z3 : Int) := by omega
                 have hqzc2 : q ≤ z3 := by omega
                 have hqz2 : (q : Int) ≤ (Z.length : Int) := by omega
                 obtain ⟨i0, hi, hz0, hz1, hz2⟩ := info_parts Try.info5
                 clear hD hV hYV hVq HYR
                 go_wp2_with fail
                 (with_reducible refine KH.mono ?_)
                 rintro e w7 ⟨a8, c8, rfl, o7, b7⟩
                 clear KH
                 have HRR := Lib.hid (hR.out.below b7)
                 have HO7 := Lib.hid o7
                 have HB7 := Lib.hid b7
                 clear hR o7 b7
                 go_wp2_with (first | (at_builtin; refine wpList_append_row rfl _ _ 28 rfl wE.heap.size 5 i0 (.int .u8 0) 1 Try.underlying28 hi hz0 hz1 hz2 rfl _ _ _ rfl HO7.out ar D.length cr (D.map bv) rfl HRR.out.row HRR.out.nil (bv_one D) (by unfold maxLen; omega) (by omega) HB7.out.size ?_; intro v' w8 hown hgrow hnil1; obtain ⟨a10, c10, rfl, -⟩ := ownsRow_parts hown; have HO8 := Lib.hid hown; have HG8 := Lib.hid hgrow; clear hown hgrow hnil1))
                 go_meet
                 refine ⟨by rw [HCS1.out], a10, c10, ?_⟩
                 rw [HYV.out, List.length_append, List.map_append]
                 exact ⟨rfl, Lib.hid (ownsRow_base HO8.out (by have := HZE.out; have := HWZ.out; omega)), Lib.hid (below_trans' (below_trans' HBD.out HBE.out) (below_grown HB7.out HG8.out (ownBlock_ge HO7.out)))⟩
         · have hfr0 : fr = false := by simpa using hfr
           subst hfr0
           have hfr' : s.2.2 = false := HFV.out.symm
           have hYX : Y = X := by
             have := HYE.out
             rw [hfr'] at this
             exact this
           have hc0 : cntW d.sl i = cntW d.sl (i + 1) := by have := HCS.out; rw [hfr', if_neg (by decide)] at this; omega
           clear hfr hfr'
           have HC0 := Lib.hid hc0
           have HYX := Lib.hid hYX
           clear hc0 hYX
           go_wp2_with fail
           go_meet
           refine ⟨by rw [HC0.out], a8b, c8b, ?_⟩
           rw [HYX.out]
           exact ⟨rfl, HO5, Lib.hid (Below.refl _ _)⟩
       case rest =>
         rename World => w6
         obtain ⟨rfl, a8d, c8d, rfl, o6, b6⟩ := hcut
         have hB56 := below_trans' HB5.out b6.out
         have LB := hL.out.below hB56
         have GB := (hG.out.keep (ChF.of_below (F := fun _ => False) hB56) (fun _ _ e => e)).mono (R' := RowQ (W.heap.size + 2) t OO w6) (fun b q => ⟨q.1, Nat.lt_of_lt_of_le q.2.1 hB56.size, q.2.2⟩)
         obtain ⟨⟨t0, t1, t2, t3, t4, t5, t6, t7, t8⟩, tF⟩ := cells9D (by have := LB.ob; rw [HOO.out] at this; exact this)
         simp only at t0 t1 t2 t3 t4 t5 t6 t7 t8
         have r5 := LB.r5
         rw [HOO.out] at r5
         obtain ⟨hs5, q1, q2, -⟩ := r5.ex
         rw [List.length_map, leftTo_length, ← HN.out] at q1 q2
         replace q1 : w6.ownsRow (W.heap.size + 2) 28 1 (.slice a5 no2 c5) no2 (hs5.map SV) := q1
         have q1z := q1.1
         simp only [List.length_map] at q1z
         obtain ⟨gS, rfl⟩ : ∃ q, a5 = some ⟨q, 0, none⟩ := by
           rcases q1.2 with ⟨_, h⟩ | ⟨g', _, _, h, _⟩
           · omega
           · injection h with h
             exact ⟨g', h⟩
         obtain ⟨yS, hyS⟩ : ∃ y, hs5[i]? = some y := ⟨_, List.getElem?_eq_getElem (by omega)⟩
         have n5 : w6.cell? ⟨gS, i, none⟩ = some (SV yS) := by
           have q := q1.cellAt (g := gS) i (by omega)
           rw [q, List.getElem?_map, hyS]; rfl
         have n5F : w6.frozen? ⟨gS, i, none⟩ = false := by
           rcases q1.2 with ⟨e, _⟩ | ⟨g', cap', cur', e, _, hh, _⟩
           · cases e
           · injection e with e
             injection e with e
             injection e with e
             subst e
             exact frozen_of_row _ _ _ _ _ hh
         have hcc5 : no2 ≤ c5 := by obtain ⟨_, _, e, -, q, -⟩ := ownsRow_parts q1; injection e with _ _ e; rw [e]; exact q
         obtain ⟨yS1, yS2, yS3⟩ := yS
         simp only [SV] at n5
         clear q1 q2 q1z hyS r5
         have hby : ByR w6 (RowQ (W.heap.size + 2) t OO w6) (a8d, Y.length, c8d) Y := .own o6.out HYB.out.1 HYB.out.2 (fun b h1 h2 => hL.out.rowQ b h1 h2)
         have hst : OO.st = (some ⟨gS, 0, none⟩, no2, c5) := by rw [HOO.out]
         have hgb : (SV OO.st).ownBlock = some gS := by rw [hst]; rfl
         have hll : ((leftTo d.sl fs i).map (fun s => s.1)).length = no2 := by rw [List.length_map, leftTo_length]; exact HN.out.symm
         have hl6 : ((leftTo d.sl fs i).map (fun s => s.2.1)).length = no2 := by rw [List.length_map, leftTo_length]; exact HN.out.symm
         have L6 := LB.set5 (y := (a8d, Y.length, c8d)) (l := Y) hst hll.symm (by rw [hll]; exact hlt) hby
         have hset6 : ChF (fun q => q = gS) w6 (w6.setCell ⟨gS, i, none⟩ (.slice a8d Y.length c8d)) := (ChF.refl (fun q => q = gS) w6).set (g := gS) (.inl rfl)
         have hz6 : (w6.setCell ⟨gS, i, none⟩ (.slice a8d Y.length c8d)).heap.size = w6.heap.size := by simp [World.setCell]
         have G6 := (GB.keep hset6 (fun b q e => q.2.2.2.1 (by rw [e]; exact hgb))).mono (R' := RowQ (W.heap.size + 2) t OO (w6.setCell ⟨gS, i, none⟩ (.slice a8d Y.length c8d))) (fun b q => ⟨q.1, by rw [hz6]; exact q.2.1, q.2.2⟩)
         have hby6 := hby.keep hset6 (fun b q e => q.2.2.2.1 (by rw [e]; exact hgb))
         have cdr : ChF (fun _ => False) (w6.setCell ⟨gS, i, none⟩ (.slice a8d Y.length c8d)) (w6.setCell ⟨gS, i, none⟩ (.slice a8d Y.length c8d)).drew := ⟨rfl, rfl, rfl, Nat.le_refl _, fun _ _ _ => rfl⟩
         have KC6 := copyBytes_any a8d Y.length c8d Y _ (hby6.keep cdr (fun _ _ e => e)).bv_
         have r6 := L6.r6
         rw [HOO.out] at r6
         obtain ⟨hs6, q1, q2, -⟩ := r6.ex
         rw [hl6] at q1 q2
         replace q1 : (w6.setCell ⟨gS, i, none⟩ (.slice a8d Y.length c8d)).ownsRow (W.heap.size + 2) 28 1 (.slice a6 no2 c6) no2 (hs6.map SV) := q1
         have q1z := q1.1
         simp only [List.length_map] at q1z
         obtain ⟨gN, rfl⟩ : ∃ q, a6 = some ⟨q, 0, none⟩ := by
           rcases q1.2 with ⟨_, h⟩ | ⟨g', _, _, h, _⟩
           · omega
           · injection h with h
             exact ⟨g', h⟩
         obtain ⟨yN, hyN⟩ : ∃ y, hs6[i]? = some y := ⟨_, List.getElem?_eq_getElem (by omega)⟩
         have n6 : (w6.setCell ⟨gS, i, none⟩ (.slice a8d Y.length c8d)).cell? ⟨gN, i, none⟩ = some (SV yN) := by
           have q := q1.cellAt (g := gN) i (by omega)
           rw [q, List.getElem?_map, hyN]; rfl
         have n6F : (w6.setCell ⟨gS, i, none⟩ (.slice a8d Y.length c8d)).frozen? ⟨gN, i, none⟩ = false := by
           rcases q1.2 with ⟨e, _⟩ | ⟨g', cap', cur', e, _, hh, _⟩
           · cases e
           · injection e with e
             injection e with e
             injection e with e
             subst e
             exact frozen_of_row _ _ _ _ _ hh
         have hcc6 : no2 ≤ c6 := by obtain ⟨_, _, e, -, q, -⟩ := ownsRow_parts q1; injection e with _ _ e; rw [e]; exact q
         obtain ⟨yN1, yN2, yN3⟩ := yN
         simp only [SV] at n6
         have hno : OO.no = (some ⟨gN, 0, none⟩, no2, c6) := by rw [HOO.out]
         have HNO := Lib.hid hno
         have HFINI := Lib.hid (show ∀ w7 a7 c7, w7.ownsRow (w6.setCell ⟨gS, i, none⟩ (.slice a8d Y.length c8d)).heap.size 5 1 (.slice a7 Y.length c7) Y.length (Y.map bv) → Below (w6.setCell ⟨gS, i, none⟩ (.slice a8d Y.length c8d)).heap.size (w6.setCell ⟨gS, i, none⟩ (.slice a8d Y.length c8d)) w7 →
             Hid (LInv w (W.heap.size + 2) t RH (fcells keep reset (fa, fn, fc)) OO ((leftTo d.sl fs (i + 1)).map (fun s => s.1)) ((leftTo d.sl fs (i + 1)).map (fun s => s.2.1)) (w7.setCell ⟨gN, i, none⟩ (.slice a7 Y.length c7))) ∧ Hid (ByR (w7.setCell ⟨gN, i, none⟩ (.slice a7 Y.length c7)) (RowQ (W.heap.size + 2) t OO (w7.setCell ⟨gN, i, none⟩ (.slice a7 Y.length c7))) (a9, lg.length, c9) lg) from fun w7 a7 c7 o7 b7 => by
           have L7 := L6.below b7
           have hby7 : ByR w7 (RowQ (W.heap.size + 2) t OO w7) (a7, Y.length, c7) Y := .own o7 HYB.out.1 HYB.out.2 (fun b h1 h2 => L6.rowQ b h1 h2)
           have G7 := (G6.keep (ChF.of_below (F := fun _ => False) b7) (fun _ _ e => e)).mono (R' := RowQ (W.heap.size + 2) t OO w7) (fun b q => ⟨q.1, Nat.lt_of_lt_of_le q.2.1 b7.size, q.2.2⟩)
           have L8 := L7.set6 (y := (a7, Y.length, c7)) (l := Y) hno hl6.symm (by rw [hl6]; exact hlt) hby7
           have hset8 : ChF (fun q => q = gN) w7 (w7.setCell ⟨gN, i, none⟩ (.slice a7 Y.length c7)) := (ChF.refl (fun q => q = gN) w7).set (g := gN) (.inl rfl)
           have hgn : (SV OO.no).ownBlock = some gN := by rw [hno]; rfl
           have hz8 : (w7.setCell ⟨gN, i, none⟩ (.slice a7 Y.length c7)).heap.size = w7.heap.size := by simp [World.setCell]
           have G8 := (G7.keep hset8 (fun b q e => q.2.2.2.2.1 (by rw [e]; exact hgn))).mono (R' := RowQ (W.heap.size + 2) t OO (w7.setCell ⟨gN, i, none⟩ (.slice a7 Y.length c7))) (fun b q => ⟨q.1, by rw [hz8]; exact q.2.1, q.2.2⟩)
           rw [HS1.out, HS2.out]
           exact ⟨Lib.hid L8, Lib.hid G8⟩)
         obtain ⟨⟨-, -, -, -, -, -, u6, -, -⟩, -⟩ := cells9D (by have := L6.ob; rw [HOO.out] at this; exact this)
         simp only [SV] at u6
         have KC6' := Lib.hid KC6
         clear q1 q2 q1z hyN r6 L6 hby6 hset6 hby hst hgb hll hl6 hno LB GB G6 hz6 KC6 hB56 hcF5 hcW5 g0 g2 g3 g4 g5 g6 g7 g8 ff2
         go_wp2_with fail
         go_region_law
           (first
             | ((rw [if_pos (by rfl)]); go_simp; (with_reducible refine KC6'.out.mono ?_); rintro e w7 ⟨a7b, c7b, rfl, o7, b7⟩; have t6' := (b7.cell (p := ⟨gN, i, none⟩) (World.block_lt_of_cell? _ _ n6)).trans n6; have t6F : w7.frozen? ⟨gN, i, none⟩ = false := (World.frozen?_of_block (w := w6.setCell ⟨gS, i, none⟩ (.slice a8d Y.length c8d)) (w' := w7) (a := ⟨gN, i, none⟩) (b7.block gN (World.block_lt_of_cell? _ _ n6))).trans n6F; have u6' := (b7.cell (p := ⟨t, 6, none⟩) (World.block_lt_of_cell? _ _ u6)).trans u6; have HEND := HFINI.out w7 a7b c7b o7 ⟨b7.os, b7.tape, b7.output, b7.size, b7.block⟩; clear o7 b7; dsimp only))
         all_goals
           go_wp2_with fail
           exact ⟨⟨i + 1, hlt, by go_num, rfl, HEND.1, HEND.2⟩, by simp only [intOf]; omega⟩
     · have hltI : ¬ (i : Int) < (no2 : Int) := by omega
       obtain rfl : i = no2 := by omega
       have L := hL.out
       have hB := L.bx
       obtain ⟨⟨m0, m1, m2, m3, m4, m5, m6, m7, m8⟩, -⟩ := cells9D (by have := hB.a; rw [HRH.out] at this; exact this)
       simp only at m0 m1 m2 m3 m4 m5 m6 m7 m8
       obtain ⟨⟨t0, t1, t2, t3, t4, t5, t6, t7, t8⟩, tF⟩ := cells9D (by have := L.ob; rw [HOO.out] at this; exact this)
       simp only at t0 t1 t2 t3 t4 t5 t6 t7 t8
       clear L
       go_wp2_with (first | ((with_reducible show wpList _ _ _ (⟨_, Op.store RT _ _, _, _, _, _⟩ :: _) _ _); refine Hid.out ?_))
       refine Lib.hid ?_
       refine wpList_store_row rfl RT _ _ rfl (w.heap.size + 2) (RefH.mk pw (a9, lg.length, c9) false nH nH (a5, i, c5) (a6, i, c6) (a7, i, c7) true).cells rfl rfl RT _ hB.r (by kernel_rfl) rfl (RefH.one _) ?_
       clear m0 m1 m2 m3 m4 m5 m6 m7 m8 t0 t1 t2 t3 t4 t5 t6 t7 t8 tF
       go_wp2
       have L := hL.out
       have cR : ChF (fun b => b = w.heap.size + 2) wr (wr.setRow (w.heap.size + 2) (RefH.mk pw (a9, lg.length, c9) false nH nH (a5, i, c5) (a6, i, c6) (a7, i, c7) true).cells) := chF_setRow (F := fun b => b = w.heap.size + 2) rfl _
       have hz : (wr.setRow (w.heap.size + 2) (RefH.mk pw (a9, lg.length, c9) false nH nH (a5, i, c5) (a6, i, c6) (a7, i, c7) true).cells).heap.size = wr.heap.size := by simp
       refine bodyPost_ret (results_cell_row rfl _ _ (w.heap.size + 2) RT _ (0, 0) _ rfl (setRow_same hB.r) Try.underlying32 rfl (by kernel_rfl)) rfl ⟨⟨pw, (a9, lg.length, c9), false, nH, nH, (a5, i, c5), (a6, i, c6), (a7, i, c7), true⟩, rfl, ?_, L.bx.bel.trans (cR.below (B := w.heap.size) (fun b e => by omega) L.bx.bel.size)⟩
       have hm : ∀ b, RowQ (W.heap.size + 2) t OO wr b → b ≠ w.heap.size + 2 := fun b q e => by have := q.1; have := L.BB; omega
       have LB := L.BB
       have k5 := L.r5.keep cR (fun b e1 e2 => by obtain ⟨_, o, -⟩ := L.r5.ex; have := (o.lt b e1).1; omega) hm
       have k6 := L.r6.keep cR (fun b e1 e2 => by obtain ⟨_, o, -⟩ := L.r6.ex; have := (o.lt b e1).1; omega) hm
       have k7 := own_ChF L.o7 cR (fun b e1 e2 => by have := (L.o7.lt b e1).1; omega)
       have kg := (hG.out.keep cR hm).mono (R' := fun b => w.heap.size ≤ b ∧ b < (wr.setRow (w.heap.size + 2) (RefH.mk pw (a9, lg.length, c9) false nH nH (a5, i, c5) (a6, i, c6) (a7, i, c7) true).cells).heap.size) (fun b q => ⟨by have := q.1; omega, by rw [hz]; exact q.2.1⟩)
       have hln : (leftTo d.sl fs i).length = i := by rw [leftTo_length]; exact HN.out.symm
       have hR : ∀ b, W.heap.size + 2 ≤ b → b < (wr.setRow (w.heap.size + 2) (RefH.mk pw (a9, lg.length, c9) false nH nH (a5, i, c5) (a6, i, c6) (a7, i, c7) true).cells).heap.size → w.heap.size ≤ b ∧ b < (wr.setRow (w.heap.size + 2) (RefH.mk pw (a9, lg.length, c9) false nH nH (a5, i, c5) (a6, i, c6) (a7, i, c7) true).cells).heap.size := fun b q1 q2 => ⟨by omega, q2⟩
       rw [HOO.out] at k5 k6 k7
       have ev : leftV d keep reset fs pw = { pow := pw, safe := lg, read := lg, base := lg.length, laid := false, sl := leftTo d.sl fs i } := by unfold leftV; rw [← HLG.out, ← HN.out]
       rw [ev]
       refine ⟨rfl, rfl, kg, ⟨[], [], .empty _ _, .empty _ _, by simp, by simp⟩, k5.rows (by rw [List.length_map, hln]) hR, k6.rows (by rw [List.length_map, hln]) hR, ?_, ?_, fun b q => q.2⟩
       · rw [leftTo_bools, ← HN.out]
         rw [List.length_map, hln] at k7
         exact .own k7 hR
       · exact fun s hs _ => (leftTo_plain d.sl fs i s hs).2
end Go.Proofs.Ytdidalcflkphnaa
