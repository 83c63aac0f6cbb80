/-
  chunk: Split, and where the rows lie.
-/
import Derived.Test.YtfjcbgfgiidogaaDoorMCh2
namespace Go.Proofs.YtfjcbgfgiidogaaDoor
open Go.RowKit

theorem OwnD.rebase {w : World} {B B' g n c : Nat} {hs : List HdT} {ls : List (List Nat)} (h : OwnD w B g n c hs ls) (hb : B' ≤ B) : OwnD w B' g n c hs ls := by
  obtain ⟨h1, h2, h3, h4⟩ := h
  exact ⟨ownsRow_base h1 hb, ⟨h2.1, fun i x l a b => ⟨(h2.2 i x l a b).1, ownsRow_base (h2.2 i x l a b).2 hb⟩⟩, h3, h4⟩
/-- the first blocks, each in a stretch of its own. -/
def St (v : List Nat) (T n : Nat) (w : World) (g : Nat) (hs : List HdT) (M : Nat → Nat) (i : Nat) : Prop :=
  g < M 0 ∧ M i ≤ w.heap.size ∧ (∀ k, k < i → M k ≤ M (k + 1)) ∧ ∀ k, k < i → ∃ gk ck hh, hs[k]? = some (some ⟨gk, 0, none⟩, chK n k, ck) ∧ OwnD w (M k) gk (chK n k) ck hh (blockL v T n k) ∧ gk < M (k + 1) ∧ ∀ y ∈ hh, ∀ q, (SV y).ownBlock = some q → q < M (k + 1)
theorem up_le {M : Nat → Nat} {i : Nat} (h : ∀ k, k < i → M k ≤ M (k + 1)) : ∀ d k, k + d ≤ i → M k ≤ M (k + d)
  | 0, k, _ => Nat.le_refl _
  | d + 1, k, hk => Nat.le_trans (up_le h d k (by omega)) (h (k + d) (by omega))
theorem st_next {v : List Nat} {T n : Nat} {w w' : World} {g : Nat} {hs hh : List HdT} {M : Nat → Nat} {i j : Nat} {bl : List (List Nat)} (h : St v T n w g hs M i) (hD : OwnD w' w.heap.size w.heap.size j j hh bl) (hbl : bl = blockL v T n i) (hk : j = chK n i) (hG : w.grownBy w' (some g)) (hr : ∀ q, some g = some q → ∃ cs T fr, w.heap[q]? = some (.cells cs T fr) ∧ T ≠ 5 ∧ T ≠ 22) (hi : i < hs.length) :
    St v T n w' g (hs.set i (some ⟨w.heap.size, 0, none⟩, j, j)) (fun k => if k ≤ i then M k else w'.heap.size) (i + 1) := by
  obtain ⟨h1, h2, h3, h4⟩ := h
  have hsz := hG.size
  refine ⟨by simpa using h1, by (show (if i + 1 ≤ i then M (i + 1) else w'.heap.size) ≤ _); rw [if_neg (by omega)]; exact Nat.le_refl _, fun k hk' => ?_, fun k hk' => ?_⟩
  · simp only
    rw [if_pos (by omega)]
    by_cases e : k + 1 ≤ i
    · rw [if_pos e]; exact h3 k (by omega)
    · rw [if_neg e]
      obtain rfl : k = i := by omega
      omega
  · simp only
    rw [if_pos (by omega)]
    by_cases e : k < i
    · obtain ⟨gk, ck, hhk, q1, q2, q3, q4⟩ := h4 k e
      refine ⟨gk, ck, hhk, by rw [List.getElem?_set, if_neg (by omega)]; exact q1, q2.keepB hG hr, ?_, ?_⟩
      · rw [if_pos (by omega)]; exact q3
      · rw [if_pos (by omega)]; exact q4
    · obtain rfl : k = i := by omega
      subst hbl
      refine ⟨w.heap.size, j, hh, by rw [List.getElem?_set, if_pos rfl, if_pos hi, ← hk], ?_, ?_, ?_⟩
      · rw [← hk]; exact hD.rebase h2
      · rw [if_neg (by omega)]
        exact (hD.1.lt _ rfl).2
      · rw [if_neg (by omega)]
        intro y hy q hq
        obtain ⟨x, hx⟩ := List.getElem?_of_mem hy
        have hxl : x < (blockL v T n k).length := by rw [← hD.2.1.1]; exact (List.getElem?_eq_some_iff.1 hx).1
        exact ((hD.2.1.2 x y _ hx (List.getElem?_eq_getElem hxl)).2.lt q hq).2
set_option maxRecDepth 100000 in
set_option maxHeartbeats 8000000 in
theorem split_st (va : Option Addr) (vn vc : Nat) (v : List Nat) (t : Int) (w : World) (hv : BytesV w (va, vn, vc) v) (hc : sizeC (vn : Int) t = 0) : Calls Tryd.prog 19 #[.slice va vn vc, .int .i64 t] w fun e w' => ∃ (g c : Nat) (hs : List HdT) (M : Nat → Nat), e = .returned (.tuple #[.slice (some ⟨g, 0, none⟩) (chZ (chN vn t.toNat)) c, .int .i64 0]) ∧ hs.length = chZ (chN vn t.toNat) ∧ w'.ownsRow w.heap.size 35 1 (.slice (some ⟨g, 0, none⟩) (chZ (chN vn t.toNat)) c) (chZ (chN vn t.toNat)) (hs.map SV) ∧ St v t.toNat (chN vn t.toNat) w' g hs M (chZ (chN vn t.toNat)) ∧ Below w.heap.size w w' := by
  obtain ⟨i0, hi, hz0, hz1, hz2⟩ := info_parts binfo
  obtain ⟨j0, hj, hy0, hy1, hy2⟩ := info_parts Tryd.info5
  obtain ⟨k0, hk, hx0, hx1, hx2⟩ := info_parts Tryd.info22
  have hvl : v.length = vn := hv.length
  have KP := parts_any (vn : Int) t w
  unfold partsR at KP
  rw [if_pos hc] at KP
  obtain ⟨g1, g2⟩ := sizeC_zero.1 hc
  obtain ⟨s1, s2⟩ := okS_iff.1 g1
  obtain ⟨t1, t2⟩ := okT_iff.1 g2
  clear hc g1 g2
  obtain ⟨T, rfl⟩ : ∃ T : Nat, t = (T : Nat) := ⟨t.toNat, by omega⟩
  rw [Int.toNat_natCast] at KP ⊢
  rw [Int.toNat_natCast] at KP
  obtain ⟨n1, n2, -, -⟩ := chN_facts (size := vn) (t := T) (by omega) (by omega) (by omega)
  obtain ⟨n, hn⟩ : ∃ n, n = chN vn T := ⟨_, rfl⟩
  rw [← hn] at n1 n2 KP ⊢
  clear hn
  obtain ⟨z1, z2, -, -, z3⟩ := chZ_facts n1 n2
  have HK := Lib.hid (fun i (h : i < chZ n) => chK_facts n1 n2 h)
  have HS := Lib.hid (chS_succ n)
  have HS0 := Lib.hid (chS_zero n)
  have HRE := Lib.hid (fun i => rowsTo_end v T n i)
  have hPL : (partsL n).length = chZ n := partsL_length n
  have HPK : Hid (∀ i, i < chZ n → ((partsL n).map nv')[i]? = some (.int .i64 ((chK n i : Nat) : Int))) := Lib.hid (fun i h => by
    unfold partsL
    rw [List.map_map, List.getElem?_map, List.getElem?_range h]
    rfl)
  have HV := Lib.hid hv
  have HVL := Lib.hid hvl
  have hVB := Lib.hid hv.bytes
  clear hv hvl
  unfold GivesN at KP
  simp only at KP
  rw [hPL] at KP
  clear hPL
  obtain ⟨z, hz⟩ : ∃ z, z = chZ n := ⟨_, rfl⟩
  rw [← hz] at z1 z2 z3 HK HPK KP ⊢
  clear hz
  obtain ⟨PL, hPLd⟩ : ∃ P, P = partsL n := ⟨_, rfl⟩
  rw [← hPLd] at KP HPK
  clear hPLd
  go_enter Tryd.func19, Tryd.ntmps19
  go_wp2_with fail
  (with_reducible refine KP.mono ?_)
  rintro e w1 ⟨a1, c1, rfl, o1, b1⟩
  clear KP
  obtain ⟨q1, rfl⟩ := own_some o1 z1
  have HO1 := Lib.hid o1
  have HB1 := Lib.hid b1
  have hs1 := b1.size
  clear o1 b1
  go_wp2_with (first | (at_make; refine Hid.out ?_))
  refine Lib.hid ?_
  refine wpList_make_full _ rfl _ _ 30 rfl w.heap.size 35 i0 (.slice none 0 0) 1 Tryd.underlying30 hi hz0 hz1 _ _ _ _ z rfl rfl rfl rfl (by rw [hz2]; omega) (by unfold maxLen; omega) hs1 ?_
  intro w2 hown2 hgrow2
  rw [show (Value.slice none 0 0).cells = #[.slice none 0 0] from rfl, Nat.mul_one, toList_madeCells_one] at hown2
  have hg2 : w1.heap.size < w2.heap.size := (hown2.lt _ rfl).2
  have HD : Hid ((List.replicate z ((none, 0, 0) : HdT)).length = z ∧ w2.ownsRow w.heap.size 35 1 (.slice (some ⟨w1.heap.size, 0, none⟩) z z) z ((List.replicate z ((none, 0, 0) : HdT)).map SV) ∧ St v T n w2 w1.heap.size (List.replicate z ((none, 0, 0) : HdT)) (fun _ => w2.heap.size) 0) := Lib.hid ⟨by simp, by rw [List.map_replicate]; exact hown2, hg2, Nat.le_refl _, fun k h => absurd h (Nat.not_lt_zero _), fun k h => absurd h (Nat.not_lt_zero _)⟩
  have hb2 : Below w1.heap.size w1 w2 := ⟨hgrow2.os, hgrow2.tape, hgrow2.output, hgrow2.size, fun i hi => hgrow2.block i hi (by simp)⟩
  have HB2 := Lib.hid hb2
  obtain ⟨b, off, e, -⟩ := HV.out.row.2 (show 0 < vn by omega)
  simp only at e
  subst e
  have HV0 : Hid (BytesV w (some ⟨b, off, none⟩, vn, vc) (v.drop (chS n 0 * T))) := Lib.hid (by rw [HS0.out, Nat.zero_mul, List.drop_zero]; exact HV.out)
  clear hown2 hgrow2 hb2 hg2
  go_wp2_with fail
  go_loopw [0, 28] (fun v0 vi wr => ∃ (i b off vn vc : Nat) (hs : List HdT) (M : Nat → Nat), i ≤ z ∧ v0 = .slice (some ⟨b, off, none⟩) vn vc ∧ vi = .int .i64 (i : Nat) ∧ Hid (BytesV w (some ⟨b, off, none⟩, vn, vc) (v.drop (chS n i * T))) ∧ Hid (hs.length = z ∧ wr.ownsRow w.heap.size 35 1 (.slice (some ⟨w1.heap.size, 0, none⟩) z z) z (hs.map SV) ∧ St v T n wr w1.heap.size hs M i) ∧ Hid (Below w1.heap.size w1 wr)) (fun _ vi _ => (z - intOf vi).toNat)
  case atStart => exact ⟨0, b, off, vn, vc, _, _, Nat.zero_le _, rfl, rfl, HV0, HD, HB2⟩
  case round =>
    clear HV0 HD HB2
    obtain ⟨i, b, off, vn, vc, hs, M, hi, rfl, rfl, hV, hD, hB⟩ := hrel
    obtain ⟨wo, hwo⟩ : ∃ x, x = wr := ⟨_, rfl⟩
    subst hwo
    by_cases hlt : i < z
    · obtain ⟨k1, k2, -, -⟩ := HK.out i hlt
      have hck : wo.cell? ⟨q1, i, none⟩ = some (.int .i64 ((chK n i : Nat) : Int)) := cell_below ((HO1.out.cellAt i (by omega)).trans (HPK.out i hlt)) hB.out
      have hsucc := HS.out i
      have hre := HRE.out i
      obtain ⟨k, hkd⟩ : ∃ k, k = chK n i := ⟨_, rfl⟩
      obtain ⟨s, hsd⟩ : ∃ s, s = chS n i := ⟨_, rfl⟩
      obtain ⟨s', hsd'⟩ : ∃ s, s = chS n (i + 1) := ⟨_, rfl⟩
      obtain ⟨bl, hbl⟩ : ∃ b, b = blockL v T n i := ⟨_, rfl⟩
      rw [← hkd] at k1 k2 hck hsucc hre
      rw [← hsd] at hV hsucc hre
      rw [← hsd'] at hsucc
      rw [← hbl] at hre
      have HRE' := Lib.hid hre
      have HSD := Lib.hid hsd'
      have hR0 : rowsTo v T s k 0 = List.replicate k [] := by simp [rowsTo]
      have HR0 := Lib.hid hR0
      obtain ⟨hD2, hD1, hD3⟩ := hD.out
      have HDD := hD
      have HKD := Lib.hid hkd
      have HBLD := Lib.hid hbl
      have hsz := hB.out.size
      have hwz : w.heap.size ≤ wo.heap.size := Nat.le_trans hs1 hsz
      have hg0 : w1.heap.size < wo.heap.size := (hD1.lt _ rfl).2
      clear hkd hsd hsd' hbl hre hR0 hD hD1 hD2 hD3
      go_wp2_with (first | (at_make; refine Hid.out ?_))
      refine Lib.hid ?_
      refine wpList_make_full _ rfl _ _ 35 rfl wo.heap.size 22 k0 (.slice none 0 0) 1 Tryd.underlying35 hk hx0 hx1 _ _ _ _ k rfl rfl rfl rfl (by rw [hx2]; omega) (by unfold maxLen; omega) (Nat.le_refl _) ?_
      intro w3 hown3 hgrow3
      rw [show (Value.slice none 0 0).cells = #[.slice none 0 0] from rfl, Nat.mul_one, toList_madeCells_one] at hown3
      have hR := OwnD.made hown3
      rw [← HR0.out] at hR
      have b3 : Below wo.heap.size wo w3 := ⟨hgrow3.os, hgrow3.tape, hgrow3.output, hgrow3.size, fun i hi => hgrow3.block i hi (by simp)⟩
      obtain ⟨hD2, hD1, hD3⟩ := HDD.out
      have hD1' := hD1.kept (grownBy_of_below b3 none) (by simp [Value.ownBlock])
      obtain ⟨v3, c3, f3⟩ : ∃ v, w3.cell? ⟨w1.heap.size, i, none⟩ = some v ∧ w3.frozen? ⟨w1.heap.size, i, none⟩ = false := by
        have h := hD1'.cellAt i (by omega)
        rw [List.getElem?_eq_getElem (by rw [hD1'.1]; omega)] at h
        exact ⟨_, h, hD1'.frozenAt i⟩
      have o4 := own_set' hD1' i (SV (some ⟨wo.heap.size, 0, none⟩, k, k))
      rw [← List.map_set] at o4
      have r4 := hR.keepB (grown_set4 w3 w1.heap.size i (SV (some ⟨wo.heap.size, 0, none⟩, k, k))) (fun q hq => own_rowB hD1' q (by injection hq with hq; subst hq; rfl))
      have g4 : wo.grownBy (w3.setCell ⟨w1.heap.size, i, none⟩ (SV (some ⟨wo.heap.size, 0, none⟩, k, k))) (some w1.heap.size) := grownBy_trans (grownBy_of_below b3 _) (grown_set4 _ _ _ _)
      have b4 : Below w1.heap.size w1 (w3.setCell ⟨w1.heap.size, i, none⟩ (SV (some ⟨wo.heap.size, 0, none⟩, k, k))) := (hB.out.trans (b3.mono hsz)).setCell (p := ⟨w1.heap.size, i, none⟩) (Nat.le_refl _) _
      have c4 : (w3.setCell ⟨w1.heap.size, i, none⟩ (.slice (some ⟨wo.heap.size, 0, none⟩) k k)).cell? ⟨w1.heap.size, i, none⟩ = some (.slice (some ⟨wo.heap.size, 0, none⟩) k k) := by
        have h := o4.cellAt i (by omega)
        rw [List.getElem?_map, List.getElem?_set, if_pos rfl, if_pos (by rw [hD2]; exact hlt)] at h
        exact h
      have O4 := Lib.hid o4
      have R4 := Lib.hid r4
      have G4 := Lib.hid g4
      have B4 := Lib.hid b4
      clear hD1 hD2 hD3 hD1' hR hown3 hgrow3 b3 o4 r4 g4 b4 hB
      have HV4 : Hid (BytesV w (some ⟨b, off, none⟩, vn, vc) (v.drop ((s + 0) * T))) := hV
      go_wp2_with fail
      go_loopw [0, 43] (fun v0 vj wq => ∃ (j b off vn vc : Nat) (hs2 : List HdT), j ≤ k ∧ v0 = .slice (some ⟨b, off, none⟩) vn vc ∧ vj = .int .i64 (j : Nat) ∧ Hid (BytesV w (some ⟨b, off, none⟩, vn, vc) (v.drop ((s + j) * T))) ∧ Hid (OwnD wq wo.heap.size wo.heap.size k k hs2 (rowsTo v T s k j)) ∧ Hid (wq.ownsRow w.heap.size 35 1 (.slice (some ⟨w1.heap.size, 0, none⟩) z z) z ((hs.set i (some ⟨wo.heap.size, 0, none⟩, k, k)).map SV)) ∧ Hid (wo.grownBy wq (some w1.heap.size)) ∧ Hid (Below w1.heap.size w1 wq)) (fun _ vj _ => (k - intOf vj).toNat)
      case atStart => exact ⟨0, b, off, vn, vc, _, Nat.zero_le _, rfl, rfl, HV4, R4, O4, G4, B4⟩
      case round =>
        clear HV4 R4 O4 G4 B4 hV c4 c3 f3
        obtain ⟨j, b, off, vn, vc, hs2, hj', rfl, rfl, hV, hR, hO, hG, hB⟩ := hrel
        by_cases hlt2 : j < k
        · have hbw := HB1.out.trans (hB.out.mono hs1)
          have hwq := hG.out.size
          go_wp2_with (first | (at_make; refine Hid.out ?_))
          refine Lib.hid ?_
          refine wpList_make_full _ rfl _ _ 22 rfl wo.heap.size 5 j0 (.int .u8 0) 1 Tryd.underlying22 hj hy0 hy1 _ _ _ _ T rfl rfl rfl rfl (by rw [hy2]; omega) (by unfold maxLen; omega) hwq ?_
          intro w5 hown5 hgrow5
          rw [show (Value.int .u8 0).cells = #[.int .u8 0] from rfl, Nat.mul_one, toList_madeCells_one, ← bv_zs] at hown5
          have hfull := own_full hown5
          have b5 : Below wr.heap.size wr w5 := ⟨hgrow5.os, hgrow5.tape, hgrow5.output, hgrow5.size, fun i hi => hgrow5.block i hi (by simp)⟩
          have hV5 := (hV.out.below hbw).below b5
          obtain ⟨u, hu⟩ : ∃ u, u = v.drop ((s + j) * T) := ⟨_, rfl⟩
          obtain ⟨cs, hcs⟩ : ∃ c, c = (u.take T).map bv := ⟨_, rfl⟩
          obtain ⟨cur, hcur⟩ : ∃ c, c = (zs T).map bv := ⟨_, rfl⟩
          rw [← hu] at hV5
          rw [← hcur] at hfull
          have hul : u.length = vn := hV5.length
          have hcl : cs.length = Nat.min vn T := by rw [hcs, List.length_map, List.length_take, hul, Nat.min_comm]
          have hcurl : cur.length = T := by rw [hcur, List.length_map, zs_length]
          have hcT : cs.length ≤ T := by rw [hcl]; exact Nat.min_le_right _ _
          have hcv : cs.length ≤ vn := by rw [hcl]; exact Nat.min_le_left _ _
          have HCS := Lib.hid hcs
          have HCU := Lib.hid hcur
          have HU := Lib.hid hu
          have HFULL := Lib.hid hfull
          have HV5 := Lib.hid hV5
          have HB5 := Lib.hid b5
          clear hown5 hgrow5 hfull b5 hV5 hu hcs hcur
          go_wp2_with (first | ((with_reducible show wpList _ _ _ (⟨some 51, _, _, _, _, _⟩ :: _) _ _); refine Hid.out ?_))
          refine Lib.hid ?_
          refine wpList_copy_splice rfl (.tmp 49) (.tmp 50) 22 22 rfl 5 Tryd.underlying22 (by rw [hj]; simp [hy1]) (some ⟨wr.heap.size, 0, none⟩) (some ⟨b, off, none⟩) T T vn vc (by rfl) (by rfl) wr.heap.size 0 cur 5 HFULL.out cs hcl ?hpos (by omega) ?hone wr.heap.size wr HB5.out (Nat.le_refl _) ?_
          case hpos =>
            intro h0
            obtain ⟨b', off', e, hc⟩ := HV5.out.row.2 (show 0 < vn by omega)
            refine ⟨rfl, _, rfl, fun m x hx => ?_⟩
            injection e with e
            injection e with e1 e2
            subst e1 e2
            rw [HCS.out, List.map_take, List.getElem?_take] at hx
            split at hx
            · have hm := (List.getElem?_eq_some_iff.1 hx).1
              rw [List.length_map, hul] at hm
              exact (show w5.cell? ((⟨b, off, none⟩ : Addr).add m) = _ by rw [addr_add0]; exact hc m hm).trans hx
            · cases hx
          case hone => rw [HCS.out]; exact bv_one _
          intro w6 hG6 hb6
          have hsp : splice cur 0 cs = (symOf v T (s + j)).map bv := by rw [HCU.out, HCS.out, splice_sym, HU.out]; rfl
          have hsl := symOf_length v T (s + j)
          have hsb := symOf_bytes (hVB.out) T (s + j)
          have hG6' := hG6.out
          rw [hsp] at hG6'
          have o6 := own_fill (B := wo.heap.size) (n := T) hG6' hwq (by rw [List.length_map]; exact hsl) (by unfold maxLen; omega)
          have hR6 := hR.out.below hb6
          have hO6 := hO.out.kept (grownBy_of_below hb6 none) (by simp [Value.ownBlock])
          have hg6 := grown_below hG.out hb6
          have hB6 := hB.out.trans (hb6.mono hB.out.size)
          have hV' := hV.out.dropped hcv
          rw [show cs.length = ((v.drop ((s + j) * T)).take T).length by rw [HCS.out, List.length_map, HU.out], drop_sym, show s + j + 1 = s + (j + 1) by omega] at hV'
          rw [show ((v.drop ((s + j) * T)).take T).length = cs.length by rw [HCS.out, List.length_map, HU.out]] at hV'
          generalize cs.length = m at hcT hcv hV' ⊢
          clear hcl
          have hcap : vn ≤ vc := hV.out.cap
          have cO : w6.cell? ⟨w1.heap.size, i, none⟩ = some (.slice (some ⟨wo.heap.size, 0, none⟩) k k) := by
            have h := hO6.cellAt i (by omega)
            rw [List.getElem?_map, List.getElem?_set, if_pos rfl, if_pos (by have := HDD.out.1; omega)] at h
            exact h
          obtain ⟨v6, c6, f6⟩ : ∃ v, w6.cell? ⟨wo.heap.size, j, none⟩ = some v ∧ w6.frozen? ⟨wo.heap.size, j, none⟩ = false := by
            have h := hR6.1.cellAt j (by omega)
            rw [List.getElem?_eq_getElem (by rw [hR6.1.1]; omega)] at h
            exact ⟨_, h, hR6.1.frozenAt j⟩
          have hR7 := hR6.fresh (i := j) (x := (some ⟨wr.heap.size, 0, none⟩, T, T)) (l := symOf v T (s + j)) (by rw [hsl]; exact o6) hsl.symm ⟨hsb, by rw [hsl]; omega⟩ (fun q y hy => by
            right
            intro e
            have hjl : q < (rowsTo v T s k j).length := by rw [← hR6.2.1.1]; exact (List.getElem?_eq_some_iff.1 hy).1
            have := (hR.out.2.1.2 q y _ hy (List.getElem?_eq_getElem hjl)).2.lt wr.heap.size (by unfold SV; rw [e]; rfl)
            omega)
          rw [rowsTo_step hlt2] at hR7
          have hO7 := hO6.kept (grown_set4 w6 wo.heap.size j (SV (some ⟨wr.heap.size, 0, none⟩, T, T))) (by have := own_ne hO6 hR6.1 (by decide); simpa [Value.ownBlock] using this)
          have hg7 := grown_fresh hg6 (Nat.le_refl _) j (SV (some ⟨wr.heap.size, 0, none⟩, T, T))
          have hB7 := hB6.setCell (p := ⟨wo.heap.size, j, none⟩) (Nat.le_of_lt hg0) (SV (some ⟨wr.heap.size, 0, none⟩, T, T))
          have HR7 := Lib.hid hR7
          have HO7 := Lib.hid hO7
          have HG7 := Lib.hid hg7
          have HB7 := Lib.hid hB7
          have HV' := Lib.hid hV'
          clear hR7 hO7 hg7 hB7 hV' hR6 hO6 hg6 hB6 o6 hG6 hG6' hsp hsl hsb hb6 HFULL HV5 HB5 HCS HCU HU hul hcurl hR hO hG hB hbw hV
          by_cases hmc : m = vc
          · have hnil : v.drop ((s + (j + 1)) * T) = [] := List.eq_nil_of_length_eq_zero (by have := HV'.out.length; simp only at this; omega)
            have HNIL := Lib.hid hnil
            clear hnil
            go_wp2
            go_roundw
            case rel => exact ⟨j + 1, b, off, 0, 0, _, by omega, by go_num, by go_num, Lib.hid (by rw [HNIL.out]; exact bytesV_nil0 _ _ (by simp)), HR7, HO7, HG7, HB7⟩
            case measure => simp [intOf] <;> omega
          · have hmc' : ¬ vc = m := fun e => hmc e.symm
            go_wp2
            go_roundw
            case rel => exact ⟨j + 1, b, off + m, vn - m, vc - m, _, by omega, rfl, by go_num, HV', HR7, HO7, HG7, HB7⟩
            case measure => simp [intOf] <;> omega
        · obtain rfl : j = k := by omega
          have hR' := hR.out
          have hre := HRE'.out
          rw [hre] at hR'
          have hst : St v T n wr w1.heap.size (hs.set i (some ⟨wo.heap.size, 0, none⟩, j, j)) (fun k => if k ≤ i then M k else wr.heap.size) (i + 1) := st_next HDD.out.2.2 hR' HBLD.out HKD.out hG.out (fun q hq => own_rowB HDD.out.2.1 q (by injection hq with hq; subst hq; rfl)) (by rw [HDD.out.1]; exact hlt)
          have HD' : Hid ((hs.set i (some ⟨wo.heap.size, 0, none⟩, j, j)).length = z ∧ wr.ownsRow w.heap.size 35 1 (.slice (some ⟨w1.heap.size, 0, none⟩) z z) z ((hs.set i (some ⟨wo.heap.size, 0, none⟩, j, j)).map SV) ∧ St v T n wr w1.heap.size (hs.set i (some ⟨wo.heap.size, 0, none⟩, j, j)) (fun k => if k ≤ i then M k else wr.heap.size) (i + 1)) := Lib.hid ⟨by rw [List.length_set]; exact HDD.out.1, hO.out, hst⟩
          have HV' : Hid (BytesV w (some ⟨b, off, none⟩, vn, vc) (v.drop (chS n (i + 1) * T))) := by rw [← HSD.out, hsucc]; exact hV
          clear hre hR' hst hR hO hG
          go_wp2
          go_roundw
          case rel => exact ⟨i + 1, b, off, vn, vc, _, _, by omega, by go_num, by go_num, HV', HD', hB⟩
          case measure => simp [intOf] <;> omega
    · obtain rfl : i = z := by omega
      have HD' := hD
      clear hD
      go_wp2
      go_ret2
      exact ⟨_, _, hs, M, rfl, HD'.out.1, HD'.out.2.1, HD'.out.2.2, HB1.out.trans (hB.out.mono hs1)⟩
end Go.Proofs.YtfjcbgfgiidogaaDoor
