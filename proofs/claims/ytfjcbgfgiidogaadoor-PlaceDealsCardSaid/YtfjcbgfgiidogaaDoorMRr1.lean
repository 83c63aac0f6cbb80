/-
  Rr1: RrF RrG RrI
-/
import Derived.Test.YtfjcbgfgiidogaaDoorMBase
import Derived.Test.YtfjcbgfgiidogaaDoorMRq6
import Derived.Test.YtfjcbgfgiidogaaDoorMTuK
import Derived.Test.YtfjcbgfgiidogaaDoorMTuL
namespace Go.Proofs.YtfjcbgfgiidogaaDoor
open Go.RowKit

theorem tupV_mod' (y x W P1 : Int) : tupV (y % 4294967296) x W P1 = tupV y x W P1 := by
  unfold tupV tupD1 tupD
  simp only [rz_mod]
theorem refTuple_any (k x : Nat) (w : World) (h1 : 1 ≤ k) (hk : k ≤ 32) (hx : x ≤ 16777219) :
    Calls Tryd.prog 105 #[.int .i64 (k : Int), .int .i64 (x : Int)] w fun e w' => e = .returned (.tuple #[tupN k x, .int .i64 0]) ∧ Below w.heap.size w w' := by
  rw [← (tup_facts h1 hk x).2.2.2.2.2.2.2.2.2.2]
  by_cases hj : cJ k = 2
  · have := refTuple_j2 k x w h1 hk hj (by omega) (by omega)
    rw [tupV_mod'] at this
    unfold tY; rw [if_pos hj]; exact this
  · have hj0 : cJ k = 0 := by unfold cJ at hj ⊢; split <;> simp_all
    have := refTuple_j0 k x w h1 hk hj0 (by omega) (by omega)
    rw [tupV_mod'] at this
    unfold tY; rw [if_neg hj]; exact this

/-- what a reference's walk over a row keeps: the row, a tuple, a code. -/
structure PlS (B wr : World) (q gt gc L : Nat) (cs ts : Array Value) (l : List Nat) : Prop where
  own : wr.ownsRow B.heap.size 5 1 (.slice (some ⟨q, 0, none⟩) L L) L (l.map bv)
  bytes : Bytes l
  tup : wr.heap[gt]? = some (.cells ts 125 (0, 0))
  code : wr.heap[gc]? = some (.cells cs 106 (0, 0))
  below : Below B.heap.size B wr
  nt : gt ≠ q
  nc : gc ≠ q
theorem PlS.flip {B wr : World} {q gt gc L : Nat} {cs ts : Array Value} {l : List Nat} (h : PlS B wr q gt gc L cs ts l) {p : Nat} (hp : p < L) :
    ∃ x, x < 256 ∧ wr.cell? ⟨q, p, none⟩ = some (.int .u8 (x : Nat)) ∧ wr.frozen? ⟨q, p, none⟩ = false ∧ bits .xor .u8 (x : Int) 1 = ((x ^^^ 1 : Nat) : Int) ∧ PlS B (wr.setCell ⟨q, p, none⟩ (.int .u8 ((x ^^^ 1 : Nat) : Int))) q gt gc L cs ts (flp l p) := by
  have hx : l.getD p 0 < 256 := h.bytes.getD p
  have hxx := u8_xor_nat (l.getD p 0) 1 hx (by omega)
  rw [show ((1 : Nat) : Int) = 1 from rfl] at hxx
  have hg := grown_set4 wr q p (.int .u8 ((l.getD p 0 ^^^ 1 : Nat) : Int))
  have ho := own_set' h.own p (.int .u8 ((l.getD p 0 ^^^ 1 : Nat) : Int))
  rw [← flp_map] at ho
  refine ⟨l.getD p 0, hx, own_cell h.own hp, h.own.frozenAt p, hxx, ho, flp_bytes h.bytes p, ?_, ?_, below_grown h.below hg (fun k e => by injection e with e; rw [← e]; exact (h.own.lt q rfl).1), h.nt, h.nc⟩
  · exact (hg.block gt (Array.getElem?_eq_some_iff.1 h.tup).1 (fun e => h.nt (Option.some.inj e))).trans h.tup
  · exact (hg.block gc (Array.getElem?_eq_some_iff.1 h.code).1 (fun e => h.nc (Option.some.inj e))).trans h.code
theorem PlS.tcells {B wr : World} {q gt gc L D A Bb D1 A1 B1 : Nat} {cs ts : Array Value} {l : List Nat} (h : PlS B wr q gt gc L cs ts l) (ht : ts = #[.int .i64 (D : Nat), .int .i64 (A : Nat), .int .i64 (Bb : Nat), .int .i64 (D1 : Nat), .int .i64 (A1 : Nat), .int .i64 (B1 : Nat)]) :
    wr.cell? ⟨gt, 0, none⟩ = some (.int .i64 (D : Nat)) ∧ wr.cell? ⟨gt, 1, none⟩ = some (.int .i64 (A : Nat)) ∧ wr.cell? ⟨gt, 2, none⟩ = some (.int .i64 (Bb : Nat)) ∧ wr.cell? ⟨gt, 3, none⟩ = some (.int .i64 (D1 : Nat)) ∧ wr.cell? ⟨gt, 4, none⟩ = some (.int .i64 (A1 : Nat)) ∧ wr.cell? ⟨gt, 5, none⟩ = some (.int .i64 (B1 : Nat)) := by
  have hg := h.tup
  rw [ht] at hg
  refine ⟨?_, ?_, ?_, ?_, ?_, ?_⟩ <;> (rw [cell_of_row _ _ _ _ _ _ hg]; rfl)
theorem PlS.ccells {B wr : World} {q gt gc L k Kp S W P P1 Bn J L' : Nat} {cs ts : Array Value} {l : List Nat} (h : PlS B wr q gt gc L cs ts l) (ht : cs = #[.int .i64 (k : Nat), .int .i64 (Kp : Nat), .int .i64 (S : Nat), .int .i64 4, .int .i64 (L' : Nat), .int .i64 (W : Nat), .int .i64 (P : Nat), .int .i64 (P1 : Nat), .int .i64 (Bn : Nat), .int .i64 (J : Nat)]) :
    wr.cell? ⟨gc, 5, none⟩ = some (.int .i64 (W : Nat)) ∧ wr.cell? ⟨gc, 6, none⟩ = some (.int .i64 (P : Nat)) ∧ wr.cell? ⟨gc, 7, none⟩ = some (.int .i64 (P1 : Nat)) := by
  have hg := h.code
  rw [ht] at hg
  refine ⟨?_, ?_, ?_⟩ <;> (rw [cell_of_row _ _ _ _ _ _ hg]; rfl)

set_option maxRecDepth 100000 in
set_option maxHeartbeats 8000000 in
theorem refPlace_gen (k x D A Bb D1 A1 B1 P P1 W L Kp S Bn J : Nat) (w : World) (KT : ∀ w, Calls Tryd.prog 105 #[.int .i64 (k : Int), .int .i64 (x : Int)] w fun e w' => e = .returned (.tuple #[.agg #[.int .i64 (D : Nat), .int .i64 (A : Nat), .int .i64 (Bb : Nat), .int .i64 (D1 : Nat), .int .i64 (A1 : Nat), .int .i64 (B1 : Nat)], .int .i64 0]) ∧ Below w.heap.size w w')
    (t1 : 1 ≤ D) (t2 : D ≤ 30) (t4 : A < W) (t5 : Bb < W) (t6 : 2 ≤ D1) (t7 : D1 ≤ 3) (t8 : 1 ≤ A1) (t9 : A1 < P1) (t10 : B1 < P1) (hWL : W + P = L) (hL100 : L ≤ 100) (hP1 : P1 ≤ 23)
    (hDN : ∀ b, b < P1 → dn A1 P P1 32 b < P ∧ (P ≤ b → dn A1 P P1 32 b = dn A1 P P1 32 ((b + A1) % P1) ∧ stp A1 P P1 32 b = stp A1 P P1 32 ((b + A1) % P1) + 1)) :
    Calls Tryd.prog 80 #[.agg #[.int .i64 (k : Nat), .int .i64 (Kp : Nat), .int .i64 (S : Nat), .int .i64 4, .int .i64 (L : Nat), .int .i64 (W : Nat), .int .i64 (P : Nat), .int .i64 (P1 : Nat), .int .i64 (Bn : Nat), .int .i64 (J : Nat)], .int .i64 (x : Int)] w (GivesBytes 5 w (placeG D A Bb D1 A1 B1 P P1 W L)) := by
  obtain ⟨j0, hj, hy0, hy1, hy2⟩ := info_parts Tryd.info5
  have hPL := placeG_length D A Bb D1 A1 B1 P P1 W L
  unfold placeG at hPL ⊢
  obtain ⟨s0, hs0⟩ : ∃ s : List Nat × Nat, s = (zs L, Bb) := ⟨_, rfl⟩
  have hs01 : s0.1 = zs L := by rw [hs0]
  have hs02 : s0.2 = Bb := by rw [hs0]
  rw [← hs0] at hPL ⊢
  have HS1 := Lib.hid hs01
  have HS2 := Lib.hid hs02
  have HDN := Lib.hid hDN
  have HPL := Lib.hid hPL
  have HLT : Hid (∀ j, (ltR A W s0 j).2 < W) := Lib.hid (fun j => ltR_lt (by omega) (by rw [hs02]; exact t5) j)
  have HWL := Lib.hid hWL
  have hW100 : W ≤ 100 := by omega
  clear hDN hPL hs0 hs01 hs02 hWL
  go_enter Tryd.func80, Tryd.ntmps80
  go_wp2_with (first | (at_make; refine Hid.out ?_))
  refine Lib.hid ?_
  refine wpList_make_full _ rfl _ _ 22 rfl w.heap.size 5 j0 (.int .u8 0) 1 Tryd.underlying22 hj hy0 hy1 _ _ _ _ L rfl rfl rfl rfl (by rw [hy2]; omega) (by unfold maxLen; omega) (by simp) ?_
  intro w2 hown2 hgrow2
  have hb2 := below_grown (below_alloc w (.cells #[.int .i64 (k : Nat), .int .i64 (Kp : Nat), .int .i64 (S : Nat), .int .i64 4, .int .i64 (L : Nat), .int .i64 (W : Nat), .int .i64 (P : Nat), .int .i64 (P1 : Nat), .int .i64 (Bn : Nat), .int .i64 (J : Nat)] 106)) hgrow2 (fun k e => by cases e)
  have hC : w2.heap[w.heap.size]? = some (.cells #[.int .i64 (k : Nat), .int .i64 (Kp : Nat), .int .i64 (S : Nat), .int .i64 4, .int .i64 (L : Nat), .int .i64 (W : Nat), .int .i64 (P : Nat), .int .i64 (P1 : Nat), .int .i64 (Bn : Nat), .int .i64 (J : Nat)] 106 (0, 0)) := (hgrow2.block _ (by simp) (by simp)).trans (heap_alloc_new _ _)
  rw [show (Value.int .u8 0).cells = #[.int .u8 0] from rfl, Nat.mul_one, toList_madeCells_one, ← bv_zs, ← HS1.out] at hown2
  obtain ⟨cs, hcs⟩ : ∃ cs : Array Value, cs = #[.int .i64 (k : Nat), .int .i64 (Kp : Nat), .int .i64 (S : Nat), .int .i64 4, .int .i64 (L : Nat), .int .i64 (W : Nat), .int .i64 (P : Nat), .int .i64 (P1 : Nat), .int .i64 (Bn : Nat), .int .i64 (J : Nat)] := ⟨_, rfl⟩
  obtain ⟨ts, hts⟩ : ∃ ts : Array Value, ts = #[.int .i64 (D : Nat), .int .i64 (A : Nat), .int .i64 (Bb : Nat), .int .i64 (D1 : Nat), .int .i64 (A1 : Nat), .int .i64 (B1 : Nat)] := ⟨_, rfl⟩
  have HCS := Lib.hid hcs
  have HTS := Lib.hid hts
  rw [← hcs] at hC hgrow2
  have hq : (w.alloc (.cells cs 106)).heap.size = w.heap.size + 1 := by simp
  rw [← hcs] at hown2 ⊢
  rw [hq] at hown2 ⊢
  obtain ⟨q, hqq⟩ : ∃ q, q = w.heap.size + 1 := ⟨_, rfl⟩
  obtain ⟨gc, hgc⟩ : ∃ g, g = w.heap.size := ⟨_, rfl⟩
  rw [← hqq] at hown2 ⊢
  rw [← hgc] at hC
  have hcq : gc ≠ q := by omega
  have HGC := Lib.hid hgc
  have hqs := hown2.lt q rfl
  have hk0 : w2.cell? ⟨gc, 0, none⟩ = some (.int .i64 (k : Nat)) := by
    have := cell_of_row _ _ 0 _ _ _ hC
    rw [hcs] at this
    simpa using this
  have hs2 := hb2.size
  clear hgrow2 hqq hcs hts hq hgc
  rw [← HGC.out]
  go_wp2_with fail
  (with_reducible refine (KT _).mono ?_)
  rintro e w3 ⟨rfl, hb3⟩
  clear KT
  have hs3 := hb3.size
  have HP : PlS w (w3.alloc (.cells #[.int .i64 (D : Nat), .int .i64 (A : Nat), .int .i64 (Bb : Nat), .int .i64 (D1 : Nat), .int .i64 (A1 : Nat), .int .i64 (B1 : Nat)] 125)) q w3.heap.size gc L cs ts (ltR A W s0 0).1 :=
    ⟨(hown2.kept (grownBy_of_below hb3 none) (.inr (by simp [Value.ownBlock]))).alloc _, by show Bytes s0.1; rw [HS1.out]; exact zs_bytes L, by rw [HTS.out]; exact heap_alloc_new _ _,
     (heap_alloc_old w3 _ (by have := (Array.getElem?_eq_some_iff.1 hC).1; omega)).trans ((hb3.block gc (Array.getElem?_eq_some_iff.1 hC).1).trans hC), (hb2.trans (hb3.mono hs2)).alloc (by omega) _, by omega, hcq⟩
  have HPH := Lib.hid HP
  clear HP hown2 hC hk0 hb2 hb3 hqs
  go_upto_region 3 with fail
  generalize w3.alloc (.cells #[.int .i64 (D : Nat), .int .i64 (A : Nat), .int .i64 (Bb : Nat), .int .i64 (D1 : Nat), .int .i64 (A1 : Nat), .int .i64 (B1 : Nat)] 125) = w4 at HPH ⊢
  obtain ⟨gt, hgt⟩ : ∃ g, g = w3.heap.size := ⟨_, rfl⟩
  rw [← hgt] at HPH ⊢
  clear hgt hs3 hs2 hcq HGC
  obtain ⟨c0, c1, c2, c3, c4, c5⟩ := HPH.out.tcells HTS.out
  obtain ⟨y, hy, p1, p2, hxx, hP1⟩ := HPH.out.flip (p := Bb) (by have := HWL.out; omega)
  have HQ1 : Hid (PlS w (w4.setCell ⟨q, Bb, none⟩ (.int .u8 ((y ^^^ 1 : Nat) : Int))) q gt gc L cs ts (ltR A W s0 1).1) := Lib.hid (by show PlS _ _ _ _ _ _ _ _ (flp (ltR A W s0 0).1 s0.2); rw [HS2.out]; exact hP1)
  have HE0 := Lib.hid (show (ltR A W s0 1).2 = (Bb + A) % W by show (s0.2 + A) % W = _; rw [HS2.out])
  clear hP1 HPH c0 c1 c3 c4 c5
  have hBL : Bb < L := by have := HWL.out; omega
  go_wp2_with fail
  go_loopw [8, 9] (fun vb vj wr => ∃ (j b : Nat), 1 ≤ j ∧ j ≤ D ∧ b < W ∧ vb = .int .i64 (b : Nat) ∧ vj = .int .i64 (j : Nat) ∧ Hid ((ltR A W s0 j).2 = (b + A) % W) ∧ Hid (PlS w wr q gt gc L cs ts (ltR A W s0 j).1)) (fun _ vj _ => (D - intOf vj).toNat)
  case atStart => exact ⟨1, Bb, Nat.le_refl _, t1, t5, rfl, rfl, HE0, HQ1⟩
  case round =>
    clear HQ1 HE0 c2 p1 p2 hxx hy
    obtain ⟨j, b, hj1, hj, hbW, rfl, rfl, HE, HP⟩ := hrel
    obtain ⟨c0, c1, c2, c3, c4, c5⟩ := HP.out.tcells HTS.out
    obtain ⟨d5, d6, d7⟩ := HP.out.ccells HCS.out
    by_cases hlt : j < D
    · obtain ⟨b2, hb2⟩ : ∃ b2, b2 = (b + A) % W := ⟨_, rfl⟩
      have hb2W : b2 < W := by rw [hb2]; exact Nat.mod_lt _ (by omega)
      obtain ⟨y, hy, p1, p2, hxx, hP1⟩ := HP.out.flip (p := b2) (by have := HWL.out; omega)
      have HQ1 : Hid (PlS w (wr.setCell ⟨q, b2, none⟩ (.int .u8 ((y ^^^ 1 : Nat) : Int))) q gt gc L cs ts (ltR A W s0 (j + 1)).1) := Lib.hid (by show PlS _ _ _ _ _ _ _ _ (flp (ltR A W s0 j).1 (ltR A W s0 j).2); rw [HE.out, ← hb2]; exact hP1)
      have HE1 := Lib.hid (show (ltR A W s0 (j + 1)).2 = (b2 + A) % W by show ((ltR A W s0 j).2 + A) % W = _; rw [HE.out, ← hb2])
      have E : ((b : Int) + (A : Int)) % (W : Int) = (b2 : Int) := by rw [hb2, Int.natCast_emod, Int.natCast_add]
      have hW0 : (W : Int) ≠ 0 := by omega
      have hb2L : b2 < L := by have := HWL.out; omega
      clear hP1 HP HE hb2 c2 c3 c4 c5 d6 d7
      go_wp2
      go_roundw
      case rel => exact ⟨j + 1, b2, by omega, by omega, hb2W, by rw [E], by go_num, HE1, HQ1⟩
      case measure => simp [intOf] <;> omega
    · obtain rfl : j = D := by omega
      clear hj hj1 hlt HE hbW
      obtain ⟨s1, hs1⟩ : ∃ s : List Nat × Nat, s = ((ltR A W s0 j).1, B1) := ⟨_, rfl⟩
      have hs11 : s1.1 = (ltR A W s0 j).1 := by rw [hs1]
      have hs12 : s1.2 = B1 := by rw [hs1]
      rw [← hs1] at HPL
      have HSE := Lib.hid hs1
      rw [← hs11] at HP
      have HS3 := Lib.hid hs12
      clear hs1 hs11 hs12 HLT HS1 HS2 c1 c2
      go_wp2_with fail
      go_loop [10] (fun vb => ∃ b' : Nat, b' < P1 ∧ vb = .int .i64 (b' : Nat) ∧ Hid (dn A1 P P1 32 b' = dn A1 P P1 32 B1)) (fun vb => stp A1 P P1 32 (intOf vb).toNat)
      case atStart => exact ⟨B1, t10, rfl, Lib.hid rfl⟩
      case round =>
        obtain ⟨b', hb', rfl, hD⟩ := hrel
        by_cases hge : P ≤ b'
        · obtain ⟨b2, hb2⟩ : ∃ b2, b2 = (b' + A1) % P1 := ⟨_, rfl⟩
          have hb2W : b2 < P1 := by rw [hb2]; exact Nat.mod_lt _ (by omega)
          have hF := (HDN.out b' hb').2 hge
          rw [← hb2] at hF
          have HF := Lib.hid hF
          have E : ((b' : Int) + (A1 : Int)) % (P1 : Int) = (b2 : Int) := by rw [hb2, Int.natCast_emod, Int.natCast_add]
          have hW0 : (P1 : Int) ≠ 0 := by omega
          clear hF hb2 HP
          go_wp2
          go_round
          case rel => exact ⟨b2, hb2W, by rw [E], Lib.hid (by rw [← HF.out.1]; exact hD.out)⟩
          case measure =>
            simp only [intOf]
            rw [E]
            rw [Int.toNat_natCast, Int.toNat_natCast]
            have := HF.out.2
            omega
        · have hdb2 : dn A1 P P1 32 b' = b' := by
            show (if b' < P then b' else _) = b'
            rw [if_pos (by omega)]
          have hdb : dn A1 P P1 32 B1 = b' := by rw [← hD.out, hdb2]
          have hWb : W + b' < L := by have := HWL.out; omega
          obtain ⟨y, hy, p1, p2, hxx, hP1⟩ := HP.out.flip (p := W + b') hWb
          have HQ1 : Hid (PlS w (wr.setCell ⟨q, W + b', none⟩ (.int .u8 ((y ^^^ 1 : Nat) : Int))) q gt gc L cs ts (piR A1 P P1 W s1 1).1) := Lib.hid (by show PlS _ _ _ _ _ _ _ _ (flp s1.1 (W + dn A1 P P1 32 s1.2)); rw [HS3.out, hdb]; exact hP1)
          have HE1 := Lib.hid (show (piR A1 P P1 W s1 1).2 = (b' + A1) % P1 by show (dn A1 P P1 32 s1.2 + A1) % P1 = _; rw [HS3.out, hdb])
          clear hP1 HP hdb hdb2 hD c0 c5 c3 c4 d7
          go_wp2_with fail
          clear d6
          go_loopw [10, 11] (fun vb vj wr => ∃ (i b : Nat), 1 ≤ i ∧ i ≤ D1 ∧ b < P1 ∧ vb = .int .i64 (b : Nat) ∧ vj = .int .i64 (i : Nat) ∧ Hid ((piR A1 P P1 W s1 i).2 = (b + A1) % P1) ∧ Hid (PlS w wr q gt gc L cs ts (piR A1 P P1 W s1 i).1)) (fun _ vj _ => (D1 - intOf vj).toNat)
          case atStart => exact ⟨1, b', Nat.le_refl _, by omega, hb', rfl, rfl, HE1, HQ1⟩
          case round =>
            clear HQ1 HE1 p1 p2 hxx hy d5
            obtain ⟨i, b, hi1, hi, hbP, rfl, rfl, HE, HP⟩ := hrel
            obtain ⟨c0, c1, c2, c3, c4, c5⟩ := HP.out.tcells HTS.out
            obtain ⟨d5, d6, d7⟩ := HP.out.ccells HCS.out
            by_cases hlt : i < D1
            · obtain ⟨b2, hb2⟩ : ∃ b2, b2 = (b + A1) % P1 := ⟨_, rfl⟩
              have hb2P : b2 < P1 := by rw [hb2]; exact Nat.mod_lt _ (by omega)
              have E : ((b : Int) + (A1 : Int)) % (P1 : Int) = (b2 : Int) := by rw [hb2, Int.natCast_emod, Int.natCast_add]
              have hW0 : (P1 : Int) ≠ 0 := by omega
              rw [← hb2] at HE
              clear hb2 c0 c1 c2 c5
              go_wp2_with fail
              go_loop [10] (fun vb => ∃ b' : Nat, b' < P1 ∧ vb = .int .i64 (b' : Nat) ∧ Hid (dn A1 P P1 32 b' = dn A1 P P1 32 b2)) (fun vb => stp A1 P P1 32 (intOf vb).toNat)
              case atStart => exact ⟨b2, hb2P, by rw [E], Lib.hid rfl⟩
              case round =>
                clear E
                obtain ⟨b', hb', rfl, hD⟩ := hrel
                by_cases hge : P ≤ b'
                · obtain ⟨b3, hb3⟩ : ∃ b3, b3 = (b' + A1) % P1 := ⟨_, rfl⟩
                  have hb3P : b3 < P1 := by rw [hb3]; exact Nat.mod_lt _ (by omega)
                  have hF := (HDN.out b' hb').2 hge
                  rw [← hb3] at hF
                  have HF := Lib.hid hF
                  have E : ((b' : Int) + (A1 : Int)) % (P1 : Int) = (b3 : Int) := by rw [hb3, Int.natCast_emod, Int.natCast_add]
                  clear hF hb3 HP
                  go_wp2
                  go_round
                  case rel => exact ⟨b3, hb3P, by rw [E], Lib.hid (by rw [← HF.out.1]; exact hD.out)⟩
                  case measure =>
                    simp only [intOf]
                    first | rw [E] | skip
                    rw [Int.toNat_natCast, Int.toNat_natCast]
                    have := HF.out.2
                    omega
                · have hdb2 : dn A1 P P1 32 b' = b' := by
                    show (if b' < P then b' else _) = b'
                    rw [if_pos (by omega)]
                  have hdb : dn A1 P P1 32 b2 = b' := by rw [← hD.out, hdb2]
                  have hWb : W + b' < L := by have := HWL.out; omega
                  obtain ⟨y, hy, p1, p2, hxx, hP1⟩ := HP.out.flip (p := W + b') hWb
                  have HQ1 : Hid (PlS w (wr.setCell ⟨q, W + b', none⟩ (.int .u8 ((y ^^^ 1 : Nat) : Int))) q gt gc L cs ts (piR A1 P P1 W s1 (i + 1)).1) := Lib.hid (by show PlS _ _ _ _ _ _ _ _ (flp (piR A1 P P1 W s1 i).1 (W + dn A1 P P1 32 (piR A1 P P1 W s1 i).2)); rw [HE.out, hdb]; exact hP1)
                  have HE1 := Lib.hid (show (piR A1 P P1 W s1 (i + 1)).2 = (b' + A1) % P1 by show (dn A1 P P1 32 (piR A1 P P1 W s1 i).2 + A1) % P1 = _; rw [HE.out, hdb])
                  clear hP1 HP hdb hdb2 hD c3 c4 d7
                  go_wp2
                  go_roundw
                  case rel => exact ⟨i + 1, b', by omega, by omega, hb', rfl, by go_num, HE1, HQ1⟩
                  case measure => simp [intOf] <;> omega
            · obtain rfl : i = D1 := by omega
              have hPL := HPL.out
              have ho := HP.out.own
              have hbl := HP.out.below
              clear hi HE
              go_wp2
              go_ret
              rw [← HSE.out]
              exact ⟨some ⟨q, 0, none⟩, L, by rw [hPL]; rfl, by rw [hPL]; exact ho, hbl⟩
theorem refPlace_own (k x : Nat) (w : World) (h1 : 1 ≤ k) (hk : k ≤ 32) (hx : x ≤ 16777219) :
    Calls Tryd.prog 80 #[codeV k, .int .i64 (x : Int)] w (GivesBytes 5 w (placeR k x)) := by
  obtain ⟨f1, f2, f3, f4, f5, f6, f7, f8, f9, f10, f11, f12, f13, f14⟩ := code_facts h1 hk
  obtain ⟨t1, t2, t3, t4, t5, t6, t7, t8, t9, t10, -⟩ := tup_facts h1 hk x
  have hL : cL k ≤ 100 := by unfold cL; generalize cKp k = a at *; generalize cS k = b at *; omega
  exact refPlace_gen k x _ _ _ _ _ _ _ _ _ _ _ _ _ _ w (fun w => refTuple_any k x w h1 hk hx) t1 t2 t4 t5 t6 t7 t8 t9 t10 ((Nat.add_comm _ _).trans f14) hL f13 (fun b hb => dn_facts h1 hk t8 t9 hb)
end Go.Proofs.YtfjcbgfgiidogaaDoor
namespace Go.Proofs.YtfjcbgfgiidogaaDoor
open Go.RowKit

/-! the light rows, in the reference's order -/
def rlt1 (k : Nat) : Nat → List (List Nat)
  | 0 => List.replicate (cS k) (zs (cL k))
  | i + 1 => lit3 k i (rlt1 k i) 3
def rlt2 (k : Nat) : Nat → List (List Nat)
  | 0 => rlt1 k (cB k)
  | i + 1 => flpAt (flpAt (flpAt (rlt2 k i) i (cB k + i)) i (cW k + i % cP k)) i (cW k + (i + 1) % cP k)
def rlightP (k : Nat) : List (List Nat) := rlt2 k (cS k)
theorem rlt1_kp (k : Nat) : ∀ i, rlt1 (cKp k) i = rlt1 k i
  | 0 => by simp only [rlt1]; rw [cS_kp, cL_kp]
  | i + 1 => by simp only [rlt1]; rw [rlt1_kp k i, lit3_kp]
theorem cW_kp' (k : Nat) : cW (cKp k) = cW k := by unfold cW; rw [kp_kp, cS_kp]
theorem cP_kp' (k : Nat) : cP (cKp k) = cP k := by unfold cP; rw [cL_kp, cW_kp']
theorem rlt2_kp (k : Nat) : ∀ i, rlt2 (cKp k) i = rlt2 k i
  | 0 => by simp only [rlt2]; rw [rlt1_kp, cB_kp]
  | i + 1 => by simp only [rlt2]; rw [rlt2_kp k i, cB_kp, cW_kp', cP_kp']
theorem rlightP_kp (k : Nat) : rlightP (cKp k) = rlightP k := by unfold rlightP; rw [rlt2_kp, cS_kp]
theorem rlight_all : ∀ m, m < 8 → rlightP (4 * (m + 1)) = lightP (4 * (m + 1)) := by decide +kernel
theorem rlight_eq {k : Nat} (h1 : 1 ≤ k) (hk : k ≤ 32) : rlightP k = lightP k := by
  have h := rlight_all (cKp k / 4 - 1) (by unfold cKp; omega)
  have e : 4 * (cKp k / 4 - 1 + 1) = cKp k := by unfold cKp; omega
  rw [e, rlightP_kp, lightP_kp] at h
  exact h
theorem flpAt_all {L : Nat} {ls : List (List Nat)} (h : AllL L ls) (r i : Nat) : AllL L (flpAt ls r i) := h.flp r i
theorem rlt1_all (k : Nat) : ∀ i, AllL (cL k) (rlt1 k i)
  | 0 => fun l hl => by
    rw [List.eq_of_mem_replicate hl]; exact ⟨zs_bytes _, zs_length _⟩
  | i + 1 => (rlt1_all k i).lit3 3
theorem rlt2_all (k : Nat) : ∀ i, AllL (cL k) (rlt2 k i)
  | 0 => rlt1_all k _
  | i + 1 => (((rlt2_all k i).flp _ _).flp _ _).flp _ _
theorem flpAt_length (ls : List (List Nat)) (r i : Nat) : (flpAt ls r i).length = ls.length := by simp [flpAt]
/-- where nothing is, 1 is laid by storing it. -/
theorem hv_set {k h : Nat} : (hvR k h (cKp k + cS k)).set (cKp k + cS k + h) 1 = hv0 k h := by
  unfold hv0 flp
  have e : (hvR k h (cKp k + cS k)).getD (cKp k + cS k + h) 0 = 0 := by
    unfold hvR
    rw [List.getD_eq_getElem?_getD, List.getElem?_append_right (by simp)]
    simp only [List.length_map, List.length_range, zs, List.getElem?_replicate]
    split <;> rfl
  rw [e]
  rfl

/-- what the reference's walk over the fixed rows keeps. -/
def codeA (k : Nat) : Array Value := #[.int .i64 (k : Nat), .int .i64 (cKp k : Nat), .int .i64 (cS k : Nat), .int .i64 4, .int .i64 (cL k : Nat), .int .i64 (cW k : Nat), .int .i64 (cP k : Nat), .int .i64 (cP1 k : Nat), .int .i64 (cB k : Nat), .int .i64 (cJ k : Nat)]
structure FxS (B wr : World) (cs : Array Value) (gc g n c : Nat) (hs : List HdT) (ls : List (List Nat)) : Prop where
  own : OwnD wr B.heap.size g n c hs ls
  code : wr.heap[gc]? = some (.cells cs 106 (0, 0))
  below : Below B.heap.size B wr
theorem own_ne_blk {w : World} {base : Nat} {T T2 : TypeId} {s n : Nat} {v : Value} {xs : List Value} (h : w.ownsRow base T s v n xs) {g : Nat} {cs : Array Value} (hb : w.heap[g]? = some (.cells cs T2 (0, 0))) (hne : T ≠ T2) : v.ownBlock ≠ some g := by
  intro e
  rcases h.2 with ⟨rfl, _⟩ | ⟨g', cap, cur, rfl, _, hh, _⟩
  · cases e
  · simp [Value.ownBlock] at e
    subst e
    rw [hh] at hb
    injection hb with hb
    injection hb with _ hb
    exact hne hb
theorem FxS.cells {B wr : World} {cs : Array Value} {gc g n c : Nat} {hs : List HdT} {ls : List (List Nat)} {k Kp S L W P P1 Bn J : Nat} (h : FxS B wr cs gc g n c hs ls) (ht : cs = #[.int .i64 (k : Nat), .int .i64 (Kp : Nat), .int .i64 (S : Nat), .int .i64 4, .int .i64 (L : Nat), .int .i64 (W : Nat), .int .i64 (P : Nat), .int .i64 (P1 : Nat), .int .i64 (Bn : Nat), .int .i64 (J : Nat)]) :
    wr.cell? ⟨gc, 0, none⟩ = some (.int .i64 (k : Nat)) ∧ wr.cell? ⟨gc, 1, none⟩ = some (.int .i64 (Kp : Nat)) ∧ wr.cell? ⟨gc, 2, none⟩ = some (.int .i64 (S : Nat)) ∧ wr.cell? ⟨gc, 3, none⟩ = some (.int .i64 4) ∧ wr.cell? ⟨gc, 4, none⟩ = some (.int .i64 (L : Nat)) ∧ wr.cell? ⟨gc, 5, none⟩ = some (.int .i64 (W : Nat)) ∧ wr.cell? ⟨gc, 6, none⟩ = some (.int .i64 (P : Nat)) ∧ wr.cell? ⟨gc, 7, none⟩ = some (.int .i64 (P1 : Nat)) ∧ wr.cell? ⟨gc, 8, none⟩ = some (.int .i64 (Bn : Nat)) ∧ wr.cell? ⟨gc, 9, none⟩ = some (.int .i64 (J : Nat)) := by
  have hg := h.code
  rw [ht] at hg
  refine ⟨?_, ?_, ?_, ?_, ?_, ?_, ?_, ?_, ?_, ?_⟩ <;> (rw [cell_of_row _ _ _ _ _ _ hg]; rfl)
theorem FxS.step {B wr w' : World} {cs : Array Value} {gc g n c : Nat} {hs : List HdT} {ls : List (List Nat)} (h : FxS B wr cs gc g n c hs ls) (hb : Below wr.heap.size wr w') : FxS B w' cs gc g n c hs ls :=
  ⟨h.own.below hb, (hb.block gc (Array.getElem?_eq_some_iff.1 h.code).1).trans h.code, h.below.trans (hb.mono h.below.size)⟩
/-- one cell of one row is turned. -/
theorem FxS.flip {B wr : World} {cs : Array Value} {gc g n c : Nat} {hs : List HdT} {ls : List (List Nat)} (h : FxS B wr cs gc g n c hs ls) {L r i : Nat} (hall : AllL L ls) (hr : r < n) (hi : i < L) (hL : L ≤ 100) :
    ∃ q c' x, x < 256 ∧ wr.cell? ⟨g, r, none⟩ = some (.slice (some ⟨q, 0, none⟩) L c') ∧ wr.cell? ⟨q, i, none⟩ = some (.int .u8 (x : Nat)) ∧ wr.frozen? ⟨q, i, none⟩ = false ∧ bits .xor .u8 (x : Int) 1 = ((x ^^^ 1 : Nat) : Int) ∧ FxS B (wr.setCell ⟨q, i, none⟩ (.int .u8 ((x ^^^ 1 : Nat) : Int))) cs gc g n c hs (flpAt ls r i) := by
  have hlen := h.own.len
  have hll : ls.length = n := by rw [← h.own.2.1.1]; exact hlen
  have hml : ls.getD r [] ∈ ls := by
    rw [List.getD_eq_getElem?_getD, List.getElem?_eq_getElem (by omega)]; exact List.getElem_mem _
  obtain ⟨l, hl⟩ : ∃ l, ls.getD r [] = l := ⟨_, rfl⟩
  have hla := hall _ hml
  rw [hl] at hla
  obtain ⟨q, c', hx, q9, o9, hlb⟩ := h.own.row hr (by rw [hl, hla.2]; omega)
  rw [hl, hla.2] at hx q9 o9
  rw [hl] at hlb
  have hb : l.getD i 0 < 256 := hlb.getD i
  have hxx := u8_xor_nat (l.getD i 0) 1 hb (by omega)
  rw [show ((1 : Nat) : Int) = 1 from rfl] at hxx
  have hgr := grown_set4 wr q i (.int .u8 ((l.getD i 0 ^^^ 1 : Nat) : Int))
  have ho := own_set' o9 i (.int .u8 ((l.getD i 0 ^^^ 1 : Nat) : Int))
  rw [← flp_map] at ho
  have hput := h.own.put hx hgr ho (flp_bytes hlb i) (by omega)
  refine ⟨q, c', l.getD i 0, hb, q9, own_cell o9 hi, o9.frozenAt i, hxx, ?_, ?_, ?_⟩
  · unfold flpAt; rw [hl]; exact hput
  · refine (hgr.block gc (Array.getElem?_eq_some_iff.1 h.code).1 (fun e => ?_)).trans h.code
    have := own_ne_blk o9 h.code (by decide)
    exact this e.symm
  · exact below_grown h.below hgr (fun k e => by injection e with e; rw [← e]; exact (o9.lt q rfl).1)
/-- a row more, in a block of its own. -/
theorem OwnD.snoc {wm w' : World} {B g n c g' c' : Nat} {hs : List HdT} {ls : List (List Nat)} {x : HdT} {l : List Nat} (h : OwnD wm B g n c hs ls) (hx : wm.ownsRow B 5 1 (SV x) l.length (l.map bv)) (hxl : x.2.1 = l.length) (hl : Bytes l ∧ l.length ≤ 140737488355328) (hf : ∀ y ∈ hs, y.1 ≠ none → y.1 ≠ x.1)
    (hE : w'.ownsRow B 22 1 (.slice (some ⟨g', 0, none⟩) (n + 1) c') (n + 1) (hs.map SV ++ [SV x])) (hg : wm.grownBy w' (Value.slice (some ⟨g, 0, none⟩) n c).ownBlock) : OwnD w' B g' (n + 1) c' (hs ++ [x]) (ls ++ [l]) := by
  obtain ⟨h1, h2, h3, h4⟩ := h
  refine ⟨by rw [List.map_append]; exact hE, ⟨by simp [h2.1], fun i y m a b => ?_⟩, fun m hm => ?_, fun i j y z a b hne hyz => ?_⟩
  · rcases snoc_at a with ⟨a, k1⟩ | ⟨k1, rfl⟩ <;> rcases snoc_at b with ⟨b, k2⟩ | ⟨k2, rfl⟩
    · have k := h2.2 i y m a b
      exact ⟨k.1, k.2.kept hg (own_ne k.2 h1 (by decide))⟩
    · have := h2.1; omega
    · have := h2.1; omega
    · exact ⟨hxl, hx.kept hg (own_ne hx h1 (by decide))⟩
  · rcases List.mem_append.1 hm with hm | hm
    · exact h3 m hm
    · simp only [List.mem_singleton] at hm; subst hm; exact hl
  · rcases snoc_at a with ⟨a', k1⟩ | ⟨k1, k3⟩ <;> rcases snoc_at b with ⟨b', k2⟩ | ⟨k2, k4⟩
    · exact h4 i j y z a' b' hne hyz
    · rw [k4] at hyz
      exact absurd hyz (hf y (List.mem_of_getElem? a') hne)
    · rw [k3] at hyz hne
      exact absurd hyz.symm (hf z (List.mem_of_getElem? b') (by rw [← hyz]; exact hne))
    · omega
/-- rows that are owned lie in blocks that there are. -/
theorem OwnD.older {w : World} {B g n c : Nat} {hs : List HdT} {ls : List (List Nat)} (h : OwnD w B g n c hs ls) : ∀ y ∈ hs, ∀ a, y.1 = some a → a.block < w.heap.size := fun y hy a ha => by
  obtain ⟨i, hi⟩ := List.getElem?_of_mem hy
  obtain ⟨l, hl⟩ : ∃ l, ls[i]? = some l := ⟨_, List.getElem?_eq_getElem (by rw [← h.2.1.1]; exact (List.getElem?_eq_some_iff.1 hi).1)⟩
  obtain ⟨_, ho⟩ := h.2.1.2 i y l hi hl
  obtain ⟨ad, cap, e, hc, -⟩ := ownsRow_parts ho
  unfold SV at e
  injection e with e1 e2 e3
  rcases hc with ⟨e4, -, -⟩ | ⟨q, e4, -, hq⟩
  · rw [ha, e4] at e1; cases e1
  · rw [ha, e4] at e1
    injection e1 with e1
    rw [e1]; exact hq
theorem FxS.snoc {B wm w' : World} {cs : Array Value} {gc g n c g' c' U : Nat} {hs : List HdT} {ls : List (List Nat)} {q L cq : Nat} {l : List Nat} (h : FxS B wm cs gc g n c hs ls) (hx : wm.ownsRow B.heap.size 5 1 (SV (some ⟨q, 0, none⟩, L, cq)) l.length (l.map bv)) (hxl : L = l.length) (hl : Bytes l ∧ l.length ≤ 140737488355328) (hU : ∀ y ∈ hs, ∀ a, y.1 = some a → a.block < U) (hq : U ≤ q)
    (hE : w'.ownsRow B.heap.size 22 1 (.slice (some ⟨g', 0, none⟩) (n + 1) c') (n + 1) (hs.map SV ++ [SV (some ⟨q, 0, none⟩, L, cq)])) (hg : wm.grownBy w' (Value.slice (some ⟨g, 0, none⟩) n c).ownBlock) : FxS B w' cs gc g' (n + 1) c' (hs ++ [(some ⟨q, 0, none⟩, L, cq)]) (ls ++ [l]) := by
  refine ⟨h.own.snoc hx hxl hl (fun y hy hne e => ?_) hE hg, ?_, below_grown h.below hg (fun k e => ownBlock_ge h.own.1 k e)⟩
  · have := hU y hy _ e
    simp only at this
    omega
  · exact (hg.block gc (Array.getElem?_eq_some_iff.1 h.code).1 (fun e => own_ne_blk h.own.1 h.code (by decide) e.symm)).trans h.code
/-- a store into a row that isn't among them. -/
theorem FxS.other {B wr w' : World} {cs : Array Value} {gc g n c U q m cq : Nat} {hs : List HdT} {ls : List (List Nat)} {xs : List Value} (h : FxS B wr cs gc g n c hs ls) (hU : ∀ y ∈ hs, ∀ a, y.1 = some a → a.block < U) (hq : U ≤ q) (ho : wr.ownsRow B.heap.size 5 1 (.slice (some ⟨q, 0, none⟩) m cq) m xs) (hg : wr.grownBy w' (some q)) : FxS B w' cs gc g n c hs ls := by
  obtain ⟨⟨h1, h2, h3, h4⟩, hc, hb⟩ := h
  refine ⟨⟨h1.kept hg ?_, ⟨h2.1, fun i y l a b => ?_⟩, h3, h4⟩, ?_, below_grown hb hg (fun k e => by injection e with e; rw [← e]; exact (ho.lt q rfl).1)⟩
  · have := own_ne h1 ho (by decide)
    simpa [Value.ownBlock] using this
  · have k := h2.2 i y l a b
    refine ⟨k.1, k.2.kept hg ?_⟩
    cases hk : (SV y).ownBlock with
    | none => exact .inl rfl
    | some q' =>
      right
      intro e
      injection e with e
      have := hU y (List.mem_of_getElem? a) _ (own_shape k.2 hk)
      simp only at this
      omega
  · exact (hg.block gc (Array.getElem?_eq_some_iff.1 hc).1 (fun e => own_ne_blk ho hc (by decide) e.symm)).trans hc
theorem OwnD.hd {w : World} {B g n c : Nat} {hs : List HdT} {ls : List (List Nat)} (h : OwnD w B g n c hs ls) : HdV w B (some ⟨g, 0, none⟩) n c ls := by
  refine ⟨by rw [← h.2.1.1]; exact h.len, hs, h.1, h.2.1.1, fun i x l a b => ?_⟩
  have k := h.2.1.2 i x l a b
  have hm := h.2.2.1 l (List.mem_of_getElem? b)
  exact own_at k.2 k.1 hm.1 hm.2
end Go.Proofs.YtfjcbgfgiidogaaDoor
namespace Go.Proofs.YtfjcbgfgiidogaaDoor
open Go.RowKit

set_option maxRecDepth 10000 in
set_option maxHeartbeats 400000 in
theorem refExp_any (n : Int) (w : World) :
    Calls Tryd.prog 98 #[.int .i64 n] w fun e w' => e = .returned (.int .u8 (pw (n % 255).toNat : Nat)) ∧ w = w' := by
  have h1 := tmod_lo n
  have h2 := tmod_hi n
  have H := Lib.hid (tmod_mod n)
  obtain ⟨t, ht⟩ : ∃ t, t = n.tmod 255 := ⟨_, rfl⟩
  by_cases h : n.tmod 255 < 0
  · go_enter Tryd.func98, Tryd.ntmps98
    go_wp2
    go_loop [3, 4] (fun p i => ∃ k : Nat, (k : Int) ≤ n.tmod 255 + 255 ∧ i = .int .i64 k ∧ p = .int .u8 (pw k : Nat)) (fun _ i => (n.tmod 255 + 255 - intOf i).toNat)
    case atStart => exact ⟨0, by omega, rfl, rfl⟩
    case round =>
      obtain ⟨k, hk, rfl, rfl⟩ := hrel
      have hp := pw_lt k
      by_cases hlt : (k : Int) < n.tmod 255 + 255
      · go_wp2_with (first | (go_at_call 106; (with_reducible refine (refMul_nat2 _ _ (by omega)).mono ?_); rintro e w' ⟨rfl, rfl⟩))
        go_round
        case rel => exact ⟨k + 1, by omega, by go_num, by simp [pw, dblN]⟩
        case measure => simp [intOf]; omega
      · go_wp2
        go_ret
        refine ⟨ret_int ?_, rfl⟩
        have := H.out
        rw [if_pos h] at this
        rw [this, show k = (n.tmod 255 + 255).toNat by omega]
  · go_enter Tryd.func98, Tryd.ntmps98
    go_wp2
    go_loop [3, 4] (fun p i => ∃ k : Nat, (k : Int) ≤ n.tmod 255 ∧ i = .int .i64 k ∧ p = .int .u8 (pw k : Nat)) (fun _ i => (n.tmod 255 - intOf i).toNat)
    case atStart => exact ⟨0, by omega, rfl, rfl⟩
    case round =>
      obtain ⟨k, hk, rfl, rfl⟩ := hrel
      have hp := pw_lt k
      by_cases hlt : (k : Int) < n.tmod 255
      · go_wp2_with (first | (go_at_call 106; (with_reducible refine (refMul_nat2 _ _ (by omega)).mono ?_); rintro e w' ⟨rfl, rfl⟩))
        go_round
        case rel => exact ⟨k + 1, by omega, by go_num, by simp [pw, dblN]⟩
        case measure => simp [intOf]; omega
      · go_wp2
        go_ret
        refine ⟨ret_int ?_, rfl⟩
        have := H.out
        rw [if_neg (by omega)] at this
        rw [this, show k = (n.tmod 255).toNat by omega]
end Go.Proofs.YtfjcbgfgiidogaaDoor
