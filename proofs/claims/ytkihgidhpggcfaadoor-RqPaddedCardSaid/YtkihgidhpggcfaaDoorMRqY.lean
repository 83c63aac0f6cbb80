/-
  rilllaw04: RqPadded.
-/
import Derived.Test.YtkihgidhpggcfaaDoorMRqX
namespace Go.Proofs.YtkihgidhpggcfaaDoor
open Go.RowKit

def lenV : Value → Nat
  | .slice _ n _ => n
  | _ => 0
theorem pad_code {k t m : Nat} {src X : List (List Nat)} (h : SrcOK src k t) (hX : innerR src = (X, 0)) (hP : innerR (padS src k t) = (X, 0)) (hm : m ≤ 1048576) :
    encodeR src [(k : Int) + (m : Int)] = ([((k : Int) + (m : Int), mixS X (symR k (k + m)))], 0) ∧ encodeR (padS src k t) [((cKp k : Nat) : Int) + (m : Int)] = ([(((cKp k : Nat) : Int) + (m : Int), mixS X (symR k (k + m)))], 0) := by
  obtain ⟨f1, f2, f3, f4, f5, f6, -⟩ := code_facts h.k1 h.k2
  have hk2 := h.k2
  have e1 := encode_val h hX [(k : Int) + (m : Int)]
  have e2 := encode_val (pad_src h) hP [((cKp k : Nat) : Int) + (m : Int)]
  have o1 : okE ((k : Int) + (m : Int)) = true := okE_iff.2 (by omega)
  have o2 : okE (((cKp k : Nat) : Int) + (m : Int)) = true := okE_iff.2 (by omega)
  rw [if_pos (by simp only [List.all_cons, List.all_nil, o1, Bool.and_true])] at e1
  rw [if_pos (by simp only [List.all_cons, List.all_nil, o2, Bool.and_true])] at e2
  simp only [List.map_cons, List.map_nil, pieceOf] at e1 e2
  rw [show ((k : Int) + (m : Int)).toNat = k + m by omega] at e1
  rw [show (((cKp k : Nat) : Int) + (m : Int)).toNat = cKp k + m by omega, sym_pad f4] at e2
  exact ⟨e1, e2⟩
theorem rep_last {α : Type} (a : List α) (j : Nat) (x : α) : (a ++ List.replicate j x) ++ [x] = a ++ List.replicate (j + 1) x := by rw [List.append_assoc, rep_succ]

set_option maxRecDepth 100000 in
set_option maxHeartbeats 8000000 in
theorem rqPadded_walk (a1 : Option Addr) (n1 c1 : Nat) (s1 : List HdT) (l1 : List (List Nat)) (z : Int) (w : World) (hg : Bnd w)
    (v1 : RowV w a1 n1 (s1.map SV)) (r1 : RowsV w s1 l1) (t1 : n1 * 24 ≤ 140737488351232) (_w1 : (Lit.int .i64 z).wf = true) :
    Calls Tryd.prog 13 #[.slice a1 n1 c1, .int .i64 z] w fun e w' => e = .returned (.bool true) ∧ Below w.heap.size w w' := by
  obtain ⟨i0, hi, hz0, hz1, hz2⟩ := info_parts Tryd.info28
  obtain ⟨j0, hj, hy0, hy1, hy2⟩ := info_parts Tryd.info5
  have h1 : RD w a1 n1 l1 := ⟨by rw [← r1.1]; have := v1.1; simpa using this, s1, v1, r1⟩
  have HE1 := Lib.hid h1.1
  have H1 := Lib.hid h1
  have HG := Lib.hid hg
  clear h1 v1 r1 hg
  go_enter Tryd.func13, Tryd.ntmps13
  go_wp2_with fail
  (with_reducible refine (alive_any _ HG.out).mono ?_)
  rintro e w1 ⟨rfl, hb1⟩
  go_wp2_with fail
  (with_reducible refine (source_rd _ _ _ l1 _ (H1.out.below hb1) (by omega)).mono ?_)
  rintro e w2 ⟨b, rfl, b2, hsrc⟩
  have hb2 := hb1.trans (b2.mono hb1.size)
  clear b2 hb1
  cases b with
  | false =>
    clear hsrc
    go_wp2
    go_ret
    exact ⟨rfl, hb2⟩
  | true =>
    obtain ⟨k, t, hS⟩ := hsrc rfl
    clear hsrc
    by_cases hz : 0 ≤ z
    rotate_left 1
    · go_wp2
      go_ret
      exact ⟨rfl, hb2⟩
    obtain ⟨m, rfl⟩ : ∃ m : Nat, z = (m : Int) := ⟨z.toNat, by omega⟩
    clear hz
    by_cases hm : m ≤ 1048576
    rotate_left 1
    · go_wp2
      go_ret
      exact ⟨rfl, hb2⟩
    obtain ⟨X, hX, hXP, hXl, hXr⟩ := inner_pad hS
    obtain rfl : n1 = k := by rw [← HE1.out]; exact hS.len
    have hk2 := hS.k2
    have hk1 := hS.k1
    have ht2 := hS.t2
    obtain ⟨f1, f2, f3, f4, f5, f6, -⟩ := code_facts hk1 hk2
    obtain ⟨pc1, pc2⟩ := pad_code hS hX hXP hm
    have hPAD : padS l1 n1 t = l1 ++ List.replicate (cKp n1 - n1) (zs t) := rfl
    have hPL : (padS l1 n1 t).length = cKp n1 := (pad_src hS).len
    obtain ⟨y, hy⟩ : ∃ y, y = mixS X (symR n1 (n1 + m)) := ⟨_, rfl⟩
    rw [← hy] at pc1 pc2
    obtain ⟨g1, g2, g3⟩ := cL_facts hk1 hk2
    have hX1000 : X.length ≤ 1000 := by omega
    have KP := params_any n1 w2 hk1 hk2
    unfold codeV at KP
    generalize cKp n1 = K at f1 f2 f3 f4 f5 f6 pc2 hPAD hPL KP
    generalize padS l1 n1 t = PD at hXP pc2 hPAD hPL
    have HI1 := Lib.hid hX
    have HI2 := Lib.hid hXP
    have HP1 := Lib.hid pc1
    have HP2 := Lib.hid pc2
    have HPD := Lib.hid hPAD
    have HPL := Lib.hid hPL
    have hwid := hS.wid
    obtain ⟨b0, off0, xa, t0, xc, r0, rfl, hc0, hr0, hB0⟩ := H1.out.at (i := 0) (by omega)
    have ht0 : t0 = t := by
      rw [← hwid]
      unfold widthB
      rw [List.getD_eq_getElem?_getD, hr0]
      exact hB0.length.symm
    subst ht0
    rw [Nat.add_zero] at hc0
    have i0' : (0 : Int) < (n1 : Int) := by omega
    clear hS hX hXP pc1 pc2 hPAD hPL hXl hXr hwid hr0 hB0 hy f5 f6
    go_wp2_with fail
    (with_reducible refine KP.mono ?_)
    rintro e w3 ⟨rfl, b3⟩
    have hb3 := hb2.trans (b3.mono hb2.size)
    obtain ⟨W, hW⟩ : ∃ W, W = w3.alloc (.cells #[.int .i64 (n1 : Nat), .int .i64 (K : Nat), .int .i64 (cS n1 : Nat), .int .i64 4, .int .i64 (cL n1 : Nat), .int .i64 (cW n1 : Nat), .int .i64 (cP n1 : Nat), .int .i64 (cP1 n1 : Nat), .int .i64 (cB n1 : Nat), .int .i64 (cJ n1 : Nat)] 63) := ⟨_, rfl⟩
    have hbW : Below w.heap.size w W := by rw [hW]; exact hb3.alloc hb3.size _
    have hq : W.cell? ⟨w3.heap.size, 1, none⟩ = some (.int .i64 (K : Nat)) := by rw [hW, cell_of_row _ _ _ _ _ _ (heap_alloc_new w3 _)]; rfl
    have HW := Lib.hid hW
    have HBW := Lib.hid hbW
    clear KP b3 hb2 hW hbW
    have hKm : ((K : Int) > 32) = False := by simp; omega
    have hKb : (decide (32 < (K : Int))) = false := by simp; omega
    go_wp2_with fail
    rw [← HW.out]
    (with_reducible refine (copyRows_own _ _ _ l1 _ (H1.out.below HBW.out) (by omega)).mono ?_)
    rintro e w4 ⟨a4, c4, rfl, hO4, b4⟩
    have hb4 := HBW.out.trans (b4.mono HBW.out.size)
    have hO0 : OwnRs w4 W.heap.size a4 (n1 + 0) c4 (l1 ++ List.replicate 0 (zs t0)) := by
      simp only [List.replicate_zero, List.append_nil, Nat.add_zero]
      exact hO4
    have hbs4 : Below W.heap.size W w4 := b4
    have HO0 := Lib.hid hO0
    have HB0 := Lib.hid hbs4
    clear hO4 b4 hO0 hbs4 hb4
    go_wp2_with fail
    go_loopw [7] (fun vf wr => ∃ (j : Nat) (av : Option Addr) (cv : Nat), j ≤ K - n1 ∧ vf = .slice av (n1 + j) cv ∧ Hid (OwnRs wr W.heap.size av (n1 + j) cv (l1 ++ List.replicate j (zs t0))) ∧ Hid (Below W.heap.size W wr)) (fun vf _ => K - lenV vf)
    case atStart => exact ⟨0, _, _, Nat.zero_le _, rfl, HO0, HB0⟩
    case round =>
      clear HO0 HB0
      obtain ⟨j, av, cv, hjK, rfl, hO, hB⟩ := hrel
      have hbr := HBW.out.trans (hB.out.mono HBW.out.size)
      have k0 := cell_below hc0 hbr
      have k1 := cell_below hq hB.out
      have hsz := hB.out.size
      by_cases hlt : n1 + j < K
      · go_wp2_with (first | (at_make; refine Hid.out ?_))
        refine Lib.hid ?_
        refine wpList_make_full _ rfl _ _ 28 rfl W.heap.size 5 j0 (.int .u8 0) 1 Tryd.underlying28 hj hy0 hy1 _ _ _ _ t0 rfl rfl rfl rfl (by rw [hy2]; omega) (by unfold maxLen; omega) hsz ?_
        intro w5 hown5 hgrow5
        rw [show (Value.int .u8 0).cells = #[.int .u8 0] from rfl, Nat.mul_one, toList_madeCells_one, ← bv_zs] at hown5
        have b5 : Below wr.heap.size wr w5 := ⟨hgrow5.os, hgrow5.tape, hgrow5.output, hgrow5.size, fun i hi => hgrow5.block i hi (by simp)⟩
        obtain ⟨hl5, hs, ho, hOO, hom⟩ := hO.out.below b5
        have ho5 := ho.alloc (.cells #[SV (some ⟨wr.heap.size, 0, none⟩, t0, t0)] 28)
        have hb5 := hB.out.trans (b5.mono hB.out.size)
        have hb6 := hb5.alloc hb5.size (.cells #[SV (some ⟨wr.heap.size, 0, none⟩, t0, t0)] 28)
        have hbs6 := hb6.size
        have HOO := Lib.hid (hOO.below (below_alloc w5 (.cells #[SV (some ⟨wr.heap.size, 0, none⟩, t0, t0)] 28)))
        have HOM := Lib.hid hom
        have HX5 := Lib.hid (hown5.alloc (.cells #[SV (some ⟨wr.heap.size, 0, none⟩, t0, t0)] 28))
        clear hown5 hgrow5 hl5 ho hOO hom hO hb5 b5
        go_wp2_with (first | (at_builtin; refine Hid.out ?_))
        refine Lib.hid ?_
        refine wpList_append_row rfl _ _ 23 rfl W.heap.size 28 i0 (.slice none 0 0) 24 Tryd.underlying23 hi hz0 hz1 hz2 rfl _ _ _ rfl ho5 (some ⟨w5.heap.size, 0, none⟩) 1 1 [SV (some ⟨wr.heap.size, 0, none⟩, t0, t0)] rfl (rowV_lit w5 _ _ _ 1 _ rfl rfl rfl) (fun h => by cases h) (SV_one [(some ⟨wr.heap.size, 0, none⟩, t0, t0)]) (by simp [maxLen]; omega) (by omega) hbs6 ?_
        intro v' w9 hE9 g9 _
        have hb9 := below_grown hb6 g9 (ownBlock_ge ho5)
        obtain ⟨a9, c9, rfl, hO9⟩ := append_own (l := zs t0) ho5 HOO.out HOM.out hE9 g9 (by rw [zs_length]; exact HX5.out) (zs_length t0).symm ⟨zs_bytes t0, by rw [zs_length]; omega⟩
        rw [rep_last] at hO9
        have HO9 := Lib.hid hO9
        have HB9 := Lib.hid hb9
        clear ho5 hb6 hbs6 hE9 g9 hO9 hb9 hB
        go_wp2
        go_roundw
        case rel => exact ⟨j + 1, a9, c9, by omega, rfl, HO9, HB9⟩
        case measure => simp [lenV] <;> omega
      · obtain rfl : K = n1 + j := by omega
        have HOF := Lib.hid (show RD wr av (n1 + j) PD by
          have := hO.out.rd
          rw [HPD.out, show n1 + j - n1 = j by omega]
          exact this)
        have HK1 := Lib.hid k1
        have HBR := Lib.hid hbr
        have HW0 : Hid (W.heap.size ≤ wr.heap.size) := Lib.hid hsz
        clear hO hB hbr hsz
        go_wp2_with fail
        (with_reducible refine (copyRows_rd _ _ _ l1 _ (H1.out.below HBR.out) (by omega)).mono ?_)
        rintro e w5 ⟨a5, c5, rfl, h5, b5⟩
        have hb5 := HBR.out.trans (b5.mono HBR.out.size)
        have KI := inner_rd a5 n1 c5 l1 w5 h5 (HG.out.below hb5)
        rw [HI1.out] at KI
        have hF5 := HOF.out.below b5
        have hk5 := cell_below HK1.out b5
        clear b5 h5
        go_wp2_with fail
        (with_reducible refine KI.mono ?_)
        rintro e w6 ⟨a6, c6, rfl, h6, b6⟩
        simp only at h6 ⊢
        have hb6 := hb5.trans (b6.mono hb5.size)
        have hF6 := hF5.below b6
        have hk6 := cell_below hk5 b6
        have KJ := inner_rd av (n1 + j) cv PD w6 hF6 (HG.out.below hb6)
        rw [HI2.out] at KJ
        clear KI b6 hb5 hF5 hk5
        go_wp2_with fail
        (with_reducible refine KJ.mono ?_)
        rintro e w7 ⟨a7, c7, rfl, h7, b7⟩
        simp only at h7 ⊢
        have hb7 := hb6.trans (b7.mono hb6.size)
        have hF7 := hF6.below b7
        have hk7 := cell_below hk6 b7
        have KQ := sameRows_rd a6 X.length c6 X a7 X.length c7 X w7 (h6.below b7) h7 hX1000
        rw [decide_eq_true rfl] at KQ
        clear KJ b7 hb6 hF6 hk6 h6 h7
        go_wp2_with fail
        (with_reducible refine KQ.mono ?_)
        rintro e w8 ⟨rfl, b8⟩
        have hb8 := hb7.trans (b8.mono hb7.size)
        have hF8 := hF7.below b8
        have hk8 := cell_below hk7 b8
        clear KQ b8 hb7 hF7 hk7
        go_wp2_with fail
        (with_reducible refine (copyRows_rd _ _ _ l1 _ (H1.out.below hb8) (by omega)).mono ?_)
        rintro e w9 ⟨a9, c9, rfl, h9, b9⟩
        have hb9 := hb8.trans (b9.mono hb8.size)
        have hF9 := hF8.below b9
        have hk9 := cell_below hk8 b9
        have hb10 := hb9.alloc hb9.size (.cells #[.int .i64 ((n1 : Int) + (m : Int))] 3)
        have KE := encode_rd a9 n1 c9 l1 (some ⟨w9.heap.size, 0, none⟩) 1 1 [(n1 : Int) + (m : Int)] (w9.alloc (.cells #[.int .i64 ((n1 : Int) + (m : Int))] 3)) (h9.below (below_alloc _ _)) (intsV_litG w9 _ _ 1 [(n1 : Int) + (m : Int)] rfl rfl rfl (by omega)) (by omega) (HG.out.below hb10)
        rw [HP1.out] at KE
        have hFA := hF9.below (below_alloc w9 (.cells #[.int .i64 ((n1 : Int) + (m : Int))] 3))
        have hkA := cell_below hk9 (below_alloc w9 (.cells #[.int .i64 ((n1 : Int) + (m : Int))] 3))
        have hsA := hb10.size
        clear b9 hb8 hF8 hk8 hb9 hF9 hk9 h9
        go_wp2_with fail
        (with_reducible refine KE.mono ?_)
        rintro e w10 ⟨a10, c10, rfl, hP, b10⟩
        simp only [List.length_cons, List.length_nil, Nat.zero_add] at hP ⊢
        have hb11 := hb10.trans (b10.mono hsA)
        have hF11 := hFA.below b10
        have hk11 := cell_below hkA b10
        have hb12 := hb11.alloc hb11.size (.cells #[.int .i64 ((n1 : Int) + (j : Int) + (m : Int))] 3)
        have KE2 := encode_rd av (n1 + j) cv PD (some ⟨w10.heap.size, 0, none⟩) 1 1 [(n1 : Int) + (j : Int) + (m : Int)] (w10.alloc (.cells #[.int .i64 ((n1 : Int) + (j : Int) + (m : Int))] 3)) (hF11.below (below_alloc _ _)) (intsV_litG w10 _ _ 1 [(n1 : Int) + (j : Int) + (m : Int)] rfl rfl rfl (by omega)) (by omega) (HG.out.below hb12)
        have hp2 := HP2.out
        rw [Int.natCast_add] at hp2
        rw [hp2] at KE2
        clear hp2
        have hsB := hb12.size
        have hP12 := hP.below (below_alloc w10 (.cells #[.int .i64 ((n1 : Int) + (j : Int) + (m : Int))] 3))
        clear KE b10 hb10 hFA hkA hF11 hP hb11
        go_wp2_with fail
        (with_reducible refine KE2.mono ?_)
        rintro e w13 ⟨a13, c13, rfl, hQ, b13⟩
        simp only [List.length_cons, List.length_nil, Nat.zero_add] at hQ ⊢
        have hb13 := hb12.trans (b13.mono hsB)
        obtain ⟨bp, op, e, a2, n2, c2, l, rfl, p0, p1, hp0, hby⟩ := (hP12.below b13).pi.at (i := 0) (by omega)
        obtain ⟨bq, oq, e', a3, n3, c3, l', rfl, q0, q1, hq0, hbz⟩ := hQ.pi.at (i := 0) (by omega)
        simp only [List.getElem?_cons_zero, Option.some.injEq, Prod.mk.injEq] at hp0 hq0
        obtain ⟨rfl, rfl⟩ := hp0
        obtain ⟨rfl, rfl⟩ := hq0
        rw [Nat.zero_mul, Nat.add_zero] at p0 p1 q0 q1
        have HBY := Lib.hid hby
        have HBZ := Lib.hid hbz
        have HB13 := Lib.hid hb13
        have K1 : w13.cell? ⟨bp, op + 1, none⟩ = some (.slice a2 n2 c2) ∧ w13.cell? ⟨bq, oq + 1, none⟩ = some (.slice a3 n3 c3) := ⟨p1, q1⟩
        clear KE2 b13 hb12 hsB hP12 hQ p0 q0 p1 q1 hby hbz hb13 k0 k1
        go_wp2_with fail
        go_region_held3 (fun w' => w'.cell? ⟨bp, op + 1, none⟩ = some (.slice a2 n2 c2) ∧ w'.cell? ⟨bq, oq + 1, none⟩ = some (.slice a3 n3 c3)) (first | exact K1 | exact K3 | go_keep)
          (first
            | (go_at_call 20; (with_reducible refine (sameBytes_any a2 n2 c2 y a3 n3 c3 y _ ?h1 ?h2).mono ?_); (case h1 => exact HBY.out.below ⟨rfl, rfl, rfl, Nat.le_refl _, fun _ _ => rfl⟩); (case h2 => exact HBZ.out.below ⟨rfl, rfl, rfl, Nat.le_refl _, fun _ _ => rfl⟩); rintro e w14 ⟨rfl, d14⟩; rw [decide_eq_true rfl]; have b14 : Below w13.heap.size w13 w14 := ⟨d14.os, d14.tape, d14.output, d14.size, d14.block⟩; have K3 := (⟨cell_below K1.1 b14, cell_below K1.2 b14⟩ : w14.cell? ⟨bp, op + 1, none⟩ = some (.slice a2 n2 c2) ∧ w14.cell? ⟨bq, oq + 1, none⟩ = some (.slice a3 n3 c3))))
        have HB14 := Lib.hid (HB13.out.trans (b14.mono HB13.out.size))
        clear K3 K1 d14 b14
        go_wp2
        go_ret
        exact ⟨rfl, HB14.out⟩
end Go.Proofs.YtkihgidhpggcfaaDoor
