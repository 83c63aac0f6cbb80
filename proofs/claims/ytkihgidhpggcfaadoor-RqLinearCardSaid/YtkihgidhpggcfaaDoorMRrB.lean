/-
  rilllaw04: RqLinear.
-/
import Derived.Test.YtkihgidhpggcfaaDoorMRrE
import Derived.Test.YtkihgidhpggcfaaDoorMRrM
namespace Go.Proofs.YtkihgidhpggcfaaDoor
open Go.RowKit

theorem one_bytes (w : World) {k : Nat} (hk : k < 256) : BytesV (w.alloc (.cells #[.int .u8 1, .int .u8 (k : Nat)] 5)) (some ⟨w.heap.size, 0, none⟩, 2, 2) [1, k] :=
  bytesV_lit w _ _ _ 2 [1, k] rfl rfl rfl (fun x hx => by simp at hx; omega) (by omega)
theorem two_rows {w : World} {x y : HdT} {lx ly : List Nat} (hx : BytesV w x lx) (hy : BytesV w y ly) : RD (w.alloc (.cells #[SV x, SV y] 28)) (some ⟨w.heap.size, 0, none⟩) 2 [lx, ly] := by
  refine ⟨rfl, [x, y], rowV_lit w _ _ _ 2 _ rfl rfl rfl, rfl, fun i z l h1 h2 => ?_⟩
  match i with
  | 0 => simp at h1 h2; subst h1 h2; exact hx.below (below_alloc _ _)
  | 1 => simp at h1 h2; subst h1 h2; exact hy.below (below_alloc _ _)
  | i + 2 => simp at h1
theorem keep2 {W : World} {b1 o1 b2 o2 : Nat} {u v : Value} (o : Obj) (h : W.cell? ⟨b1, o1, none⟩ = some u ∧ W.cell? ⟨b2, o2, none⟩ = some v) : (W.alloc o).cell? ⟨b1, o1, none⟩ = some u ∧ (W.alloc o).cell? ⟨b2, o2, none⟩ = some v := ⟨cell_below h.1 (below_alloc W o), cell_below h.2 (below_alloc W o)⟩
theorem keep3 {W : World} {b1 o1 b2 o2 b3 o3 : Nat} {u v x : Value} (o : Obj) (h : W.cell? ⟨b1, o1, none⟩ = some u ∧ W.cell? ⟨b2, o2, none⟩ = some v ∧ W.cell? ⟨b3, o3, none⟩ = some x) : (W.alloc o).cell? ⟨b1, o1, none⟩ = some u ∧ (W.alloc o).cell? ⟨b2, o2, none⟩ = some v ∧ (W.alloc o).cell? ⟨b3, o3, none⟩ = some x := ⟨cell_below h.1 (below_alloc W o), cell_below h.2.1 (below_alloc W o), cell_below h.2.2 (below_alloc W o)⟩
theorem bv_at {w : World} {p q n c : Nat} {l : List Nat} (e : q = p) (h : BytesV w (some ⟨q, 0, none⟩, n, c) l) : BytesV w (some ⟨p, 0, none⟩, n, c) l := by rw [← e]; exact h
theorem rd_at {w : World} {p q n : Nat} {ls : List (List Nat)} (e : q = p) (h : RD w (some ⟨q, 0, none⟩) n ls) : RD w (some ⟨p, 0, none⟩) n ls := by rw [← e]; exact h
theorem zipP_take {a b : List (List Nat)} {k i : Nat} {x y : List Nat} (ha : a[i]? = some x) (hb : b[i]? = some y) : (List.zipWith (mixP k) a b).take (i + 1) = (List.zipWith (mixP k) a b).take i ++ [mixP k x y] :=
  take_step _ i _ (by rw [List.getElem?_zipWith, ha, hb])
set_option maxRecDepth 100000 in
set_option maxHeartbeats 16000000 in
theorem rqLinear_walk (a1 : Option Addr) (n1 c1 : Nat) (s1 : List HdT) (l1 : List (List Nat)) (a2 : Option Addr) (n2 c2 : Nat) (s2 : List HdT) (l2 : List (List Nat)) (kk : Int) (a3 : Option Addr) (n3 c3 : Nat) (l3 : List Int) (w : World) (hg : Bnd w)
    (v1 : RowV w a1 n1 (s1.map SV)) (r1 : RowsV w s1 l1) (t1 : n1 * 24 ≤ 140737488351232) (v2 : RowV w a2 n2 (s2.map SV)) (r2 : RowsV w s2 l2) (t2 : n2 * 24 ≤ 140737488351232) (w1 : (Lit.int .u8 kk).wf = true) (v3 : IntsV w (a3, n3, c3) l3) (_t3 : n3 * 8 ≤ 140737488351232) (_z3 : ∀ z ∈ l3, (Lit.int .i64 z).wf = true) :
    Calls Tryd.prog 9 #[.slice a1 n1 c1, .slice a2 n2 c2, .int .u8 kk, .slice a3 n3 c3] w fun e w' => e = .returned (.bool true) ∧ Below w.heap.size w w' := by
  obtain ⟨i0, hi, hz0, hz1, hz2⟩ := info_parts Tryd.info28
  have h1 : RD w a1 n1 l1 := ⟨by rw [← r1.1]; have := v1.1; simpa using this, s1, v1, r1⟩
  have h2 : RD w a2 n2 l2 := ⟨by rw [← r2.1]; have := v2.1; simpa using this, s2, v2, r2⟩
  have HE1 := Lib.hid h1.1
  have HE2 := Lib.hid h2.1
  have HE3 := Lib.hid (show l3.length = n3 from v3.length)
  have H1 := Lib.hid h1
  have H2 := Lib.hid h2
  have H3 := Lib.hid v3
  have HG := Lib.hid hg
  clear h1 h2 v1 r1 v2 r2 v3 hg
  obtain ⟨k, rfl, hk⟩ : ∃ k : Nat, kk = (k : Int) ∧ k < 256 := by
    have := wf_u8 w1
    exact ⟨kk.toNat, by omega, by omega⟩
  clear w1
  go_enter Tryd.func9, Tryd.ntmps9
  go_wp2_with fail
  (with_reducible refine (alive_any _ HG.out).mono ?_)
  rintro e w1 ⟨rfl, hb1⟩
  obtain ⟨B1, hB1⟩ : ∃ b, b = srcB l1 := ⟨_, rfl⟩
  obtain ⟨B2, hB2⟩ : ∃ b, b = srcB l2 := ⟨_, rfl⟩
  have HQ1 : Hid (∀ m, Calls Tryd.prog 34 #[.slice a1 n1 c1] (w1.drewN m) fun e w' => e = .returned (.bool B1) ∧ ∃ q, w' = (w1.drewN m).drewN q) := Lib.hid (fun m => by
    rw [hB1]; exact source_quiet a1 n1 c1 l1 _ ((H1.out.below hb1).below (below_drewNi (Below.refl _ _) m)) (by omega))
  have HQ2 : Hid (∀ m, Calls Tryd.prog 34 #[.slice a2 n2 c2] (w1.drewN m) fun e w' => e = .returned (.bool B2) ∧ ∃ q, w' = (w1.drewN m).drewN q) := Lib.hid (fun m => by
    rw [hB2]; exact source_quiet a2 n2 c2 l2 _ ((H2.out.below hb1).below (below_drewNi (Below.refl _ _) m)) (by omega))
  have HB1 := Lib.hid hB1
  have HB2 := Lib.hid hB2
  clear hB1 hB2
  cases B1 with
  | false =>
    go_wp2_with fail
    go_quiet (first | (go_at_call 34; (with_reducible exact Calls.quiet_of (HQ1.out _))))
    go_wp2
    go_ret
    exact ⟨rfl, below_drewR hb1 _⟩
  | true =>
  cases B2 with
  | false =>
    go_wp2_with fail
    go_quiet (first | (go_at_call 34; (with_reducible exact Calls.quiet_of (HQ1.out _))) | (go_at_call 34; (with_reducible exact Calls.quiet_of (HQ2.out _))))
    go_wp2
    go_ret
    exact ⟨rfl, below_drewR hb1 _⟩
  | true =>
  by_cases hn : n1 = n2
  rotate_left 1
  · have hn' : ((n1 : Int) != (n2 : Int)) = true := by simp; omega
    go_wp2_with fail
    go_quiet (first | (go_at_call 34; (with_reducible exact Calls.quiet_of (HQ1.out _))) | (go_at_call 34; (with_reducible exact Calls.quiet_of (HQ2.out _))))
    go_wp2
    go_ret
    exact ⟨rfl, below_drewR hb1 _⟩
  subst hn
  have hnf : ((n1 : Int) != (n1 : Int)) = false := by simp
  have hSA := src_ok H1.out.mem HB1.out.symm
  have hSB := src_ok H2.out.mem HB2.out.symm
  rw [HE1.out] at hSA
  rw [HE2.out] at hSB
  have hk1 := hSA.k1
  have hk2 := hSA.k2
  have ht2 := hSA.t2
  obtain ⟨bA, oA, xA, tA, cA, rA, rfl, hcA, hrA, hBA⟩ := H1.out.at (i := 0) (by omega)
  obtain ⟨bB, oB, xB, tB, cB, rB, rfl, hcB, hrB, hBB⟩ := H2.out.at (i := 0) (by omega)
  have hwA : widthB l1 = tA := by
    unfold widthB
    rw [List.getD_eq_getElem?_getD, hrA]
    exact hBA.length
  have hwB : widthB l2 = tB := by
    unfold widthB
    rw [List.getD_eq_getElem?_getD, hrB]
    exact hBB.length
  rw [Nat.add_zero] at hcA hcB
  rw [hwA] at hSA ht2
  rw [hwB] at hSB
  have i0' : (0 : Int) < (n1 : Int) := by omega
  have i00 : 0 < n1 := hk1
  have pA := cell_below hcA hb1
  have pB := cell_below hcB hb1
  have HSA := Lib.hid hSA
  have HSB := Lib.hid hSB
  clear hSA hSB hrA hrB hBA hBB hwA hwB
  by_cases ht : tA = tB
  rotate_left 1
  · have ht' : ((tA : Int) != (tB : Int)) = true := by simp; omega
    clear ht
    go_wp2_with fail
    go_quiet (first | (go_at_call 34; (with_reducible exact Calls.quiet_of (HQ1.out _))) | (go_at_call 34; (with_reducible exact Calls.quiet_of (HQ2.out _))))
    go_wp2
    go_ret
    exact ⟨rfl, below_drewR hb1 _⟩
  subst ht
  have htf : ((tA : Int) != (tA : Int)) = false := by simp
  by_cases hn3 : n3 ≤ 40
  rotate_left 1
  · go_wp2_with fail
    go_quiet (first | (go_at_call 34; (with_reducible exact Calls.quiet_of (HQ1.out _))) | (go_at_call 34; (with_reducible exact Calls.quiet_of (HQ2.out _))))
    go_wp2
    go_ret
    exact ⟨rfl, below_drewR hb1 _⟩
  go_wp2_with fail
  go_quiet (first | (go_at_call 34; (with_reducible exact Calls.quiet_of (HQ1.out _))) | (go_at_call 34; (with_reducible exact Calls.quiet_of (HQ2.out _))))
  have hbq := below_drewR hb1 nq
  generalize w1.drewN nq = wq at hbq ⊢
  have hsq := hbq.size
  have HM0 := Lib.hid (HdV.made (B := w.heap.size) (w := wq) hsq)
  have HB0 := Lib.hid (hbq.alloc hsq (.cells #[] 28))
  clear hbq hsq HQ1 HQ2 HB1 HB2 pA pB hnf htf
  go_upto_block 0 with fail
  generalize wq.alloc (.cells #[] 28) = w2 at HM0 HB0 ⊢
  obtain ⟨ZS, hZS⟩ : ∃ Z, Z = List.zipWith (mixP k) l1 l2 := ⟨_, rfl⟩
  have HZS := Lib.hid hZS
  have hZl : ZS.length = n1 := by rw [hZS, List.length_zipWith, HE1.out, HE2.out, Nat.min_self]
  have HZL := Lib.hid hZl
  have HM1 : Hid (HdV w2 w.heap.size (some ⟨wq.heap.size, 0, none⟩) 0 0 (ZS.take 0)) := by exact HM0
  clear hZS hZl HM0
  go_wp2_with fail
  go_loopw [9, 10] (fun vs vi wr => ∃ (i g c : Nat), i ≤ n1 ∧ vi = .int .i64 (i : Nat) ∧ vs = .slice (some ⟨g, 0, none⟩) i c ∧ Hid (HdV wr w.heap.size (some ⟨g, 0, none⟩) i c (ZS.take i)) ∧ Hid (Below w.heap.size w wr)) (fun _ vi _ => (n1 - intOf vi).toNat)
  case atStart => exact ⟨0, _, 0, Nat.zero_le _, rfl, rfl, HM1, HB0⟩
  case round =>
    clear HM1 HB0
    obtain ⟨i, g, c, hi', rfl, rfl, hM, hB⟩ := hrel
    by_cases hlt : i < n1
    · obtain ⟨b3, o3, xa, xn, xc, lx, e, q0, hlx, hbx⟩ := H1.out.at hlt
      injection e with e
      injection e with e1 e2
      subst e1 e2
      obtain ⟨b4, o4, ya, yn, yc, ly, e, q1, hly, hby⟩ := H2.out.at hlt
      injection e with e
      injection e with e1 e2
      subst e1 e2
      have HQ := Lib.hid (And.intro q0 q1)
      have K0 : wr.cell? ⟨bA, oA + i, none⟩ = some (.slice xa xn xc) ∧ wr.cell? ⟨bB, oB + i, none⟩ = some (.slice ya yn yc) := ⟨cell_below q0 hB.out, cell_below q1 hB.out⟩
      have HXB := Lib.hid (hbx.below hB.out)
      have HYB := Lib.hid (hby.below hB.out)
      have HLX : Hid (lx.length ≤ 140737488355328) := Lib.hid (by rw [hbx.length]; exact hbx.small)
      have HLY : Hid (ly.length ≤ 140737488355328) := Lib.hid (by rw [hby.length]; exact hby.small)
      have hxt : lx.length = tA := (HSA.out.rws _ (List.mem_of_getElem? hlx)).2
      have hyt : ly.length = tA := (HSB.out.rws _ (List.mem_of_getElem? hly)).2
      obtain ⟨y, hy⟩ : ∃ y, y = mixP k lx ly := ⟨_, rfl⟩
      have hT : ZS.take (i + 1) = ZS.take i ++ [y] := by rw [hy, HZS.out]; exact zipP_take hlx hly
      have hyb : Bytes y ∧ y.length ≤ 64 := by rw [hy]; exact ⟨mixP_bytes hk, by rw [mixP_length hxt hyt]; exact ht2⟩
      have KX := fun W h => copyBytes_any xa xn xc lx W h
      have KY := fun W h => copyBytes_any ya yn yc ly W h
      have KM : ∀ (p q : Addr) (W : World), BytesV W (some p, 2, 2) [1, k] → RD W (some q) 2 [lx, ly] → Calls Tryd.prog 35 #[.slice (some p) 2 2, .slice (some q) 2 2] W (GivesBytes 5 W y) := fun p q W h1 h2 => by rw [hy]; exact mix_rd (some p) 2 2 [1, k] (some q) 2 2 [lx, ly] W h1 h2 (by omega)
      have HT := Lib.hid hT
      have HYY := Lib.hid hyb
      have hsz := hB.out.size
      have j0' : (0 : Int) ≤ (i : Int) := by omega
      have j1' : (i : Int) < (n1 : Int) := by omega
      clear q0 q1 hlx hly hbx hby hxt hyt hy hT hyb
      go_wp2_with fail
      go_region_held3 (fun w' => w'.cell? ⟨bA, oA + i, none⟩ = some (.slice xa xn xc) ∧ w'.cell? ⟨bB, oB + i, none⟩ = some (.slice ya yn yc)) (first | exact K0 | assumption | exact keep2 _ K0 | exact keep2 _ (by assumption) | exact keep2 _ (keep2 _ (by assumption)))
        (first
          | (go_at_call 36; (with_reducible refine (KX _ ?hh).mono ?_); (case hh => exact HXB.out.below ⟨rfl, rfl, rfl, Nat.le_refl _, fun _ _ => rfl⟩); rintro e w20 ⟨a20, c20, rfl, o20, d20⟩; have b20 : Below wr.heap.size wr w20 := ⟨d20.os, d20.tape, d20.output, d20.size, d20.block⟩; have K20 : w20.cell? ⟨bA, oA + i, none⟩ = some (.slice xa xn xc) ∧ w20.cell? ⟨bB, oB + i, none⟩ = some (.slice ya yn yc) := ⟨cell_below K0.1 b20, cell_below K0.2 b20⟩; have x20 := bytesV_of_owns o20 HXB.out.bytes HLX.out)
          | (go_at_call 36; (with_reducible refine (KX _ ?hh).mono ?_); (case hh => exact (HXB.out.below (below_alloc wr (.cells #[.int .u8 1, .int .u8 (k : Nat)] 5))).below ⟨rfl, rfl, rfl, Nat.le_refl _, fun _ _ => rfl⟩); rintro e w20 ⟨a20, c20, rfl, o20, d20⟩; have e20 : Below (wr.alloc (.cells #[.int .u8 1, .int .u8 (k : Nat)] 5)).heap.size (wr.alloc (.cells #[.int .u8 1, .int .u8 (k : Nat)] 5)) w20 := ⟨d20.os, d20.tape, d20.output, d20.size, d20.block⟩; have b20 : Below wr.heap.size wr w20 := (below_alloc wr (.cells #[.int .u8 1, .int .u8 (k : Nat)] 5)).trans (e20.mono (below_alloc wr (.cells #[.int .u8 1, .int .u8 (k : Nat)] 5)).size); have one20 := (one_bytes wr hk).below e20; have K20 : w20.cell? ⟨bA, oA + i, none⟩ = some (.slice xa xn xc) ∧ w20.cell? ⟨bB, oB + i, none⟩ = some (.slice ya yn yc) := ⟨cell_below K0.1 b20, cell_below K0.2 b20⟩; have x20 := bytesV_of_owns o20 HXB.out.bytes HLX.out)
          | (go_at_call 36; (with_reducible refine (KY _ ?hh).mono ?_); (case hh => exact (HYB.out.below b20).below ⟨rfl, rfl, rfl, Nat.le_refl _, fun _ _ => rfl⟩); rintro e w21 ⟨a21, c21, rfl, o21, d21⟩; have e21 : Below w20.heap.size w20 w21 := ⟨d21.os, d21.tape, d21.output, d21.size, d21.block⟩; have b21 : Below wr.heap.size wr w21 := b20.trans (e21.mono b20.size); (try have one21 := one20.below e21); have K21 : w21.cell? ⟨bA, oA + i, none⟩ = some (.slice xa xn xc) ∧ w21.cell? ⟨bB, oB + i, none⟩ = some (.slice ya yn yc) := ⟨cell_below K0.1 b21, cell_below K0.2 b21⟩; have x21 := x20.below e21; have y21 := bytesV_of_owns o21 HYB.out.bytes HLY.out)
          | (go_at_call 36; (with_reducible refine (KY _ ?hh).mono ?_); (case hh => exact (HYB.out.below b20).below (below_alloc w20 (.cells #[.int .u8 1, .int .u8 (k : Nat)] 5))); rintro e w21 ⟨a21, c21, rfl, o21, d21⟩; have e21 : Below w20.heap.size w20 w21 := (below_alloc w20 (.cells #[.int .u8 1, .int .u8 (k : Nat)] 5)).trans (d21.mono (below_alloc w20 (.cells #[.int .u8 1, .int .u8 (k : Nat)] 5)).size); have b21 : Below wr.heap.size wr w21 := b20.trans (e21.mono b20.size); have one21 := (one_bytes w20 hk).below d21; have K21 : w21.cell? ⟨bA, oA + i, none⟩ = some (.slice xa xn xc) ∧ w21.cell? ⟨bB, oB + i, none⟩ = some (.slice ya yn yc) := ⟨cell_below K0.1 b21, cell_below K0.2 b21⟩; have x21 := x20.below e21; have y21 := bytesV_of_owns o21 HYB.out.bytes HLY.out)
          | (go_at_call 35; (with_reducible refine (KM _ _ _ ?h1 ?h2).mono ?_); (case h1 => exact one21.below (below_alloc w21 (.cells #[.slice a20 lx.length c20, .slice a21 ly.length c21] 28))); (case h2 => exact two_rows x21 y21); rintro e w22 ⟨a22, c22, rfl, o22, d22⟩; have e22 : Below w21.heap.size w21 w22 := (below_alloc w21 (.cells #[.slice a20 lx.length c20, .slice a21 ly.length c21] 28)).trans (d22.mono (below_alloc w21 (.cells #[.slice a20 lx.length c20, .slice a21 ly.length c21] 28)).size); have b22 := b21.trans (e22.mono b21.size); have K22 : w22.cell? ⟨bA, oA + i, none⟩ = some (.slice xa xn xc) ∧ w22.cell? ⟨bB, oB + i, none⟩ = some (.slice ya yn yc) := ⟨cell_below K0.1 b22, cell_below K0.2 b22⟩; have o22' := (ownsRow_base (base' := w.heap.size) o22 (by have := hB.out.size; have := b21.size; simp; omega)).alloc (.cells #[.slice a22 y.length c22] 28); have hb22 := hB.out.trans (b22.mono hsz); have hb23 := hb22.alloc hb22.size (.cells #[.slice a22 y.length c22] 28); have K23 : (w22.alloc (.cells #[.slice a22 y.length c22] 28)).cell? ⟨bA, oA + i, none⟩ = some (.slice xa xn xc) ∧ (w22.alloc (.cells #[.slice a22 y.length c22] 28)).cell? ⟨bB, oB + i, none⟩ = some (.slice ya yn yc) := ⟨cell_below HQ.out.1 hb23, cell_below HQ.out.2 hb23⟩; obtain ⟨hl7, hs7, ho7, hq7, hr7⟩ := (hM.out.below b22).below (below_alloc w22 (.cells #[.slice a22 y.length c22] 28)); have hbs23 := hb23.size; have HQ7 := Lib.hid hq7; have HR7 := Lib.hid hr7; clear hl7 hq7 hr7)
          | (go_at_call 35; (with_reducible refine (KM _ _ _ ?h1 ?h2).mono ?_); (case h1 => exact (one_bytes w21 hk).below (below_alloc (w21.alloc (.cells #[.int .u8 1, .int .u8 (k : Nat)] 5)) (.cells #[.slice a20 lx.length c20, .slice a21 ly.length c21] 28))); (case h2 => exact rd_at (by simp) (two_rows (x21.below (below_alloc w21 (.cells #[.int .u8 1, .int .u8 (k : Nat)] 5))) (y21.below (below_alloc w21 (.cells #[.int .u8 1, .int .u8 (k : Nat)] 5))))); rintro e w22 ⟨a22, c22, rfl, o22, d22⟩; have e22 : Below w21.heap.size w21 w22 := ((below_alloc w21 (.cells #[.int .u8 1, .int .u8 (k : Nat)] 5)).trans ((below_alloc (w21.alloc (.cells #[.int .u8 1, .int .u8 (k : Nat)] 5)) (.cells #[.slice a20 lx.length c20, .slice a21 ly.length c21] 28)).mono (by simp))).trans (d22.mono ((below_alloc w21 (.cells #[.int .u8 1, .int .u8 (k : Nat)] 5)).trans ((below_alloc (w21.alloc (.cells #[.int .u8 1, .int .u8 (k : Nat)] 5)) (.cells #[.slice a20 lx.length c20, .slice a21 ly.length c21] 28)).mono (by simp))).size); have b22 := b21.trans (e22.mono b21.size); have K22 : w22.cell? ⟨bA, oA + i, none⟩ = some (.slice xa xn xc) ∧ w22.cell? ⟨bB, oB + i, none⟩ = some (.slice ya yn yc) := ⟨cell_below K0.1 b22, cell_below K0.2 b22⟩; have o22' := (ownsRow_base (base' := w.heap.size) o22 (by have := hB.out.size; have := b21.size; simp; omega)).alloc (.cells #[.slice a22 y.length c22] 28); have hb22 := hB.out.trans (b22.mono hsz); have hb23 := hb22.alloc hb22.size (.cells #[.slice a22 y.length c22] 28); have K23 : (w22.alloc (.cells #[.slice a22 y.length c22] 28)).cell? ⟨bA, oA + i, none⟩ = some (.slice xa xn xc) ∧ (w22.alloc (.cells #[.slice a22 y.length c22] 28)).cell? ⟨bB, oB + i, none⟩ = some (.slice ya yn yc) := ⟨cell_below HQ.out.1 hb23, cell_below HQ.out.2 hb23⟩; obtain ⟨hl7, hs7, ho7, hq7, hr7⟩ := (hM.out.below b22).below (below_alloc w22 (.cells #[.slice a22 y.length c22] 28)); have hbs23 := hb23.size; have HQ7 := Lib.hid hq7; have HR7 := Lib.hid hr7; clear hl7 hq7 hr7)
          | (go_at_call 35; (with_reducible refine (KM _ _ _ ?h1 ?h2).mono ?_); (case h1 => exact bv_at (by simp) (one_bytes (w21.alloc (.cells #[.slice a20 lx.length c20, .slice a21 ly.length c21] 28)) hk)); (case h2 => exact (two_rows x21 y21).below (below_alloc (w21.alloc (.cells #[.slice a20 lx.length c20, .slice a21 ly.length c21] 28)) (.cells #[.int .u8 1, .int .u8 (k : Nat)] 5))); rintro e w22 ⟨a22, c22, rfl, o22, d22⟩; have e22 : Below w21.heap.size w21 w22 := ((below_alloc w21 (.cells #[.slice a20 lx.length c20, .slice a21 ly.length c21] 28)).trans ((below_alloc (w21.alloc (.cells #[.slice a20 lx.length c20, .slice a21 ly.length c21] 28)) (.cells #[.int .u8 1, .int .u8 (k : Nat)] 5)).mono (by simp))).trans (d22.mono ((below_alloc w21 (.cells #[.slice a20 lx.length c20, .slice a21 ly.length c21] 28)).trans ((below_alloc (w21.alloc (.cells #[.slice a20 lx.length c20, .slice a21 ly.length c21] 28)) (.cells #[.int .u8 1, .int .u8 (k : Nat)] 5)).mono (by simp))).size); have b22 := b21.trans (e22.mono b21.size); have K22 : w22.cell? ⟨bA, oA + i, none⟩ = some (.slice xa xn xc) ∧ w22.cell? ⟨bB, oB + i, none⟩ = some (.slice ya yn yc) := ⟨cell_below K0.1 b22, cell_below K0.2 b22⟩; have o22' := (ownsRow_base (base' := w.heap.size) o22 (by have := hB.out.size; have := b21.size; simp; omega)).alloc (.cells #[.slice a22 y.length c22] 28); have hb22 := hB.out.trans (b22.mono hsz); have hb23 := hb22.alloc hb22.size (.cells #[.slice a22 y.length c22] 28); have K23 : (w22.alloc (.cells #[.slice a22 y.length c22] 28)).cell? ⟨bA, oA + i, none⟩ = some (.slice xa xn xc) ∧ (w22.alloc (.cells #[.slice a22 y.length c22] 28)).cell? ⟨bB, oB + i, none⟩ = some (.slice ya yn yc) := ⟨cell_below HQ.out.1 hb23, cell_below HQ.out.2 hb23⟩; obtain ⟨hl7, hs7, ho7, hq7, hr7⟩ := (hM.out.below b22).below (below_alloc w22 (.cells #[.slice a22 y.length c22] 28)); have hbs23 := hb23.size; have HQ7 := Lib.hid hq7; have HR7 := Lib.hid hr7; clear hl7 hq7 hr7)
          | (refine step_append_lies _ rfl (.tmp 58) (.tmp 73) 23 rfl w.heap.size 28 i0 (.slice none 0 0) 1 24 Tryd.underlying23 hi hz0 hz1 hz2 rfl (by decide) (.slice (some ⟨g, 0, none⟩) i c) i (hs7.map SV) (by rfl) ho7 ⟨w22.heap.size, 0, none⟩ 1 1 [SV (a22, y.length, c22)] (by rfl) (by rfl) (World.news_of_block (heap_alloc_new w22 _)) (by intro u hu; simp at hu; subst hu; rfl) (by decide) (by simp [maxLen]; omega) (by omega) hbs23 _ rfl ?_; intro g9 c9 w9 hE9 g9' _ _; have hb9 := below_grown hb23 g9' (fun k e => ownBlock_ge ho7 k e); have K24 : w9.cell? ⟨bA, oA + i, none⟩ = some (.slice xa xn xc) ∧ w9.cell? ⟨bB, oB + i, none⟩ = some (.slice ya yn yc) := ⟨cell_below HQ.out.1 hb9, cell_below HQ.out.2 hb9⟩))
      all_goals
        have hat : RowAt (w22.alloc (.cells #[.slice a22 y.length c22] 28)) w.heap.size (a22, y.length, c22) y := own_at o22' rfl HYY.out.1 (by have := HYY.out.2; omega)
        obtain ⟨a9, c9', e9, hM9⟩ := hd_append (ks := [(a22, y.length, c22)]) (xs := [y]) ho7 HQ7.out HR7.out rfl rfl (one_at hat) hE9 g9'
        cases e9
        rw [← HT.out] at hM9
        have HM9 := Lib.hid hM9
        have HB9 := Lib.hid hb9
        clear hat hM9 hb9 hE9 g9' ho7 hbs23 hb22 hb23 o22' o22 d22 e22 b22 K22 K23 K24 K0 K20 K21 x20 x21 y21 o20 o21 d20 d21 b20 b21 e21
        (try clear one20)
        (try clear e20)
        (try clear one21)
        go_wp2
        go_roundw
        case rel => exact ⟨i + 1, g9, c9, by omega, by go_num, rfl, HM9, HB9⟩
        case measure => simp [intOf] <;> omega
    · obtain rfl : i = n1 := by omega
      obtain ⟨X, Y, hX, hY, hZ, hXl, hYl, hXr, hYr, hpc⟩ := inner_sum hk HSA.out HSB.out
      have hEA := encode_val HSA.out hX l3
      have hEB := encode_val HSB.out hY l3
      have hEZ := encode_val (sum_src hk HSA.out HSB.out) hZ l3
      rw [← HZS.out] at hEZ
      have HPC := Lib.hid hpc
      have hM' := hM.out
      rw [List.take_of_length_le (by rw [HZL.out]; exact Nat.le_refl _)] at hM'
      have HS := Lib.hid hM'.rd
      have HEA := Lib.hid hEA
      have HEB := Lib.hid hEB
      have HEZ := Lib.hid hEZ
      have HB := Lib.hid hB.out
      have hgl3 : l3.length ≤ 1000 := by rw [HE3.out]; omega
      clear hX hY hZ hXl hYl hXr hYr hpc hEA hEB hEZ hM' hM hB hi' hlt
      go_wp2_with fail
      (with_reducible refine (copyRows_rd _ _ _ l1 _ (H1.out.below HB.out) (by omega)).mono ?_)
      rintro e w3 ⟨a4, c4, rfl, h4, b3⟩
      have hb3 := HB.out.trans (b3.mono HB.out.size)
      have HS := Lib.hid (HS.out.below b3)
      have H4 := Lib.hid h4
      clear b3 h4
      go_wp2_with fail
      (with_reducible refine (copyInts_rd _ _ _ l3 _ (H3.out.below hb3) (by omega)).mono ?_)
      rintro e w4 ⟨a5, c5, rfl, o5, b4⟩
      have hb4 := hb3.trans (b4.mono hb3.size)
      have HS := Lib.hid (HS.out.below b4)
      have KE := encode_rd a4 i c4 l1 a5 l3.length c5 l3 w4 (H4.out.below b4) (intsV_ownQ o5 (by omega)) hgl3 (HG.out.below hb4)
      rw [HEA.out] at KE
      clear b4 hb3 o5 H4
      by_cases hall : l3.all okE = true
      rotate_left 1
      · rw [if_neg hall] at KE
        have HAL := Lib.hid hall
        clear hall
        go_wp2_with fail
        (with_reducible refine KE.mono ?_)
        rintro e w5 ⟨a6, c6, rfl, -, b5⟩
        simp only
        have hb5 := hb4.trans (b5.mono hb4.size)
        have HS := Lib.hid (HS.out.below b5)
        clear b5 hb4 KE
        go_wp2_with fail
        (with_reducible refine (copyRows_rd _ _ _ l2 _ (H2.out.below hb5) (by omega)).mono ?_)
        rintro e w6 ⟨a7, c7, rfl, h7, b6⟩
        have hb6 := hb5.trans (b6.mono hb5.size)
        have HS := Lib.hid (HS.out.below b6)
        have H7 := Lib.hid h7
        clear b6 h7 hb5
        go_wp2_with fail
        (with_reducible refine (copyInts_rd _ _ _ l3 _ (H3.out.below hb6) (by omega)).mono ?_)
        rintro e w7 ⟨a8, c8, rfl, o8, b7⟩
        have hb7 := hb6.trans (b7.mono hb6.size)
        have HS := Lib.hid (HS.out.below b7)
        have KE := encode_rd a7 i c7 l2 a8 l3.length c8 l3 w7 (H7.out.below b7) (intsV_ownQ o8 (by omega)) hgl3 (HG.out.below hb7)
        rw [HEB.out, if_neg HAL.out] at KE
        clear b7 hb6 o8 H7
        go_wp2_with fail
        (with_reducible refine KE.mono ?_)
        rintro e w8 ⟨a9, c9, rfl, -, b8⟩
        simp only
        have hb8 := hb7.trans (b8.mono hb7.size)
        have HS := Lib.hid (HS.out.below b8)
        clear b8 hb7 KE
        go_wp2_with fail
        (with_reducible refine (copyInts_rd _ _ _ l3 _ (H3.out.below hb8) (by omega)).mono ?_)
        rintro e w9 ⟨a10, c10, rfl, o10, b9⟩
        have hb9 := hb8.trans (b9.mono hb8.size)
        have KE := encode_rd (some ⟨g, 0, none⟩) i c ZS a10 l3.length c10 l3 w9 (HS.out.below b9) (intsV_ownQ o10 (by omega)) hgl3 (HG.out.below hb9)
        rw [HEZ.out, if_neg HAL.out] at KE
        clear b9 hb8 o10
        go_wp2_with fail
        (with_reducible refine KE.mono ?_)
        rintro e w10 ⟨a11, c11, rfl, -, b10⟩
        simp only [List.length_nil]
        have hb10 := hb9.trans (b10.mono hb9.size)
        clear b10 hb9 KE
        go_wp2_with fail
        go_loop [17] (fun vi => ∃ z : Nat, z = 0 ∧ vi = .int .i64 0) (fun _ => 0)
        case atStart => exact ⟨0, rfl, rfl⟩
        case round =>
          obtain ⟨_, -, rfl⟩ := hrel
          go_wp2
          go_ret
          exact ⟨rfl, hb10⟩
      · rw [if_pos hall] at KE
        have HAL := Lib.hid hall
        obtain ⟨PX, hPX⟩ : ∃ P, P = l3.map (pieceOf i X) := ⟨_, rfl⟩
        obtain ⟨PY, hPY⟩ : ∃ P, P = l3.map (pieceOf i Y) := ⟨_, rfl⟩
        obtain ⟨PZ, hPZ⟩ : ∃ P, P = l3.map (pieceOf i (List.zipWith (mixP k) X Y)) := ⟨_, rfl⟩
        have hlX : PX.length = n3 := by rw [hPX, List.length_map]; exact HE3.out
        have hlY : PY.length = n3 := by rw [hPY, List.length_map]; exact HE3.out
        have hlZ : PZ.length = n3 := by rw [hPZ, List.length_map]; exact HE3.out
        have HSUM : Hid (∀ (j : Nat) px py pz, PX[j]? = some px → PY[j]? = some py → PZ[j]? = some pz → pz.2 = mixP k px.2 py.2) := Lib.hid (fun j px py pz h1 h2 h3 => by
          rw [hPX, List.getElem?_map] at h1
          rw [hPY, List.getElem?_map] at h2
          rw [hPZ, List.getElem?_map] at h3
          cases hz : l3[j]? with
          | none => rw [hz] at h1; cases h1
          | some z =>
            rw [hz] at h1 h2 h3
            obtain rfl := Option.some.inj h1
            obtain rfl := Option.some.inj h2
            obtain rfl := Option.some.inj h3
            exact HPC.out z)
        rw [← hPX] at KE
        have HPY := Lib.hid hPY
        have HPZ := Lib.hid hPZ
        have HLX := Lib.hid hlX
        have HLY := Lib.hid hlY
        have HLZ := Lib.hid hlZ
        clear hall hPX hPY hPZ hlX hlY hlZ HPC HEA
        go_wp2_with fail
        (with_reducible refine KE.mono ?_)
        rintro e w5 ⟨a6, c6, rfl, h6, b5⟩
        simp only at h6 ⊢
        have hb5 := hb4.trans (b5.mono hb4.size)
        have HS := Lib.hid (HS.out.below b5)
        rw [HLX.out] at h6 ⊢
        have H6 := Lib.hid h6.pi
        clear b5 hb4 KE h6
        go_wp2_with fail
        (with_reducible refine (copyRows_rd _ _ _ l2 _ (H2.out.below hb5) (by omega)).mono ?_)
        rintro e w6 ⟨a7, c7, rfl, h7, b6⟩
        have hb6 := hb5.trans (b6.mono hb5.size)
        have HS := Lib.hid (HS.out.below b6)
        have H6 := Lib.hid (H6.out.below b6)
        have H7 := Lib.hid h7
        clear b6 h7 hb5
        go_wp2_with fail
        (with_reducible refine (copyInts_rd _ _ _ l3 _ (H3.out.below hb6) (by omega)).mono ?_)
        rintro e w7 ⟨a8, c8, rfl, o8, b7⟩
        have hb7 := hb6.trans (b7.mono hb6.size)
        have HS := Lib.hid (HS.out.below b7)
        have H6 := Lib.hid (H6.out.below b7)
        have KE := encode_rd a7 i c7 l2 a8 l3.length c8 l3 w7 (H7.out.below b7) (intsV_ownQ o8 (by omega)) hgl3 (HG.out.below hb7)
        rw [HEB.out, if_pos HAL.out, ← HPY.out] at KE
        clear b7 hb6 o8 H7
        go_wp2_with fail
        (with_reducible refine KE.mono ?_)
        rintro e w8 ⟨a9, c9, rfl, h9, b8⟩
        simp only at h9 ⊢
        have hb8 := hb7.trans (b8.mono hb7.size)
        have HS := Lib.hid (HS.out.below b8)
        have H6 := Lib.hid (H6.out.below b8)
        rw [HLY.out] at h9 ⊢
        have H9 := Lib.hid h9.pi
        clear b8 hb7 KE h9
        go_wp2_with fail
        (with_reducible refine (copyInts_rd _ _ _ l3 _ (H3.out.below hb8) (by omega)).mono ?_)
        rintro e w9 ⟨a10, c10, rfl, o10, b9⟩
        have hb9 := hb8.trans (b9.mono hb8.size)
        have H6 := Lib.hid (H6.out.below b9)
        have H9 := Lib.hid (H9.out.below b9)
        have KE := encode_rd (some ⟨g, 0, none⟩) i c ZS a10 l3.length c10 l3 w9 (HS.out.below b9) (intsV_ownQ o10 (by omega)) hgl3 (HG.out.below hb9)
        rw [HEZ.out, if_pos HAL.out, ← HPZ.out] at KE
        clear b9 hb8 o10
        go_wp2_with fail
        (with_reducible refine KE.mono ?_)
        rintro e w10 ⟨a11, c11, rfl, h11, b10⟩
        simp only at h11 ⊢
        have hb10 := hb9.trans (b10.mono hb9.size)
        have H6 := Lib.hid (H6.out.below b10)
        have H9 := Lib.hid (H9.out.below b10)
        rw [HLZ.out] at h11 ⊢
        have H11 := Lib.hid h11.pi
        have HB10 := Lib.hid hb10
        clear b10 hb9 hb10 KE h11 HS
        go_wp2_with fail
        go_loopw [17] (fun vi wr => ∃ (j : Nat), j ≤ n3 ∧ vi = .int .i64 (j : Nat) ∧ Hid (Below w10.heap.size w10 wr)) (fun vi _ => (n3 - intOf vi).toNat)
        case atStart => exact ⟨0, Nat.zero_le _, rfl, Lib.hid (Below.refl _ _)⟩
        case round =>
          obtain ⟨j, hj, rfl, hB⟩ := hrel
          by_cases hlt : j < n3
          · obtain ⟨bR, oR, zz, za, zn, zc, lz, rfl, -, qz, hz, hbz⟩ := H11.out.at hlt
            obtain ⟨bP, oP, zx, xa, xn, xc, lx, rfl, -, qx, hx, hbx⟩ := H6.out.at hlt
            obtain ⟨bQ, oQ, zy, ya, yn, yc, ly, rfl, -, qy, hy, hby⟩ := H9.out.at hlt
            have hsum := HSUM.out j _ _ _ hx hy hz
            simp only at hsum
            have K0 : wr.cell? ⟨bR, oR + j * 2 + 1, none⟩ = some (.slice za zn zc) ∧ wr.cell? ⟨bP, oP + j * 2 + 1, none⟩ = some (.slice xa xn xc) ∧ wr.cell? ⟨bQ, oQ + j * 2 + 1, none⟩ = some (.slice ya yn yc) := ⟨cell_below qz hB.out, cell_below qx hB.out, cell_below qy hB.out⟩
            have HZB' := hbz.below hB.out
            rw [hsum] at HZB'
            obtain ⟨y, hyy⟩ : ∃ y, y = mixP k lx ly := ⟨_, rfl⟩
            rw [← hyy] at HZB'
            have HZB := Lib.hid HZB'
            have HXB := Lib.hid (hbx.below hB.out)
            have HYB := Lib.hid (hby.below hB.out)
            have hyb : Bytes y ∧ y.length ≤ 140737488355328 := by
              refine ⟨by rw [hyy]; exact mixP_bytes hk, ?_⟩
              have e1 := HZB'.length
              have e2 := HZB'.small
              simp only at e1 e2
              omega
            have HYY := Lib.hid hyb
            have KM : ∀ (p q : Addr) (W : World), BytesV W (some p, 2, 2) [1, k] → RD W (some q) 2 [lx, ly] → Calls Tryd.prog 35 #[.slice (some p) 2 2, .slice (some q) 2 2] W (GivesBytes 5 W y) := fun p q W h1 h2 => by rw [hyy]; exact mix_rd (some p) 2 2 [1, k] (some q) 2 2 [lx, ly] W h1 h2 (by omega)
            have hsz := hB.out.size
            have j0' : (0 : Int) ≤ (j : Int) := by omega
            have j1' : (j : Int) < (n3 : Int) := by omega
            clear qz qx qy hz hx hy hbz hbx hby hsum hyy hyb HZB'
            go_wp2_with fail
            go_region_held3 (fun w' => w'.cell? ⟨bR, oR + j * 2 + 1, none⟩ = some (.slice za zn zc) ∧ w'.cell? ⟨bP, oP + j * 2 + 1, none⟩ = some (.slice xa xn xc) ∧ w'.cell? ⟨bQ, oQ + j * 2 + 1, none⟩ = some (.slice ya yn yc)) (first | exact K0 | assumption | exact keep3 _ K0 | exact keep3 _ (by assumption) | exact keep3 _ (keep3 _ (by assumption)))
              (first
                | (go_at_call 35; (with_reducible refine (KM _ _ _ ?h1 ?h2).mono ?_); (case h1 => exact ((one_bytes wr hk).below (below_alloc (wr.alloc (.cells #[.int .u8 1, .int .u8 (k : Nat)] 5)) (.cells #[.slice xa xn xc, .slice ya yn yc] 28))).below ⟨rfl, rfl, rfl, Nat.le_refl _, fun _ _ => rfl⟩); (case h2 => exact (rd_at (p := wr.heap.size + 1) (by simp) (two_rows (HXB.out.below (below_alloc wr (.cells #[.int .u8 1, .int .u8 (k : Nat)] 5))) (HYB.out.below (below_alloc wr (.cells #[.int .u8 1, .int .u8 (k : Nat)] 5))))).below ⟨rfl, rfl, rfl, Nat.le_refl _, fun _ _ => rfl⟩); rintro e w22 ⟨a22, c22, rfl, o22, d22⟩; have e22 : Below ((wr.alloc (.cells #[.int .u8 1, .int .u8 (k : Nat)] 5)).alloc (.cells #[.slice xa xn xc, .slice ya yn yc] 28)).heap.size ((wr.alloc (.cells #[.int .u8 1, .int .u8 (k : Nat)] 5)).alloc (.cells #[.slice xa xn xc, .slice ya yn yc] 28)) w22 := ⟨d22.os, d22.tape, d22.output, d22.size, d22.block⟩; have b22 : Below wr.heap.size wr w22 := ((below_alloc wr (.cells #[.int .u8 1, .int .u8 (k : Nat)] 5)).trans ((below_alloc (wr.alloc (.cells #[.int .u8 1, .int .u8 (k : Nat)] 5)) (.cells #[.slice xa xn xc, .slice ya yn yc] 28)).mono (by simp))).trans (e22.mono ((below_alloc wr (.cells #[.int .u8 1, .int .u8 (k : Nat)] 5)).trans ((below_alloc (wr.alloc (.cells #[.int .u8 1, .int .u8 (k : Nat)] 5)) (.cells #[.slice xa xn xc, .slice ya yn yc] 28)).mono (by simp))).size); have K22 : w22.cell? ⟨bR, oR + j * 2 + 1, none⟩ = some (.slice za zn zc) ∧ w22.cell? ⟨bP, oP + j * 2 + 1, none⟩ = some (.slice xa xn xc) ∧ w22.cell? ⟨bQ, oQ + j * 2 + 1, none⟩ = some (.slice ya yn yc) := ⟨cell_below K0.1 b22, cell_below K0.2.1 b22, cell_below K0.2.2 b22⟩; have x22 := bytesV_of_owns o22 HYY.out.1 HYY.out.2)
                | (go_at_call 35; (with_reducible refine (KM _ _ _ ?h1 ?h2).mono ?_); (case h1 => exact (bv_at (p := wr.heap.size + 1) (by simp) (one_bytes (wr.alloc (.cells #[.slice xa xn xc, .slice ya yn yc] 28)) hk)).below ⟨rfl, rfl, rfl, Nat.le_refl _, fun _ _ => rfl⟩); (case h2 => exact ((two_rows HXB.out HYB.out).below (below_alloc (wr.alloc (.cells #[.slice xa xn xc, .slice ya yn yc] 28)) (.cells #[.int .u8 1, .int .u8 (k : Nat)] 5))).below ⟨rfl, rfl, rfl, Nat.le_refl _, fun _ _ => rfl⟩); rintro e w22 ⟨a22, c22, rfl, o22, d22⟩; have e22 : Below ((wr.alloc (.cells #[.slice xa xn xc, .slice ya yn yc] 28)).alloc (.cells #[.int .u8 1, .int .u8 (k : Nat)] 5)).heap.size ((wr.alloc (.cells #[.slice xa xn xc, .slice ya yn yc] 28)).alloc (.cells #[.int .u8 1, .int .u8 (k : Nat)] 5)) w22 := ⟨d22.os, d22.tape, d22.output, d22.size, d22.block⟩; have b22 : Below wr.heap.size wr w22 := ((below_alloc wr (.cells #[.slice xa xn xc, .slice ya yn yc] 28)).trans ((below_alloc (wr.alloc (.cells #[.slice xa xn xc, .slice ya yn yc] 28)) (.cells #[.int .u8 1, .int .u8 (k : Nat)] 5)).mono (by simp))).trans (e22.mono ((below_alloc wr (.cells #[.slice xa xn xc, .slice ya yn yc] 28)).trans ((below_alloc (wr.alloc (.cells #[.slice xa xn xc, .slice ya yn yc] 28)) (.cells #[.int .u8 1, .int .u8 (k : Nat)] 5)).mono (by simp))).size); have K22 : w22.cell? ⟨bR, oR + j * 2 + 1, none⟩ = some (.slice za zn zc) ∧ w22.cell? ⟨bP, oP + j * 2 + 1, none⟩ = some (.slice xa xn xc) ∧ w22.cell? ⟨bQ, oQ + j * 2 + 1, none⟩ = some (.slice ya yn yc) := ⟨cell_below K0.1 b22, cell_below K0.2.1 b22, cell_below K0.2.2 b22⟩; have x22 := bytesV_of_owns o22 HYY.out.1 HYY.out.2)
                | (go_at_call 20; (with_reducible refine (sameBytes_any za zn zc y a22 y.length c22 y _ ?h1 ?h2).mono ?_); (case h1 => exact HZB.out.below b22); (case h2 => exact x22); rw [decide_eq_true rfl]; rintro e w23 ⟨rfl, d23⟩; have b23 := b22.trans (d23.mono b22.size); have K23 : w23.cell? ⟨bR, oR + j * 2 + 1, none⟩ = some (.slice za zn zc) ∧ w23.cell? ⟨bP, oP + j * 2 + 1, none⟩ = some (.slice xa xn xc) ∧ w23.cell? ⟨bQ, oQ + j * 2 + 1, none⟩ = some (.slice ya yn yc) := ⟨cell_below K0.1 b23, cell_below K0.2.1 b23, cell_below K0.2.2 b23⟩))
            all_goals
              have HB23 := Lib.hid (hB.out.trans (b23.mono hsz))
              clear K0 K22 K23 d22 e22 b22 d23 b23 o22 x22
              go_wp2
              go_roundw
              case rel => exact ⟨j + 1, by omega, by go_num, HB23⟩
              case measure => simp [intOf] <;> omega
          · obtain rfl : j = n3 := by omega
            go_wp2
            go_ret
            exact ⟨rfl, HB10.out.trans (hB.out.mono HB10.out.size)⟩
end Go.Proofs.YtkihgidhpggcfaaDoor
