/-
  rilllaw05: ChunkMemory.
-/
import Derived.Deep.RegionHeld3
import Derived.Test.YtfjcbgfgiidogaaDoorMCiE
import Derived.Test.YtfjcbgfgiidogaaDoorMCh3
import Derived.Test.YtfjcbgfgiidogaaDoorMChU
import Derived.Test.YtfjcbgfgiidogaaDoorMChQ
namespace Go.Proofs.YtfjcbgfgiidogaaDoor
open Go.RowKit

/-- only blocks from lo on, below hi, and new ones, are others than they were. -/
structure Fr (lo hi : Nat) (w w' : World) : Prop where
  os : w'.os = w.os
  tape : w'.tape = w.tape
  output : w'.output = w.output
  size : w.heap.size ≤ w'.heap.size
  low : ∀ b, b < lo → w'.heap[b]? = w.heap[b]?
  high : ∀ b, hi ≤ b → b < w.heap.size → w'.heap[b]? = w.heap[b]?
theorem Fr.of_below {lo hi : Nat} {w w' : World} (h : Below w.heap.size w w') (hl : lo ≤ w.heap.size) : Fr lo hi w w' := ⟨h.os, h.tape, h.output, h.size, fun b hb => h.block b (by omega), fun b _ hb => h.block b hb⟩
theorem Fr.below {lo hi : Nat} {w a b : World} (h : Fr lo hi w a) (hb : Below a.heap.size a b) (hl : lo ≤ w.heap.size) : Fr lo hi w b := ⟨hb.os.trans h.os, hb.tape.trans h.tape, hb.output.trans h.output, Nat.le_trans h.size hb.size, fun k hk => (hb.block k (by have := h.size; omega)).trans (h.low k hk), fun k h1 h2 => (hb.block k (by have := h.size; omega)).trans (h.high k h1 h2)⟩
theorem Fr.grown {lo hi : Nat} {w a b : World} {r : Option Nat} (h : Fr lo hi w a) (hg : a.grownBy b r) (hl : lo ≤ w.heap.size) (hr : ∀ k, r = some k → lo ≤ k ∧ (k < hi ∨ w.heap.size ≤ k)) : Fr lo hi w b :=
  ⟨hg.os.trans h.os, hg.tape.trans h.tape, hg.output.trans h.output, Nat.le_trans h.size hg.size,
    fun k hk => (hg.block k (by have := h.size; omega) (fun e => by have := (hr k e.symm).1; omega)).trans (h.low k hk),
    fun k h1 h2 => (hg.block k (by have := h.size; omega) (fun e => by have := (hr k e.symm).2; omega)).trans (h.high k h1 h2)⟩
theorem Fr.mono {lo hi hi' : Nat} {w a : World} (h : Fr lo hi w a) (hh : hi ≤ hi') : Fr lo hi' w a := ⟨h.os, h.tape, h.output, h.size, h.low, fun k h1 h2 => h.high k (by omega) h2⟩
theorem OwnB.range {w w' : World} {B : Nat} {a : Option Addr} {n c : Nat} {bs : List (List (List Nat))} (h : OwnB w B a n c bs) (hk : ∀ b, B ≤ b → b < w.heap.size → w'.heap[b]? = w.heap[b]?) : OwnB w' B a n c bs := by
  obtain ⟨h0, hs, h1, h2, h3⟩ := h
  exact ⟨h0, hs, own_range h1 hk, h2, fun i x ls a b => (h3 i x ls a b).range hk⟩
set_option maxRecDepth 100000 in
set_option maxHeartbeats 8000000 in
theorem refSplit_bad (va : Option Addr) (vn vc : Nat) (t : Int) (w : World) (hc : ¬ sizeC (vn : Int) t = 0) : Calls Tryd.prog 20 #[.slice va vn vc, .int .i64 t] w (GivesBk w ([], sizeC (vn : Int) t)) := by
  have KP := refParts_any (vn : Int) t w
  unfold partsR at KP
  rw [if_neg hc] at KP
  have hcb : (sizeC (vn : Int) t != 0) = true := by rw [bne_iff_ne]; exact hc
  generalize sizeC (vn : Int) t = code at KP hcb ⊢
  clear hc
  go_enter Tryd.func20, Tryd.ntmps20
  go_wp2_with fail
  (with_reducible refine KP.mono ?_)
  rintro e w1 ⟨a1, c1, rfl, -, b1⟩
  clear KP
  go_wp2
  go_ret2
  exact givesBk_nil b1
set_option maxRecDepth 100000 in
set_option maxHeartbeats 16000000 in
theorem chunkMemory_walk (va : Option Addr) (vn vc : Nat) (v : List Nat) (t : Int) (w : World) (hg : Bnd w) (hv : BytesV w (va, vn, vc) v) (_s0 : vn ≤ 140737488351232) (_w1 : (Lit.int .i64 t).wf = true) :
    Calls Tryd.prog 9 #[.slice va vn vc, .int .i64 t] w fun e w' => e = .returned (.bool true) ∧ Below w.heap.size w w' := by
  obtain ⟨i0, hpi, hz0, hz1, hz2⟩ := info_parts Tryd.info5
  have KA := alive5_any w hg
  have HVL := Lib.hid (show v.length = vn from hv.length)
  have HVB := Lib.hid hv.bytes
  have HV := Lib.hid hv
  clear hg hv _w1
  by_cases hc : sizeC (vn : Int) t = 0
  rotate_left 1
  · have hcb : (sizeC (vn : Int) t != 0) = true := by rw [bne_iff_ne]; exact hc
    have KR := fun W => refSplit_bad va vn vc t W hc
    have KS := fun a c W (h : BytesV W (a, vn, c) v) => split_any a vn c v t W h
    have hR : splitR v t = ([], sizeC (vn : Int) t) := by unfold splitR; rw [HVL.out, if_neg hc]
    simp only [hR] at KS
    clear hR
    generalize sizeC (vn : Int) t = code at KS KR hcb
    clear hc
    go_enter Tryd.func9, Tryd.ntmps9
    go_wp2_with fail
    (with_reducible refine KA.mono ?_)
    rintro e w1 ⟨rfl, b1⟩
    go_wp2_with fail
    (with_reducible refine (copyBytes_any va vn vc v _ (HV.out.below b1)).mono ?_)
    rintro e w2 ⟨a2, c2, rfl, o2, b2⟩
    rw [HVL.out] at o2 ⊢
    have hb2 := b1.trans (b2.mono b1.size)
    clear KA
    go_wp2_with fail
    (with_reducible refine (KS _ _ _ (bytesV_of_owns o2 HVB.out (by omega))).mono ?_)
    rintro e w3 ⟨a3, c3, rfl, -, b3⟩
    have hb3 := hb2.trans (b3.mono hb2.size)
    go_wp2_with fail
    (with_reducible refine (KR _).mono ?_)
    rintro e w4 ⟨a4, c4, rfl, -, b4⟩
    have hb4 := hb3.trans (b4.mono hb3.size)
    clear KS KR b1 b2 b3 b4 o2
    go_wp2
    go_ret
    exact ⟨rfl, hb4⟩
  obtain ⟨g1, g2⟩ := sizeC_zero.1 hc
  obtain ⟨s1, s2⟩ := okS_iff.1 g1
  obtain ⟨t1, t2⟩ := okT_iff.1 g2
  obtain ⟨T, rfl⟩ : ∃ T : Nat, t = (T : Nat) := ⟨t.toNat, by omega⟩
  have KS := fun a c W (h : BytesV W (a, vn, c) v) => split_st a vn c v (T : Int) W h hc
  have KT := fun a c W (h : BytesV W (a, vn, c) v) => split_any a vn c v (T : Int) W h
  have KR := fun W (h : BytesV W (va, vn, vc) v) => refSplit_any va vn vc v (T : Int) W h (by omega)
  have hR : splitR v (T : Int) = (blocksL v T (chN vn T), 0) := by unfold splitR; rw [HVL.out, if_pos hc, Int.toNat_natCast]
  simp only [hR] at KT KR
  simp only [Int.toNat_natCast] at KS
  obtain ⟨n1, n2, -, -⟩ := chN_facts (size := vn) (t := T) (by omega) (by omega) (by omega)
  clear hc g1 g2 hR
  obtain ⟨n, hn⟩ : ∃ n, n = chN vn T := ⟨_, rfl⟩
  simp only [← hn] at KS KT KR
  rw [← hn] at n1 n2
  clear hn
  obtain ⟨z1, z2, -, -, z3⟩ := chZ_facts n1 n2
  have HKF := Lib.hid (fun i (h : i < chZ n) => chK_facts n1 n2 h)
  have HBLK := Lib.hid (fun i (h : i < chZ n) => (blocks_getD (v := v) (t := T) h))
  unfold GivesBk at KT KR
  simp only [blocksL_length] at KT KR
  obtain ⟨z, hz⟩ : ∃ z, z = chZ n := ⟨_, rfl⟩
  simp only [← hz] at KS KT KR
  rw [← hz] at z1 z2 z3 HKF HBLK
  clear hz
  obtain ⟨BL, hBL⟩ : ∃ B, B = blocksL v T n := ⟨_, rfl⟩
  simp only [← hBL] at KT KR
  rw [← hBL] at HBLK
  clear hBL
  go_enter Tryd.func9, Tryd.ntmps9
  go_wp2_with fail
  (with_reducible refine KA.mono ?_)
  rintro e w1 ⟨rfl, b1⟩
  go_wp2_with fail
  (with_reducible refine (copyBytes_any va vn vc v _ (HV.out.below b1)).mono ?_)
  rintro e w2 ⟨a2, c2, rfl, o2, b2⟩
  rw [HVL.out] at o2 ⊢
  have hb2 := b1.trans (b2.mono b1.size)
  have h2 := bytesV_of_owns o2 HVB.out (by omega)
  have H2 := Lib.hid h2
  have HBW2 := Lib.hid hb2
  clear KA b1 b2 o2 hb2 h2
  go_wp2_with fail
  (with_reducible refine (KS _ _ _ H2.out).mono ?_)
  rintro e w3 ⟨g, cg, hs, M, rfl, hlen, hown, hst, b3⟩
  have hg2 := (hown.lt _ rfl).1
  obtain ⟨hgM, hMz, hup, hblk⟩ := hst
  have HBLOCK := Lib.hid hblk
  have HUP := Lib.hid (up_le hup)
  have HB3 := Lib.hid b3
  have hs3 := b3.size
  have HOWN := Lib.hid hown
  have HLEN := Lib.hid hlen
  have hm0 : M 0 ≤ M z := by have := up_le hup z 0 (by omega); simpa using this
  clear KS hup hblk b3 hown hlen
  go_wp2_with fail
  (with_reducible refine (KR _ (HV.out.below (HBW2.out.trans (HB3.out.mono HBW2.out.size)))).mono ?_)
  rintro e w4 ⟨a4, c4, rfl, o4, b4⟩
  have HO4 := Lib.hid o4
  have HB4 := Lib.hid b4
  have hs4 := b4.size
  have HCG : Hid (∀ i x, hs[i]? = some x → ∀ wr : World, wr.heap[g]? = w4.heap[g]? → wr.cell? ⟨g, i, none⟩ = some (SV x)) := Lib.hid (fun i x hx wr he => by
    have hi : i < z := by have := (List.getElem?_eq_some_iff.1 hx).1; rw [HLEN.out] at this; exact this
    have h := HOWN.out.cellAt i (by omega)
    rw [List.getElem?_map, hx] at h
    rw [World.cell?_of_block (w := w4) (w' := wr) (a := ⟨g, i, none⟩) he]
    exact cell_below h HB4.out)
  have hF0 : Hid (Fr (M 0) (M 0) w4 w4) := Lib.hid (.of_below (Below.refl _ _) (by omega))
  clear KR b4 o4
  have hvn : ¬ (1024 : Int) < (vn : Int) := by omega
  go_wp2_with fail
  go_loopw [10] (fun vi wr => ∃ i : Nat, i ≤ z ∧ vi = .int .i64 (i : Nat) ∧ Hid (Fr (M 0) (M i) w4 wr)) (fun vi _ => (z - intOf vi).toNat)
  case atStart => exact ⟨0, Nat.zero_le _, rfl, hF0⟩
  case round =>
    clear hF0
    obtain ⟨i, hi, rfl, HF⟩ := hrel
    by_cases hlt : i < z
    · obtain ⟨gk, ck, hh, hx, hD, hgk, hhi⟩ := HBLOCK.out i hlt
      have hMi : M 0 ≤ M i := by have := HUP.out i 0 (by omega); simpa using this
      have hMi1 : M i ≤ M (i + 1) := HUP.out 1 i (by omega)
      have hMz1 : M (i + 1) ≤ M z := by have := HUP.out (z - (i + 1)) (i + 1) (by omega); rw [show i + 1 + (z - (i + 1)) = z by omega] at this; exact this
      obtain ⟨k1, k2, -, -⟩ := HKF.out i hlt
      have hbll : (blockL v T n i).length = chK n i := blockL_length v T n i
      have HSY := Lib.hid (fun j (h : j < chK n i) => (blockL_at (v := v) (t := T) h))
      have HCI := Lib.hid (HCG.out i _ hx)
      have hrg : ∀ b, M i ≤ b → b < w3.heap.size → wr.heap[b]? = w3.heap[b]? := fun b h1 h2 => (HF.out.high b h1 (by omega)).trans (HB4.out.block b h2)
      obtain ⟨hD1, hD2, hD3, hD4⟩ := hD
      have hgk0 := (hD1.lt gk rfl).1
      have hD1' := own_range hD1 hrg
      have HROW : Hid (∀ x y, 0 ≤ x → hh[x]? = some y → ∀ l, (blockL v T n i)[x]? = some l → y.2.1 = l.length ∧ wr.ownsRow (M i) 5 1 (SV y) l.length (l.map bv)) := Lib.hid (fun x y _ hy l hl => ⟨(hD2.2 x y l hy hl).1, own_range (hD2.2 x y l hy hl).2 hrg⟩)
      have hhl : hh.length = chK n i := by rw [hD2.1]; exact hbll
      have HAPT := Lib.hid hD4
      have HHI := Lib.hid hhi
      obtain ⟨k, hk⟩ : ∃ k, k = chK n i := ⟨_, rfl⟩
      obtain ⟨bl, hbl⟩ : ∃ b, b = blockL v T n i := ⟨_, rfl⟩
      rw [← hk] at k1 k2 hbll HSY HCI hD1' hhl
      rw [← hbl] at HROW hbll HSY
      have HBLL := Lib.hid hbll
      have HHL := Lib.hid hhl
      have HR0 : Hid (wr.ownsRow (M i) 22 1 (.slice (some ⟨gk, 0, none⟩) k ck) k (hh.map SV) ∧ hh.length = k ∧ ∀ x, 0 ≤ x → hh[x]? = hh[x]?) := Lib.hid ⟨hD1', hhl, fun _ _ => rfl⟩
      have HF0 : Hid (Fr (M 0) (M (i + 1)) w4 wr) := Lib.hid (HF.out.mono hMi1)
      have hi0 : (0 : Int) ≤ (i : Int) := by omega
      have hi1 : (i : Int) < (z : Int) := by omega
      clear hD1 hD2 hD3 hD4 hD1' hrg hx hhi hk hbl hbll HF
      go_wp2_with fail
      go_loopw [11] (fun vj wr => ∃ (j : Nat) (hs' : List HdT), j ≤ k ∧ vj = .int .i64 (j : Nat) ∧ Hid (Fr (M 0) (M (i + 1)) w4 wr) ∧ Hid (wr.ownsRow (M i) 22 1 (.slice (some ⟨gk, 0, none⟩) k ck) k (hs'.map SV) ∧ hs'.length = k ∧ ∀ x, j ≤ x → hs'[x]? = hh[x]?) ∧ Hid (∀ x y, j ≤ x → hh[x]? = some y → ∀ l, bl[x]? = some l → y.2.1 = l.length ∧ wr.ownsRow (M i) 5 1 (SV y) l.length (l.map bv))) (fun vj _ => (k - intOf vj).toNat)
      case atStart => exact ⟨0, hh, Nat.zero_le _, rfl, HF0, Lib.hid ⟨HR0.out.1, HR0.out.2.1, fun _ _ => rfl⟩, HROW⟩
      case round =>
        clear HF0 HR0 HROW
        obtain ⟨j, hs', hj, rfl, HF, HR, HROW⟩ := hrel
        have cI : wr.cell? ⟨g, i, none⟩ = some (.slice (some ⟨gk, 0, none⟩) k ck) := HCI.out wr (HF.out.low g hgM)
        by_cases hjk : j < k
        · obtain ⟨⟨xa, xn, xc⟩, hxj⟩ : ∃ x, hh[j]? = some x := ⟨_, List.getElem?_eq_getElem (by rw [HHL.out]; exact hjk)⟩
          obtain ⟨e1, hox⟩ := HROW.out j _ (Nat.le_refl _) hxj _ (HSY.out j hjk)
          rw [symOf_length] at e1 hox
          simp only at e1
          subst e1
          replace hox : wr.ownsRow (M i) 5 1 (.slice xa xn xc) xn _ := hox
          obtain ⟨hq, rfl⟩ := own_some hox (by omega)
          have hhq := HHI.out _ (List.mem_of_getElem? hxj) hq rfl
          have hhq0 := (hox.lt hq rfl).1
          have HXJ := Lib.hid hxj
          have cJ : ∀ wq : World, wq.heap[gk]? = wr.heap[gk]? → wq.cell? ⟨gk, j, none⟩ = some (.slice (some ⟨hq, 0, none⟩) xn xc) := fun wq he => by
            have h := HR.out.1.cellAt j (by omega)
            rw [List.getElem?_map, HR.out.2.2 j (Nat.le_refl _), hxj] at h
            rw [World.cell?_of_block (w := wr) (w' := wq) (a := ⟨gk, j, none⟩) he]
            exact h
          have HCJ := Lib.hid cJ
          have hsl0 : Hid ((symOf v xn (chS n i + j)).length = xn) := Lib.hid (symOf_length _ _ _)
          have hsb0 : Hid (Bytes (symOf v xn (chS n i + j))) := Lib.hid (symOf_bytes HVB.out _ _)
          have HX0 : Hid (wr.ownsRow (M i) 5 1 (.slice (some ⟨hq, 0, none⟩) xn xc) xn ((symOf v xn (chS n i + j)).map bv)) := Lib.hid hox
          generalize symOf v xn (chS n i + j) = l0 at hsl0 hsb0 HX0
          have HGKT : Hid (∃ cs fr, wr.heap[gk]? = some (.cells cs 22 fr)) := Lib.hid (by
            rcases HR.out.1.2 with ⟨e, _⟩ | ⟨g', cap, cur, e, _, hh2, _⟩
            · cases e
            · injection e with e
              injection e with e
              injection e with e
              subst e
              exact ⟨_, _, hh2⟩)
          have hgq : gk ≠ hq := fun e => by
            obtain ⟨cs, fr, he⟩ := HGKT.out
            rcases HX0.out.2 with ⟨e2, _⟩ | ⟨g', cap, cur, e2, _, hh2, _⟩
            · cases e2
            · injection e2 with e2
              injection e2 with e2
              injection e2 with e2
              subst e2
              rw [e, hh2] at he
              injection he with he
              injection he with _ he
              cases he
          obtain ⟨wj, hwj⟩ : ∃ x, x = wr := ⟨_, rfl⟩
          subst hwj
          have hF1 := HF
          have hj0 : (0 : Int) ≤ (j : Int) := by omega
          have hj1 : (j : Int) < (k : Int) := by omega
          have HFK : Hid (∀ b, b ≠ hq → wj.heap[b]? = wj.heap[b]?) := Lib.hid (fun _ _ => rfl)
          clear hox hxj cJ
          go_wp2_with fail
          go_loopw [12] (fun vk wr => ∃ (x : Nat) (l : List Nat), x ≤ xn ∧ vk = .int .i64 (x : Nat) ∧ Hid (l.length = xn) ∧ Hid (Bytes l) ∧ Hid (wr.ownsRow (M i) 5 1 (.slice (some ⟨hq, 0, none⟩) xn xc) xn (l.map bv)) ∧ Hid (wj.grownBy wr (some hq))) (fun vk _ => (xn - intOf vk).toNat)
          case atStart => exact ⟨0, l0, Nat.zero_le _, rfl, hsl0, hsb0, HX0, Lib.hid (World.grownBy_refl _ _)⟩
          case round =>
            clear hsl0 hsb0 HX0
            obtain ⟨x, l, hx, rfl, HLL, HLB, HX, HG⟩ := hrel
            have hbG : wr.heap[gk]? = wj.heap[gk]? := HG.out.block gk (HR.out.1.lt gk rfl).2 (fun e => hgq (by injection e))
            have cJ := HCJ.out wr hbG
            have cI2 : wr.cell? ⟨g, i, none⟩ = some (.slice (some ⟨gk, 0, none⟩) k ck) := HCI.out wr ((HG.out.block g (by have := HF.out.size; omega) (fun e => by injection e with e; omega)).trans (HF.out.low g hgM))
            by_cases hxx : x < xn
            · obtain ⟨d, hdd⟩ : ∃ d, d = l.getD x 0 := ⟨_, rfl⟩
              have hd := HLB.out.getD x
              have hcx : wr.cell? ⟨hq, x, none⟩ = some (bv (l.getD x 0)) := (HX.out.cellAt x (by omega)).trans (bv_getD (by rw [HLL.out]; exact hxx))
              have hfz := HX.out.frozenAt x
              rw [← hdd] at hd hcx
              replace hcx : wr.cell? ⟨hq, x, none⟩ = some (.int .u8 (d : Int)) := hcx
              have hq5 : bits .xor .u8 (d : Int) 255 = ((d ^^^ 255 : Nat) : Int) := u8_xor_nat d 255 hd (by omega)
              have hy := xor_lt9 hd (show 255 < 256 by omega)
              obtain ⟨y, hyy⟩ : ∃ y, y = d ^^^ 255 := ⟨_, rfl⟩
              rw [← hyy] at hq5 hy
              have o5 := own_set5 HX.out x (.int .u8 (y : Nat))
              have HX5 : Hid ((wr.setCell ⟨hq, x, none⟩ (.int .u8 (y : Nat))).ownsRow (M i) 5 1 (.slice (some ⟨hq, 0, none⟩) xn xc) xn ((l.set x y).map bv)) := Lib.hid (by rw [List.map_set]; exact o5)
              have HG5 := Lib.hid (grownBy_trans HG.out (grown_set5 wr hq x (.int .u8 (y : Nat))))
              have HLL5 : Hid ((l.set x y).length = xn) := Lib.hid (by rw [List.length_set]; exact HLL.out)
              have HLB5 : Hid (Bytes (l.set x y)) := Lib.hid (fun u hu => by
                rcases List.mem_or_eq_of_mem_set hu with h | h
                · exact HLB.out u h
                · rw [h]; exact hy)
              clear o5 hdd hyy hd HX HG
              go_wp2
              go_roundw
              case rel => exact ⟨x + 1, l.set x y, by omega, by go_num, HLL5, HLB5, HX5, HG5⟩
              case measure => simp [intOf]; omega
            · obtain rfl : x = xn := by omega
              have HSZ := HG.out.size
              have hwjs := HF.out.size
              have hMiw : M i ≤ wr.heap.size := by omega
              have hGt0 := grownBy_trans HG.out (grownBy_of_below (below_alloc wr (.cells #[.int .u8 7] 5)) (some hq))
              have hX8 := HX.out.alloc (.cells #[.int .u8 7] 5)
              have HGT0 := Lib.hid hGt0
              have K0 : wr.cell? ⟨g, i, none⟩ = some (.slice (some ⟨gk, 0, none⟩) k ck) ∧ wr.cell? ⟨gk, j, none⟩ = some (.slice (some ⟨hq, 0, none⟩) x xc) := ⟨cI2, cJ⟩
              have K6 : (wr.alloc (.cells #[.int .u8 7] 5)).cell? ⟨g, i, none⟩ = some (.slice (some ⟨gk, 0, none⟩) k ck) ∧ (wr.alloc (.cells #[.int .u8 7] 5)).cell? ⟨gk, j, none⟩ = some (.slice (some ⟨hq, 0, none⟩) x xc) := ⟨cell_below cI2 (below_alloc _ _), cell_below cJ (below_alloc _ _)⟩
              have hbase : M i ≤ (wr.alloc (.cells #[.int .u8 7] 5)).heap.size := Nat.le_trans hMiw (below_alloc wr _).size
              clear hGt0 HX cI2 cJ cI hbG HG
              go_wp2_with fail
              refine GoX.start 15 (fun w' => w'.cell? ⟨g, i, none⟩ = some (.slice (some ⟨gk, 0, none⟩) k ck) ∧ w'.cell? ⟨gk, j, none⟩ = some (.slice (some ⟨hq, 0, none⟩) x xc)) (by kernel_rfl) ?_
              refine GoX.take 0 rfl (by kernel_rfl) (by kernel_rfl) (by rfl) (fun _ _ _ h => h) (v := ?tv0) K0 ?ty0 ?tr0
              case ty0 => (intro w hSw; (try dsimp only at hSw); go_simp; first | done | with_reducible rfl)
              simp only [Act.put, List.setIfInBounds_toArray, List.set_cons_zero, List.set_cons_succ]
              refine GoX.take 1 rfl (by kernel_rfl) (by kernel_rfl) (by rfl) (fun _ _ _ h => h) (v := ?tv1) K0 ?ty1 ?tr1
              case ty1 => (intro w hSw; (try dsimp only at hSw); go_simp; first | done | with_reducible rfl)
              simp only [Act.put, List.setIfInBounds_toArray, List.set_cons_zero, List.set_cons_succ]
              refine GoX.take 2 rfl (by kernel_rfl) (by kernel_rfl) (by rfl) (fun _ _ _ h => h) (v := ?tv2) K0 ?ty2 ?tr2
              case ty2 => (intro w hSw; (try dsimp only at hSw); go_simp; first | done | with_reducible rfl)
              simp only [Act.put, List.setIfInBounds_toArray, List.set_cons_zero, List.set_cons_succ]
              refine GoX.take 3 rfl (by kernel_rfl) (by kernel_rfl) (by rfl) (fun _ _ _ h => h) (v := ?tv3) K0 ?ty3 ?tr3
              case ty3 => (intro w hSw; (try dsimp only at hSw); go_simp; first | done | with_reducible rfl)
              simp only [Act.put, List.setIfInBounds_toArray, List.set_cons_zero, List.set_cons_succ]
              refine GoX.take 4 rfl (by kernel_rfl) (by kernel_rfl) (by rfl) (fun _ _ _ h => h) (v := ?tv4) K0 ?ty4 ?tr4
              case ty4 => (intro w hSw; (try dsimp only at hSw); go_simp; first | done | with_reducible rfl)
              simp only [Act.put, List.setIfInBounds_toArray, List.set_cons_zero, List.set_cons_succ]
              refine GoX.take 5 rfl (by kernel_rfl) (by kernel_rfl) (by rfl) (fun _ _ _ h => h) (v := ?tv5) K0 ?ty5 ?tr5
              case ty5 => (intro w hSw; (try dsimp only at hSw); go_simp; first | done | with_reducible rfl)
              simp only [Act.put, List.setIfInBounds_toArray, List.set_cons_zero, List.set_cons_succ]
              refine GoX.take 6 rfl (by kernel_rfl) (by kernel_rfl) (by rfl) (fun _ _ _ h => h) (v := ?tv6) K0 ?ty6 ?tr6
              case ty6 => (intro w hSw; (try dsimp only at hSw); go_simp; first | done | with_reducible rfl)
              simp only [Act.put, List.setIfInBounds_toArray, List.set_cons_zero, List.set_cons_succ]
              refine GoX.take 7 rfl (by kernel_rfl) (by kernel_rfl) (by rfl) (fun _ _ _ h => h) (v := ?tv7) K0 ?ty7 ?tr7
              case ty7 => (intro w hSw; (try dsimp only at hSw); go_simp; first | done | with_reducible rfl)
              simp only [Act.put, List.setIfInBounds_toArray, List.set_cons_zero, List.set_cons_succ]
              refine GoX.take 8 rfl (by kernel_rfl) (by kernel_rfl) (by rfl) (fun _ _ _ h => h) (v := ?tv8) K0 ?ty8 ?tr8
              case ty8 => (intro w hSw; (try dsimp only at hSw); go_simp; first | done | with_reducible rfl)
              simp only [Act.put, List.setIfInBounds_toArray, List.set_cons_zero, List.set_cons_succ]
              refine GoX.take 9 rfl (by kernel_rfl) (by kernel_rfl) (by rfl) (fun _ _ _ h => h) (v := ?tv9) K0 ?ty9 ?tr9
              case ty9 => (intro w hSw; (try dsimp only at hSw); go_simp; first | done | with_reducible rfl)
              simp only [Act.put, List.setIfInBounds_toArray, List.set_cons_zero, List.set_cons_succ]
              refine GoX.take 10 rfl (by kernel_rfl) (by kernel_rfl) (by rfl) (fun _ _ _ h => h) (v := ?tv10) K0 ?ty10 ?tr10
              case ty10 => (intro w hSw; (try dsimp only at hSw); go_simp; first | done | with_reducible rfl)
              simp only [Act.put, List.setIfInBounds_toArray, List.set_cons_zero, List.set_cons_succ]
              refine GoX.take 11 rfl (by kernel_rfl) (by kernel_rfl) (by rfl) (fun _ _ _ h => h) (v := ?tv11) K0 ?ty11 ?tr11
              case ty11 => (intro w hSw; (try dsimp only at hSw); go_simp; first | done | with_reducible rfl)
              simp only [Act.put, List.setIfInBounds_toArray, List.set_cons_zero, List.set_cons_succ]
              refine GoX.one 12 rfl (by kernel_rfl) (by decide) (fun K hK => ?_)
              go_simp
              refine hK.out _ _ K6 (fun _ => ?_)
              clear hK K
              refine GoX.one 13 rfl (by kernel_rfl) (by decide) (fun K hK => ?_)
              refine step_append_lies _ rfl (.tmp 91) (.tmp 92) 22 rfl (M i) 5 i0 (.int .u8 0) 1 1 Tryd.underlying22 hpi hz0 hz1 hz2 rfl (by decide) (.slice (some ⟨hq, 0, none⟩) x xc) x (l.map bv) (by rfl) hX8 ⟨wr.heap.size, 0, none⟩ 1 1 [.int .u8 7] (by rfl) (by rfl) (World.news_of_block (heap_alloc_new wr _)) (by intro u hu; simp at hu; subst hu; rfl) (by decide) (by simp [maxLen]; omega) (by omega) hbase _ rfl ?_
              intro g9 c9 w9 hE9 g9' _ _
              have gg : (wr.alloc (.cells #[.int .u8 7] 5)).grownBy w9 (some hq) := ⟨g9'.os, g9'.tape, g9'.output, g9'.size, g9'.block⟩
              have hGt := grownBy_trans HGT0.out gg
              have e4 : w9.heap[g]? = w4.heap[g]? := (hGt.block g (by omega) (fun e => by injection e with e; omega)).trans (HF.out.low g hgM)
              have e5 : w9.heap[gk]? = wj.heap[gk]? := hGt.block gk (HR.out.1.lt gk rfl).2 (fun e => hgq (by injection e))
              have K9 : w9.cell? ⟨g, i, none⟩ = some (.slice (some ⟨gk, 0, none⟩) k ck) ∧ w9.cell? ⟨gk, j, none⟩ = some (.slice (some ⟨hq, 0, none⟩) x xc) := ⟨HCI.out w9 e4, HCJ.out w9 e5⟩
              have hR9 := HR.out.1.kept hGt (by simp only [Value.ownBlock]; exact .inr (fun e => hgq (by injection e)))
              have f9 := hR9.frozenAt j
              have hRF := own_set5 hR9 j (SV (some ⟨g9, 0, none⟩, x + 1, c9))
              rw [← List.map_set] at hRF
              have HRF : Hid ((w9.setCell ⟨gk, j, none⟩ (.slice (some ⟨g9, 0, none⟩) (x + 1) c9)).ownsRow (M i) 22 1 (.slice (some ⟨gk, 0, none⟩) k ck) k ((hs'.set j (some ⟨g9, 0, none⟩, x + 1, c9)).map SV) ∧ (hs'.set j (some ⟨g9, 0, none⟩, x + 1, c9)).length = k ∧ ∀ q, j + 1 ≤ q → (hs'.set j (some ⟨g9, 0, none⟩, x + 1, c9))[q]? = hh[q]?) := Lib.hid ⟨hRF, by rw [List.length_set]; exact HR.out.2.1, fun q hq' => by rw [List.getElem?_set, if_neg (by omega)]; exact HR.out.2.2 q (by omega)⟩
              have HRO : Hid (∀ q y, j + 1 ≤ q → hh[q]? = some y → ∀ l, bl[q]? = some l → y.2.1 = l.length ∧ (w9.setCell ⟨gk, j, none⟩ (.slice (some ⟨g9, 0, none⟩) (x + 1) c9)).ownsRow (M i) 5 1 (SV y) l.length (l.map bv)) := Lib.hid (fun q y hq' hy l hl => by
                obtain ⟨u1, u2⟩ := HROW.out q y (by omega) hy l hl
                refine ⟨u1, ?_⟩
                have u3 := u2.kept hGt (by
                  cases hb : (SV y).ownBlock with
                  | none => exact .inl rfl
                  | some b =>
                    refine .inr (fun e => ?_)
                    injection e with e
                    subst e
                    rcases u2.2 with ⟨e, _⟩ | ⟨g', cap, cur, e, _, _, _⟩
                    · rw [e] at hb; cases hb
                    · have hy1 : y.1 = some ⟨g', 0, none⟩ := by
                        obtain ⟨y1, y2, y3⟩ := y
                        injection e
                      have hb2 : g' = b := by
                        rw [e] at hb
                        simpa [Value.ownBlock] using hb
                      have := HAPT.out j q _ _ HXJ.out hy (by simp) (by rw [hy1, hb2])
                      omega)
                exact u3.kept (grown_set5 w9 gk j _) (by have := own_ne u3 hR9 (by decide); simpa [Value.ownBlock] using this))
              have HFF := Lib.hid ((HF.out.grown hGt (by omega) (fun b hb => by injection hb with hb; omega)).grown (grown_set5 w9 gk j (.slice (some ⟨g9, 0, none⟩) (x + 1) c9)) (by omega) (fun b hb => by injection hb with hb; omega))
              refine hK.out _ _ K9 (fun _ => ?_)
              clear hK K gg hGt hE9 g9' e4 e5 hR9 hRF HR HROW HF hF1 HFK HGT0 hX8 K0 K6
              obtain ⟨cg9, cj9⟩ := K9
              have K9 : w9.cell? ⟨g, i, none⟩ = some (.slice (some ⟨gk, 0, none⟩) k ck) ∧ w9.cell? ⟨gk, j, none⟩ = some (.slice (some ⟨hq, 0, none⟩) x xc) := ⟨cg9, cj9⟩
              simp only [Act.put, List.setIfInBounds_toArray, List.set_cons_zero, List.set_cons_succ]
              refine GoX.take 14 rfl (by kernel_rfl) (by kernel_rfl) (by rfl) (fun _ _ _ h => h) (v := ?tv14) K9 ?ty14 ?tr14
              case ty14 => (intro w hSw; (try dsimp only at hSw); go_simp; first | done | with_reducible rfl)
              simp only [Act.put, List.setIfInBounds_toArray, List.set_cons_zero, List.set_cons_succ]
              refine GoX.last 15 rfl (by kernel_rfl) (by kernel_rfl) (by decide) ?_
              go_wp2
              go_roundw
              case rel => exact ⟨j + 1, hs'.set j (some ⟨g9, 0, none⟩, x + 1, c9), by omega, by go_num, HFF, HRF, HRO⟩
              case measure => simp [intOf]; omega
        · obtain rfl : j = k := by omega
          clear HR HROW
          go_wp2
          go_roundw
          case rel => exact ⟨i + 1, by omega, by go_num, HF⟩
          case measure => simp [intOf]; omega
    · obtain rfl : i = z := by omega
      have hB2 := HB3.out.trans (HB4.out.mono hs3)
      have hBW : Below w2.heap.size w2 wr := ⟨HF.out.os.trans hB2.os, HF.out.tape.trans hB2.tape, HF.out.output.trans hB2.output, Nat.le_trans hB2.size HF.out.size, fun b hb => (HF.out.low b (by omega)).trans (hB2.block b hb)⟩
      have HBW := Lib.hid (HBW2.out.trans (hBW.mono HBW2.out.size))
      have H2W := Lib.hid (H2.out.below hBW)
      have HOW := Lib.hid (HO4.out.range (fun b h1 h2 => HF.out.high b (by omega) h2))
      clear hB2 hBW HF HCG HBLOCK HUP HOWN HO4 HB3 HB4 H2 HBW2
      go_wp2_with fail
      (with_reducible refine (KT _ _ _ H2W.out).mono ?_)
      rintro e w5 ⟨a5, c5, rfl, o5, b5⟩
      have HBW5 := Lib.hid (HBW.out.trans (b5.mono HBW.out.size))
      have H25 := Lib.hid (H2W.out.below b5)
      have HO5 := Lib.hid o5
      have HOW5 := Lib.hid (HOW.out.below b5)
      clear KT b5 o5 HBW H2W HOW
      go_wp2_with fail
      go_loopw [15] (fun vx wr => ∃ x : Nat, x ≤ i ∧ vx = .int .i64 (x : Nat) ∧ Hid (Below w5.heap.size w5 wr)) (fun vx _ => (i - intOf vx).toNat)
      case atStart => exact ⟨0, Nat.zero_le _, rfl, Lib.hid (Below.refl _ _)⟩
      case round =>
        obtain ⟨x, hx, rfl, HB⟩ := hrel
        have hsr := HB.out.size
        by_cases hxi : x < i
        · obtain ⟨g6, ⟨x6, m6, d6⟩, rfl, k6, r6⟩ := (HO5.out.below HB.out).at hxi
          obtain ⟨g7, ⟨x7, m7, d7⟩, rfl, k7, r7⟩ := (HOW5.out.below HB.out).at hxi
          have hm6 : m6 ≤ 1000 := by
            have h1 := r6.1
            rw [HBLK.out x hxi, blockL_length] at h1
            have h2 := (HKF.out x hxi).2.1
            simp only at h1
            omega
          have K0 : wr.cell? ⟨g6, x, none⟩ = some (.slice x6 m6 d6) ∧ wr.cell? ⟨g7, x, none⟩ = some (.slice x7 m7 d7) := ⟨k6, k7⟩
          have R6 := Lib.hid r6.rd
          have R7 := Lib.hid r7.rd
          have hi0 : (0 : Int) ≤ (x : Int) := by omega
          have hi1 : (x : Int) < (i : Int) := by omega
          have hi2 : ((i : Int) ≤ (x : Int)) = False := eq_false (by omega)
          clear k6 k7 r6 r7
          go_wp2_with fail
          go_region_held3 (fun w' => w'.cell? ⟨g6, x, none⟩ = some (.slice x6 m6 d6) ∧ w'.cell? ⟨g7, x, none⟩ = some (.slice x7 m7 d7)) (first | exact K0 | exact K2 | go_keep)
            (first
              | (go_at_call 22; (with_reducible refine (sameRows_rd _ _ _ (BL.getD x []) _ _ _ (BL.getD x []) _ ?h1 ?h2 hm6).mono ?_); (case h1 => exact R6.out.below ⟨rfl, rfl, rfl, Nat.le_refl _, fun _ _ => rfl⟩); (case h2 => exact R7.out.below ⟨rfl, rfl, rfl, Nat.le_refl _, fun _ _ => rfl⟩); rintro e w6 ⟨rfl, d5⟩; have b5 : Below wr.heap.size wr w6 := ⟨d5.os, d5.tape, d5.output, d5.size, d5.block⟩; have K2 : w6.cell? ⟨g6, x, none⟩ = some (.slice x6 m6 d6) ∧ w6.cell? ⟨g7, x, none⟩ = some (.slice x7 m7 d7) := ⟨cell_below K0.1 b5, cell_below K0.2 b5⟩; rw [decide_eq_true rfl]))
          have HB2 := Lib.hid (HB.out.trans (b5.mono hsr))
          clear b5 d5 K2 K0
          go_wp2
          go_roundw
          case rel => exact ⟨x + 1, by omega, by go_num, HB2⟩
          case measure => simp [intOf]; omega
        · obtain rfl : x = i := by omega
          have HBZ := Lib.hid (HBW5.out.trans (HB.out.mono HBW5.out.size))
          have KQ := sameBytes_any a2 vn c2 v va vn vc v wr (H25.out.below HB.out) (HV.out.below HBZ.out)
          rw [decide_eq_true rfl] at KQ
          go_wp2_with fail
          (with_reducible refine KQ.mono ?_)
          rintro e w6 ⟨rfl, b6⟩
          go_wp2
          go_ret
          exact ⟨rfl, HBZ.out.trans (b6.mono HBZ.out.size)⟩
end Go.Proofs.YtfjcbgfgiidogaaDoor
