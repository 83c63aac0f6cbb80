/-
  rilllaw05: ChunkSources.
-/
import Derived.Test.YtfjcbgfgiidogaaDoorMRq7
import Derived.Test.YtfjcbgfgiidogaaDoorMChN
namespace Go.Proofs.YtfjcbgfgiidogaaDoor
open Go.RowKit

/-- blocks as they are read. -/
def ReadB (w : World) (g : Nat) (n : Nat) (bs : List (List (List Nat))) : Prop := ∀ i, i < n → ∃ xa xn xc, w.cell? ⟨g, i, none⟩ = some (.slice xa xn xc) ∧ RD w xa xn (bs.getD i [])
theorem ReadB.below {w w' : World} {g n : Nat} {bs : List (List (List Nat))} (h : ReadB w g n bs) (hb : Below w.heap.size w w') : ReadB w' g n bs := fun i hi => by
  obtain ⟨xa, xn, xc, k1, k2⟩ := h i hi
  exact ⟨xa, xn, xc, cell_below k1 hb, k2.below hb⟩
theorem OwnB.read {w : World} {B : Nat} {a : Option Addr} {n c : Nat} {bs : List (List (List Nat))} (h : OwnB w B a n c bs) (h0 : 0 < n) : ∃ g, a = some ⟨g, 0, none⟩ ∧ ReadB w g n bs := by
  obtain ⟨g, x, e, -, -⟩ := h.at h0
  refine ⟨g, e, fun i hi => ?_⟩
  obtain ⟨g', ⟨xa, xn, xc⟩, e', k1, k2⟩ := h.at hi
  rw [e] at e'
  injection e' with e'
  injection e' with e' _ _
  subst e'
  exact ⟨xa, xn, xc, k1, k2.rd⟩
theorem blocks_getD {v : List Nat} {t n i : Nat} (h : i < chZ n) : (blocksL v t n).getD i [] = blockL v t n i := by
  rw [List.getD_eq_getElem?_getD, blocksL_at h]; rfl
def natsI (k : Nat) : List Int := (List.range k).map fun x => ((x : Nat) : Int)
theorem natsI_succ (k : Nat) : natsI (k + 1) = natsI k ++ [(k : Int)] := by unfold natsI; rw [List.range_succ, List.map_append]; rfl
theorem natsI_length (k : Nat) : (natsI k).length = k := by simp [natsI]
theorem natsI_at {k j : Nat} (h : j < k) : (natsI k)[j]? = some (j : Int) := by unfold natsI; rw [List.getElem?_map, List.getElem?_range h]; rfl
theorem allS_bytes {v : List Nat} (h : Bytes v) (t m : Nat) : Bytes (allS v t m) := fun x hx => by
  obtain ⟨l, hl, hx⟩ := List.mem_flatten.1 hx
  obtain ⟨s, -, rfl⟩ := List.mem_map.1 hl
  exact symOf_bytes h t s x hx
theorem own_empty {w : World} {base : Nat} (T : TypeId) (h : base ≤ w.heap.size) : (w.alloc (.cells #[] T)).ownsRow base T 1 (.slice (some ⟨w.heap.size, 0, none⟩) 0 0) 0 [] := World.ownsRow_made (base := base) (e := T) (size := 1) w #[] 0 h (by simp [maxLen]) rfl
theorem natsI_ok {k : Nat} (h : k ≤ 1000) : (natsI k).all okE = true := List.all_eq_true.2 fun e he => by
  obtain ⟨x, hx, rfl⟩ := List.mem_map.1 he
  have := List.mem_range.1 hx
  unfold okE
  simp only [Bool.and_eq_true, decide_eq_true_iff]
  omega
set_option maxRecDepth 100000 in
set_option maxHeartbeats 16000000 in
theorem chunkSources_walk (va : Option Addr) (vn vc : Nat) (v : List Nat) (t : Int) (w : World) (hg : Bnd w) (hv : BytesV w (va, vn, vc) v) (_s0 : vn ≤ 140737488351232) (_w1 : (Lit.int .i64 t).wf = true) :
    Calls Tryd.prog 8 #[.slice va vn vc, .int .i64 t] w fun e w' => e = .returned (.bool true) ∧ Below w.heap.size w w' := by
  obtain ⟨i0, hi, hz0, hz1, hz2⟩ := info_parts Tryd.info5
  obtain ⟨j0, hj, hy0, hy1, hy2⟩ := info_parts iinfo
  have KA := alive5_any w hg
  have HG := Lib.hid hg
  have HVL := Lib.hid (show v.length = vn from hv.length)
  have HVB := Lib.hid hv.bytes
  have HV := Lib.hid hv
  clear hg hv _w1
  by_cases hc : sizeC (vn : Int) t = 0
  rotate_left 1
  · have hR : splitR v t = ([], sizeC (vn : Int) t) := by unfold splitR; rw [HVL.out, if_neg hc]
    have hcb : (sizeC (vn : Int) t != 0) = true := by rw [bne_iff_ne]; exact hc
    have HR := Lib.hid hR
    obtain ⟨code, hcode⟩ : ∃ x, x = sizeC (vn : Int) t := ⟨_, rfl⟩
    rw [← hcode] at hcb HR
    clear hc hR hcode
    go_enter Tryd.func8, Tryd.ntmps8
    go_wp2_with fail
    (with_reducible refine KA.mono ?_)
    rintro e w1 ⟨rfl, b1⟩
    have KC := copyBytes_any va vn vc v w1 (HV.out.below b1)
    have HB1 := Lib.hid b1
    clear KA b1
    go_wp2_with fail
    (with_reducible refine KC.mono ?_)
    rintro e w2 ⟨a2, c2, rfl, o2, b2⟩
    rw [HVL.out] at o2 ⊢
    have KS := split_any a2 vn c2 v t w2 (bytesV_of_owns o2 HVB.out (by omega))
    rw [HR.out] at KS
    have HB2 := Lib.hid (HB1.out.trans (b2.mono HB1.out.size))
    clear KC o2 b2
    go_wp2_with fail
    (with_reducible refine KS.mono ?_)
    rintro e w3 ⟨a3, c3, rfl, -, b3⟩
    have hb3 := HB2.out.trans (b3.mono HB2.out.size)
    clear KS b3
    go_wp2
    go_ret
    exact ⟨rfl, hb3⟩
  obtain ⟨g1, g2⟩ := sizeC_zero.1 hc
  obtain ⟨s1, s2⟩ := okS_iff.1 g1
  obtain ⟨t1, t2⟩ := okT_iff.1 g2
  obtain ⟨T, rfl⟩ : ∃ T : Nat, t = (T : Nat) := ⟨t.toNat, by omega⟩
  have hR : splitR v (T : Int) = (blocksL v T (chN vn T), 0) := by unfold splitR; rw [HVL.out, if_pos hc, Int.toNat_natCast]
  obtain ⟨n1, n2, n3, n4⟩ := chN_facts (size := vn) (t := T) (by omega) (by omega) (by omega)
  have HSYM := Lib.hid (fun (i : Nat) (es : List Int) (hi : i < chZ (chN vn T)) (he : es.all okE = true) => (show symbolsR v (T : Int) (i : Int) es = (es.map (gen v T i), 0) by
    rw [symbols_val HVB.out (by rw [HVL.out]; omega) (by rw [HVL.out]; omega) (by omega) (by omega), HVL.out, if_pos (inZ_iff.2 ⟨by omega, by omega⟩), if_pos he, Int.toNat_natCast]))
  have HGS := Lib.hid (fun (i j : Nat) (hi : i < chZ (chN vn T)) (hj : j < chK (chN vn T) i) => (show gen v T i (j : Int) = ((i : Int), (j : Int), symOf v T (chS (chN vn T) i + j)) by
    have := gen_src (i := i) (j := j) HVB.out (by rw [HVL.out]; omega) (by rw [HVL.out]; omega) (show 1 ≤ T by omega) (by omega) (by rw [HVL.out]; exact hi) (by rw [HVL.out]; exact hj)
    rw [HVL.out] at this
    exact this))
  clear hc g1 g2
  obtain ⟨n, hn⟩ : ∃ n, n = chN vn T := ⟨_, rfl⟩
  rw [← hn] at n1 n2 n3 n4 hR HSYM HGS
  clear hn
  have HR := Lib.hid hR
  obtain ⟨z1, z2, -, -, z3⟩ := chZ_facts n1 n2
  have HKF := Lib.hid (fun i (h : i < chZ n) => chK_facts n1 n2 h)
  have HSE := Lib.hid (chS_end (n := n))
  have HSS := Lib.hid (fun i (h : i < chZ n) => (show chS n (i + 1) = chS n i + chK n i ∧ chS n (i + 1) ≤ n from ⟨chS_succ n i, by have := chS_mono n (show i + 1 ≤ chZ n from h); rw [chS_end] at this; exact this⟩))
  have HBG := Lib.hid (fun i (h : i < chZ n) => (blocks_getD (v := v) (t := T) h))
  have HBLL := Lib.hid (blocksL_length v T n)
  obtain ⟨z, hz⟩ : ∃ z, z = chZ n := ⟨_, rfl⟩
  rw [← hz] at z1 z2 z3 HKF HSE HSS HBG HSYM HGS HBLL
  have HN := Lib.hid (And.intro n3 n4)
  clear hz hR n3 n4
  go_enter Tryd.func8, Tryd.ntmps8
  go_wp2_with fail
  (with_reducible refine KA.mono ?_)
  rintro e w1 ⟨rfl, b1⟩
  have KC := copyBytes_any va vn vc v w1 (HV.out.below b1)
  have HB1 := Lib.hid b1
  clear KA b1
  go_wp2_with fail
  (with_reducible refine KC.mono ?_)
  rintro e w2 ⟨a2, c2, rfl, o2, b2⟩
  rw [HVL.out] at o2 ⊢
  have KS := split_any a2 vn c2 v (T : Nat) w2 (bytesV_of_owns o2 HVB.out (by omega))
  rw [HR.out] at KS
  have HB2 := Lib.hid (HB1.out.trans (b2.mono HB1.out.size))
  clear KC o2 b2
  go_wp2_with fail
  (with_reducible refine KS.mono ?_)
  rintro e w3 ⟨a3, c3, rfl, hO, b3⟩
  simp only [HBLL.out] at hO ⊢
  obtain ⟨g, rfl, hRB⟩ := hO.read (by omega)
  have HRB := Lib.hid hRB
  have HB3 := Lib.hid (HB2.out.trans (b3.mono HB2.out.size))
  clear KS b3 hO hRB
  have hs3 := HB3.out.size
  have HO0 : Hid ((w3.alloc (.cells #[] 5)).ownsRow w3.heap.size 5 1 (.slice (some ⟨w3.heap.size, 0, none⟩) 0 0) 0 ((allS v T (chS n 0)).map bv)) := Lib.hid (by
    rw [chS_zero]
    exact own_empty _ (Nat.le_refl _))
  have HL0 : Hid ((allS v T (chS n 0)).length = 0) := Lib.hid (by rw [chS_zero]; rfl)
  go_wp2_with fail
  go_loopw [7, 8] (fun vl vi wr => ∃ (i m : Nat) (aa : Option Addr) (ac : Nat), i ≤ z ∧ vi = .int .i64 (i : Nat) ∧ vl = .slice aa m ac ∧ Hid ((allS v T (chS n i)).length = m) ∧ Hid (wr.ownsRow w3.heap.size 5 1 (.slice aa m ac) m ((allS v T (chS n i)).map bv)) ∧ Hid (Below w3.heap.size w3 wr)) (fun _ vi _ => (z - intOf vi).toNat)
  case atStart => exact ⟨0, 0, _, _, Nat.zero_le _, rfl, rfl, HL0, HO0, Lib.hid (below_alloc _ _)⟩
  case round =>
    clear HL0 HO0
    obtain ⟨i, m, aa, ac, hi', rfl, rfl, HL, HO, HB⟩ := hrel
    obtain ⟨wo, hwo⟩ : ∃ x, x = wr := ⟨_, rfl⟩
    subst hwo
    by_cases hlt : i < z
    · obtain ⟨xa, xn, xc, cx, hRx⟩ := HRB.out i hlt
      rw [HBG.out i hlt] at hRx
      obtain ⟨k1, k2, -, -⟩ := HKF.out i hlt
      obtain ⟨e1, e2⟩ := HSS.out i hlt
      have hxn : xn = chK n i := by rw [← hRx.1, blockL_length]
      subst hxn
      have HBA := Lib.hid (fun j (h : j < chK n i) => (blockL_at (v := v) (t := T) h))
      have HGSI := Lib.hid (fun j (h : j < chK n i) => HGS.out i j hlt h)
      obtain ⟨k, hk⟩ : ∃ k, k = chK n i := ⟨_, rfl⟩
      obtain ⟨s, hs⟩ : ∃ s, s = chS n i := ⟨_, rfl⟩
      obtain ⟨BL, hBL⟩ : ∃ b, b = blockL v T n i := ⟨_, rfl⟩
      rw [← hBL] at hRx HBA
      rw [← hk] at cx hRx k1 k2 e1 HBA HGSI
      rw [← hs] at e1 HL HO HBA HGSI
      have HRX := Lib.hid hRx
      have HCX := Lib.hid cx
      have HE1 := Lib.hid e1
      have hb0 := HB.out.size
      have hsk : s + k ≤ n := by omega
      have HO1 : Hid ((wo.alloc (.cells #[] 3)).ownsRow w3.heap.size 5 1 (.slice aa m ac) m ((allS v T (s + 0)).map bv)) := Lib.hid (HO.out.alloc _)
      have HE0 : Hid ((wo.alloc (.cells #[] 3)).ownsRow w3.heap.size 3 1 (.slice (some ⟨wo.heap.size, 0, none⟩) 0 0) 0 ((natsI 0).map iv)) := Lib.hid (own_empty _ hb0)
      have HBA1 : Hid (Below w3.heap.size w3 (wo.alloc (.cells #[] 3))) := Lib.hid (HB.out.alloc hb0 _)
      have HL1 : Hid ((allS v T (s + 0)).length = m) := HL
      clear hk hs hBL hRx cx e1 e2 HO HL
      go_wp2_with fail
      go_loopw [7, 9, 10] (fun vl ve vj wr => ∃ (j m : Nat) (aa : Option Addr) (ac : Nat) (ea : Option Addr) (ec : Nat), j ≤ k ∧ vj = .int .i64 (j : Nat) ∧ vl = .slice aa m ac ∧ ve = .slice ea j ec ∧ Hid ((allS v T (s + j)).length = m) ∧ Hid (wr.ownsRow w3.heap.size 5 1 (.slice aa m ac) m ((allS v T (s + j)).map bv)) ∧ Hid (wr.ownsRow w3.heap.size 3 1 (.slice ea j ec) j ((natsI j).map iv)) ∧ Hid (Below w3.heap.size w3 wr)) (fun _ _ vj _ => (k - intOf vj).toNat)
      case atStart => exact ⟨0, m, aa, ac, _, 0, Nat.zero_le _, rfl, rfl, rfl, HL1, HO1, HE0, HBA1⟩
      case round =>
        clear HL1 HO1 HE0 HBA1
        obtain ⟨j, m, aa, ac, ea, ec, hj', rfl, rfl, rfl, HL, HO, HE, HBR⟩ := hrel
        have cx := cell_below HCX.out HBR.out
        have hbr := HBR.out.size
        by_cases hjk : j < k
        · obtain ⟨rb, ro, sa, sn, sc, l, rfl, rc0, hl, hby⟩ := HRX.out.at hjk
          rw [HBA.out j hjk] at hl
          injection hl with hl
          have hln : sn = T := by have := hby.length; rw [← hl, symOf_length] at this; simp only at this; omega
          subst hln
          have HST : Hid ((allS v sn (s + (j + 1))).map bv = (allS v sn (s + j)).map bv ++ l.map bv) := Lib.hid (by rw [← Nat.add_assoc, allS_succ, List.map_append, ← hl])
          have hm : m ≤ 65536 := by
            have h1 := HL.out
            rw [allS_length] at h1
            have h2 : (s + j) * sn ≤ 1024 * 64 := Nat.mul_le_mul (by omega) (by omega)
            omega
          have HL2 : Hid ((allS v sn (s + (j + 1))).length = m + sn) := Lib.hid (by rw [← Nat.add_assoc, allS_succ, List.length_append, HL.out, symOf_length])
          have HNS := Lib.hid (natsI_succ j)
          have hle : (l.length = sn) := hby.length
          have o8 := HE.out.alloc (.cells #[.int .i64 (j : Nat)] 3)
          have hb8 := HBR.out.alloc hbr (.cells #[.int .i64 (j : Nat)] 3)
          have HBY := Lib.hid hby
          clear hl hby hle
          go_wp2_with (first | (at_builtin; refine Hid.out ?_))
          refine Lib.hid ?_
          refine wpList_append_row rfl _ _ 24 rfl w3.heap.size 3 j0 (.int .i64 0) 8 Tryd.underlying24 hj hy0 hy1 hy2 rfl _ _ _ rfl o8 (some ⟨wr.heap.size, 0, none⟩) 1 1 ([(j : Int)].map iv) rfl (rowV_lit wr _ _ _ 1 _ rfl rfl rfl) (fun h => by cases h) (iv_oneQ _) (by unfold maxLen; omega) (by omega) hb8.size ?_
          intro v9 w9 hE9 g9 _
          have hb9 := below_grown hb8 g9 (ownBlock_ge o8)
          have ho9 := (HO.out.alloc (.cells #[.int .i64 (j : Nat)] 3)).kept g9 (own_ne (HO.out.alloc _) o8 (by decide))
          obtain ⟨a9, c9, rfl, -⟩ := ownsRow_parts hE9
          rw [← List.map_append, ← HNS.out] at hE9
          have HE9 := Lib.hid hE9
          have hrow := (HBY.out.below hb9).row
          have hnil := HBY.out.nil
          simp only at hrow hnil
          have cx9 := cell_below HCX.out hb9
          have rc9 := cell_below rc0 hb9
          clear o8 hb8 g9 hE9 cx
          go_wp2_with (first | (at_builtin; refine Hid.out ?_))
          refine Lib.hid ?_
          refine wpList_append_row rfl _ _ 22 rfl w3.heap.size 5 i0 (.int .u8 0) 1 Tryd.underlying22 hi hz0 hz1 hz2 rfl _ _ _ rfl ho9 sa sn sc (l.map bv) rfl hrow hnil (bv_one l) (by simp [maxLen]; omega) (by omega) hb9.size ?_
          intro v10 w10 hE10 g10 _
          have hb10 := below_grown hb9 g10 (ownBlock_ge ho9)
          have he10 := HE9.out.kept g10 (own_ne HE9.out ho9 (by decide))
          obtain ⟨a10, c10, rfl, -⟩ := ownsRow_parts hE10
          rw [← HST.out] at hE10
          have HO10 := Lib.hid hE10
          have HE10 := Lib.hid he10
          have HB10 := Lib.hid hb10
          clear ho9 hrow hnil hb9 g10 hE10 he10 hb10 HE9 HO HE HBR cx9 rc9 rc0
          go_wp2
          go_roundw
          case rel => exact ⟨j + 1, m + sn, a10, c10, a9, c9, by omega, by go_num, rfl, rfl, HL2, HO10, HE10, HB10⟩
          case measure => simp [intOf]; omega
        · obtain rfl : j = k := by omega
          have hbw := HB3.out.trans (HBR.out.mono hs3)
          have KC := copyBytes_any va vn vc v wr (HV.out.below hbw)
          have hIE := intsV_ownsC HE.out (by omega)
          have HIE := Lib.hid hIE
          have HBW := Lib.hid hbw
          have HWF := Lib.hid HRX.out
          clear hIE hbw HE
          go_wp2_with fail
          (with_reducible refine KC.mono ?_)
          rintro e w5 ⟨a5, c5, rfl, o5, b5⟩
          rw [HVL.out] at o5 ⊢
          have hb5 := HBW.out.trans (b5.mono HBW.out.size)
          have KY := syms_any a5 vn c5 v (T : Nat) (i : Nat) ea j ec (natsI j) w5 (bytesV_of_owns o5 HVB.out (by omega)) (HIE.out.below b5) (by omega) (HG.out.below hb5)
          rw [HSYM.out i (natsI j) hlt (natsI_ok (by omega))] at KY
          have ho5 := HO.out.kept (grownBy_of_below b5 none) (by cases (Value.slice aa m ac).ownBlock <;> simp)
          have HO5 := Lib.hid ho5
          have HB5 := Lib.hid (HBR.out.trans (b5.mono hbr))
          have hb5s := b5.size
          clear KC o5 b5 hb5 ho5 HO HIE cx
          go_wp2_with fail
          (with_reducible refine KY.mono ?_)
          rintro e w6 ⟨a6, c6, rfl, hS, b6⟩
          have hln : ((natsI j).map (gen v T i)).length = j := by rw [List.length_map, natsI_length]
          simp only [hln] at hS ⊢
          have HS := Lib.hid hS.sy
          have ho6 := HO5.out.kept (grownBy_of_below b6 none) (by cases (Value.slice aa m ac).ownBlock <;> simp)
          have HO6 := Lib.hid ho6
          have hs5 := HB5.out.size
          have HB6 := Lib.hid (HB5.out.trans (b6.mono hs5))
          have cx := cell_below HCX.out HB6.out
          clear KY hS b6 ho6 HO5 hln
          go_wp2_with fail
          go_loopw [13] (fun vq wr => ∃ q : Nat, q ≤ j ∧ vq = .int .i64 (q : Nat) ∧ Hid (Below w6.heap.size w6 wr)) (fun vq _ => (j - intOf vq).toNat)
          case atStart => exact ⟨0, Nat.zero_le _, rfl, Lib.hid (Below.refl _ _)⟩
          case round =>
            obtain ⟨q, hq, rfl, HBQ⟩ := hrel
            have hb6s := HB6.out.size
            have HBZ := Lib.hid (HB6.out.trans (HBQ.out.mono hb6s))
            by_cases hqj : q < j
            · obtain ⟨b7, o7, z7, e7, a7, n7, c7, l7, rfl, q0, q1, q2, hs7, hby7⟩ := HS.out.at hqj
              obtain ⟨rb, ro, sa, sn, sc, l, rfl, rc0, hl, hby⟩ := HRX.out.at hqj
              rw [HBA.out q hqj] at hl
              injection hl with hl
              rw [List.getElem?_map, natsI_at hqj, Option.map_some, HGSI.out q hqj] at hs7
              simp only [Option.some.injEq, Prod.mk.injEq] at hs7
              obtain ⟨rfl, rfl, hs7⟩ := hs7
              have hll : l7 = l := hs7.symm.trans hl
              subst hll
              have r2 := cell_below q2 HBQ.out
              have r3 := cell_below rc0 HBZ.out
              have r4 := cell_below HCX.out HBZ.out
              have y1 := hby7.below HBQ.out
              have y2 := hby.below HBZ.out
              have hcall : ∀ m, Calls Tryd.prog 21 #[.slice a7 n7 c7, .slice sa sn sc] (wr.drewN m) fun e w' => e = .returned (.bool true) ∧ ∃ m', w' = (wr.drewN m).drewN m' := fun m => by
                have := sameBytes_quiet a7 n7 c7 l7 sa sn sc l7 _ (y1.drewN m) (y2.drewN m)
                rw [decide_eq_true rfl] at this
                exact this
              have HC := Lib.hid hcall
              have hq0 : (0 : Int) ≤ (q : Int) := by omega
              have hq1 : (q : Int) < (j : Int) := by omega
              clear q0 q1 q2 hs7 hby7 rc0 hl hby y1 y2 hcall
              go_wp2_with fail
              go_quiet ((go_at_call 21; exact Calls.quiet_of (HC.out _)))
              go_wp2
              go_roundw
              case rel => exact ⟨q + 1, by omega, by go_num, Lib.hid (below_drewNi HBQ.out _)⟩
              case measure => simp [intOf]; omega
            · obtain rfl : q = j := by omega
              have ho7 := HO6.out.kept (grownBy_of_below HBQ.out none) (by cases (Value.slice aa m ac).ownBlock <;> simp)
              have HO7 : Hid (wr.ownsRow w3.heap.size 5 1 (.slice aa m ac) m ((allS v T (chS n (i + 1))).map bv)) := Lib.hid (by rw [HE1.out]; exact ho7)
              have HL7 : Hid ((allS v T (chS n (i + 1))).length = m) := Lib.hid (by rw [HE1.out]; exact HL.out)
              clear ho7 HO6 HL
              go_wp2
              go_roundw
              case rel => exact ⟨i + 1, m, aa, ac, by omega, by go_num, rfl, HL7, HO7, HBZ⟩
              case measure => simp [intOf]; omega
    · obtain rfl : i = z := by omega
      have hL := HL.out
      have hO := HO.out
      rw [HSE.out] at hL hO
      rw [allS_length] at hL
      obtain ⟨n3, n4⟩ := HN.out
      have hm : m ≤ 65536 := by
        have h2 : n * T ≤ 1024 * 64 := Nat.mul_le_mul (by omega) (by omega)
        omega
      have hvm : vn ≤ m := by omega
      have hmt : m - vn < T := by omega
      have hb := HB.out.size
      have hbw := HB3.out.trans (HB.out.mono hs3)
      have hV := bytesV_of_owns hO (allS_bytes HVB.out T n) (by omega)
      have hVt := hV.takeC hvm
      have htk : (allS v T n).take vn = v := by
        have := allS_take (v := v) (t := T) (m := n) (by rw [HVL.out]; omega)
        rw [HVL.out] at this
        exact this
      rw [htk] at hVt
      have hcap := hV.cap
      simp only at hcap
      have KQ := sameBytes_any aa vn ac v va vn vc v wo hVt (HV.out.below hbw)
      rw [decide_eq_true rfl] at KQ
      have HVV := Lib.hid hV
      have HBW := Lib.hid hbw
      have h1 : ¬ ((m : Int) < (vn : Int)) := by omega
      have h2 : ¬ ((T : Int) ≤ (m : Int) - (vn : Int)) := by omega
      clear hL hO HL HO n3 n4 hV hVt htk hbw
      go_wp2_with fail
      (with_reducible refine KQ.mono ?_)
      rintro e w5 ⟨rfl, b5⟩
      have HV5 := Lib.hid (HVV.out.below b5)
      have HB5 := Lib.hid (HBW.out.trans (b5.mono HBW.out.size))
      clear KQ b5 HVV HBW
      go_wp2_with fail
      go_loopw [14] (fun vq wr => ∃ q : Nat, vn ≤ q ∧ q ≤ m ∧ vq = .int .i64 (q : Nat) ∧ Hid (Below w5.heap.size w5 wr)) (fun vq _ => (m - intOf vq).toNat)
      case atStart => exact ⟨vn, Nat.le_refl _, hvm, rfl, Lib.hid (Below.refl _ _)⟩
      case round =>
        obtain ⟨q, hq0, hq, rfl, HBQ⟩ := hrel
        by_cases hqj : q < m
        · obtain ⟨b8, o8, rfl, hc8⟩ := (HV5.out.below HBQ.out).row.2 (by simp only; omega)
          have hc := hc8 q hqj
          have hz : (allS v T n)[q]? = some 0 := by
            have hlt2 : q < (allS v T n).length := by have := HV5.out.length; simp only at this; omega
            have h5 := allS_getD v T n q (by rw [← allS_length v T n]; exact hlt2)
            rw [List.getD_eq_getElem?_getD, List.getElem?_eq_getElem hlt2] at h5
            rw [List.getElem?_eq_getElem hlt2]
            simp only [Option.getD_some] at h5
            rw [h5, List.getD_eq_getElem?_getD, List.getElem?_eq_none (by rw [HVL.out]; exact hq0)]
            rfl
          rw [List.getElem?_map, hz] at hc
          have hc' : wr.cell? ⟨b8, o8 + q, none⟩ = some (.int .u8 0) := hc
          clear hc hz hc8
          go_wp2
          go_roundw
          case rel => exact ⟨q + 1, by omega, by omega, by go_num, HBQ⟩
          case measure => simp [intOf]; omega
        · obtain rfl : q = m := by omega
          go_wp2
          go_ret
          exact ⟨rfl, HB5.out.trans (HBQ.out.mono HB5.out.size)⟩
end Go.Proofs.YtfjcbgfgiidogaaDoor
