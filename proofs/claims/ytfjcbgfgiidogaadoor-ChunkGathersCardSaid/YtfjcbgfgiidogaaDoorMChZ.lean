/-
  the reference's Gather.
-/
import Derived.Deep.RegionHeld3
import Derived.Test.YtfjcbgfgiidogaaDoorMCh6
import Derived.Test.YtfjcbgfgiidogaaDoorMRrR
namespace Go.Proofs.YtfjcbgfgiidogaaDoor
open Go.RowKit

set_option maxRecDepth 100000 in
set_option maxHeartbeats 8000000 in
theorem refGather_any (s t : Int) (sa : Option Addr) (sn sc : Nat) (ss : List Sy) (w : World) (h : SyV w sa sn ss) (hsn : sn ≤ 1000) :
    Calls Tryd.prog 30 #[.int .i64 s, .int .i64 t, .slice sa sn sc] w (GivesG w (gatherR s t ss)) := by
  obtain ⟨i0, hi, hz0, hz1, hz2⟩ := info_parts Tryd.info5
  have HL := Lib.hid h.len
  have HS := Lib.hid h
  have HM := Lib.hid h.mem
  have KP := refParts_any s t w
  unfold partsR at KP
  clear h
  obtain ⟨G, hG⟩ : ∃ G, G = gatherR s t ss := ⟨_, rfl⟩
  have HGE := Lib.hid hG
  rw [← hG]
  clear hG
  by_cases hc : sizeC s t = 0
  rotate_left 1
  · rw [if_neg hc] at KP
    have hcb : (sizeC s t != 0) = true := by rw [bne_iff_ne]; exact hc
    have HX := Lib.hid (show G = ([], sizeC s t) by rw [HGE.out]; unfold gatherR; rw [if_neg hc])
    clear HGE hc
    generalize sizeC s t = code at hcb HX KP ⊢
    go_enter Tryd.func30, Tryd.ntmps30
    go_wp2_with fail
    (with_reducible refine KP.mono ?_)
    rintro e w1 ⟨a1, c1, rfl, -, b1⟩
    clear KP
    go_wp2
    go_ret2
    rw [HX.out]
    exact givesG_nil b1
  rw [if_pos hc] at KP
  obtain ⟨g1, g2⟩ := sizeC_zero.1 hc
  obtain ⟨s1, s2⟩ := okS_iff.1 g1
  obtain ⟨t1, t2⟩ := okT_iff.1 g2
  obtain ⟨n1, n2, n3, -⟩ := chN_facts (size := s.toNat) (t := t.toNat) (by omega) (by omega) (by omega)
  have HXB := Lib.hid (show badZ (chZ (chN s.toNat t.toNat)) ss = true → G = ([], 51) from fun hbz => by rw [HGE.out]; unfold gatherR; rw [if_pos hc, if_pos hbz])
  have HX := Lib.hid (show badZ (chZ (chN s.toNat t.toNat)) ss = false → G = if (gathTo (chN s.toNat t.toNat) t ss (chZ (chN s.toNat t.toNat))).2 = 0 then ((gathTo (chN s.toNat t.toNat) t ss (chZ (chN s.toNat t.toNat))).1.take s.toNat, 0) else ([], (gathTo (chN s.toNat t.toNat) t ss (chZ (chN s.toNat t.toNat))).2) from fun hbz => by
    rw [HGE.out]; unfold gatherR; rw [if_pos hc, if_neg (by rw [hbz]; decide)])
  clear HGE hc g1 g2
  obtain ⟨n, hn⟩ : ∃ n, n = chN s.toNat t.toNat := ⟨_, rfl⟩
  rw [← hn] at n1 n2 n3 HX HXB KP
  clear hn
  obtain ⟨z1, z2, -, -, z3⟩ := chZ_facts n1 n2
  have HCE := Lib.hid (chS_end (n := n))
  have HKF := Lib.hid (fun i (h : i < chZ n) => chK_facts n1 n2 h)
  have HSM := Lib.hid (fun i (h : i ≤ chZ n) => (show chS n i ≤ n by have := chS_mono n h; rw [chS_end] at this; exact this))
  have hPL : (partsL n).length = chZ n := partsL_length n
  have HPK : Hid (∀ i, i < chZ n → ((partsL n).map nv')[i]? = some (.int .i64 ((chK n i : Nat) : Int))) := Lib.hid (fun i h => by
    unfold partsL
    rw [List.map_map, List.getElem?_map, List.getElem?_range h]
    rfl)
  unfold GivesN at KP
  simp only [hPL] at KP
  obtain ⟨PL, hPLL⟩ : ∃ P, P = partsL n := ⟨_, rfl⟩
  rw [← hPLL] at KP HPK
  obtain ⟨z, hz⟩ : ∃ z, z = chZ n := ⟨_, rfl⟩
  rw [← hz] at z1 z2 z3 KP HX HXB HCE HKF HSM HPK
  obtain ⟨S, rfl⟩ : ∃ S : Nat, s = (S : Nat) := ⟨s.toNat, by omega⟩
  obtain ⟨T, rfl⟩ : ∃ T : Nat, t = (T : Nat) := ⟨t.toNat, by omega⟩
  rw [Int.toNat_natCast] at n3
  rw [Int.toNat_natCast] at n3
  simp only [Int.toNat_natCast] at HX
  have HN3 := Lib.hid n3
  clear hz hPLL hPL n3
  go_enter Tryd.func30, Tryd.ntmps30
  go_wp2_with fail
  (with_reducible refine KP.mono ?_)
  rintro e w1 ⟨a1, c1, rfl, o1, b1⟩
  obtain ⟨q, rfl⟩ := own_some o1 (by omega)
  have HC : Hid (∀ i, i < z → w1.cell? ⟨q, i, none⟩ = some (.int .i64 ((chK n i : Nat) : Int))) := Lib.hid (fun i hi => (o1.cellAt i (by omega)).trans (HPK.out i hi))
  have HB1 := Lib.hid b1
  have hs1 := b1.size
  have HS1 := Lib.hid (HS.out.below b1)
  clear KP o1 b1 HPK
  go_wp2_with fail
  go_loopw [10] (fun vi wr => ∃ i : Nat, i ≤ sn ∧ vi = .int .i64 (i : Nat) ∧ Hid (∀ x ∈ ss.take i, inZ z x.1 = true) ∧ Hid (Below w1.heap.size w1 wr)) (fun vi _ => (sn - intOf vi).toNat)
  case atStart => exact ⟨0, Nat.zero_le _, rfl, Lib.hid (fun x h => by simp at h), Lib.hid (Below.refl _ _)⟩
  case round =>
    obtain ⟨i, hi9, rfl, HZ, HB⟩ := hrel
    by_cases hlt : i < sn
    · obtain ⟨sb, off, z1', e, xa, xn, xc, l, rfl, q0, -, -, hpi, -⟩ := (HS1.out.below HB.out).at hlt
      have HT := Lib.hid (take_step ss i _ hpi)
      have HME := Lib.hid (List.mem_of_getElem? hpi)
      clear hpi
      by_cases h0 : z1' < 0
      · have HXB2 := Lib.hid (HXB.out (by
          rw [← Bool.not_eq_false, badZ_false]
          intro h
          have := inZ_iff.1 (h _ HME.out)
          simp only at this
          omega))
        go_wp2
        go_ret2
        rw [HXB2.out]
        exact givesG_nil (HB1.out.trans (HB.out.mono hs1))
      by_cases h1 : z1' < (z : Int)
      rotate_left 1
      · have h1' : (z : Int) ≤ z1' := by omega
        have HXB2 := Lib.hid (HXB.out (by
          rw [← Bool.not_eq_false, badZ_false]
          intro h
          have := inZ_iff.1 (h _ HME.out)
          simp only at this
          omega))
        go_wp2
        go_ret2
        rw [HXB2.out]
        exact givesG_nil (HB1.out.trans (HB.out.mono hs1))
      have HZ2 := Lib.hid (show ∀ x ∈ ss.take (i + 1), inZ z x.1 = true from fun x hx => by
        rw [HT.out] at hx
        rcases List.mem_append.1 hx with h | h
        · exact HZ.out x h
        · simp only [List.mem_singleton] at h
          subst h
          exact inZ_iff.2 ⟨by simp only; omega, by simp only; omega⟩)
      have h1' : ¬ (z : Int) ≤ z1' := by omega
      have h0' : 0 ≤ z1' := by omega
      go_wp2
      go_roundw
      case rel => exact ⟨i + 1, by omega, by go_num, HZ2, HB⟩
      case measure => simp [intOf]; omega
    · obtain rfl : sn = i := by omega
      have hZ := HZ.out
      rw [List.take_of_length_le (by rw [HL.out]; exact Nat.le_refl _)] at hZ
      have HX1 := Lib.hid (HX.out (badZ_false.2 hZ))
      have HBW := HB
      have HSW := Lib.hid (HS1.out.below HB.out)
      have HCW : Hid (∀ i, i < z → wr.cell? ⟨q, i, none⟩ = some (.int .i64 ((chK n i : Nat) : Int))) := Lib.hid (fun i hi => cell_below (HC.out i hi) HB.out)
      have HB2 := Lib.hid (HB1.out.trans (HB.out.mono hs1))
      obtain ⟨w2, hw2⟩ : ∃ x, x = wr := ⟨_, rfl⟩
      subst hw2
      clear hZ HX HXB HC HB1 HB HS1 HZ
      have HO0 : Hid ((w2.alloc (.cells #[] 5)).ownsRow w2.heap.size 5 1 (.slice (some ⟨w2.heap.size, 0, none⟩) 0 0) 0 (([] : List Nat).map bv)) := Lib.hid (World.ownsRow_made (base := w2.heap.size) (e := 5) (size := 1) w2 #[] 0 (Nat.le_refl _) (by simp [maxLen]) rfl)
      have HBA := Lib.hid (below_alloc w2 (.cells #[] 5))
      have hs2 := HB2.out.size
      go_wp2_with fail
      go_loopw [11, 12] (fun vv vi wr => ∃ (i m : Nat) (va : Option Addr) (vc : Nat) (gl : List Nat), i ≤ z ∧ vi = .int .i64 (i : Nat) ∧ vv = .slice va m vc ∧ Hid (gathTo n (T : Nat) ss i = (gl, 0)) ∧ Hid (gl.length = m) ∧ Hid (wr.ownsRow w2.heap.size 5 1 (.slice va m vc) m (gl.map bv)) ∧ Hid (Below w2.heap.size w2 wr)) (fun _ vi _ => (z - intOf vi).toNat)
      case atStart => exact ⟨0, 0, _, _, [], Nat.zero_le _, rfl, rfl, Lib.hid rfl, Lib.hid rfl, HO0, HBA⟩
      case round =>
        clear HO0 HBA
        obtain ⟨i, m, va, vc, gl, hi', rfl, rfl, HGL, HLN, HO, HB⟩ := hrel
        by_cases hlt : i < z
        · have K0 := cell_below (HCW.out i hlt) HB.out
          have HSI := Lib.hid (HSW.out.below HB.out)
          have hb' := HB2.out.trans (HB.out.mono hs2)
          have KD := fun a n20 c W hp hn => refDecode_ro ((chK n i : Nat) : Int) (T : Nat) a n20 c (ofBlock ss i) W hp hn
          obtain ⟨D, hD⟩ : ∃ D, D = decodeR ((chK n i : Nat) : Int) (T : Nat) (ofBlock ss i) := ⟨_, rfl⟩
          have hSH : D.2 = 0 → D.1.length = chK n i ∧ Rws D.1 T := fun h => by
            rw [hD] at h ⊢
            have := decodeR_shape (fun l hl => by
              obtain ⟨p, hp, rfl⟩ := List.mem_map.1 hl
              exact HM.out _ (mem_ofBlock.1 hp)) h
            rw [Int.toNat_natCast, Int.toNat_natCast] at this
            exact this
          have hST : gathTo n (T : Nat) ss (i + 1) = if D.2 = 0 then (gl ++ D.1.flatten, 0) else ([], D.2) := by
            simp only [gathTo]
            rw [HGL.out, if_pos rfl, ← hD]
          have hLE := (gathTo_shape (t := (T : Nat)) HM.out i (by rw [HGL.out])).2
          have hGB := (gathTo_shape (t := (T : Nat)) HM.out i (by rw [HGL.out])).1
          rw [HGL.out, Int.toNat_natCast] at hLE
          rw [HGL.out] at hGB
          have hm' : m ≤ 65536 := by
            rw [HLN.out] at hLE
            have h1 := HSM.out i hi'
            have h2 : chS n i * T ≤ 1024 * 64 := Nat.mul_le_mul (by omega) (by omega)
            omega
          simp only [← hD] at KD
          have HSH := Lib.hid hSH
          have HST := Lib.hid hST
          have HGB := Lib.hid hGB
          have hkk := (HKF.out i hlt).2.1
          obtain ⟨k, hk⟩ : ∃ k, k = chK n i := ⟨_, rfl⟩
          rw [← hk] at K0 hkk HSH
          simp only [← hk] at KD
          have hbs := HB.out.size
          have HKK := Lib.hid hkk
          have HM65 := Lib.hid hm'
          have HBW := Lib.hid hb'
          have hiz0 : (0 : Int) ≤ (i : Int) := by omega
          have hiz1 : (i : Int) < (z : Int) := by omega
          clear hSH hST hD hLE hGB hk hb'
          obtain ⟨rows, code⟩ := D
          simp only at HSH HST KD
          go_wp2_with fail
          go_region_held3 (fun w' => w'.cell? ⟨q, i, none⟩ = some (.int .i64 (k : Int))) (first | exact K0 | exact K20 | exact K5 | go_keep)
            (first
              | (go_at_call 43; (with_reducible refine (refOf_any _ sn _ ss i _ ?hh hsn).mono ?_); (case hh => exact HSI.out.below ⟨rfl, rfl, rfl, Nat.le_refl _, fun _ _ => rfl⟩); rintro e w20 ⟨a20, n20, c20, rfl, hn20, p20, d20⟩; have b20 : Below wr.heap.size wr w20 := ⟨d20.os, d20.tape, d20.output, d20.size, d20.block⟩; have K20 : w20.cell? ⟨q, i, none⟩ = some (.int .i64 (k : Int)) := cell_below K0 b20; have P20 := Lib.hid p20; have hn20' : n20 ≤ 140737488355328 := by omega)
              | (go_at_call 42; (with_reducible refine (KD a20 n20 c20 _ ?hp hn20').mono ?_); (case hp => exact P20.out.below ⟨rfl, rfl, rfl, Nat.le_refl _, fun _ _ => rfl⟩); rintro e w5 ⟨a5, c5, rfl, -, h5, d5⟩; have b25 : Below w20.heap.size w20 w5 := ⟨d5.os, d5.tape, d5.output, d5.size, d5.block⟩; have K5 : w5.cell? ⟨q, i, none⟩ = some (.int .i64 (k : Int)) := cell_below K20 b25; simp only at h5 ⊢))
          have b5 : Below wr.heap.size wr w5 := b20.trans (b25.mono b20.size)
          have h5 : code = 0 → OwnRs w5 wr.heap.size a5 rows.length c5 rows := fun h => (h5 h).rebase b20.size
          have hb5 := HBW.out.trans (b5.mono HBW.out.size)
          clear K0 K20 K5 b25 d5 d20 P20 hn20 hn20' HSI KD b20
          by_cases hc : code = 0
          rotate_left 1
          · have hcb : (code != 0) = true := by rw [bne_iff_ne]; exact hc
            have HE : Hid (G = ([], code)) := Lib.hid (by
              have h1 : gathTo n (T : Nat) ss (i + 1) = ([], code) := by rw [HST.out, if_neg hc]
              have h2 : gathTo n (T : Nat) ss z = ([], code) := by rw [gathTo_fail (by rw [h1]; exact hc) z (by omega), h1]
              rw [HX1.out, h2, if_neg hc])
            clear hc h5
            go_wp2
            go_ret2
            rw [HE.out]
            exact givesG_nil hb5
          subst hc
          obtain ⟨hRl, hRw⟩ := HSH.out rfl
          have HRW := Lib.hid hRw
          have hO5 := h5 rfl
          rw [hRl] at hO5
          have HO5 := Lib.hid hO5
          have ho5 := HO.out.kept (grownBy_of_below b5 none) (by cases (Value.slice va m vc).ownBlock <;> simp)
          have hlow : ∀ g, (Value.slice va m vc).ownBlock = some g → g < wr.heap.size ∨ w5.heap.size ≤ g := fun g hg => .inl (HO.out.lt g hg).2
          have HO1 : Hid (w5.ownsRow w2.heap.size 5 1 (.slice va m vc) m ((gl ++ (rows.take 0).flatten).map bv)) := Lib.hid (by simpa using ho5)
          have HLO := Lib.hid hlow
          have HB5 := Lib.hid (HB.out.trans (b5.mono hbs))
          have hbs5 := b5.size
          have HLL := Lib.hid (show (gl ++ (rows.take 0).flatten).length = m by simpa using HLN.out)
          have HS2 : Hid (∀ j, j ≤ k → (gl ++ (rows.take j).flatten).length ≤ m + j * T) := Lib.hid (fun j hj => by
            rw [List.length_append, HLN.out]
            have : ∀ (L : List (List Nat)), Rws L T → L.flatten.length = L.length * T := fun L hL => by
              induction L with
              | nil => simp
              | cons l L ih =>
                rw [List.flatten_cons, List.length_append, ih (fun r hr => hL r (List.mem_cons_of_mem _ hr)), (hL l List.mem_cons_self).2, List.length_cons, Nat.add_mul, Nat.one_mul, Nat.add_comm]
            rw [this _ (fun r hr => HRW.out r (List.mem_of_mem_take hr)), List.length_take]
            have := Nat.mul_le_mul_right T (Nat.min_le_left j rows.length)
            omega)
          rw [hRl]
          have HRL := Lib.hid hRl
          clear h5 hO5 ho5 hlow hRl hRw HSH HO
          obtain ⟨wo, hwo⟩ : ∃ x, x = wr := ⟨_, rfl⟩
          subst hwo
          go_wp2_with fail
          go_loopw [11, 15] (fun vv vj wr => ∃ (j mm : Nat) (ya : Option Addr) (yc : Nat), j ≤ k ∧ vj = .int .i64 (j : Nat) ∧ vv = .slice ya mm yc ∧ Hid ((gl ++ (rows.take j).flatten).length = mm) ∧ Hid (wr.ownsRow w2.heap.size 5 1 (.slice ya mm yc) mm ((gl ++ (rows.take j).flatten).map bv)) ∧ Hid (∀ g, (Value.slice ya mm yc).ownBlock = some g → g < wo.heap.size ∨ w5.heap.size ≤ g) ∧ Hid (∀ b, wo.heap.size ≤ b → b < w5.heap.size → wr.heap[b]? = w5.heap[b]?) ∧ Hid (Below w2.heap.size w2 wr) ∧ w5.heap.size ≤ wr.heap.size) (fun _ vj _ => (k - intOf vj).toNat)
          case atStart => exact ⟨0, m, va, vc, Nat.zero_le _, rfl, rfl, HLL, HO1, HLO, Lib.hid (fun _ _ _ => rfl), HB5, Nat.le_refl _⟩
          case round =>
            clear HLL HO1 HLO HB5
            obtain ⟨j, mm, ya, yc, hj', rfl, rfl, HLL, HO1, HLO, HK, HBS, hss⟩ := hrel
            by_cases hjk : j < k
            · have hRD := (HO5.out.range HK.out).rd
              obtain ⟨rb, ro, a2, m2, c2', l, rfl, rc, hl, hby⟩ := hRD.at hjk
              obtain ⟨-, hlT⟩ := HRW.out l (List.mem_of_getElem? hl)
              have hm2 : m2 = T := by have := hby.length; simp only at this; omega
              subst hm2
              obtain ⟨b2, o2, rfl, hcs⟩ := hby.row.2 (by simp only; omega)
              simp only at hcs
              have hl1 := hby.row.1
              simp only at hl1
              have HST2 := Lib.hid (show gl ++ (rows.take (j + 1)).flatten = (gl ++ (rows.take j).flatten) ++ l by rw [take_step rows j l hl, List.flatten_append, List.append_assoc]; simp)
              have hmm : mm ≤ 70000 := by
                have h1 := HS2.out j hj'
                rw [HLL.out] at h1
                have h2 : j * m2 ≤ 32 * 64 := Nat.mul_le_mul (by have := HKK.out; omega) (by omega)
                have h3 := HM65.out
                omega
              have hown := HO1.out
              have hbb := HBS.out.size
              have HNEW := Lib.hid (show ∀ x u, (l.map bv)[x]? = some u → wr.cell? ((⟨b2, o2, none⟩ : Addr).add x) = some u from fun x u hu => by
                have hx : x < m2 := by have := (List.getElem?_eq_some_iff.1 hu).1; omega
                rw [← hu, ← hcs x hx]
                unfold Addr.add
                split
                · rename_i e0; subst e0; rfl
                · rfl)
              have HLT := Lib.hid hl1
              have HLl := Lib.hid hlT
              clear hRD hl hby hcs hl1 hlT
              go_wp2_with (first | (at_builtin; refine Hid.out ?_))
              refine Lib.hid ?_
              refine wpList_append_lies _ rfl _ _ 22 rfl w2.heap.size 5 i0 (.int .u8 0) 1 1 Tryd.underlying22 hi hz0 hz1 hz2 rfl (by decide) _ mm _ rfl hown ⟨b2, o2, none⟩ m2 c2' (l.map bv) rfl (by rw [HLT.out, Nat.mul_one]) HNEW.out (bv_one l) (by omega) (by simp [maxLen]; omega) (by omega) hbb _ rfl ?_
              intro g9 c9 w9 hE9 g9' lie9 _
              have hb9 := below_grown HBS.out g9' (ownBlock_ge hown)
              rw [← List.map_append, ← HST2.out] at hE9
              have HO9 := Lib.hid hE9
              have HB9 := Lib.hid hb9
              have HL9 := Lib.hid (show (gl ++ (rows.take (j + 1)).flatten).length = mm + m2 by rw [HST2.out, List.length_append, HLL.out, HLl.out])
              have HLO9 := Lib.hid (show ∀ g, (Value.slice (some ⟨g9, 0, none⟩) (mm + m2) c9).ownBlock = some g → g < wo.heap.size ∨ w5.heap.size ≤ g from fun g hg => by
                simp [Value.ownBlock] at hg
                subst hg
                rcases lie9 with h | h
                · exact HLO.out _ h
                · right; omega)
              have HK9 := Lib.hid (show ∀ b, wo.heap.size ≤ b → b < w5.heap.size → w9.heap[b]? = w5.heap[b]? from fun b h1 h2 => by
                rw [g9'.block b (by omega) (fun e => by
                  rcases HLO.out b e.symm with h | h <;> omega)]
                exact HK.out b h1 h2)
              have hs9 := g9'.size
              clear hown hE9 g9' lie9 hb9 HO1 HLO HK HNEW
              go_wp2
              go_roundw
              case rel => exact ⟨j + 1, mm + m2, _, c9, by omega, by go_num, rfl, HL9, HO9, HLO9, HK9, HB9, by omega⟩
              case measure => simp [intOf]; omega
            · obtain rfl : j = k := by omega
              have HGT : Hid (gathTo n (T : Nat) ss (i + 1) = (gl ++ (rows.take j).flatten, 0)) := Lib.hid (by
                rw [HST.out, List.take_of_length_le (by rw [HRL.out]; exact Nat.le_refl _)]; simp)
              clear HO5 HK HLO
              go_wp2
              go_roundw
              case rel => exact ⟨i + 1, mm, ya, yc, _, by omega, by go_num, rfl, HGT, HLL, HO1, HBS⟩
              case measure => simp [intOf]; omega
        · obtain rfl : i = z := by omega
          obtain ⟨hGB, hLE⟩ := gathTo_shape (t := (T : Nat)) HM.out i (by rw [HGL.out])
          rw [HGL.out] at hGB hLE
          rw [HLN.out, HCE.out, Int.toNat_natCast] at hLE
          have hSm : S ≤ m := by have := HN3.out; omega
          have hm' : m ≤ 65536 := by
            have h2 : n * T ≤ 1024 * 64 := Nat.mul_le_mul (by omega) (by omega)
            omega
          have hV := bytesV_of_owns HO.out hGB (by omega)
          have hmc := hV.cap
          simp only at hmc
          have HE := Lib.hid (show G = (gl.take S, 0) by rw [HX1.out, HGL.out, if_pos rfl])
          have HV := Lib.hid (hV.takeC hSm)
          have HLT := Lib.hid (show (gl.take S).length = S by rw [List.length_take, HLN.out]; omega)
          clear hGB hLE hV HO HGL
          go_wp2
          go_ret2
          rw [HE.out]
          exact ⟨va, vc, by simp only [HLT.out]; rfl, by simp only [HLT.out]; exact HV.out, HB2.out.trans (HB.out.mono hs2)⟩
end Go.Proofs.YtfjcbgfgiidogaaDoor
