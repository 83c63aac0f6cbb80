/-
  Ch5: ChS ChT
-/
import Derived.Test.YtfjcbgfgiidogaaDoorMRq7
import Derived.Test.YtfjcbgfgiidogaaDoorMCi1
namespace Go.Proofs.YtfjcbgfgiidogaaDoor
open Go.RowKit

def partsK (n i : Nat) : List Nat := (List.range i).map (chK n)
theorem partsK_succ (n i : Nat) : (partsK n (i + 1)).map nv' = (partsK n i).map nv' ++ [Value.int .i64 ((chK n i : Nat) : Int)] := by unfold partsK; rw [List.range_succ, List.map_append, List.map_append]; rfl
theorem nv_one (l : List Nat) : ∀ u ∈ l.map nv', u.oneCell' = true := by
  intro u hu
  obtain ⟨x, _, rfl⟩ := List.mem_map.1 hu
  rfl
set_option maxRecDepth 100000 in
set_option maxHeartbeats 4000000 in
theorem refParts_any (s t : Int) (w : World) : Calls Tryd.prog 16 #[.int .i64 s, .int .i64 t] w (GivesN w (partsR s t)) := by
  obtain ⟨i0, hi, hz0, hz1, hz2⟩ := info_parts iinfo
  unfold partsR sizeC
  by_cases h1 : okS s = true
  rotate_left 1
  · rw [if_neg h1, if_neg (by decide)]
    have h1' : s < 1 ∨ 1024 < s := by
      rcases Classical.em (s < 1) with h | h
      · exact .inl h
      · refine .inr ?_
        rcases Classical.em (1024 < s) with h' | h'
        · exact h'
        · exact absurd (okS_iff.2 ⟨by omega, by omega⟩) h1
    clear h1
    rcases h1' with h | h
    all_goals
      go_enter Tryd.func16, Tryd.ntmps16
      go_wp2
      go_ret2
      exact givesN_nil (Below.refl _ _)
  rw [if_pos h1]
  obtain ⟨s1, s2⟩ := okS_iff.1 h1
  clear h1
  by_cases h1 : okT t = true
  rotate_left 1
  · rw [if_neg h1, if_neg (by decide)]
    have h1' := okT_bad h1
    clear h1
    rcases h1' with h | h
    all_goals
      go_enter Tryd.func16, Tryd.ntmps16
      go_wp2
      go_ret2
      exact givesN_nil (Below.refl _ _)
  rw [if_pos h1, if_pos rfl]
  obtain ⟨t1, t2⟩ := okT_iff.1 h1
  clear h1
  obtain ⟨S, rfl⟩ : ∃ S : Nat, s = (S : Nat) := ⟨s.toNat, by omega⟩
  obtain ⟨T, rfl⟩ : ∃ T : Nat, t = (T : Nat) := ⟨t.toNat, by omega⟩
  rw [Int.toNat_natCast, Int.toNat_natCast]
  obtain ⟨n1, n2, -, -⟩ := chN_facts (size := S) (t := T) (by omega) (by omega) (by omega)
  have f1 : ((S : Int) + (T : Int) - 1) / (T : Int) = ((chN S T : Nat) : Int) := by
    rw [show (S : Int) + (T : Int) - 1 = ((S + T - 1 : Nat) : Int) by omega, ← Int.natCast_ediv]; rfl
  obtain ⟨n, hn⟩ : ∃ n, n = chN S T := ⟨_, rfl⟩
  rw [← hn] at n1 n2 f1 ⊢
  clear hn
  obtain ⟨z1, z2, -, -, z3⟩ := chZ_facts n1 n2
  have f2 : ((n : Int) + 31) / 32 = ((chZ n : Nat) : Int) := by
    rw [show (n : Int) + 31 = ((n + 31 : Nat) : Int) by omega]
    show ((n + 31 : Nat) : Int) / ((32 : Nat) : Int) = _
    rw [← Int.natCast_ediv]; rfl
  have HE := Lib.hid (show partsK n (chZ n) = partsL n from rfl)
  have HK := Lib.hid (fun i => show chK n i = n / chZ n + if i < n % chZ n then 1 else 0 from rfl)
  have HLN := Lib.hid (partsL_length n)
  obtain ⟨z, hz⟩ : ∃ z, z = chZ n := ⟨_, rfl⟩
  rw [← hz] at z1 z2 z3 HE HK HLN f2
  clear hz
  have hdm := Nat.div_add_mod n z
  have hq : n / z ≤ 1024 := Nat.le_trans (Nat.div_le_self _ _) n2
  have hrz : n % z < z := Nat.mod_lt _ (by omega)
  have E1 : (n : Int) / (z : Int) = ((n / z : Nat) : Int) := (Int.natCast_ediv _ _).symm
  have hP0 : (z : Int) ≠ 0 := by omega
  have hPb : ((z : Int) == 0) = false := beq_eq_false_iff_ne.2 hP0
  have hPf : ((z : Int) = 0) = False := eq_false hP0
  have hPf2 : (z = 0) = False := eq_false (by omega)
  have hT0 : (T : Int) ≠ 0 := by omega
  have hTb : ((T : Int) == 0) = false := beq_eq_false_iff_ne.2 hT0
  have hTf : ((T : Int) = 0) = False := eq_false hT0
  have hTf2 : (T = 0) = False := eq_false (by omega)
  obtain ⟨q, hqd⟩ : ∃ q, q = n / z := ⟨_, rfl⟩
  obtain ⟨r, hrd⟩ : ∃ r, r = n % z := ⟨_, rfl⟩
  rw [← hqd] at hq E1 HK hdm
  rw [← hrd] at HK hdm hrz
  have hM : z * q ≤ 1024 := by omega
  have E4 : wrap64 ((z : Int) * (q : Int)) = ((z * q : Nat) : Int) := by
    rw [← Int.natCast_mul]
    generalize z * q = M at hM ⊢
    exact IntWalk.wrap64_in _ (by omega)
  obtain ⟨M, hMM⟩ : ∃ M, M = z * q := ⟨_, rfl⟩
  rw [← hMM] at hdm hM E4
  have E5 : wrap64 ((n : Int) - (M : Int)) = (r : Int) := by rw [IntWalk.wrap64_in _ (by omega)]; omega
  have E6 : (n : Int) - (M : Int) = (r : Int) := by omega
  have HO : Hid ((w.alloc (.cells #[] 3)).ownsRow w.heap.size 3 1 (.slice (some ⟨w.heap.size, 0, none⟩) 0 0) 0 ((partsK n 0).map nv')) := Lib.hid (World.ownsRow_made (base := w.heap.size) (e := 3) (size := 1) w #[] 0 (Nat.le_refl _) (by simp [maxLen]) rfl)
  have HB := Lib.hid (below_alloc w (.cells #[] 3))
  have E7 : wrap64 (q : Int) = (q : Int) := IntWalk.wrap64_in _ (by omega)
  have F1 := Lib.hid f1
  have F2 := Lib.hid (show wrap64 ((wrap64 ((n : Int) + 31)).tdiv 32) = (z : Int) by
    rw [show wrap64 ((n : Int) + 31) = (n : Int) + 31 from IntWalk.wrap64_in _ (by omega), Int.tdiv_eq_ediv_of_nonneg (by omega), f2]; exact IntWalk.wrap64_in _ (by omega))
  have E1' := Lib.hid E1
  have E4' := Lib.hid E4
  have E5' := Lib.hid E5
  have E7' := Lib.hid E7
  clear hqd hrd hMM hdm f1 f2 E1 E4 E5 E6 E7
  go_enter Tryd.func16, Tryd.ntmps16
  go_wp2_with fail
  rw [F1.out, F2.out]
  go_loopw [8, 9] (fun vo vi wr => ∃ (i : Nat) (av : Option Addr) (cv : Nat), i ≤ z ∧ vi = .int .i64 (i : Nat) ∧ vo = .slice av i cv ∧ Hid (wr.ownsRow w.heap.size 3 1 (.slice av i cv) i ((partsK n i).map nv')) ∧ Hid (Below w.heap.size w wr)) (fun _ vi _ => (z - intOf vi).toNat)
  case atStart => exact ⟨0, _, _, Nat.zero_le _, rfl, rfl, HO, HB⟩
  case round =>
    clear HO HB
    obtain ⟨i, av, cv, hi', rfl, rfl, hO, hB⟩ := hrel
    by_cases hlt : i < z
    · have hs8 := hB.out.size
      by_cases hr : i < r
      · have hr' : (i : Int) < (r : Int) := by omega
        have hk : chK n i = q + 1 := by rw [HK.out, if_pos hr]
        have E3 : wrap64 (wrap64 ((n : Int) / (z : Int)) + 1) = (q : Int) + 1 := by rw [E1'.out, E7'.out]; exact IntWalk.wrap64_in _ (by omega)
        have E3' := Lib.hid E3
        have o8 := hO.out.alloc (.cells #[.int .i64 (wrap64 (wrap64 ((n : Int) / (z : Int)) + 1))] 3)
        have hb8 := hB.out.alloc hs8 (.cells #[.int .i64 (wrap64 (wrap64 ((n : Int) / (z : Int)) + 1))] 3)
        have HKK := Lib.hid (show (partsK n (i + 1)).map nv' = (partsK n i).map nv' ++ [Value.int .i64 ((q : Int) + 1)] by rw [partsK_succ, hk]; rfl)
        clear E3 hO hk
        go_wp2_with (first | (at_builtin; refine Hid.out ?_))
        rotate_left 1
        · exact absurd (show wrap64 ((n : Int) - wrap64 ((z : Int) * wrap64 ((n : Int) / (z : Int)))) ≤ (i : Int) by assumption) (by rw [E1'.out, E7'.out, E4'.out, E5'.out]; omega)
        refine Lib.hid ?_
        refine wpList_append_row rfl _ _ 24 rfl w.heap.size 3 i0 (.int .i64 0) 8 Tryd.underlying24 hi hz0 hz1 hz2 rfl _ _ _ rfl o8 (some ⟨wr.heap.size, 0, none⟩) 1 1 ([wrap64 (wrap64 ((n : Int) / (z : Int)) + 1)].map iv) rfl (rowV_lit wr _ _ _ 1 _ rfl rfl rfl) (fun h => by cases h) (iv_oneQ _) (by unfold maxLen; omega) (by omega) hb8.size ?_
        intro v9 w9 hE9 g9 _
        have hb9 := below_grown hb8 g9 (ownBlock_ge o8)
        obtain ⟨a9, c9, rfl, -⟩ := ownsRow_parts hE9
        rw [List.map_cons, List.map_nil, E3'.out, show iv ((q : Int) + 1) = Value.int .i64 ((q : Int) + 1) from rfl, ← HKK.out] at hE9
        have HO9 := Lib.hid hE9
        have HB9 := Lib.hid hb9
        clear hE9 g9 hb9 o8 hb8
        go_wp2
        go_roundw
        case rel => exact ⟨i + 1, a9, c9, by omega, by go_num, rfl, HO9, HB9⟩
        case measure => simp [intOf]; omega
      · have hr' : ¬ (i : Int) < (r : Int) := by omega
        have hk : chK n i = q := by rw [HK.out, if_neg hr]; rfl
        have o8 := hO.out.alloc (.cells #[.int .i64 (wrap64 ((n : Int) / (z : Int)))] 3)
        have hb8 := hB.out.alloc hs8 (.cells #[.int .i64 (wrap64 ((n : Int) / (z : Int)))] 3)
        have HKK := Lib.hid (show (partsK n (i + 1)).map nv' = (partsK n i).map nv' ++ [Value.int .i64 (q : Int)] by rw [partsK_succ, hk])
        clear hO hk
        go_wp2_with (first | (at_builtin; refine Hid.out ?_))
        · exact absurd (show (i : Int) < wrap64 ((n : Int) - wrap64 ((z : Int) * wrap64 ((n : Int) / (z : Int)))) by assumption) (by rw [E1'.out, E7'.out, E4'.out, E5'.out]; omega)
        refine Lib.hid ?_
        refine wpList_append_row rfl _ _ 24 rfl w.heap.size 3 i0 (.int .i64 0) 8 Tryd.underlying24 hi hz0 hz1 hz2 rfl _ _ _ rfl o8 (some ⟨wr.heap.size, 0, none⟩) 1 1 ([wrap64 ((n : Int) / (z : Int))].map iv) rfl (rowV_lit wr _ _ _ 1 _ rfl rfl rfl) (fun h => by cases h) (iv_oneQ _) (by unfold maxLen; omega) (by omega) hb8.size ?_
        intro v9 w9 hE9 g9 _
        have hb9 := below_grown hb8 g9 (ownBlock_ge o8)
        obtain ⟨a9, c9, rfl, -⟩ := ownsRow_parts hE9
        rw [List.map_cons, List.map_nil, E1'.out, E7'.out, show iv (q : Int) = Value.int .i64 (q : Int) from rfl, ← HKK.out] at hE9
        have HO9 := Lib.hid hE9
        have HB9 := Lib.hid hb9
        clear hE9 g9 hb9 o8 hb8
        go_wp2
        go_roundw
        case rel => exact ⟨i + 1, a9, c9, by omega, by go_num, rfl, HO9, HB9⟩
        case measure => simp [intOf]; omega
    · obtain rfl : i = z := by omega
      have hO' := hO.out
      rw [HE.out] at hO'
      have HO' := Lib.hid hO'
      clear hO hO'
      go_wp2
      go_ret2
      have hp := HO'.out
      have hm := HLN.out
      generalize partsL n = D at hp hm ⊢
      exact ⟨_, _, by simp only [hm]; rfl, by rw [hm]; exact hp, hB.out⟩
end Go.Proofs.YtfjcbgfgiidogaaDoor
namespace Go.Proofs.YtfjcbgfgiidogaaDoor
open Go.RowKit

theorem OwnB.append {wm w' : World} {B n : Nat} {a : Option Addr} {c : Nat} {bs : List (List (List Nat))} {v' : Value} {x : HdT} {ls : List (List Nat)} (h0 : bs.length = n) {hs : List HdT} (h1 : wm.ownsRow B 35 1 (.slice a n c) n (hs.map SV)) (h2 : hs.length = bs.length) (h3 : ∀ (i : Nat) x ls, hs[i]? = some x → bs[i]? = some ls → OwnRs wm B x.1 x.2.1 x.2.2 ls)
    (hE : w'.ownsRow B 35 1 v' (n + 1) (hs.map SV ++ [SV x])) (g : wm.grownBy w' (Value.slice a n c).ownBlock) (hx : OwnRs wm B x.1 x.2.1 x.2.2 ls) : ∃ a' c', v' = .slice a' (n + 1) c' ∧ OwnB w' B a' (n + 1) c' (bs ++ [ls]) := by
  obtain ⟨a', c', rfl, -⟩ := ownsRow_parts hE
  refine ⟨a', c', rfl, by simp [h0], hs ++ [x], by rw [List.map_append]; exact hE, by simp [h2], fun i y m p q => ?_⟩
  have key : ∀ {y : HdT} {m : List (List Nat)}, OwnRs wm B y.1 y.2.1 y.2.2 m → OwnRs w' B y.1 y.2.1 y.2.2 m := fun k => k.keep g (own_rowB h1)
  by_cases hi : i < n
  · rw [List.getElem?_append_left (by omega)] at p
    rw [List.getElem?_append_left (by omega)] at q
    exact key (h3 i y m p q)
  · rw [List.getElem?_append_right (by omega)] at p
    rw [List.getElem?_append_right (by omega), ← h2] at q
    have hi0 := (List.getElem?_eq_some_iff.1 p).1
    simp only [List.length_cons, List.length_nil] at hi0
    have e0 : i - hs.length = 0 := by omega
    rw [e0] at p q
    simp at p q
    subst p q
    exact key hx
def blocksK (v : List Nat) (t n i : Nat) : List (List (List Nat)) := (List.range i).map (blockL v t n)
theorem blocksK_succ (v : List Nat) (t n i : Nat) : blocksK v t n (i + 1) = blocksK v t n i ++ [blockL v t n i] := by unfold blocksK; rw [List.range_succ, List.map_append]; rfl
def rowsJ (v : List Nat) (t s j : Nat) : List (List Nat) := (List.range j).map fun m => symOf v t (s + m)
theorem rowsJ_succ (v : List Nat) (t s j : Nat) : rowsJ v t s (j + 1) = rowsJ v t s j ++ [symOf v t (s + j)] := by unfold rowsJ; rw [List.range_succ, List.map_append]; rfl
theorem sym_step {v : List Nat} {t q k : Nat} (h : k < t) : (symOf v t q).take (k + 1) = (symOf v t q).take k ++ [v.getD (q * t + k) 0] := by
  have hl := symOf_length v t q
  rw [take_step _ k ((symOf v t q).getD k 0) (by rw [List.getD_eq_getElem?_getD, List.getElem?_eq_getElem (by omega)]; rfl), symOf_getD _ _ _ _ h]
set_option maxRecDepth 100000 in
set_option maxHeartbeats 8000000 in
theorem refSplit_any (va : Option Addr) (vn vc : Nat) (v : List Nat) (t : Int) (w : World) (hv : BytesV w (va, vn, vc) v) (hvs : vn ≤ 100000) : Calls Tryd.prog 20 #[.slice va vn vc, .int .i64 t] w (GivesBk w (splitR v t)) := by
  obtain ⟨i0, hi, hz0, hz1, hz2⟩ := info_parts binfo
  obtain ⟨j0, hj, hy0, hy1, hy2⟩ := info_parts Tryd.info5
  obtain ⟨k0, hk, hx0, hx1, hx2⟩ := info_parts Tryd.info22
  have hvl : v.length = vn := hv.length
  have KP := refParts_any (vn : Int) t w
  unfold partsR at KP
  unfold splitR
  rw [hvl]
  by_cases hc : sizeC (vn : Int) t = 0
  rotate_left 1
  · rw [if_neg hc] at KP ⊢
    have hcb : (sizeC (vn : Int) t != 0) = true := by rw [bne_iff_ne]; exact hc
    generalize sizeC (vn : Int) t = code at KP hcb ⊢
    clear hc hv
    go_enter Tryd.func20, Tryd.ntmps20
    go_wp2_with fail
    (with_reducible refine KP.mono ?_)
    rintro e w1 ⟨a1, c1, rfl, -, b1⟩
    clear KP
    go_wp2
    go_ret2
    exact givesBk_nil b1
  rw [if_pos hc] at KP ⊢
  obtain ⟨g1, g2⟩ := sizeC_zero.1 hc
  obtain ⟨s1, s2⟩ := okS_iff.1 g1
  obtain ⟨t1, t2⟩ := okT_iff.1 g2
  clear hc g1 g2
  obtain ⟨T, rfl⟩ : ∃ T : Nat, t = (T : Nat) := ⟨t.toNat, by omega⟩
  rw [Int.toNat_natCast] at KP ⊢
  rw [Int.toNat_natCast] at KP
  obtain ⟨n1, n2, -, -⟩ := chN_facts (size := vn) (t := T) (by omega) (by omega) (by omega)
  obtain ⟨n, hn⟩ : ∃ n, n = chN vn T := ⟨_, rfl⟩
  rw [← hn] at n1 n2 KP ⊢
  clear hn
  obtain ⟨z1, z2, -, -, z3⟩ := chZ_facts n1 n2
  have HSS := Lib.hid (fun i (h : i < chZ n) => (show chS n (i + 1) = chS n i + chK n i ∧ chS n (i + 1) ≤ n ∧ chK n i ≤ 1024 from ⟨chS_succ n i, by have := chS_mono n (show i + 1 ≤ chZ n from h); rw [chS_end] at this; exact this, by have h1 := chS_mono n (show i + 1 ≤ chZ n from h); have h2 := chS_succ n i; rw [chS_end] at h1; omega⟩))
  have HS0 := Lib.hid (chS_zero n)
  have HBE := Lib.hid (show blocksK v T n (chZ n) = blocksL v T n from rfl)
  have HBS := Lib.hid (fun i => blocksK_succ v T n i)
  have HRE := Lib.hid (fun i => show rowsJ v T (chS n i) (chK n i) = blockL v T n i from rfl)
  have hLL : (blocksL v T n).length = chZ n := blocksL_length v T n
  have hPL : (partsL n).length = chZ n := partsL_length n
  have HPK : Hid (∀ i, i < chZ n → ((partsL n).map nv')[i]? = some (.int .i64 ((chK n i : Nat) : Int))) := Lib.hid (fun i h => by
    unfold partsL
    rw [List.map_map, List.getElem?_map, List.getElem?_range h]
    rfl)
  obtain ⟨BL, hBL⟩ : ∃ B, B = blocksL v T n := ⟨_, rfl⟩
  rw [← hBL] at hLL HBE ⊢
  unfold GivesN at KP
  simp only [hPL] at KP
  have HLL := Lib.hid hLL
  obtain ⟨PL, hPLL⟩ : ∃ P, P = partsL n := ⟨_, rfl⟩
  rw [← hPLL] at KP HPK
  obtain ⟨z, hz⟩ : ∃ z, z = chZ n := ⟨_, rfl⟩
  rw [← hz] at z1 z2 z3 KP HSS HBE HPK HLL
  have HV := Lib.hid hv
  have HVL := Lib.hid hvl
  have HVB := Lib.hid hv.bytes
  clear hv hvl hz hPLL hPL hBL hLL
  go_enter Tryd.func20, Tryd.ntmps20
  go_wp2_with fail
  (with_reducible refine KP.mono ?_)
  rintro e w1 ⟨a1, c1, rfl, o1, b1⟩
  obtain ⟨q, rfl⟩ := own_some o1 (by omega)
  have HC : Hid (∀ i, i < z → w1.cell? ⟨q, i, none⟩ = some (.int .i64 ((chK n i : Nat) : Int))) := Lib.hid (fun i hi => (o1.cellAt i (by omega)).trans (HPK.out i hi))
  have HB1 := Lib.hid b1
  have hs1 := b1.size
  have HO : Hid (OwnB (w1.alloc (.cells #[] 35)) w1.heap.size (some ⟨w1.heap.size, 0, none⟩) 0 0 (blocksK v T n 0)) := Lib.hid ⟨rfl, [], World.ownsRow_made (base := w1.heap.size) (e := 35) (size := 1) w1 #[] 0 (Nat.le_refl _) (by simp [maxLen]) rfl, rfl, fun i x ls h => by simp at h⟩
  have HBA := Lib.hid (below_alloc w1 (.cells #[] 35))
  have HA0 : Hid ((0 : Nat) = chS n 0 * T) := Lib.hid (by rw [HS0.out, Nat.zero_mul])
  clear KP o1 b1
  go_wp2_with fail
  go_loopw [8, 9, 10] (fun vo va' vi wr => ∃ (i N : Nat) (av : Option Addr) (cv : Nat), i ≤ z ∧ vi = .int .i64 (i : Nat) ∧ va' = .int .i64 (N : Nat) ∧ vo = .slice av i cv ∧ Hid (N = chS n i * T) ∧ Hid (OwnB wr w1.heap.size av i cv (blocksK v T n i)) ∧ Hid (Below w1.heap.size w1 wr)) (fun _ _ vi _ => (z - intOf vi).toNat)
  case atStart => exact ⟨0, 0, _, _, Nat.zero_le _, rfl, rfl, rfl, HA0, HO, HBA⟩
  case round =>
    clear HO HBA HA0
    obtain ⟨i, N, av, cv, hi', rfl, rfl, rfl, HN, HO, HB⟩ := hrel
    obtain ⟨wo, hwo⟩ : ∃ x, x = wr := ⟨_, rfl⟩
    subst hwo
    by_cases hlt : i < z
    · have cq := HC.out i hlt
      obtain ⟨e1, e2, e3⟩ := HSS.out i hlt
      have HRI := Lib.hid (HRE.out i)
      have HBI := Lib.hid (HBS.out i)
      obtain ⟨k, hk'⟩ : ∃ k, k = chK n i := ⟨_, rfl⟩
      obtain ⟨s, hs⟩ : ∃ s, s = chS n i := ⟨_, rfl⟩
      rw [← hk'] at cq e1 e3 HRI
      rw [← hs] at e1 HN HRI
      have HE1 := Lib.hid e1
      have hsk : s + k ≤ 1024 := by omega
      have hs2 := HB.out.size
      have HR0 : Hid (OwnRs (wo.alloc (.cells #[] 22)) wo.heap.size (some ⟨wo.heap.size, 0, none⟩) 0 0 (rowsJ v T s 0)) := Lib.hid ⟨rfl, [], World.ownsRow_made (base := wo.heap.size) (e := 22) (size := 1) wo #[] 0 (Nat.le_refl _) (by simp [maxLen]) rfl, ⟨rfl, fun i x l h => by simp at h⟩, fun m h => by cases h⟩
      have HBA := Lib.hid (below_alloc wo (.cells #[] 22))
      have HN' : Hid (N = (s + 0) * T) := HN
      have HCQ := Lib.hid (cell_below cq HB.out)
      clear e1 e2 hk' hs cq
      go_wp2_with fail
      go_loopw [9, 11, 12] (fun va' vb vj wr => ∃ (j N : Nat) (rv : Option Addr) (rc : Nat), j ≤ k ∧ vj = .int .i64 (j : Nat) ∧ va' = .int .i64 (N : Nat) ∧ vb = .slice rv j rc ∧ Hid (N = (s + j) * T) ∧ Hid (OwnRs wr wo.heap.size rv j rc (rowsJ v T s j)) ∧ Hid (Below wo.heap.size wo wr)) (fun _ _ vj _ => (k - intOf vj).toNat)
      case atStart => exact ⟨0, N, _, _, Nat.zero_le _, rfl, rfl, rfl, HN', HR0, HBA⟩
      case round =>
        clear HR0 HBA HN' HN
        obtain ⟨j, N, rv, rc, hj', rfl, rfl, rfl, HN, HR, HBJ⟩ := hrel
        obtain ⟨wj, hwj⟩ : ∃ x, x = wr := ⟨_, rfl⟩
        subst hwj
        have cq := cell_below HCQ.out HBJ.out
        have hs3 := HBJ.out.size
        have hi0 : (0 : Int) ≤ (i : Int) := by omega
        have hi1 : (i : Int) < (z : Int) := by omega
        by_cases hjk : j < k
        · have HS0' : Hid ((wj.alloc (.cells #[] 5)).ownsRow wj.heap.size 5 1 (.slice (some ⟨wj.heap.size, 0, none⟩) 0 0) 0 (((symOf v T (s + j)).take 0).map bv)) := Lib.hid (World.ownsRow_made (base := wj.heap.size) (e := 5) (size := 1) wj #[] 0 (Nat.le_refl _) (by simp [maxLen]) rfl)
          have HBA := Lib.hid (below_alloc wj (.cells #[] 5))
          have HN' : Hid (N = (s + j) * T + 0) := HN
          go_wp2_with fail
          go_loopw [9, 13, 14] (fun va' vs vk wr => ∃ (x N : Nat) (sv : Option Addr) (sc : Nat), x ≤ T ∧ vk = .int .i64 (x : Nat) ∧ va' = .int .i64 (N : Nat) ∧ vs = .slice sv x sc ∧ Hid (N = (s + j) * T + x) ∧ Hid (wr.ownsRow wj.heap.size 5 1 (.slice sv x sc) x (((symOf v T (s + j)).take x).map bv)) ∧ Hid (Below wj.heap.size wj wr)) (fun _ _ vk _ => (T - intOf vk).toNat)
          case atStart => exact ⟨0, N, _, _, Nat.zero_le _, rfl, rfl, rfl, HN', HS0', HBA⟩
          case round =>
            clear HS0' HBA HN' HN
            obtain ⟨x, N, sv, sc, hx', rfl, rfl, rfl, HN, HS, HBX⟩ := hrel
            have hs4 := HBX.out.size
            have hMB : (s + j) * T ≤ 1024 * 64 := Nat.mul_le_mul (by omega) (by omega)
            have hNB : N ≤ 65536 + x := by have := HN.out; omega
            clear hMB
            by_cases hxT : x < T
            · obtain ⟨y, hy⟩ : ∃ y, y = v.getD ((s + j) * T + x) 0 := ⟨_, rfl⟩
              have HST := Lib.hid (show ((symOf v T (s + j)).take (x + 1)).map bv = ((symOf v T (s + j)).take x).map bv ++ [Value.int .u8 (y : Nat)] by rw [sym_step hxT, List.map_append, ← hy]; rfl)
              rw [← HN.out] at hy
              have HN2 : Hid (N + 1 = (s + j) * T + (x + 1)) := Lib.hid (by rw [HN.out]; omega)
              have o8 := HS.out.alloc (.cells #[.int .u8 (y : Nat)] 5)
              have hb8 := HBX.out.alloc hs4 (.cells #[.int .u8 (y : Nat)] 5)
              have hb8s := hb8.size
              by_cases hNv : N < vn
              · have hVX := (HV.out.below (HB1.out.trans ((HB.out.trans ((HBJ.out.trans (HBX.out.mono hs3)).mono hs2)).mono hs1)))
                obtain ⟨vb, vo, rfl, hcs⟩ := hVX.row.2 (by simp only; omega)
                have hcv := hcs N (by simp only; omega)
                have hcy : wr.cell? ⟨vb, vo + N, none⟩ = some (.int .u8 (y : Nat)) := by
                  rw [hcv, List.getElem?_map, hy, List.getD_eq_getElem?_getD]
                  rw [List.getElem?_eq_getElem (by rw [HVL.out]; exact hNv)]
                  rfl
                clear hVX hcs hcv hy
                go_wp2_with (first | (at_builtin; refine Hid.out ?_))
                refine Lib.hid ?_
                refine wpList_append_row rfl _ _ 22 rfl wj.heap.size 5 j0 (.int .u8 0) 1 Tryd.underlying22 hj hy0 hy1 hy2 rfl _ _ _ rfl o8 (some ⟨wr.heap.size, 0, none⟩) 1 1 ([y].map bv) rfl (rowV_lit wr _ _ _ 1 _ rfl rfl rfl) (fun h => by cases h) (bv_one _) (by unfold maxLen; omega) (by omega) hb8s ?_
                intro v9 w9 hE9 g9 _
                have hb9 := below_grown hb8 g9 (ownBlock_ge o8)
                obtain ⟨a9, c9, rfl, -⟩ := ownsRow_parts hE9
                rw [List.map_cons, List.map_nil, show bv y = Value.int .u8 (y : Nat) from rfl, ← HST.out] at hE9
                have HS9 := Lib.hid hE9
                have HB9 := Lib.hid hb9
                clear hE9 g9 hb9 o8 hb8 HS HBX hcy
                go_wp2
                go_roundw
                case rel => exact ⟨x + 1, N + 1, a9, c9, by omega, by go_num, by go_num, rfl, HN2, HS9, HB9⟩
                case measure => simp [intOf]; omega
              · have hy0' : y = 0 := by rw [hy, List.getD_eq_getElem?_getD, List.getElem?_eq_none (by rw [HVL.out]; omega)]; rfl
                subst hy0'
                clear hy
                go_wp2_with (first | (at_builtin; refine Hid.out ?_))
                refine Lib.hid ?_
                refine wpList_append_row rfl _ _ 22 rfl wj.heap.size 5 j0 (.int .u8 0) 1 Tryd.underlying22 hj hy0 hy1 hy2 rfl _ _ _ rfl o8 (some ⟨wr.heap.size, 0, none⟩) 1 1 ([0].map bv) rfl (rowV_lit wr _ _ _ 1 _ rfl rfl rfl) (fun h => by cases h) (bv_one _) (by unfold maxLen; omega) (by omega) hb8s ?_
                intro v9 w9 hE9 g9 _
                have hb9 := below_grown hb8 g9 (ownBlock_ge o8)
                obtain ⟨a9, c9, rfl, -⟩ := ownsRow_parts hE9
                rw [List.map_cons, List.map_nil, show bv 0 = Value.int .u8 ((0 : Nat) : Int) from rfl, ← HST.out] at hE9
                have HS9 := Lib.hid hE9
                have HB9 := Lib.hid hb9
                clear hE9 g9 hb9 o8 hb8 HS HBX
                go_wp2
                go_roundw
                case rel => exact ⟨x + 1, N + 1, a9, c9, by omega, by go_num, by go_num, rfl, HN2, HS9, HB9⟩
                case measure => simp [intOf]; omega
            · obtain rfl : x = T := by omega
              have hS := HS.out
              rw [List.take_of_length_le (by rw [symOf_length]; exact Nat.le_refl _)] at hS
              have hSL := symOf_length v x (s + j)
              have hSB := symOf_bytes HVB.out x (s + j)
              have HRS := Lib.hid (rowsJ_succ v x s j)
              have HN3 : Hid (N = (s + (j + 1)) * x) := Lib.hid (by rw [HN.out, ← Nat.add_assoc, Nat.add_mul (s + j) 1, Nat.one_mul])
              generalize symOf v x (s + j) = SY at hS hSL hSB HRS
              have hR4 := HR.out.below HBX.out
              have hR5 := hR4.alloc (.cells #[.slice sv x sc] 22)
              obtain ⟨r0, rhs, r1, r2, r3⟩ := hR5
              have hbw := (HBJ.out.trans (HBX.out.mono hs3))
              have hb5 := hbw.alloc hbw.size (.cells #[.slice sv x sc] 22)
              have hS5 := (ownsRow_base hS hs3).alloc (.cells #[.slice sv x sc] 22)
              clear hS hR4 hbw HS HN HR
              go_wp2_with (first | (at_builtin; refine Hid.out ?_))
              refine Lib.hid ?_
              refine wpList_append_row rfl _ _ 35 rfl wo.heap.size 22 k0 (.slice none 0 0) 24 Tryd.underlying35 hk hx0 hx1 hx2 rfl _ _ _ rfl r1 (some ⟨wr.heap.size, 0, none⟩) 1 1 [SV (sv, x, sc)] rfl (rowV_lit wr _ _ _ 1 _ rfl rfl rfl) (fun h => by cases h) (SV_one [(sv, x, sc)]) (by simp [maxLen]; omega) (by omega) hb5.size ?_
              intro v9 w9 hE9 g9 _
              have hb9 := below_grown hb5 g9 (ownBlock_ge r1)
              obtain ⟨a9, c9, rfl, h9⟩ := append_own (x := (sv, x, sc)) r1 r2 r3 hE9 g9 (by rw [hSL]; exact hS5) hSL.symm ⟨hSB, by omega⟩
              rw [← HRS.out] at h9
              have HR9 := Lib.hid h9
              have HB9 := Lib.hid hb9
              clear hE9 g9 hb9 h9 hb5 hS5 r1 r2 r3 HBX
              go_wp2
              go_roundw
              case rel => exact ⟨j + 1, N, a9, c9, by omega, by go_num, rfl, rfl, HN3, HR9, HB9⟩
              case measure => simp [intOf]; omega
        · obtain rfl : j = k := by omega
          have hR := HR.out
          rw [HRI.out] at hR
          have hO4 := HO.out.below HBJ.out
          obtain ⟨p0, phs, p1, p2, p3⟩ := hO4.below (below_alloc wj (.cells #[.slice rv j rc] 35))
          have hR5 := (hR.rebase (show w1.heap.size ≤ wo.heap.size by omega)).alloc (.cells #[.slice rv j rc] 35)
          have hbw := (HB.out.trans (HBJ.out.mono hs2))
          have hb5 := hbw.alloc hbw.size (.cells #[.slice rv j rc] 35)
          have hb5s : w1.heap.size ≤ (wj.alloc (.cells #[.slice rv j rc] 35)).heap.size := by have := hb5.size; omega
          have HN4 : Hid (N = chS n (i + 1) * T) := Lib.hid (by rw [HE1.out, HN.out])
          clear hR hbw HR HN HO
          go_wp2_with (first | (at_builtin; refine Hid.out ?_))
          refine Lib.hid ?_
          refine wpList_append_row rfl _ _ 30 rfl w1.heap.size 35 i0 (.slice none 0 0) 24 Tryd.underlying30 hi hz0 hz1 hz2 rfl _ _ _ rfl p1 (some ⟨wj.heap.size, 0, none⟩) 1 1 [SV (rv, j, rc)] rfl (rowV_lit wj _ _ _ 1 _ rfl rfl rfl) (fun h => by cases h) (SV_one [(rv, j, rc)]) (by simp [maxLen]; omega) (by omega) hb5s ?_
          intro v9 w9 hE9 g9 _
          have hb9 := below_grown hb5 g9 (ownBlock_ge p1)
          obtain ⟨a9, c9, rfl, h9⟩ := OwnB.append (x := (rv, j, rc)) p0 p1 p2 p3 hE9 g9 hR5
          rw [← HBI.out] at h9
          have HO9 := Lib.hid h9
          have HB9 := Lib.hid hb9
          clear hE9 g9 hb9 h9 hb5 hR5 p1 p2 p3
          go_wp2
          go_roundw
          case rel => exact ⟨i + 1, N, a9, c9, by omega, by go_num, rfl, rfl, HN4, HO9, HB9⟩
          case measure => simp [intOf]; omega
    · obtain rfl : i = z := by omega
      have hO := HO.out
      rw [HBE.out] at hO
      have HO' := Lib.hid hO
      clear hO HO
      go_wp2
      go_ret2
      have hm := HLL.out
      exact ⟨_, _, by simp only [hm]; rfl, by rw [hm]; exact HO'.out.rebase hs1, HB1.out.trans (HB.out.mono hs1)⟩
end Go.Proofs.YtfjcbgfgiidogaaDoor
