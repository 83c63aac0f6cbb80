/-
  rilllaw05: ChunkApart.
-/
import Derived.Test.YtfjcbgfgiidogaaDoorMBase
import Derived.Test.YtfjcbgfgiidogaaDoorMCi1
import Derived.Test.YtfjcbgfgiidogaaDoorMChN
namespace Go.Proofs.YtfjcbgfgiidogaaDoor
open Go.RowKit

theorem own_set5 {w : World} {B : Nat} {T : TypeId} {g n cap : Nat} {xs : List Value} (h : w.ownsRow B T 1 (.slice (some ⟨g, 0, none⟩) n cap) n xs) (i : Nat) (v : Value) :
    (w.setCell ⟨g, i, none⟩ v).ownsRow B T 1 (.slice (some ⟨g, 0, none⟩) n cap) n (xs.set i v) := (h.stored i v).1
theorem grown_set5 (w : World) (g i : Nat) (v : Value) : w.grownBy (w.setCell ⟨g, i, none⟩ v) (some g) :=
  ⟨rfl, rfl, rfl, by simp [World.setCell], fun k _ hn => heap_setCell_other _ ⟨g, i, none⟩ k _ (fun e => hn (by rw [e]))⟩
theorem xor_lt9 {a b : Nat} (ha : a < 256) (hb : b < 256) : a ^^^ b < 256 := Nat.xor_lt_two_pow (n := 8) ha hb
/-- a byte of another block makes no difference. -/
theorem apart_at {v : List Nat} {t m y o b : Nat} (ho : chS (chN v.length t) o * t ≤ m) (hx : o + 1 = chZ (chN v.length t) ∨ m < chS (chN v.length t) (o + 1) * t) (hb : b < chZ (chN v.length t)) (hne : b ≠ o) (e : Int) : gen (v.set m y) t b e = gen v t b e := by
  refine gen_apart (by rw [List.length_set]) (fun j hj => symOf_set ?_) e
  have hbs := chS_succ (chN v.length t) b
  rcases Nat.lt_or_ge b o with h | h
  · right
    have h1 := chS_mono (chN v.length t) (show b + 1 ≤ o from h)
    exact Nat.le_trans (Nat.mul_le_mul_right t (show chS (chN v.length t) b + j + 1 ≤ chS (chN v.length t) o by omega)) ho
  · left
    have h1 := chS_mono (chN v.length t) (show o + 1 ≤ b by omega)
    rcases hx with hx | hx
    · omega
    · exact Nat.lt_of_lt_of_le hx (Nat.mul_le_mul_right t (show chS (chN v.length t) (o + 1) ≤ chS (chN v.length t) b + j by omega))
set_option maxRecDepth 100000 in
set_option maxHeartbeats 16000000 in
theorem chunkApart_walk (va : Option Addr) (vn vc : Nat) (v : List Nat) (t at' E : Int) (tu : Int) (w : World) (hg : Bnd w) (hv : BytesV w (va, vn, vc) v) (_s0 : vn ≤ 140737488351232) (_w1 : (Lit.int .i64 t).wf = true) (_w2 : (Lit.int .i64 at').wf = true) (_w3 : (Lit.int .i64 E).wf = true) (w4 : (Lit.int .u8 tu).wf = true) :
    Calls Tryd.prog 11 #[.slice va vn vc, .int .i64 t, .int .i64 at', .int .i64 E, .int .u8 tu] w fun e w' => e = .returned (.bool true) ∧ Below w.heap.size w w' := by
  have KA := alive5_any w hg
  have HG := Lib.hid hg
  have HVL := Lib.hid (show v.length = vn from hv.length)
  have HVB := Lib.hid hv.bytes
  have HV := Lib.hid hv
  obtain ⟨hk0, hk1⟩ := wf_u8 w4
  obtain ⟨K, rfl⟩ : ∃ K : Nat, tu = (K : Nat) := ⟨tu.toNat, by omega⟩
  have hK : K < 256 := by omega
  clear hg hv _w1 _w2 _w3 w4
  by_cases q1 : (300 : Int) < (vn : Int)
  · go_enter Tryd.func11, Tryd.ntmps11
    go_wp2_with fail
    (with_reducible refine KA.mono ?_)
    rintro e w1 ⟨rfl, b1⟩
    clear KA
    go_wp2
    go_ret
    exact ⟨rfl, b1⟩
  by_cases q2 : at' < 0
  · go_enter Tryd.func11, Tryd.ntmps11
    go_wp2_with fail
    (with_reducible refine KA.mono ?_)
    rintro e w1 ⟨rfl, b1⟩
    clear KA
    go_wp2
    go_ret
    exact ⟨rfl, b1⟩
  by_cases q3 : (vn : Int) ≤ at'
  · go_enter Tryd.func11, Tryd.ntmps11
    go_wp2_with fail
    (with_reducible refine KA.mono ?_)
    rintro e w1 ⟨rfl, b1⟩
    clear KA
    go_wp2
    go_ret
    exact ⟨rfl, b1⟩
  by_cases q4 : E < 0
  · go_enter Tryd.func11, Tryd.ntmps11
    go_wp2_with fail
    (with_reducible refine KA.mono ?_)
    rintro e w1 ⟨rfl, b1⟩
    clear KA
    go_wp2
    go_ret
    exact ⟨rfl, b1⟩
  by_cases q5 : (16777216 : Int) ≤ E
  · go_enter Tryd.func11, Tryd.ntmps11
    go_wp2_with fail
    (with_reducible refine KA.mono ?_)
    rintro e w1 ⟨rfl, b1⟩
    clear KA
    go_wp2
    go_ret
    exact ⟨rfl, b1⟩
  by_cases hc : sizeC (vn : Int) t = 0
  rotate_left 1
  · have KP := fun w => parts_any (vn : Int) t w
    unfold partsR at KP
    rw [if_neg hc] at KP
    have hcb : (sizeC (vn : Int) t != 0) = true := by rw [bne_iff_ne]; exact hc
    obtain ⟨code, hcode⟩ : ∃ x, x = sizeC (vn : Int) t := ⟨_, rfl⟩
    rw [← hcode] at hcb KP
    clear hc hcode
    go_enter Tryd.func11, Tryd.ntmps11
    go_wp2_with fail
    (with_reducible refine KA.mono ?_)
    rintro e w1 ⟨rfl, b1⟩
    go_wp2_with fail
    (with_reducible refine (KP _).mono ?_)
    rintro e w2 ⟨a2, c2, rfl, -, b2⟩
    have hb := b1.trans (b2.mono b1.size)
    clear KA KP b1 b2
    go_wp2
    go_ret
    exact ⟨rfl, hb⟩
  obtain ⟨g1, g2⟩ := sizeC_zero.1 hc
  obtain ⟨s1, s2⟩ := okS_iff.1 g1
  obtain ⟨t1, t2⟩ := okT_iff.1 g2
  obtain ⟨T, rfl⟩ : ∃ T : Nat, t = (T : Nat) := ⟨t.toNat, by omega⟩
  obtain ⟨m, rfl⟩ : ∃ m : Nat, at' = (m : Nat) := ⟨at'.toNat, by omega⟩
  have KP := fun w => parts_any (vn : Int) (T : Int) w
  unfold partsR at KP
  rw [if_pos hc, Int.toNat_natCast, Int.toNat_natCast] at KP
  obtain ⟨n1, n2, n3, n4⟩ := chN_facts (size := vn) (t := T) (by omega) (by omega) (by omega)
  have hEok : ([E, 0] : List Int).all okE = true := by simp [okE]; omega
  have HSYM := Lib.hid (fun (u : List Nat) (i : Nat) (hu : Bytes u) (hul : u.length = vn) (hi : i < chZ (chN vn T)) => (show symbolsR u (T : Int) (i : Int) [E, 0] = (([E, 0] : List Int).map (gen u T i), 0) by
    rw [symbols_val hu (by omega) (by omega) (by omega) (by omega), hul, if_pos (inZ_iff.2 ⟨by omega, by omega⟩), if_pos hEok, Int.toNat_natCast]))
  have HAP := Lib.hid (fun (y o b : Nat) (ho : chS (chN vn T) o * T ≤ m) (hx : o + 1 = chZ (chN vn T) ∨ m < chS (chN vn T) (o + 1) * T) (hb : b < chZ (chN vn T)) (hne : b ≠ o) => (show ([E, 0] : List Int).map (gen (v.set m y) T b) = ([E, 0] : List Int).map (gen v T b) from by
    have h := fun e => apart_at (v := v) (t := T) (m := m) (y := y) (o := o) (b := b) (by rw [HVL.out]; exact ho) (by rw [HVL.out]; exact hx) (by rw [HVL.out]; exact hb) hne e
    exact List.map_congr_left fun e _ => h e))
  clear hc g1 g2 hEok
  obtain ⟨n, hn⟩ : ∃ n, n = chN vn T := ⟨_, rfl⟩
  rw [← hn] at n1 n2 n3 n4 KP HSYM HAP
  clear hn
  obtain ⟨z1, z2, z4, z5, z3⟩ := chZ_facts n1 n2
  unfold GivesN at KP
  simp only at KP
  rw [partsL_length] at KP
  have HPL := Lib.hid (fun i (h : i < chZ n) => (show (partsL n)[i]? = some (chK n i) by unfold partsL; rw [List.getElem?_map, List.getElem?_range h]; rfl))
  have HSS := Lib.hid (fun i (h : i < chZ n) => (show chS n (i + 1) = chS n i + chK n i ∧ chS n (i + 1) ≤ n from ⟨chS_succ n i, by have := chS_mono n (show i + 1 ≤ chZ n from h); rw [chS_end] at this; exact this⟩))
  have HS0 := Lib.hid (chS_zero n)
  obtain ⟨z, hz⟩ : ∃ z, z = chZ n := ⟨_, rfl⟩
  rw [← hz] at z1 z2 z3 z4 z5 KP HPL HSS HSYM HAP
  clear hz z4 z5
  obtain ⟨PL, hPL⟩ : ∃ P, P = partsL n := ⟨_, rfl⟩
  rw [← hPL] at KP HPL
  clear hPL
  go_enter Tryd.func11, Tryd.ntmps11
  go_wp2_with fail
  (with_reducible refine KA.mono ?_)
  rintro e w1 ⟨rfl, b1⟩
  go_wp2_with fail
  (with_reducible refine (KP _).mono ?_)
  rintro e w2 ⟨a2, c2, rfl, o2, b2⟩
  have hb := b1.trans (b2.mono b1.size)
  obtain ⟨q, rfl⟩ := own_some o2 (by omega)
  have HC : Hid (∀ i, i < z → w2.cell? ⟨q, i, none⟩ = some (.int .i64 ((chK n i : Nat) : Int))) := Lib.hid (fun i hi => by
    have := o2.cellAt i (by omega)
    rw [List.getElem?_map, HPL.out i hi] at this
    exact this)
  have HB := Lib.hid hb
  have KC := copyBytes_any va vn vc v w2 (HV.out.below hb)
  clear KA KP b1 b2 o2 hb HPL
  go_wp2_with fail
  (with_reducible refine KC.mono ?_)
  rintro e w3 ⟨a3, c3, rfl, o3, b3⟩
  rw [HVL.out] at o3 ⊢
  have hs2 := b3.size
  obtain ⟨g, rfl, hge⟩ : ∃ g, a3 = some ⟨g, 0, none⟩ ∧ w2.heap.size ≤ g := by
    rcases o3.2 with ⟨e, h0⟩ | ⟨g, cap, cur, e, hB, hh, _⟩
    · omega
    · cases e
      exact ⟨g, rfl, hB⟩
  have hfz : w3.frozen? ⟨g, m, none⟩ = false := by
    rcases o3.2 with ⟨e, h0⟩ | ⟨g, cap, cur, e, hB, hh, _⟩
    · omega
    · cases e
      exact frozen_of_row _ _ _ _ _ hh
  have hcx : w3.cell? ⟨g, m, none⟩ = some (bv (v.getD m 0)) := (o3.cellAt m (by omega)).trans (bv_getD (by rw [HVL.out]; omega))
  have hd := HVB.out.getD m
  obtain ⟨d, hdd⟩ : ∃ d, d = v.getD m 0 := ⟨_, rfl⟩
  rw [← hdd] at hd hcx
  replace hcx : w3.cell? ⟨g, m, none⟩ = some (.int .u8 (d : Int)) := hcx
  have hq : bits .xor .u8 (d : Int) (K : Int) = ((d ^^^ K : Nat) : Int) := u8_xor_nat d K hd hK
  have hy := xor_lt9 hd hK
  obtain ⟨y, hyy⟩ : ∃ y, y = d ^^^ K := ⟨_, rfl⟩
  rw [← hyy] at hq hy
  have o4 := own_set5 o3 m (.int .u8 (y : Nat))
  have hu : Bytes (v.set m y) := fun x hx => by
    rcases List.mem_or_eq_of_mem_set hx with h | h
    · exact HVB.out x h
    · rw [h]; exact hy
  rw [show (v.map bv).set m (.int .u8 (y : Nat)) = (v.set m y).map bv by rw [List.map_set]; rfl] at o4
  have hU := bytesV_of_owns o4 hu (by omega)
  have HAPY := Lib.hid (fun o b => HAP.out y o b)
  have HUL := Lib.hid (show (v.set m y).length = vn by rw [List.length_set]; exact HVL.out)
  have HUB := Lib.hid hu
  have hb4 : Below w2.heap.size w2 (w3.setCell ⟨g, m, none⟩ (.int .u8 (y : Nat))) := below_grown b3 (grown_set5 w3 g m _) (fun k hk => by injection hk with hk; omega)
  have HB4 := Lib.hid hb4
  clear KC b3 hdd hyy hd hu hb4 o3 o4 HAP
  have j0 : (0 : Int) ≤ (m : Int) := by omega
  have j1 : (m : Int) < (vn : Int) := by omega
  have HU := Lib.hid hU
  obtain ⟨u, huu⟩ : ∃ u, u = v.set m y := ⟨_, rfl⟩
  rw [← huu] at HU HAPY HUL HUB
  clear hU huu
  have hc0 := cell_below (HC.out 0 (by omega)) HB4.out
  have HM0 : Hid (wrap64 (((chK n 0 : Nat) : Int) * (T : Int)) = ((chS n 1 * T : Nat) : Int)) := Lib.hid (by
    have h1 := (HSS.out 0 (by omega)).1
    have h2 := (HSS.out 0 (by omega)).2
    rw [HS0.out, Nat.zero_add, Nat.zero_add] at h1
    rw [h1]
    have h3 : chK n 0 * T ≤ 1024 * 64 := Nat.mul_le_mul (by rw [Nat.zero_add] at h2; omega) (by omega)
    rw [← Int.natCast_mul]
    generalize chK n 0 * T = M at h3 ⊢
    exact IntWalk.wrap64_in _ (by omega))
  have hm0 := HM0.out
  obtain ⟨N0, hN0⟩ : ∃ N, N = chS n 1 * T := ⟨_, rfl⟩
  rw [← hN0] at hm0
  have HN0 := Lib.hid hN0
  have HLE0 : Hid (chS n 0 * T ≤ m) := Lib.hid (by rw [HS0.out]; omega)
  have hwz : wrap64 ((z : Int) - 1) = (z : Int) - 1 := IntWalk.wrap64_in _ (by omega)
  clear hN0 HM0
  go_wp2_with fail
  clear hc0 hcx hfz hq
  generalize w3.setCell ⟨g, m, none⟩ (.int .u8 (y : Nat)) = w4 at HB4 HU ⊢
  have HB4' := Lib.hid (HB.out.trans (HB4.out.mono HB.out.size))
  have hs4 := HB4'.out.size
  go_loopw [14, 15] (fun vo vn' wr => ∃ (o N : Nat), o < z ∧ vo = .int .i64 (o : Nat) ∧ vn' = .int .i64 (N : Nat) ∧ Hid (N = chS n (o + 1) * T) ∧ Hid (chS n o * T ≤ m) ∧ Hid (Below w4.heap.size w4 wr)) (fun vo _ _ => (z - intOf vo).toNat)
  case atStart => exact ⟨0, N0, by omega, rfl, congrArg (Value.int IntKind.i64) hm0, HN0, HLE0, Lib.hid (Below.refl _ _)⟩
  case round =>
    clear HN0 HLE0 hm0
    obtain ⟨o, N, hoz, rfl, rfl, HN, HLE, HBR⟩ := hrel
    rcases (by omega : ((o : Int) < (z : Int) - 1 ∧ (N : Int) ≤ (m : Int)) ∨ ((o : Int) < (z : Int) - 1 ∧ ¬ (N : Int) ≤ (m : Int)) ∨ ¬ ((o : Int) < (z : Int) - 1)) with ⟨hlast, hmn⟩ | ⟨hlast, hmn⟩ | hlast
    · have c1 := cell_below (cell_below (HC.out (o + 1) (by omega)) HB4.out) (HBR.out.mono (Nat.le_refl _))
      obtain ⟨e1, e2⟩ := HSS.out (o + 1) (by omega)
      obtain ⟨e3, e4⟩ := HSS.out o hoz
      obtain ⟨k, hk⟩ : ∃ k, k = chK n (o + 1) := ⟨_, rfl⟩
      rw [← hk] at c1 e1
      have hM : k * T ≤ 1024 * 64 := Nat.mul_le_mul (by omega) (by omega)
      have hNN : N ≤ 1024 * 64 := by rw [HN.out]; exact Nat.mul_le_mul (by omega) (by omega)
      have f5 : wrap64 ((k : Int) * (T : Int)) = ((k * T : Nat) : Int) := by
        rw [← Int.natCast_mul]
        generalize k * T = M at hM ⊢
        exact IntWalk.wrap64_in _ (by omega)
      have HN2 : Hid (N + k * T = chS n (o + 1 + 1) * T) := Lib.hid (by rw [HN.out, e1, Nat.add_mul])
      obtain ⟨M, hMM⟩ : ∃ M, M = k * T := ⟨_, rfl⟩
      rw [← hMM] at hM f5 HN2
      have f6 : wrap64 ((N : Int) + (M : Int)) = ((N + M : Nat) : Int) := by rw [IntWalk.wrap64_in _ (by omega)]; omega
      obtain ⟨N2, hN2⟩ : ∃ x, x = N + M := ⟨_, rfl⟩
      rw [← hN2] at f6 HN2
      have HLE2 : Hid (chS n (o + 1) * T ≤ m) := Lib.hid (by rw [← HN.out]; omega)
      clear hMM hN2 hk e1 e2 e3 e4 hM hNN
      go_wp2
      go_roundw
      case rel => exact ⟨o + 1, N2, by omega, by go_num, congrArg (Value.int IntKind.i64) f6, Lib.hid HN2.out, HLE2, HBR⟩
      case measure => simp [intOf]; omega
    all_goals
      have HX : Hid (o + 1 = z ∨ m < chS n (o + 1) * T) := Lib.hid (by first | exact .inl (by omega) | exact .inr (by rw [← HN.out]; omega))
      have HAPO := Lib.hid (fun b (hb : b < z) hne => HAPY.out o b HLE.out HX.out hb hne)
      have HB5 := Lib.hid (HB4'.out.trans (HBR.out.mono hs4))
      have HU5 := Lib.hid (HU.out.below HBR.out)
      obtain ⟨wo, hwo⟩ : ∃ x, x = wr := ⟨_, rfl⟩
      subst hwo
      have HCI := Lib.hid (fun i (hi : i < z) => cell_below (HC.out i hi) (HB4.out.trans (HBR.out.mono HB4.out.size)))
      clear HN HLE HX HBR HAPY HC HSS HU
      go_wp2_with fail
      go_loopw [16] (fun vb wr => ∃ b : Nat, b ≤ z ∧ vb = .int .i64 (b : Nat) ∧ Hid (Below wo.heap.size wo wr)) (fun vb _ => (z - intOf vb).toNat)
      case atStart => exact ⟨0, Nat.zero_le _, rfl, Lib.hid (Below.refl _ _)⟩
      case round =>
        obtain ⟨b, hbz, rfl, HBQ⟩ := hrel
        have hso := HB5.out.size
        have hsq := HBQ.out.size
        by_cases hlt : b < z
        · have hbw := HB5.out.trans (HBQ.out.mono hso)
          have KC := copyBytes_any va vn vc v wr (HV.out.below hbw)
          have HBW := Lib.hid hbw
          clear hbw
          go_wp2_with fail
          (with_reducible refine KC.mono ?_)
          rintro e w5 ⟨a5, c5, rfl, o5, b5⟩
          rw [HVL.out] at o5 ⊢
          have hb5 := (HBW.out.trans (b5.mono HBW.out.size))
          have KS := syms_any a5 vn c5 v (T : Nat) (b : Nat) (some ⟨w5.heap.size, 0, none⟩) 2 2 [E, 0] (w5.alloc (.cells #[.int .i64 E, .int .i64 0] 3)) ((bytesV_of_owns o5 HVB.out (by omega)).below (below_alloc _ _)) (intsV_litG w5 #[.int .i64 E, .int .i64 0] w5.heap.size 2 [E, 0] rfl rfl rfl (by omega)) (by omega) (HG.out.below (hb5.alloc hb5.size _))
          rw [HSYM.out v b HVB.out HVL.out hlt] at KS
          obtain ⟨SX, hSX⟩ : ∃ S, S = ([E, 0] : List Int).map (gen v T b) := ⟨_, rfl⟩
          have hln : SX.length = 2 := by rw [hSX]; rfl
          rw [← hSX] at KS
          have HSX := Lib.hid hSX
          have HB5' := Lib.hid (((HBQ.out.trans (b5.mono hsq)).alloc (HBQ.out.trans (b5.mono hsq)).size (.cells #[.int .i64 E, .int .i64 0] 3)))
          clear KC o5 b5 hb5 hSX HBQ HBW
          go_wp2_with fail
          (with_reducible refine KS.mono ?_)
          rintro e w6 ⟨a6, c6, rfl, hS6, b6⟩
          simp only [hln] at hS6 ⊢
          have HS6 := Lib.hid hS6.sy
          have HB6 := Lib.hid (HB5'.out.trans (b6.mono HB5'.out.size))
          have KC := copyBytes_any (some ⟨g, 0, none⟩) vn c3 u w6 (HU5.out.below HB6.out)
          have hs6 := HB6.out.size
          clear KS hS6 b6 HB5'
          go_wp2_with fail
          (with_reducible refine KC.mono ?_)
          rintro e w7 ⟨a7, c7, rfl, o7, b7⟩
          rw [HUL.out] at o7 ⊢
          have hb7 := HB6.out.trans (b7.mono hs6)
          have hb7' := HB5.out.trans (hb7.mono hso)
          have KS := syms_any a7 vn c7 u (T : Nat) (b : Nat) (some ⟨w7.heap.size, 0, none⟩) 2 2 [E, 0] (w7.alloc (.cells #[.int .i64 E, .int .i64 0] 3)) ((bytesV_of_owns o7 HUB.out (by omega)).below (below_alloc _ _)) (intsV_litG w7 #[.int .i64 E, .int .i64 0] w7.heap.size 2 [E, 0] rfl rfl rfl (by omega)) (by omega) (HG.out.below (hb7'.alloc hb7'.size _))
          rw [HSYM.out u b HUB.out HUL.out hlt] at KS
          obtain ⟨SY, hSY⟩ : ∃ S, S = ([E, 0] : List Int).map (gen u T b) := ⟨_, rfl⟩
          have hln2 : SY.length = 2 := by rw [hSY]; rfl
          rw [← hSY] at KS
          have HSY := Lib.hid hSY
          have HS7 := Lib.hid ((HS6.out.below b7).below (below_alloc w7 (.cells #[.int .i64 E, .int .i64 0] 3)))
          have HB7 := Lib.hid (hb7.alloc hb7.size (.cells #[.int .i64 E, .int .i64 0] 3))
          clear KC o7 b7 hb7 hb7' hSY HS6 HB6
          go_wp2_with fail
          (with_reducible refine KS.mono ?_)
          rintro e w8 ⟨a8, c8, rfl, hS8, b8⟩
          simp only [hln2] at hS8 ⊢
          have HB8 := Lib.hid (HB7.out.trans (b8.mono HB7.out.size))
          have KQ := sameSyms_rd a6 2 c6 SX a8 2 c8 SY w8 (HS7.out.below b8) hS8.sy (by omega)
          have hs8 := HB8.out.size
          clear KS hS8 b8 HB7 HS7
          by_cases hbo : b = o
          · have hne : ((b : Int) != (o : Int)) = false := by subst hbo; simp
            clear hbo KQ
            go_wp2
            go_roundw
            case rel => exact ⟨b + 1, by omega, by go_num, HB8⟩
            case measure => simp [intOf]; omega
          · have hne : ((b : Int) != (o : Int)) = true := by rw [bne_iff_ne]; omega
            rw [show decide (SX = SY) = true from decide_eq_true (by rw [HSX.out, HSY.out, HAPO.out b hlt hbo])] at KQ
            clear hbo
            go_wp2_with fail
            (with_reducible refine KQ.mono ?_)
            rintro e w9 ⟨rfl, b9⟩
            have HB9 := Lib.hid (HB8.out.trans (b9.mono hs8))
            clear KQ b9
            go_wp2
            go_roundw
            case rel => exact ⟨b + 1, by omega, by go_num, HB9⟩
            case measure => simp [intOf]; omega
        · obtain rfl : b = z := by omega
          go_wp2
          go_ret
          exact ⟨rfl, HB5.out.trans (HBQ.out.mono hso)⟩
end Go.Proofs.YtfjcbgfgiidogaaDoor
