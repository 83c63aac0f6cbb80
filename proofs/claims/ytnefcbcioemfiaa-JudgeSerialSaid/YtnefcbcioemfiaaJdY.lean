/-
  The walk of JudgeSerial.
-/
import Derived.Test.YtnefcbcioemfiaaJdX
namespace Go.Proofs.Ytnefcbcioemfiaa
open Go Go.RowKit

set_option maxRecDepth 100000 in
set_option maxHeartbeats 16000000 in
theorem judgeSerial_walk (ka : Option Addr) (kn kc : Nat) (ks : List Int) (va : Option Addr) (vn vc : Nat) (hs : List SH3) (vs : List (List Nat)) (oa : Option Addr) (on oc : Nat) (ot : List Nat) (w : World) (hk : IntsV w (ka, kn, kc) ks) (_k8 : kn * 8 ≤ 140737488351232) (_kz : ∀ z ∈ ks, (Lit.int .i64 z).wf = true) (hv : RowV w va vn (hs.map SV)) (hr : RowsV w hs vs) (_v24 : vn * 24 ≤ 140737488351232) (ho : BytesV w (oa, on, oc) ot) (_o1 : on ≤ 140737488351232) :
    Calls Try.prog 6 #[.slice ka kn kc, .slice va vn vc, .slice oa on oc] w fun e w' => e = .returned (.bool true) ∧ Below w.heap.size w w' := by
  obtain ⟨i0, hi, hz0, hz1, hz2⟩ := info_parts ainfo
  have KA := alive_any w
  have HK := Lib.hid hk
  have HV := Lib.hid hv
  have HR := Lib.hid hr
  have HO := Lib.hid ho
  have hkl : ks.length = kn := hk.length
  have hkc : kn ≤ kc := hk.cap
  have HKL := Lib.hid hkl
  clear hk hv hr ho hkl
  go_enter Try.func6, Try.ntmps6
  go_wp2_with fail
  (with_reducible refine KA.mono ?_)
  rintro e w1 ⟨rfl, b1⟩
  have B1 := Lib.hid b1
  clear KA b1
  by_cases h11 : 11 < kn
  · have h11' : (11 : Int) < (kn : Int) := by omega
    go_wp2
    go_ret
    exact ⟨rfl, B1.out⟩
  have h11' : ¬ (11 : Int) < (kn : Int) := by omega
  by_cases h60 : 60 < vn
  · have h60' : (60 : Int) < (vn : Int) := by omega
    go_wp2
    go_ret
    exact ⟨rfl, B1.out⟩
  have h60' : ¬ (60 : Int) < (vn : Int) := by omega
  obtain ⟨ds, hds⟩ : ∃ ds : Nat → Int, ds = fun k => dOf (ks.getD k 0) := ⟨_, rfl⟩
  obtain ⟨vf, hvf⟩ : ∃ vf : Nat → List Nat, vf = fun k => vs.getD k [] := ⟨_, rfl⟩
  have HDS := Lib.hid hds
  have HVF := Lib.hid hvf
  obtain ⟨q, hq⟩ : ∃ q, q = w1.heap.size + 1 := ⟨_, rfl⟩
  have I1 : Hid (SerI ((w1.alloc (.cells #[] ActT)).alloc (.cells #[.int .i64 0, .int .i64 0, .string ⟨#[]⟩, .slice none 0 0, .int .i64 0, .int .i64 0, .int .i64 0, .bool false, .slice none 0 0] ResT)) w1.heap.size q ds vf 0 (some ⟨w1.heap.size, 0, none⟩) 0 [] none 0 0) := Lib.hid ⟨(OwA.made (Nat.le_refl _)).below (below_alloc _ _), rfl, rfl, fun _ hu => (nomatch hu), by rw [hq]; exact NowM.start w1 _⟩
  have BB1 : Hid (Below w1.heap.size w1 ((w1.alloc (.cells #[] ActT)).alloc (.cells #[.int .i64 0, .int .i64 0, .string ⟨#[]⟩, .slice none 0 0, .int .i64 0, .int .i64 0, .int .i64 0, .bool false, .slice none 0 0] ResT))) := Lib.hid (two_boxes w1 _ _).2.2
  have HQ := Lib.hid hq
  clear hds hvf
  go_upto_region 7 with fail
  rw [← hq]
  clear hq
  refine (?_ : ∀ W : World, Hid (SerI W w1.heap.size q ds vf 0 (some ⟨w1.heap.size, 0, none⟩) 0 [] none 0 0) → Hid (Below w1.heap.size w1 W) → Code.wp Try.prog _ _ _ W) _ I1 BB1
  clear I1 BB1
  intro W I1 BB1
  go_wp2_with fail
  go_loopw [7, 9] (fun vp vi wr => ∃ (k : Nat) (av : Option Addr) (cv : Nat) (us : List YA) (a : Option Addr) (n c : Nat), k ≤ kn ∧ vi = .int .i64 (k : Nat) ∧ vp = .slice av k cv ∧ Hid (SerI wr w1.heap.size q ds vf k av cv us a n c) ∧ Hid (Below w1.heap.size w1 wr)) (fun _ vi _ => kn - (intOf vi).toNat)
  case atStart => exact ⟨0, _, 0, [], none, 0, 0, Nat.zero_le _, rfl, rfl, I1, BB1⟩
  case round =>
    clear I1 BB1
    obtain ⟨k, av, cv, us, a, n, c, hk, rfl, rfl, HI, HB⟩ := hrel
    by_cases hlt : k < kn
    · obtain ⟨b, o, e, hc⟩ := (HK.out.below (B1.out.trans (HB.out.mono B1.out.size))).row.2 (by simp only; omega)
      simp only at e
      subst e
      have c1 := hc k (by simp only; omega)
      obtain ⟨z, hz⟩ : ∃ z, z = ks.getD k 0 := ⟨_, rfl⟩
      rw [iv_getD (by rw [HKL.out]; exact hlt), ← hz] at c1
      have hk0 : (0 : Int) ≤ (k : Int) := by omega
      have hk1 : (k : Int) < (kn : Int) := by omega
      have HZ := Lib.hid hz
      clear hc hz
      go_upto_region 11 with fail
      obtain ⟨d, hd⟩ : ∃ d, d = wrap64 (1 + (bits .and .i64 z 255).tmod 3) := ⟨_, rfl⟩
      rw [← hd]
      have hdk : d = ds k := by rw [hd, HDS.out, HZ.out]; rfl
      have HDK := Lib.hid hdk
      have hdc : d = 1 ∨ d = 2 ∨ d = 3 := by rw [hd]; exact dOf_cases z
      have HDC := Lib.hid hdc
      clear hd hdk hdc c1
      refine (?_ : ∀ W : World, Hid (W.heap[wr.heap.size]? = some (.cells #[.int .i64 0, .int .i64 d, .int .i64 (3 * (k : Int)), .int .i64 (3 * (k : Int) + 2), .string ⟨#[107]⟩, .slice none 0 0, .int .i64 0, .int .i64 0, .string ⟨#[]⟩, .slice none 0 0, .int .i64 0, .int .i64 0, .int .i64 0, .bool false, .slice none 0 0] ActT (0, 0))) → Hid (Below wr.heap.size wr W) → Hid (wr.heap.size < W.heap.size) → Code.wp Try.prog _ _ _ W) _ (Lib.hid (heap_alloc_new wr _)) (Lib.hid (below_alloc wr _)) (Lib.hid (by simp))
      intro W1 X1 BW1 ZW1
      have hqlt := HI.out.now.lt
      go_upto_if 49 with fail
      go_cut [11] (fun v wx => ∃ xa xn xc, v = .slice xa xn xc ∧ Hid (BytesV wx (xa, xn, xc) (vf k)) ∧ Hid (Below W1.heap.size W1 wx))
      case first =>
        have EM := Lib.hid (below_alloc W1 (.cells #[] 5))
        by_cases hv1 : k < vn
        · obtain ⟨vb, vo, ev, hvc⟩ := (HV.out.below (B1.out.trans ((HB.out.trans ((BW1.out.trans (EM.out.mono BW1.out.size)).mono HB.out.size)).mono B1.out.size))).2 (by omega)
          subst ev
          have hvl : hs.length = vn := by have := HV.out.1; simpa using this
          obtain ⟨x, hx, hxb⟩ := HR.out.at k (by omega)
          obtain ⟨xa, xn, xc⟩ := x
          have c2 := hvc k hv1
          rw [List.getElem?_map, hx, Option.map_some] at c2
          unfold SV at c2
          simp only at c2
          have hv0 : (k : Int) < (vn : Int) := by omega
          have HXB := Lib.hid hxb
          clear hvc hx hxb hvl
          go_wp2_with fail
          go_meet
          exact ⟨xa, xn, xc, rfl, Lib.hid (by rw [HVF.out]; exact HXB.out.below (B1.out.trans ((HB.out.trans ((BW1.out.trans (EM.out.mono BW1.out.size)).mono HB.out.size)).mono B1.out.size))), EM⟩
        · have hv0 : ¬ (k : Int) < (vn : Int) := by omega
          have hvl : hs.length = vn := by have := HV.out.1; simpa using this
          have hnil : vf k = [] := by rw [HVF.out]; show vs.getD k [] = []; rw [List.getD_eq_getElem?_getD, List.getElem?_eq_none (by have := HR.out.1; omega)]; rfl
          have HNIL := Lib.hid hnil
          clear hvl hnil
          go_wp2_with fail
          go_meet
          exact ⟨_, 0, 0, rfl, Lib.hid (by rw [HNIL.out]; exact ⟨⟨rfl, fun h => absurd h (Nat.lt_irrefl _)⟩, fun _ h => (nomatch h), Nat.zero_le _, Nat.le_refl _, fun _ => rfl⟩), EM⟩
      case rest =>
      obtain ⟨xa, xn, xc, rfl, HVB, BC⟩ := hcut
      have X2 := Lib.hid ((BC.out.block _ ZW1.out).trans X1.out)
      have BW2 := Lib.hid (BW1.out.trans (BC.out.mono BW1.out.size))
      have ZW2 := Lib.hid (Nat.lt_of_lt_of_le ZW1.out BC.out.size)
      have hxl : (vf k).length = xn := HVB.out.length
      have HXL := Lib.hid hxl
      clear X1 BW1 ZW1 BC hxl
      by_cases h6 : 60 < xn
      · have h6' : (60 : Int) < (xn : Int) := by omega
        go_wp2
        go_ret
        exact ⟨rfl, B1.out.trans ((HB.out.trans (BW2.out.mono HB.out.size)).mono B1.out.size)⟩
      have h6' : ¬ (60 : Int) < (xn : Int) := by omega
      obtain ⟨e0, e1, e2, e3, e4, e5, e6, e7, e8, e9, ea, eb, ec, ed, ee, eF⟩ := cells15 X2.out
      have f5 := eF 5
      have f6 := eF 6
      have f7 := eF 7
      have f8 := eF 8
      have f9 := eF 9
      have f10 := eF 10
      have f11 := eF 11
      have f12 := eF 12
      have f13 := eF 13
      have f14 := eF 14
      clear eF
      have HIW := Lib.hid (HI.out.below BW2.out)
      obtain ⟨cur, hcur⟩ : ∃ cur, cur = (serTo ds vf k).2 := ⟨_, rfl⟩
      obtain ⟨SA, hSA⟩ : ∃ SA, SA = serA k (ds k) (vf k) cur := ⟨_, rfl⟩
      have HCUR := Lib.hid hcur
      have HSA := Lib.hid hSA
      clear hcur hSA
      go_upto_block 2 with fail
      go_cut [] (fun wx => ∃ (a' : Option Addr) (n' c' : Nat) (x y zz : SH3), Hid (SerS wr wx w1.heap.size q wr.heap.size av cv us (nextV cur SA) a' n' c' SA x y zz))
      case first =>
        rcases HDC.out with h1 | h1 | h1
        · subst h1
          have hSA1 : SA = ⟨0, 1, 3 * (k : Int), 3 * (k : Int) + 2, kK, vf k, 0, 0, ⟨#[]⟩, [], 0, 0, 0, false, []⟩ := by rw [HSA.out, ← HDK.out]; rfl
          have HS1 := Lib.hid hSA1
          have hnx : nextV cur SA = some (vf k) := by rw [hSA1]; rfl
          have HNX := Lib.hid hnx
          have KC := copyBytes_any xa xn xc (vf k) _ HVB.out
          unfold GivesBytes at KC
          rw [HXL.out] at KC
          clear hSA1 hnx
          go_wp2_with fail
          (with_reducible refine KC.mono ?_)
          rintro e w4 ⟨a4, c4, rfl, o4, b4⟩
          have X4 := Lib.hid ((b4.block _ ZW2.out).trans X2.out)
          have BW4 := Lib.hid (BW2.out.trans (b4.mono BW2.out.size))
          have ZW4 := Lib.hid (Nat.lt_of_lt_of_le ZW2.out b4.size)
          have O4 := Lib.hid (ownsRow_baseJ o4 (Nat.succ_le_of_lt ZW2.out))
          have V4 := Lib.hid (HVB.out.below b4)
          clear o4 b4 KC e0 e1 e2 e3 e4 e5 e6 e7 e8 e9 ea eb ec ed ee f5 f6 f7 f8 f9 f10 f11 f12 f13 f14
          obtain ⟨e0, e1, e2, e3, e4, e5, e6, e7, e8, e9, ea, eb, ec, ed, ee, eF⟩ := cells15 X4.out
          have f5 := eF 5
          clear eF
          go_upto_region 19 with fail
          refine (?_ : ∀ W : World, Hid (W.heap[wr.heap.size]? = some (.cells #[.int .i64 0, .int .i64 1, .int .i64 (3 * (k : Int)), .int .i64 (3 * (k : Int) + 2), .string ⟨#[107]⟩, .slice a4 xn c4, .int .i64 0, .int .i64 0, .string ⟨#[]⟩, .slice none 0 0, .int .i64 0, .int .i64 0, .int .i64 0, .bool false, .slice none 0 0] ActT (0, 0))) → Hid (Below wr.heap.size wr W) → Hid (wr.heap.size < W.heap.size) → Hid (W.ownsRow (wr.heap.size + 1) 5 1 (.slice a4 xn c4) xn ((vf k).map bv)) → Hid (BytesV W (xa, xn, xc) (vf k)) → Code.wp Try.prog _ _ _ W) _ (Lib.hid (heap_setCell_same _ _ 5 _ _ _ X4.out)) (Lib.hid (BW4.out.setCell (p := ⟨wr.heap.size, 5, none⟩) (Nat.le_refl _) _)) (Lib.hid (by simpa using ZW4.out)) (Lib.hid (own_setJ O4.out 5 _)) (Lib.hid (V4.out.otherJ (g := wr.heap.size) ⟨rfl, rfl, rfl, by simp, fun k _ hk => heap_setCell_other _ _ _ _ (fun e => hk (by rw [e]))⟩ (fun h0 p hp e => bytes_ne_box V4.out X4.out (by simp [noU8]) h0 p hp e)))
          clear e0 e1 e2 e3 e4 e5 e6 e7 e8 e9 ea eb ec ed ee f5 X4 BW4 ZW4 O4 V4
          intro W5 X5 BW5 ZW5 O5 V5
          have KC := copyBytes_any xa xn xc (vf k) W5 V5.out
          unfold GivesBytes at KC
          rw [HXL.out] at KC
          go_wp2_with fail
          (with_reducible refine KC.mono ?_)
          rintro e w6 ⟨a6, c6, rfl, o6, b6⟩
          have X6 := Lib.hid ((b6.block _ ZW5.out).trans X5.out)
          have BW6 := Lib.hid (BW5.out.trans (b6.mono BW5.out.size))
          have ZW6 := Lib.hid (Nat.lt_of_lt_of_le ZW5.out b6.size)
          have O6 := Lib.hid (own_belowJ O5.out b6)
          have N6 := Lib.hid (ownsRow_baseJ o6 (Nat.succ_le_of_lt ZW5.out))
          have I6 := Lib.hid (HI.out.below BW6.out)
          clear o6 b6 KC
          go_wp2_with (first | ((with_reducible show wpList _ _ _ (⟨_, Op.store _ (.tmp 8) _, _, _, _, _⟩ :: _) _ _); (refine Hid.out ?_)))
          refine Lib.hid ?_
          refine wpList_store_row rfl ResT _ _ rfl q #[.int .i64 0, .int .i64 0, .string ⟨#[]⟩, .slice a6 xn c6, .int .i64 0, .int .i64 0, .int .i64 0, .bool true, .slice none 0 0] rfl rfl ResT _ I6.out.now.box (by kernel_rfl) rfl (by simp [Value.oneCell']) ?_
          have hgr := grown_setRowJ w6 q #[.int .i64 0, .int .i64 0, .string ⟨#[]⟩, .slice a6 xn c6, .int .i64 0, .int .i64 0, .int .i64 0, .bool true, .slice none 0 0]
          go_wp2_with fail
          go_meet
          have hne : q ≠ wr.heap.size := by omega
          have hv6 := bytesV_of_owns O6.out (by have := V5.out.bytes; exact this) (by have := V5.out.small; exact this)
          have hn6 := bytesV_of_owns N6.out (by have := V5.out.bytes; exact this) (by have := V5.out.small; exact this)
          refine ⟨a6, xn, c6, (a4, xn, c4), (none, 0, 0), (none, 0, 0), Lib.hid ⟨I6.out.own.otherQ HI.out.far I6.out.now.box hgr, ⟨?_, ?_, ?_⟩, ?_, ?_, ?_, ?_, ?_⟩⟩
          · rw [HNX.out]; exact setRow_sameJ I6.out.now.box
          · rw [HNX.out]; exact hn6.otherJ hgr (fun h0 p hp e => bytes_ne_box hn6 I6.out.now.box (by simp [noU8]) h0 p hp e)
          · rw [HNX.out]; exact (ownsRow_baseJ N6.out (by omega)).kept hgr (.inr (own_ne_boxJ N6.out I6.out.now.box (by decide)))
          · rw [HS1.out]; exact (hgr.block _ ZW6.out (fun e => hne (by injection e with e; exact e.symm))).trans X6.out
          · rw [HS1.out]
            exact ⟨hv6.otherJ hgr (fun h0 p hp e => bytes_ne_box hv6 I6.out.now.box (by simp [noU8]) h0 p hp e), bytesV_nilJ _, txV_nilJ _⟩
          · exact ⟨hi_own O6.out (Nat.le_succ _), fun h0 => absurd h0 (Nat.lt_irrefl _), fun h0 => absurd h0 (Nat.lt_irrefl _)⟩
          · exact (BW6.out.mono (Nat.le_of_lt hqlt)).grown hgr (Nat.le_trans (Nat.le_of_lt hqlt) BW6.out.size) (fun j hj => by injection hj with hj; omega)
          · exact Nat.le_trans BW6.out.size hgr.size
        · subst h1
          have hSA1 : SA = ⟨0, 2, 3 * (k : Int), 3 * (k : Int) + 2, kK, [], 0, 0, ⟨#[]⟩, cur.getD [], 0, 0, 0, cur.isSome, []⟩ := by rw [HSA.out, ← HDK.out]; rfl
          have HS1 := Lib.hid hSA1
          have hnx : nextV cur SA = cur := by rw [hSA1]; rfl
          have HNX := Lib.hid hnx
          obtain ⟨fd, hfd⟩ : ∃ fd, fd = cur.isSome := ⟨_, rfl⟩
          have HFD := Lib.hid hfd
          clear hSA1 hnx hfd
          go_upto_region 21 with fail
          have hnw := HIW.out.now
          have n3 := cell_of_row _ _ 3 _ _ _ hnw.box
          have n7 := cell_of_row _ _ 7 _ _ _ hnw.box
          rw [← HCUR.out] at n7
          simp at n3 n7
          rw [← HFD.out] at n7
          have KC := copyBytes_any a n c (cur.getD []) wc.drew (by have := hnw.val; rw [← HCUR.out] at this; exact this.below (Below.refl _ _).drew)
          unfold GivesBytes at KC
          have hcl : (cur.getD []).length = n := by have := hnw.val.length; rw [← HCUR.out] at this; exact this
          rw [hcl] at KC
          have HCB := Lib.hid (show Bytes (cur.getD []) ∧ n ≤ 140737488355328 by have h1 := hnw.val; rw [← HCUR.out] at h1; exact ⟨h1.bytes, h1.small⟩)
          clear hnw hcl
          have P0 : wc.drew.cell? ⟨q, 3, none⟩ = some (.slice a n c) ∧ wc.drew.cell? ⟨q, 7, none⟩ = some (.bool fd) := ⟨n3, n7⟩
          refine GoX.start 7 (fun w' => w'.cell? ⟨q, 3, none⟩ = some (.slice a n c) ∧ w'.cell? ⟨q, 7, none⟩ = some (.bool fd)) (by kernel_rfl) ?_
          refine GoX.take 0 rfl (by kernel_rfl) (by kernel_rfl) (by rfl) (fun _ _ _ h => h) (v := ?tv0g34) P0 ?ty0g34 ?tr0g34
          case ty0g34 => (intro w hSw; (try dsimp only at hSw); go_simp; first | done | with_reducible rfl)
          simp only [Act.put, List.setIfInBounds_toArray, List.set_cons_zero, List.set_cons_succ]
          refine GoX.take 1 rfl (by kernel_rfl) (by kernel_rfl) (by rfl) (fun _ _ _ h => h) (v := ?tv1g35) P0 ?ty1g35 ?tr1g35
          case ty1g35 => (intro w hSw; (try dsimp only at hSw); go_simp; first | done | with_reducible rfl)
          simp only [Act.put, List.setIfInBounds_toArray, List.set_cons_zero, List.set_cons_succ]
          refine GoX.take 2 rfl (by kernel_rfl) (by kernel_rfl) (by rfl) (fun _ _ _ h => h) (v := ?tv2g36) P0 ?ty2g36 ?tr2g36
          case ty2g36 => (intro w hSw; (try dsimp only at hSw); go_simp; first | done | with_reducible rfl)
          simp only [Act.put, List.setIfInBounds_toArray, List.set_cons_zero, List.set_cons_succ]
          refine GoX.take 3 rfl (by kernel_rfl) (by kernel_rfl) (by rfl) (fun _ _ _ h => h) (v := ?tv3g37) P0 ?ty3g37 ?tr3g37
          case ty3g37 => (intro w hSw; (try dsimp only at hSw); go_simp; first | done | with_reducible rfl)
          simp only [Act.put, List.setIfInBounds_toArray, List.set_cons_zero, List.set_cons_succ]
          refine GoX.one 4 rfl (by kernel_rfl) (by decide) (fun K hK => ?_)
          rw [if_pos (by rfl)]
          go_simp
          (with_reducible refine KC.mono ?_)
          rintro e w4 ⟨a4, c4, rfl, o4, b4⟩
          have bd : Below wc.heap.size wc w4 := (show Below wc.heap.size wc wc.drew from (Below.refl _ _).drew).trans b4
          have P1 : w4.cell? ⟨q, 3, none⟩ = some (.slice a n c) ∧ w4.cell? ⟨q, 7, none⟩ = some (.bool fd) := ⟨cellBelow n3 bd, cellBelow n7 bd⟩
          have X4 := Lib.hid ((bd.block _ ZW2.out).trans X2.out)
          have BW4 := Lib.hid (BW2.out.trans (bd.mono BW2.out.size))
          have ZW4 := Lib.hid (Nat.lt_of_lt_of_le ZW2.out bd.size)
          have O4 := Lib.hid (ownsRow_baseJ o4 (Nat.succ_le_of_lt ZW2.out))
          clear o4 b4 bd KC e0 e1 e2 e3 e4 e5 e6 e7 e8 e9 ea eb ec ed ee f5 f6 f7 f8 f9 f10 f11 f12 f13 f14
          obtain ⟨e0, e1, e2, e3, e4, e5, e6, e7, e8, e9, ea, eb, ec, ed, ee, eF⟩ := cells15 X4.out
          have f6 := eF 6
          have f7 := eF 7
          have f8 := eF 8
          have f9 := eF 9
          have f10 := eF 10
          have f11 := eF 11
          have f12 := eF 12
          have f13 := eF 13
          have f14 := eF 14
          clear eF
          refine hK.out _ _ P1 (fun _ => ?_)
          clear hK K
          refine GoX.take 5 rfl (by kernel_rfl) (by kernel_rfl) (by rfl) (fun _ _ _ h => h) (v := ?tv5g38) P1 ?ty5g38 ?tr5g38
          case ty5g38 => (intro w hSw; (try dsimp only at hSw); go_simp; first | done | with_reducible rfl)
          simp only [Act.put, List.setIfInBounds_toArray, List.set_cons_zero, List.set_cons_succ]
          refine GoX.take 6 rfl (by kernel_rfl) (by kernel_rfl) (by rfl) (fun _ _ _ h => h) (v := ?tv6g39) P1 ?ty6g39 ?tr6g39
          case ty6g39 => (intro w hSw; (try dsimp only at hSw); go_simp; first | done | with_reducible rfl)
          simp only [Act.put, List.setIfInBounds_toArray, List.set_cons_zero, List.set_cons_succ]
          refine GoX.last 7 rfl (by kernel_rfl) (by kernel_rfl) (by decide) ?_
          go_wp2_with fail
          go_meet
          have I4 := HI.out.below BW4.out
          have hv4 := bytesV_of_owns O4.out HCB.out.1 HCB.out.2
          have hset : Hid ((setsFrom w4 wr.heap.size 6 [.int .i64 0, .int .i64 0, .string ⟨#[]⟩, .slice a4 n c4, .int .i64 0, .int .i64 0, .int .i64 0, .bool fd, .slice none 0 0]).heap[wr.heap.size]? = some (.cells #[.int .i64 0, .int .i64 2, .int .i64 (3 * (k : Int)), .int .i64 (3 * (k : Int) + 2), .string ⟨#[107]⟩, .slice none 0 0, .int .i64 0, .int .i64 0, .string ⟨#[]⟩, .slice a4 n c4, .int .i64 0, .int .i64 0, .int .i64 0, .bool fd, .slice none 0 0] ActT (0, 0))) := Lib.hid (heap_setsFrom 6 _ X4.out rfl)
          have hbs := setsFrom_below (B := wr.heap.size) (u := wr) (g := wr.heap.size) [.int .i64 0, .int .i64 0, .string ⟨#[]⟩, .slice a4 n c4, .int .i64 0, .int .i64 0, .int .i64 0, .bool fd, .slice none 0 0] 6 BW4.out BW4.out.size (Nat.le_refl _)
          have hgs := grown_setsFrom (g := wr.heap.size) [.int .i64 0, .int .i64 0, .string ⟨#[]⟩, .slice a4 n c4, .int .i64 0, .int .i64 0, .int .i64 0, .bool fd, .slice none 0 0] 6 w4
          refine ⟨a, n, c, (none, 0, 0), (a4, n, c4), (none, 0, 0), Lib.hid ?_⟩
          refine (?_ : ∀ WF : World, WF.heap[wr.heap.size]? = some (.cells #[.int .i64 0, .int .i64 2, .int .i64 (3 * (k : Int)), .int .i64 (3 * (k : Int) + 2), .string ⟨#[107]⟩, .slice none 0 0, .int .i64 0, .int .i64 0, .string ⟨#[]⟩, .slice a4 n c4, .int .i64 0, .int .i64 0, .int .i64 0, .bool fd, .slice none 0 0] ActT (0, 0)) → Below wr.heap.size wr WF → w4.grownBy WF (some wr.heap.size) → SerS wr WF w1.heap.size q wr.heap.size av cv us (nextV cur SA) a n c SA (none, 0, 0) (a4, n, c4) (none, 0, 0)) _ hset.out hbs hgs
          clear hset hbs hgs
          intro WF hF hB hG
          have IF := HI.out.below hB
          refine ⟨IF.own, by rw [HNX.out]; have := IF.now; rw [← HCUR.out] at this; exact this, ?_, ?_, ?_, hB.mono (Nat.le_of_lt hqlt), hB.size⟩
          · rw [HS1.out]; simp only [ActC, ← HFD.out]; exact hF
          · rw [HS1.out]; exact ⟨bytesV_nilJ _, hv4.otherJ hG (fun h0 p hp e => bytes_ne_box hv4 X4.out (by simp [noU8]) h0 p hp e), txV_nilJ _⟩
          · exact ⟨fun h0 => absurd h0 (Nat.lt_irrefl _), hi_own O4.out (Nat.le_succ _), fun h0 => absurd h0 (Nat.lt_irrefl _)⟩
        · subst h1
          have hSA1 : SA = ⟨0, 3, 3 * (k : Int), 3 * (k : Int) + 2, kK, [], 0, 0, ⟨#[]⟩, [], 0, 0, 0, false, []⟩ := by rw [HSA.out, ← HDK.out]; rfl
          have HS1 := Lib.hid hSA1
          have hnx : nextV cur SA = none := by rw [hSA1]; rfl
          have HNX := Lib.hid hnx
          clear hSA1 hnx
          go_wp2_with (first | ((with_reducible show wpList _ _ _ (⟨_, Op.store _ (.tmp 8) _, _, _, _, _⟩ :: _) _ _); (refine Hid.out ?_)))
          refine Lib.hid ?_
          refine wpList_store_row rfl ResT _ _ rfl q #[.int .i64 0, .int .i64 0, .string ⟨#[]⟩, .slice none 0 0, .int .i64 0, .int .i64 0, .int .i64 0, .bool false, .slice none 0 0] rfl rfl ResT _ HIW.out.now.box (by kernel_rfl) rfl (by simp [Value.oneCell']) ?_
          have hgr := grown_setRowJ wc q #[.int .i64 0, .int .i64 0, .string ⟨#[]⟩, .slice none 0 0, .int .i64 0, .int .i64 0, .int .i64 0, .bool false, .slice none 0 0]
          go_wp2_with fail
          go_meet
          have hne : q ≠ wr.heap.size := by omega
          refine ⟨none, 0, 0, (none, 0, 0), (none, 0, 0), (none, 0, 0), Lib.hid ⟨HIW.out.own.otherQ HI.out.far HIW.out.now.box hgr, ⟨?_, ?_, ?_⟩, ?_, ?_, ?_, ?_, ?_⟩⟩
          · rw [HNX.out]; exact setRow_sameJ HIW.out.now.box
          · rw [HNX.out]; exact bytesV_nilJ _
          · rw [HNX.out]; exact World.ownsRow_nil _ _ _ _
          · rw [HS1.out]; exact (hgr.block _ ZW2.out (fun e => hne (by injection e with e; exact e.symm))).trans X2.out
          · rw [HS1.out]; exact ⟨bytesV_nilJ _, bytesV_nilJ _, txV_nilJ _⟩
          · exact ⟨fun h0 => absurd h0 (Nat.lt_irrefl _), fun h0 => absurd h0 (Nat.lt_irrefl _), fun h0 => absurd h0 (Nat.lt_irrefl _)⟩
          · exact (BW2.out.mono (Nat.le_of_lt hqlt)).grown hgr (Nat.le_trans (Nat.le_of_lt hqlt) BW2.out.size) (fun j hj => by injection hj with hj; omega)
          · exact Nat.le_trans BW2.out.size hgr.size
      case rest =>
        obtain ⟨a', n', c', x, y, zz, HSS⟩ := hcut
        clear e0 e1 e2 e3 e4 e5 e6 e7 e8 e9 ea eb ec ed ee f5 f6 f7 f8 f9 f10 f11 f12 f13 f14 X2 HVB
        rename World => w7
        obtain ⟨e0, e1, e2, e3, e4, e5, e6, e7, e8, e9, ea, eb, ec, ed, ee, -⟩ := cells15 HSS.out.box
        go_wp2_with (first | (at_builtin; refine Hid.out ?_))
        refine Lib.hid ?_
        have b8 := below_alloc w7 (.cells #[.int .i64 SA.cl, .int .i64 SA.d, .int .i64 SA.st, .int .i64 SA.en, .string SA.key, .slice x.1 x.2.1 x.2.2, .int .i64 SA.rop, .int .i64 SA.rdo, .string SA.rkey, .slice y.1 y.2.1 y.2.2, .int .i64 SA.tn, .int .i64 SA.tc, .int .i64 SA.code, .bool SA.found, .slice zz.1 zz.2.1 zz.2.2] ActT)
        have o8 := HSS.out.own.below b8
        have o8o := o8.own
        rw [HI.out.len] at o8o
        have hav : ∀ g, ofB av = some g → g < wr.heap.size := HI.out.own.lt
        have hBq : w1.heap.size ≤ w7.heap.size := Nat.le_trans HB.out.size HSS.out.big
        refine wpList_append_lies _ rfl (.tmp 79) (.tmp 81) 22 rfl w1.heap.size ActT i0 (.agg #[.int .i64 0, .int .i64 0, .int .i64 0, .int .i64 0, .string ⟨#[]⟩, .slice none 0 0, .int .i64 0, .int .i64 0, .string ⟨#[]⟩, .slice none 0 0, .int .i64 0, .int .i64 0, .int .i64 0, .bool false, .slice none 0 0]) 15 184 Try.underlying22 hi hz0 hz1 hz2 rfl (by decide) (.slice av k cv) k (acells us) rfl o8o ⟨w7.heap.size, 0, none⟩ 1 1 [.int .i64 SA.cl, .int .i64 SA.d, .int .i64 SA.st, .int .i64 SA.en, .string SA.key, .slice x.1 x.2.1 x.2.2, .int .i64 SA.rop, .int .i64 SA.rdo, .string SA.rkey, .slice y.1 y.2.1 y.2.2, .int .i64 SA.tn, .int .i64 SA.tc, .int .i64 SA.code, .bool SA.found, .slice zz.1 zz.2.1 zz.2.2] rfl rfl (World.news_of_block (heap_alloc_new w7 _)) (by intro u hu; simp at hu; rcases hu with rfl | rfl | rfl | rfl | rfl | rfl | rfl | rfl | rfl | rfl | rfl | rfl | rfl | rfl | rfl <;> rfl) (by decide) (by simp [maxLen]; omega) (by omega) (Nat.le_trans hBq b8.size) _ rfl ?_
        intro g9 c9 w9 hE9 g9' lie9 _
        rw [← HI.out.len] at hE9 g9' lie9
        have h1 := HI.out.own.ge
        have hBw := HB.out.size
        have HO9 := o8.snoc (HSS.out.s.below b8) (far_hi HSS.out.hi.1 hav) (far_hi HSS.out.hi.2.1 hav) (far_hi HSS.out.hi.2.2 hav) ⟨HSS.out.hi.1.mono hBw, HSS.out.hi.2.1.mono hBw, HSS.out.hi.2.2.mono hBw⟩ hE9 g9' lie9
        have hgg : (w7.alloc (.cells #[.int .i64 SA.cl, .int .i64 SA.d, .int .i64 SA.st, .int .i64 SA.en, .string SA.key, .slice x.1 x.2.1 x.2.2, .int .i64 SA.rop, .int .i64 SA.rdo, .string SA.rkey, .slice y.1 y.2.1 y.2.2, .int .i64 SA.tn, .int .i64 SA.tc, .int .i64 SA.code, .bool SA.found, .slice zz.1 zz.2.1 zz.2.2] ActT)).grownBy w9 (ofB av) := by rw [ofB_eq] at g9'; exact g9'
        have HSS8 : SerS wr (w7.alloc (.cells #[.int .i64 SA.cl, .int .i64 SA.d, .int .i64 SA.st, .int .i64 SA.en, .string SA.key, .slice x.1 x.2.1 x.2.2, .int .i64 SA.rop, .int .i64 SA.rdo, .string SA.rkey, .slice y.1 y.2.1 y.2.2, .int .i64 SA.tn, .int .i64 SA.tc, .int .i64 SA.code, .bool SA.found, .slice zz.1 zz.2.1 zz.2.2] ActT)) w1.heap.size q wr.heap.size av cv us (nextV cur SA) a' n' c' SA x y zz := ⟨o8, HSS.out.now.below b8, (b8.block _ (Array.getElem?_eq_some_iff.1 HSS.out.box).1).trans HSS.out.box, HSS.out.s.below b8, HSS.out.hi, HSS.out.low.trans (b8.mono (Nat.le_trans (Nat.le_of_lt hqlt) HSS.out.big)), Nat.le_trans HSS.out.big b8.size⟩
        have HN := Lib.hid (HI.out.after (by rw [HSA.out, HCUR.out]) (by rw [← HCUR.out]; exact HSS8) HO9 hgg)
        have B9 := Lib.hid (below_grown (w0 := w1) (HB.out.trans ((HSS8.low.mono (show w1.heap.size ≤ q by have := HQ.out; omega)))) g9' (ownBlock_geJ HSS8.own.own))
        clear b8 o8 o8o hav hE9 g9' lie9 h1 hBw HO9 hgg HSS8 e0 e1 e2 e3 e4 e5 e6 e7 e8 e9 ea eb ec ed ee hBq
        go_wp2
        go_roundw
        case rel => exact ⟨k + 1, some ⟨g9, 0, none⟩, c9, _, a', n', c', by omega, by go_num, rfl, HN, B9⟩
        case measure => simp [intOf]; omega
    · obtain rfl : k = kn := by omega
      obtain ⟨cur, hcur⟩ : ∃ cur, cur = (serTo ds vf k).2 := ⟨_, rfl⟩
      obtain ⟨xs, hxs⟩ : ∃ xs, xs = (serTo ds vf k).1 := ⟨_, rfl⟩
      have hdsc : ∀ j, ds j = 1 ∨ ds j = 2 ∨ ds j = 3 := fun j => by rw [HDS.out]; exact dOf_cases _
      have hxl : xs.length = k := by rw [hxs, serTo_len]
      have hacts := HI.out.own.acts
      rw [HI.out.len, HI.out.val, ← hxs] at hacts
      have hko : KOk xs := fun a ha => by rw [hxs] at ha; rw [((ser_all ds vf hdsc k).1 a ha).2.2.2.1]; decide
      have hw1 := ser_whole ds vf hdsc k (by omega)
      have hw2 := ser_end ds vf hdsc k (by omega) ot
      rw [← hxs] at hw1 hw2
      rw [← hcur] at hw2
      have hkc : k ≤ cv := by
        have h1 := HI.out.own.own
        rw [HI.out.len] at h1
        rcases h1.2 with ⟨e1, e2⟩ | ⟨g, cap, cu, e, -, -, hnc, -⟩
        · omega
        · injection e with e1 e2 e3; omega
      have HA := Lib.hid hacts
      have HKO := Lib.hid hko
      have HW2 := Lib.hid hw2
      have HXL := Lib.hid hxl
      have HKC := Lib.hid hkc
      have HNW := Lib.hid (show NowM wr q cur a n c by rw [hcur]; exact HI.out.now)
      have KC := copyActs_rd av k cv xs wr hacts hkc (by omega)
      clear hcur hxs hdsc hxl hacts hko hw2 hkc HI
      go_wp2_with fail
      (with_reducible refine KC.mono ?_)
      rintro e x1 ⟨a8, c8, rfl, hv8, hc8, b8⟩
      have X1 := Lib.hid (HB.out.trans (b8.mono HB.out.size))
      have HA1 := Lib.hid (HA.out.below b8)
      have N1 := Lib.hid (HNW.out.below b8)
      have KW := whole_any a8 k c8 xs x1 hv8 hc8 (by omega) HKO.out
      rw [hw1] at KW
      clear KC b8 hv8 HA HNW hw1
      go_wp2_with fail
      (with_reducible refine KW.mono ?_)
      rintro e x2 ⟨rfl, b9⟩
      have X2 := Lib.hid (X1.out.trans (b9.mono X1.out.size))
      have HA2 := Lib.hid (HA1.out.below b9)
      have N2 := Lib.hid (N1.out.below b9)
      have O2 := Lib.hid (HO.out.below (B1.out.trans (X2.out.mono B1.out.size)))
      have KC := copyBytes_any oa on oc ot x2 O2.out
      have hol : ot.length = on := HO.out.length
      unfold GivesBytes at KC
      rw [hol] at KC
      have HOB := Lib.hid (show Bytes ot ∧ on ≤ 140737488355328 from ⟨HO.out.bytes, HO.out.small⟩)
      clear KW b9 HA1 N1 hol
      go_wp2_with fail
      (with_reducible refine KC.mono ?_)
      rintro e x3 ⟨a9, c9, rfl, o9, b10⟩
      have X3 := Lib.hid (X2.out.trans (b10.mono X2.out.size))
      have HA3 := Lib.hid (HA2.out.below b10)
      have N3 := Lib.hid (N2.out.below b10)
      have O3 := Lib.hid (O2.out.below b10)
      have E3 := Lib.hid o9
      clear KC b10 HA2 N2 O2 o9
      go_upto_region 28 with fail
      refine (?_ : ∀ W : World, Hid (W.heap[x3.heap.size]? = some (.cells #[.int .i64 0, .int .i64 2, .int .i64 100, .int .i64 101, .string ⟨#[107]⟩, .slice none 0 0, .int .i64 0, .int .i64 0, .string ⟨#[]⟩, .slice a9 on c9, .int .i64 0, .int .i64 0, .int .i64 0, .bool true, .slice none 0 0] ActT (0, 0))) → Hid (Below x3.heap.size x3 W) → Code.wp Try.prog _ _ _ W) _ (Lib.hid (heap_alloc_new x3 _)) (Lib.hid (below_alloc x3 _))
      intro W XE BE
      have X4 := Lib.hid (X3.out.trans (BE.out.mono X3.out.size))
      have HA4 := Lib.hid (HA3.out.below BE.out)
      have N4 := Lib.hid (N3.out.below BE.out)
      have O4 := Lib.hid (O3.out.below BE.out)
      have SE : Hid (ActS W (endA ot) (none, 0, 0) (a9, on, c9) (none, 0, 0)) := Lib.hid ⟨bytesV_nilJ _, (bytesV_of_owns E3.out HOB.out.1 HOB.out.2).below BE.out, txV_nilJ _⟩
      have HHI := Lib.hid (hi_own E3.out (Nat.le_refl _))
      have n3 := cell_of_row _ _ 3 _ _ _ N4.out.box
      have n7 := cell_of_row _ _ 7 _ _ _ N4.out.box
      simp at n3 n7
      obtain ⟨fd, hfd⟩ : ∃ fd, fd = cur.isSome := ⟨_, rfl⟩
      rw [← hfd] at n7
      have HFD := Lib.hid hfd
      clear hfd X3 HA3 N3 O3
      obtain ⟨sm, hsm⟩ : ∃ sm, sm = (cur.isSome && decide (cur.getD [] = ot)) := ⟨_, rfl⟩
      have hw3 := HW2.out
      rw [← hsm] at hw3
      have HW3 := Lib.hid hw3
      have HSM := Lib.hid hsm
      have hsq : (sm == sm) = true := by cases sm <;> rfl
      clear hsm hw3 HW2
      go_cut [13] (fun v wx => v = .bool sm ∧ Hid (Below W.heap.size W wx))
      case first =>
        cases fd
        · have hs0 : sm = false := by rw [HSM.out, ← HFD.out]; rfl
          subst hs0
          go_wp2_with fail
          go_meet
          exact ⟨rfl, Lib.hid (Below.refl _ _)⟩
        · have hs0 : sm = decide (cur.getD [] = ot) := by rw [HSM.out, ← HFD.out]; simp
          have HS0 := Lib.hid hs0
          have KE := sameBytes_any a n c (cur.getD []) oa on oc ot W N4.out.val O4.out
          rw [← hs0] at KE
          clear hs0
          go_wp2_with fail
          (with_reducible refine KE.mono ?_)
          rintro e w5 ⟨rfl, b5⟩
          have HB5 := Lib.hid b5
          clear b5 KE
          go_wp2_with fail
          go_meet
          exact ⟨rfl, HB5⟩
      case rest =>
      obtain ⟨rfl, BX⟩ := hcut
      have XE0 : Hid (wc.heap[x3.heap.size]? = some (.cells #[.int .i64 0, .int .i64 2, .int .i64 100, .int .i64 101, .string ⟨#[107]⟩, .slice none 0 0, .int .i64 0, .int .i64 0, .string ⟨#[]⟩, .slice a9 on c9, .int .i64 0, .int .i64 0, .int .i64 0, .bool true, .slice none 0 0] ActT (0, 0))) := Lib.hid ((BX.out.block _ (Array.getElem?_eq_some_iff.1 XE.out).1).trans XE.out)
      have XL : Hid (x3.heap.size < wc.heap.size) := Lib.hid (Array.getElem?_eq_some_iff.1 XE0.out).1
      have HA5 := Lib.hid (HA4.out.below BX.out)
      have SE5 := Lib.hid (SE.out.below BX.out)
      have Y5 := Lib.hid (X4.out.trans (BX.out.mono X4.out.size))
      clear HA4 SE N4 O4 X4 XE BE n3 n7 HHI BX HSM HFD
      obtain ⟨e0, e1, e2, e3, e4, e5, e6, e7, e8, e9, ea, eb, ec, ed, ee, -⟩ := cells15 XE0.out
      go_upto_region 29 with fail
      have P0 : wc.drew.cell? ⟨x3.heap.size, 0, none⟩ = some (.int .i64 0) ∧ wc.drew.cell? ⟨x3.heap.size, 1, none⟩ = some (.int .i64 2) ∧ wc.drew.cell? ⟨x3.heap.size, 2, none⟩ = some (.int .i64 100) ∧ wc.drew.cell? ⟨x3.heap.size, 3, none⟩ = some (.int .i64 101) ∧ wc.drew.cell? ⟨x3.heap.size, 4, none⟩ = some (.string ⟨#[107]⟩) ∧ wc.drew.cell? ⟨x3.heap.size, 5, none⟩ = some (.slice none 0 0) ∧ wc.drew.cell? ⟨x3.heap.size, 6, none⟩ = some (.int .i64 0) ∧ wc.drew.cell? ⟨x3.heap.size, 7, none⟩ = some (.int .i64 0) ∧ wc.drew.cell? ⟨x3.heap.size, 8, none⟩ = some (.string ⟨#[]⟩) ∧ wc.drew.cell? ⟨x3.heap.size, 9, none⟩ = some (.slice a9 on c9) ∧ wc.drew.cell? ⟨x3.heap.size, 10, none⟩ = some (.int .i64 0) ∧ wc.drew.cell? ⟨x3.heap.size, 11, none⟩ = some (.int .i64 0) ∧ wc.drew.cell? ⟨x3.heap.size, 12, none⟩ = some (.int .i64 0) ∧ wc.drew.cell? ⟨x3.heap.size, 13, none⟩ = some (.bool true) ∧ wc.drew.cell? ⟨x3.heap.size, 14, none⟩ = some (.slice none 0 0) := ⟨e0, e1, e2, e3, e4, e5, e6, e7, e8, e9, ea, eb, ec, ed, ee⟩
      refine GoX.start 8 (fun w' => w'.cell? ⟨x3.heap.size, 0, none⟩ = some (.int .i64 0) ∧ w'.cell? ⟨x3.heap.size, 1, none⟩ = some (.int .i64 2) ∧ w'.cell? ⟨x3.heap.size, 2, none⟩ = some (.int .i64 100) ∧ w'.cell? ⟨x3.heap.size, 3, none⟩ = some (.int .i64 101) ∧ w'.cell? ⟨x3.heap.size, 4, none⟩ = some (.string ⟨#[107]⟩) ∧ w'.cell? ⟨x3.heap.size, 5, none⟩ = some (.slice none 0 0) ∧ w'.cell? ⟨x3.heap.size, 6, none⟩ = some (.int .i64 0) ∧ w'.cell? ⟨x3.heap.size, 7, none⟩ = some (.int .i64 0) ∧ w'.cell? ⟨x3.heap.size, 8, none⟩ = some (.string ⟨#[]⟩) ∧ w'.cell? ⟨x3.heap.size, 9, none⟩ = some (.slice a9 on c9) ∧ w'.cell? ⟨x3.heap.size, 10, none⟩ = some (.int .i64 0) ∧ w'.cell? ⟨x3.heap.size, 11, none⟩ = some (.int .i64 0) ∧ w'.cell? ⟨x3.heap.size, 12, none⟩ = some (.int .i64 0) ∧ w'.cell? ⟨x3.heap.size, 13, none⟩ = some (.bool true) ∧ w'.cell? ⟨x3.heap.size, 14, none⟩ = some (.slice none 0 0)) (by kernel_rfl) ?_
      refine GoX.take 0 rfl (by kernel_rfl) (by kernel_rfl) (by rfl) (fun _ _ _ h => h) (v := ?tv0g40) P0 ?ty0g40 ?tr0g40
      case ty0g40 => (intro w hSw; (try dsimp only at hSw); go_simp; first | done | with_reducible rfl)
      simp only [Act.put, List.setIfInBounds_toArray, List.set_cons_zero, List.set_cons_succ]
      refine GoX.take 2 rfl (by kernel_rfl) (by kernel_rfl) (by rfl) (fun _ _ _ h => h) (v := ?tv2g41) P0 ?ty2g41 ?tr2g41
      case ty2g41 => (intro w hSw; (try dsimp only at hSw); go_simp; first | done | with_reducible rfl)
      simp only [Act.put, List.setIfInBounds_toArray, List.set_cons_zero, List.set_cons_succ]
      refine GoX.take 6 rfl (by kernel_rfl) (by kernel_rfl) (by rfl) (fun _ _ _ h => h) (v := ?tv6g42) P0 ?ty6g42 ?tr6g42
      case ty6g42 => (intro w hSw; (try dsimp only at hSw); go_simp; first | done | with_reducible rfl)
      simp only [Act.put, List.setIfInBounds_toArray, List.set_cons_zero, List.set_cons_succ]
      refine GoX.two 1 3 rfl rfl (by kernel_rfl) (by decide) (by decide) (fun K hK => ?_) (fun K hK => ?_)
      · rw [if_pos (by rfl)]
        go_simp
        have KC := copyActs_any av k cv xs wc.drew (HA5.out.below (show Below wc.heap.size wc wc.drew from (Below.refl _ _).drew)) HKC.out (by omega)
        unfold GivesActs at KC
        rw [HXL.out] at KC
        (with_reducible refine KC.mono ?_)
        rintro e wA ⟨aA, cA, zs, rfl, hzs, hoA, bA, hcA⟩
        have Q1 : wA.cell? ⟨x3.heap.size, 0, none⟩ = some (.int .i64 0) ∧ wA.cell? ⟨x3.heap.size, 1, none⟩ = some (.int .i64 2) ∧ wA.cell? ⟨x3.heap.size, 2, none⟩ = some (.int .i64 100) ∧ wA.cell? ⟨x3.heap.size, 3, none⟩ = some (.int .i64 101) ∧ wA.cell? ⟨x3.heap.size, 4, none⟩ = some (.string ⟨#[107]⟩) ∧ wA.cell? ⟨x3.heap.size, 5, none⟩ = some (.slice none 0 0) ∧ wA.cell? ⟨x3.heap.size, 6, none⟩ = some (.int .i64 0) ∧ wA.cell? ⟨x3.heap.size, 7, none⟩ = some (.int .i64 0) ∧ wA.cell? ⟨x3.heap.size, 8, none⟩ = some (.string ⟨#[]⟩) ∧ wA.cell? ⟨x3.heap.size, 9, none⟩ = some (.slice a9 on c9) ∧ wA.cell? ⟨x3.heap.size, 10, none⟩ = some (.int .i64 0) ∧ wA.cell? ⟨x3.heap.size, 11, none⟩ = some (.int .i64 0) ∧ wA.cell? ⟨x3.heap.size, 12, none⟩ = some (.int .i64 0) ∧ wA.cell? ⟨x3.heap.size, 13, none⟩ = some (.bool true) ∧ wA.cell? ⟨x3.heap.size, 14, none⟩ = some (.slice none 0 0) := ⟨cellBelow P0.1 bA, cellBelow P0.2.1 bA, cellBelow P0.2.2.1 bA, cellBelow P0.2.2.2.1 bA, cellBelow P0.2.2.2.2.1 bA, cellBelow P0.2.2.2.2.2.1 bA, cellBelow P0.2.2.2.2.2.2.1 bA, cellBelow P0.2.2.2.2.2.2.2.1 bA, cellBelow P0.2.2.2.2.2.2.2.2.1 bA, cellBelow P0.2.2.2.2.2.2.2.2.2.1 bA, cellBelow P0.2.2.2.2.2.2.2.2.2.2.1 bA, cellBelow P0.2.2.2.2.2.2.2.2.2.2.2.1 bA, cellBelow P0.2.2.2.2.2.2.2.2.2.2.2.2.1 bA, cellBelow P0.2.2.2.2.2.2.2.2.2.2.2.2.2.1 bA, cellBelow P0.2.2.2.2.2.2.2.2.2.2.2.2.2.2 bA⟩
        have B_cp : Hid (Below wc.heap.size wc wA) := Lib.hid ((show Below wc.heap.size wc wc.drew from (Below.refl _ _).drew).trans (bA.mono (show Below wc.heap.size wc wc.drew from (Below.refl _ _).drew).size))
        have HLOW : Hid (∀ g, ofB aA = some g → wc.heap.size ≤ g) := Lib.hid (fun g hg => Nat.le_trans (show Below wc.heap.size wc wc.drew from (Below.refl _ _).drew).size (hoA.ge g hg))
        have OA := Lib.hid hoA.low0
        have HZS := Lib.hid hzs
        have hzl : zs.length = k := by have h1 := congrArg List.length hzs; rw [List.length_map, HXL.out] at h1; exact h1
        have HZL := Lib.hid hzl
        have HCA := Lib.hid hcA
        clear KC hoA hzs hzl bA hcA
        refine hK.out _ _ Q1 (fun _ => ?_)
        clear hK K
        refine GoX.one 3 rfl (by kernel_rfl) (by decide) (fun K hK => ?_)
        rw [if_pos (by rfl)]
        go_simp
        have ba := below_alloc wA (.cells #[.int .i64 0, .int .i64 2, .int .i64 100, .int .i64 101, .string ⟨#[107]⟩, .slice none 0 0, .int .i64 0, .int .i64 0, .string ⟨#[]⟩, .slice a9 on c9, .int .i64 0, .int .i64 0, .int .i64 0, .bool true, .slice none 0 0] ActT)
        have Q3 : (wA.alloc (.cells #[.int .i64 0, .int .i64 2, .int .i64 100, .int .i64 101, .string ⟨#[107]⟩, .slice none 0 0, .int .i64 0, .int .i64 0, .string ⟨#[]⟩, .slice a9 on c9, .int .i64 0, .int .i64 0, .int .i64 0, .bool true, .slice none 0 0] ActT)).cell? ⟨x3.heap.size, 0, none⟩ = some (.int .i64 0) ∧ (wA.alloc (.cells #[.int .i64 0, .int .i64 2, .int .i64 100, .int .i64 101, .string ⟨#[107]⟩, .slice none 0 0, .int .i64 0, .int .i64 0, .string ⟨#[]⟩, .slice a9 on c9, .int .i64 0, .int .i64 0, .int .i64 0, .bool true, .slice none 0 0] ActT)).cell? ⟨x3.heap.size, 1, none⟩ = some (.int .i64 2) ∧ (wA.alloc (.cells #[.int .i64 0, .int .i64 2, .int .i64 100, .int .i64 101, .string ⟨#[107]⟩, .slice none 0 0, .int .i64 0, .int .i64 0, .string ⟨#[]⟩, .slice a9 on c9, .int .i64 0, .int .i64 0, .int .i64 0, .bool true, .slice none 0 0] ActT)).cell? ⟨x3.heap.size, 2, none⟩ = some (.int .i64 100) ∧ (wA.alloc (.cells #[.int .i64 0, .int .i64 2, .int .i64 100, .int .i64 101, .string ⟨#[107]⟩, .slice none 0 0, .int .i64 0, .int .i64 0, .string ⟨#[]⟩, .slice a9 on c9, .int .i64 0, .int .i64 0, .int .i64 0, .bool true, .slice none 0 0] ActT)).cell? ⟨x3.heap.size, 3, none⟩ = some (.int .i64 101) ∧ (wA.alloc (.cells #[.int .i64 0, .int .i64 2, .int .i64 100, .int .i64 101, .string ⟨#[107]⟩, .slice none 0 0, .int .i64 0, .int .i64 0, .string ⟨#[]⟩, .slice a9 on c9, .int .i64 0, .int .i64 0, .int .i64 0, .bool true, .slice none 0 0] ActT)).cell? ⟨x3.heap.size, 4, none⟩ = some (.string ⟨#[107]⟩) ∧ (wA.alloc (.cells #[.int .i64 0, .int .i64 2, .int .i64 100, .int .i64 101, .string ⟨#[107]⟩, .slice none 0 0, .int .i64 0, .int .i64 0, .string ⟨#[]⟩, .slice a9 on c9, .int .i64 0, .int .i64 0, .int .i64 0, .bool true, .slice none 0 0] ActT)).cell? ⟨x3.heap.size, 5, none⟩ = some (.slice none 0 0) ∧ (wA.alloc (.cells #[.int .i64 0, .int .i64 2, .int .i64 100, .int .i64 101, .string ⟨#[107]⟩, .slice none 0 0, .int .i64 0, .int .i64 0, .string ⟨#[]⟩, .slice a9 on c9, .int .i64 0, .int .i64 0, .int .i64 0, .bool true, .slice none 0 0] ActT)).cell? ⟨x3.heap.size, 6, none⟩ = some (.int .i64 0) ∧ (wA.alloc (.cells #[.int .i64 0, .int .i64 2, .int .i64 100, .int .i64 101, .string ⟨#[107]⟩, .slice none 0 0, .int .i64 0, .int .i64 0, .string ⟨#[]⟩, .slice a9 on c9, .int .i64 0, .int .i64 0, .int .i64 0, .bool true, .slice none 0 0] ActT)).cell? ⟨x3.heap.size, 7, none⟩ = some (.int .i64 0) ∧ (wA.alloc (.cells #[.int .i64 0, .int .i64 2, .int .i64 100, .int .i64 101, .string ⟨#[107]⟩, .slice none 0 0, .int .i64 0, .int .i64 0, .string ⟨#[]⟩, .slice a9 on c9, .int .i64 0, .int .i64 0, .int .i64 0, .bool true, .slice none 0 0] ActT)).cell? ⟨x3.heap.size, 8, none⟩ = some (.string ⟨#[]⟩) ∧ (wA.alloc (.cells #[.int .i64 0, .int .i64 2, .int .i64 100, .int .i64 101, .string ⟨#[107]⟩, .slice none 0 0, .int .i64 0, .int .i64 0, .string ⟨#[]⟩, .slice a9 on c9, .int .i64 0, .int .i64 0, .int .i64 0, .bool true, .slice none 0 0] ActT)).cell? ⟨x3.heap.size, 9, none⟩ = some (.slice a9 on c9) ∧ (wA.alloc (.cells #[.int .i64 0, .int .i64 2, .int .i64 100, .int .i64 101, .string ⟨#[107]⟩, .slice none 0 0, .int .i64 0, .int .i64 0, .string ⟨#[]⟩, .slice a9 on c9, .int .i64 0, .int .i64 0, .int .i64 0, .bool true, .slice none 0 0] ActT)).cell? ⟨x3.heap.size, 10, none⟩ = some (.int .i64 0) ∧ (wA.alloc (.cells #[.int .i64 0, .int .i64 2, .int .i64 100, .int .i64 101, .string ⟨#[107]⟩, .slice none 0 0, .int .i64 0, .int .i64 0, .string ⟨#[]⟩, .slice a9 on c9, .int .i64 0, .int .i64 0, .int .i64 0, .bool true, .slice none 0 0] ActT)).cell? ⟨x3.heap.size, 11, none⟩ = some (.int .i64 0) ∧ (wA.alloc (.cells #[.int .i64 0, .int .i64 2, .int .i64 100, .int .i64 101, .string ⟨#[107]⟩, .slice none 0 0, .int .i64 0, .int .i64 0, .string ⟨#[]⟩, .slice a9 on c9, .int .i64 0, .int .i64 0, .int .i64 0, .bool true, .slice none 0 0] ActT)).cell? ⟨x3.heap.size, 12, none⟩ = some (.int .i64 0) ∧ (wA.alloc (.cells #[.int .i64 0, .int .i64 2, .int .i64 100, .int .i64 101, .string ⟨#[107]⟩, .slice none 0 0, .int .i64 0, .int .i64 0, .string ⟨#[]⟩, .slice a9 on c9, .int .i64 0, .int .i64 0, .int .i64 0, .bool true, .slice none 0 0] ActT)).cell? ⟨x3.heap.size, 13, none⟩ = some (.bool true) ∧ (wA.alloc (.cells #[.int .i64 0, .int .i64 2, .int .i64 100, .int .i64 101, .string ⟨#[107]⟩, .slice none 0 0, .int .i64 0, .int .i64 0, .string ⟨#[]⟩, .slice a9 on c9, .int .i64 0, .int .i64 0, .int .i64 0, .bool true, .slice none 0 0] ActT)).cell? ⟨x3.heap.size, 14, none⟩ = some (.slice none 0 0) := ⟨cellBelow Q1.1 ba, cellBelow Q1.2.1 ba, cellBelow Q1.2.2.1 ba, cellBelow Q1.2.2.2.1 ba, cellBelow Q1.2.2.2.2.1 ba, cellBelow Q1.2.2.2.2.2.1 ba, cellBelow Q1.2.2.2.2.2.2.1 ba, cellBelow Q1.2.2.2.2.2.2.2.1 ba, cellBelow Q1.2.2.2.2.2.2.2.2.1 ba, cellBelow Q1.2.2.2.2.2.2.2.2.2.1 ba, cellBelow Q1.2.2.2.2.2.2.2.2.2.2.1 ba, cellBelow Q1.2.2.2.2.2.2.2.2.2.2.2.1 ba, cellBelow Q1.2.2.2.2.2.2.2.2.2.2.2.2.1 ba, cellBelow Q1.2.2.2.2.2.2.2.2.2.2.2.2.2.1 ba, cellBelow Q1.2.2.2.2.2.2.2.2.2.2.2.2.2.2 ba⟩
        have B_al : Hid (Below wc.heap.size wc (wA.alloc (.cells #[.int .i64 0, .int .i64 2, .int .i64 100, .int .i64 101, .string ⟨#[107]⟩, .slice none 0 0, .int .i64 0, .int .i64 0, .string ⟨#[]⟩, .slice a9 on c9, .int .i64 0, .int .i64 0, .int .i64 0, .bool true, .slice none 0 0] ActT))) := Lib.hid (B_cp.out.trans (ba.mono B_cp.out.size))
        have SRC : Hid ((wA.alloc (.cells #[.int .i64 0, .int .i64 2, .int .i64 100, .int .i64 101, .string ⟨#[107]⟩, .slice none 0 0, .int .i64 0, .int .i64 0, .string ⟨#[]⟩, .slice a9 on c9, .int .i64 0, .int .i64 0, .int .i64 0, .bool true, .slice none 0 0] ActT)).heap[wA.heap.size]? = some (.cells #[.int .i64 0, .int .i64 2, .int .i64 100, .int .i64 101, .string ⟨#[107]⟩, .slice none 0 0, .int .i64 0, .int .i64 0, .string ⟨#[]⟩, .slice a9 on c9, .int .i64 0, .int .i64 0, .int .i64 0, .bool true, .slice none 0 0] ActT (0, 0))) := Lib.hid (heap_alloc_new wA _)
        have OB := Lib.hid (OA.out.below ba)
        have B8 := B_al
        clear ba
        refine hK.out _ _ Q3 (fun _ => ?_)
        clear hK K
        refine GoX.one 4 rfl (by kernel_rfl) (by decide) (fun K hK => ?_)
        have OBo := OB.out.own
        rw [HZL.out] at OBo
        refine step_append_lies _ rfl (.tmp 100) (.tmp 102) 22 rfl 0 ActT i0 (.agg #[.int .i64 0, .int .i64 0, .int .i64 0, .int .i64 0, .string ⟨#[]⟩, .slice none 0 0, .int .i64 0, .int .i64 0, .string ⟨#[]⟩, .slice none 0 0, .int .i64 0, .int .i64 0, .int .i64 0, .bool false, .slice none 0 0]) 15 184 Try.underlying22 hi hz0 hz1 hz2 rfl (by decide) (.slice aA k cA) k (acells zs) (by rfl) OBo ⟨wA.heap.size, 0, none⟩ 1 1 [.int .i64 0, .int .i64 2, .int .i64 100, .int .i64 101, .string ⟨#[107]⟩, .slice none 0 0, .int .i64 0, .int .i64 0, .string ⟨#[]⟩, .slice a9 on c9, .int .i64 0, .int .i64 0, .int .i64 0, .bool true, .slice none 0 0] (by rfl) (by rfl) (World.news_of_block SRC.out) (by intro u hu; simp at hu; rcases hu with rfl | rfl | rfl | rfl | rfl | rfl | rfl | rfl | rfl | rfl | rfl | rfl | rfl | rfl | rfl <;> rfl) (by decide) (by simp [maxLen]; omega) (by omega) (Nat.zero_le _) _ rfl ?_
        intro g9 cF wF hE9 g9' lie9 _
        have gg : (wA.alloc (.cells #[.int .i64 0, .int .i64 2, .int .i64 100, .int .i64 101, .string ⟨#[107]⟩, .slice none 0 0, .int .i64 0, .int .i64 0, .string ⟨#[]⟩, .slice a9 on c9, .int .i64 0, .int .i64 0, .int .i64 0, .bool true, .slice none 0 0] ActT)).grownBy wF (Value.slice aA k cA).ownBlock := ⟨g9'.os, g9'.tape, g9'.output, g9'.size, g9'.block⟩
        have SE8 := SE5.out.below B8.out
        have hfar : Far aA (a9, on, c9) := far_low (fun h0 p hp => SE5.out.r.row.lt h0 hp) HLOW.out
        have hOF := OB.out.snocV SE8 (fun h0 => absurd h0 (Nat.lt_irrefl _)) hfar (fun h0 => absurd h0 (Nat.lt_irrefl _)) HZL.out HZS.out hE9 gg lie9
        have HAF := Lib.hid hOF.1
        have HCF := Lib.hid hOF.2
        have bxF := (gg.block x3.heap.size (Nat.lt_of_lt_of_le XL.out B8.out.size) (fun e => by rw [ofB_eq] at e; have h1 := HLOW.out _ e.symm; have h2 := XL.out; omega)).trans ((B8.out.block _ XL.out).trans XE0.out)
        have Q4 : wF.cell? ⟨x3.heap.size, 0, none⟩ = some (.int .i64 0) ∧ wF.cell? ⟨x3.heap.size, 1, none⟩ = some (.int .i64 2) ∧ wF.cell? ⟨x3.heap.size, 2, none⟩ = some (.int .i64 100) ∧ wF.cell? ⟨x3.heap.size, 3, none⟩ = some (.int .i64 101) ∧ wF.cell? ⟨x3.heap.size, 4, none⟩ = some (.string ⟨#[107]⟩) ∧ wF.cell? ⟨x3.heap.size, 5, none⟩ = some (.slice none 0 0) ∧ wF.cell? ⟨x3.heap.size, 6, none⟩ = some (.int .i64 0) ∧ wF.cell? ⟨x3.heap.size, 7, none⟩ = some (.int .i64 0) ∧ wF.cell? ⟨x3.heap.size, 8, none⟩ = some (.string ⟨#[]⟩) ∧ wF.cell? ⟨x3.heap.size, 9, none⟩ = some (.slice a9 on c9) ∧ wF.cell? ⟨x3.heap.size, 10, none⟩ = some (.int .i64 0) ∧ wF.cell? ⟨x3.heap.size, 11, none⟩ = some (.int .i64 0) ∧ wF.cell? ⟨x3.heap.size, 12, none⟩ = some (.int .i64 0) ∧ wF.cell? ⟨x3.heap.size, 13, none⟩ = some (.bool true) ∧ wF.cell? ⟨x3.heap.size, 14, none⟩ = some (.slice none 0 0) := by
          obtain ⟨e0, e1, e2, e3, e4, e5, e6, e7, e8, e9, ea, eb, ec, ed, ee, -⟩ := cells15 bxF
          exact ⟨e0, e1, e2, e3, e4, e5, e6, e7, e8, e9, ea, eb, ec, ed, ee⟩
        have HBF : Hid (Below wc.heap.size wc wF) := Lib.hid (by rw [ofB_eq] at gg; exact B8.out.grown gg B8.out.size HLOW.out)
        clear OBo hE9 g9' lie9 gg SE8 hfar hOF bxF
        refine hK.out _ _ Q4 (fun _ => ?_)
        clear hK K
        refine GoX.one 5 rfl (by kernel_rfl) (by decide) (fun K hK => ?_)
        rw [if_pos (by rfl)]
        go_simp
        have KW := whole_any (some ⟨g9, 0, none⟩) (k + 1) cF (xs ++ [endA ot]) wF HAF.out HCF.out (by omega) (fun b hb => by rcases List.mem_append.1 hb with hb | hb; exact HKO.out b hb; rw [List.mem_singleton] at hb; subst hb; exact (show kK.size ≤ 140737488355328 by decide))
        rw [HW3.out] at KW
        (with_reducible refine KW.mono ?_)
        rintro e wG ⟨rfl, bG⟩
        have Q5 : wG.cell? ⟨x3.heap.size, 0, none⟩ = some (.int .i64 0) ∧ wG.cell? ⟨x3.heap.size, 1, none⟩ = some (.int .i64 2) ∧ wG.cell? ⟨x3.heap.size, 2, none⟩ = some (.int .i64 100) ∧ wG.cell? ⟨x3.heap.size, 3, none⟩ = some (.int .i64 101) ∧ wG.cell? ⟨x3.heap.size, 4, none⟩ = some (.string ⟨#[107]⟩) ∧ wG.cell? ⟨x3.heap.size, 5, none⟩ = some (.slice none 0 0) ∧ wG.cell? ⟨x3.heap.size, 6, none⟩ = some (.int .i64 0) ∧ wG.cell? ⟨x3.heap.size, 7, none⟩ = some (.int .i64 0) ∧ wG.cell? ⟨x3.heap.size, 8, none⟩ = some (.string ⟨#[]⟩) ∧ wG.cell? ⟨x3.heap.size, 9, none⟩ = some (.slice a9 on c9) ∧ wG.cell? ⟨x3.heap.size, 10, none⟩ = some (.int .i64 0) ∧ wG.cell? ⟨x3.heap.size, 11, none⟩ = some (.int .i64 0) ∧ wG.cell? ⟨x3.heap.size, 12, none⟩ = some (.int .i64 0) ∧ wG.cell? ⟨x3.heap.size, 13, none⟩ = some (.bool true) ∧ wG.cell? ⟨x3.heap.size, 14, none⟩ = some (.slice none 0 0) := ⟨cellBelow Q4.1 bG, cellBelow Q4.2.1 bG, cellBelow Q4.2.2.1 bG, cellBelow Q4.2.2.2.1 bG, cellBelow Q4.2.2.2.2.1 bG, cellBelow Q4.2.2.2.2.2.1 bG, cellBelow Q4.2.2.2.2.2.2.1 bG, cellBelow Q4.2.2.2.2.2.2.2.1 bG, cellBelow Q4.2.2.2.2.2.2.2.2.1 bG, cellBelow Q4.2.2.2.2.2.2.2.2.2.1 bG, cellBelow Q4.2.2.2.2.2.2.2.2.2.2.1 bG, cellBelow Q4.2.2.2.2.2.2.2.2.2.2.2.1 bG, cellBelow Q4.2.2.2.2.2.2.2.2.2.2.2.2.1 bG, cellBelow Q4.2.2.2.2.2.2.2.2.2.2.2.2.2.1 bG, cellBelow Q4.2.2.2.2.2.2.2.2.2.2.2.2.2.2 bG⟩
        have HBG := Lib.hid (HBF.out.trans (bG.mono HBF.out.size))
        clear KW bG
        refine hK.out _ _ Q5 (fun _ => ?_)
        clear hK K
        refine GoX.take 7 rfl (by kernel_rfl) (by kernel_rfl) (by rfl) (fun _ _ _ h => h) (v := ?tv7g43) Q5 ?ty7g43 ?tr7g43
        case ty7g43 => (intro w hSw; (try dsimp only at hSw); go_simp; first | done | with_reducible rfl)
        simp only [Act.put, List.setIfInBounds_toArray, List.set_cons_zero, List.set_cons_succ]
        refine GoX.last 8 rfl (by kernel_rfl) (by kernel_rfl) (by decide) ?_
        go_wp2
        go_ret
        exact ⟨by simp, B1.out.trans ((Y5.out.trans (HBG.out.mono Y5.out.size)).mono B1.out.size)⟩
      · rw [if_pos (by rfl)]
        go_simp
        have ba := below_alloc wc.drew (.cells #[.int .i64 0, .int .i64 2, .int .i64 100, .int .i64 101, .string ⟨#[107]⟩, .slice none 0 0, .int .i64 0, .int .i64 0, .string ⟨#[]⟩, .slice a9 on c9, .int .i64 0, .int .i64 0, .int .i64 0, .bool true, .slice none 0 0] ActT)
        have Q3 : (wc.drew.alloc (.cells #[.int .i64 0, .int .i64 2, .int .i64 100, .int .i64 101, .string ⟨#[107]⟩, .slice none 0 0, .int .i64 0, .int .i64 0, .string ⟨#[]⟩, .slice a9 on c9, .int .i64 0, .int .i64 0, .int .i64 0, .bool true, .slice none 0 0] ActT)).cell? ⟨x3.heap.size, 0, none⟩ = some (.int .i64 0) ∧ (wc.drew.alloc (.cells #[.int .i64 0, .int .i64 2, .int .i64 100, .int .i64 101, .string ⟨#[107]⟩, .slice none 0 0, .int .i64 0, .int .i64 0, .string ⟨#[]⟩, .slice a9 on c9, .int .i64 0, .int .i64 0, .int .i64 0, .bool true, .slice none 0 0] ActT)).cell? ⟨x3.heap.size, 1, none⟩ = some (.int .i64 2) ∧ (wc.drew.alloc (.cells #[.int .i64 0, .int .i64 2, .int .i64 100, .int .i64 101, .string ⟨#[107]⟩, .slice none 0 0, .int .i64 0, .int .i64 0, .string ⟨#[]⟩, .slice a9 on c9, .int .i64 0, .int .i64 0, .int .i64 0, .bool true, .slice none 0 0] ActT)).cell? ⟨x3.heap.size, 2, none⟩ = some (.int .i64 100) ∧ (wc.drew.alloc (.cells #[.int .i64 0, .int .i64 2, .int .i64 100, .int .i64 101, .string ⟨#[107]⟩, .slice none 0 0, .int .i64 0, .int .i64 0, .string ⟨#[]⟩, .slice a9 on c9, .int .i64 0, .int .i64 0, .int .i64 0, .bool true, .slice none 0 0] ActT)).cell? ⟨x3.heap.size, 3, none⟩ = some (.int .i64 101) ∧ (wc.drew.alloc (.cells #[.int .i64 0, .int .i64 2, .int .i64 100, .int .i64 101, .string ⟨#[107]⟩, .slice none 0 0, .int .i64 0, .int .i64 0, .string ⟨#[]⟩, .slice a9 on c9, .int .i64 0, .int .i64 0, .int .i64 0, .bool true, .slice none 0 0] ActT)).cell? ⟨x3.heap.size, 4, none⟩ = some (.string ⟨#[107]⟩) ∧ (wc.drew.alloc (.cells #[.int .i64 0, .int .i64 2, .int .i64 100, .int .i64 101, .string ⟨#[107]⟩, .slice none 0 0, .int .i64 0, .int .i64 0, .string ⟨#[]⟩, .slice a9 on c9, .int .i64 0, .int .i64 0, .int .i64 0, .bool true, .slice none 0 0] ActT)).cell? ⟨x3.heap.size, 5, none⟩ = some (.slice none 0 0) ∧ (wc.drew.alloc (.cells #[.int .i64 0, .int .i64 2, .int .i64 100, .int .i64 101, .string ⟨#[107]⟩, .slice none 0 0, .int .i64 0, .int .i64 0, .string ⟨#[]⟩, .slice a9 on c9, .int .i64 0, .int .i64 0, .int .i64 0, .bool true, .slice none 0 0] ActT)).cell? ⟨x3.heap.size, 6, none⟩ = some (.int .i64 0) ∧ (wc.drew.alloc (.cells #[.int .i64 0, .int .i64 2, .int .i64 100, .int .i64 101, .string ⟨#[107]⟩, .slice none 0 0, .int .i64 0, .int .i64 0, .string ⟨#[]⟩, .slice a9 on c9, .int .i64 0, .int .i64 0, .int .i64 0, .bool true, .slice none 0 0] ActT)).cell? ⟨x3.heap.size, 7, none⟩ = some (.int .i64 0) ∧ (wc.drew.alloc (.cells #[.int .i64 0, .int .i64 2, .int .i64 100, .int .i64 101, .string ⟨#[107]⟩, .slice none 0 0, .int .i64 0, .int .i64 0, .string ⟨#[]⟩, .slice a9 on c9, .int .i64 0, .int .i64 0, .int .i64 0, .bool true, .slice none 0 0] ActT)).cell? ⟨x3.heap.size, 8, none⟩ = some (.string ⟨#[]⟩) ∧ (wc.drew.alloc (.cells #[.int .i64 0, .int .i64 2, .int .i64 100, .int .i64 101, .string ⟨#[107]⟩, .slice none 0 0, .int .i64 0, .int .i64 0, .string ⟨#[]⟩, .slice a9 on c9, .int .i64 0, .int .i64 0, .int .i64 0, .bool true, .slice none 0 0] ActT)).cell? ⟨x3.heap.size, 9, none⟩ = some (.slice a9 on c9) ∧ (wc.drew.alloc (.cells #[.int .i64 0, .int .i64 2, .int .i64 100, .int .i64 101, .string ⟨#[107]⟩, .slice none 0 0, .int .i64 0, .int .i64 0, .string ⟨#[]⟩, .slice a9 on c9, .int .i64 0, .int .i64 0, .int .i64 0, .bool true, .slice none 0 0] ActT)).cell? ⟨x3.heap.size, 10, none⟩ = some (.int .i64 0) ∧ (wc.drew.alloc (.cells #[.int .i64 0, .int .i64 2, .int .i64 100, .int .i64 101, .string ⟨#[107]⟩, .slice none 0 0, .int .i64 0, .int .i64 0, .string ⟨#[]⟩, .slice a9 on c9, .int .i64 0, .int .i64 0, .int .i64 0, .bool true, .slice none 0 0] ActT)).cell? ⟨x3.heap.size, 11, none⟩ = some (.int .i64 0) ∧ (wc.drew.alloc (.cells #[.int .i64 0, .int .i64 2, .int .i64 100, .int .i64 101, .string ⟨#[107]⟩, .slice none 0 0, .int .i64 0, .int .i64 0, .string ⟨#[]⟩, .slice a9 on c9, .int .i64 0, .int .i64 0, .int .i64 0, .bool true, .slice none 0 0] ActT)).cell? ⟨x3.heap.size, 12, none⟩ = some (.int .i64 0) ∧ (wc.drew.alloc (.cells #[.int .i64 0, .int .i64 2, .int .i64 100, .int .i64 101, .string ⟨#[107]⟩, .slice none 0 0, .int .i64 0, .int .i64 0, .string ⟨#[]⟩, .slice a9 on c9, .int .i64 0, .int .i64 0, .int .i64 0, .bool true, .slice none 0 0] ActT)).cell? ⟨x3.heap.size, 13, none⟩ = some (.bool true) ∧ (wc.drew.alloc (.cells #[.int .i64 0, .int .i64 2, .int .i64 100, .int .i64 101, .string ⟨#[107]⟩, .slice none 0 0, .int .i64 0, .int .i64 0, .string ⟨#[]⟩, .slice a9 on c9, .int .i64 0, .int .i64 0, .int .i64 0, .bool true, .slice none 0 0] ActT)).cell? ⟨x3.heap.size, 14, none⟩ = some (.slice none 0 0) := ⟨cellBelow P0.1 ba, cellBelow P0.2.1 ba, cellBelow P0.2.2.1 ba, cellBelow P0.2.2.2.1 ba, cellBelow P0.2.2.2.2.1 ba, cellBelow P0.2.2.2.2.2.1 ba, cellBelow P0.2.2.2.2.2.2.1 ba, cellBelow P0.2.2.2.2.2.2.2.1 ba, cellBelow P0.2.2.2.2.2.2.2.2.1 ba, cellBelow P0.2.2.2.2.2.2.2.2.2.1 ba, cellBelow P0.2.2.2.2.2.2.2.2.2.2.1 ba, cellBelow P0.2.2.2.2.2.2.2.2.2.2.2.1 ba, cellBelow P0.2.2.2.2.2.2.2.2.2.2.2.2.1 ba, cellBelow P0.2.2.2.2.2.2.2.2.2.2.2.2.2.1 ba, cellBelow P0.2.2.2.2.2.2.2.2.2.2.2.2.2.2 ba⟩
        have B_al : Hid (Below wc.heap.size wc (wc.drew.alloc (.cells #[.int .i64 0, .int .i64 2, .int .i64 100, .int .i64 101, .string ⟨#[107]⟩, .slice none 0 0, .int .i64 0, .int .i64 0, .string ⟨#[]⟩, .slice a9 on c9, .int .i64 0, .int .i64 0, .int .i64 0, .bool true, .slice none 0 0] ActT))) := Lib.hid ((show Below wc.heap.size wc wc.drew from (Below.refl _ _).drew).trans (ba.mono (show Below wc.heap.size wc wc.drew from (Below.refl _ _).drew).size))
        clear ba
        refine hK.out _ _ Q3 (fun _ => ?_)
        clear hK K
        refine GoX.one 1 rfl (by kernel_rfl) (by decide) (fun K hK => ?_)
        rw [if_pos (by rfl)]
        go_simp
        have B_al2 : Hid (Below wc.heap.size wc ((wc.alloc (.cells #[.int .i64 0, .int .i64 2, .int .i64 100, .int .i64 101, .string ⟨#[107]⟩, .slice none 0 0, .int .i64 0, .int .i64 0, .string ⟨#[]⟩, .slice a9 on c9, .int .i64 0, .int .i64 0, .int .i64 0, .bool true, .slice none 0 0] ActT)).drew)) := Lib.hid (show Below wc.heap.size wc ((wc.alloc (.cells #[.int .i64 0, .int .i64 2, .int .i64 100, .int .i64 101, .string ⟨#[107]⟩, .slice none 0 0, .int .i64 0, .int .i64 0, .string ⟨#[]⟩, .slice a9 on c9, .int .i64 0, .int .i64 0, .int .i64 0, .bool true, .slice none 0 0] ActT)).drew) from B_al.out)
        have Q32 : ((wc.alloc (.cells #[.int .i64 0, .int .i64 2, .int .i64 100, .int .i64 101, .string ⟨#[107]⟩, .slice none 0 0, .int .i64 0, .int .i64 0, .string ⟨#[]⟩, .slice a9 on c9, .int .i64 0, .int .i64 0, .int .i64 0, .bool true, .slice none 0 0] ActT)).drew).cell? ⟨x3.heap.size, 0, none⟩ = some (.int .i64 0) ∧ ((wc.alloc (.cells #[.int .i64 0, .int .i64 2, .int .i64 100, .int .i64 101, .string ⟨#[107]⟩, .slice none 0 0, .int .i64 0, .int .i64 0, .string ⟨#[]⟩, .slice a9 on c9, .int .i64 0, .int .i64 0, .int .i64 0, .bool true, .slice none 0 0] ActT)).drew).cell? ⟨x3.heap.size, 1, none⟩ = some (.int .i64 2) ∧ ((wc.alloc (.cells #[.int .i64 0, .int .i64 2, .int .i64 100, .int .i64 101, .string ⟨#[107]⟩, .slice none 0 0, .int .i64 0, .int .i64 0, .string ⟨#[]⟩, .slice a9 on c9, .int .i64 0, .int .i64 0, .int .i64 0, .bool true, .slice none 0 0] ActT)).drew).cell? ⟨x3.heap.size, 2, none⟩ = some (.int .i64 100) ∧ ((wc.alloc (.cells #[.int .i64 0, .int .i64 2, .int .i64 100, .int .i64 101, .string ⟨#[107]⟩, .slice none 0 0, .int .i64 0, .int .i64 0, .string ⟨#[]⟩, .slice a9 on c9, .int .i64 0, .int .i64 0, .int .i64 0, .bool true, .slice none 0 0] ActT)).drew).cell? ⟨x3.heap.size, 3, none⟩ = some (.int .i64 101) ∧ ((wc.alloc (.cells #[.int .i64 0, .int .i64 2, .int .i64 100, .int .i64 101, .string ⟨#[107]⟩, .slice none 0 0, .int .i64 0, .int .i64 0, .string ⟨#[]⟩, .slice a9 on c9, .int .i64 0, .int .i64 0, .int .i64 0, .bool true, .slice none 0 0] ActT)).drew).cell? ⟨x3.heap.size, 4, none⟩ = some (.string ⟨#[107]⟩) ∧ ((wc.alloc (.cells #[.int .i64 0, .int .i64 2, .int .i64 100, .int .i64 101, .string ⟨#[107]⟩, .slice none 0 0, .int .i64 0, .int .i64 0, .string ⟨#[]⟩, .slice a9 on c9, .int .i64 0, .int .i64 0, .int .i64 0, .bool true, .slice none 0 0] ActT)).drew).cell? ⟨x3.heap.size, 5, none⟩ = some (.slice none 0 0) ∧ ((wc.alloc (.cells #[.int .i64 0, .int .i64 2, .int .i64 100, .int .i64 101, .string ⟨#[107]⟩, .slice none 0 0, .int .i64 0, .int .i64 0, .string ⟨#[]⟩, .slice a9 on c9, .int .i64 0, .int .i64 0, .int .i64 0, .bool true, .slice none 0 0] ActT)).drew).cell? ⟨x3.heap.size, 6, none⟩ = some (.int .i64 0) ∧ ((wc.alloc (.cells #[.int .i64 0, .int .i64 2, .int .i64 100, .int .i64 101, .string ⟨#[107]⟩, .slice none 0 0, .int .i64 0, .int .i64 0, .string ⟨#[]⟩, .slice a9 on c9, .int .i64 0, .int .i64 0, .int .i64 0, .bool true, .slice none 0 0] ActT)).drew).cell? ⟨x3.heap.size, 7, none⟩ = some (.int .i64 0) ∧ ((wc.alloc (.cells #[.int .i64 0, .int .i64 2, .int .i64 100, .int .i64 101, .string ⟨#[107]⟩, .slice none 0 0, .int .i64 0, .int .i64 0, .string ⟨#[]⟩, .slice a9 on c9, .int .i64 0, .int .i64 0, .int .i64 0, .bool true, .slice none 0 0] ActT)).drew).cell? ⟨x3.heap.size, 8, none⟩ = some (.string ⟨#[]⟩) ∧ ((wc.alloc (.cells #[.int .i64 0, .int .i64 2, .int .i64 100, .int .i64 101, .string ⟨#[107]⟩, .slice none 0 0, .int .i64 0, .int .i64 0, .string ⟨#[]⟩, .slice a9 on c9, .int .i64 0, .int .i64 0, .int .i64 0, .bool true, .slice none 0 0] ActT)).drew).cell? ⟨x3.heap.size, 9, none⟩ = some (.slice a9 on c9) ∧ ((wc.alloc (.cells #[.int .i64 0, .int .i64 2, .int .i64 100, .int .i64 101, .string ⟨#[107]⟩, .slice none 0 0, .int .i64 0, .int .i64 0, .string ⟨#[]⟩, .slice a9 on c9, .int .i64 0, .int .i64 0, .int .i64 0, .bool true, .slice none 0 0] ActT)).drew).cell? ⟨x3.heap.size, 10, none⟩ = some (.int .i64 0) ∧ ((wc.alloc (.cells #[.int .i64 0, .int .i64 2, .int .i64 100, .int .i64 101, .string ⟨#[107]⟩, .slice none 0 0, .int .i64 0, .int .i64 0, .string ⟨#[]⟩, .slice a9 on c9, .int .i64 0, .int .i64 0, .int .i64 0, .bool true, .slice none 0 0] ActT)).drew).cell? ⟨x3.heap.size, 11, none⟩ = some (.int .i64 0) ∧ ((wc.alloc (.cells #[.int .i64 0, .int .i64 2, .int .i64 100, .int .i64 101, .string ⟨#[107]⟩, .slice none 0 0, .int .i64 0, .int .i64 0, .string ⟨#[]⟩, .slice a9 on c9, .int .i64 0, .int .i64 0, .int .i64 0, .bool true, .slice none 0 0] ActT)).drew).cell? ⟨x3.heap.size, 12, none⟩ = some (.int .i64 0) ∧ ((wc.alloc (.cells #[.int .i64 0, .int .i64 2, .int .i64 100, .int .i64 101, .string ⟨#[107]⟩, .slice none 0 0, .int .i64 0, .int .i64 0, .string ⟨#[]⟩, .slice a9 on c9, .int .i64 0, .int .i64 0, .int .i64 0, .bool true, .slice none 0 0] ActT)).drew).cell? ⟨x3.heap.size, 13, none⟩ = some (.bool true) ∧ ((wc.alloc (.cells #[.int .i64 0, .int .i64 2, .int .i64 100, .int .i64 101, .string ⟨#[107]⟩, .slice none 0 0, .int .i64 0, .int .i64 0, .string ⟨#[]⟩, .slice a9 on c9, .int .i64 0, .int .i64 0, .int .i64 0, .bool true, .slice none 0 0] ActT)).drew).cell? ⟨x3.heap.size, 14, none⟩ = some (.slice none 0 0) := Q3
        have KC := copyActs_any av k cv xs ((wc.alloc (.cells #[.int .i64 0, .int .i64 2, .int .i64 100, .int .i64 101, .string ⟨#[107]⟩, .slice none 0 0, .int .i64 0, .int .i64 0, .string ⟨#[]⟩, .slice a9 on c9, .int .i64 0, .int .i64 0, .int .i64 0, .bool true, .slice none 0 0] ActT)).drew) (HA5.out.below B_al2.out) HKC.out (by omega)
        unfold GivesActs at KC
        rw [HXL.out] at KC
        (with_reducible refine KC.mono ?_)
        rintro e wA ⟨aA, cA, zs, rfl, hzs, hoA, bA, hcA⟩
        have Q1 : wA.cell? ⟨x3.heap.size, 0, none⟩ = some (.int .i64 0) ∧ wA.cell? ⟨x3.heap.size, 1, none⟩ = some (.int .i64 2) ∧ wA.cell? ⟨x3.heap.size, 2, none⟩ = some (.int .i64 100) ∧ wA.cell? ⟨x3.heap.size, 3, none⟩ = some (.int .i64 101) ∧ wA.cell? ⟨x3.heap.size, 4, none⟩ = some (.string ⟨#[107]⟩) ∧ wA.cell? ⟨x3.heap.size, 5, none⟩ = some (.slice none 0 0) ∧ wA.cell? ⟨x3.heap.size, 6, none⟩ = some (.int .i64 0) ∧ wA.cell? ⟨x3.heap.size, 7, none⟩ = some (.int .i64 0) ∧ wA.cell? ⟨x3.heap.size, 8, none⟩ = some (.string ⟨#[]⟩) ∧ wA.cell? ⟨x3.heap.size, 9, none⟩ = some (.slice a9 on c9) ∧ wA.cell? ⟨x3.heap.size, 10, none⟩ = some (.int .i64 0) ∧ wA.cell? ⟨x3.heap.size, 11, none⟩ = some (.int .i64 0) ∧ wA.cell? ⟨x3.heap.size, 12, none⟩ = some (.int .i64 0) ∧ wA.cell? ⟨x3.heap.size, 13, none⟩ = some (.bool true) ∧ wA.cell? ⟨x3.heap.size, 14, none⟩ = some (.slice none 0 0) := ⟨cellBelow Q32.1 bA, cellBelow Q32.2.1 bA, cellBelow Q32.2.2.1 bA, cellBelow Q32.2.2.2.1 bA, cellBelow Q32.2.2.2.2.1 bA, cellBelow Q32.2.2.2.2.2.1 bA, cellBelow Q32.2.2.2.2.2.2.1 bA, cellBelow Q32.2.2.2.2.2.2.2.1 bA, cellBelow Q32.2.2.2.2.2.2.2.2.1 bA, cellBelow Q32.2.2.2.2.2.2.2.2.2.1 bA, cellBelow Q32.2.2.2.2.2.2.2.2.2.2.1 bA, cellBelow Q32.2.2.2.2.2.2.2.2.2.2.2.1 bA, cellBelow Q32.2.2.2.2.2.2.2.2.2.2.2.2.1 bA, cellBelow Q32.2.2.2.2.2.2.2.2.2.2.2.2.2.1 bA, cellBelow Q32.2.2.2.2.2.2.2.2.2.2.2.2.2.2 bA⟩
        have B_cp : Hid (Below wc.heap.size wc wA) := Lib.hid (B_al2.out.trans (bA.mono B_al2.out.size))
        have HLOW : Hid (∀ g, ofB aA = some g → wc.heap.size ≤ g) := Lib.hid (fun g hg => Nat.le_trans B_al2.out.size (hoA.ge g hg))
        have OA := Lib.hid hoA.low0
        have HZS := Lib.hid hzs
        have hzl : zs.length = k := by have h1 := congrArg List.length hzs; rw [List.length_map, HXL.out] at h1; exact h1
        have HZL := Lib.hid hzl
        have HCA := Lib.hid hcA
        have SRC : Hid (wA.heap[wc.heap.size]? = some (.cells #[.int .i64 0, .int .i64 2, .int .i64 100, .int .i64 101, .string ⟨#[107]⟩, .slice none 0 0, .int .i64 0, .int .i64 0, .string ⟨#[]⟩, .slice a9 on c9, .int .i64 0, .int .i64 0, .int .i64 0, .bool true, .slice none 0 0] ActT (0, 0))) := Lib.hid ((bA.block _ (by simp)).trans (heap_alloc_new wc.drew _))
        have OB := OA
        have B8 := B_cp
        clear KC hoA hzs hzl bA hcA
        refine hK.out _ _ Q1 (fun _ => ?_)
        clear hK K
        refine GoX.one 4 rfl (by kernel_rfl) (by decide) (fun K hK => ?_)
        have OBo := OB.out.own
        rw [HZL.out] at OBo
        refine step_append_lies _ rfl (.tmp 100) (.tmp 102) 22 rfl 0 ActT i0 (.agg #[.int .i64 0, .int .i64 0, .int .i64 0, .int .i64 0, .string ⟨#[]⟩, .slice none 0 0, .int .i64 0, .int .i64 0, .string ⟨#[]⟩, .slice none 0 0, .int .i64 0, .int .i64 0, .int .i64 0, .bool false, .slice none 0 0]) 15 184 Try.underlying22 hi hz0 hz1 hz2 rfl (by decide) (.slice aA k cA) k (acells zs) (by rfl) OBo ⟨wc.heap.size, 0, none⟩ 1 1 [.int .i64 0, .int .i64 2, .int .i64 100, .int .i64 101, .string ⟨#[107]⟩, .slice none 0 0, .int .i64 0, .int .i64 0, .string ⟨#[]⟩, .slice a9 on c9, .int .i64 0, .int .i64 0, .int .i64 0, .bool true, .slice none 0 0] (by rfl) (by rfl) (World.news_of_block SRC.out) (by intro u hu; simp at hu; rcases hu with rfl | rfl | rfl | rfl | rfl | rfl | rfl | rfl | rfl | rfl | rfl | rfl | rfl | rfl | rfl <;> rfl) (by decide) (by simp [maxLen]; omega) (by omega) (Nat.zero_le _) _ rfl ?_
        intro g9 cF wF hE9 g9' lie9 _
        have gg : wA.grownBy wF (Value.slice aA k cA).ownBlock := ⟨g9'.os, g9'.tape, g9'.output, g9'.size, g9'.block⟩
        have SE8 := SE5.out.below B8.out
        have hfar : Far aA (a9, on, c9) := far_low (fun h0 p hp => SE5.out.r.row.lt h0 hp) HLOW.out
        have hOF := OB.out.snocV SE8 (fun h0 => absurd h0 (Nat.lt_irrefl _)) hfar (fun h0 => absurd h0 (Nat.lt_irrefl _)) HZL.out HZS.out hE9 gg lie9
        have HAF := Lib.hid hOF.1
        have HCF := Lib.hid hOF.2
        have bxF := (gg.block x3.heap.size (Nat.lt_of_lt_of_le XL.out B8.out.size) (fun e => by rw [ofB_eq] at e; have h1 := HLOW.out _ e.symm; have h2 := XL.out; omega)).trans ((B8.out.block _ XL.out).trans XE0.out)
        have Q4 : wF.cell? ⟨x3.heap.size, 0, none⟩ = some (.int .i64 0) ∧ wF.cell? ⟨x3.heap.size, 1, none⟩ = some (.int .i64 2) ∧ wF.cell? ⟨x3.heap.size, 2, none⟩ = some (.int .i64 100) ∧ wF.cell? ⟨x3.heap.size, 3, none⟩ = some (.int .i64 101) ∧ wF.cell? ⟨x3.heap.size, 4, none⟩ = some (.string ⟨#[107]⟩) ∧ wF.cell? ⟨x3.heap.size, 5, none⟩ = some (.slice none 0 0) ∧ wF.cell? ⟨x3.heap.size, 6, none⟩ = some (.int .i64 0) ∧ wF.cell? ⟨x3.heap.size, 7, none⟩ = some (.int .i64 0) ∧ wF.cell? ⟨x3.heap.size, 8, none⟩ = some (.string ⟨#[]⟩) ∧ wF.cell? ⟨x3.heap.size, 9, none⟩ = some (.slice a9 on c9) ∧ wF.cell? ⟨x3.heap.size, 10, none⟩ = some (.int .i64 0) ∧ wF.cell? ⟨x3.heap.size, 11, none⟩ = some (.int .i64 0) ∧ wF.cell? ⟨x3.heap.size, 12, none⟩ = some (.int .i64 0) ∧ wF.cell? ⟨x3.heap.size, 13, none⟩ = some (.bool true) ∧ wF.cell? ⟨x3.heap.size, 14, none⟩ = some (.slice none 0 0) := by
          obtain ⟨e0, e1, e2, e3, e4, e5, e6, e7, e8, e9, ea, eb, ec, ed, ee, -⟩ := cells15 bxF
          exact ⟨e0, e1, e2, e3, e4, e5, e6, e7, e8, e9, ea, eb, ec, ed, ee⟩
        have HBF : Hid (Below wc.heap.size wc wF) := Lib.hid (by rw [ofB_eq] at gg; exact B8.out.grown gg B8.out.size HLOW.out)
        clear OBo hE9 g9' lie9 gg SE8 hfar hOF bxF
        refine hK.out _ _ Q4 (fun _ => ?_)
        clear hK K
        refine GoX.one 5 rfl (by kernel_rfl) (by decide) (fun K hK => ?_)
        rw [if_pos (by rfl)]
        go_simp
        have KW := whole_any (some ⟨g9, 0, none⟩) (k + 1) cF (xs ++ [endA ot]) wF HAF.out HCF.out (by omega) (fun b hb => by rcases List.mem_append.1 hb with hb | hb; exact HKO.out b hb; rw [List.mem_singleton] at hb; subst hb; exact (show kK.size ≤ 140737488355328 by decide))
        rw [HW3.out] at KW
        (with_reducible refine KW.mono ?_)
        rintro e wG ⟨rfl, bG⟩
        have Q5 : wG.cell? ⟨x3.heap.size, 0, none⟩ = some (.int .i64 0) ∧ wG.cell? ⟨x3.heap.size, 1, none⟩ = some (.int .i64 2) ∧ wG.cell? ⟨x3.heap.size, 2, none⟩ = some (.int .i64 100) ∧ wG.cell? ⟨x3.heap.size, 3, none⟩ = some (.int .i64 101) ∧ wG.cell? ⟨x3.heap.size, 4, none⟩ = some (.string ⟨#[107]⟩) ∧ wG.cell? ⟨x3.heap.size, 5, none⟩ = some (.slice none 0 0) ∧ wG.cell? ⟨x3.heap.size, 6, none⟩ = some (.int .i64 0) ∧ wG.cell? ⟨x3.heap.size, 7, none⟩ = some (.int .i64 0) ∧ wG.cell? ⟨x3.heap.size, 8, none⟩ = some (.string ⟨#[]⟩) ∧ wG.cell? ⟨x3.heap.size, 9, none⟩ = some (.slice a9 on c9) ∧ wG.cell? ⟨x3.heap.size, 10, none⟩ = some (.int .i64 0) ∧ wG.cell? ⟨x3.heap.size, 11, none⟩ = some (.int .i64 0) ∧ wG.cell? ⟨x3.heap.size, 12, none⟩ = some (.int .i64 0) ∧ wG.cell? ⟨x3.heap.size, 13, none⟩ = some (.bool true) ∧ wG.cell? ⟨x3.heap.size, 14, none⟩ = some (.slice none 0 0) := ⟨cellBelow Q4.1 bG, cellBelow Q4.2.1 bG, cellBelow Q4.2.2.1 bG, cellBelow Q4.2.2.2.1 bG, cellBelow Q4.2.2.2.2.1 bG, cellBelow Q4.2.2.2.2.2.1 bG, cellBelow Q4.2.2.2.2.2.2.1 bG, cellBelow Q4.2.2.2.2.2.2.2.1 bG, cellBelow Q4.2.2.2.2.2.2.2.2.1 bG, cellBelow Q4.2.2.2.2.2.2.2.2.2.1 bG, cellBelow Q4.2.2.2.2.2.2.2.2.2.2.1 bG, cellBelow Q4.2.2.2.2.2.2.2.2.2.2.2.1 bG, cellBelow Q4.2.2.2.2.2.2.2.2.2.2.2.2.1 bG, cellBelow Q4.2.2.2.2.2.2.2.2.2.2.2.2.2.1 bG, cellBelow Q4.2.2.2.2.2.2.2.2.2.2.2.2.2.2 bG⟩
        have HBG := Lib.hid (HBF.out.trans (bG.mono HBF.out.size))
        clear KW bG
        refine hK.out _ _ Q5 (fun _ => ?_)
        clear hK K
        refine GoX.take 7 rfl (by kernel_rfl) (by kernel_rfl) (by rfl) (fun _ _ _ h => h) (v := ?tv7g44) Q5 ?ty7g44 ?tr7g44
        case ty7g44 => (intro w hSw; (try dsimp only at hSw); go_simp; first | done | with_reducible rfl)
        simp only [Act.put, List.setIfInBounds_toArray, List.set_cons_zero, List.set_cons_succ]
        refine GoX.last 8 rfl (by kernel_rfl) (by kernel_rfl) (by decide) ?_
        go_wp2
        go_ret
        exact ⟨by simp, B1.out.trans ((Y5.out.trans (HBG.out.mono Y5.out.size)).mono B1.out.size)⟩
end Go.Proofs.Ytnefcbcioemfiaa
