/-
  the reference's Symbols.
-/
import Derived.Test.YtfjcbgfgiidogaaDoorMCh5
import Derived.Test.YtfjcbgfgiidogaaDoorMRr2
namespace Go.Proofs.YtfjcbgfgiidogaaDoor
open Go.RowKit

def symsK (b : Int) (ps : List Pc) (j : Nat) : List Sy := (ps.take j).map (symOfPc b)
theorem symsK_step {b : Int} {ps : List Pc} {j : Nat} {e : Int} {l : List Nat} (h : ps[j]? = some (e, l)) : symsK b ps j ++ [(b, e, l)] = symsK b ps (j + 1) := by
  unfold symsK
  rw [take_step ps j _ h, List.map_append]
  rfl
set_option maxRecDepth 100000 in
set_option maxHeartbeats 8000000 in
theorem refSyms_any (va : Option Addr) (vn vc : Nat) (v : List Nat) (t b : Int) (ea : Option Addr) (en ec : Nat) (es : List Int) (w : World) (hv : BytesV w (va, vn, vc) v) (hvs : vn ≤ 100000) (he : IntsV w (ea, en, ec) es) (hen : en ≤ 1000) :
    Calls Tryd.prog 25 #[.slice va vn vc, .int .i64 t, .int .i64 b, .slice ea en ec] w (GivesS w (symbolsR v t b es)) := by
  obtain ⟨i0, hi, hz0, hz1, hz2⟩ := info_parts sinfo
  have KS := refSplit_any va vn vc v t w hv hvs
  unfold splitR at KS
  unfold symbolsR
  have HE := Lib.hid he
  have HEL := Lib.hid (show es.length = en from he.length)
  have HVL := Lib.hid (show v.length = vn from hv.length)
  clear hv he
  by_cases hc : sizeC (v.length : Int) t = 0
  rotate_left 1
  · rw [if_neg hc] at KS ⊢
    have hcb : (sizeC (v.length : Int) t != 0) = true := by rw [bne_iff_ne]; exact hc
    generalize sizeC (v.length : Int) t = code at KS hcb ⊢
    clear hc
    go_enter Tryd.func25, Tryd.ntmps25
    go_wp2_with fail
    (with_reducible refine KS.mono ?_)
    rintro e w1 ⟨a1, c1, rfl, -, b1⟩
    clear KS
    go_wp2
    go_ret2
    exact givesS_nil b1
  rw [if_pos hc] at KS ⊢
  obtain ⟨g1, g2⟩ := sizeC_zero.1 hc
  obtain ⟨s1, s2⟩ := okS_iff.1 g1
  obtain ⟨t1, t2⟩ := okT_iff.1 g2
  clear hc g1 g2
  obtain ⟨T, rfl⟩ : ∃ T : Nat, t = (T : Nat) := ⟨t.toNat, by omega⟩
  rw [Int.toNat_natCast] at KS ⊢
  obtain ⟨n1, n2, -, -⟩ := chN_facts (size := v.length) (t := T) (by omega) (by omega) (by omega)
  obtain ⟨n, hn⟩ : ∃ n, n = chN v.length T := ⟨_, rfl⟩
  rw [← hn] at n1 n2 KS ⊢
  clear hn
  obtain ⟨z1, z2, -, -, z3⟩ := chZ_facts n1 n2
  unfold GivesBk at KS
  simp only at KS
  rw [blocksL_length] at KS
  have HBA := Lib.hid (fun i (h : i < chZ n) => blocksL_at (v := v) (t := T) h)
  obtain ⟨z, hz⟩ : ∃ z, z = chZ n := ⟨_, rfl⟩
  rw [← hz] at z1 z2 z3 KS HBA ⊢
  clear hz
  by_cases hb : 0 ≤ b ∧ b < (z : Nat)
  rotate_left 1
  · rw [if_neg hb]
    have hb' : b < 0 ∨ (z : Int) ≤ b := by omega
    clear hb
    rcases hb' with h | h
    · go_enter Tryd.func25, Tryd.ntmps25
      go_wp2_with fail
      (with_reducible refine KS.mono ?_)
      rintro e w1 ⟨a1, c1, rfl, -, b1⟩
      clear KS
      go_wp2
      go_ret2
      exact givesS_nil b1
    · have h0 : ¬ b < 0 := by omega
      have h0' : 0 ≤ b := by omega
      go_enter Tryd.func25, Tryd.ntmps25
      go_wp2_with fail
      (with_reducible refine KS.mono ?_)
      rintro e w1 ⟨a1, c1, rfl, -, b1⟩
      clear KS
      go_wp2
      go_ret2
      exact givesS_nil b1
  rw [if_pos hb]
  obtain ⟨i, rfl⟩ : ∃ i : Nat, b = (i : Nat) := ⟨b.toNat, by omega⟩
  have hiz : i < z := by omega
  rw [Int.toNat_natCast]
  clear hb
  have hbl : (blocksL v T n).getD i [] = blockL v T n i := by rw [List.getD_eq_getElem?_getD, HBA.out i hiz]; rfl
  have HBL := Lib.hid hbl
  clear hbl
  obtain ⟨bl, hbl⟩ : ∃ x, x = blockL v T n i := ⟨_, rfl⟩
  obtain ⟨bs, hbs⟩ : ∃ x, x = blocksL v T n := ⟨_, rfl⟩
  rw [← hbs] at KS HBL
  rw [← hbl] at HBL ⊢
  clear hbs hbl HBA
  have hel : (encodeR bl es).1.length ≤ 1000 := by
    unfold encodeR
    split
    · split
      · rw [List.length_map, HEL.out]; exact hen
      · simp
    · simp
  have hPn : (encodeR bl es).2 ≠ 0 → (encodeR bl es).1 = [] := fun h => by
    unfold encodeR at h ⊢
    split
    · rename_i h2
      rw [if_pos h2] at h
      split
      · rename_i h3
        rw [if_pos h3] at h
        exact absurd rfl h
      · rfl
    · rfl
  have hPnil := Lib.hid hPn
  clear hPn
  obtain ⟨P, hPd⟩ : ∃ P, P = encodeR bl es := ⟨_, rfl⟩
  rw [← hPd] at hel hPnil ⊢
  have HPD := Lib.hid hPd
  clear hPd
  obtain ⟨ps, code⟩ := P
  simp only at hel hPnil ⊢
  go_enter Tryd.func25, Tryd.ntmps25
  go_wp2_with fail
  (with_reducible refine KS.mono ?_)
  rintro e w1 ⟨a1, c1, rfl, hB, b1⟩
  clear KS
  obtain ⟨g, ⟨xa, xn, xc⟩, rfl, hcell, hR⟩ := hB.at hiz
  rw [HBL.out] at hR
  have hcell' : w1.cell? ⟨g, i, none⟩ = some (.slice xa xn xc) := hcell
  have KE := refEncode_rd xa xn xc bl ea en ec es w1 hR.rd (HE.out.below b1) hen
  have hs1 := b1.size
  have HB1 := Lib.hid b1
  rw [← HPD.out] at KE
  clear hB hR hcell b1
  go_wp2_with fail
  (with_reducible refine KE.mono ?_)
  rintro e w2 ⟨a2, c2, rfl, hP, b2⟩
  simp only at hP ⊢
  clear KE
  have hbw := HB1.out.trans (b2.mono hs1)
  have hsw := hbw.size
  by_cases hc : code = 0
  rotate_left 1
  · have hcb : (code != 0) = true := by rw [bne_iff_ne]; exact hc
    have hps : ps = [] := hPnil.out hc
    clear hc hP b2
    go_wp2
    go_ret2
    rw [hps]
    exact givesS_nil hbw
  subst hc
  have HP := Lib.hid hP.pi
  obtain ⟨hpl, px, hxl, hxo, hxs⟩ := hP
  have HPX := Lib.hid hxs
  have HXL := Lib.hid hxl
  have HXO := Lib.hid hxo
  have HBW := Lib.hid hbw
  have HB2 := Lib.hid b2
  clear b2 hbw hpl hxl hxo hxs
  obtain ⟨m, hm⟩ : ∃ m, m = ps.length := ⟨_, rfl⟩
  rw [← hm] at hel HP HXL HXO ⊢
  have HM := Lib.hid hm
  clear hm
  have hs2 := HB2.out.size
  have hOS : Hid (OwnS (w2.alloc (.cells #[] ST3)) w.heap.size (some ⟨w2.heap.size, 0, none⟩) 0 0 (symsK (i : Int) ps 0)) := Lib.hid (OwnS.madeS hsw)
  have hGE : Hid (∀ k, (Value.slice (some ⟨w2.heap.size, 0, none⟩) 0 0).ownBlock = some k → w2.heap.size ≤ k) := Lib.hid (fun k h => by simp [Value.ownBlock] at h; omega)
  have hBA := Lib.hid (below_alloc w2 (.cells #[] ST3))
  go_wp2_with fail
  go_loopw [13, 14] (fun vp vj wr => ∃ (j : Nat) (av : Option Addr) (cv : Nat), j ≤ m ∧ vj = .int .i64 (j : Nat) ∧ vp = .slice av j cv ∧ Hid (OwnS wr w.heap.size av j cv (symsK (i : Int) ps j)) ∧ Hid (∀ k, (Value.slice av j cv).ownBlock = some k → w2.heap.size ≤ k) ∧ Hid (Below w2.heap.size w2 wr)) (fun _ vj _ => (m - intOf vj).toNat)
  case atStart => exact ⟨0, _, _, Nat.zero_le _, rfl, rfl, hOS, hGE, hBA⟩
  case round =>
    clear hOS hGE hBA
    obtain ⟨j, av, cv, hj, rfl, rfl, hS, hGE, hB⟩ := hrel
    by_cases hlt : j < m
    · obtain ⟨⟨e, a3, n3, c3⟩, hx⟩ : ∃ x, px[j]? = some x := ⟨_, List.getElem?_eq_getElem (by rw [HXL.out]; exact hlt)⟩
      obtain ⟨⟨e', l⟩, hpj⟩ : ∃ x, ps[j]? = some x := ⟨_, List.getElem?_eq_getElem (by rw [← HM.out]; exact hlt)⟩
      obtain ⟨r1, r2, r3, r4⟩ := HPX.out j _ _ hx hpj
      simp only at r1 r2
      subst r1 r2
      obtain ⟨pb, rfl⟩ : ∃ q, a2 = some ⟨q, 0, none⟩ := by
        rcases HXO.out.2 with ⟨_, h⟩ | ⟨g', _, _, h, _⟩
        · omega
        · injection h with h
          exact ⟨g', h⟩
      have q0 : wr.cell? ⟨pb, j * 2, none⟩ = some (.int .i64 e) := cell_below ((HXO.out.cellAt (j * 2) (by omega)).trans (pcells_get px j _ hx).1) hB.out
      have q1 : wr.cell? ⟨pb, j * 2 + 1, none⟩ = some (.slice a3 l.length c3) := cell_below ((HXO.out.cellAt (j * 2 + 1) (by omega)).trans (pcells_get px j _ hx).2) hB.out
      have HPJ := Lib.hid hpj
      have hsz := hB.out.size
      have hR3 := Lib.hid (ownsRow_base (r3.kept (grownBy_of_below hB.out none) (by cases (SV (a3, l.length, c3)).ownBlock <;> simp)) hs1)
      have HR4 := Lib.hid r4
      obtain ⟨ll, hll⟩ : ∃ x, x = l.length := ⟨_, rfl⟩
      rw [← hll] at q1
      have HLL := Lib.hid hll
      have HX9 : Hid ((pcells px)[j * 2]? = some (.int .i64 e) ∧ (pcells px)[j * 2 + 1]? = some (.slice a3 ll c3)) := Lib.hid ⟨(pcells_get px j _ hx).1, by rw [hll]; exact (pcells_get px j _ hx).2⟩
      clear r3 r4 hpj hx hll
      have K0 : wr.cell? ⟨pb, j * 2, none⟩ = some (.int .i64 e) ∧ wr.cell? ⟨pb, j * 2 + 1, none⟩ = some (.slice a3 ll c3) := ⟨q0, q1⟩
      have j0' : (0 : Int) ≤ (j : Int) := by omega
      have j1' : (j : Int) < (m : Int) := by omega
      have i0' : (0 : Int) ≤ (i : Int) := by omega
      clear q0 q1
      go_wp2_with fail
      refine GoX.start 15 (fun w' => w'.cell? ⟨pb, j * 2, none⟩ = some (.int .i64 e) ∧ w'.cell? ⟨pb, j * 2 + 1, none⟩ = some (.slice a3 ll c3)) (by kernel_rfl) ?_
      refine GoX.take 0 rfl (by kernel_rfl) (by kernel_rfl) (by rfl) (fun _ _ _ h => h) (v := ?tv0) K0 ?ty0 ?tr0
      case ty0 => (intro w hSw; (try dsimp only at hSw); go_simp; first | done | with_reducible rfl)
      simp only [Act.put, List.setIfInBounds_toArray, List.set_cons_zero, List.set_cons_succ]
      refine GoX.take 1 rfl (by kernel_rfl) (by kernel_rfl) (by rfl) (fun _ _ _ h => h) (v := ?tv1) K0 ?ty1 ?tr1
      case ty1 => (intro w hSw; (try dsimp only at hSw); go_simp; first | done | with_reducible rfl)
      simp only [Act.put, List.setIfInBounds_toArray, List.set_cons_zero, List.set_cons_succ]
      refine GoX.take 2 rfl (by kernel_rfl) (by kernel_rfl) (by rfl) (fun _ _ _ h => h) (v := ?tv2) K0 ?ty2 ?tr2
      case ty2 => (intro w hSw; (try dsimp only at hSw); go_simp; first | done | with_reducible rfl)
      simp only [Act.put, List.setIfInBounds_toArray, List.set_cons_zero, List.set_cons_succ]
      refine GoX.take 3 rfl (by kernel_rfl) (by kernel_rfl) (by rfl) (fun _ _ _ h => h) (v := ?tv3) K0 ?ty3 ?tr3
      case ty3 => (intro w hSw; (try dsimp only at hSw); go_simp; first | done | with_reducible rfl)
      simp only [Act.put, List.setIfInBounds_toArray, List.set_cons_zero, List.set_cons_succ]
      refine GoX.take 4 rfl (by kernel_rfl) (by kernel_rfl) (by rfl) (fun _ _ _ h => h) (v := ?tv4) K0 ?ty4 ?tr4
      case ty4 => (intro w hSw; (try dsimp only at hSw); go_simp; first | done | with_reducible rfl)
      simp only [Act.put, List.setIfInBounds_toArray, List.set_cons_zero, List.set_cons_succ]
      refine GoX.take 5 rfl (by kernel_rfl) (by kernel_rfl) (by rfl) (fun _ _ _ h => h) (v := ?tv5) K0 ?ty5 ?tr5
      case ty5 => (intro w hSw; (try dsimp only at hSw); go_simp; first | done | with_reducible rfl)
      simp only [Act.put, List.setIfInBounds_toArray, List.set_cons_zero, List.set_cons_succ]
      refine GoX.take 6 rfl (by kernel_rfl) (by kernel_rfl) (by rfl) (fun _ _ _ h => h) (v := ?tv6) K0 ?ty6 ?tr6
      case ty6 => (intro w hSw; (try dsimp only at hSw); go_simp; first | done | with_reducible rfl)
      simp only [Act.put, List.setIfInBounds_toArray, List.set_cons_zero, List.set_cons_succ]
      refine GoX.take 7 rfl (by kernel_rfl) (by kernel_rfl) (by rfl) (fun _ _ _ h => h) (v := ?tv7) K0 ?ty7 ?tr7
      case ty7 => (intro w hSw; (try dsimp only at hSw); go_simp; first | done | with_reducible rfl)
      simp only [Act.put, List.setIfInBounds_toArray, List.set_cons_zero, List.set_cons_succ]
      refine GoX.take 8 rfl (by kernel_rfl) (by kernel_rfl) (by rfl) (fun _ _ _ h => h) (v := ?tv8) K0 ?ty8 ?tr8
      case ty8 => (intro w hSw; (try dsimp only at hSw); go_simp; first | done | with_reducible rfl)
      simp only [Act.put, List.setIfInBounds_toArray, List.set_cons_zero, List.set_cons_succ]
      refine GoX.take 9 rfl (by kernel_rfl) (by kernel_rfl) (by rfl) (fun _ _ _ h => h) (v := ?tv9) K0 ?ty9 ?tr9
      case ty9 => (intro w hSw; (try dsimp only at hSw); go_simp; first | done | with_reducible rfl)
      simp only [Act.put, List.setIfInBounds_toArray, List.set_cons_zero, List.set_cons_succ]
      refine GoX.take 10 rfl (by kernel_rfl) (by kernel_rfl) (by rfl) (fun _ _ _ h => h) (v := ?tv10) K0 ?ty10 ?tr10
      case ty10 => (intro w hSw; (try dsimp only at hSw); go_simp; first | done | with_reducible rfl)
      simp only [Act.put, List.setIfInBounds_toArray, List.set_cons_zero, List.set_cons_succ]
      refine GoX.take 11 rfl (by kernel_rfl) (by kernel_rfl) (by rfl) (fun _ _ _ h => h) (v := ?tv11) K0 ?ty11 ?tr11
      case ty11 => (intro w hSw; (try dsimp only at hSw); go_simp; first | done | with_reducible rfl)
      simp only [Act.put, List.setIfInBounds_toArray, List.set_cons_zero, List.set_cons_succ]
      refine GoX.take 12 rfl (by kernel_rfl) (by kernel_rfl) (by rfl) (fun _ _ _ h => h) (v := ?tv12) K0 ?ty12 ?tr12
      case ty12 => (intro w hSw; (try dsimp only at hSw); go_simp; first | done | with_reducible rfl)
      simp only [Act.put, List.setIfInBounds_toArray, List.set_cons_zero, List.set_cons_succ]
      have K6 : (wr.alloc (.cells #[.int .i64 (i : Int), .int .i64 e, .slice a3 ll c3] ST3)).cell? ⟨pb, j * 2, none⟩ = some (.int .i64 e) ∧ (wr.alloc (.cells #[.int .i64 (i : Int), .int .i64 e, .slice a3 ll c3] ST3)).cell? ⟨pb, j * 2 + 1, none⟩ = some (.slice a3 ll c3) := ⟨cell_below K0.1 (below_alloc _ _), cell_below K0.2 (below_alloc _ _)⟩
      refine GoX.one 13 rfl (by kernel_rfl) (by decide) (fun K hK => ?_)
      go_simp
      refine hK.out _ _ K6 (fun _ => ?_)
      clear hK K
      have hP6 := hS.out.below (below_alloc wr (.cells #[.int .i64 (i : Int), .int .i64 e, .slice a3 ll c3] ST3))
      have o6 := hR3.out.alloc (.cells #[.int .i64 (i : Int), .int .i64 e, .slice a3 ll c3] ST3)
      have hb6 := hB.out.alloc hsz (.cells #[.int .i64 (i : Int), .int .i64 e, .slice a3 ll c3] ST3)
      have hsb6 := hb6.size
      have hsb7 : w.heap.size ≤ (wr.alloc (.cells #[.int .i64 (i : Int), .int .i64 e, .slice a3 ll c3] ST3)).heap.size := by omega
      obtain ⟨h1, xs, h2, h3, h4⟩ := hP6
      refine GoX.one 14 rfl (by kernel_rfl) (by decide) (fun K hK => ?_)
      refine step_append_lies _ rfl (.tmp 51) (.tmp 64) 37 rfl w.heap.size ST3 i0 (.agg #[.int .i64 0, .int .i64 0, .slice none 0 0]) 3 40 Tryd.underlying37 hi hz0 hz1 hz2 rfl (by decide) (.slice av j cv) j (scells xs) (by rfl) h3 ⟨wr.heap.size, 0, none⟩ 1 1 [.int .i64 (i : Int), .int .i64 e, SV (a3, ll, c3)] (by rfl) (by rfl) (World.news_of_block (heap_alloc_new wr _)) (by intro u hu; simp at hu; rcases hu with rfl | rfl | rfl <;> rfl) (by decide) (by simp [maxLen]; omega) (by omega) hsb7 _ rfl ?_
      intro g9 c9 w9 hE9 g9' lie9 _
      have gg : (wr.alloc (.cells #[.int .i64 (i : Int), .int .i64 e, .slice a3 ll c3] ST3)).grownBy w9 (Value.slice av j cv).ownBlock := ⟨g9'.os, g9'.tape, g9'.output, g9'.size, g9'.block⟩
      have hb9 := below_grown hb6 gg hGE.out
      have K9 : w9.cell? ⟨pb, j * 2, none⟩ = some (.int .i64 e) ∧ w9.cell? ⟨pb, j * 2 + 1, none⟩ = some (.slice a3 ll c3) := ⟨cell_below ((HXO.out.cellAt (j * 2) (by omega)).trans (HX9.out).1) hb9, cell_below ((HXO.out.cellAt (j * 2 + 1) (by omega)).trans HX9.out.2) hb9⟩
      have hO := sy_append h2 h1 h3 h4 (y := (a3, ll, c3)) (l := l) (z := (i : Int)) (e := e) (by rw [HLL.out] at o6 ⊢; exact o6) HLL.out HR4.out hE9 gg
      rw [symsK_step HPJ.out] at hO
      have HO := Lib.hid hO
      have HG9 : Hid (∀ k, (Value.slice (some ⟨g9, 0, none⟩) (j + 1) c9).ownBlock = some k → w2.heap.size ≤ k) := Lib.hid (fun k h => by
        simp [Value.ownBlock] at h
        subst h
        rcases lie9 with h | h
        · exact hGE.out _ h
        · exact Nat.le_trans hsb6 (Nat.le_of_eq h.symm))
      have HB9 := Lib.hid hb9
      refine hK.out _ _ K9 (fun _ => ?_)
      clear hK K gg hb9 hO hE9 g9' lie9 h3 h4 K6 o6 hb6 hS hGE hB hR3
      simp only [Act.put, List.setIfInBounds_toArray, List.set_cons_zero, List.set_cons_succ]
      refine GoX.last 15 rfl (by kernel_rfl) (by kernel_rfl) (by decide) ?_
      go_wp2
      go_roundw
      case rel =>
        exact ⟨j + 1, by omega, by omega, _, _, ⟨rfl, rfl, rfl⟩, HO, HG9⟩
      case measure => simp [intOf] <;> omega
    · obtain rfl : j = m := by omega
      have hS' := hS.out
      have hsk : symsK (i : Int) ps j = ps.map (symOfPc (i : Int)) := by unfold symsK; rw [List.take_of_length_le (by rw [← HM.out]; exact Nat.le_refl _)]
      rw [hsk] at hS'
      have hln : (ps.map (symOfPc (i : Int))).length = j := by rw [List.length_map]; exact HM.out.symm
      have HS2 := Lib.hid hS'
      have HLN := Lib.hid hln
      clear hS' hln hS hsk
      go_wp2
      go_ret2
      have hp := HS2.out
      have hm := HLN.out
      generalize ps.map (symOfPc (i : Int)) = D at hp hm ⊢
      exact ⟨_, _, by simp only [hm]; rfl, by rw [hm]; exact hp, HBW.out.trans (hB.out.mono hsw)⟩
end Go.Proofs.YtfjcbgfgiidogaaDoor
