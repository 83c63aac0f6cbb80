/-
  Ch6: ChV ChX ChY
-/
import Derived.Test.YtfjcbgfgiidogaaDoorMCh4
import Derived.Test.YtfjcbgfgiidogaaDoorMCh5
import Derived.Test.YtfjcbgfgiidogaaDoorMRrK
import Derived.Test.YtfjcbgfgiidogaaDoorMRrO
namespace Go.Proofs.YtfjcbgfgiidogaaDoor
open Go.RowKit

def symsK (b : Int) (ps : List Pc) (j : Nat) : List Sy := (ps.take j).map (symOfPc b)
theorem symsK_step {b : Int} {ps : List Pc} {j : Nat} {e : Int} {l : List Nat} (h : ps[j]? = some (e, l)) : symsK b ps j ++ [(b, e, l)] = symsK b ps (j + 1) := by
  unfold symsK
  rw [take_step ps j _ h, List.map_append]
  rfl
set_option maxRecDepth 100000 in
set_option maxHeartbeats 8000000 in
theorem refSyms_any (va : Option Addr) (vn vc : Nat) (v : List Nat) (t b : Int) (ea : Option Addr) (en ec : Nat) (es : List Int) (w : World) (hv : BytesV w (va, vn, vc) v) (hvs : vn ≤ 100000) (he : IntsV w (ea, en, ec) es) (hen : en ≤ 1000) :
    Calls Tryd.prog 25 #[.slice va vn vc, .int .i64 t, .int .i64 b, .slice ea en ec] w (GivesS w (symbolsR v t b es)) := by
  obtain ⟨i0, hi, hz0, hz1, hz2⟩ := info_parts sinfo
  have KS := refSplit_any va vn vc v t w hv hvs
  unfold splitR at KS
  unfold symbolsR
  have HE := Lib.hid he
  have HEL := Lib.hid (show es.length = en from he.length)
  have HVL := Lib.hid (show v.length = vn from hv.length)
  clear hv he
  by_cases hc : sizeC (v.length : Int) t = 0
  rotate_left 1
  · rw [if_neg hc] at KS ⊢
    have hcb : (sizeC (v.length : Int) t != 0) = true := by rw [bne_iff_ne]; exact hc
    generalize sizeC (v.length : Int) t = code at KS hcb ⊢
    clear hc
    go_enter Tryd.func25, Tryd.ntmps25
    go_wp2_with fail
    (with_reducible refine KS.mono ?_)
    rintro e w1 ⟨a1, c1, rfl, -, b1⟩
    clear KS
    go_wp2
    go_ret2
    exact givesS_nil b1
  rw [if_pos hc] at KS ⊢
  obtain ⟨g1, g2⟩ := sizeC_zero.1 hc
  obtain ⟨s1, s2⟩ := okS_iff.1 g1
  obtain ⟨t1, t2⟩ := okT_iff.1 g2
  clear hc g1 g2
  obtain ⟨T, rfl⟩ : ∃ T : Nat, t = (T : Nat) := ⟨t.toNat, by omega⟩
  rw [Int.toNat_natCast] at KS ⊢
  obtain ⟨n1, n2, -, -⟩ := chN_facts (size := v.length) (t := T) (by omega) (by omega) (by omega)
  obtain ⟨n, hn⟩ : ∃ n, n = chN v.length T := ⟨_, rfl⟩
  rw [← hn] at n1 n2 KS ⊢
  clear hn
  obtain ⟨z1, z2, -, -, z3⟩ := chZ_facts n1 n2
  unfold GivesBk at KS
  simp only at KS
  rw [blocksL_length] at KS
  have HBA := Lib.hid (fun i (h : i < chZ n) => blocksL_at (v := v) (t := T) h)
  obtain ⟨z, hz⟩ : ∃ z, z = chZ n := ⟨_, rfl⟩
  rw [← hz] at z1 z2 z3 KS HBA ⊢
  clear hz
  by_cases hb : 0 ≤ b ∧ b < (z : Nat)
  rotate_left 1
  · rw [if_neg hb]
    have hb' : b < 0 ∨ (z : Int) ≤ b := by omega
    clear hb
    rcases hb' with h | h
    · go_enter Tryd.func25, Tryd.ntmps25
      go_wp2_with fail
      (with_reducible refine KS.mono ?_)
      rintro e w1 ⟨a1, c1, rfl, -, b1⟩
      clear KS
      go_wp2
      go_ret2
      exact givesS_nil b1
    · have h0 : ¬ b < 0 := by omega
      have h0' : 0 ≤ b := by omega
      go_enter Tryd.func25, Tryd.ntmps25
      go_wp2_with fail
      (with_reducible refine KS.mono ?_)
      rintro e w1 ⟨a1, c1, rfl, -, b1⟩
      clear KS
      go_wp2
      go_ret2
      exact givesS_nil b1
  rw [if_pos hb]
  obtain ⟨i, rfl⟩ : ∃ i : Nat, b = (i : Nat) := ⟨b.toNat, by omega⟩
  have hiz : i < z := by omega
  rw [Int.toNat_natCast]
  clear hb
  have hbl : (blocksL v T n).getD i [] = blockL v T n i := by rw [List.getD_eq_getElem?_getD, HBA.out i hiz]; rfl
  have HBL := Lib.hid hbl
  clear hbl
  obtain ⟨bl, hbl⟩ : ∃ x, x = blockL v T n i := ⟨_, rfl⟩
  obtain ⟨bs, hbs⟩ : ∃ x, x = blocksL v T n := ⟨_, rfl⟩
  rw [← hbs] at KS HBL
  rw [← hbl] at HBL ⊢
  clear hbs hbl HBA
  have hel : (encodeR bl es).1.length ≤ 1000 := by
    unfold encodeR
    split
    · split
      · rw [List.length_map, HEL.out]; exact hen
      · simp
    · simp
  have hPn : (encodeR bl es).2 ≠ 0 → (encodeR bl es).1 = [] := fun h => by
    unfold encodeR at h ⊢
    split
    · rename_i h2
      rw [if_pos h2] at h
      split
      · rename_i h3
        rw [if_pos h3] at h
        exact absurd rfl h
      · rfl
    · rfl
  have hPnil := Lib.hid hPn
  clear hPn
  obtain ⟨P, hPd⟩ : ∃ P, P = encodeR bl es := ⟨_, rfl⟩
  rw [← hPd] at hel hPnil ⊢
  have HPD := Lib.hid hPd
  clear hPd
  obtain ⟨ps, code⟩ := P
  simp only at hel hPnil ⊢
  go_enter Tryd.func25, Tryd.ntmps25
  go_wp2_with fail
  (with_reducible refine KS.mono ?_)
  rintro e w1 ⟨a1, c1, rfl, hB, b1⟩
  clear KS
  obtain ⟨g, ⟨xa, xn, xc⟩, rfl, hcell, hR⟩ := hB.at hiz
  rw [HBL.out] at hR
  have hcell' : w1.cell? ⟨g, i, none⟩ = some (.slice xa xn xc) := hcell
  have KE := refEncode_rd xa xn xc bl ea en ec es w1 hR.rd (HE.out.below b1) hen
  have hs1 := b1.size
  have HB1 := Lib.hid b1
  rw [← HPD.out] at KE
  clear hB hR hcell b1
  go_wp2_with fail
  (with_reducible refine KE.mono ?_)
  rintro e w2 ⟨a2, c2, rfl, hP, b2⟩
  simp only at hP ⊢
  clear KE
  have hbw := HB1.out.trans (b2.mono hs1)
  have hsw := hbw.size
  by_cases hc : code = 0
  rotate_left 1
  · have hcb : (code != 0) = true := by rw [bne_iff_ne]; exact hc
    have hps : ps = [] := hPnil.out hc
    clear hc hP b2
    go_wp2
    go_ret2
    rw [hps]
    exact givesS_nil hbw
  subst hc
  have HP := Lib.hid hP.pi
  obtain ⟨hpl, px, hxl, hxo, hxs⟩ := hP
  have HPX := Lib.hid hxs
  have HXL := Lib.hid hxl
  have HXO := Lib.hid hxo
  have HBW := Lib.hid hbw
  have HB2 := Lib.hid b2
  clear b2 hbw hpl hxl hxo hxs
  obtain ⟨m, hm⟩ : ∃ m, m = ps.length := ⟨_, rfl⟩
  rw [← hm] at hel HP HXL HXO ⊢
  have HM := Lib.hid hm
  clear hm
  have hs2 := HB2.out.size
  have hOS : Hid (OwnS (w2.alloc (.cells #[] ST3)) w.heap.size (some ⟨w2.heap.size, 0, none⟩) 0 0 (symsK (i : Int) ps 0)) := Lib.hid (OwnS.madeS hsw)
  have hGE : Hid (∀ k, (Value.slice (some ⟨w2.heap.size, 0, none⟩) 0 0).ownBlock = some k → w2.heap.size ≤ k) := Lib.hid (fun k h => by simp [Value.ownBlock] at h; omega)
  have hBA := Lib.hid (below_alloc w2 (.cells #[] ST3))
  go_wp2_with fail
  go_loopw [13, 14] (fun vp vj wr => ∃ (j : Nat) (av : Option Addr) (cv : Nat), j ≤ m ∧ vj = .int .i64 (j : Nat) ∧ vp = .slice av j cv ∧ Hid (OwnS wr w.heap.size av j cv (symsK (i : Int) ps j)) ∧ Hid (∀ k, (Value.slice av j cv).ownBlock = some k → w2.heap.size ≤ k) ∧ Hid (Below w2.heap.size w2 wr)) (fun _ vj _ => (m - intOf vj).toNat)
  case atStart => exact ⟨0, _, _, Nat.zero_le _, rfl, rfl, hOS, hGE, hBA⟩
  case round =>
    clear hOS hGE hBA
    obtain ⟨j, av, cv, hj, rfl, rfl, hS, hGE, hB⟩ := hrel
    by_cases hlt : j < m
    · obtain ⟨⟨e, a3, n3, c3⟩, hx⟩ : ∃ x, px[j]? = some x := ⟨_, List.getElem?_eq_getElem (by rw [HXL.out]; exact hlt)⟩
      obtain ⟨⟨e', l⟩, hpj⟩ : ∃ x, ps[j]? = some x := ⟨_, List.getElem?_eq_getElem (by rw [← HM.out]; exact hlt)⟩
      obtain ⟨r1, r2, r3, r4⟩ := HPX.out j _ _ hx hpj
      simp only at r1 r2
      subst r1 r2
      obtain ⟨pb, rfl⟩ : ∃ q, a2 = some ⟨q, 0, none⟩ := by
        rcases HXO.out.2 with ⟨_, h⟩ | ⟨g', _, _, h, _⟩
        · omega
        · injection h with h
          exact ⟨g', h⟩
      have q0 : wr.cell? ⟨pb, j * 2, none⟩ = some (.int .i64 e) := cell_below ((HXO.out.cellAt (j * 2) (by omega)).trans (pcells_get px j _ hx).1) hB.out
      have q1 : wr.cell? ⟨pb, j * 2 + 1, none⟩ = some (.slice a3 l.length c3) := cell_below ((HXO.out.cellAt (j * 2 + 1) (by omega)).trans (pcells_get px j _ hx).2) hB.out
      have HPJ := Lib.hid hpj
      have hsz := hB.out.size
      have hR3 := Lib.hid (ownsRow_base (r3.kept (grownBy_of_below hB.out none) (by cases (SV (a3, l.length, c3)).ownBlock <;> simp)) hs1)
      have HR4 := Lib.hid r4
      obtain ⟨ll, hll⟩ : ∃ x, x = l.length := ⟨_, rfl⟩
      rw [← hll] at q1
      have HLL := Lib.hid hll
      have HX9 : Hid ((pcells px)[j * 2]? = some (.int .i64 e) ∧ (pcells px)[j * 2 + 1]? = some (.slice a3 ll c3)) := Lib.hid ⟨(pcells_get px j _ hx).1, by rw [hll]; exact (pcells_get px j _ hx).2⟩
      clear r3 r4 hpj hx hll
      have K0 : wr.cell? ⟨pb, j * 2, none⟩ = some (.int .i64 e) ∧ wr.cell? ⟨pb, j * 2 + 1, none⟩ = some (.slice a3 ll c3) := ⟨q0, q1⟩
      have j0' : (0 : Int) ≤ (j : Int) := by omega
      have j1' : (j : Int) < (m : Int) := by omega
      have i0' : (0 : Int) ≤ (i : Int) := by omega
      clear q0 q1
      go_wp2_with fail
      refine GoX.start 15 (fun w' => w'.cell? ⟨pb, j * 2, none⟩ = some (.int .i64 e) ∧ w'.cell? ⟨pb, j * 2 + 1, none⟩ = some (.slice a3 ll c3)) (by kernel_rfl) ?_
      refine GoX.take 0 rfl (by kernel_rfl) (by kernel_rfl) (by rfl) (fun _ _ _ h => h) (v := ?tv0) K0 ?ty0 ?tr0
      case ty0 => (intro w hSw; (try dsimp only at hSw); go_simp; first | done | with_reducible rfl)
      simp only [Act.put, List.setIfInBounds_toArray, List.set_cons_zero, List.set_cons_succ]
      refine GoX.take 1 rfl (by kernel_rfl) (by kernel_rfl) (by rfl) (fun _ _ _ h => h) (v := ?tv1) K0 ?ty1 ?tr1
      case ty1 => (intro w hSw; (try dsimp only at hSw); go_simp; first | done | with_reducible rfl)
      simp only [Act.put, List.setIfInBounds_toArray, List.set_cons_zero, List.set_cons_succ]
      refine GoX.take 2 rfl (by kernel_rfl) (by kernel_rfl) (by rfl) (fun _ _ _ h => h) (v := ?tv2) K0 ?ty2 ?tr2
      case ty2 => (intro w hSw; (try dsimp only at hSw); go_simp; first | done | with_reducible rfl)
      simp only [Act.put, List.setIfInBounds_toArray, List.set_cons_zero, List.set_cons_succ]
      refine GoX.take 3 rfl (by kernel_rfl) (by kernel_rfl) (by rfl) (fun _ _ _ h => h) (v := ?tv3) K0 ?ty3 ?tr3
      case ty3 => (intro w hSw; (try dsimp only at hSw); go_simp; first | done | with_reducible rfl)
      simp only [Act.put, List.setIfInBounds_toArray, List.set_cons_zero, List.set_cons_succ]
      refine GoX.take 4 rfl (by kernel_rfl) (by kernel_rfl) (by rfl) (fun _ _ _ h => h) (v := ?tv4) K0 ?ty4 ?tr4
      case ty4 => (intro w hSw; (try dsimp only at hSw); go_simp; first | done | with_reducible rfl)
      simp only [Act.put, List.setIfInBounds_toArray, List.set_cons_zero, List.set_cons_succ]
      refine GoX.take 5 rfl (by kernel_rfl) (by kernel_rfl) (by rfl) (fun _ _ _ h => h) (v := ?tv5) K0 ?ty5 ?tr5
      case ty5 => (intro w hSw; (try dsimp only at hSw); go_simp; first | done | with_reducible rfl)
      simp only [Act.put, List.setIfInBounds_toArray, List.set_cons_zero, List.set_cons_succ]
      refine GoX.take 6 rfl (by kernel_rfl) (by kernel_rfl) (by rfl) (fun _ _ _ h => h) (v := ?tv6) K0 ?ty6 ?tr6
      case ty6 => (intro w hSw; (try dsimp only at hSw); go_simp; first | done | with_reducible rfl)
      simp only [Act.put, List.setIfInBounds_toArray, List.set_cons_zero, List.set_cons_succ]
      refine GoX.take 7 rfl (by kernel_rfl) (by kernel_rfl) (by rfl) (fun _ _ _ h => h) (v := ?tv7) K0 ?ty7 ?tr7
      case ty7 => (intro w hSw; (try dsimp only at hSw); go_simp; first | done | with_reducible rfl)
      simp only [Act.put, List.setIfInBounds_toArray, List.set_cons_zero, List.set_cons_succ]
      refine GoX.take 8 rfl (by kernel_rfl) (by kernel_rfl) (by rfl) (fun _ _ _ h => h) (v := ?tv8) K0 ?ty8 ?tr8
      case ty8 => (intro w hSw; (try dsimp only at hSw); go_simp; first | done | with_reducible rfl)
      simp only [Act.put, List.setIfInBounds_toArray, List.set_cons_zero, List.set_cons_succ]
      refine GoX.take 9 rfl (by kernel_rfl) (by kernel_rfl) (by rfl) (fun _ _ _ h => h) (v := ?tv9) K0 ?ty9 ?tr9
      case ty9 => (intro w hSw; (try dsimp only at hSw); go_simp; first | done | with_reducible rfl)
      simp only [Act.put, List.setIfInBounds_toArray, List.set_cons_zero, List.set_cons_succ]
      refine GoX.take 10 rfl (by kernel_rfl) (by kernel_rfl) (by rfl) (fun _ _ _ h => h) (v := ?tv10) K0 ?ty10 ?tr10
      case ty10 => (intro w hSw; (try dsimp only at hSw); go_simp; first | done | with_reducible rfl)
      simp only [Act.put, List.setIfInBounds_toArray, List.set_cons_zero, List.set_cons_succ]
      refine GoX.take 11 rfl (by kernel_rfl) (by kernel_rfl) (by rfl) (fun _ _ _ h => h) (v := ?tv11) K0 ?ty11 ?tr11
      case ty11 => (intro w hSw; (try dsimp only at hSw); go_simp; first | done | with_reducible rfl)
      simp only [Act.put, List.setIfInBounds_toArray, List.set_cons_zero, List.set_cons_succ]
      refine GoX.take 12 rfl (by kernel_rfl) (by kernel_rfl) (by rfl) (fun _ _ _ h => h) (v := ?tv12) K0 ?ty12 ?tr12
      case ty12 => (intro w hSw; (try dsimp only at hSw); go_simp; first | done | with_reducible rfl)
      simp only [Act.put, List.setIfInBounds_toArray, List.set_cons_zero, List.set_cons_succ]
      have K6 : (wr.alloc (.cells #[.int .i64 (i : Int), .int .i64 e, .slice a3 ll c3] ST3)).cell? ⟨pb, j * 2, none⟩ = some (.int .i64 e) ∧ (wr.alloc (.cells #[.int .i64 (i : Int), .int .i64 e, .slice a3 ll c3] ST3)).cell? ⟨pb, j * 2 + 1, none⟩ = some (.slice a3 ll c3) := ⟨cell_below K0.1 (below_alloc _ _), cell_below K0.2 (below_alloc _ _)⟩
      refine GoX.one 13 rfl (by kernel_rfl) (by decide) (fun K hK => ?_)
      go_simp
      refine hK.out _ _ K6 (fun _ => ?_)
      clear hK K
      have hP6 := hS.out.below (below_alloc wr (.cells #[.int .i64 (i : Int), .int .i64 e, .slice a3 ll c3] ST3))
      have o6 := hR3.out.alloc (.cells #[.int .i64 (i : Int), .int .i64 e, .slice a3 ll c3] ST3)
      have hb6 := hB.out.alloc hsz (.cells #[.int .i64 (i : Int), .int .i64 e, .slice a3 ll c3] ST3)
      have hsb6 := hb6.size
      have hsb7 : w.heap.size ≤ (wr.alloc (.cells #[.int .i64 (i : Int), .int .i64 e, .slice a3 ll c3] ST3)).heap.size := by omega
      obtain ⟨h1, xs, h2, h3, h4⟩ := hP6
      refine GoX.one 14 rfl (by kernel_rfl) (by decide) (fun K hK => ?_)
      refine step_append_lies _ rfl (.tmp 51) (.tmp 64) 37 rfl w.heap.size ST3 i0 (.agg #[.int .i64 0, .int .i64 0, .slice none 0 0]) 3 40 Tryd.underlying37 hi hz0 hz1 hz2 rfl (by decide) (.slice av j cv) j (scells xs) (by rfl) h3 ⟨wr.heap.size, 0, none⟩ 1 1 [.int .i64 (i : Int), .int .i64 e, SV (a3, ll, c3)] (by rfl) (by rfl) (World.news_of_block (heap_alloc_new wr _)) (by intro u hu; simp at hu; rcases hu with rfl | rfl | rfl <;> rfl) (by decide) (by simp [maxLen]; omega) (by omega) hsb7 _ rfl ?_
      intro g9 c9 w9 hE9 g9' lie9 _
      have gg : (wr.alloc (.cells #[.int .i64 (i : Int), .int .i64 e, .slice a3 ll c3] ST3)).grownBy w9 (Value.slice av j cv).ownBlock := ⟨g9'.os, g9'.tape, g9'.output, g9'.size, g9'.block⟩
      have hb9 := below_grown hb6 gg hGE.out
      have K9 : w9.cell? ⟨pb, j * 2, none⟩ = some (.int .i64 e) ∧ w9.cell? ⟨pb, j * 2 + 1, none⟩ = some (.slice a3 ll c3) := ⟨cell_below ((HXO.out.cellAt (j * 2) (by omega)).trans (HX9.out).1) hb9, cell_below ((HXO.out.cellAt (j * 2 + 1) (by omega)).trans HX9.out.2) hb9⟩
      have hO := sy_append h2 h1 h3 h4 (y := (a3, ll, c3)) (l := l) (z := (i : Int)) (e := e) (by rw [HLL.out] at o6 ⊢; exact o6) HLL.out HR4.out hE9 gg
      rw [symsK_step HPJ.out] at hO
      have HO := Lib.hid hO
      have HG9 : Hid (∀ k, (Value.slice (some ⟨g9, 0, none⟩) (j + 1) c9).ownBlock = some k → w2.heap.size ≤ k) := Lib.hid (fun k h => by
        simp [Value.ownBlock] at h
        subst h
        rcases lie9 with h | h
        · exact hGE.out _ h
        · exact Nat.le_trans hsb6 (Nat.le_of_eq h.symm))
      have HB9 := Lib.hid hb9
      refine hK.out _ _ K9 (fun _ => ?_)
      clear hK K gg hb9 hO hE9 g9' lie9 h3 h4 K6 o6 hb6 hS hGE hB hR3
      simp only [Act.put, List.setIfInBounds_toArray, List.set_cons_zero, List.set_cons_succ]
      refine GoX.last 15 rfl (by kernel_rfl) (by kernel_rfl) (by decide) ?_
      go_wp2
      go_roundw
      case rel =>
        exact ⟨j + 1, by omega, by omega, _, _, ⟨rfl, rfl, rfl⟩, HO, HG9⟩
      case measure => simp [intOf] <;> omega
    · obtain rfl : j = m := by omega
      have hS' := hS.out
      have hsk : symsK (i : Int) ps j = ps.map (symOfPc (i : Int)) := by unfold symsK; rw [List.take_of_length_le (by rw [← HM.out]; exact Nat.le_refl _)]
      rw [hsk] at hS'
      have hln : (ps.map (symOfPc (i : Int))).length = j := by rw [List.length_map]; exact HM.out.symm
      have HS2 := Lib.hid hS'
      have HLN := Lib.hid hln
      clear hS' hln hS hsk
      go_wp2
      go_ret2
      have hp := HS2.out
      have hm := HLN.out
      generalize ps.map (symOfPc (i : Int)) = D at hp hm ⊢
      exact ⟨_, _, by simp only [hm]; rfl, by rw [hm]; exact hp, HBW.out.trans (hB.out.mono hsw)⟩
end Go.Proofs.YtfjcbgfgiidogaaDoor
namespace Go.Proofs.YtfjcbgfgiidogaaDoor
open Go.RowKit

theorem rp_append {w0 w' : World} {B n : Nat} {xs : List (Int × HdT)} {ps : List Pc} {e : Int} {y : HdT} {l : List Nat} {g cap : Nat} (h2 : xs.length = n) (h1 : ps.length = n) (h4 : ∀ (i : Nat) x p, xs[i]? = some x → ps[i]? = some p → x.1 = p.1 ∧ BytesV w0 x.2 p.2) (hy : BytesV w0 y l)
    (hE : w'.ownsRow B PT 2 (.slice (some ⟨g, 0, none⟩) (n + 1) cap) (n + 1) (pcells xs ++ [.int .i64 e, SV y])) : RowP w0 w' B (some ⟨g, 0, none⟩) (n + 1) cap (ps ++ [(e, l)]) := by
  refine ⟨by simp [h1], xs ++ [(e, y)], by simp [h2], by rw [pcells_append]; exact hE, fun i x p a b => ?_⟩
  by_cases hi : i < n
  · rw [List.getElem?_append_left (by omega)] at a
    rw [List.getElem?_append_left (by omega)] at b
    exact h4 i x p a b
  · rw [List.getElem?_append_right (by omega)] at a
    rw [List.getElem?_append_right (by omega), h1, ← h2] at b
    have hi0 := (List.getElem?_eq_some_iff.1 a).1
    simp only [List.length_cons, List.length_nil] at hi0
    have e0 : i - xs.length = 0 := by omega
    rw [e0] at a b
    simp at a b
    subst a b
    exact ⟨rfl, hy⟩
theorem ofBlock_step {ss : List Sy} {i b : Nat} {z e : Int} {l : List Nat} (h : ss[i]? = some (z, e, l)) : ofBlock (ss.take (i + 1)) b = ofBlock (ss.take i) b ++ (if z = (b : Int) then [(e, l)] else []) := by
  rw [take_step ss i _ h, ofBlock_append, ofBlock_one]
set_option maxRecDepth 100000 in
set_option maxHeartbeats 8000000 in
theorem refOf_any (sa : Option Addr) (sn sc : Nat) (ss : List Sy) (b : Nat) (w : World) (h : SyV w sa sn ss) (hsn : sn ≤ 1000) :
    Calls Tryd.prog 43 #[.slice sa sn sc, .int .i64 (b : Int)] w fun e w' => ∃ a n c, e = .returned (.slice a n c) ∧ n ≤ 1000 ∧ PiV w' a n (ofBlock ss b) ∧ Below w.heap.size w w' := by
  obtain ⟨i0, hpi, hz0, hz1, hz2⟩ := info_parts pinfo
  have HS := Lib.hid h
  have HL := Lib.hid h.len
  have HP : Hid (RowP w (w.alloc (.cells #[] PT)) w.heap.size (some ⟨w.heap.size, 0, none⟩) 0 0 (ofBlock (ss.take 0) b)) := Lib.hid ⟨rfl, [], rfl, World.ownsRow_made (base := w.heap.size) (e := PT) (size := 2) w #[] 0 (Nat.le_refl _) (by simp [maxLen]) rfl, fun i x p h => by simp at h⟩
  have HB := Lib.hid (below_alloc w (.cells #[] PT))
  clear h
  go_enter Tryd.func43, Tryd.ntmps43
  go_wp2_with fail
  go_loopw [5, 6] (fun vp vi wr => ∃ (i n : Nat) (av : Option Addr) (cv : Nat), i ≤ sn ∧ n ≤ i ∧ vi = .int .i64 (i : Nat) ∧ vp = .slice av n cv ∧ Hid (RowP w wr w.heap.size av n cv (ofBlock (ss.take i) b)) ∧ Hid (Below w.heap.size w wr)) (fun _ vi _ => (sn - intOf vi).toNat)
  case atStart => exact ⟨0, 0, _, _, Nat.zero_le _, Nat.le_refl _, rfl, rfl, HP, HB⟩
  case round =>
    clear HP HB
    obtain ⟨i, n, av, cv, hi, hni, rfl, rfl, hP, hB⟩ := hrel
    by_cases hlt : i < sn
    · obtain ⟨q, off, z, e, xa, xn, xc, l, rfl, q0, q1, q2, hpi', hby⟩ := HS.out.at hlt
      have r0 := cell_below q0 hB.out
      have K0 : wr.cell? ⟨q, off + i * 3 + 1, none⟩ = some (.int .i64 e) ∧ wr.cell? ⟨q, off + i * 3 + 2, none⟩ = some (.slice xa xn xc) := ⟨cell_below q1 hB.out, cell_below q2 hB.out⟩
      have HT := Lib.hid (ofBlock_step (b := b) hpi')
      have HBY := Lib.hid hby
      have HQ := Lib.hid (And.intro q1 q2)
      have hs6 := hB.out.size
      have j0' : (0 : Int) ≤ (i : Int) := by omega
      have j1' : (i : Int) < (sn : Int) := by omega
      clear q0 q1 q2 hpi' hby
      by_cases hzb : z = (b : Int)
      rotate_left 1
      · have HP2 : Hid (RowP w wr w.heap.size av n cv (ofBlock (ss.take (i + 1)) b)) := Lib.hid (by rw [HT.out, if_neg hzb, List.append_nil]; exact hP.out)
        have hne : (z == (b : Int)) = false := beq_eq_false_iff_ne.2 hzb
        clear K0 hP
        go_wp2
        go_roundw
        case rel => exact ⟨i + 1, n, av, cv, by omega, by omega, by go_num, rfl, HP2, hB⟩
        case measure => simp [intOf]; omega
      · subst hzb
        have heq : ((b : Int) == (b : Int)) = true := by simp
        obtain ⟨h1, xs, h2, h3, h4⟩ := hP.out
        have K6 : (wr.alloc (.cells #[.int .i64 e, .slice xa xn xc] PT)).cell? ⟨q, off + i * 3 + 1, none⟩ = some (.int .i64 e) ∧ (wr.alloc (.cells #[.int .i64 e, .slice xa xn xc] PT)).cell? ⟨q, off + i * 3 + 2, none⟩ = some (.slice xa xn xc) := ⟨cell_below K0.1 (below_alloc _ _), cell_below K0.2 (below_alloc _ _)⟩
        have o6 := h3.alloc (.cells #[.int .i64 e, .slice xa xn xc] PT)
        have hb6 := hB.out.alloc hs6 (.cells #[.int .i64 e, .slice xa xn xc] PT)
        have hsb6 := hb6.size
        have HA := Lib.hid (And.intro h1 h2)
        have H4 := Lib.hid h4
        clear h3 h1 h2 h4
        go_wp2_with fail
        refine GoX.start 14 (fun w' => w'.cell? ⟨q, off + i * 3 + 1, none⟩ = some (.int .i64 e) ∧ w'.cell? ⟨q, off + i * 3 + 2, none⟩ = some (.slice xa xn xc)) (by kernel_rfl) ?_
        refine GoX.take 0 rfl (by kernel_rfl) (by kernel_rfl) (by rfl) (fun _ _ _ h => h) (v := ?tv0) K0 ?ty0 ?tr0
        case ty0 => (intro w hSw; (try dsimp only at hSw); go_simp; first | done | with_reducible rfl)
        simp only [Act.put, List.setIfInBounds_toArray, List.set_cons_zero, List.set_cons_succ]
        refine GoX.take 1 rfl (by kernel_rfl) (by kernel_rfl) (by rfl) (fun _ _ _ h => h) (v := ?tv1) K0 ?ty1 ?tr1
        case ty1 => (intro w hSw; (try dsimp only at hSw); go_simp; first | done | with_reducible rfl)
        simp only [Act.put, List.setIfInBounds_toArray, List.set_cons_zero, List.set_cons_succ]
        refine GoX.take 2 rfl (by kernel_rfl) (by kernel_rfl) (by rfl) (fun _ _ _ h => h) (v := ?tv2) K0 ?ty2 ?tr2
        case ty2 => (intro w hSw; (try dsimp only at hSw); go_simp; first | done | with_reducible rfl)
        simp only [Act.put, List.setIfInBounds_toArray, List.set_cons_zero, List.set_cons_succ]
        refine GoX.take 3 rfl (by kernel_rfl) (by kernel_rfl) (by rfl) (fun _ _ _ h => h) (v := ?tv3) K0 ?ty3 ?tr3
        case ty3 => (intro w hSw; (try dsimp only at hSw); go_simp; first | done | with_reducible rfl)
        simp only [Act.put, List.setIfInBounds_toArray, List.set_cons_zero, List.set_cons_succ]
        refine GoX.take 4 rfl (by kernel_rfl) (by kernel_rfl) (by rfl) (fun _ _ _ h => h) (v := ?tv4) K0 ?ty4 ?tr4
        case ty4 => (intro w hSw; (try dsimp only at hSw); go_simp; first | done | with_reducible rfl)
        simp only [Act.put, List.setIfInBounds_toArray, List.set_cons_zero, List.set_cons_succ]
        refine GoX.take 5 rfl (by kernel_rfl) (by kernel_rfl) (by rfl) (fun _ _ _ h => h) (v := ?tv5) K0 ?ty5 ?tr5
        case ty5 => (intro w hSw; (try dsimp only at hSw); go_simp; first | done | with_reducible rfl)
        simp only [Act.put, List.setIfInBounds_toArray, List.set_cons_zero, List.set_cons_succ]
        refine GoX.take 6 rfl (by kernel_rfl) (by kernel_rfl) (by rfl) (fun _ _ _ h => h) (v := ?tv6) K0 ?ty6 ?tr6
        case ty6 => (intro w hSw; (try dsimp only at hSw); go_simp; first | done | with_reducible rfl)
        simp only [Act.put, List.setIfInBounds_toArray, List.set_cons_zero, List.set_cons_succ]
        refine GoX.take 7 rfl (by kernel_rfl) (by kernel_rfl) (by rfl) (fun _ _ _ h => h) (v := ?tv7) K0 ?ty7 ?tr7
        case ty7 => (intro w hSw; (try dsimp only at hSw); go_simp; first | done | with_reducible rfl)
        simp only [Act.put, List.setIfInBounds_toArray, List.set_cons_zero, List.set_cons_succ]
        refine GoX.take 8 rfl (by kernel_rfl) (by kernel_rfl) (by rfl) (fun _ _ _ h => h) (v := ?tv8) K0 ?ty8 ?tr8
        case ty8 => (intro w hSw; (try dsimp only at hSw); go_simp; first | done | with_reducible rfl)
        simp only [Act.put, List.setIfInBounds_toArray, List.set_cons_zero, List.set_cons_succ]
        refine GoX.take 9 rfl (by kernel_rfl) (by kernel_rfl) (by rfl) (fun _ _ _ h => h) (v := ?tv9) K0 ?ty9 ?tr9
        case ty9 => (intro w hSw; (try dsimp only at hSw); go_simp; first | done | with_reducible rfl)
        simp only [Act.put, List.setIfInBounds_toArray, List.set_cons_zero, List.set_cons_succ]
        refine GoX.take 10 rfl (by kernel_rfl) (by kernel_rfl) (by rfl) (fun _ _ _ h => h) (v := ?tv10) K0 ?ty10 ?tr10
        case ty10 => (intro w hSw; (try dsimp only at hSw); go_simp; first | done | with_reducible rfl)
        simp only [Act.put, List.setIfInBounds_toArray, List.set_cons_zero, List.set_cons_succ]
        refine GoX.take 11 rfl (by kernel_rfl) (by kernel_rfl) (by rfl) (fun _ _ _ h => h) (v := ?tv11) K0 ?ty11 ?tr11
        case ty11 => (intro w hSw; (try dsimp only at hSw); go_simp; first | done | with_reducible rfl)
        simp only [Act.put, List.setIfInBounds_toArray, List.set_cons_zero, List.set_cons_succ]
        refine GoX.one 12 rfl (by kernel_rfl) (by decide) (fun K hK => ?_)
        go_simp
        refine hK.out _ _ K6 (fun _ => ?_)
        clear hK K
        refine GoX.one 13 rfl (by kernel_rfl) (by decide) (fun K hK => ?_)
        refine step_append_lies _ rfl (.tmp 21) (.tmp 33) 68 rfl w.heap.size PT i0 (.agg #[.int .i64 0, .slice none 0 0]) 2 32 Tryd.underlying68 hpi hz0 hz1 hz2 rfl (by decide) (.slice av n cv) n (pcells xs) (by rfl) o6 ⟨wr.heap.size, 0, none⟩ 1 1 [.int .i64 e, SV (xa, xn, xc)] (by rfl) (by rfl) (World.news_of_block (heap_alloc_new wr _)) (by intro u hu; simp at hu; rcases hu with rfl | rfl <;> rfl) (by decide) (by simp [maxLen]; omega) (by omega) hsb6 _ rfl ?_
        intro g9 c9 w9 hE9 g9' lie9 _
        have gg : (wr.alloc (.cells #[.int .i64 e, .slice xa xn xc] PT)).grownBy w9 (Value.slice av n cv).ownBlock := ⟨g9'.os, g9'.tape, g9'.output, g9'.size, g9'.block⟩
        have hb9 := below_grown hb6 gg (ownBlock_ge o6)
        have K9 : w9.cell? ⟨q, off + i * 3 + 1, none⟩ = some (.int .i64 e) ∧ w9.cell? ⟨q, off + i * 3 + 2, none⟩ = some (.slice xa xn xc) := ⟨cell_below HQ.out.1 hb9, cell_below HQ.out.2 hb9⟩
        have hO := rp_append (e := e) (y := (xa, xn, xc)) HA.out.2 HA.out.1 H4.out HBY.out hE9
        have HP2 : Hid (RowP w w9 w.heap.size (some ⟨g9, 0, none⟩) (n + 1) c9 (ofBlock (ss.take (i + 1)) b)) := Lib.hid (by rw [HT.out]; first | (rw [if_pos rfl]; exact hO) | (rw [if_pos trivial]; exact hO))
        have HB9 := Lib.hid hb9
        refine hK.out _ _ K9 (fun _ => ?_)
        clear hK K gg hb9 hO hE9 g9' lie9 K6 o6 hb6 hP hB
        simp only [Act.put, List.setIfInBounds_toArray, List.set_cons_zero, List.set_cons_succ]
        refine GoX.last 14 rfl (by kernel_rfl) (by kernel_rfl) (by decide) ?_
        go_wp2
        go_roundw
        case rel => exact ⟨i + 1, n + 1, some ⟨g9, 0, none⟩, c9, by omega, by omega, by go_num, rfl, HP2, HB9⟩
        case measure => simp [intOf] <;> omega
    · obtain rfl : i = sn := by omega
      have hO := hP.out
      rw [List.take_of_length_le (by rw [HL.out]; exact Nat.le_refl _)] at hO
      have hpi := hO.pi hB.out
      go_wp2
      go_ret
      exact ⟨_, _, _, rfl, by omega, hpi, hB.out⟩
end Go.Proofs.YtfjcbgfgiidogaaDoor
namespace Go.Proofs.YtfjcbgfgiidogaaDoor
open Go.RowKit

set_option maxRecDepth 100000 in
set_option maxHeartbeats 8000000 in
theorem refReady_any (s t : Int) (sa : Option Addr) (sn sc : Nat) (ss : List Sy) (w : World) (h : SyV w sa sn ss) (hsn : sn ≤ 1000) :
    Calls Tryd.prog 32 #[.int .i64 s, .int .i64 t, .slice sa sn sc] w fun e w' => e = .returned (.bool (readyB s t ss)) ∧ Below w.heap.size w w' := by
  obtain ⟨i0, hpi, hz0, hz1, hz2⟩ := info_parts iinfo
  have HL := Lib.hid h.len
  have HS := Lib.hid h
  have KP := refParts_any s t w
  unfold partsR at KP
  clear h
  obtain ⟨G, hG⟩ : ∃ G, G = readyB s t ss := ⟨_, rfl⟩
  have HGE := Lib.hid hG
  rw [← hG]
  clear hG
  by_cases hc : sizeC s t = 0
  rotate_left 1
  · rw [if_neg hc] at KP
    have hcb : (sizeC s t != 0) = true := by rw [bne_iff_ne]; exact hc
    have HX := Lib.hid (show G = false by rw [HGE.out]; unfold readyB; rw [decide_eq_false hc, Bool.false_and])
    clear HGE hc
    generalize sizeC s t = code at hcb HX KP ⊢
    go_enter Tryd.func32, Tryd.ntmps32
    go_wp2_with fail
    (with_reducible refine KP.mono ?_)
    rintro e w1 ⟨a1, c1, rfl, -, b1⟩
    clear KP
    go_wp2
    go_ret
    rw [HX.out]
    exact ⟨rfl, b1⟩
  rw [if_pos hc] at KP
  obtain ⟨g1, g2⟩ := sizeC_zero.1 hc
  obtain ⟨s1, s2⟩ := okS_iff.1 g1
  obtain ⟨t1, t2⟩ := okT_iff.1 g2
  obtain ⟨n1, n2, n3, -⟩ := chN_facts (size := s.toNat) (t := t.toNat) (by omega) (by omega) (by omega)
  have HXB := Lib.hid (show badZ (chZ (chN s.toNat t.toNat)) ss = true → G = false from fun hbz => by rw [HGE.out]; unfold readyB; rw [hbz, Bool.not_true, Bool.false_and, Bool.and_false])
  have HX := Lib.hid (show badZ (chZ (chN s.toNat t.toNat)) ss = false → G = (List.range (chZ (chN s.toNat t.toNat))).all (enZ (chN s.toNat t.toNat) ss) from fun hbz => by
        rw [HGE.out]; unfold readyB; rw [decide_eq_true hc, hbz, Bool.not_false, Bool.true_and, Bool.true_and])
  clear HGE hc g1 g2
  obtain ⟨n, hn⟩ : ∃ n, n = chN s.toNat t.toNat := ⟨_, rfl⟩
  rw [← hn] at n1 n2 n3 HX HXB KP
  clear hn
  obtain ⟨z1, z2, -, -, z3⟩ := chZ_facts n1 n2
  have HKF := Lib.hid (fun i (h : i < chZ n) => chK_facts n1 n2 h)
  have hPL : (partsL n).length = chZ n := partsL_length n
  have HPK : Hid (∀ i, i < chZ n → ((partsL n).map nv')[i]? = some (.int .i64 ((chK n i : Nat) : Int))) := Lib.hid (fun i h => by
    unfold partsL
    rw [List.map_map, List.getElem?_map, List.getElem?_range h]
    rfl)
  unfold GivesN at KP
  simp only [hPL] at KP
  obtain ⟨PL, hPLL⟩ : ∃ P, P = partsL n := ⟨_, rfl⟩
  rw [← hPLL] at KP HPK
  obtain ⟨z, hz⟩ : ∃ z, z = chZ n := ⟨_, rfl⟩
  rw [← hz] at z1 z2 z3 KP HX HXB HKF HPK
  obtain ⟨S, rfl⟩ : ∃ S : Nat, s = (S : Nat) := ⟨s.toNat, by omega⟩
  obtain ⟨T, rfl⟩ : ∃ T : Nat, t = (T : Nat) := ⟨t.toNat, by omega⟩
  rw [Int.toNat_natCast] at n3
  rw [Int.toNat_natCast] at n3
  clear hz hPLL hPL n3
  go_enter Tryd.func32, Tryd.ntmps32
  go_wp2_with fail
  (with_reducible refine KP.mono ?_)
  rintro e w1 ⟨a1, c1, rfl, o1, b1⟩
  obtain ⟨q, rfl⟩ := own_some o1 (by omega)
  have HC : Hid (∀ i, i < z → w1.cell? ⟨q, i, none⟩ = some (.int .i64 ((chK n i : Nat) : Int))) := Lib.hid (fun i hi => (o1.cellAt i (by omega)).trans (HPK.out i hi))
  have HB1 := Lib.hid b1
  have hs1 := b1.size
  have HS1 := Lib.hid (HS.out.below b1)
  clear KP o1 b1 HPK
  go_wp2_with fail
  go_loopw [9] (fun vi wr => ∃ i : Nat, i ≤ sn ∧ vi = .int .i64 (i : Nat) ∧ Hid (∀ x ∈ ss.take i, inZ z x.1 = true) ∧ Hid (Below w1.heap.size w1 wr)) (fun vi _ => (sn - intOf vi).toNat)
  case atStart => exact ⟨0, Nat.zero_le _, rfl, Lib.hid (fun x h => by simp at h), Lib.hid (Below.refl _ _)⟩
  case round =>
    obtain ⟨i, hi, rfl, HZ, HB⟩ := hrel
    by_cases hlt : i < sn
    · obtain ⟨sb, off, z1', e, xa, xn, xc, l, rfl, q0, -, -, hpi, -⟩ := (HS1.out.below HB.out).at hlt
      have HT := Lib.hid (take_step ss i _ hpi)
      have HME := Lib.hid (List.mem_of_getElem? hpi)
      clear hpi
      by_cases h0 : z1' < 0
      · have HXB2 := Lib.hid (HXB.out (by
          rw [← Bool.not_eq_false, badZ_false]
          intro h
          have := inZ_iff.1 (h _ HME.out)
          simp only at this
          omega))
        go_wp2
        go_ret
        rw [HXB2.out]
        exact ⟨rfl, HB1.out.trans (HB.out.mono hs1)⟩
      by_cases h1 : z1' < (z : Int)
      rotate_left 1
      · have h1' : (z : Int) ≤ z1' := by omega
        have HXB2 := Lib.hid (HXB.out (by
          rw [← Bool.not_eq_false, badZ_false]
          intro h
          have := inZ_iff.1 (h _ HME.out)
          simp only at this
          omega))
        go_wp2
        go_ret
        rw [HXB2.out]
        exact ⟨rfl, HB1.out.trans (HB.out.mono hs1)⟩
      have HZ2 := Lib.hid (show ∀ x ∈ ss.take (i + 1), inZ z x.1 = true from fun x hx => by
        rw [HT.out] at hx
        rcases List.mem_append.1 hx with h | h
        · exact HZ.out x h
        · simp only [List.mem_singleton] at h
          subst h
          exact inZ_iff.2 ⟨by simp only; omega, by simp only; omega⟩)
      have h1' : ¬ (z : Int) ≤ z1' := by omega
      have h0' : 0 ≤ z1' := by omega
      go_wp2
      go_roundw
      case rel => exact ⟨i + 1, by omega, by go_num, HZ2, HB⟩
      case measure => simp [intOf]; omega
    · obtain rfl : i = sn := by omega
      have hZ := HZ.out
      rw [List.take_of_length_le (by rw [HL.out]; exact Nat.le_refl _)] at hZ
      have HX1 := Lib.hid (HX.out (badZ_false.2 hZ))
      have HBW := HB
      have HSW := Lib.hid (HS1.out.below HB.out)
      have HCW : Hid (∀ i, i < z → wr.cell? ⟨q, i, none⟩ = some (.int .i64 ((chK n i : Nat) : Int))) := Lib.hid (fun i hi => cell_below (HC.out i hi) HB.out)
      have HB2 := Lib.hid (HB1.out.trans (HB.out.mono hs1))
      obtain ⟨w2, hw2⟩ : ∃ x, x = wr := ⟨_, rfl⟩
      subst hw2
      clear hZ HX HXB HC HB1 HB HS1 HZ
      go_wp2_with fail
      go_loopw [10] (fun vi wr => ∃ (j : Nat), j ≤ z ∧ vi = .int .i64 (j : Nat) ∧ Hid ((List.range j).all (enZ n ss) = true) ∧ Hid (Below w2.heap.size w2 wr)) (fun vi _ => (z - intOf vi).toNat)
      case atStart => exact ⟨0, Nat.zero_le _, rfl, Lib.hid rfl, Lib.hid (Below.refl _ _)⟩
      case round =>
        obtain ⟨j, hj, rfl, HEN, HB⟩ := hrel
        have hs2 := HB2.out.size
        by_cases hjz : j < z
        · have KO := refOf_any sa i sc ss j wr (HSW.out.below HB.out) hsn
          have hbs := HB.out.size
          go_wp2_with fail
          (with_reducible refine KO.mono ?_)
          rintro e w3 ⟨a3, m3, c3, rfl, hm3, hP, b3⟩
          have HB3 := Lib.hid (HB.out.trans (b3.mono hbs))
          have hbs3 := HB3.out.size
          have ca := cell_below (HCW.out j hjz) HB3.out
          have hes : enZ n ss j = enoughB ((chK n j : Nat) : Int) ((ofBlock ss j).map Prod.fst) := rfl
          have HPL := Lib.hid hP.len
          obtain ⟨ps, hps⟩ : ∃ ps, ps = ofBlock ss j := ⟨_, rfl⟩
          obtain ⟨k, hk⟩ : ∃ k, k = chK n j := ⟨_, rfl⟩
          rw [← hps] at hP hes HPL
          rw [← hk] at hes ca
          have HES := Lib.hid hes
          have HP := Lib.hid hP
          have HCA := Lib.hid ca
          have HO0 : Hid ((w3.alloc (.cells #[] 3)).ownsRow w3.heap.size 3 1 (.slice (some ⟨w3.heap.size, 0, none⟩) 0 0) 0 (((ps.take 0).map Prod.fst).map iv)) := Lib.hid (World.ownsRow_made (base := w3.heap.size) (e := 3) (size := 1) w3 #[] 0 (Nat.le_refl _) (by simp [maxLen]) rfl)
          have HBA := Lib.hid (below_alloc w3 (.cells #[] 3))
          clear hes hP hps hk ca KO b3
          go_wp2_with fail
          go_loopw [12, 13] (fun ve vj wr => ∃ (x : Nat) (ea : Option Addr) (ec : Nat), x ≤ m3 ∧ vj = .int .i64 (x : Nat) ∧ ve = .slice ea x ec ∧ Hid (wr.ownsRow w3.heap.size 3 1 (.slice ea x ec) x (((ps.take x).map Prod.fst).map iv)) ∧ Hid (Below w3.heap.size w3 wr)) (fun _ vj _ => (m3 - intOf vj).toNat)
          case atStart => exact ⟨0, _, _, Nat.zero_le _, rfl, rfl, HO0, HBA⟩
          case round =>
            clear HO0 HBA
            obtain ⟨x, ea, ec, hx', rfl, rfl, HO, HBS⟩ := hrel
            by_cases hxm : x < m3
            · obtain ⟨b, off, z0, a2, n2', c2', l, rfl, q0, q1, hpj, -⟩ := (HP.out.below HBS.out).at hxm
              have HPJ := Lib.hid (show ((ps.take (x + 1)).map Prod.fst).map iv = ((ps.take x).map Prod.fst).map iv ++ [iv z0] by rw [take_step ps x _ hpj]; simp)
              have hbb := HBS.out.size
              have o8 := HO.out.alloc (.cells #[.int .i64 z0] 3)
              have hb8 := HBS.out.alloc hbb (.cells #[.int .i64 z0] 3)
              clear hpj q1
              go_wp2_with (first | (at_builtin; refine Hid.out ?_))
              refine Lib.hid ?_
              refine wpList_append_row rfl _ _ 24 rfl w3.heap.size 3 i0 (.int .i64 0) 8 Tryd.underlying24 hpi hz0 hz1 hz2 rfl _ _ _ rfl o8 (some ⟨wr.heap.size, 0, none⟩) 1 1 ([z0].map iv) rfl (rowV_lit wr _ _ _ 1 _ rfl rfl rfl) (fun h => by cases h) (iv_oneQ _) (by unfold maxLen; omega) (by omega) hb8.size ?_
              intro v9 w9 hE9 g9 _
              have hb9 := below_grown hb8 g9 (ownBlock_ge o8)
              obtain ⟨a9, c9, rfl, -⟩ := ownsRow_parts hE9
              rw [List.map_cons, List.map_nil, ← HPJ.out] at hE9
              have HO9 := Lib.hid hE9
              have HB9 := Lib.hid hb9
              clear hE9 g9 hb9 o8 hb8 HO q0
              go_wp2
              go_roundw
              case rel => exact ⟨x + 1, a9, c9, by omega, by go_num, rfl, HO9, HB9⟩
              case measure => simp [intOf]; omega
            · obtain rfl : x = m3 := by omega
              have hO := HO.out
              rw [List.take_of_length_le (by rw [HPL.out]; exact Nat.le_refl _)] at hO
              have KE := refEnough_rd ((k : Nat) : Int) ea x ec (ps.map Prod.fst) wr (intsV_ownsC hO (by omega))
              rw [← HES.out] at KE
              have hbb := HBS.out.size
              have ca := cell_below HCA.out HBS.out
              clear hO HO
              go_wp2_with fail
              (with_reducible refine KE.mono ?_)
              rintro e w9 ⟨rfl, b9⟩
              clear KE
              have HB9 := Lib.hid (HB3.out.trans ((HBS.out.trans (b9.mono hbb)).mono hbs3))
              clear b9 ca
              cases he : enZ n ss j
              · have HX2 := Lib.hid (show G = false by
                  rw [HX1.out, ← Bool.not_eq_true, List.all_eq_true]
                  intro h
                  have := h j (List.mem_range.2 hjz)
                  rw [he] at this; cases this)
                clear he
                go_wp2
                go_ret
                exact ⟨by rw [HX2.out]; rfl, HB2.out.trans (HB9.out.mono hs2)⟩
              · have HEN2 := Lib.hid (show (List.range (j + 1)).all (enZ n ss) = true by
                  rw [List.range_succ, List.all_append, HEN.out, Bool.true_and, List.all_cons, he]; rfl)
                clear he
                go_wp2
                go_roundw
                case rel => exact ⟨j + 1, by omega, by go_num, HEN2, HB9⟩
                case measure => simp [intOf]; omega
        · obtain rfl : j = z := by omega
          have HX2 := Lib.hid (show G = true by rw [HX1.out, HEN.out])
          go_wp2
          go_ret
          exact ⟨by rw [HX2.out]; rfl, HB2.out.trans (HB.out.mono hs2)⟩
end Go.Proofs.YtfjcbgfgiidogaaDoor
