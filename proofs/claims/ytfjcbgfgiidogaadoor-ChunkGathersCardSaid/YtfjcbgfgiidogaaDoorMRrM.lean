/-
  rillref04: rows, solve.
-/
import Derived.Test.YtfjcbgfgiidogaaDoorMLjJ
import Derived.Test.YtfjcbgfgiidogaaDoorMRrK
namespace Go.Proofs.YtfjcbgfgiidogaaDoor
open Go.RowKit

theorem HdV.first {w : World} {B n c : Nat} {a : Option Addr} {ls : List (List Nat)} (h : HdV w B a n c ls) (h0 : 0 < n) : ∃ g, a = some ⟨g, 0, none⟩ := by
  obtain ⟨_, hs, h1, -⟩ := h
  exact own_some h1 h0
theorem HdV.made {w : World} {B : Nat} (hB : B ≤ w.heap.size) : HdV (w.alloc (.cells #[] 22)) B (some ⟨w.heap.size, 0, none⟩) 0 0 [] :=
  ⟨rfl, [], World.ownsRow_made (base := B) (e := 22) (size := 1) w #[] 0 hB (by simp [maxLen]) rfl, rfl, fun i x l h => by simp at h⟩
theorem HdV.rebase {w : World} {B B' n c : Nat} {a : Option Addr} {ls : List (List Nat)} (h : HdV w B a n c ls) (hB : B' ≤ B) (hr : ∀ (x : HdT) l, RowAt w B x l → RowAt w B' x l) : HdV w B' a n c ls := by
  obtain ⟨h0, hs, h1, h2, h3⟩ := h
  exact ⟨h0, hs, ownsRow_base h1 hB, h2, fun i x l a b => hr x l (h3 i x l a b)⟩
set_option maxRecDepth 100000 in
set_option maxHeartbeats 8000000 in
theorem refRows_own (m : Nat) (w : World) (h1 : 1 ≤ m) (hk : m ≤ 32) :
    Calls Tryd.prog 71 #[.int .i64 (m : Int)] w fun e w' => ∃ g c, e = .returned (.slice (some ⟨g, 0, none⟩) m c) ∧ RD w' (some ⟨g, 0, none⟩) m (placesL m m) ∧ Below w.heap.size w w' := by
  obtain ⟨i0, hi0, hz0, hz1, hz2⟩ := info_parts Tryd.info22
  have HPB : Hid (∀ x, Bytes (placeR m x) ∧ (placeR m x).length ≤ 47) := Lib.hid (fun x => ⟨placeR_bytes m x, by rw [placeR_length]; exact (cL_facts h1 hk).2.1⟩)
  have HST := Lib.hid (fun x => placesL_succ m x)
  have KR : Hid (∀ x W, x < m → Calls Tryd.prog 58 #[.int .i64 (m : Int), .int .i64 (x : Int)] W (GivesB W (placeR m x, 0))) := Lib.hid (fun x W hx => by
    have := refRow_rd (m : Int) (x : Int) W
    unfold rowR at this
    rw [if_pos (okK_iff.2 ⟨by omega, by omega⟩), if_pos (okE_iff.2 ⟨by omega, by omega⟩), Int.toNat_natCast, Int.toNat_natCast] at this
    unfold symR at this
    rw [if_pos hx] at this
    exact this)
  have HM0 := Lib.hid (HdV.made (B := w.heap.size) (w := w) (Nat.le_refl _))
  have HB0 := Lib.hid (below_alloc w (.cells #[] 22))
  go_enter Tryd.func71, Tryd.ntmps71
  go_upto_block 0 with fail
  generalize w.alloc (.cells #[] 22) = w1 at HM0 HB0 ⊢
  go_wp2_with fail
  go_loopw [3, 4] (fun vo vi wr => ∃ (i g c : Nat), i ≤ m ∧ vi = .int .i64 (i : Nat) ∧ vo = .slice (some ⟨g, 0, none⟩) i c ∧ Hid (HdV wr w.heap.size (some ⟨g, 0, none⟩) i c (placesL m i)) ∧ Hid (Below w.heap.size w wr)) (fun _ vi _ => (m - intOf vi).toNat)
  case atStart => exact ⟨0, _, 0, Nat.zero_le _, rfl, rfl, HM0, HB0⟩
  case round =>
    clear HM0 HB0
    obtain ⟨i, g, c, hi, rfl, rfl, hM, hB⟩ := hrel
    by_cases hlt : i < m
    · have K := KR.out i wr hlt
      have hsz := hB.out.size
      obtain ⟨r, hr⟩ : ∃ r, r = placeR m i := ⟨_, rfl⟩
      have hrb := HPB.out i
      have hst := HST.out i
      rw [← hr] at K hrb hst
      have HRB := Lib.hid hrb
      have HS := Lib.hid hst
      clear hr hrb hst
      go_wp2_with fail
      (with_reducible refine K.mono ?_)
      rintro e w7 ⟨a8, c8, rfl, o8, b7⟩
      simp only at o8 ⊢
      have hM7 := (hM.out.below b7).below (below_alloc w7 (.cells #[.slice a8 r.length c8] 22))
      have hb7 := hB.out.trans (b7.mono hsz)
      have hb8 := hb7.alloc hb7.size (.cells #[.slice a8 r.length c8] 22)
      have hat : RowAt (w7.alloc (.cells #[.slice a8 r.length c8] 22)) w.heap.size (a8, r.length, c8) r := own_at (b := wr.heap.size) (o8.alloc _) rfl HRB.out.1 (by have := HRB.out.2; omega)
      obtain ⟨hl7, hs7, ho7, hq7, hr7⟩ := hM7
      have hbs := hb8.size
      have HB8 := Lib.hid hb8
      have HQ7 := Lib.hid hq7
      have HR7 := Lib.hid hr7
      have HAT := Lib.hid hat
      clear K o8 b7 hb7 hM hB hat hq7 hr7 hl7 hb8
      go_wp2_with (first | (at_builtin; refine Hid.out ?_))
      refine Lib.hid ?_
      refine wpList_append_lies _ rfl _ _ 35 rfl w.heap.size 22 i0 (.slice none 0 0) 1 24 Tryd.underlying35 hi0 hz0 hz1 hz2 rfl (by decide) _ _ _ rfl ho7 ⟨w7.heap.size, 0, none⟩ 1 1 [SV (a8, r.length, c8)] rfl rfl (World.news_of_block (heap_alloc_new w7 _)) (by intro u hu; simp at hu; subst hu; rfl) (by decide) (by unfold maxLen; omega) (by omega) hbs _ rfl ?_
      intro g9 c9 w9 hE9 g9' _ _
      have hb9 := below_grown HB8.out g9' (fun k e => ownBlock_ge ho7 k e)
      obtain ⟨a9, c9', e9, hM9⟩ := hd_append (ks := [(a8, r.length, c8)]) (xs := [r]) ho7 HQ7.out HR7.out rfl rfl (one_at HAT.out) hE9 g9'
      cases e9
      rw [← HS.out] at hM9
      have HM9 := Lib.hid hM9
      have HB9 := Lib.hid hb9
      clear hE9 g9' ho7 hM9 hb9
      go_wp2
      go_roundw
      case rel => exact ⟨i + 1, g9, c9, by omega, by go_num, rfl, HM9, HB9⟩
      case measure => simp [intOf] <;> omega
    · obtain rfl : i = m := by omega
      clear hi
      go_wp2
      go_ret
      exact ⟨g, c, rfl, hM.out.rd, hB.out⟩

theorem width_rep {n t : Nat} {V : List (List Nat)} (h : 0 < n) : widthB (List.replicate n (zs t) ++ V) = t := by
  unfold widthB
  rw [List.getD_eq_getElem?_getD, List.getElem?_append_left (by simpa using h), List.getElem?_replicate, if_pos h]
  exact zs_length t
set_option maxRecDepth 100000 in
set_option maxHeartbeats 16000000 in
theorem refSolve4_rd (m t : Nat) (ar : Addr) (nr cr : Nat) (R : List (List Nat)) (ax : Addr) (nx cx : Nat) (V : List (List Nat)) (w : World) (h1 : 1 ≤ m) (hk : m ≤ 32) (ht : t ≤ 64) (h : RD w (some ar) nr R) (k : RD w (some ax) nx V) (hn : nr ≤ 500) (hx : nx = nr) (hR : AllL (cL m) R) :
    Calls Tryd.prog 69 #[.int .i64 (m : Int), .int .i64 (t : Int), .slice (some ar) nr cr, .slice (some ax) nx cx] w (GivesR w (solveR ((cL m : Nat) : Int) (fixedL m ++ R) (List.replicate (cL m - m) (zs t) ++ V))) := by
  obtain ⟨i0, hi0, hz0, hz1, hz2⟩ := info_parts Tryd.info22
  obtain ⟨j0, hj0, hy0, hy1, hy2⟩ := info_parts Tryd.info5
  have KM := refFixed_ok m w h1 hk
  obtain ⟨f1, f2, f3⟩ := cL_facts h1 hk
  have HFA : Hid (AllL (cL m) (fixedL m ++ R)) := Lib.hid (all_app (fixed_all m) hR)
  obtain ⟨L, hL⟩ : ∃ L, L = cL m := ⟨_, rfl⟩
  rw [← hL] at KM f1 f2 f3 HFA ⊢
  obtain ⟨F, hF⟩ : ∃ F, F = fixedL m := ⟨_, rfl⟩
  rw [← hF] at KM HFA ⊢
  have HR := Lib.hid h
  have HX := Lib.hid k
  have HRL := Lib.hid h.1
  have HXL := Lib.hid k.1
  obtain ⟨N, hN⟩ : ∃ N, N = L - m := ⟨_, rfl⟩
  rw [← hN] at KM ⊢
  have hN0 : 0 < N := by omega
  have hN47 : N ≤ 47 := by omega
  obtain ⟨OUT, hO⟩ : ∃ O, O = solveR ((L : Nat) : Int) (F ++ R) (List.replicate N (zs t) ++ V) := ⟨_, rfl⟩
  rw [← hO]
  have HO := Lib.hid hO
  clear hO hL hF h k hR hN
  go_enter Tryd.func69, Tryd.ntmps69
  go_wp2_with fail
  (with_reducible refine KM.mono ?_)
  rintro e w1 ⟨g, c, rfl, hM, hb⟩
  have hbs := hb.size
  have hV0 := HdV.made (B := w.heap.size) (w := w1) hbs
  have HM := Lib.hid (hM.below (below_alloc w1 (.cells #[] 22)))
  have HB := Lib.hid (hb.trans ((below_alloc w1 (.cells #[] 22)).mono hbs))
  have HV : Hid (HdV (w1.alloc (.cells #[] 22)) w.heap.size (some ⟨w1.heap.size, 0, none⟩) 0 0 (List.replicate 0 (zs t))) := Lib.hid hV0
  have hgl := hM.lt.2
  have hgne : g ≠ w1.heap.size := by omega
  clear KM hM hb hV0 hgl hbs
  go_upto_block 0 with fail
  generalize w1.alloc (.cells #[] 22) = w2 at HM HB HV ⊢
  obtain ⟨gv, hgv⟩ : ∃ g, g = w1.heap.size := ⟨_, rfl⟩
  rw [← hgv] at HV hgne ⊢
  clear hgv
  go_wp2_with fail
  go_loopw [12, 13] (fun vo vi wr => ∃ (i gv cv : Nat), i ≤ N ∧ g ≠ gv ∧ vi = .int .i64 (i : Nat) ∧ vo = .slice (some ⟨gv, 0, none⟩) i cv ∧ Hid (HdV wr w.heap.size (some ⟨gv, 0, none⟩) i cv (List.replicate i (zs t))) ∧ Hid (HdV wr w.heap.size (some ⟨g, 0, none⟩) N c F) ∧ Hid (Below w.heap.size w wr)) (fun _ vi _ => (N - intOf vi).toNat)
  case atStart => exact ⟨0, gv, 0, Nat.zero_le _, hgne, rfl, rfl, HV, HM, HB⟩
  case round =>
    clear HV HM HB hgne
    obtain ⟨i, gv, cv, hi, hgne, rfl, rfl, hV, hM, hB⟩ := hrel
    by_cases hlt : i < N
    · have hsz := hB.out.size
      go_wp2_with (first | (at_make; refine Hid.out ?_))
      refine Lib.hid ?_
      refine wpList_make_full _ rfl _ _ 22 rfl wr.heap.size 5 j0 (.int .u8 0) 1 Tryd.underlying22 hj0 hy0 hy1 _ _ _ _ t rfl rfl rfl rfl (by rw [hy2]; omega) (by unfold maxLen; omega) (Nat.le_refl _) ?_
      intro w3 hown3 hgrow3
      rw [show (Value.int .u8 0).cells = #[.int .u8 0] from rfl, Nat.mul_one, toList_madeCells_one, ← bv_zs] at hown3
      have b3 : Below wr.heap.size wr w3 := ⟨hgrow3.os, hgrow3.tape, hgrow3.output, hgrow3.size, fun i hi => hgrow3.block i hi (by simp)⟩
      have hM7 := (hM.out.below b3).below (below_alloc w3 (.cells #[.slice (some ⟨wr.heap.size, 0, none⟩) t t] 22))
      have hV7 := (hV.out.below b3).below (below_alloc w3 (.cells #[.slice (some ⟨wr.heap.size, 0, none⟩) t t] 22))
      have hb7 := hB.out.trans (b3.mono hsz)
      have hb8 := hb7.alloc hb7.size (.cells #[.slice (some ⟨wr.heap.size, 0, none⟩) t t] 22)
      have hat : RowAt (w3.alloc (.cells #[.slice (some ⟨wr.heap.size, 0, none⟩) t t] 22)) w.heap.size (some ⟨wr.heap.size, 0, none⟩, t, t) (zs t) := own_at (b := wr.heap.size) (by rw [zs_length]; exact hown3.alloc _) (zs_length t).symm (zs_bytes t) (by rw [zs_length]; omega)
      obtain ⟨hl7, hs7, ho7, hq7, hr7⟩ := hV7
      have hbs := hb8.size
      have hgl := hM7.lt.2
      have HB8 := Lib.hid hb8
      have HM7 := Lib.hid hM7
      have HQ7 := Lib.hid hq7
      have HR7 := Lib.hid hr7
      have HAT := Lib.hid hat
      have HGL := Lib.hid hgl
      clear hown3 hgrow3 b3 hb7 hM hB hV hat hq7 hr7 hl7 hb8 hM7 hgl
      go_wp2_with (first | (at_builtin; refine Hid.out ?_))
      refine Lib.hid ?_
      refine wpList_append_lies _ rfl _ _ 35 rfl w.heap.size 22 i0 (.slice none 0 0) 1 24 Tryd.underlying35 hi0 hz0 hz1 hz2 rfl (by decide) _ _ _ rfl ho7 ⟨w3.heap.size, 0, none⟩ 1 1 [SV (some ⟨wr.heap.size, 0, none⟩, t, t)] rfl rfl (World.news_of_block (heap_alloc_new w3 _)) (by intro u hu; simp at hu; subst hu; rfl) (by decide) (by unfold maxLen; omega) (by omega) hbs _ rfl ?_
      intro g9 c9 w9 hE9 g9' hat9 _
      have hb9 := below_grown HB8.out g9' (fun k e => ownBlock_ge ho7 k e)
      have hM9 := HM7.out.keep g9' (own_row ho7) (.inr (show (some g : Option Nat) ≠ some gv from fun e => hgne (Option.some.inj e)))
      obtain ⟨a9, c9', e9, hV9⟩ := hd_append (ks := [(some ⟨wr.heap.size, 0, none⟩, t, t)]) (xs := [zs t]) ho7 HQ7.out HR7.out rfl rfl (one_at HAT.out) hE9 g9'
      cases e9
      rw [rep_succ] at hV9
      have hne9 : g ≠ g9 := by
        rcases hat9 with e | e
        · have e' : some gv = some g9 := e
          intro e2; exact hgne (e2.trans (Option.some.inj e').symm)
        · rw [e]; exact Nat.ne_of_lt HGL.out
      have HM9 := Lib.hid hM9
      have HV9 := Lib.hid hV9
      have HB9 := Lib.hid hb9
      clear hE9 g9' ho7 hM9 hV9 hb9 hat9
      go_wp2
      go_roundw
      case rel => exact ⟨i + 1, g9, c9, by omega, hne9, by go_num, rfl, HV9, HM9, HB9⟩
      case measure => simp [intOf] <;> omega
    · obtain rfl : i = N := by omega
      subst hx
      by_cases h0 : 0 < nx
      · obtain ⟨ks, k1, k2, k3⟩ := rd_rows HR.out (Nat.le_refl _) hB.out
        obtain ⟨ls, l1, l2, l3⟩ := rd_rows HX.out (Nat.le_refl _) hB.out
        have hkn : ks.length = nx := by rw [k1]; exact HRL.out
        have hln : ls.length = nx := by rw [l1]; exact HXL.out
        obtain ⟨hl7, hs7, ho7, hq7, hr7⟩ := hM.out
        have hsz := hB.out.size
        have HQ7 := Lib.hid hq7
        have HR7 := Lib.hid hr7
        have HK1 := Lib.hid k1
        have HK2 := Lib.hid k2
        have HK3 := Lib.hid k3
        have HL1 := Lib.hid l1
        have HL2 := Lib.hid l2
        have HL3 := Lib.hid l3
        have HKN := Lib.hid hkn
        have HLN := Lib.hid hln
        have hvl := hV.out.lt.2
        have HVL := Lib.hid hvl
        clear hl7 hq7 hr7 hM k1 k2 k3 l1 l2 l3 hkn hln hvl
        go_wp2_with (first | (at_builtin; refine Hid.out ?_))
        refine Lib.hid ?_
        refine wpList_append_lies _ rfl _ _ 35 rfl w.heap.size 22 i0 (.slice none 0 0) 1 24 Tryd.underlying35 hi0 hz0 hz1 hz2 rfl (by decide) _ _ _ rfl ho7 ar nx cr (ks.map SV) rfl (by have := HKN.out; simp; omega) (news_of_row HK2.out) (SV_one ks) h0 (by unfold maxLen; omega) (by omega) hsz _ rfl ?_
        intro gA cA w5 hE5 g5 hat5 _
        obtain ⟨a5, c5', e5, hM5⟩ := hd_append (ks := ks) (xs := R) ho7 HQ7.out HR7.out HK1.out HKN.out HK3.out hE5 g5
        cases e5
        have hV5 := hV.out.keep g5 (own_row ho7) (.inr (show (some gv : Option Nat) ≠ some g from fun e => hgne (Option.some.inj e).symm))
        have hb5 := below_grown hB.out g5 (fun k e => ownBlock_ge ho7 k e)
        have hne5 : gA ≠ gv := by
          rcases hat5 with e | e
          · have e' : some g = some gA := e
            intro e2; exact hgne ((Option.some.inj e').trans e2)
          · rw [e]; exact Nat.ne_of_gt HVL.out
        have hl5 : ∀ (i : Nat) x l, ls[i]? = some x → V[i]? = some l → RowAt w5 w.heap.size x l := fun i x l a b => (HL3.out i x l a b).keep g5 (own_row ho7)
        have hax : ax.block < w.heap.size := by
          obtain ⟨_, hs, q1, -⟩ := HX.out
          exact q1.lt h0 rfl
        have hr5 : RowV w5 (some ax) nx (ls.map SV) := HL2.out.kept' (fun hl a e => g5.block _ (HL2.out.lt hl e) (fun e2 => by
          have := ownBlock_ge ho7 _ e2.symm
          injection e with e
          rw [← e] at this
          omega))
        obtain ⟨hl8, hs8, ho8, hq8, hr8⟩ := hV5
        have hs5 := hb5.size
        have HM5 := Lib.hid hM5
        have HQ8 := Lib.hid hq8
        have HR8 := Lib.hid hr8
        have HB5 := Lib.hid hb5
        have HL5 := Lib.hid hl5
        have HRV := Lib.hid hr5
        clear hE5 g5 hat5 ho7 hM5 hV hB hb5 hl5 hr5 hl8 hq8 hr8 hsz
        go_wp2_with (first | (at_builtin; refine Hid.out ?_))
        refine Lib.hid ?_
        refine wpList_append_lies _ rfl _ _ 35 rfl w.heap.size 22 i0 (.slice none 0 0) 1 24 Tryd.underlying35 hi0 hz0 hz1 hz2 rfl (by decide) _ _ _ rfl ho8 ax nx cx (ls.map SV) rfl (by have := HLN.out; simp; omega) (news_of_row HRV.out) (SV_one ls) h0 (by unfold maxLen; omega) (by omega) hs5 _ rfl ?_
        intro gB cB wF hE6 g6 _ _
        obtain ⟨a6, c6', e6, hV6⟩ := hd_append (ks := ls) (xs := V) ho8 HQ8.out HR8.out HL1.out HLN.out HL5.out hE6 g6
        cases e6
        have HMF := Lib.hid (HM5.out.keep g6 (own_row ho8) (.inr (show (some gA : Option Nat) ≠ some gv from fun e => hne5 (Option.some.inj e))))
        have HVF := Lib.hid hV6
        have HBF := Lib.hid (below_grown HB5.out g6 (fun k e => ownBlock_ge ho8 k e))
        clear hE6 g6 ho8 hV6 HM5 HB5
        obtain ⟨ax', cx', p0⟩ := HMF.out.cell0 (by omega) HFA.out
        have KS := refSolve_rd ((L : Nat) : Int) (some ⟨gA, 0, none⟩) (i + nx) cA (F ++ R) (some ⟨gB, 0, none⟩) (i + nx) cB (List.replicate i (zs t) ++ V) wF HMF.out.rd HVF.out.rd (by omega) (by omega) (fun _ => by rw [width_rep (by omega)]; omega)
        rw [← HO.out] at KS
        have hpos : 0 < i + nx := by omega
        have hsF := HBF.out.size
        go_wp2_with fail
        (with_reducible refine KS.mono ?_)
        rintro e w9 ⟨a9, c9, rfl, h9, b9⟩
        have hb9 := HBF.out.trans (b9.mono hsF)
        clear KS b9
        go_wp2
        go_ret2
        exact ⟨a9, c9, rfl, h9, hb9⟩
      · obtain rfl : nx = 0 := by omega
        have hRn : R = [] := List.eq_nil_of_length_eq_zero HRL.out
        have hVn : V = [] := List.eq_nil_of_length_eq_zero HXL.out
        subst hRn hVn
        have hcap : i ≤ c := by
          obtain ⟨_, hs, q1, -⟩ := hM.out
          obtain ⟨_, _, e, -, q, -⟩ := ownsRow_parts q1
          cases e; exact q
        have hcapv : i ≤ cv := by
          obtain ⟨_, hs, q1, -⟩ := hV.out
          obtain ⟨_, _, e, -, q, -⟩ := ownsRow_parts q1
          cases e; exact q
        have HMF : Hid (HdV wr w.heap.size (some ⟨g, 0, none⟩) i c (F ++ [])) := Lib.hid (by rw [List.append_nil]; exact hM.out)
        have HVF : Hid (HdV wr w.heap.size (some ⟨gv, 0, none⟩) i cv (List.replicate i (zs t) ++ [])) := Lib.hid (by rw [List.append_nil]; exact hV.out)
        obtain ⟨ax', cx', p0⟩ := HMF.out.cell0 (by omega) HFA.out
        have KS := refSolve_rd ((L : Nat) : Int) (some ⟨g, 0, none⟩) i c (F ++ []) (some ⟨gv, 0, none⟩) i cv (List.replicate i (zs t) ++ []) wr HMF.out.rd HVF.out.rd (by omega) (by omega) (fun _ => by rw [width_rep (by omega)]; omega)
        rw [← HO.out] at KS
        have hsF := hB.out.size
        go_wp2_with fail
        (with_reducible refine KS.mono ?_)
        rintro e w9 ⟨a9, c9, rfl, h9, b9⟩
        have hb9 := hB.out.trans (b9.mono hsF)
        clear KS b9
        go_wp2
        go_ret2
        exact ⟨a9, c9, rfl, h9, hb9⟩
end Go.Proofs.YtfjcbgfgiidogaaDoor
