/-
  sha: ShaCuts' walk.
-/
import Derived.Test.YthofndobmiamjaaDoorShO
namespace Go.Proofs.YthofndobmiamjaaDoor
open Go.RowKit

theorem and127 (z : Int) : ∃ m : Nat, m ≤ 127 ∧ bits .and .i64 z 127 = (m : Int) := by
  refine ⟨(BitVec.ofInt 64 z &&& 127#64).toNat, ?_, ?_⟩
  · rw [BitVec.toNat_and]
    exact Nat.le_trans Nat.and_le_right (by decide)
  · show IntKind.i64.wrap ((BitVec.ofInt 64 z &&& BitVec.ofInt 64 127).toNat : Int) = _
    rw [show BitVec.ofInt 64 127 = 127#64 by decide]
    have h : (BitVec.ofInt 64 z &&& 127#64).toNat ≤ 127 := by
      rw [BitVec.toNat_and]
      exact Nat.le_trans Nat.and_le_right (by decide)
    exact wrap_i64_id _ (by omega) (by omega)
theorem BytesV.takeP {w : World} {a : Option Addr} {n c m : Nat} {l : List Nat} (h : BytesV w (a, n, c) l) (hm : m ≤ n) : BytesV w (a, m, c) (l.take m) := by
  have hs := h.small
  have hc := h.cap
  simp only at hs hc
  refine ⟨?_, fun x hx => h.bytes x (List.mem_of_mem_take hx), by simp only; omega, by simp only; omega, h.nil⟩
  rw [List.map_take]
  refine ⟨by simp [h.length]; omega, fun h0 => ?_⟩
  obtain ⟨b, o, e, hcc⟩ := h.row.2 (by simp only at h0 ⊢; omega)
  exact ⟨b, o, e, fun i hi => by simp only at hi; rw [hcc i (by simp only; omega), List.getElem?_take, if_pos hi]⟩
theorem BytesV.restP {w : World} {b o n c m : Nat} {l : List Nat} (h : BytesV w (some ⟨b, o, none⟩, n, c) l) (hm : m ≤ n) : BytesV w ((if c - m = 0 then some ⟨b, o, none⟩ else some ⟨b, o + m, none⟩), n - m, c - m) (l.drop m) := by
  have hs := h.small
  have hc := h.cap
  simp only at hs hc
  refine ⟨?_, fun x hx => h.bytes x (List.mem_of_mem_drop hx), by simp only; omega, by simp only; omega, fun e => by simp only at e; split at e <;> cases e⟩
  rw [List.map_drop]
  refine ⟨by simp [h.length], fun h0 => ?_⟩
  simp only at h0
  obtain ⟨b', o', e, hcc⟩ := h.row.2 (by simp only; omega)
  cases e
  simp only
  rw [if_neg (by omega)]
  exact ⟨b, o + m, rfl, fun i hi => by rw [List.getElem?_drop, ← hcc (m + i) (by simp only; omega), Nat.add_assoc]⟩
theorem bytesV_none (w : World) : BytesV w (none, 0, 0) [] := ⟨⟨rfl, fun h => by simp at h⟩, fun x hx => by simp at hx, Nat.zero_le _, Nat.le_refl _, fun _ => rfl⟩
/-- the loop that cuts: parts so far and the rest, all in the copy's memory. -/
structure CutS (w wr : World) (cv pv : Value) (k : Nat) (js : List Hd3) (ps : List (List Nat)) (x : Hd3) (rl l : List Nat) : Prop where
  bel : Below w.heap.size w wr
  own : wr.ownsRow w.heap.size 24 1 pv k (js.map SV)
  rows : RowsV wr js ps
  rest : BytesV wr x rl
  cat : ps.flatten ++ rl = l
  cp : wr.ownsRow w.heap.size 5 1 cv l.length (l.map bv)
  blk : ∀ y ∈ x :: js, 0 < y.2.1 → ∀ a, y.1 = some a → cv.ownBlock = some a.block
theorem CutS.step {w wr w3 : World} {cv pv pv' : Value} {k : Nat} {js : List Hd3} {ps : List (List Nat)} {x y z : Hd3} {rl yl zl l : List Nat} (h : CutS w wr cv pv k js ps x rl l) {o : Obj} (hown : w3.ownsRow w.heap.size 24 1 pv' (k + 1) (js.map SV ++ [SV y])) (hg : (wr.alloc o).grownBy w3 pv.ownBlock)
    (hy : BytesV wr y yl) (hz : BytesV wr z zl) (hc : yl ++ zl = rl) (by_ : 0 < y.2.1 → ∀ a, y.1 = some a → cv.ownBlock = some a.block) (bz : 0 < z.2.1 → ∀ a, z.1 = some a → cv.ownBlock = some a.block) : CutS w w3 cv pv' (k + 1) (js ++ [y]) (ps ++ [yl]) z zl l := by
  have hne := own_ne h.cp h.own (by decide)
  have hk : ∀ (u : Hd3) (ul : List Nat), BytesV wr u ul → (0 < u.2.1 → ∀ a, u.1 = some a → cv.ownBlock = some a.block) → BytesV w3 u ul := fun u ul hu hb => by
    refine BytesV.keptS (hu.alloc (o := o)) fun h0 a ha => ?_
    have hlt := hu.row.lt h0 ha
    refine hg.block _ (by simp; omega) fun e => ?_
    have h1 := hb h0 a ha
    rcases hne with q | q
    · rw [q] at h1; cases h1
    · exact q (by rw [h1, e])
  refine ⟨grow_step h.bel o h.own hg, by rw [List.map_append]; exact hown, ?_, hk z zl hz bz, ?_, ?_, ?_⟩
  · refine rowsV_snoc ⟨h.rows.1, fun i u ul h1 h2 => hk u ul (h.rows.2 i u ul h1 h2) (h.blk u (List.mem_cons_of_mem _ (List.mem_of_getElem? h1)))⟩ (hk y yl hy by_)
  · rw [List.flatten_append, ← h.cat, ← hc]; simp
  · exact (h.cp.alloc o).kept hg hne
  · intro u hu
    rcases List.mem_cons.1 hu with rfl | hu
    · exact bz
    · rcases List.mem_append.1 hu with hu | hu
      · exact h.blk u (List.mem_cons_of_mem _ hu)
      · rw [List.mem_singleton.1 hu]; exact by_
set_option maxRecDepth 100000 in
set_option maxHeartbeats 4000000 in
theorem shaCuts_walk (a0 : Option Addr) (n0 c0 : Nat) (l : List Nat) (a1 : Option Addr) (n1 c1 : Nat) (l1 : List Int) (W : World) (hg : SK W ∧ CK W) (w0 : BytesV W (a0, n0, c0) l) (_s0 : n0 ≤ 140737488351232) (w1 : IntsV W (a1, n1, c1) l1) (_s1 : n1 * 8 ≤ 140737488351232) (_z1 : ∀ z ∈ l1, (Lit.int .i64 z).wf = true) :
    Calls Tryd.prog 4 #[.slice a0 n0 c0, .slice a1 n1 c1] W fun e W' => e = .returned (.bool true) ∧ Below W.heap.size W W' := by
  obtain ⟨i0, hi, hz0, hz1, hz2⟩ := info_parts Tryd.info24
  have hl0 : l.length = n0 := w0.length
  have HL0 := Lib.hid hl0
  have HW0 := Lib.hid w0
  have HW1 := Lib.hid w1
  have HG := Lib.hid hg
  have KA := alive_any W hg.1 hg.2
  clear w0 w1 hg _z1 hl0
  go_enter Tryd.func4, Tryd.ntmps4
  go_wp2_with fail
  (with_reducible refine KA.mono ?_)
  rintro e W1 ⟨rfl, hb1⟩
  clear KA
  by_cases h1 : n0 > 5000
  · have h1' : (5000 : Int) < (n0 : Int) := by omega
    go_wp2
    go_ret
    exact ⟨rfl, hb1⟩
  have h1' : ¬ (5000 : Int) < (n0 : Int) := by omega
  by_cases h2 : n1 > 100
  · have h2' : (100 : Int) < (n1 : Int) := by omega
    go_wp2
    go_ret
    exact ⟨rfl, hb1⟩
  have h2' : ¬ (100 : Int) < (n1 : Int) := by omega
  have hown0 := World.ownsRow_made (base := W.heap.size) (e := 24) (size := 1) W1 #[] 0 hb1.size (by simp [maxLen]) rfl
  have hb0 := hb1.alloc hb1.size (.cells #[] 24)
  clear hb1
  go_wp2_with fail
  (with_reducible refine (copyBytes_any a0 n0 c0 l _ (HW0.out.below hb0)).mono ?_)
  rintro e W2 ⟨ca, cc, rfl, o2, b2⟩
  have hlb : l.length ≤ 140737488355328 := by rw [HL0.out]; omega
  have hr2 := bytesV_of_owns o2 HW0.out.bytes hlb
  obtain ⟨pv, hpv⟩ : ∃ pv, pv = Value.slice (some ⟨W1.heap.size, 0, none⟩) 0 0 := ⟨_, rfl⟩
  obtain ⟨cv, hcv⟩ : ∃ cv, cv = Value.slice ca l.length cc := ⟨_, rfl⟩
  obtain ⟨ad', cap', e, hcase, -, -, -⟩ := ownsRow_parts o2
  simp only [Value.slice.injEq] at e
  obtain ⟨rfl, -, rfl⟩ := e
  have hform : ca = none ∨ ∃ b o, ca = some ⟨b, o, none⟩ := by
    rcases hcase with ⟨h, -⟩ | ⟨g, h, -⟩
    · exact .inl h
    · exact .inr ⟨g, 0, h⟩
  have HC : Hid (CutS W W2 cv (Value.slice (some ⟨W1.heap.size, 0, none⟩) 0 0) 0 [] [] (ca, l.length, cc) l l) := Lib.hid ⟨hb0.trans (b2.mono hb0.size), hown0.kept (grownBy_of_below b2 none) (by cases e : (Value.slice (some ⟨W1.heap.size, 0, none⟩) 0 0).ownBlock with | none => exact .inl rfl | some g => exact .inr (by simp)), rowsV_nil _, hr2, by simp, by rw [hcv]; exact ownsRow_base o2 hb0.size, fun y hy h0 a ha => by
    rw [List.mem_singleton.1 hy] at ha
    simp only at ha
    rcases hcase with ⟨h, -⟩ | ⟨g, h, -⟩
    · rw [h] at ha; cases ha
    · rw [hcv, h]; rw [h] at ha; injection ha with ha; rw [← ha]; rfl⟩
  have HCV := Lib.hid hcv
  clear hcv o2 b2 hr2 hcase hown0 hb0 hpv
  rw [HL0.out] at HC ⊢
  go_wp2
  go_loopw [5, 6, 7] (fun p r i wr => ∃ (k : Nat) (pa : Option Addr) (pc : Nat) (js : List Hd3) (ps : List (List Nat)) (ra : Option Addr) (rn rc : Nat) (rl : List Nat), k ≤ n1 ∧ i = .int .i64 (k : Nat) ∧ p = .slice pa k pc ∧ r = .slice ra rn rc ∧ (ra = none ∨ ∃ b o, ra = some ⟨b, o, none⟩) ∧ Hid (CutS W wr cv (.slice pa k pc) k js ps (ra, rn, rc) rl l)) (fun _ _ i _ => (n1 - intOf i).toNat)
  case atStart => exact ⟨0, _, _, [], [], ca, n0, cc, l, Nat.zero_le _, rfl, rfl, rfl, hform, HC⟩
  case round =>
    clear HC hform
    obtain ⟨k, pa, pc, js, ps, ra, rn, rc, rl, hk, rfl, rfl, rfl, hform, HC⟩ := hrel
    have hbs := HC.out.bel.size
    have hrn := HC.out.rest.small
    have hrc := HC.out.rest.cap
    simp only at hrn hrc
    by_cases hlt : k < n1
    · obtain ⟨zb, zo, hza, hzc⟩ := HW1.out.row.2 (by show 0 < n1; omega)
      simp only at hza
      subst hza
      have hz1' := hzc k hlt
      rw [iv_getD (by have := HW1.out.length; simp only at this; omega)] at hz1'
      obtain ⟨z, hz⟩ : ∃ z, z = l1.getD k 0 := ⟨_, rfl⟩
      rw [← hz] at hz1'
      obtain ⟨m, hm, hand⟩ := and127 z
      have hzcell : wr.cell? ⟨zb, zo + k, none⟩ = some (.int .i64 z) := (HC.out.bel.cell (p := ⟨zb, zo + k, none⟩) (World.block_lt_of_cell? W _ hz1')).trans hz1'
      clear hzc hz1' hz
      go_upto_region 11 with fail
      clear hand hzcell
      go_upto_if 38 with fail
      obtain ⟨M, hM⟩ : ∃ M, M = min m rn := ⟨_, rfl⟩
      go_cut [8] (fun v wx => v = .int .i64 (M : Nat) ∧ wr = wx)
      case first =>
        by_cases hmr : rn < m
        · have hmr' : (rn : Int) < (m : Int) := by omega
          obtain rfl : M = rn := by omega
          clear hM
          go_wp2_with fail
          go_meet
          exact ⟨rfl, rfl⟩
        · have hmr' : ¬ (rn : Int) < (m : Int) := by omega
          obtain rfl : M = m := by omega
          clear hM
          go_wp2_with fail
          go_meet
          exact ⟨rfl, rfl⟩
      case rest =>
        obtain ⟨rfl, hw⟩ := hcut
        subst hw
        have hMr : M ≤ rn := by omega
        clear hM hm
        rcases hform with rfl | ⟨rb, ro, rfl⟩
        · have hc0 : rc = 0 := HC.out.rest.nil rfl
          subst hc0
          obtain rfl : rn = 0 := by omega
          obtain rfl : M = 0 := by omega
          rw [show ((0 : Nat) : Int) = 0 from rfl]
          have HCR := Lib.hid HC.out.rest
          go_wp2_with (first | (at_builtin; refine Hid.out ?_))
          refine Lib.hid ?_
          refine wpList_append_row rfl (.tmp 41) (.tmp 45) 22 rfl W.heap.size 24 i0 (.slice Option.none 0 0) 24 Tryd.underlying22 hi hz0 hz1 hz2 rfl _ _ _ rfl (HC.out.own.alloc _) (some ⟨wr.heap.size, 0, Option.none⟩) 1 1 [SV (none, 0, 0)] rfl (rowV_lit _ _ _ _ _ _ rfl rfl rfl) (by intro h; cases h) (SV_one [(none, 0, 0)]) (by simp [maxLen]; omega) (by omega) (by simp; omega) ?_
          intro v3 w3 hown3 hgrow3 _
          obtain ⟨a3, c3, rfl, -⟩ := ownsRow_parts hown3
          have hrl : rl = [] := List.eq_nil_of_length_eq_zero HCR.out.length
          subst hrl
          have HX : Hid (CutS W w3 cv (.slice a3 (k + 1) c3) (k + 1) (js ++ [(none, 0, 0)]) (ps ++ [[]]) (none, 0, 0) [] l) := Lib.hid (HC.out.step hown3 hgrow3 HCR.out HCR.out rfl (fun h0 => by simp at h0) (fun h0 => by simp at h0))
          clear hown3 hgrow3 HC
          go_wp2
          go_roundw
          case rel => exact ⟨k + 1, a3, c3, _, _, none, 0, 0, _, by omega, by go_num, rfl, rfl, .inl rfl, HX⟩
          case measure => simp [intOf] <;> omega
        · have hM1 : (M : Int) ≤ (rc : Int) := by omega
          go_wp2_with (first | (at_builtin; refine Hid.out ?_))
          refine Lib.hid ?_
          refine wpList_append_row rfl (.tmp 41) (.tmp 45) 22 rfl W.heap.size 24 i0 (.slice Option.none 0 0) 24 Tryd.underlying22 hi hz0 hz1 hz2 rfl _ _ _ rfl (HC.out.own.alloc _) (some ⟨wr.heap.size, 0, Option.none⟩) 1 1 [SV (some ⟨rb, ro, none⟩, M, rc)] rfl (rowV_lit _ _ _ _ _ _ rfl rfl rfl) (by intro h; cases h) (SV_one [(some ⟨rb, ro, none⟩, M, rc)]) (by simp [maxLen]; omega) (by omega) (by simp; omega) ?_
          intro v3 w3 hown3 hgrow3 _
          obtain ⟨a3, c3, rfl, -⟩ := ownsRow_parts hown3
          have HX : Hid (CutS W w3 cv (.slice a3 (k + 1) c3) (k + 1) (js ++ [(some ⟨rb, ro, none⟩, M, rc)]) (ps ++ [rl.take M]) ((if rc - M = 0 then some ⟨rb, ro, none⟩ else some ⟨rb, ro + M, none⟩), rn - M, rc - M) (rl.drop M) l) := Lib.hid (HC.out.step hown3 hgrow3 (HC.out.rest.takeP hMr) (HC.out.rest.restP hMr) (List.take_append_drop M rl) (fun h0 a ha => HC.out.blk (some ⟨rb, ro, none⟩, rn, rc) List.mem_cons_self (by simp only at h0 ⊢; omega) a ha) (fun h0 a ha => HC.out.blk (some ⟨rb, ro, none⟩, rn, rc) List.mem_cons_self (by simp only at h0 ⊢; omega) ⟨rb, ro, none⟩ rfl |>.trans (by simp only at ha; split at ha <;> (injection ha with ha; rw [← ha]))))
          clear hown3 hgrow3 HC
          by_cases he : rc - M = 0
          · rw [if_pos he] at HX
            obtain rfl : M = rc := by omega
            have hMM : M - M = 0 := by omega
            go_wp2
            go_roundw
            case rel => exact ⟨k + 1, a3, c3, _, _, some ⟨rb, ro, none⟩, rn - M, M - M, _, by omega, by go_num, rfl, by rw [hMM, show rn - M = 0 by omega], .inr ⟨rb, ro, rfl⟩, HX⟩
            case measure => simp [intOf] <;> omega
          · rw [if_neg he] at HX
            go_wp2
            go_roundw
            case rel => exact ⟨k + 1, a3, c3, _, _, some ⟨rb, ro + M, none⟩, rn - M, rc - M, _, by omega, by go_num, rfl, rfl, .inr ⟨rb, ro + M, rfl⟩, HX⟩
            case measure => simp [intOf] <;> omega
    · obtain rfl : k = n1 := by omega
      clear hlt hform
      go_wp2_with (first | (at_builtin; refine Hid.out ?_))
      refine Lib.hid ?_
      refine wpList_append_row rfl (.tmp 50) (.tmp 52) 22 rfl W.heap.size 24 i0 (.slice Option.none 0 0) 24 Tryd.underlying22 hi hz0 hz1 hz2 rfl _ _ _ rfl (HC.out.own.alloc _) (some ⟨wr.heap.size, 0, Option.none⟩) 1 1 [SV (ra, rn, rc)] rfl (rowV_lit _ _ _ _ _ _ rfl rfl rfl) (by intro h; cases h) (SV_one [(ra, rn, rc)]) (by simp [maxLen]; omega) (by omega) (by simp; omega) ?_
      intro v3 w3 hown3 hgrow3 _
      obtain ⟨a3, c3, rfl, hcase3, -, -, -⟩ := ownsRow_parts hown3
      have HX : Hid (CutS W w3 cv (.slice a3 (k + 1) c3) (k + 1) (js ++ [(ra, rn, rc)]) (ps ++ [rl]) (none, 0, 0) [] l) := Lib.hid (HC.out.step hown3 hgrow3 HC.out.rest (bytesV_none wr) (List.append_nil rl) (fun h0 a ha => HC.out.blk (ra, rn, rc) List.mem_cons_self h0 a ha) (fun h0 => by simp at h0))
      have hnil3 : a3 = none → c3 = 0 := fun e => by
        rcases hcase3 with ⟨-, h, -⟩ | ⟨g, h, -⟩
        · omega
        · rw [h] at e; cases e
      obtain ⟨JS, hJS⟩ : ∃ x, x = js ++ [(ra, rn, rc)] := ⟨_, rfl⟩
      obtain ⟨PS, hPS⟩ : ∃ x, x = ps ++ [rl] := ⟨_, rfl⟩
      rw [← hJS, ← hPS] at HX
      have HFL := Lib.hid (show PS.flatten = l by have := HX.out.cat; rwa [List.append_nil] at this)
      have HROW : Hid (RowV w3 a3 (k + 1) (JS.map SV)) := Lib.hid (by
        obtain ⟨_, _, e, -, -, -, h⟩ := ownsRow_parts HX.out.own
        simp only [Value.slice.injEq] at e
        obtain ⟨rfl, -, rfl⟩ := e
        exact h)
      have hbs3 := HX.out.bel.size
      have HB3 := Lib.hid HX.out.bel
      have HRS := Lib.hid HX.out.rows
      clear hown3 hgrow3 HC hcase3 hJS hPS HX
      go_wp2_with fail
      (with_reducible refine (sum_any a3 (k + 1) c3 JS PS w3 HROW.out (by omega) hnil3 HRS.out (by rw [HFL.out, HL0.out]; omega) (HG.out.1.below HB3.out (Nat.le_refl _)) (HG.out.2.below HB3.out (Nat.le_refl _))).mono ?_)
      rintro e w4 ⟨a4, c4, rfl, o4, b4⟩
      rw [HFL.out] at o4 ⊢
      have hl32 : (shaR l).length = 32 := shaR_len _
      obtain ⟨D, hD⟩ : ∃ x, x = shaR l := ⟨_, rfl⟩
      have hDB : Bytes D := by rw [hD]; exact shaR_bytes _
      rw [← hD] at o4 hl32 ⊢
      have HD := Lib.hid hD
      have HDL := Lib.hid hl32
      rw [hl32] at o4 ⊢
      obtain ⟨_, _, e, hcase4, -, -, -⟩ := ownsRow_parts o4
      simp only [Value.slice.injEq] at e
      obtain ⟨rfl, -, rfl⟩ := e
      rcases hcase4 with ⟨-, h, -⟩ | ⟨g4, rfl, hg4, hg4'⟩
      · omega
      have HB4 := Lib.hid (HB3.out.trans (b4.mono hbs3))
      have hbs4 := HB4.out.size
      have O4 := Lib.hid (ownsRow_base o4 (Nat.le_trans hbs3 (Nat.le_refl _)))
      clear hD hl32 b4 HROW HRS hnil3 o4
      go_wp2_with fail
      (with_reducible refine (copyBytes_any a0 n0 c0 l w4 (HW0.out.below HB4.out)).mono ?_)
      rintro e w5 ⟨a5, c5, rfl, o5, b5⟩
      rw [HL0.out] at o5 ⊢
      have HB5 := Lib.hid (HB4.out.trans (b5.mono hbs4))
      have hs45 := b5.size
      have O45 := Lib.hid (O4.out.kept (grownBy_of_below b5 none) (.inr (by simp [Value.ownBlock])))
      have hr5 := bytesV_of_owns o5 HW0.out.bytes (by omega)
      obtain ⟨w6, hw6⟩ : ∃ w6, w6 = w5.alloc (.cells #[.slice a5 n0 c5] 24) := ⟨_, rfl⟩
      have b56 : Below w5.heap.size w5 w6 := by rw [hw6]; exact below_alloc _ _
      have hs56 := b56.size
      have HB6 := Lib.hid (HB5.out.trans (b56.mono HB5.out.size))
      have O46 := Lib.hid (O45.out.kept (grownBy_of_below b56 none) (.inr (by simp [Value.ownBlock])))
      have hrow6 : RowV w6 (some ⟨w5.heap.size, 0, none⟩) 1 ([(a5, n0, c5)].map SV) := by rw [hw6]; exact rowV_lit _ _ _ _ _ _ rfl rfl rfl
      have KS := sum_any (some ⟨w5.heap.size, 0, none⟩) 1 1 [(a5, n0, c5)] [l] w6 hrow6 (by decide) (fun e => by cases e) (rowsV_cons (hr5.below b56) (rowsV_nil _)) (by simp; rw [HL0.out]; omega) (HG.out.1.below HB6.out (Nat.le_refl _)) (HG.out.2.below HB6.out (Nat.le_refl _))
      rw [hw6] at KS
      clear O4 O45 o5 b5 hr5 hrow6 b56 HB5
      go_wp2_with fail
      (with_reducible refine KS.mono ?_)
      rw [← hw6]
      rintro e w7 ⟨a7, c7, rfl, o7, b7⟩
      rw [show [l].flatten = l by simp, ← HD.out] at o7 ⊢
      rw [HDL.out] at o7 ⊢
      clear KS hw6
      have HB7 := Lib.hid (HB6.out.trans (b7.mono HB6.out.size))
      have O47 := Lib.hid (O46.out.kept (grownBy_of_below b7 none) (.inr (by simp [Value.ownBlock])))
      have O7 := Lib.hid o7
      obtain ⟨_, _, e, hcase7, -, -, -⟩ := ownsRow_parts o7
      simp only [Value.slice.injEq] at e
      obtain ⟨rfl, -, rfl⟩ := e
      rcases hcase7 with ⟨-, h, -⟩ | ⟨g7, rfl, hg7, hg7'⟩
      · omega
      have hv4 := bytesV_of_owns O47.out hDB (by decide)
      have hv7 := bytesV_of_owns O7.out hDB (by decide)
      have hg47 : g4 < g7 := by have := b7.size; omega
      clear o7 b7 O46 HB6
      have K1 := same_any (some ⟨g4, 0, none⟩) 32 c4 D (some ⟨g7, 0, none⟩) 32 c7 D w7 hv4 hv7
      rw [decide_eq_true (And.intro HDL.out rfl)] at K1
      go_wp2_with fail
      (with_reducible refine K1.mono ?_)
      rintro e w8 ⟨rfl, rfl⟩
      clear K1 hv4
      rename World => w8
      obtain ⟨d0, hd0⟩ : ∃ x, x = D.getD 0 0 := ⟨_, rfl⟩
      have hc0 : w8.cell? ⟨g4, 0, none⟩ = some (.int .u8 (d0 : Nat)) := by
        rw [hd0]
        exact (O47.out.cellAt 0 (by decide)).trans (bv_getD (by rw [HDL.out]; decide))
      have hfz : w8.frozen? ⟨g4, 0, none⟩ = false := O47.out.frozenAt 0
      have hd256 : d0 < 256 := by rw [hd0]; exact hDB.getD 0
      have hxor := u8_xor_nat d0 1 hd256 (by decide)
      obtain ⟨d1, hd1⟩ : ∃ x, x = d0 ^^^ 1 := ⟨_, rfl⟩
      rw [← hd1] at hxor
      have hd1l : d1 < 256 := by rw [hd1]; exact Nat.xor_lt_two_pow (n := 8) hd256 (by decide)
      have hne : d1 ≠ d0 := by
        rw [hd1]
        intro e
        have : d0 ^^^ 1 ^^^ d0 = d0 ^^^ d0 := by rw [e]
        rw [Nat.xor_comm (d0 ^^^ 1) d0, ← Nat.xor_assoc, Nat.xor_self, Nat.zero_xor] at this
        cases this
      have HDD := Lib.hid hd0
      have hxor' : bits .xor .u8 (d0 : Int) 1 = (d1 : Int) := hxor
      clear hd0 hd1 hxor
      have HV7 := Lib.hid hv7
      clear hv7
      go_upto_region 21 with fail
      obtain ⟨w9, hw9⟩ : ∃ w9, w9 = w8.setCell ⟨g4, 0, none⟩ (.int .u8 (d1 : Nat)) := ⟨_, rfl⟩
      rw [← hw9]
      have hgr : w8.grownBy w9 (some g4) := by rw [hw9]; exact ⟨rfl, rfl, rfl, by simp [World.setCell], fun k _ hn => heap_setCell_other _ ⟨g4, 0, none⟩ k _ (fun e => hn (by rw [e]))⟩
      have hb9 : Below W.heap.size W w9 := by rw [hw9]; exact HB7.out.setCell (p := ⟨g4, 0, none⟩) (by show W.heap.size ≤ g4; omega) _
      have hv7 : BytesV w9 (some ⟨g7, 0, none⟩, 32, c7) D := HV7.out.keptS fun _ a ha => by
        injection ha with ha
        subst ha
        rw [hw9]
        exact heap_setCell_other _ ⟨g4, 0, none⟩ g7 _ (by simp only; omega)
      have o9 : w9.ownsRow W.heap.size 5 1 (.slice (some ⟨g4, 0, none⟩) 32 c4) 32 ((D.set 0 d1).map bv) := by
        rw [hw9, List.map_set]
        exact (O47.out.stored 0 (.int .u8 (d1 : Nat))).1
      have hDB2 : Bytes (D.set 0 d1) := fun x hx => by
        rcases List.mem_or_eq_of_mem_set hx with h | h
        · exact hDB x h
        · rw [h]; exact hd1l
      have hv9 := bytesV_of_owns o9 hDB2 (by decide)
      have K2 := same_any (some ⟨g4, 0, none⟩) 32 c4 (D.set 0 d1) (some ⟨g7, 0, none⟩) 32 c7 D w9 hv9 hv7
      rw [decide_eq_false (fun h => hne (by
        have e := h.2
        have e0 : (D.set 0 d1).getD 0 0 = D.getD 0 0 := by rw [e]
        rw [← HDD.out, List.getD_eq_getElem?_getD, List.getElem?_set_self (by rw [HDL.out]; decide)] at e0
        exact e0))] at K2
      have HB9 := Lib.hid hb9
      have HV9 := Lib.hid hv7
      clear hw9 hgr hb9 hv7 o9 hDB2 hv9 hc0 hfz hxor' hd256 hd1l hne O7 O47 HV7 HB7
      go_wp2_with fail
      (with_reducible refine K2.mono ?_)
      rintro e w10 ⟨rfl, rfl⟩
      clear K2
      rename World => w10
      go_wp2_with fail
      (with_reducible refine (refSum6_any a0 n0 c0 l w10 (HW0.out.below HB9.out) (by omega)).mono ?_)
      rintro e w11 ⟨a11, c11, rfl, o11, b11⟩
      rw [← HD.out] at o11 ⊢
      rw [HDL.out] at o11 ⊢
      have hv11 := bytesV_of_owns o11 hDB (by decide)
      have KB := sameBytes_any (some ⟨g7, 0, none⟩) 32 c7 D a11 32 c11 D w11 (HV9.out.below b11) hv11
      rw [decide_eq_true rfl] at KB
      have HB11 := Lib.hid (HB9.out.trans (b11.mono HB9.out.size))
      clear o11 b11 hv11
      go_wp2_with fail
      (with_reducible refine KB.mono ?_)
      rintro e w12 ⟨rfl, b12⟩
      clear KB
      go_wp2
      go_ret
      exact ⟨rfl, HB11.out.trans (b12.mono HB11.out.size)⟩
end Go.Proofs.YthofndobmiamjaaDoor
