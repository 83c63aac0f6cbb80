/-
  sha's reference: Sum (under way: the padding).
-/
import Derived.Test.YthofndobmiamjaaDoorShN
import Derived.Deep.AppendLies
namespace Go.Proofs.YthofndobmiamjaaDoor
open Go.RowKit

def tailR (n j : Nat) : List Nat := (List.range j).map fun i => 8 * n / 256 ^ (7 - i) % 256
theorem tailR_snoc (n j : Nat) : tailR n (j + 1) = tailR n j ++ [8 * n / 256 ^ (7 - j) % 256] := by simp [tailR, List.range_succ]
def rowN (N : List Nat) (q : Nat) : List Value := ((N.take q).map bytesW).flatten.map bv
theorem byte_at6 (n q : Nat) : (n : Int) * 8 / 2 ^ (8 * (7 - q)) % 256 = ((8 * n / 256 ^ (7 - q) % 256 : Nat) : Int) := by
  have e : (256 : Nat) ^ (7 - q) = 2 ^ (8 * (7 - q)) := by rw [show (256 : Nat) = 2 ^ 8 from rfl, ← Nat.pow_mul]
  rw [e, Nat.mul_comm 8 n]
  simp
set_option maxRecDepth 100000 in
set_option maxHeartbeats 100000000 in
theorem refSum6_any (ad : Option Addr) (n c : Nat) (l : List Nat) (w : World) (h : BytesV w (ad, n, c) l) (hn : n ≤ 140737488355000) :
    Calls Tryd.prog 12 #[.slice ad n c] w (GivesBytes 5 w (shaR l)) := by
  obtain ⟨i0, hi, hz0, hz1, hz2⟩ := info_parts Tryd.info5
  have hl : l.length = n := h.length
  have hown0 := World.ownsRow_made (base := w.heap.size) (e := 5) (size := 1) w #[] 0 (Nat.le_refl _) (by simp [maxLen]) rfl
  have hb0 := below_alloc w (.cells #[] 5)
  have hr := h.row.below hb0
  have hnil := h.nil
  have HL := Lib.hid hl
  have HB := Lib.hid h.bytes
  clear h hl
  go_enter Tryd.func12, Tryd.ntmps12
  go_wp2_with (first | (at_builtin; refine Hid.out ?_))
  refine Lib.hid ?_
  refine wpList_append_row rfl (.tmp 23) (.tmp 24) 24 rfl w.heap.size 5 i0 (.int .u8 0) 1 Tryd.underlying24 hi hz0 hz1 hz2 rfl _ _ _ rfl hown0 ad n c (l.map bv) rfl hr hnil (bv_one l) (by simp [maxLen]; omega) (by omega) (by simp) ?_
  intro v1 w1 hown1 hgrow1 _
  have hb1 := below_grown hb0 hgrow1 (ownBlock_ge hown0)
  obtain ⟨a1, c1, rfl, hcase1, _⟩ := ownsRow_parts hown1
  simp only [Nat.zero_add, List.nil_append] at hown1 ⊢
  clear hgrow1 hown0 hb0 hr hnil hcase1
  have hbs1 := hb1.size
  go_wp2_with (first | (at_builtin; refine Hid.out ?_))
  refine Lib.hid ?_
  refine wpList_append_row rfl (.tmp 26) (.tmp 27) 24 rfl w.heap.size 5 i0 (.int .u8 0) 1 Tryd.underlying24 hi hz0 hz1 hz2 rfl _ _ _ rfl (hown1.alloc _) (some ⟨w1.heap.size, 0, Option.none⟩) 1 1 [bv 128] rfl (rowV_lit _ _ _ _ _ _ rfl rfl rfl) (by intro h; cases h) (bv_one [128]) (by simp [maxLen]; omega) (by omega) (by simp; omega) ?_
  intro v2 w2 hown2 hgrow2 _
  have hb2 := grow_step hb1 _ hown1 hgrow2
  obtain ⟨a2, c2, rfl, hcase2, _⟩ := ownsRow_parts hown2
  clear hgrow2 hown1 hb1 hbs1 hcase2
  obtain ⟨z, hz⟩ : ∃ z, z = (119 - n % 64) % 64 := ⟨_, rfl⟩
  have HZ := Lib.hid hz
  have hz64 : z < 64 := by omega
  clear hz
  go_wp2
  go_loopw [3] (fun v wr => ∃ (j : Nat) (a : Option Addr) (c : Nat), j ≤ z ∧ v = .slice a (n + 1 + j) c ∧ wr.ownsRow w.heap.size 5 1 (.slice a (n + 1 + j) c) (n + 1 + j) ((l ++ 128 :: List.replicate j 0).map bv) ∧ Below w.heap.size w wr) (fun v _ => match v with | .slice _ m _ => n + 1 + z - m | _ => 0)
  case atStart => exact ⟨0, a2, c2, Nat.zero_le _, rfl, by simpa using hown2, hb2⟩
  case round =>
    clear hown2 hb2
    obtain ⟨j, a, c', hj, rfl, hown, hb⟩ := hrel
    have hbs := hb.size
    have hzz := HZ.out
    by_cases hlt : j < z
    · as_aux_lemma => -- [[
       have hne : ¬ ((n + 1 + j) % 64 = 56) := by omega
       clear hzz
       go_wp2_with (first | (at_builtin; refine Hid.out ?_))
       refine Lib.hid ?_
       refine wpList_append_row rfl (.tmp 33) (.tmp 34) 24 rfl w.heap.size 5 i0 (.int .u8 0) 1 Tryd.underlying24 hi hz0 hz1 hz2 rfl _ _ _ rfl (hown.alloc _) (some ⟨wr.heap.size, 0, Option.none⟩) 1 1 [bv 0] rfl (rowV_lit _ _ _ _ _ _ rfl rfl rfl) (by intro h; cases h) (bv_one [0]) (by simp [maxLen]; omega) (by omega) (by simp; omega) ?_
       intro v3 w3 hown3 hgrow3 _
       have hb3 := grow_step hb _ hown hgrow3
       obtain ⟨a3, c3, rfl, _⟩ := ownsRow_parts hown3
       clear hgrow3
       go_wp2
       go_roundw
       case rel =>
         refine ⟨j + 1, a3, c3, by omega, by rw [← Nat.add_assoc], ?_, hb3⟩
         rw [List.replicate_succ', ← List.cons_append, ← List.append_assoc, List.map_append, ← Nat.add_assoc]
         exact hown3
       case measure => simp <;> omega
      -- ]]
    · obtain rfl : j = z := by omega
      have hne : (n + 1 + j) % 64 = 56 := by omega
      have HNE := Lib.hid hne
      obtain ⟨M, hM⟩ : ∃ M, M = l ++ 128 :: List.replicate j 0 := ⟨_, rfl⟩
      have HM := Lib.hid hM
      rw [← hM] at hown
      obtain ⟨L0, hL0⟩ : ∃ L0, L0 = n + 1 + j := ⟨_, rfl⟩
      have HL0 := Lib.hid hL0
      have hLb : L0 ≤ n + 64 := by omega
      have hmod : ((n : Int) + 1 + (j : Int)) % 64 = 56 := by omega
      rw [← hL0] at hown ⊢
      have hmod2 : (L0 : Int) % 64 = 56 := by omega
      clear hzz hne hM hL0 hlt hj
      go_upto_region 7 with fail
      clear hmod hmod2
      go_wp2
      go_loopw [3, 5] (fun v i wq => ∃ (q : Nat) (a : Option Addr) (c : Nat), q ≤ 8 ∧ i = .int .i64 (7 - (q : Int)) ∧ v = .slice a (L0 + q) c ∧ wq.ownsRow w.heap.size 5 1 (.slice a (L0 + q) c) (L0 + q) ((M ++ tailR n q).map bv) ∧ Below w.heap.size w wq) (fun _ i _ => (intOf i + 1).toNat)
      case atStart => exact ⟨0, a, c', by omega, rfl, rfl, by simpa [tailR] using hown, hb⟩
      case round =>
        clear hown hb hbs
        rename World => wq
        obtain ⟨q, a5, c5, hq, rfl, rfl, hown, hb⟩ := hrel
        have hbs := hb.size
        by_cases hlt : q < 8
        · as_aux_lemma => -- [[
           obtain ⟨d, hd⟩ : ∃ d, d = 8 * n / 256 ^ (7 - q) % 256 := ⟨_, rfl⟩
           have HD := Lib.hid hd
           clear hd
           go_wp2_with (first | (at_builtin; refine Hid.out ?_))
           refine Lib.hid ?_
           rw [byte_at6 n q, ← HD.out]
           have hd8 : d < 256 := by rw [HD.out]; exact Nat.mod_lt _ (by decide)
           refine wpList_append_row rfl (.tmp 44) (.tmp 51) 24 rfl w.heap.size 5 i0 (.int .u8 0) 1 Tryd.underlying24 hi hz0 hz1 hz2 rfl _ _ _ rfl (hown.alloc _) (some ⟨wq.heap.size, 0, Option.none⟩) 1 1 [bv d] rfl (rowV_lit _ _ _ _ _ _ rfl rfl rfl) (by intro h; cases h) (bv_one [d]) (by simp [maxLen]; omega) (by omega) (by simp; omega) ?_
           intro v3 w3 hown3 hgrow3 _
           have hb3 := grow_step hb _ hown hgrow3
           obtain ⟨a3, c3, rfl, _⟩ := ownsRow_parts hown3
           clear hgrow3
           go_wp2
           go_roundw
           case rel =>
             refine ⟨q + 1, a3, c3, by omega, by go_num, by rw [← Nat.add_assoc], ?_, hb3⟩
             rw [tailR_snoc, ← List.append_assoc, List.map_append, ← Nat.add_assoc, ← HD.out]
             exact hown3
           case measure => simp [intOf] <;> omega
          -- ]]
        · obtain rfl : q = 8 := by omega
          obtain ⟨P, hP⟩ : ∃ P, P = M ++ tailR n 8 := ⟨_, rfl⟩
          have hPR : P = padR l := by
            rw [hP, HM.out, HZ.out]
            unfold padR endR tailR
            rw [HL.out]
            simp
          have HPR := Lib.hid hPR
          rw [← hP] at hown
          obtain ⟨L, hL⟩ : ∃ L, L = L0 + 8 := ⟨_, rfl⟩
          have hL64 : L % 64 = 0 := by have := HNE.out; have := HL0.out; omega
          have hLs : L ≤ 140737488355328 := by omega
          have HL1 := Lib.hid hL64
          rw [← hL] at hown ⊢
          have HOWN := Lib.hid (And.intro hown hb)
          clear hP hPR hL hL64 hown hb hlt hq
          go_upto_region 11 with fail
          go_wp2_with fail
          (with_reducible refine (table_any wq).mono ?_)
          rintro e w4 ⟨rfl, hb4⟩
          obtain ⟨Kc, hKc⟩ : ∃ A, A = (shaK.map uv).toArray := ⟨_, rfl⟩
          have hKs : Kc.size = 64 := by rw [hKc]; rfl
          have hiK : (Tryd.prog.info? KT64).map (·.size) = some Kc.size := by rw [hKs]; exact infoK64
          have hoK : Kc.all (·.oneCell') = true := by rw [hKc]; exact uv_one _
          have HK := Lib.hid hKc
          rw [← hKc]
          clear hKc
          go_upto_region 12 with (first | (refine wpList_store_row rfl KT64 _ _ rfl w4.heap.size Kc rfl rfl KT64 _ (heap_alloc_new w4 _) hiK (by rw [hKs]; rfl) hoK ?_))
          have hz4 := hb4.size
          obtain ⟨g6, hg6⟩ : ∃ g, g = w4.heap.size := ⟨_, rfl⟩
          rw [← hg6]
          have hown4 := (HOWN.out.1.kept (grownBy_of_below hb4 none) (by cases e : (Value.slice a5 L c5).ownBlock with | none => exact .inl rfl | some g => exact .inr (by simp)))
          refine (?_ : ∀ W5, (Below w.heap.size w W5 ∧ W5.ownsRow w.heap.size 5 1 (.slice a5 L c5) L (P.map bv) ∧ W5.heap[g6]? = some (.cells Kc KT64 (0, 0)) ∧ W5.heap.size = g6 + 1) → Code.wp Tryd.prog _ _ _ W5) _ ?start
          case start =>
            have hh := HOWN.out.2.size
            have b4 := HOWN.out.2.trans (hb4.mono hh)
            refine ⟨below_setRow (b4.trans ((below_alloc w4 _).mono b4.size)) (by rw [hg6]; exact b4.size) _, ?_, setRow_heap _ _ _ _ _ _ (by rw [hg6]; exact heap_alloc_new w4 _), by rw [hg6]; simp⟩
            refine (hown4.alloc _).setRow_other ?_ _
            obtain ⟨a', c', e, hcase, -⟩ := ownsRow_parts hown4
            simp only [Value.slice.injEq] at e
            obtain ⟨rfl, -, rfl⟩ := e
            rcases hcase with ⟨rfl, -⟩ | ⟨g, rfl, -, hg⟩
            · simp [Value.ownBlock]
            · simp only [Value.ownBlock]
              intro e
              injection e with e
              omega
          have h66 : w.heap.size ≤ g6 := by rw [hg6]; have := HOWN.out.2.size; omega
          clear hown4 hz4 hg6 HOWN hb4
          rintro W5 ⟨b5, o5, k5, z5⟩
          obtain ⟨Hc, hHc⟩ : ∃ A, A = (shaH.map uv).toArray := ⟨_, rfl⟩
          have hHs : Hc.size = 8 := by rw [hHc]; rfl
          have hiH : (Tryd.prog.info? AT8).map (·.size) = some Hc.size := by rw [hHs]; exact infoA8
          have hoH : Hc.all (·.oneCell') = true := by rw [hHc]; exact uv_one _
          have HH := Lib.hid hHc
          clear hHc
          have H5 := Lib.hid (And.intro b5 (And.intro o5 (And.intro k5 z5)))
          clear b5 o5 k5 z5
          go_upto_region 13 with (first | (refine wpList_builtS rfl AT8 _ rfl Hc (by rw [HH.out]; kernel_rfl) ?_) | (refine wpList_store_row rfl AT8 _ _ rfl W5.heap.size Hc rfl rfl AT8 _ (heap_alloc_new W5 _) hiH (by rw [hHs]; rfl) hoH ?_))
          obtain ⟨g7, hg7⟩ : ∃ g, g = W5.heap.size := ⟨_, rfl⟩
          rw [← hg7]
          refine (?_ : ∀ W6, (RS w W6 g6 g7 a5 L c5 P (foldR shaH P 0) ∧ g6 ≠ g7) → Code.wp Tryd.prog _ _ _ W6) _ ?start2
          case start2 =>
            have hz5 := H5.out.2.2.2
            refine ⟨⟨below_setRow (H5.out.1.trans ((below_alloc W5 _).mono H5.out.1.size)) (by omega) _, ?_, ?_, ?_, h66, by omega⟩, by omega⟩
            · exact (H5.out.2.1.alloc (.cells ((List.replicate 8 0).map uv).toArray AT8)).setRow_other (own_ne_box (T := AT8) (H5.out.2.1.alloc (.cells ((List.replicate 8 0).map uv).toArray AT8)) (by rw [hg7]; exact heap_alloc_new W5 _) (by decide)) _
            · rw [← HK.out]
              exact (_root_.Go.setRow_other _ g7 g6 _ (by omega)).trans ((heap_alloc_old W5 _ (by omega)).trans H5.out.2.2.1)
            · rw [hg7]
              show _ = some (Obj.cells (shaH.map uv).toArray AT8 (0, 0))
              rw [← HH.out]
              exact setRow_heap _ _ _ _ _ _ (heap_alloc_new W5 _)
          clear H5 hg7
          rintro W6 ⟨h6, hne67⟩
          have H6 := Lib.hid h6
          clear h6
          go_wp2
          go_loopw [8] (fun v wr => ∃ k : Nat, 64 * k ≤ L ∧ v = .int .i64 ((64 * k : Nat) : Int) ∧ Hid (RS w wr g6 g7 a5 L c5 P (foldR shaH P k))) (fun v _ => (L - intOf v).toNat)
          case atStart => exact ⟨0, Nat.zero_le _, rfl, H6⟩
          case round =>
            clear H6
            rename World => wk
            obtain ⟨k, hk, rfl, H6⟩ := hrel
            by_cases hlt3 : 64 * k < L
            · obtain ⟨B, hB⟩ : ∃ x, x = (P.drop (64 * k)).take 64 := ⟨_, rfl⟩
              obtain ⟨st, hst⟩ : ∃ x, x = foldR shaH P k := ⟨_, rfl⟩
              rw [← hst] at H6
              have HF := Lib.hid (show foldR shaH P (k + 1) = mixR st B by rw [hst, hB]; rfl)
              have hstl : st.length = 8 := by rw [hst]; exact foldR_len k
              have hstw : Words st := by rw [hst]; exact foldR_words k
              have HST := Lib.hid (And.intro hstl hstw)
              obtain ⟨T, hT⟩ : ∃ x, x = 64 * k := ⟨_, rfl⟩
              have hTL : T + 64 ≤ L := by have := HL1.out; omega
              rw [← hT] at hlt3 hk hB ⊢
              have HT := Lib.hid hT
              have hPB : Bytes P := by
                rw [HPR.out]
                intro x hx
                rcases List.mem_append.1 hx with q | q
                · exact HB.out x q
                · exact endR_bytes _ x q
              obtain ⟨hPl, ob, oo, hoa, hcell⟩ := H6.out.byte (by omega)
              have hBg : ∀ j, j < 64 → g' B j = g' P (T + j) := fun j hj => by
                rw [hB]
                unfold g'
                rw [List.getD_eq_getElem?_getD, List.getD_eq_getElem?_getD, List.getElem?_take_of_lt hj, List.getElem?_drop]
              have hBB : Bytes B := by
                rw [hB]
                intro x hx
                exact hPB x (List.mem_of_mem_drop (List.mem_of_mem_take hx))
              have HBB := Lib.hid hBB
              have HBG := Lib.hid hBg
              have HPB := Lib.hid hPB
              clear hst hB hT hBg hBB hPB hcell hPl hstl hstw hlt3 hk
              subst hoa
              obtain ⟨Zc, hZc⟩ : ∃ A, A = ((List.replicate 64 0).map uv).toArray := ⟨_, rfl⟩
              have hZs : Zc.size = 64 := by rw [hZc]; rfl
              have hiZ : (Tryd.prog.info? KT64).map (·.size) = some Zc.size := by rw [hZs]; exact infoK64
              have hoZ : Zc.all (·.oneCell') = true := by rw [hZc]; exact uv_one _
              have HZc := Lib.hid hZc
              clear hZc
              go_upto_region 17 with (first | (refine wpList_builtS rfl KT64 _ rfl Zc (by rw [HZc.out]; kernel_rfl) ?_) | (refine wpList_store_row rfl KT64 _ _ rfl wk.heap.size Zc rfl rfl KT64 _ (heap_alloc_new wk _) hiZ (by rw [hZs]; rfl) hoZ ?_))
              obtain ⟨g9, hg9⟩ : ∃ g, g = wk.heap.size := ⟨_, rfl⟩
              rw [← hg9]
              refine (?_ : ∀ W9, RW w W9 g6 g7 g9 (some ⟨ob, oo, none⟩) L c5 P st (fillR (wdR B) 0) → Code.wp Tryd.prog _ _ _ W9) _ ?start9
              case start9 =>
                have h1 := H6.out.below (below_alloc wk (.cells ((List.replicate 64 0).map uv).toArray KT64))
                have l6 := (Array.getElem?_eq_some_iff.1 H6.out.k).1
                have l7 := (Array.getElem?_eq_some_iff.1 H6.out.s).1
                have hgn : (wk.alloc (.cells ((List.replicate 64 0).map uv).toArray KT64)).heap[g9]? = some (.cells ((List.replicate 64 0).map uv).toArray KT64 (0, 0)) := by rw [hg9]; exact heap_alloc_new wk _
                refine ⟨h1.setBox (by have := H6.out.bel.size; omega) (by omega) (by omega) (own_ne_box h1.own hgn (by decide)) _, ?_, by have := H6.out.bel.size; omega, by omega, by omega⟩
                rw [fillR_zero, ← HZc.out]
                exact setRow_heap _ _ _ _ _ _ hgn
              clear H6 hg9
              intro W9 h9
              have H9 := Lib.hid h9
              clear h9
              go_wp2
              go_loopw [10] (fun v wr => ∃ i : Nat, i ≤ 16 ∧ v = .int .i64 (i : Nat) ∧ Hid (RW w wr g6 g7 g9 (some ⟨ob, oo, none⟩) L c5 P st (fillR (wdR B) i))) (fun v _ => 16 - (intOf v).toNat)
              case atStart => exact ⟨0, by omega, rfl, H9⟩
              case round =>
                clear H9
                rename World => wq
                obtain ⟨i, hi16, rfl, H9⟩ := hrel
                by_cases hlt4 : i < 16
                · as_aux_lemma => -- [[
                   obtain ⟨J, hJ⟩ : ∃ x, x = T + 4 * i := ⟨_, rfl⟩
                   have HJ := Lib.hid hJ
                   have hJi : (T : Int) + 4 * (i : Int) = (J : Int) := by omega
                   have hJL : J + 4 ≤ L := by omega
                   clear hJ
                   go_upto_region 21 with fail
                   obtain ⟨hPl, ob', oo', hoa, hcell⟩ := H9.out.r.byte (by omega)
                   simp only [Option.some.injEq, Addr.mk.injEq, and_true] at hoa
                   obtain ⟨rfl, rfl⟩ := hoa
                   obtain ⟨d0, hd0⟩ : ∃ x, x = g' P J := ⟨_, rfl⟩
                   obtain ⟨d1, hd1⟩ : ∃ x, x = g' P (J + 1) := ⟨_, rfl⟩
                   obtain ⟨d2, hd2⟩ : ∃ x, x = g' P (J + 2) := ⟨_, rfl⟩
                   obtain ⟨d3, hd3⟩ : ∃ x, x = g' P (J + 3) := ⟨_, rfl⟩
                   have hc0 : wq.cell? ⟨ob, oo + J, none⟩ = some (.int .u8 (d0 : Nat)) := by rw [hd0]; exact hcell J (by omega)
                   have hc1 : wq.cell? ⟨ob, oo + (J + 1), none⟩ = some (.int .u8 (d1 : Nat)) := by rw [hd1]; exact hcell (J + 1) (by omega)
                   have hc2 : wq.cell? ⟨ob, oo + (J + 2), none⟩ = some (.int .u8 (d2 : Nat)) := by rw [hd2]; exact hcell (J + 2) (by omega)
                   have hc3 : wq.cell? ⟨ob, oo + (J + 3), none⟩ = some (.int .u8 (d3 : Nat)) := by rw [hd3]; exact hcell (J + 3) (by omega)
                   have l0 : d0 < 256 := by rw [hd0]; exact HPB.out.getD J
                   have l1 : d1 < 256 := by rw [hd1]; exact HPB.out.getD (J + 1)
                   have l2 : d2 < 256 := by rw [hd2]; exact HPB.out.getD (J + 2)
                   have l3 : d3 < 256 := by rw [hd3]; exact HPB.out.getD (J + 3)
                   obtain ⟨x9, hx9⟩ : ∃ x, x = g' (fillR (wdR B) i) i := ⟨_, rfl⟩
                   have hc9 : wq.cell? ⟨g9, i, none⟩ = some (.int .u32 (x9 : Nat)) := by rw [cell_of_row _ _ _ _ _ _ H9.out.w9, hx9]; exact uv_at (by rw [fillR_len]; omega)
                   have hfz : wq.frozen? ⟨g9, i, none⟩ = false := frozen_of_row _ _ _ _ _ H9.out.w9
                   have HW := Lib.hid (show wdR B i = ((d0 * 256 + d1) * 256 + d2) * 256 + d3 by
                     have hg := HBG.out
                     rw [wdR_low B i hlt4]
                     unfold wordR
                     rw [hg _ (by omega), hg _ (by omega), hg _ (by omega), hg _ (by omega), hd0, hd1, hd2, hd3]
                     simp only [show T + 4 * i = J by omega, show T + (4 * i + 1) = J + 1 by omega, show T + (4 * i + 2) = J + 2 by omega, show T + (4 * i + 3) = J + 3 by omega])
                   have hi64 : i < 64 := by omega
                   clear hcell hPl hd0 hd1 hd2 hd3 hx9
                   have HJI := Lib.hid hJi
                   have j1 : (J : Int) + 1 = ((J + 1 : Nat) : Int) := by omega
                   clear hJi
                   obtain ⟨J1, hJ1⟩ : ∃ x, x = J + 1 := ⟨_, rfl⟩
                   obtain ⟨J2, hJ2⟩ : ∃ x, x = J + 2 := ⟨_, rfl⟩
                   obtain ⟨J3, hJ3⟩ : ∃ x, x = J + 3 := ⟨_, rfl⟩
                   rw [← hJ1] at hc1
                   rw [← hJ2] at hc2
                   rw [← hJ3] at hc3
                   have S0 : wq.drew.cell? ⟨ob, oo + J, none⟩ = some (.int .u8 (d0 : Nat)) ∧ wq.drew.cell? ⟨ob, oo + J1, none⟩ = some (.int .u8 (d1 : Nat)) ∧ wq.drew.cell? ⟨ob, oo + J2, none⟩ = some (.int .u8 (d2 : Nat)) ∧ wq.drew.cell? ⟨ob, oo + J3, none⟩ = some (.int .u8 (d3 : Nat)) := ⟨hc0, hc1, hc2, hc3⟩
                   clear hc0 hc1 hc2 hc3 j1
                   have q0 : J < L := by omega
                   have q1 : J1 < L := by omega
                   have q2 : J2 < L := by omega
                   have q3 : J3 < L := by omega
                   have e1 : IntKind.i64.wrap ((J : Int) + 1) = (J1 : Int) := by rw [wrap_i64_id _ (by omega) (by omega)]; omega
                   have e2 : IntKind.i64.wrap ((J : Int) + 2) = (J2 : Int) := by rw [wrap_i64_id _ (by omega) (by omega)]; omega
                   have e3 : IntKind.i64.wrap ((J : Int) + 3) = (J3 : Int) := by rw [wrap_i64_id _ (by omega) (by omega)]; omega
                   have q4 : (i : Int) < 64 := by omega
                   clear hJ1 hJ2 hJ3
                   refine GoX.start 31 (fun w' => w'.cell? ⟨ob, oo + J, none⟩ = some (.int .u8 (d0 : Nat)) ∧ w'.cell? ⟨ob, oo + J1, none⟩ = some (.int .u8 (d1 : Nat)) ∧ w'.cell? ⟨ob, oo + J2, none⟩ = some (.int .u8 (d2 : Nat)) ∧ w'.cell? ⟨ob, oo + J3, none⟩ = some (.int .u8 (d3 : Nat))) (by kernel_rfl) ?_
                   refine GoX.take 0 rfl (by kernel_rfl) (by kernel_rfl) (by rfl) (fun _ _ _ h => h) (v := ?tv0) S0 ?ty0 ?tr0
                   case ty0 => (intro w hSw; (try dsimp only at hSw); go_simp; first | done | with_reducible rfl)
                   simp only [Act.put, List.setIfInBounds_toArray, List.set_cons_zero, List.set_cons_succ]
                   refine GoX.take 1 rfl (by kernel_rfl) (by kernel_rfl) (by rfl) (fun _ _ _ h => h) (v := ?tv1) S0 ?ty1 ?tr1
                   case ty1 => (intro w hSw; (try dsimp only at hSw); go_simp; first | done | with_reducible rfl)
                   simp only [Act.put, List.setIfInBounds_toArray, List.set_cons_zero, List.set_cons_succ]
                   refine GoX.take 2 rfl (by kernel_rfl) (by kernel_rfl) (by rfl) (fun _ _ _ h => h) (v := ?tv2) S0 ?ty2 ?tr2
                   case ty2 => (intro w hSw; (try dsimp only at hSw); go_simp; first | done | with_reducible rfl)
                   simp only [Act.put, List.setIfInBounds_toArray, List.set_cons_zero, List.set_cons_succ]
                   refine GoX.take 3 rfl (by kernel_rfl) (by kernel_rfl) (by rfl) (fun _ _ _ h => h) (v := ?tv3) S0 ?ty3 ?tr3
                   case ty3 => (intro w hSw; (try dsimp only at hSw); go_simp; first | done | with_reducible rfl)
                   simp only [Act.put, List.setIfInBounds_toArray, List.set_cons_zero, List.set_cons_succ]
                   refine GoX.take 4 rfl (by kernel_rfl) (by kernel_rfl) (by rfl) (fun _ _ _ h => h) (v := ?tv4) S0 ?ty4 ?tr4
                   case ty4 => (intro w hSw; (try dsimp only at hSw); go_simp; first | done | with_reducible rfl)
                   simp only [Act.put, List.setIfInBounds_toArray, List.set_cons_zero, List.set_cons_succ]
                   refine GoX.take 5 rfl (by kernel_rfl) (by kernel_rfl) (by rfl) (fun _ _ _ h => h) (v := ?tv5) S0 ?ty5 ?tr5
                   case ty5 => (intro w hSw; (try dsimp only at hSw); go_simp; first | done | with_reducible rfl)
                   simp only [Act.put, List.setIfInBounds_toArray, List.set_cons_zero, List.set_cons_succ]
                   refine GoX.take 6 rfl (by kernel_rfl) (by kernel_rfl) (by rfl) (fun _ _ _ h => h) (v := ?tv6) S0 ?ty6 ?tr6
                   case ty6 => (intro w hSw; (try dsimp only at hSw); go_simp; first | done | with_reducible rfl)
                   simp only [Act.put, List.setIfInBounds_toArray, List.set_cons_zero, List.set_cons_succ]
                   refine GoX.take 7 rfl (by kernel_rfl) (by kernel_rfl) (by rfl) (fun _ _ _ h => h) (v := ?tv7) S0 ?ty7 ?tr7
                   case ty7 => (intro w hSw; (try dsimp only at hSw); go_simp; first | done | with_reducible rfl)
                   simp only [Act.put, List.setIfInBounds_toArray, List.set_cons_zero, List.set_cons_succ]
                   refine GoX.take 8 rfl (by kernel_rfl) (by kernel_rfl) (by rfl) (fun _ _ _ h => h) (v := ?tv8) S0 ?ty8 ?tr8
                   case ty8 => (intro w hSw; (try dsimp only at hSw); go_simp; first | done | with_reducible rfl)
                   simp only [Act.put, List.setIfInBounds_toArray, List.set_cons_zero, List.set_cons_succ]
                   refine GoX.take 9 rfl (by kernel_rfl) (by kernel_rfl) (by rfl) (fun _ _ _ h => h) (v := ?tv9) S0 ?ty9 ?tr9
                   case ty9 => (intro w hSw; (try dsimp only at hSw); go_simp; first | done | with_reducible rfl)
                   simp only [Act.put, List.setIfInBounds_toArray, List.set_cons_zero, List.set_cons_succ]
                   refine GoX.take 10 rfl (by kernel_rfl) (by kernel_rfl) (by rfl) (fun _ _ _ h => h) (v := ?tv10) S0 ?ty10 ?tr10
                   case ty10 => (intro w hSw; (try dsimp only at hSw); go_simp; first | done | with_reducible rfl)
                   simp only [Act.put, List.setIfInBounds_toArray, List.set_cons_zero, List.set_cons_succ]
                   refine GoX.take 11 rfl (by kernel_rfl) (by kernel_rfl) (by rfl) (fun _ _ _ h => h) (v := ?tv11) S0 ?ty11 ?tr11
                   case ty11 => (intro w hSw; (try dsimp only at hSw); go_simp; first | done | with_reducible rfl)
                   simp only [Act.put, List.setIfInBounds_toArray, List.set_cons_zero, List.set_cons_succ]
                   refine GoX.take 12 rfl (by kernel_rfl) (by kernel_rfl) (by rfl) (fun _ _ _ h => h) (v := ?tv12) S0 ?ty12 ?tr12
                   case ty12 => (intro w hSw; (try dsimp only at hSw); go_simp; first | done | with_reducible rfl)
                   simp only [Act.put, List.setIfInBounds_toArray, List.set_cons_zero, List.set_cons_succ]
                   refine GoX.take 13 rfl (by kernel_rfl) (by kernel_rfl) (by rfl) (fun _ _ _ h => h) (v := ?tv13) S0 ?ty13 ?tr13
                   case ty13 => (intro w hSw; (try dsimp only at hSw); go_simp; first | done | with_reducible rfl)
                   simp only [Act.put, List.setIfInBounds_toArray, List.set_cons_zero, List.set_cons_succ]
                   refine GoX.take 14 rfl (by kernel_rfl) (by kernel_rfl) (by rfl) (fun _ _ _ h => h) (v := ?tv14) S0 ?ty14 ?tr14
                   case ty14 => (intro w hSw; (try dsimp only at hSw); go_simp; first | done | with_reducible rfl)
                   simp only [Act.put, List.setIfInBounds_toArray, List.set_cons_zero, List.set_cons_succ]
                   refine GoX.take 15 rfl (by kernel_rfl) (by kernel_rfl) (by rfl) (fun _ _ _ h => h) (v := ?tv15) S0 ?ty15 ?tr15
                   case ty15 => (intro w hSw; (try dsimp only at hSw); go_simp; first | done | with_reducible rfl)
                   simp only [Act.put, List.setIfInBounds_toArray, List.set_cons_zero, List.set_cons_succ]
                   refine GoX.take 16 rfl (by kernel_rfl) (by kernel_rfl) (by rfl) (fun _ _ _ h => h) (v := ?tv16) S0 ?ty16 ?tr16
                   case ty16 => (intro w hSw; (try dsimp only at hSw); go_simp; first | done | with_reducible rfl)
                   simp only [Act.put, List.setIfInBounds_toArray, List.set_cons_zero, List.set_cons_succ]
                   refine GoX.take 17 rfl (by kernel_rfl) (by kernel_rfl) (by rfl) (fun _ _ _ h => h) (v := ?tv17) S0 ?ty17 ?tr17
                   case ty17 => (intro w hSw; (try dsimp only at hSw); go_simp; first | done | with_reducible rfl)
                   simp only [Act.put, List.setIfInBounds_toArray, List.set_cons_zero, List.set_cons_succ]
                   refine GoX.take 18 rfl (by kernel_rfl) (by kernel_rfl) (by rfl) (fun _ _ _ h => h) (v := ?tv18) S0 ?ty18 ?tr18
                   case ty18 => (intro w hSw; (try dsimp only at hSw); go_simp; first | done | with_reducible rfl)
                   simp only [Act.put, List.setIfInBounds_toArray, List.set_cons_zero, List.set_cons_succ]
                   refine GoX.take 19 rfl (by kernel_rfl) (by kernel_rfl) (by rfl) (fun _ _ _ h => h) (v := ?tv19) S0 ?ty19 ?tr19
                   case ty19 => (intro w hSw; (try dsimp only at hSw); go_simp; first | done | with_reducible rfl)
                   simp only [Act.put, List.setIfInBounds_toArray, List.set_cons_zero, List.set_cons_succ]
                   refine GoX.take 20 rfl (by kernel_rfl) (by kernel_rfl) (by rfl) (fun _ _ _ h => h) (v := ?tv20) S0 ?ty20 ?tr20
                   case ty20 => (intro w hSw; (try dsimp only at hSw); go_simp; first | done | with_reducible rfl)
                   simp only [Act.put, List.setIfInBounds_toArray, List.set_cons_zero, List.set_cons_succ]
                   refine GoX.take 21 rfl (by kernel_rfl) (by kernel_rfl) (by rfl) (fun _ _ _ h => h) (v := ?tv21) S0 ?ty21 ?tr21
                   case ty21 => (intro w hSw; (try dsimp only at hSw); go_simp; first | done | with_reducible rfl)
                   simp only [Act.put, List.setIfInBounds_toArray, List.set_cons_zero, List.set_cons_succ]
                   refine GoX.take 22 rfl (by kernel_rfl) (by kernel_rfl) (by rfl) (fun _ _ _ h => h) (v := ?tv22) S0 ?ty22 ?tr22
                   case ty22 => (intro w hSw; (try dsimp only at hSw); go_simp; first | done | with_reducible rfl)
                   simp only [Act.put, List.setIfInBounds_toArray, List.set_cons_zero, List.set_cons_succ]
                   refine GoX.take 23 rfl (by kernel_rfl) (by kernel_rfl) (by rfl) (fun _ _ _ h => h) (v := ?tv23) S0 ?ty23 ?tr23
                   case ty23 => (intro w hSw; (try dsimp only at hSw); go_simp; first | done | with_reducible rfl)
                   simp only [Act.put, List.setIfInBounds_toArray, List.set_cons_zero, List.set_cons_succ]
                   refine GoX.take 24 rfl (by kernel_rfl) (by kernel_rfl) (by rfl) (fun _ _ _ h => h) (v := ?tv24) S0 ?ty24 ?tr24
                   case ty24 => (intro w hSw; (try dsimp only at hSw); go_simp; first | done | with_reducible rfl)
                   simp only [Act.put, List.setIfInBounds_toArray, List.set_cons_zero, List.set_cons_succ]
                   refine GoX.take 25 rfl (by kernel_rfl) (by kernel_rfl) (by rfl) (fun _ _ _ h => h) (v := ?tv25) S0 ?ty25 ?tr25
                   case ty25 => (intro w hSw; (try dsimp only at hSw); go_simp; first | done | with_reducible rfl)
                   simp only [Act.put, List.setIfInBounds_toArray, List.set_cons_zero, List.set_cons_succ]
                   refine GoX.take 26 rfl (by kernel_rfl) (by kernel_rfl) (by rfl) (fun _ _ _ h => h) (v := ?tv26) S0 ?ty26 ?tr26
                   case ty26 => (intro w hSw; (try dsimp only at hSw); go_simp; first | done | with_reducible rfl)
                   simp only [Act.put, List.setIfInBounds_toArray, List.set_cons_zero, List.set_cons_succ]
                   refine GoX.take 27 rfl (by kernel_rfl) (by kernel_rfl) (by rfl) (fun _ _ _ h => h) (v := ?tv27) S0 ?ty27 ?tr27
                   case ty27 => (intro w hSw; (try dsimp only at hSw); go_simp; first | done | with_reducible rfl)
                   simp only [Act.put, List.setIfInBounds_toArray, List.set_cons_zero, List.set_cons_succ]
                   refine GoX.take 28 rfl (by kernel_rfl) (by kernel_rfl) (by rfl) (fun _ _ _ h => h) (v := ?tv28) S0 ?ty28 ?tr28
                   case ty28 => (intro w hSw; (try dsimp only at hSw); go_simp; first | done | with_reducible rfl)
                   simp only [Act.put, List.setIfInBounds_toArray, List.set_cons_zero, List.set_cons_succ]
                   refine GoX.take 29 rfl (by kernel_rfl) (by kernel_rfl) (by rfl) (fun _ _ _ h => h) (v := ?tv29) S0 ?ty29 ?tr29
                   case ty29 => (intro w hSw; (try dsimp only at hSw); go_simp; first | done | with_reducible rfl)
                   simp only [Act.put, List.setIfInBounds_toArray, List.set_cons_zero, List.set_cons_succ]
                   refine GoX.take 30 rfl (by kernel_rfl) (by kernel_rfl) (by rfl) (fun _ _ _ h => h) (v := ?tv30) S0 ?ty30 ?tr30
                   case ty30 => (intro w hSw; (try dsimp only at hSw); go_simp; first | done | with_reducible rfl)
                   simp only [Act.put, List.setIfInBounds_toArray, List.set_cons_zero, List.set_cons_succ]
                   have hc9' : wq.drew.cell? ⟨g9, i, none⟩ = some (.int .u32 (x9 : Nat)) := hc9
                   have hfz' : wq.drew.frozen? ⟨g9, i, none⟩ = false := hfz
                   have H9' := Lib.hid (H9.out.below (below_drewS wq))
                   clear hc9 hfz H9 S0
                   refine GoX.last 31 rfl (by kernel_rfl) (by kernel_rfl) (by decide) ?_
                   rw [if_pos (by rfl)]
                   refine wp_store_int 47 _ _ rfl g9 i .u32 (wdR B i : Nat) rfl ?hy (by kernel_rfl) _ hc9' hfz' ?_
                   case hy =>
                     refine Eq.trans (b := Value.int IntKind.u32 ?zz) (by rfl) ?_
                     have z0 : IntKind.u32.wrap (IntKind.u32.wrap (d0 : Int) * 16777216) = ((d0 * 16777216 : Nat) : Int) := by rw [IntKind.wrap_u32', IntKind.wrap_u32']; omega
                     have z1 : IntKind.u32.wrap (IntKind.u32.wrap (d1 : Int) * 65536) = ((d1 * 65536 : Nat) : Int) := by rw [IntKind.wrap_u32', IntKind.wrap_u32']; omega
                     have z2 : IntKind.u32.wrap (IntKind.u32.wrap (d2 : Int) * 256) = ((d2 * 256 : Nat) : Int) := by rw [IntKind.wrap_u32', IntKind.wrap_u32']; omega
                     have z3 : IntKind.u32.wrap (d3 : Int) = ((d3 : Nat) : Int) := by rw [IntKind.wrap_u32']; omega
                     rw [HW.out, z0, z1, z2, z3, u32_be d0 d1 d2 d3 l0 l1 l2 l3]
                   have H10 := H9'.out.set i (wdR B i)
                   rw [fillR_set] at H10
                   have HX := Lib.hid H10
                   clear H10 H9'
                   go_wp2
                   go_roundw
                   case rel => exact ⟨i + 1, by omega, by go_num, HX⟩
                   case measure => simp [intOf] <;> omega
                  -- ]]
                · obtain rfl : i = 16 := by omega
                  clear hlt4 hi16
                  rw [show ((16 : Nat) : Int) = 16 from rfl]
                  go_wp2
                  go_loopw [12] (fun v wr => ∃ i : Nat, 16 ≤ i ∧ i ≤ 64 ∧ v = .int .i64 (i : Nat) ∧ Hid (RW w wr g6 g7 g9 (some ⟨ob, oo, none⟩) L c5 P st (fillR (wdR B) i))) (fun v _ => 64 - (intOf v).toNat)
                  case atStart => exact ⟨16, by omega, by omega, rfl, H9⟩
                  case round =>
                    clear H9
                    rename World => wz
                    obtain ⟨i, hi1, hi2, rfl, H9⟩ := hrel
                    by_cases hlt5 : i < 64
                    · as_aux_lemma => -- [[
                       obtain ⟨i15, hi15⟩ : ∃ x, x = i - 15 := ⟨_, rfl⟩
                       obtain ⟨i2, hi2'⟩ : ∃ x, x = i - 2 := ⟨_, rfl⟩
                       obtain ⟨i16, hi16⟩ : ∃ x, x = i - 16 := ⟨_, rfl⟩
                       obtain ⟨i7, hi7⟩ : ∃ x, x = i - 7 := ⟨_, rfl⟩
                       obtain ⟨x15, hx15⟩ : ∃ x, x = wdR B i15 := ⟨_, rfl⟩
                       obtain ⟨x2, hx2⟩ : ∃ x, x = wdR B i2 := ⟨_, rfl⟩
                       obtain ⟨x16, hx16⟩ : ∃ x, x = wdR B i16 := ⟨_, rfl⟩
                       obtain ⟨x7, hx7⟩ : ∃ x, x = wdR B i7 := ⟨_, rfl⟩
                       have l15 : x15 < 4294967296 := by rw [hx15]; exact wdR_lt HBB.out _ (by omega)
                       have l2 : x2 < 4294967296 := by rw [hx2]; exact wdR_lt HBB.out _ (by omega)
                       have hcc : ∀ (V : World), RW w V g6 g7 g9 (some ⟨ob, oo, none⟩) L c5 P st (fillR (wdR B) i) → ∀ q, q < i → V.cell? ⟨g9, q, none⟩ = some (.int .u32 (wdR B q : Nat)) := fun V hV q hq => by
                         rw [cell_of_row _ _ _ _ _ _ hV.w9, ← fillR_at (wdR B) hi2 hq]
                         exact uv_at (by rw [fillR_len]; omega)
                       have c15 := fun V hV => (hcc V hV i15 (by omega)).trans (show some (Value.int .u32 (wdR B i15 : Nat)) = some (.int .u32 (x15 : Nat)) by rw [hx15])
                       have c2 := fun V hV => (hcc V hV i2 (by omega)).trans (show some (Value.int .u32 (wdR B i2 : Nat)) = some (.int .u32 (x2 : Nat)) by rw [hx2])
                       have c16 := fun V hV => (hcc V hV i16 (by omega)).trans (show some (Value.int .u32 (wdR B i16 : Nat)) = some (.int .u32 (x16 : Nat)) by rw [hx16])
                       have c7 := fun V hV => (hcc V hV i7 (by omega)).trans (show some (Value.int .u32 (wdR B i7 : Nat)) = some (.int .u32 (x7 : Nat)) by rw [hx7])
                       have HWS := Lib.hid (show wdR B i = add32 (add32 (add32 x16 (sig0 x15)) x7) (sig1 x2) by rw [wdR_step B i hi1 hlt5, hx15, hx2, hx16, hx7, hi15, hi2', hi16, hi7])
                       have a15 : i15 < 64 := by omega
                       have a2 : i2 < 64 := by omega
                       have a16 : i16 < 64 := by omega
                       have a7 : i7 < 64 := by omega
                       have b15 : (i15 : Int) < 64 := by omega
                       have b2 : (i2 : Int) < 64 := by omega
                       have b16 : (i16 : Int) < 64 := by omega
                       have b7 : (i7 : Int) < 64 := by omega
                       have bi : (i : Int) < 64 := by omega
                       have e15 : IntKind.i64.wrap ((i : Int) - 15) = (i15 : Int) := by rw [wrap_i64_id _ (by omega) (by omega)]; omega
                       have e2 : IntKind.i64.wrap ((i : Int) - 2) = (i2 : Int) := by rw [wrap_i64_id _ (by omega) (by omega)]; omega
                       have e16 : IntKind.i64.wrap ((i : Int) - 16) = (i16 : Int) := by rw [wrap_i64_id _ (by omega) (by omega)]; omega
                       have e7 : IntKind.i64.wrap ((i : Int) - 7) = (i7 : Int) := by rw [wrap_i64_id _ (by omega) (by omega)]; omega
                       have T7 := fun w => turn_any x15 7 l15 (by decide) (by decide) w
                       have T18 := fun w => turn_any x15 18 l15 (by decide) (by decide) w
                       have T17 := fun w => turn_any x2 17 l2 (by decide) (by decide) w
                       have T19 := fun w => turn_any x2 19 l2 (by decide) (by decide) w
                       have HE := Lib.hid (And.intro hi15 (And.intro hi2' (And.intro hi16 hi7)))
                       clear hx15 hx2 hx16 hx7 hcc hi15 hi2' hi16 hi7
                       have HC := Lib.hid (And.intro c15 (And.intro c2 (And.intro c16 c7)))
                       clear c15 c2 c16 c7
                       have k15 := HC.out.1 _ H9.out
                       go_upto_region 25 with fail
                       go_quiet (first | (go_at_call 33; (with_reducible exact Calls.quiet_of_same (T7 _))) | (go_at_call 33; (with_reducible exact Calls.quiet_of_same (T18 _))))
                       rw [sig0_raw x15 l15]
                       obtain ⟨s0, hs0⟩ : ∃ x, x = sig0 x15 := ⟨_, rfl⟩
                       rw [← hs0] at HWS ⊢
                       clear hs0 T7 T18 k15
                       go_wp2_with fail
                       refine (?_ : ∀ W, RW w W g6 g7 g9 (some ⟨ob, oo, none⟩) L c5 P st (fillR (wdR B) i) → Code.wp Tryd.prog _ _ _ W) _ (H9.out.below (below_drewN wz _))
                       clear H9
                       rintro W1 H9
                       have k2 := HC.out.2.1 _ H9
                       have H9 := Lib.hid H9
                       go_quiet (first | (go_at_call 33; (with_reducible exact Calls.quiet_of_same (T17 _))) | (go_at_call 33; (with_reducible exact Calls.quiet_of_same (T19 _))))
                       rw [sig1_raw x2 l2]
                       obtain ⟨s1, hs1⟩ : ∃ x, x = sig1 x2 := ⟨_, rfl⟩
                       rw [← hs1] at HWS ⊢
                       clear hs1 T17 T19 k2
                       go_wp2_with fail
                       refine (?_ : ∀ W, RW w W g6 g7 g9 (some ⟨ob, oo, none⟩) L c5 P st (fillR (wdR B) i) → Code.wp Tryd.prog _ _ _ W) _ (H9.out.below (below_drewN W1 _))
                       clear H9
                       rintro W2 H9
                       have H9' := H9.below (below_drewS W2)
                       have S0 : W2.drew.cell? ⟨g9, i16, none⟩ = some (.int .u32 (x16 : Nat)) ∧ W2.drew.cell? ⟨g9, i7, none⟩ = some (.int .u32 (x7 : Nat)) := ⟨HC.out.2.2.1 _ H9', HC.out.2.2.2 _ H9'⟩
                       obtain ⟨x9, hx9⟩ : ∃ x, x = g' (fillR (wdR B) i) i := ⟨_, rfl⟩
                       have hc9' : W2.drew.cell? ⟨g9, i, none⟩ = some (.int .u32 (x9 : Nat)) := by rw [cell_of_row _ _ _ _ _ _ H9'.w9, hx9]; exact uv_at (by rw [fillR_len]; omega)
                       have hfz' : W2.drew.frozen? ⟨g9, i, none⟩ = false := frozen_of_row _ _ _ _ _ H9'.w9
                       have H10 := H9'.set i (wdR B i)
                       rw [fillR_set] at H10
                       have HX := Lib.hid H10
                       clear H10 H9' H9 hx9 HC
                       refine GoX.start 15 (fun w' => w'.cell? ⟨g9, i16, none⟩ = some (.int .u32 (x16 : Nat)) ∧ w'.cell? ⟨g9, i7, none⟩ = some (.int .u32 (x7 : Nat))) (by kernel_rfl) ?_
                       refine GoX.take 0 rfl (by kernel_rfl) (by kernel_rfl) (by rfl) (fun _ _ _ h => h) (v := ?tv0q2) S0 ?ty0q2 ?tr0q2
                       case ty0q2 => (intro w hSw; (try dsimp only at hSw); go_simp; first | done | with_reducible rfl)
                       simp only [Act.put, List.setIfInBounds_toArray, List.set_cons_zero, List.set_cons_succ]
                       refine GoX.take 1 rfl (by kernel_rfl) (by kernel_rfl) (by rfl) (fun _ _ _ h => h) (v := ?tv1q2) S0 ?ty1q2 ?tr1q2
                       case ty1q2 => (intro w hSw; (try dsimp only at hSw); go_simp; first | done | with_reducible rfl)
                       simp only [Act.put, List.setIfInBounds_toArray, List.set_cons_zero, List.set_cons_succ]
                       refine GoX.take 2 rfl (by kernel_rfl) (by kernel_rfl) (by rfl) (fun _ _ _ h => h) (v := ?tv2q2) S0 ?ty2q2 ?tr2q2
                       case ty2q2 => (intro w hSw; (try dsimp only at hSw); go_simp; first | done | with_reducible rfl)
                       simp only [Act.put, List.setIfInBounds_toArray, List.set_cons_zero, List.set_cons_succ]
                       refine GoX.take 3 rfl (by kernel_rfl) (by kernel_rfl) (by rfl) (fun _ _ _ h => h) (v := ?tv3q2) S0 ?ty3q2 ?tr3q2
                       case ty3q2 => (intro w hSw; (try dsimp only at hSw); go_simp; first | done | with_reducible rfl)
                       simp only [Act.put, List.setIfInBounds_toArray, List.set_cons_zero, List.set_cons_succ]
                       refine GoX.take 4 rfl (by kernel_rfl) (by kernel_rfl) (by rfl) (fun _ _ _ h => h) (v := ?tv4q2) S0 ?ty4q2 ?tr4q2
                       case ty4q2 => (intro w hSw; (try dsimp only at hSw); go_simp; first | done | with_reducible rfl)
                       simp only [Act.put, List.setIfInBounds_toArray, List.set_cons_zero, List.set_cons_succ]
                       refine GoX.take 5 rfl (by kernel_rfl) (by kernel_rfl) (by rfl) (fun _ _ _ h => h) (v := ?tv5q2) S0 ?ty5q2 ?tr5q2
                       case ty5q2 => (intro w hSw; (try dsimp only at hSw); go_simp; first | done | with_reducible rfl)
                       simp only [Act.put, List.setIfInBounds_toArray, List.set_cons_zero, List.set_cons_succ]
                       refine GoX.take 6 rfl (by kernel_rfl) (by kernel_rfl) (by rfl) (fun _ _ _ h => h) (v := ?tv6q2) S0 ?ty6q2 ?tr6q2
                       case ty6q2 => (intro w hSw; (try dsimp only at hSw); go_simp; first | done | with_reducible rfl)
                       simp only [Act.put, List.setIfInBounds_toArray, List.set_cons_zero, List.set_cons_succ]
                       refine GoX.take 7 rfl (by kernel_rfl) (by kernel_rfl) (by rfl) (fun _ _ _ h => h) (v := ?tv7q2) S0 ?ty7q2 ?tr7q2
                       case ty7q2 => (intro w hSw; (try dsimp only at hSw); go_simp; first | done | with_reducible rfl)
                       simp only [Act.put, List.setIfInBounds_toArray, List.set_cons_zero, List.set_cons_succ]
                       refine GoX.take 8 rfl (by kernel_rfl) (by kernel_rfl) (by rfl) (fun _ _ _ h => h) (v := ?tv8q2) S0 ?ty8q2 ?tr8q2
                       case ty8q2 => (intro w hSw; (try dsimp only at hSw); go_simp; first | done | with_reducible rfl)
                       simp only [Act.put, List.setIfInBounds_toArray, List.set_cons_zero, List.set_cons_succ]
                       refine GoX.take 9 rfl (by kernel_rfl) (by kernel_rfl) (by rfl) (fun _ _ _ h => h) (v := ?tv9q2) S0 ?ty9q2 ?tr9q2
                       case ty9q2 => (intro w hSw; (try dsimp only at hSw); go_simp; first | done | with_reducible rfl)
                       simp only [Act.put, List.setIfInBounds_toArray, List.set_cons_zero, List.set_cons_succ]
                       refine GoX.take 10 rfl (by kernel_rfl) (by kernel_rfl) (by rfl) (fun _ _ _ h => h) (v := ?tv10q2) S0 ?ty10q2 ?tr10q2
                       case ty10q2 => (intro w hSw; (try dsimp only at hSw); go_simp; first | done | with_reducible rfl)
                       simp only [Act.put, List.setIfInBounds_toArray, List.set_cons_zero, List.set_cons_succ]
                       refine GoX.take 11 rfl (by kernel_rfl) (by kernel_rfl) (by rfl) (fun _ _ _ h => h) (v := ?tv11q2) S0 ?ty11q2 ?tr11q2
                       case ty11q2 => (intro w hSw; (try dsimp only at hSw); go_simp; first | done | with_reducible rfl)
                       simp only [Act.put, List.setIfInBounds_toArray, List.set_cons_zero, List.set_cons_succ]
                       refine GoX.take 12 rfl (by kernel_rfl) (by kernel_rfl) (by rfl) (fun _ _ _ h => h) (v := ?tv12q2) S0 ?ty12q2 ?tr12q2
                       case ty12q2 => (intro w hSw; (try dsimp only at hSw); go_simp; first | done | with_reducible rfl)
                       simp only [Act.put, List.setIfInBounds_toArray, List.set_cons_zero, List.set_cons_succ]
                       refine GoX.take 13 rfl (by kernel_rfl) (by kernel_rfl) (by rfl) (fun _ _ _ h => h) (v := ?tv13q2) S0 ?ty13q2 ?tr13q2
                       case ty13q2 => (intro w hSw; (try dsimp only at hSw); go_simp; first | done | with_reducible rfl)
                       simp only [Act.put, List.setIfInBounds_toArray, List.set_cons_zero, List.set_cons_succ]
                       refine GoX.take 14 rfl (by kernel_rfl) (by kernel_rfl) (by rfl) (fun _ _ _ h => h) (v := ?tv14q2) S0 ?ty14q2 ?tr14q2
                       case ty14q2 => (intro w hSw; (try dsimp only at hSw); go_simp; first | done | with_reducible rfl)
                       simp only [Act.put, List.setIfInBounds_toArray, List.set_cons_zero, List.set_cons_succ]
                       refine GoX.last 15 rfl (by kernel_rfl) (by kernel_rfl) (by decide) ?_
                       rw [if_pos (by rfl)]
                       refine wp_store_int 47 _ _ rfl g9 i .u32 (wdR B i : Nat) rfl ?hy2 (by kernel_rfl) _ hc9' hfz' ?_
                       case hy2 =>
                         refine Eq.trans (b := Value.int IntKind.u32 ?zz2) (by rfl) ?_
                         rw [HWS.out, wrap_add32, wrap_add32, wrap_add32]
                       clear hc9' hfz' S0 e15 e2 e16 e7 a15 a2 a16 a7 b15 b2 b16 b7 bi HWS l15 l2
                       go_wp2
                       go_roundw
                       case rel => exact ⟨i + 1, by omega, by omega, by go_num, HX⟩
                       case measure => simp [intOf] <;> omega
                      -- ]]
                    · obtain rfl : i = 64 := by omega
                      clear hlt5 hi1 hi2
                      rw [show ((64 : Nat) : Int) = 64 from rfl]
                      obtain ⟨Sc, hSc⟩ : ∃ A, A = (st.map uv).toArray := ⟨_, rfl⟩
                      have hSs : Sc.size = 8 := by rw [hSc]; simp [HST.out.1]
                      have hiS : (Tryd.prog.info? AT8).map (·.size) = some Sc.size := by rw [hSs]; exact infoA8
                      have hoS : Sc.all (·.oneCell') = true := by rw [hSc]; exact uv_one _
                      have hg7 := H9.out.r.s
                      rw [← hSc] at hg7
                      have HSc := Lib.hid hSc
                      clear hSc
                      go_upto_region 29 with (first | (refine wpList_load_row rfl AT8 _ rfl g7 rfl AT8 Sc (0, 0) _ hg7 Tryd.underlying48 rfl hiS ?_) | (refine wpList_store_row rfl AT8 _ _ rfl wz.heap.size Sc rfl rfl AT8 _ (heap_alloc_new wz _) hiS (by rw [hSs]; rfl) hoS ?_))
                      obtain ⟨g15, hg15⟩ : ∃ g, g = wz.heap.size := ⟨_, rfl⟩
                      rw [← hg15]
                      refine (?_ : ∀ W9, RV w W9 g6 g7 g9 g15 (some ⟨ob, oo, none⟩) L c5 P st (fillR (wdR B) 64) (roundsR st (wordsR B) 0).1 → Code.wp Tryd.prog _ _ _ W9) _ ?start15
                      case start15 =>
                        have h1 := H9.out.below (below_alloc wz (.cells ((List.replicate 8 0).map uv).toArray AT8))
                        have l6 := (Array.getElem?_eq_some_iff.1 H9.out.r.k).1
                        have l7 := (Array.getElem?_eq_some_iff.1 H9.out.r.s).1
                        have l9 := (Array.getElem?_eq_some_iff.1 H9.out.w9).1
                        have hgn : (wz.alloc (.cells ((List.replicate 8 0).map uv).toArray AT8)).heap[g15]? = some (.cells ((List.replicate 8 0).map uv).toArray AT8 (0, 0)) := by rw [hg15]; exact heap_alloc_new wz _
                        have hbz := H9.out.r.bel.size
                        have h2 : RV w (wz.alloc (.cells ((List.replicate 8 0).map uv).toArray AT8)) g6 g7 g9 g15 (some ⟨ob, oo, none⟩) L c5 P st (fillR (wdR B) 64) (List.replicate 8 0) := ⟨h1, hgn, by omega, by omega, by omega, by omega⟩
                        exact h2.setV _ HSc.out
                      clear H9 hg15 hg7 hSs hiS hoS HSc
                      intro W9 h9
                      have H9 := Lib.hid h9
                      clear h9
                      go_wp2
                      go_loopw [16] (fun v wr => ∃ i : Nat, i ≤ 64 ∧ v = .int .i64 (i : Nat) ∧ Hid (RV w wr g6 g7 g9 g15 (some ⟨ob, oo, none⟩) L c5 P st (fillR (wdR B) 64) (roundsR st (wordsR B) i).1)) (fun v _ => 64 - (intOf v).toNat)
                      case atStart => exact ⟨0, by omega, rfl, H9⟩
                      case round =>
                        clear H9
                        rename World => wy
                        obtain ⟨i, hi2, rfl, H9⟩ := hrel
                        by_cases hlt6 : i < 64
                        · -- [[
                           obtain ⟨N, hN⟩ : ∃ x, x = (roundsR st (wordsR B) i).1 := ⟨_, rfl⟩
                           rw [← hN] at H9
                           have hNl : N.length = 8 := by rw [hN]; exact (roundsR_len HST.out.1 (wordsR_len B) i).1
                           have HNL := Lib.hid hNl
                           have hNw : Words N := by rw [hN]; exact (roundsR_words HST.out.2 (wordsR_words HBB.out) i).1
                           obtain ⟨kp, hkp⟩ : ∃ x, x = g' shaK i := ⟨_, rfl⟩
                           obtain ⟨wp, hwp⟩ : ∃ x, x = wdR B i := ⟨_, rfl⟩
                           have HNX := Lib.hid (show (roundsR st (wordsR B) (i + 1)).1 = roundR N kp wp by rw [hN, hkp, hwp, wdR_round st B i hlt6]; rfl)
                           have hck : ∀ V, RV w V g6 g7 g9 g15 (some ⟨ob, oo, none⟩) L c5 P st (fillR (wdR B) 64) N → V.cell? ⟨g6, i, none⟩ = some (.int .u32 (kp : Nat)) := fun V hV => by rw [cell_of_row _ _ _ _ _ _ hV.r.r.k, hkp]; exact uv_at (by exact hlt6)
                           have hcw : ∀ V, RV w V g6 g7 g9 g15 (some ⟨ob, oo, none⟩) L c5 P st (fillR (wdR B) 64) N → V.cell? ⟨g9, i, none⟩ = some (.int .u32 (wp : Nat)) := fun V hV => by rw [cell_of_row _ _ _ _ _ _ hV.r.w9, hwp, ← fillR_at (wdR B) (Nat.le_refl 64) hlt6]; exact uv_at (by rw [fillR_len]; exact hlt6)
                           obtain ⟨n0, hn0⟩ : ∃ x, x = g' N 0 := ⟨_, rfl⟩
                           have ln0 : n0 < 4294967296 := by rw [hn0]; exact hNw.g' 0
                           have cn0 : ∀ V, RV w V g6 g7 g9 g15 (some ⟨ob, oo, none⟩) L c5 P st (fillR (wdR B) 64) N → V.cell? ⟨g15, 0, none⟩ = some (.int .u32 (n0 : Nat)) := fun V hV => by rw [cell_of_row _ _ _ _ _ _ hV.v15, hn0]; exact uv_at (by rw [hNl]; decide)
                           obtain ⟨n1, hn1⟩ : ∃ x, x = g' N 1 := ⟨_, rfl⟩
                           have ln1 : n1 < 4294967296 := by rw [hn1]; exact hNw.g' 1
                           have cn1 : ∀ V, RV w V g6 g7 g9 g15 (some ⟨ob, oo, none⟩) L c5 P st (fillR (wdR B) 64) N → V.cell? ⟨g15, 1, none⟩ = some (.int .u32 (n1 : Nat)) := fun V hV => by rw [cell_of_row _ _ _ _ _ _ hV.v15, hn1]; exact uv_at (by rw [hNl]; decide)
                           obtain ⟨n2, hn2⟩ : ∃ x, x = g' N 2 := ⟨_, rfl⟩
                           have ln2 : n2 < 4294967296 := by rw [hn2]; exact hNw.g' 2
                           have cn2 : ∀ V, RV w V g6 g7 g9 g15 (some ⟨ob, oo, none⟩) L c5 P st (fillR (wdR B) 64) N → V.cell? ⟨g15, 2, none⟩ = some (.int .u32 (n2 : Nat)) := fun V hV => by rw [cell_of_row _ _ _ _ _ _ hV.v15, hn2]; exact uv_at (by rw [hNl]; decide)
                           obtain ⟨n3, hn3⟩ : ∃ x, x = g' N 3 := ⟨_, rfl⟩
                           have ln3 : n3 < 4294967296 := by rw [hn3]; exact hNw.g' 3
                           have cn3 : ∀ V, RV w V g6 g7 g9 g15 (some ⟨ob, oo, none⟩) L c5 P st (fillR (wdR B) 64) N → V.cell? ⟨g15, 3, none⟩ = some (.int .u32 (n3 : Nat)) := fun V hV => by rw [cell_of_row _ _ _ _ _ _ hV.v15, hn3]; exact uv_at (by rw [hNl]; decide)
                           obtain ⟨n4, hn4⟩ : ∃ x, x = g' N 4 := ⟨_, rfl⟩
                           have ln4 : n4 < 4294967296 := by rw [hn4]; exact hNw.g' 4
                           have cn4 : ∀ V, RV w V g6 g7 g9 g15 (some ⟨ob, oo, none⟩) L c5 P st (fillR (wdR B) 64) N → V.cell? ⟨g15, 4, none⟩ = some (.int .u32 (n4 : Nat)) := fun V hV => by rw [cell_of_row _ _ _ _ _ _ hV.v15, hn4]; exact uv_at (by rw [hNl]; decide)
                           obtain ⟨n5, hn5⟩ : ∃ x, x = g' N 5 := ⟨_, rfl⟩
                           have ln5 : n5 < 4294967296 := by rw [hn5]; exact hNw.g' 5
                           have cn5 : ∀ V, RV w V g6 g7 g9 g15 (some ⟨ob, oo, none⟩) L c5 P st (fillR (wdR B) 64) N → V.cell? ⟨g15, 5, none⟩ = some (.int .u32 (n5 : Nat)) := fun V hV => by rw [cell_of_row _ _ _ _ _ _ hV.v15, hn5]; exact uv_at (by rw [hNl]; decide)
                           obtain ⟨n6, hn6⟩ : ∃ x, x = g' N 6 := ⟨_, rfl⟩
                           have ln6 : n6 < 4294967296 := by rw [hn6]; exact hNw.g' 6
                           have cn6 : ∀ V, RV w V g6 g7 g9 g15 (some ⟨ob, oo, none⟩) L c5 P st (fillR (wdR B) 64) N → V.cell? ⟨g15, 6, none⟩ = some (.int .u32 (n6 : Nat)) := fun V hV => by rw [cell_of_row _ _ _ _ _ _ hV.v15, hn6]; exact uv_at (by rw [hNl]; decide)
                           obtain ⟨n7, hn7⟩ : ∃ x, x = g' N 7 := ⟨_, rfl⟩
                           have ln7 : n7 < 4294967296 := by rw [hn7]; exact hNw.g' 7
                           have cn7 : ∀ V, RV w V g6 g7 g9 g15 (some ⟨ob, oo, none⟩) L c5 P st (fillR (wdR B) 64) N → V.cell? ⟨g15, 7, none⟩ = some (.int .u32 (n7 : Nat)) := fun V hV => by rw [cell_of_row _ _ _ _ _ _ hV.v15, hn7]; exact uv_at (by rw [hNl]; decide)
                           have HNS := Lib.hid (show roundR N kp wp = [add32 (add32 (add32 (add32 (add32 n7 (big1 n4)) (ch n4 n5 n6)) kp) wp) (add32 (big0 n0) (maj n0 n1 n2)), n0, n1, n2, add32 n3 (add32 (add32 (add32 (add32 n7 (big1 n4)) (ch n4 n5 n6)) kp) wp), n4, n5, n6] by rw [hn0, hn1, hn2, hn3, hn4, hn5, hn6, hn7]; rfl)
                           have HC := Lib.hid (And.intro hck (And.intro hcw (And.intro cn0 (And.intro cn1 (And.intro cn2 (And.intro cn3 (And.intro cn4 (And.intro cn5 (And.intro cn6 cn7)))))))))
                           have bi : (i : Int) < 64 := by omega
                           have T6 := fun w => turn_any n4 6 ln4 (by decide) (by decide) w
                           have T11 := fun w => turn_any n4 11 ln4 (by decide) (by decide) w
                           have T25 := fun w => turn_any n4 25 ln4 (by decide) (by decide) w
                           have T2 := fun w => turn_any n0 2 ln0 (by decide) (by decide) w
                           have T13 := fun w => turn_any n0 13 ln0 (by decide) (by decide) w
                           have T22 := fun w => turn_any n0 22 ln0 (by decide) (by decide) w
                           clear hck hcw cn0 cn1 cn2 cn3 cn4 cn5 cn6 cn7 hn0 hn1 hn2 hn3 hn4 hn5 hn6 hn7 hN hkp hwp hNl hNw hi2
                           have kk := HC.out.1 _ H9.out
                           have kw := HC.out.2.1 _ H9.out
                           have k4 := HC.out.2.2.2.2.2.2.1 _ H9.out
                           have k5 := HC.out.2.2.2.2.2.2.2.1 _ H9.out
                           have k6 := HC.out.2.2.2.2.2.2.2.2.1 _ H9.out
                           have k7 := HC.out.2.2.2.2.2.2.2.2.2 _ H9.out
                           go_upto_region 32 with fail
                           go_quiet (first | (go_at_call 33; (with_reducible exact Calls.quiet_of_same (T6 _))) | (go_at_call 33; (with_reducible exact Calls.quiet_of_same (T11 _))) | (go_at_call 33; (with_reducible exact Calls.quiet_of_same (T25 _))))
                           rw [t1_ref n7 n4 n5 n6 kp wp ln4 ln5 ln6]
                           obtain ⟨t1, ht1⟩ : ∃ x, x = add32 (add32 (add32 (add32 n7 (big1 n4)) (ch n4 n5 n6)) kp) wp := ⟨_, rfl⟩
                           rw [← ht1] at HNS ⊢
                           clear ht1 T6 T11 T25 kk kw k4 k5 k6 k7
                           go_wp2_with fail
                           refine (?_ : ∀ W, RV w W g6 g7 g9 g15 (some ⟨ob, oo, none⟩) L c5 P st (fillR (wdR B) 64) N → Code.wp Tryd.prog _ _ _ W) _ (H9.out.below (below_drewN wy _))
                           clear H9
                           rintro W1 H9
                           have k0 := HC.out.2.2.1 _ H9
                           have k1 := HC.out.2.2.2.1 _ H9
                           have k2 := HC.out.2.2.2.2.1 _ H9
                           have H9 := Lib.hid H9
                           go_quiet (first | (go_at_call 33; (with_reducible exact Calls.quiet_of_same (T2 _))) | (go_at_call 33; (with_reducible exact Calls.quiet_of_same (T13 _))) | (go_at_call 33; (with_reducible exact Calls.quiet_of_same (T22 _))))
                           rw [t2_ref n0 n1 n2 ln0 ln1 ln2]
                           obtain ⟨t2, ht2⟩ : ∃ x, x = add32 (big0 n0) (maj n0 n1 n2) := ⟨_, rfl⟩
                           rw [← ht2] at HNS ⊢
                           clear ht2 T2 T13 T22 k0 k1 k2
                           go_upto_region 34 with fail
                           refine (?_ : ∀ W, RV w W g6 g7 g9 g15 (some ⟨ob, oo, none⟩) L c5 P st (fillR (wdR B) 64) N → Code.wp Tryd.prog _ _ _ W) _ (H9.out.below (below_drewN W1 _))
                           clear H9
                           rintro W2 H9
                           have k0 := HC.out.2.2.1 _ H9
                           have k1 := HC.out.2.2.2.1 _ H9
                           have k2 := HC.out.2.2.2.2.1 _ H9
                           have k3 := HC.out.2.2.2.2.2.1 _ H9
                           have k4 := HC.out.2.2.2.2.2.2.1 _ H9
                           have k5 := HC.out.2.2.2.2.2.2.2.1 _ H9
                           have k6 := HC.out.2.2.2.2.2.2.2.2.1 _ H9
                           have H9 := Lib.hid H9
                           clear HC
                           go_wp2_with (first | ((with_reducible show wpList _ _ _ (⟨some 242, _, _, _, _, _⟩ :: _) _ _); refine Hid.out ?_))
                           refine Lib.hid ?_
                           rw [add_mod32 t1 t2, add_mod32 n3 t1]
                           obtain ⟨y0, hy0⟩ : ∃ x, x = add32 t1 t2 := ⟨_, rfl⟩
                           obtain ⟨y4, hy4⟩ : ∃ x, x = add32 n3 t1 := ⟨_, rfl⟩
                           rw [← hy0, ← hy4] at HNS ⊢
                           clear hy0 hy4
                           obtain ⟨Nc, hNc⟩ : ∃ A, A = ([y0, n0, n1, n2, y4, n4, n5, n6].map uv).toArray := ⟨_, rfl⟩
                           have HNc := Lib.hid hNc
                           refine wpList_builtS rfl AT8 _ rfl Nc (by rw [hNc]; kernel_rfl) ?_
                           have hNs : Nc.size = 8 := by rw [hNc]; rfl
                           have hiN : (Tryd.prog.info? AT8).map (·.size) = some Nc.size := by rw [hNs]; exact infoA8
                           have hoN : Nc.all (·.oneCell') = true := by rw [hNc]; exact uv_one _
                           have h15 := H9.out.v15
                           have hoS : ((N.map uv).toArray).size = Nc.size := by rw [hNs]; simp [HNL.out]
                           have H10 := Lib.hid (H9.out.setV _ hNc)
                           clear hNc H9 k0 k1 k2 k3 k4 k5 k6
                           go_wp2_with (first | (refine wpList_store_row rfl AT8 _ _ rfl g15 Nc rfl rfl AT8 _ h15 hiN hoS hoN ?_))
                           go_roundw
                           case rel => exact ⟨i + 1, by omega, by go_num, by rw [HNX.out, HNS.out]; exact H10⟩
                           case measure => simp [intOf] <;> omega
                          -- ]]
                        · obtain rfl : i = 64 := by omega
                          clear hlt6 hi2
                          rw [show ((64 : Nat) : Int) = 64 from rfl]
                          obtain ⟨N, hN⟩ : ∃ x, x = (roundsR st (wordsR B) 64).1 := ⟨_, rfl⟩
                          rw [← hN] at H9
                          have hNl : N.length = 8 := by rw [hN]; exact (roundsR_len HST.out.1 (wordsR_len B) 64).1
                          have HNL := Lib.hid hNl
                          have HN := Lib.hid hN
                          clear hN hNl
                          have H9' : Hid (RV w wy g6 g7 g9 g15 (some ⟨ob, oo, none⟩) L c5 P (stSum st N 0) (fillR (wdR B) 64) N) := by rw [stSum_zero st N HST.out.1]; exact H9
                          clear H9
                          go_wp2
                          go_loopw [19] (fun v wr => ∃ i : Nat, i ≤ 8 ∧ v = .int .i64 (i : Nat) ∧ Hid (RV w wr g6 g7 g9 g15 (some ⟨ob, oo, none⟩) L c5 P (stSum st N i) (fillR (wdR B) 64) N)) (fun v _ => 8 - (intOf v).toNat)
                          case atStart => exact ⟨0, by omega, rfl, H9'⟩
                          case round =>
                            clear H9'
                            rename World => wx
                            obtain ⟨i, hi2, rfl, H9⟩ := hrel
                            by_cases hlt7 : i < 8
                            · as_aux_lemma => -- [[
                               obtain ⟨x7, hx7⟩ : ∃ x, x = g' st i := ⟨_, rfl⟩
                               obtain ⟨x15, hx15⟩ : ∃ x, x = g' N i := ⟨_, rfl⟩
                               have H9' := H9.out.below (below_drewS wx)
                               have c7 : wx.drew.cell? ⟨g7, i, none⟩ = some (.int .u32 (x7 : Nat)) := by rw [cell_of_row _ _ _ _ _ _ H9'.r.r.s, hx7, ← stSum_at st N hlt7]; exact uv_at (by rw [stSum_len]; exact hlt7)
                               have c15 : wx.drew.cell? ⟨g15, i, none⟩ = some (.int .u32 (x15 : Nat)) := by rw [cell_of_row _ _ _ _ _ _ H9'.v15, hx15]; exact uv_at (by rw [HNL.out]; exact hlt7)
                               have hfz' : wx.drew.frozen? ⟨g7, i, none⟩ = false := frozen_of_row _ _ _ _ _ H9'.r.r.s
                               have H10 := H9'.setS hne67 i (add32 x7 x15)
                               rw [hx7, hx15, stSum_set st N hlt7, ← hx7, ← hx15] at H10
                               have HX := Lib.hid H10
                               have bi : (i : Int) < 8 := by omega
                               clear H10 H9' H9 hx7 hx15
                               go_upto_region 38 with fail
                               have S0 : wx.drew.cell? ⟨g7, i, none⟩ = some (.int .u32 (x7 : Nat)) ∧ wx.drew.cell? ⟨g15, i, none⟩ = some (.int .u32 (x15 : Nat)) := ⟨c7, c15⟩
                               refine GoX.start 8 (fun w' => w'.cell? ⟨g7, i, none⟩ = some (.int .u32 (x7 : Nat)) ∧ w'.cell? ⟨g15, i, none⟩ = some (.int .u32 (x15 : Nat))) (by kernel_rfl) ?_
                               refine GoX.take 0 rfl (by kernel_rfl) (by kernel_rfl) (by rfl) (fun _ _ _ h => h) (v := ?tv0q3) S0 ?ty0q3 ?tr0q3
                               case ty0q3 => (intro w hSw; (try dsimp only at hSw); go_simp; first | done | with_reducible rfl)
                               simp only [Act.put, List.setIfInBounds_toArray, List.set_cons_zero, List.set_cons_succ]
                               refine GoX.take 1 rfl (by kernel_rfl) (by kernel_rfl) (by rfl) (fun _ _ _ h => h) (v := ?tv1q3) S0 ?ty1q3 ?tr1q3
                               case ty1q3 => (intro w hSw; (try dsimp only at hSw); go_simp; first | done | with_reducible rfl)
                               simp only [Act.put, List.setIfInBounds_toArray, List.set_cons_zero, List.set_cons_succ]
                               refine GoX.take 2 rfl (by kernel_rfl) (by kernel_rfl) (by rfl) (fun _ _ _ h => h) (v := ?tv2q3) S0 ?ty2q3 ?tr2q3
                               case ty2q3 => (intro w hSw; (try dsimp only at hSw); go_simp; first | done | with_reducible rfl)
                               simp only [Act.put, List.setIfInBounds_toArray, List.set_cons_zero, List.set_cons_succ]
                               refine GoX.take 3 rfl (by kernel_rfl) (by kernel_rfl) (by rfl) (fun _ _ _ h => h) (v := ?tv3q3) S0 ?ty3q3 ?tr3q3
                               case ty3q3 => (intro w hSw; (try dsimp only at hSw); go_simp; first | done | with_reducible rfl)
                               simp only [Act.put, List.setIfInBounds_toArray, List.set_cons_zero, List.set_cons_succ]
                               refine GoX.take 4 rfl (by kernel_rfl) (by kernel_rfl) (by rfl) (fun _ _ _ h => h) (v := ?tv4q3) S0 ?ty4q3 ?tr4q3
                               case ty4q3 => (intro w hSw; (try dsimp only at hSw); go_simp; first | done | with_reducible rfl)
                               simp only [Act.put, List.setIfInBounds_toArray, List.set_cons_zero, List.set_cons_succ]
                               refine GoX.take 5 rfl (by kernel_rfl) (by kernel_rfl) (by rfl) (fun _ _ _ h => h) (v := ?tv5q3) S0 ?ty5q3 ?tr5q3
                               case ty5q3 => (intro w hSw; (try dsimp only at hSw); go_simp; first | done | with_reducible rfl)
                               simp only [Act.put, List.setIfInBounds_toArray, List.set_cons_zero, List.set_cons_succ]
                               refine GoX.take 6 rfl (by kernel_rfl) (by kernel_rfl) (by rfl) (fun _ _ _ h => h) (v := ?tv6q3) S0 ?ty6q3 ?tr6q3
                               case ty6q3 => (intro w hSw; (try dsimp only at hSw); go_simp; first | done | with_reducible rfl)
                               simp only [Act.put, List.setIfInBounds_toArray, List.set_cons_zero, List.set_cons_succ]
                               refine GoX.take 7 rfl (by kernel_rfl) (by kernel_rfl) (by rfl) (fun _ _ _ h => h) (v := ?tv7q3) S0 ?ty7q3 ?tr7q3
                               case ty7q3 => (intro w hSw; (try dsimp only at hSw); go_simp; first | done | with_reducible rfl)
                               simp only [Act.put, List.setIfInBounds_toArray, List.set_cons_zero, List.set_cons_succ]
                               refine GoX.last 8 rfl (by kernel_rfl) (by kernel_rfl) (by decide) ?_
                               rw [if_pos (by rfl)]
                               refine wp_store_int 47 _ _ rfl g7 i .u32 (add32 x7 x15 : Nat) rfl ?hy3 (by kernel_rfl) _ c7 hfz' ?_
                               case hy3 =>
                                 refine Eq.trans (b := Value.int IntKind.u32 ?zz3) (by rfl) ?_
                                 rw [wrap_add32]
                               clear c7 c15 hfz' S0
                               go_wp2
                               go_roundw
                               case rel => exact ⟨i + 1, by omega, by go_num, HX⟩
                               case measure => simp [intOf] <;> omega
                              -- ]]
                            · obtain rfl : i = 8 := by omega
                              have H10 := H9.out.r.r
                              rw [HN.out, stSum_eight, ← HF.out] at H10
                              have HX := Lib.hid H10
                              have hT2 : (T : Int) + 64 = ((64 * (k + 1) : Nat) : Int) := by have := HT.out; omega
                              have hTk : 64 * (k + 1) ≤ L := by have := HT.out; omega
                              have HT2 := Lib.hid (And.intro hT2 hTk)
                              clear H10 H9 hT2 hTk
                              go_wp2
                              go_roundw
                              case rel => exact ⟨k + 1, HT2.out.2, by rw [← HT2.out.1], HX⟩
                              case measure => simp [intOf] <;> omega
            · have hkL : L = 64 * k := by omega
              obtain ⟨N, hN⟩ : ∃ x, x = foldR shaH P k := ⟨_, rfl⟩
              rw [← hN] at H6
              have hPl : P.length = L := by
                obtain ⟨_, _, e, -, -, -, hrow⟩ := ownsRow_parts H6.out.own
                simpa using hrow.1
              have hsh : shaR l = (N.map bytesW).flatten := by
                unfold shaR
                rw [← HPR.out, hPl, hkL, Nat.mul_div_cancel_left k (by decide), hN]
              have hNl : N.length = 8 := by rw [hN]; exact foldR_len k
              have hNw : Words N := by rw [hN]; exact foldR_words k
              have HSH := Lib.hid hsh
              have HNL := Lib.hid hNl
              have HNW := Lib.hid hNw
              have hk7 : wk.heap[g7]? = some (.cells (N.map uv).toArray AT8 (0, 0)) := H6.out.s
              have hbk := H6.out.bel
              have HK := Lib.hid (And.intro hk7 hbk)
              clear hN hPl hsh hNl hNw hkL H6 hk7 hbk hk HPR
              obtain ⟨B, hB⟩ : ∃ b, b = wk.heap.size := ⟨_, rfl⟩
              have HBW := Lib.hid hB
              have hown0 := World.ownsRow_made (base := B) (e := 5) (size := 1) wk #[] 0 (by omega) (by simp [maxLen]) rfl
              have hb0 : Below B wk (wk.alloc (.cells #[] 5)) := by rw [hB]; exact below_alloc wk _
              have HO := Lib.hid (And.intro hown0 hb0)
              clear hown0 hb0 hB
              go_upto_region 40 with fail
              clear hlt3
              go_wp2
              go_loopw [20, 21] (fun u i wr => ∃ (q : Nat) (a : Option Addr) (c : Nat), q ≤ 8 ∧ i = .int .i64 (q : Nat) ∧ u = .slice a (4 * q) c ∧ Hid (wr.ownsRow B 5 1 (.slice a (4 * q) c) (4 * q) (rowN N q) ∧ Below B wk wr)) (fun _ i _ => 8 - (intOf i).toNat)
              case atStart => exact ⟨0, _, _, Nat.zero_le _, rfl, rfl, HO⟩
              case round =>
                clear HO
                rename World => wv
                obtain ⟨q, a6, c6, hq, rfl, rfl, HOB⟩ := hrel
                obtain ⟨hown, hb⟩ := HOB.out
                unfold rowN at hown
                clear HOB
                by_cases hlt8 : q < 8
                · as_aux_lemma => -- [[
                   obtain ⟨x, hx⟩ : ∃ x, x = g' N q := ⟨_, rfl⟩
                   have hx32 : x < 4294967296 := by rw [hx]; exact HNW.out.g' q
                   have hc : wv.drew.cell? ⟨g7, q, none⟩ = some (.int .u32 (x : Nat)) := by
                     have h1 : wv.heap[g7]? = some (.cells (N.map uv).toArray AT8 (0, 0)) := (hb.block g7 (by rw [HBW.out]; exact (Array.getElem?_eq_some_iff.1 HK.out.1).1)).trans HK.out.1
                     rw [show wv.drew.cell? ⟨g7, q, none⟩ = wv.cell? ⟨g7, q, none⟩ from rfl, cell_of_row _ _ _ _ _ _ h1, hx]
                     exact uv_at (by rw [HNL.out]; exact hlt8)
                   have HX := Lib.hid hx
                   have bq : (q : Int) < 8 := by omega
                   clear hx
                   go_upto_region 43 with fail
                   refine GoX.start 22 (fun w' => w'.cell? ⟨g7, q, none⟩ = some (.int .u32 (x : Nat))) (by kernel_rfl) ?_
                   refine GoX.take 0 rfl (by kernel_rfl) (by kernel_rfl) (by rfl) (fun _ _ _ h => h) (v := ?tv0q4) hc ?ty0q4 ?tr0q4
                   case ty0q4 => (intro w hSw; (try dsimp only at hSw); go_simp; first | done | with_reducible rfl)
                   simp only [Act.put, List.setIfInBounds_toArray, List.set_cons_zero, List.set_cons_succ]
                   refine GoX.take 1 rfl (by kernel_rfl) (by kernel_rfl) (by rfl) (fun _ _ _ h => h) (v := ?tv1q4) hc ?ty1q4 ?tr1q4
                   case ty1q4 => (intro w hSw; (try dsimp only at hSw); go_simp; first | done | with_reducible rfl)
                   simp only [Act.put, List.setIfInBounds_toArray, List.set_cons_zero, List.set_cons_succ]
                   refine GoX.take 2 rfl (by kernel_rfl) (by kernel_rfl) (by rfl) (fun _ _ _ h => h) (v := ?tv2q4) hc ?ty2q4 ?tr2q4
                   case ty2q4 => (intro w hSw; (try dsimp only at hSw); go_simp; first | done | with_reducible rfl)
                   simp only [Act.put, List.setIfInBounds_toArray, List.set_cons_zero, List.set_cons_succ]
                   refine GoX.take 3 rfl (by kernel_rfl) (by kernel_rfl) (by rfl) (fun _ _ _ h => h) (v := ?tv3q4) hc ?ty3q4 ?tr3q4
                   case ty3q4 => (intro w hSw; (try dsimp only at hSw); go_simp; first | done | with_reducible rfl)
                   simp only [Act.put, List.setIfInBounds_toArray, List.set_cons_zero, List.set_cons_succ]
                   refine GoX.take 4 rfl (by kernel_rfl) (by kernel_rfl) (by rfl) (fun _ _ _ h => h) (v := ?tv4q4) hc ?ty4q4 ?tr4q4
                   case ty4q4 => (intro w hSw; (try dsimp only at hSw); go_simp; first | done | with_reducible rfl)
                   simp only [Act.put, List.setIfInBounds_toArray, List.set_cons_zero, List.set_cons_succ]
                   refine GoX.take 5 rfl (by kernel_rfl) (by kernel_rfl) (by rfl) (fun _ _ _ h => h) (v := ?tv5q4) hc ?ty5q4 ?tr5q4
                   case ty5q4 => (intro w hSw; (try dsimp only at hSw); go_simp; first | done | with_reducible rfl)
                   simp only [Act.put, List.setIfInBounds_toArray, List.set_cons_zero, List.set_cons_succ]
                   refine GoX.take 6 rfl (by kernel_rfl) (by kernel_rfl) (by rfl) (fun _ _ _ h => h) (v := ?tv6q4) hc ?ty6q4 ?tr6q4
                   case ty6q4 => (intro w hSw; (try dsimp only at hSw); go_simp; first | done | with_reducible rfl)
                   simp only [Act.put, List.setIfInBounds_toArray, List.set_cons_zero, List.set_cons_succ]
                   refine GoX.take 7 rfl (by kernel_rfl) (by kernel_rfl) (by rfl) (fun _ _ _ h => h) (v := ?tv7q4) hc ?ty7q4 ?tr7q4
                   case ty7q4 => (intro w hSw; (try dsimp only at hSw); go_simp; first | done | with_reducible rfl)
                   simp only [Act.put, List.setIfInBounds_toArray, List.set_cons_zero, List.set_cons_succ]
                   refine GoX.take 8 rfl (by kernel_rfl) (by kernel_rfl) (by rfl) (fun _ _ _ h => h) (v := ?tv8q4) hc ?ty8q4 ?tr8q4
                   case ty8q4 => (intro w hSw; (try dsimp only at hSw); go_simp; first | done | with_reducible rfl)
                   simp only [Act.put, List.setIfInBounds_toArray, List.set_cons_zero, List.set_cons_succ]
                   refine GoX.take 9 rfl (by kernel_rfl) (by kernel_rfl) (by rfl) (fun _ _ _ h => h) (v := ?tv9q4) hc ?ty9q4 ?tr9q4
                   case ty9q4 => (intro w hSw; (try dsimp only at hSw); go_simp; first | done | with_reducible rfl)
                   simp only [Act.put, List.setIfInBounds_toArray, List.set_cons_zero, List.set_cons_succ]
                   refine GoX.take 10 rfl (by kernel_rfl) (by kernel_rfl) (by rfl) (fun _ _ _ h => h) (v := ?tv10q4) hc ?ty10q4 ?tr10q4
                   case ty10q4 => (intro w hSw; (try dsimp only at hSw); go_simp; first | done | with_reducible rfl)
                   simp only [Act.put, List.setIfInBounds_toArray, List.set_cons_zero, List.set_cons_succ]
                   refine GoX.take 11 rfl (by kernel_rfl) (by kernel_rfl) (by rfl) (fun _ _ _ h => h) (v := ?tv11q4) hc ?ty11q4 ?tr11q4
                   case ty11q4 => (intro w hSw; (try dsimp only at hSw); go_simp; first | done | with_reducible rfl)
                   simp only [Act.put, List.setIfInBounds_toArray, List.set_cons_zero, List.set_cons_succ]
                   refine GoX.take 12 rfl (by kernel_rfl) (by kernel_rfl) (by rfl) (fun _ _ _ h => h) (v := ?tv12q4) hc ?ty12q4 ?tr12q4
                   case ty12q4 => (intro w hSw; (try dsimp only at hSw); go_simp; first | done | with_reducible rfl)
                   simp only [Act.put, List.setIfInBounds_toArray, List.set_cons_zero, List.set_cons_succ]
                   refine GoX.take 13 rfl (by kernel_rfl) (by kernel_rfl) (by rfl) (fun _ _ _ h => h) (v := ?tv13q4) hc ?ty13q4 ?tr13q4
                   case ty13q4 => (intro w hSw; (try dsimp only at hSw); go_simp; first | done | with_reducible rfl)
                   simp only [Act.put, List.setIfInBounds_toArray, List.set_cons_zero, List.set_cons_succ]
                   refine GoX.take 14 rfl (by kernel_rfl) (by kernel_rfl) (by rfl) (fun _ _ _ h => h) (v := ?tv14q4) hc ?ty14q4 ?tr14q4
                   case ty14q4 => (intro w hSw; (try dsimp only at hSw); go_simp; first | done | with_reducible rfl)
                   simp only [Act.put, List.setIfInBounds_toArray, List.set_cons_zero, List.set_cons_succ]
                   refine GoX.take 15 rfl (by kernel_rfl) (by kernel_rfl) (by rfl) (fun _ _ _ h => h) (v := ?tv15q4) hc ?ty15q4 ?tr15q4
                   case ty15q4 => (intro w hSw; (try dsimp only at hSw); go_simp; first | done | with_reducible rfl)
                   simp only [Act.put, List.setIfInBounds_toArray, List.set_cons_zero, List.set_cons_succ]
                   refine GoX.take 16 rfl (by kernel_rfl) (by kernel_rfl) (by rfl) (fun _ _ _ h => h) (v := ?tv16q4) hc ?ty16q4 ?tr16q4
                   case ty16q4 => (intro w hSw; (try dsimp only at hSw); go_simp; first | done | with_reducible rfl)
                   simp only [Act.put, List.setIfInBounds_toArray, List.set_cons_zero, List.set_cons_succ]
                   refine GoX.take 17 rfl (by kernel_rfl) (by kernel_rfl) (by rfl) (fun _ _ _ h => h) (v := ?tv17q4) hc ?ty17q4 ?tr17q4
                   case ty17q4 => (intro w hSw; (try dsimp only at hSw); go_simp; first | done | with_reducible rfl)
                   simp only [Act.put, List.setIfInBounds_toArray, List.set_cons_zero, List.set_cons_succ]
                   refine GoX.take 18 rfl (by kernel_rfl) (by kernel_rfl) (by rfl) (fun _ _ _ h => h) (v := ?tv18q4) hc ?ty18q4 ?tr18q4
                   case ty18q4 => (intro w hSw; (try dsimp only at hSw); go_simp; first | done | with_reducible rfl)
                   simp only [Act.put, List.setIfInBounds_toArray, List.set_cons_zero, List.set_cons_succ]
                   refine GoX.take 19 rfl (by kernel_rfl) (by kernel_rfl) (by rfl) (fun _ _ _ h => h) (v := ?tv19q4) hc ?ty19q4 ?tr19q4
                   case ty19q4 => (intro w hSw; (try dsimp only at hSw); go_simp; first | done | with_reducible rfl)
                   simp only [Act.put, List.setIfInBounds_toArray, List.set_cons_zero, List.set_cons_succ]
                   refine GoX.one 20 rfl (by kernel_rfl) (by decide) (fun K hK => ?_)
                   go_simp
                   have z0 : IntKind.u8.wrap ((x : Int) / 16777216) = ((x / 16777216 % 256 : Nat) : Int) := by simp [IntKind.wrap, IntKind.bits, IntKind.signed]
                   have z1 : IntKind.u8.wrap ((x : Int) / 65536) = ((x / 65536 % 256 : Nat) : Int) := by simp [IntKind.wrap, IntKind.bits, IntKind.signed]
                   have z2 : IntKind.u8.wrap ((x : Int) / 256) = ((x / 256 % 256 : Nat) : Int) := by simp [IntKind.wrap, IntKind.bits, IntKind.signed]
                   have z3 : IntKind.u8.wrap (x : Int) = ((x % 256 : Nat) : Int) := by simp [IntKind.wrap, IntKind.bits, IntKind.signed]
                   rw [z0, z1, z2, z3]
                   clear z0 z1 z2 z3
                   obtain ⟨CX, hCX⟩ : ∃ A : Array Value, A = #[.int .u8 ((x / 16777216 % 256 : Nat) : Int), .int .u8 ((x / 65536 % 256 : Nat) : Int), .int .u8 ((x / 256 % 256 : Nat) : Int), .int .u8 ((x % 256 : Nat) : Int)] := ⟨_, rfl⟩
                   have hCl : CX.toList = (bytesW x).map bv := by rw [hCX]; rfl
                   rw [← hCX]
                   clear hCX
                   have hbs := hb.size
                   have hBwk := HBW.out
                   have S1 : (wv.alloc (.cells CX 5)).drew.cell? ⟨g7, q, none⟩ = some (.int .u32 (x : Nat)) := cell_belowS (w := wv) hc ((below_alloc wv _).drew)
                   refine hK.out _ _ S1 (fun _ => ?_)
                   clear hK K
                   refine GoX.one 21 rfl (by kernel_rfl) (by decide) (fun K hK => ?_)
                   refine step_append_lies _ rfl (.tmp 260) (.tmp 280) 24 rfl B 5 i0 (.int .u8 0) 1 1 Tryd.underlying24 hi hz0 hz1 hz2 rfl (by decide) (.slice a6 (4 * q) c6) (4 * q) _ (by rfl) (show (wv.alloc (.cells CX 5)).drew.ownsRow B 5 1 (.slice a6 (4 * q) c6) (4 * q) (((N.take q).map bytesW).flatten.map bv) from hown.alloc _) ⟨wv.heap.size, 0, none⟩ 4 4 ((bytesW x).map bv) (by rfl) (by rfl) (by rw [← hCl]; exact World.news_of_block (w := (wv.alloc (.cells CX 5)).drew) (heap_alloc_new wv (.cells CX 5))) (bv_one (bytesW x)) (by decide) (by simp [maxLen]; omega) (by omega) (by rw [show (wv.alloc (.cells CX 5)).drew.heap.size = wv.heap.size + 1 by simp [World.drew]]; omega) _ rfl ?_
                   intro g cap w3 hE gg lie hlt
                   have gg2 : (wv.alloc (.cells CX 5)).grownBy w3 (Value.slice a6 (4 * q) c6).ownBlock := ⟨gg.os, gg.tape, gg.output, gg.size, gg.block⟩
                   have hb3 : Below B wk w3 := by
                     rw [HBW.out] at hb hown ⊢
                     exact grow_step hb _ hown gg2
                   have S2 : w3.cell? ⟨g7, q, none⟩ = some (.int .u32 (x : Nat)) := by
                     have h1 : w3.heap[g7]? = some (.cells (N.map uv).toArray AT8 (0, 0)) := (hb3.block g7 (by rw [HBW.out]; exact (Array.getElem?_eq_some_iff.1 HK.out.1).1)).trans HK.out.1
                     rw [cell_of_row _ _ _ _ _ _ h1, HX.out]
                     exact uv_at (by rw [HNL.out]; exact hlt8)
                   have HH : Hid (w3.ownsRow B 5 1 (.slice (some ⟨g, 0, none⟩) (4 * (q + 1)) cap) (4 * (q + 1)) (rowN N (q + 1)) ∧ Below B wk w3) := Lib.hid (by
                     refine ⟨?_, hb3⟩
                     unfold rowN
                     rw [bytesW_take N q (by rw [HNL.out]; exact hlt8), List.map_append, ← HX.out, Nat.mul_add]
                     exact hE)
                   refine hK.out _ _ S2 (fun _ => ?_)
                   clear hK K gg gg2 hE hb3 lie hlt hown hb S1 S2 hc hBwk
                   simp only [Act.put, List.setIfInBounds_toArray, List.set_cons_zero, List.set_cons_succ]
                   refine GoX.last 22 rfl (by kernel_rfl) (by kernel_rfl) (by decide) ?_
                   go_wp2
                   go_roundw
                   case rel => first | exact ⟨q + 1, some ⟨g, 0, none⟩, cap, by omega, by go_num, by rw [Nat.mul_add], HH⟩ | exact ⟨q + 1, by omega, by omega, some ⟨g, 0, none⟩, cap, ⟨rfl, by omega, rfl⟩, HH⟩
                   case measure => simp [intOf] <;> omega
                  -- ]]
                · obtain rfl : q = 8 := by omega
                  have hNt : N.take 8 = N := List.take_of_length_le (by rw [HNL.out]; exact Nat.le_refl _)
                  rw [hNt, ← HSH.out] at hown
                  have hsl : (shaR l).length = 4 * 8 := by
                    rw [HSH.out]
                    have := bytesW_len N 8 (by rw [HNL.out]; exact Nat.le_refl _)
                    rw [hNt] at this
                    exact this
                  have HSL := Lib.hid hsl
                  have HOWN := Lib.hid hown
                  have HBB := Lib.hid hb
                  clear hNt hsl hown hb
                  go_wp2
                  go_ret
                  refine ⟨a6, c6, by rw [HSL.out]; rfl, ?_, ?_⟩
                  · rw [HSL.out]
                    exact ownsRow_base HOWN.out (by rw [HBW.out]; exact HK.out.2.size)
                  · exact HK.out.2.trans (HBB.out.mono (by rw [HBW.out]; exact HK.out.2.size))
end Go.Proofs.YthofndobmiamjaaDoor
