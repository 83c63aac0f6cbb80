/-
  rilllaw04: RqSource.
-/
import Derived.Test.YtkihgidhpggcfaaDoorMRqV
namespace Go.Proofs.YtkihgidhpggcfaaDoor
open Go.RowKit

theorem and_31 (a : Int) : ∃ i : Nat, bits .and .i64 a 31 = (i : Int) ∧ i < 32 := by
  have h : (BitVec.ofInt 64 a &&& BitVec.ofInt 64 31).toNat < 32 := by
    rw [BitVec.toNat_and]
    exact Nat.lt_of_le_of_lt Nat.and_le_right (by decide)
  refine ⟨(BitVec.ofInt 64 a &&& BitVec.ofInt 64 31).toNat, ?_, h⟩
  show IntKind.i64.wrap ((BitVec.ofInt 64 a &&& BitVec.ofInt 64 31).toNat : Int) = _
  generalize (BitVec.ofInt 64 a &&& BitVec.ofInt 64 31).toNat = m at h ⊢
  unfold IntKind.wrap
  simp [IntKind.bits, IntKind.signed]
  omega
/-- the numbers of a source, turned. -/
def turnL (k r m : Nat) : List Int := (List.range m).map fun i => (((i + r) % k : Nat) : Int)
theorem turnL_succ (k r m : Nat) : turnL k r m ++ [(((m + r) % k : Nat) : Int)] = turnL k r (m + 1) := by unfold turnL; rw [List.range_succ, List.map_append]; rfl
theorem turnL_length (k r m : Nat) : (turnL k r m).length = m := by simp [turnL]
theorem turnL_at {k r m i : Nat} (h : i < m) : (turnL k r m)[i]? = some (((i + r) % k : Nat) : Int) := by
  unfold turnL; rw [List.getElem?_map, List.getElem?_range h, Option.map_some]
theorem turnL_mem {k r x : Nat} (hr : r < 32) (hx : x < k) : ((x : Nat) : Int) ∈ turnL k r k := by
  have hk : 0 < k := by omega
  refine List.mem_map.2 ⟨(x + 32 * k - r) % k, List.mem_range.2 (Nat.mod_lt _ hk), ?_⟩
  have h32 : r ≤ 32 * k := by
    have : 32 * 1 ≤ 32 * k := Nat.mul_le_mul_left 32 hk
    omega
  have e : ((x + 32 * k - r) % k + r) % k = x := by
    rw [Nat.mod_add_mod, show x + 32 * k - r + r = x + 32 * k by omega, Nat.add_mul_mod_self_right, Nat.mod_eq_of_lt hx]
  rw [e]
theorem turnL_ok {k r m : Nat} (hk : 0 < k) (hk2 : k ≤ 32) : ∀ e ∈ turnL k r m, okE e = true := fun e he => by
  obtain ⟨i, -, rfl⟩ := List.mem_map.1 he
  have := Nat.mod_lt (i + r) hk
  exact okE_iff.2 ⟨by omega, by omega⟩
theorem sym_src {src X : List (List Nat)} {k : Nat} (hs : ∀ x, x < k → mixS X (placeR k x) = src.getD x []) {x : Nat} (hx : x < k) : pieceOf k X (x : Int) = ((x : Int), src.getD x []) := by
  unfold pieceOf symR
  rw [Int.toNat_natCast, if_pos hx, hs x hx]

set_option maxRecDepth 100000 in
set_option maxHeartbeats 8000000 in
theorem rqSource_walk (a1 : Option Addr) (n1 c1 : Nat) (s1 : List HdT) (l1 : List (List Nat)) (a2 : Option Addr) (n2 c2 : Nat) (l2 : List Int) (u : Int) (w : World) (hg : Bnd w)
    (v1 : RowV w a1 n1 (s1.map SV)) (r1 : RowsV w s1 l1) (t1 : n1 * 24 ≤ 140737488351232) (v2 : IntsV w (a2, n2, c2) l2) (_t2 : n2 * 8 ≤ 140737488351232) (_z2 : ∀ z ∈ l2, (Lit.int .i64 z).wf = true) (_w3 : (Lit.int .i64 u).wf = true) :
    Calls Tryd.prog 8 #[.slice a1 n1 c1, .slice a2 n2 c2, .int .i64 u] w fun e w' => e = .returned (.bool true) ∧ Below w.heap.size w w' := by
  obtain ⟨i0, hi0, hz0, hz1, hz2⟩ := info_parts iinfo
  have h1 : RD w a1 n1 l1 := ⟨by rw [← r1.1]; have := v1.1; simpa using this, s1, v1, r1⟩
  have HE1 := Lib.hid h1.1
  have HE2 := Lib.hid (show l2.length = n2 from v2.length)
  have H1 := Lib.hid h1
  have H2 := Lib.hid v2
  have h2s := v2.small
  simp only at h2s
  have HG := Lib.hid hg
  obtain ⟨r, hand, hr32⟩ := and_31 u
  clear h1 v1 r1 v2 hg
  go_enter Tryd.func8, Tryd.ntmps8
  go_wp2_with fail
  (with_reducible refine (alive_any _ HG.out).mono ?_)
  rintro e w1 ⟨rfl, hb1⟩
  go_wp2_with fail
  (with_reducible refine (source_rd _ _ _ l1 _ (H1.out.below hb1) (by omega)).mono ?_)
  rintro e w2 ⟨b, rfl, b2, hsrc⟩
  have hb2 := hb1.trans (b2.mono hb1.size)
  clear b2 hb1
  cases b with
  | false =>
    clear hsrc
    go_wp2
    go_ret
    exact ⟨rfl, hb2⟩
  | true =>
    obtain ⟨k, t, hS⟩ := hsrc rfl
    clear hsrc
    by_cases hn : n2 ≤ 20
    rotate_left 1
    · go_wp2
      go_ret
      exact ⟨rfl, hb2⟩
    obtain ⟨X, hX, hXl, hXr, hf, hs⟩ := inner_val hS
    obtain rfl : n1 = k := by rw [← HE1.out]; exact hS.len
    have hk2 := hS.k2
    have hk1 := hS.k1
    have HENC := Lib.hid (fun es => encode_val hS hX es)
    have HDV := Lib.hid (fun (es : List Int) (he : es.length ≤ 128) (hok : ∀ e ∈ es, okE e = true) => decode_val hS hXl hXr hf hs he hok)
    have HSY := Lib.hid (fun x (hx : x < n1) => sym_src (src := l1) hs hx)
    have hwid := hS.wid
    obtain ⟨b0, off0, xa, t0, xc, r0, rfl, hc0, hr0, hB0⟩ := H1.out.at (i := 0) (by omega)
    have ht0 : t0 = t := by
      rw [← hwid]
      unfold widthB
      rw [List.getD_eq_getElem?_getD, hr0]
      exact hB0.length.symm
    subst ht0
    rw [Nat.add_zero] at hc0
    have i0' : (0 : Int) < (n1 : Int) := by omega
    have hn0 : (n1 : Int) ≠ 0 := by omega
    have hs2 := hb2.size
    have hown0 := World.ownsRow_made (base := w.heap.size) (e := 3) (size := 1) w2 #[] 0 hs2 (by simp [maxLen]) rfl
    have HO0 : Hid ((w2.alloc (.cells #[] 3)).ownsRow w.heap.size 3 1 (.slice (some ⟨w2.heap.size, 0, none⟩) 0 0) 0 ((turnL n1 r 0).map iv)) := Lib.hid hown0
    have HB2 := Lib.hid (hb2.alloc hs2 (.cells #[] 3))
    clear hS hX hXl hXr hf hs hwid hr0 hB0 hown0 hb2 hs2
    go_wp2_with fail
    go_loopw [7, 8] (fun ve vi wr => ∃ (i : Nat) (av : Option Addr) (cv : Nat), i ≤ n1 ∧ vi = .int .i64 (i : Nat) ∧ ve = .slice av i cv ∧ Hid (wr.ownsRow w.heap.size 3 1 (.slice av i cv) i ((turnL n1 r i).map iv)) ∧ Hid (Below w.heap.size w wr)) (fun _ vi _ => (n1 - intOf vi).toNat)
    case atStart => exact ⟨0, _, _, Nat.zero_le _, rfl, rfl, HO0, HB2⟩
    case round =>
      clear HO0 HB2
      obtain ⟨i, av, cv, hi, rfl, rfl, hO, hB⟩ := hrel
      by_cases hlt : i < n1
      · obtain ⟨m, hm⟩ : ∃ m, m = (i + r) % n1 := ⟨_, rfl⟩
        have HEX := Lib.hid (show ((i : Int) + (r : Int)) % (n1 : Int) = (m : Int) by rw [hm, Int.natCast_emod, Int.natCast_add])
        have HTU := Lib.hid (show turnL n1 r i ++ [(m : Int)] = turnL n1 r (i + 1) by rw [hm]; exact turnL_succ n1 r i)
        have o8 := hO.out.alloc (.cells #[.int .i64 (m : Nat)] 3)
        have hb8 := hB.out.alloc hB.out.size (.cells #[.int .i64 (m : Nat)] 3)
        clear hm hO
        go_wp2_with (first | (at_builtin; refine Hid.out ?_))
        refine Lib.hid ?_
        rw [HEX.out]
        refine wpList_append_row rfl _ _ 33 rfl w.heap.size 3 i0 (.int .i64 0) 8 Tryd.underlying33 hi0 hz0 hz1 hz2 rfl _ _ _ rfl o8 (some ⟨wr.heap.size, 0, none⟩) 1 1 ([(m : Int)].map iv) rfl (rowV_lit wr _ _ _ 1 _ rfl rfl rfl) (fun h => by cases h) (iv_oneQ _) (by unfold maxLen; omega) (by omega) hb8.size ?_
        intro v' w9 hE9 g9 _
        have hb9 := below_grown hb8 g9 (ownBlock_ge o8)
        obtain ⟨a9, c9, rfl, -⟩ := ownsRow_parts hE9
        rw [← List.map_append, HTU.out] at hE9
        have HO9 := Lib.hid hE9
        have HB9 := Lib.hid hb9
        clear o8 hb8 hE9 g9 hb9 hB
        go_wp2
        go_roundw
        case rel => exact ⟨i + 1, a9, c9, by omega, by go_num, rfl, HO9, HB9⟩
        case measure => simp [intOf] <;> omega
      · obtain rfl : i = n1 := by omega
        have HO0 : Hid (wr.ownsRow w.heap.size 3 1 (.slice av (i + 0) cv) (i + 0) ((turnL i r i ++ l2.take 0).map iv)) := Lib.hid (by simpa using hO.out)
        have HB3 := Lib.hid hB.out
        clear hi hlt hO hB
        go_wp2_with fail
        go_loopw [7, 9] (fun ve vj wr => ∃ (j : Nat) (av : Option Addr) (cv : Nat), j ≤ n2 ∧ vj = .int .i64 (j : Nat) ∧ ve = .slice av (i + j) cv ∧ Hid (wr.ownsRow w.heap.size 3 1 (.slice av (i + j) cv) (i + j) ((turnL i r i ++ l2.take j).map iv)) ∧ Hid (Below w.heap.size w wr) ∧ Hid (∀ q e, q < j → l2[q]? = some e → okE e = true)) (fun _ vj _ => (n2 - intOf vj).toNat)
        case atStart => exact ⟨0, av, cv, Nat.zero_le _, rfl, rfl, HO0, HB3, Lib.hid (fun q e h => absurd h (Nat.not_lt_zero _))⟩
        case round =>
          clear HO0 HB3
          obtain ⟨j, av, cv, hj, rfl, rfl, hO, hB, HZ⟩ := hrel
          by_cases hlt : j < n2
          · obtain ⟨b, off, e1, hc1⟩ := (H2.out.row.below hB.out).2 (by show 0 < n2; omega)
            simp only at e1
            subst e1
            have hc := hc1 j hlt
            obtain ⟨z, hz⟩ : ∃ z, l2[j]? = some z := ⟨_, List.getElem?_eq_getElem (by rw [HE2.out]; exact hlt)⟩
            rw [List.getElem?_map, hz] at hc
            have hc' : wr.cell? ⟨b, off + j, none⟩ = some (.int .i64 z) := hc
            have HZI := Lib.hid hz
            clear hc hc1 hz
            by_cases hz0' : 0 ≤ z
            · by_cases hz1' : z < 16777216
              · have HZ2 := Lib.hid (okE_iff.2 ⟨hz0', hz1'⟩)
                have HTK := Lib.hid (show (turnL i r i ++ l2.take j) ++ [z] = turnL i r i ++ l2.take (j + 1) by rw [take_step l2 j z HZI.out, List.append_assoc])
                have o8 := hO.out.alloc (.cells #[.int .i64 z] 3)
                have hb8 := hB.out.alloc hB.out.size (.cells #[.int .i64 z] 3)
                clear hO
                go_wp2_with (first | (at_builtin; refine Hid.out ?_))
                refine Lib.hid ?_
                refine wpList_append_row rfl _ _ 33 rfl w.heap.size 3 i0 (.int .i64 0) 8 Tryd.underlying33 hi0 hz0 hz1 hz2 rfl _ _ _ rfl o8 (some ⟨wr.heap.size, 0, none⟩) 1 1 ([z].map iv) rfl (rowV_lit wr _ _ _ 1 _ rfl rfl rfl) (fun h => by cases h) (iv_oneQ _) (by unfold maxLen; omega) (by omega) hb8.size ?_
                intro v' w9 hE9 g9 _
                have hb9 := below_grown hb8 g9 (ownBlock_ge o8)
                obtain ⟨a9, c9, rfl, -⟩ := ownsRow_parts hE9
                rw [← List.map_append, HTK.out] at hE9
                have HO9 := Lib.hid hE9
                have HB9 := Lib.hid hb9
                clear o8 hb8 hE9 g9 hb9 hB
                go_wp2
                go_roundw
                case rel => exact ⟨j + 1, a9, c9, by omega, by go_num, by rw [Nat.add_assoc], HO9, HB9, Lib.hid (fun q e hq he => (by
                  by_cases e1 : q = j
                  · rw [e1, HZI.out] at he
                    exact (congrArg okE (Option.some.inj he)).symm.trans HZ2.out
                  · exact HZ.out q e (by omega) he))⟩
                case measure => simp [intOf] <;> omega
              · go_wp2
                go_ret
                exact ⟨rfl, hB.out⟩
            · go_wp2
              go_ret
              exact ⟨rfl, hB.out⟩
          · obtain rfl : j = n2 := by omega
            have hOo := hO.out
            rw [List.take_of_length_le (by rw [HE2.out]; exact Nat.le_refl _)] at hOo
            obtain ⟨ES, hES⟩ : ∃ ES, ES = turnL i r i ++ l2 := ⟨_, rfl⟩
            rw [← hES] at hOo
            have hESl : ES.length = i + j := by rw [hES, List.length_append, turnL_length, HE2.out]
            have hok : ∀ e ∈ ES, okE e = true := fun e he => by
              rw [hES] at he
              rcases List.mem_append.1 he with h | h
              · exact turnL_ok (by omega) hk2 e h
              · obtain ⟨q, hq⟩ := List.getElem?_of_mem h
                exact HZ.out q e (by have := (List.getElem?_eq_some_iff.1 hq).1; rw [HE2.out] at this; exact this) hq
            have hall : ES.all okE = true := List.all_eq_true.2 hok
            have hen : enoughP i ES := enough_src hk1 hk2 fun x hx => by rw [hES]; exact List.mem_append.2 (.inl (turnL_mem hr32 hx))
            have hdv := (HDV.out ES (by omega) hok).1 hen
            have hat : ∀ q, q < i → ES[q]? = some (((q + r) % i : Nat) : Int) := fun q hq => by
              rw [hES, List.getElem?_append_left (by rw [turnL_length]; exact hq)]
              exact turnL_at hq
            have HAT := Lib.hid hat
            have HDC := Lib.hid hdv
            have henc := HENC.out ES
            rw [if_pos hall] at henc
            obtain ⟨PS, hPS⟩ : ∃ PS, PS = ES.map (pieceOf i X) := ⟨_, rfl⟩
            have hPl : PS.length = i + j := by rw [hPS, List.length_map, hESl]
            rw [← hPS] at henc
            have HPS : Hid (∀ q, q < i → PS[q]? = some ((((q + r) % i : Nat) : Int), l1.getD ((q + r) % i) [])) := Lib.hid (fun q hq => by
              rw [hPS, List.getElem?_map, hat q hq, Option.map_some, HSY.out _ (Nat.mod_lt _ (by omega))])
            have HDC2 : Hid (decodeR (i : Int) (t0 : Int) PS = (l1, 0)) := Lib.hid (by rw [hPS]; exact hdv)
            have HEN := Lib.hid henc
            have HESL := Lib.hid hESl
            have HPL := Lib.hid hPl
            have HI := Lib.hid (intsV_ownQ hOo (by omega))
            clear hES hESl hok hall hen hdv hat henc hPS hPl hOo hO HDC HENC HDV HSY HZ hj hlt
            go_wp2_with fail
            (with_reducible refine (copyRows_rd _ _ _ l1 _ (H1.out.below hB.out) (by omega)).mono ?_)
            rintro e w3 ⟨a3, c3, rfl, h3, b3⟩
            have hb3 := hB.out.trans (b3.mono hB.out.size)
            have KE := encode_rd a3 i c3 l1 av (i + j) cv ES w3 h3 (HI.out.below b3) (by omega) (HG.out.below hb3)
            rw [HEN.out] at KE
            have hI3 := HI.out.below b3
            clear b3 h3 hB HI
            go_wp2_with fail
            (with_reducible refine KE.mono ?_)
            rintro e w5 ⟨a5, c5, rfl, hP, b5⟩
            simp only at hP ⊢
            have hb5 := hb3.trans (b5.mono hb3.size)
            have hI5 := hI3.below b5
            have hPi := hP.pi
            rw [HPL.out] at hPi ⊢
            have HPI := Lib.hid hPi
            have HI5 := Lib.hid hI5
            have HB5 := Lib.hid hb5
            clear KE b5 hb3 hI3 hP hPi hI5 hb5
            go_wp2_with fail
            go_loopw [12] (fun vq wr => ∃ q : Nat, q ≤ i ∧ vq = .int .i64 (q : Nat) ∧ Hid (Below w5.heap.size w5 wr)) (fun vq _ => (i - intOf vq).toNat)
            case atStart => exact ⟨0, Nat.zero_le _, rfl, Lib.hid (Below.refl _ _)⟩
            case round =>
              obtain ⟨q, hq, rfl, hB⟩ := hrel
              by_cases hlt : q < i
              · obtain ⟨bP, oP, e, pa, pn, pcc, l, rfl, p0, p1, hpq, hby⟩ := HPI.out.at (i := q) (by omega)
                have hpe := hpq.symm.trans (HPS.out q hlt)
                simp only [Option.some.injEq, Prod.mk.injEq] at hpe
                obtain ⟨he1, he2⟩ := hpe
                obtain ⟨m, hm⟩ : ∃ m, m = (q + r) % i := ⟨_, rfl⟩
                rw [← hm] at he1 he2
                have hmi : m < i := by rw [hm]; exact Nat.mod_lt _ (by omega)
                obtain ⟨b1', o1', ya, yn, yc, l', e1, hcs, hls, hbs⟩ := H1.out.at hmi
                injection e1 with e1
                injection e1 with e11 e12
                subst e11 e12
                have hll : l = l' := by rw [he2, List.getD_eq_getElem?_getD, hls]; rfl
                subst hll
                subst he1
                obtain ⟨bE, oE, ea, hce⟩ := HI5.out.row.2 (by show 0 < i + j; omega)
                simp only at ea
                subst ea
                have hceq := hce q (by show q < i + j; omega)
                rw [List.getElem?_map, HAT.out q hlt, ← hm] at hceq
                have hce' : w5.cell? ⟨bE, oE + q, none⟩ = some (.int .i64 ((m : Nat) : Int)) := hceq
                have k0 := cell_below p0 hB.out
                have k1 := cell_below p1 hB.out
                have k2 := cell_below hce' hB.out
                have k3 := cell_below (cell_below hcs HB5.out) hB.out
                have HBY := Lib.hid (hby.below hB.out)
                have HBS := Lib.hid ((hbs.below HB5.out).below hB.out)
                have K0 : wr.cell? ⟨bP, oP + q * 2, none⟩ = some (.int .i64 ((m : Nat) : Int)) ∧ wr.cell? ⟨bP, oP + q * 2 + 1, none⟩ = some (.slice pa pn pcc) ∧ wr.cell? ⟨bE, oE + q, none⟩ = some (.int .i64 ((m : Nat) : Int)) ∧ wr.cell? ⟨b0, off0 + m, none⟩ = some (.slice ya yn yc) := ⟨k0, k1, k2, k3⟩
                have j0' : (0 : Int) ≤ (m : Int) := by omega
                have j1' : (m : Int) < (i : Int) := by omega
                have q0' : (0 : Int) ≤ (q : Int) := by omega
                have q1' : (q : Int) < (i : Int) + (j : Int) := by omega
                have q2' : (q : Int) < ((i + j : Nat) : Int) := by omega
                have hsz := hB.out.size
                clear hpq he2 hm hls hce hceq hce' p0 p1 hcs hby hbs k0 k1 k2 k3
                go_wp2_with fail
                go_region_held3 (fun w' => w'.cell? ⟨bP, oP + q * 2, none⟩ = some (.int .i64 ((m : Nat) : Int)) ∧ w'.cell? ⟨bP, oP + q * 2 + 1, none⟩ = some (.slice pa pn pcc) ∧ w'.cell? ⟨bE, oE + q, none⟩ = some (.int .i64 ((m : Nat) : Int)) ∧ w'.cell? ⟨b0, off0 + m, none⟩ = some (.slice ya yn yc)) (first | exact K0 | exact K2 | go_keep)
                  (first
                    | (go_at_call 20; (with_reducible refine (sameBytes_any pa pn pcc l ya yn yc l _ ?h1 ?h2).mono ?_); (case h1 => exact HBY.out.below ⟨rfl, rfl, rfl, Nat.le_refl _, fun _ _ => rfl⟩); (case h2 => exact HBS.out.below ⟨rfl, rfl, rfl, Nat.le_refl _, fun _ _ => rfl⟩); rintro e w12 ⟨rfl, d12⟩; rw [decide_eq_true rfl]; have b12 : Below wr.heap.size wr w12 := ⟨d12.os, d12.tape, d12.output, d12.size, d12.block⟩; have K2 : w12.cell? ⟨bP, oP + q * 2, none⟩ = some (.int .i64 ((m : Nat) : Int)) ∧ w12.cell? ⟨bP, oP + q * 2 + 1, none⟩ = some (.slice pa pn pcc) ∧ w12.cell? ⟨bE, oE + q, none⟩ = some (.int .i64 ((m : Nat) : Int)) ∧ w12.cell? ⟨b0, off0 + m, none⟩ = some (.slice ya yn yc) := ⟨cell_below K0.1 b12, cell_below K0.2.1 b12, cell_below K0.2.2.1 b12, cell_below K0.2.2.2 b12⟩))
                all_goals
                  have HB12 := Lib.hid (hB.out.trans (b12.mono hsz))
                  clear K2 K0 d12 b12
                  go_wp2
                  go_roundw
                  case rel => exact ⟨q + 1, by omega, by go_num, HB12⟩
                  case measure => simp [intOf] <;> omega
              · obtain rfl : q = i := by omega
                have hbw := HB5.out.trans (hB.out.mono HB5.out.size)
                have k0 := cell_below hc0 hbw
                have KD := decode_rd (q : Int) (t0 : Int) a5 (q + j) c5 PS wr (HPI.out.below hB.out) (by omega) (HG.out.below hbw)
                rw [HDC2.out] at KD
                have hsz := hbw.size
                clear hB
                go_wp2_with fail
                (with_reducible refine KD.mono ?_)
                rintro e w6 ⟨a6, c6, rfl, h6, b6⟩
                simp only at h6 ⊢
                have hb6 := hbw.trans (b6.mono hsz)
                have KQ := sameRows_rd a6 l1.length c6 l1 (some ⟨b0, off0, none⟩) q c1 l1 w6 h6 (H1.out.below hb6) (by rw [HE1.out]; omega)
                rw [decide_eq_true rfl] at KQ
                clear KD b6 hbw h6
                go_wp2_with fail
                (with_reducible refine KQ.mono ?_)
                rintro e w9 ⟨rfl, b9⟩
                go_wp2
                go_ret
                exact ⟨rfl, hb6.trans (b9.mono hb6.size)⟩
end Go.Proofs.YtkihgidhpggcfaaDoor
