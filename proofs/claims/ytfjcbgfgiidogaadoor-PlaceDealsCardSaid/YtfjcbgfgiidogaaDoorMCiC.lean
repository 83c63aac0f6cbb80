/-
  rilllaw05: ChunkRound.
-/
import Derived.Deep.RegionHeld3
import Derived.Test.YtfjcbgfgiidogaaDoorMCi1
import Derived.Test.YtfjcbgfgiidogaaDoorMChO
import Derived.Test.YtfjcbgfgiidogaaDoorMLa1
namespace Go.Proofs.YtfjcbgfgiidogaaDoor
open Go.RowKit

/-- what the symbols of a take are. -/
theorem syms_tri {v : List Nat} {t : Nat} {b : Int} (hv : Bytes v) (h1 : 1 ≤ v.length) (h2 : v.length ≤ 1024) (t1 : 1 ≤ t) (t2 : t ≤ 64) (es : List Int) :
    ((symbolsR v t b es).2 = 51 ∧ (symbolsR v t b es).1 = [] ∧ (b < 0 ∨ (chZ (chN v.length t) : Int) ≤ b)) ∨ ((symbolsR v t b es).2 = 40 ∧ (symbolsR v t b es).1 = []) ∨ ((symbolsR v t b es).2 = 0 ∧ (∀ s ∈ (symbolsR v t b es).1, Genuine v t s) ∧ (symbolsR v t b es).1.length = es.length) := by
  rw [symbols_val hv h1 h2 t1 t2]
  by_cases hb : inZ (chZ (chN v.length t)) b = true
  · rw [if_pos hb]
    obtain ⟨b1, b2⟩ := inZ_iff.1 hb
    by_cases he : es.all okE = true
    · rw [if_pos he]
      refine .inr (.inr ⟨rfl, fun s hs => ?_, by simp⟩)
      obtain ⟨e, he2, rfl⟩ := List.mem_map.1 hs
      exact ⟨b.toNat, e, by omega, List.all_eq_true.1 he e he2, rfl⟩
    · rw [if_neg he]
      exact .inr (.inl ⟨rfl, rfl⟩)
  · rw [if_neg hb]
    refine .inl ⟨rfl, rfl, ?_⟩
    rcases Classical.em (b < 0) with h | h
    · exact .inl h
    · refine .inr ?_
      rcases Classical.em ((chZ (chN v.length t) : Int) ≤ b) with h' | h'
      · exact h'
      · exact absurd (inZ_iff.2 ⟨by omega, by omega⟩) hb
theorem ofBlock_high {v : List Nat} {t : Nat} {ss : List Sy} (h : ∀ s ∈ ss, Genuine v t s) {i : Nat} (hi : chZ (chN v.length t) ≤ i) : ofBlock ss i = [] := by
  unfold ofBlock
  rw [List.map_eq_nil_iff, List.filter_eq_nil_iff]
  intro s hs
  obtain ⟨j, e, hj, -, rfl⟩ := h s hs
  have : (gen v t j e).1 = (j : Int) := rfl
  rw [this]
  simp
  omega
set_option maxRecDepth 100000 in
set_option maxHeartbeats 16000000 in
theorem chunkRound_walk (va : Option Addr) (vn vc : Nat) (v : List Nat) (t : Int) (la : Option Addr) (ln lc : Nat) (Y : Nat → Int) (Hd : Nat → Option Addr × Nat × Nat) (L : Nat → List Int) (w : World) (hg : Bnd w) (hv : BytesV w (va, vn, vc) v) (_s0 : vn ≤ 140737488351232) (_w1 : (Lit.int .i64 t).wf = true) (hl : TakesV w la ln lc Y Hd L) :
    Calls Tryd.prog 6 #[.slice va vn vc, .int .i64 t, .slice la ln lc] w fun e w' => e = .returned (.bool true) ∧ Below w.heap.size w w' := by
  have KA := alive5_any w hg
  have HG := Lib.hid hg
  have HVL := Lib.hid (show v.length = vn from hv.length)
  have HVB := Lib.hid hv.bytes
  have HV := Lib.hid hv
  have HTK := Lib.hid hl
  clear hg hv _w1 hl
  by_cases q1 : (vn : Int) < 1
  · go_enter Tryd.func6, Tryd.ntmps6
    go_wp2_with fail
    (with_reducible refine KA.mono ?_)
    rintro e w1 ⟨rfl, b1⟩
    clear KA
    go_wp2
    go_ret
    exact ⟨rfl, b1⟩
  by_cases q2 : (1024 : Int) < (vn : Int)
  · go_enter Tryd.func6, Tryd.ntmps6
    go_wp2_with fail
    (with_reducible refine KA.mono ?_)
    rintro e w1 ⟨rfl, b1⟩
    clear KA
    go_wp2
    go_ret
    exact ⟨rfl, b1⟩
  by_cases q3 : t < 1
  · go_enter Tryd.func6, Tryd.ntmps6
    go_wp2_with fail
    (with_reducible refine KA.mono ?_)
    rintro e w1 ⟨rfl, b1⟩
    clear KA
    go_wp2
    go_ret
    exact ⟨rfl, b1⟩
  by_cases q4 : 64 < t
  · go_enter Tryd.func6, Tryd.ntmps6
    go_wp2_with fail
    (with_reducible refine KA.mono ?_)
    rintro e w1 ⟨rfl, b1⟩
    clear KA
    go_wp2
    go_ret
    exact ⟨rfl, b1⟩
  by_cases q5 : (40 : Int) < (ln : Int)
  · go_enter Tryd.func6, Tryd.ntmps6
    go_wp2_with fail
    (with_reducible refine KA.mono ?_)
    rintro e w1 ⟨rfl, b1⟩
    clear KA
    go_wp2
    go_ret
    exact ⟨rfl, b1⟩
  obtain ⟨T, rfl⟩ : ∃ T : Nat, t = (T : Nat) := ⟨t.toNat, by omega⟩
  have hsz : sizeC (vn : Int) (T : Int) = 0 := sizeC_zero.2 ⟨okS_iff.2 ⟨by omega, by omega⟩, okT_iff.2 ⟨by omega, by omega⟩⟩
  have KP := fun w => parts_any (vn : Int) (T : Int) w
  unfold partsR at KP
  rw [if_pos hsz, Int.toNat_natCast, Int.toNat_natCast] at KP
  obtain ⟨n1, n2, n3, n4⟩ := chN_facts (size := vn) (t := T) (by omega) (by omega) (by omega)
  have HTRI := Lib.hid (fun (b : Int) (es : List Int) => by
    have := syms_tri (v := v) (t := T) (b := b) HVB.out (by rw [HVL.out]; omega) (by rw [HVL.out]; omega) (by omega) (by omega) es
    rw [HVL.out] at this
    exact this)
  have HHI := Lib.hid (fun (ss : List Sy) (h : ∀ s ∈ ss, Genuine v T s) (i : Nat) (hi : chZ (chN vn T) ≤ i) => ofBlock_high h (i := i) (by rw [HVL.out]; exact hi))
  have HGA := Lib.hid (fun (ss : List Sy) (h : ∀ s ∈ ss, Genuine v T s) (hc : ∀ i, i < chZ (chN vn T) → (ofBlock ss i).length ≤ 128) => by
    have := gather_gen (v := v) (t := T) HVB.out (by rw [HVL.out]; omega) (by rw [HVL.out]; omega) (by omega) (by omega) h (by rw [HVL.out]; exact hc)
    rw [HVL.out] at this
    exact this)
  clear hsz n3 n4
  obtain ⟨n, hn⟩ : ∃ n, n = chN vn T := ⟨_, rfl⟩
  rw [← hn] at n1 n2 KP HTRI HHI HGA
  clear hn
  obtain ⟨z1, z2, -, -, z3⟩ := chZ_facts n1 n2
  unfold GivesN at KP
  simp only at KP
  rw [partsL_length] at KP
  obtain ⟨z, hz⟩ : ∃ z, z = chZ n := ⟨_, rfl⟩
  rw [← hz] at z1 z2 z3 KP HTRI HHI HGA
  clear hz
  obtain ⟨PL, hPL⟩ : ∃ P, P = partsL n := ⟨_, rfl⟩
  rw [← hPL] at KP
  clear hPL
  go_enter Tryd.func6, Tryd.ntmps6
  go_wp2_with fail
  (with_reducible refine KA.mono ?_)
  rintro e w1 ⟨rfl, b1⟩
  go_wp2_with fail
  (with_reducible refine (KP _).mono ?_)
  rintro e w2 ⟨a2, c2, rfl, -, b2⟩
  have hb := b1.trans (b2.mono b1.size)
  have HB := Lib.hid hb
  have hs2 := hb.size
  have HO0 : Hid (OwnS (w2.alloc (.cells #[] ST3)) w2.heap.size (some ⟨w2.heap.size, 0, none⟩) 0 0 []) := Lib.hid (OwnS.madeS (Nat.le_refl _))
  have HBA := Lib.hid (below_alloc w2 (.cells #[] ST3))
  clear KA KP b1 b2 hb
  go_wp2_with fail
  go_loopw [9, 10] (fun va' vi wr => ∃ (i m : Nat) (av : Option Addr) (cv : Nat) (AS : List Sy), i ≤ ln ∧ m ≤ i * 40 ∧ vi = .int .i64 (i : Nat) ∧ va' = .slice av m cv ∧ Hid (∀ s ∈ AS, Genuine v T s) ∧ Hid (OwnS wr w2.heap.size av m cv AS) ∧ Hid (Below w2.heap.size w2 wr)) (fun _ vi _ => (ln - intOf vi).toNat)
  case atStart => exact ⟨0, 0, _, _, [], Nat.zero_le _, Nat.le_refl _, rfl, rfl, Lib.hid (fun s h => by cases h), HO0, HBA⟩
  case round =>
    clear HO0 HBA
    obtain ⟨i, m, av, cv, AS, hil, hm, rfl, rfl, HGN, HO, HBR⟩ := hrel
    have hsr := HBR.out.size
    have HBW := Lib.hid (HB.out.trans (HBR.out.mono hs2))
    by_cases hlt : i < ln
    · obtain ⟨lb, lo, rfl, -, hcell⟩ := (HTK.out.below HBW.out).row (by omega)
      obtain ⟨k0, k1, k2⟩ := hcell i hlt
      obtain ⟨y, hy⟩ : ∃ y, y = Y i := ⟨_, rfl⟩
      obtain ⟨X, hX⟩ : ∃ X, X = Hd i := ⟨_, rfl⟩
      obtain ⟨es, hes⟩ : ∃ x, x = L i := ⟨_, rfl⟩
      rw [← hy] at k0
      rw [← hX] at k1 k2
      rw [← hes] at k2
      obtain ⟨ea, en, ec⟩ := X
      simp only at k1 k2
      clear hy hX hes hcell
      by_cases h40 : (40 : Int) < (en : Int)
      · clear k0 k2
        go_wp2
        go_ret
        exact ⟨rfl, HBW.out⟩
      have K0 : wr.cell? ⟨lb, lo + i * 2, none⟩ = some (.int .i64 y) ∧ wr.cell? ⟨lb, lo + i * 2 + 1, none⟩ = some (.slice ea en ec) := ⟨k0, k1⟩
      have hI := k2 (by omega)
      have HEL := Lib.hid (show es.length = en from hI.length)
      have HI := Lib.hid hI
      have HVR := Lib.hid (HV.out.below HBW.out)
      have HGR := Lib.hid (HG.out.below HBW.out)
      have KS := fun a5 c5 a6 c6 W h k g => syms_any a5 vn c5 v (T : Int) y a6 en c6 es W h k (by omega) g
      have htri := HTRI.out y es
      obtain ⟨S, hS⟩ : ∃ S, S = symbolsR v (T : Int) y es := ⟨_, rfl⟩
      simp only [← hS] at KS htri
      obtain ⟨SL, scode⟩ := S
      simp only at htri
      rw [HEL.out] at htri
      have HTR := Lib.hid htri
      have hi0 : (0 : Int) ≤ (i : Int) := by omega
      have hi1 : (i : Int) < (ln : Int) := by omega
      clear hS hI k0 k2 htri
      go_wp2_with fail
      go_region_held3 (fun w' => w'.cell? ⟨lb, lo + i * 2, none⟩ = some (.int .i64 y) ∧ w'.cell? ⟨lb, lo + i * 2 + 1, none⟩ = some (.slice ea en ec)) (first | exact K0 | exact K5 | exact K6 | exact K7 | go_keep)
        (first
          | (go_at_call 33; (with_reducible refine (copyBytes_any va vn vc v _ ?hh).mono ?_); (case hh => exact HVR.out.below ⟨rfl, rfl, rfl, Nat.le_refl _, fun _ _ => rfl⟩); rintro e w5 ⟨a5, c5, rfl, o5, d5⟩; have b5 : Below wr.heap.size wr w5 := ⟨d5.os, d5.tape, d5.output, d5.size, d5.block⟩; rw [HVL.out] at o5 ⊢; have H5 := Lib.hid (bytesV_of_owns o5 HVB.out (by omega)); have K5 : w5.cell? ⟨lb, lo + i * 2, none⟩ = some (.int .i64 y) ∧ w5.cell? ⟨lb, lo + i * 2 + 1, none⟩ = some (.slice ea en ec) := ⟨cell_below K0.1 b5, cell_below K0.2 b5⟩)
          | (go_at_call 24; (with_reducible refine (copyInts_rd ea en ec es _ ?hh (by omega)).mono ?_); (case hh => exact (HI.out.below b5).below ⟨rfl, rfl, rfl, Nat.le_refl _, fun _ _ => rfl⟩); rintro e w6 ⟨a6, c6, rfl, o6, d6⟩; have b6 : Below w5.heap.size w5 w6 := ⟨d6.os, d6.tape, d6.output, d6.size, d6.block⟩; rw [HEL.out] at o6 ⊢; have H6 := Lib.hid (intsV_ownQ o6 (by omega)); have K6 : w6.cell? ⟨lb, lo + i * 2, none⟩ = some (.int .i64 y) ∧ w6.cell? ⟨lb, lo + i * 2 + 1, none⟩ = some (.slice ea en ec) := ⟨cell_below K5.1 b6, cell_below K5.2 b6⟩)
          | (go_at_call 23; (with_reducible refine (KS a5 c5 a6 c6 _ ?hv ?he ?hg).mono ?_); (case hv => exact (H5.out.below b6).below ⟨rfl, rfl, rfl, Nat.le_refl _, fun _ _ => rfl⟩); (case he => exact H6.out.below ⟨rfl, rfl, rfl, Nat.le_refl _, fun _ _ => rfl⟩); (case hg => exact (HGR.out.below (b5.trans (b6.mono b5.size))).below ⟨rfl, rfl, rfl, Nat.le_refl _, fun _ _ => rfl⟩); rintro e w7 ⟨a7, c7, rfl, o7, d7⟩; have b7 : Below w6.heap.size w6 w7 := ⟨d7.os, d7.tape, d7.output, d7.size, d7.block⟩; have K7 : w7.cell? ⟨lb, lo + i * 2, none⟩ = some (.int .i64 y) ∧ w7.cell? ⟨lb, lo + i * 2 + 1, none⟩ = some (.slice ea en ec) := ⟨cell_below K6.1 b7, cell_below K6.2 b7⟩; have O7 : OwnS w7 w6.heap.size a7 SL.length c7 SL := o7; simp only))
      have hb7 := b5.trans ((b6.trans (b7.mono b6.size)).mono b5.size)
      have HB7 := Lib.hid (HBR.out.trans (hb7.mono hsr))
      have HBW7 := Lib.hid (HB.out.trans (HB7.out.mono hs2))
      have HO7 := Lib.hid (O7.rebase (show w2.heap.size ≤ w6.heap.size by have h1 := b5.size; have h2 := b6.size; omega))
      have HOA := Lib.hid (HO.out.below hb7)
      obtain ⟨p0, p1⟩ := K7
      have hs7 := HB7.out.size
      clear hb7 b5 b6 b7 d5 d6 d7 o5 o6 o7 O7 H5 H6 K0 K5 K6 KS HI HVR HGR HO HBR HBW k1
      rcases HTR.out with ⟨rfl, -, hyb⟩ | ⟨rfl, -⟩ | ⟨rfl, hgen, hlen⟩
      · rcases hyb with hy0 | hy1
        · clear HTR HO7 HOA
          go_wp2
          go_ret
          exact ⟨rfl, HBW7.out⟩
        · have hy0 : ¬ y < 0 := by omega
          have hy2 : 0 ≤ y := by omega
          clear HTR HO7 HOA
          go_wp2
          go_ret
          exact ⟨rfl, HBW7.out⟩
      · clear HTR HO7 HOA
        go_wp2
        go_ret
        exact ⟨rfl, HBW7.out⟩
      · have HGE := Lib.hid hgen
        obtain ⟨sl, hsl⟩ : ∃ x, x = SL.length := ⟨_, rfl⟩
        rw [← hsl] at hlen HO7 ⊢
        have hsl40 : sl ≤ 40 := by omega
        clear HTR hgen p0 p1 hsl hlen
        go_wp2_with (first | (at_builtin; refine Hid.out ?_))
        refine Lib.hid ?_
        refine wpList_append_sy rfl _ _ rfl w2.heap.size av m cv AS rfl HOA.out a7 sl c7 SL rfl HO7.out (by omega) hs7 ?_
        intro a9 c9 w9 hO9 g9
        have HB9 := Lib.hid (below_grown HB7.out g9 (fun k hk => by
          obtain ⟨-, xs, -, h3, -⟩ := HOA.out
          exact ownBlock_ge h3 k hk))
        have HO9 := Lib.hid hO9
        have HG9 : Hid (∀ s ∈ AS ++ SL, Genuine v T s) := Lib.hid (fun s hs => by
          rcases List.mem_append.1 hs with h | h
          · exact HGN.out s h
          · exact HGE.out s h)
        clear hO9 g9 HO7 HOA
        go_wp2
        go_roundw
        case rel => exact ⟨i + 1, m + sl, a9, c9, AS ++ SL, by omega, by omega, by go_num, rfl, HG9, HO9, HB9⟩
        case measure => simp [intOf]; omega
    · obtain rfl : i = ln := by omega
      have HS := Lib.hid HO.out.sy
      have HML := Lib.hid HO.out.len
      obtain ⟨wo, hwo⟩ : ∃ x, x = wr := ⟨_, rfl⟩
      subst hwo
      clear HTRI HTK HO
      go_wp2_with fail
      go_loopw [13] (fun vb wr => ∃ b : Nat, b ≤ z ∧ vb = .int .i64 (b : Nat) ∧ Hid (∀ k, k < b → (ofBlock AS k).length ≤ 100) ∧ Hid (Below wo.heap.size wo wr)) (fun vb _ => (z - intOf vb).toNat)
      case atStart => exact ⟨0, Nat.zero_le _, rfl, Lib.hid (fun k h => absurd h (Nat.not_lt_zero _)), Lib.hid (Below.refl _ _)⟩
      case round =>
        obtain ⟨b, hb, rfl, HCK, HBQ⟩ := hrel
        have hso := HBW.out.size
        by_cases hbz : b < z
        · obtain ⟨wp, hwp⟩ : ∃ x, x = wr := ⟨_, rfl⟩
          subst hwp
          have HSP := Lib.hid (HS.out.below HBQ.out)
          go_wp2_with fail
          go_loopw [14, 15] (fun vc' vj wr => ∃ (j c : Nat), j ≤ m ∧ c ≤ j ∧ vj = .int .i64 (j : Nat) ∧ vc' = .int .i64 (c : Nat) ∧ Hid ((ofBlock (AS.take j) b).length = c) ∧ Hid (Below wp.heap.size wp wr)) (fun _ vj _ => (m - intOf vj).toNat)
          case atStart => exact ⟨0, 0, Nat.zero_le _, Nat.le_refl _, rfl, rfl, Lib.hid rfl, Lib.hid (Below.refl _ _)⟩
          case round =>
            obtain ⟨j, c, hj, hcj, rfl, rfl, HC, HBJ⟩ := hrel
            by_cases hjm : j < m
            · obtain ⟨sb, off, z1', e, xa, xn, xc, l, rfl, q0, -, -, hpi, -⟩ := (HSP.out.below HBJ.out).at hjm
              have HT := Lib.hid (show (ofBlock (AS.take (j + 1)) b).length = c + (if z1' = (b : Int) then 1 else 0) by
                rw [take_step AS j _ hpi, ofBlock_append, ofBlock_one, List.length_append, HC.out]
                split <;> simp)
              clear hpi
              by_cases hzb : z1' = (b : Int)
              · have HT2 : Hid ((ofBlock (AS.take (j + 1)) b).length = c + 1) := Lib.hid (by rw [HT.out, if_pos hzb])
                subst hzb
                clear HT
                go_wp2
                go_roundw
                case rel => exact ⟨j + 1, c + 1, by omega, by omega, by go_num, by go_num, HT2, HBJ⟩
                case measure => simp [intOf]; omega
              · have HT2 : Hid ((ofBlock (AS.take (j + 1)) b).length = c) := Lib.hid (by rw [HT.out, if_neg hzb, Nat.add_zero])
                have hne : (z1' == (b : Int)) = false := beq_eq_false_iff_ne.2 hzb
                clear HT
                go_wp2
                go_roundw
                case rel => exact ⟨j + 1, c, by omega, by omega, by go_num, rfl, HT2, HBJ⟩
                case measure => simp [intOf]; omega
            · obtain rfl : j = m := by omega
              have HBX := Lib.hid (HBQ.out.trans (HBJ.out.mono HBQ.out.size))
              have hC := HC.out
              rw [List.take_of_length_le (by rw [HML.out]; exact Nat.le_refl _)] at hC
              have HC2 := Lib.hid hC
              clear hC
              by_cases h100 : (100 : Int) < (c : Int)
              · go_wp2
                go_ret
                exact ⟨rfl, HBW.out.trans (HBX.out.mono hso)⟩
              · have HCK2 : Hid (∀ k, k < b + 1 → (ofBlock AS k).length ≤ 100) := Lib.hid (fun k hk => by
                  by_cases e : k = b
                  · subst e; rw [HC2.out]; omega
                  · exact HCK.out k (by omega))
                clear HC HC2
                go_wp2
                go_roundw
                case rel => exact ⟨b + 1, by omega, by go_num, HCK2, HBX⟩
                case measure => simp [intOf]; omega
        · obtain rfl : b = z := by omega
          have hbw := HBW.out.trans (HBQ.out.mono hso)
          have hx : ∀ k, (ofBlock AS k).length ≤ 1000 := fun k => by
            by_cases hk : k < b
            · have := HCK.out k hk; omega
            · rw [HHI.out AS HGN.out k (by omega)]; simp
          have KR := fun W h g => ready_n (vn : Int) (T : Int) av m cv AS W h (by omega) hx g
          have KG := fun W h g => gather_n (vn : Int) (T : Int) av m cv AS W h (by omega) hx g
          have hga := HGA.out AS HGN.out (fun k hk => by have := HCK.out k hk; omega)
          simp only [hga] at KG
          clear hga hx
          obtain ⟨R, hR⟩ : ∃ R, R = readyB (vn : Int) (T : Int) AS := ⟨_, rfl⟩
          simp only [← hR] at KR KG
          have HBW2 := Lib.hid hbw
          have HS2 := Lib.hid (HS.out.below HBQ.out)
          clear hR HGN HCK HGA HHI hbw HS HBQ
          go_wp2_with fail
          (with_reducible refine (KR _ HS2.out (HG.out.below HBW2.out)).mono ?_)
          rintro e w3 ⟨rfl, b3⟩
          have HBW3 := Lib.hid (HBW2.out.trans (b3.mono HBW2.out.size))
          have HS3 := Lib.hid (HS2.out.below b3)
          clear KR b3 HS2 HBW2
          cases R with
          | true =>
            simp only [if_true] at KG
            go_wp2_with fail
            (with_reducible refine (KG _ HS3.out (HG.out.below HBW3.out)).mono ?_)
            rintro e w4 ⟨a4, c4, rfl, o4, b4⟩
            have HBW4 := Lib.hid (HBW3.out.trans (b4.mono HBW3.out.size))
            simp only [HVL.out] at o4 ⊢
            have KQ := sameBytes_any a4 vn c4 v va vn vc v w4 o4 (HV.out.below HBW4.out)
            rw [decide_eq_true rfl] at KQ
            clear KG b4 HS3
            go_wp2_with fail
            (with_reducible refine KQ.mono ?_)
            rintro e w5 ⟨rfl, b5⟩
            go_wp2
            go_ret
            exact ⟨rfl, HBW4.out.trans (b5.mono HBW4.out.size)⟩
          | false =>
            simp only [Bool.false_eq_true, if_false] at KG
            go_wp2_with fail
            (with_reducible refine (KG _ HS3.out (HG.out.below HBW3.out)).mono ?_)
            rintro e w4 ⟨a4, c4, rfl, o4, b4⟩
            have HBW4 := Lib.hid (HBW3.out.trans (b4.mono HBW3.out.size))
            simp only [List.length_nil] at o4 ⊢
            clear KG b4 HS3 o4
            go_wp2
            go_ret
            exact ⟨rfl, HBW4.out⟩
end Go.Proofs.YtfjcbgfgiidogaaDoor
