/-
  rilllaw07: FrameMemory.
-/
import Derived.Test.YtkepdjbgfkoobaaFrU
import Derived.Test.YtkepdjbgfkoobaaFrJ
namespace Go.Proofs.Ytkepdjbgfkoobaa
open Go.RowKit

theorem grown_set (w : World) (g i : Nat) (v : Value) : w.grownBy (w.setCell ⟨g, i, none⟩ v) (some g) :=
  ⟨rfl, rfl, rfl, by simp [World.setCell], fun k _ hn => heap_setCell_other _ ⟨g, i, none⟩ k _ (fun e => hn (by rw [e]))⟩
theorem own_set {w : World} {B : Nat} {T : TypeId} {g n cap : Nat} {xs : List Value} (h : w.ownsRow B T 1 (.slice (some ⟨g, 0, none⟩) n cap) n xs) (i : Nat) (v : Value) :
    (w.setCell ⟨g, i, none⟩ v).ownsRow B T 1 (.slice (some ⟨g, 0, none⟩) n cap) n (xs.set i v) := by
  refine ⟨by simpa using h.1, .inr ?_⟩
  rcases h.2 with ⟨e, _⟩ | ⟨g', cap', cur, e, hB, hh, h1, h2, h3, h4⟩
  · cases e
  · cases e
    refine ⟨g, cap, _, rfl, hB, heap_setCell_same _ _ i _ _ _ hh, h1, h2, by simpa using h3, ?_⟩
    rw [← h4]
    simp [List.take_set]
/-- what the walk knows of the payloads from the k-th on. -/
structure Rest (w wr : World) (B n k g c : Nat) (s js : List (Option Addr × Nat × Nat)) (ls : List (List Nat)) : Prop where
  row : wr.ownsRow B 22 1 (.slice (some ⟨g, 0, none⟩) n c) n (js.map SV)
  same : ∀ j, k ≤ j → js[j]? = s[j]?
  own : ∀ j x l, k ≤ j → s[j]? = some x → ls[j]? = some l → wr.ownsRow B 5 1 (SV x) l.length (l.map bv)
  below : Below B w wr
theorem ne_some_of {v : Value} {g n c : Nat} (h : v.ownBlock = none ∨ v.ownBlock ≠ (Value.slice (some ⟨g, 0, none⟩) n c).ownBlock) : v.ownBlock ≠ some g := by
  rcases h with h | h
  · rw [h]; simp
  · exact h
theorem own_frozen {w : World} {B : Nat} {T : TypeId} {g n cap : Nat} {xs : List Value} (h : w.ownsRow B T 1 (.slice (some ⟨g, 0, none⟩) n cap) n xs) (j : Nat) : w.frozen? ⟨g, j, none⟩ = false := by
  rcases h.2 with ⟨e, _⟩ | ⟨g', cap', cur, e, hB, hh, _⟩
  · cases e
  · cases e
    exact frozen_of_row _ _ _ _ _ hh
theorem Rest.weak {w wr : World} {B n k g c : Nat} {s js : List (Option Addr × Nat × Nat)} {ls : List (List Nat)} (h : Rest w wr B n k g c s js ls) : Rest w wr B n (k + 1) g c s js ls :=
  ⟨h.row, fun j hj => h.same j (by omega), fun j x l hj hx hl => h.own j x l (by omega) hx hl, h.below⟩
theorem Rest.grown {w wr w' : World} {B n k g c : Nat} {s js : List (Option Addr × Nat × Nat)} {ls : List (List Nat)} (h : Rest w wr B n k g c s js ls) {r : Option Nat} (hg : wr.grownBy w' r) (hB : B ≤ wr.heap.size) (hrB : ∀ b, r = some b → B ≤ b) (hr1 : r ≠ some g)
    (hap : ∀ j x, k ≤ j → s[j]? = some x → ∀ b, (SV x).ownBlock = some b → r ≠ some b) : Rest w w' B n k g c s js ls :=
  ⟨h.row.kept hg (.inr (fun e => hr1 (by rw [← e]; rfl))), h.same, fun j x l hj hx hl => (h.own j x l hj hx hl).kept hg (by
    cases e : (SV x).ownBlock with
    | none => exact .inl rfl
    | some b => exact .inr (fun e2 => hap j x hj hx b e e2.symm)), h.below.grown hg hB hrB⟩
theorem Rest.setRow {w wr : World} {B n k g c : Nat} {s js : List (Option Addr × Nat × Nat)} {ls : List (List Nat)} (h : Rest w wr B n (k + 1) g c s js ls) (hB : B ≤ g) (y : Option Addr × Nat × Nat) :
    Rest w (wr.setCell ⟨g, k, none⟩ (SV y)) B n (k + 1) g c s (js.set k y) ls :=
  ⟨by have := own_set h.row k (SV y); rwa [← List.map_set] at this, fun j hj => by rw [List.getElem?_set_ne (by omega)]; exact h.same j hj,
   fun j x l hj hx hl => (h.own j x l hj hx hl).kept (grown_set wr g k _) (by
    have hn := own_ne (h.own j x l hj hx hl) h.row (by decide)
    rcases hn with hn | hn
    · exact .inl hn
    · exact .inr hn), h.below.setCell (p := ⟨g, k, none⟩) hB _⟩

set_option maxRecDepth 100000 in
set_option maxHeartbeats 8000000 in
theorem frameMemory_walk (a0 : Option Addr) (n0 c0 : Nat) (hs : List (Option Addr × Nat × Nat)) (ls : List (List Nat)) (w : World)
    (v0 : RowV w a0 n0 (hs.map SV)) (r0 : RowsV w hs ls) (s0 : n0 * 24 ≤ 140737488351232) :
    Calls Try.prog 8 #[.slice a0 n0 c0] w fun e w' => e = .returned (.bool true) ∧ Below w.heap.size w w' := by
  have KA := alive_any
  obtain ⟨i0, hi, hz0, hz1, hz2⟩ := info_parts Try.info5
  have hhs : hs.length = n0 := by have := v0.1; simpa using this
  have hls : ls.length = n0 := by rw [← r0.1, hhs]
  have HLS := Lib.hid hls
  clear hls hhs
  go_enter Try.func8, Try.ntmps8
  go_wp2_with (go_at_call 10; (with_reducible refine (KA _).mono ?_); rintro e w1 ⟨rfl, hb⟩)
  clear KA
  go_wp2_with fail
  (with_reducible refine (lawPack_any _ _ _ hs ls _ (v0.below hb) s0 (r0.below hb)).mono ?_)
  rintro e w2 (⟨rfl, b2⟩ | ⟨ad, cap, ad2, cap2, L, rfl, HL, oA, oE, hP, hL, hn, b2⟩)
  · go_wp2
    go_ret
    exact ⟨rfl, hb.trans (b2.mono hb.size)⟩
  replace hb := hb.trans (b2.mono hb.size)
  clear b2
  have hfb := framesN_bytes hP
  have hA := bytesV_of_owns oA hfb (by omega)
  clear oA oE
  have hsc := scan_frames ls hP []
  rw [List.append_nil, HL.out] at hsc
  have e0 : scanN [] = ([], 0) := rfl
  rw [e0] at hsc
  simp only [List.append_nil, Nat.add_zero] at hsc
  have KS := fun a c w h => scanA_any a L c (framesN ls) (by omega) w h
  rw [hsc] at KS
  have hpb : ∀ l ∈ ls, Bytes l ∧ l.length ≤ 140737488355328 := fun l hl => by have := hP l hl; exact ⟨this.1, by omega⟩
  clear hsc e0
  go_wp2_with fail
  (with_reducible refine (copyBytes_any _ _ _ (framesN ls) _ hA).mono ?_)
  rintro e w3 ⟨a3, c3, rfl, o3, b3⟩
  rw [HL.out] at o3 ⊢
  have h3 := bytesV_of_owns o3 hfb (by omega)
  replace hA := hA.below b3
  replace hb := hb.trans (b3.mono hb.size)
  clear o3 b3
  go_wp2_with fail
  (with_reducible refine (KS _ _ _ h3).mono ?_)
  rintro e w4 ⟨a4, c4, s4, rfl, o4, i4, ap4, b4⟩
  dsimp only at o4 i4 ⊢
  rw [HLS.out] at o4 ⊢
  go_wp2
  by_cases hz : n0 = 0
  · subst hz
    have hb5 := b4
    clear o4 i4 ap4 b4
    go_loopw [9] (fun i wr => i = .int .i64 0 ∧ wr = w4) (fun _ _ => 0)
    case atStart => exact ⟨rfl, rfl⟩
    obtain ⟨rfl, rfl⟩ := hrel
    replace h3 := h3.below hb5
    replace hA := hA.below hb5
    replace hb := hb.trans (hb5.mono hb.size)
    clear hb5
    go_wp2_with fail
    (with_reducible refine (KS _ _ _ h3).mono ?_)
    rintro e w6 ⟨a6, c6, s6, rfl, o6, i6, _, b6⟩
    dsimp only at o6 i6 ⊢
    rw [HLS.out] at o6 ⊢
    have v6 := rowV_own o6
    have r6 := i6.rowsV hpb
    replace h3 := h3.below b6
    replace hA := hA.below b6
    replace hb := hb.trans (b6.mono hb.size)
    clear o6 i6 b6
    go_wp2_with fail
    (with_reducible refine (sameBytes_any _ _ _ (framesN ls) _ _ _ (framesN ls) _ h3 hA).mono ?_)
    rw [decide_eq_true rfl]
    rintro e w7 ⟨rfl, b7⟩
    replace v6 := v6.below b7
    replace r6 := r6.below b7
    replace hb := hb.trans (b7.mono hb.size)
    clear b7
    go_wp2_with fail
    (with_reducible refine (sameRows_any _ _ _ s6 ls _ _ _ hs ls _ v6 r6 (v0.below hb) (r0.below hb) (by omega)).mono ?_)
    rw [decide_eq_true rfl]
    rintro e w8 ⟨rfl, b8⟩
    go_wp2
    go_ret
    exact ⟨rfl, hb.trans (b8.mono hb.size)⟩
  obtain ⟨g4, rfl⟩ : ∃ g, a4 = some ⟨g, 0, none⟩ := by
    obtain ⟨_, _, e, hc, _⟩ := ownsRow_parts o4
    cases e
    rcases hc with ⟨_, h, _⟩ | ⟨g, h, _⟩
    · exact absurd h hz
    · exact ⟨g, h⟩
  have hg4 : w3.heap.size ≤ g4 := (o4.lt g4 rfl).1
  have R4 : Rest w3 w4 w3.heap.size n0 0 g4 c4 s4 s4 ls := ⟨o4, fun _ _ => rfl, fun j x l _ hx hl => (i4.2 j x l hx hl).2, b4⟩
  have hsl := i4.1
  have HSL : Hid (s4.length = n0) := hsl.trans HLS.out
  have hs4 : ∀ (j : Nat) x l, s4[j]? = some x → ls[j]? = some l → x.2.1 = l.length := fun j x l hx hl => (i4.2 j x l hx hl).1
  clear o4 i4 b4 hsl
  go_loopw [9] (fun i wr => ∃ (k : Nat) (js : List (Option Addr × Nat × Nat)), k ≤ n0 ∧ i = .int .i64 k ∧ Rest w3 wr w3.heap.size n0 k g4 c4 s4 js ls) (fun i _ => n0 - (intOf i).toNat)
  case atStart => exact ⟨0, s4, Nat.zero_le _, rfl, R4⟩
  case round =>
    clear R4
    obtain ⟨k, js, hk, rfl, R⟩ := hrel
    by_cases hlt : k < n0
    · have hkl : k < ls.length := by rw [HLS.out]; exact hlt
      have hks : k < s4.length := by rw [HSL.out]; exact hlt
      obtain ⟨x, hx⟩ : ∃ x, s4[k]? = some x := ⟨_, List.getElem?_eq_getElem hks⟩
      obtain ⟨l, hl⟩ : ∃ l, ls[k]? = some l := ⟨_, List.getElem?_eq_getElem hkl⟩
      have hxm := hs4 k x l hx hl
      obtain ⟨ax, m, cx⟩ := x
      simp only at hxm
      subst hxm
      have hlm : l ∈ ls := List.mem_of_getElem? hl
      have hlb := (hP l hlm).1
      have hl5 := (hP l hlm).2
      have own := R.own k _ l (Nat.le_refl _) hx hl
      obtain ⟨m, hm⟩ : ∃ m, m = l.length := ⟨_, rfl⟩
      rw [← hm] at hl5
      have HX : Hid (js[k]? = some (ax, l.length, cx)) := (R.same k (Nat.le_refl _)).trans hx
      have HAP : Hid (∀ j y, k + 1 ≤ j → s4[j]? = some y → ∀ b, (SV y).ownBlock = some b → (SV (ax, l.length, cx)).ownBlock ≠ some b) := fun j y hj hy b hb => ap4 k j _ y hx hy (by omega) b hb
      unfold SV at own
      simp only at own
      rw [← hm] at HX HAP own
      clear hx hl hkl hks hlm
      have R1 := R.weak
      clear R
      obtain ⟨l0, hl0⟩ : ∃ l0, l0 = l := ⟨_, rfl⟩
      rw [← hl0] at own
      have hlb0 : Bytes l0 := by rw [hl0]; exact hlb
      have hlm0 : Hid (l0.length = m) := by rw [hl0]; exact hm.symm
      clear hm hl0 hlb
      go_wp2
      go_loopw [10] (fun i wr => ∃ (t : Nat) (l' : List Nat), t ≤ m ∧ i = .int .i64 t ∧ Hid (l'.length = m) ∧ Bytes l' ∧ wr.ownsRow w3.heap.size 5 1 (.slice ax m cx) m (l'.map bv) ∧ Rest w3 wr w3.heap.size n0 (k + 1) g4 c4 s4 js ls) (fun i _ => m - (intOf i).toNat)
      case atStart => exact ⟨0, l0, Nat.zero_le _, rfl, hlm0, hlb0, own, R1⟩
      case round =>
        clear own R1 hlm0 hlb0
        obtain ⟨t, l', ht, rfl, HLM, hby, own, R⟩ := hrel
        have hck : wr.cell? ⟨g4, k, none⟩ = some (.slice ax m cx) := by rw [R.row.cellAt k (by omega), List.getElem?_map, HX.out]; rfl
        have hbs := R.below.size
        by_cases htm : t < m
        · obtain ⟨gx, rfl, hfx, hgx⟩ : ∃ g, ax = some ⟨g, 0, none⟩ ∧ (∀ j, wr.frozen? ⟨g, j, none⟩ = false) ∧ w3.heap.size ≤ g := by
            rcases own.2 with ⟨e, h0⟩ | ⟨g, cap, cur, e, hB, hh, _⟩
            · omega
            · cases e
              exact ⟨g, rfl, fun j => frozen_of_row _ _ _ _ _ hh, hB⟩
          have hd := Bytes.getD hby t
          have hc := (own.cellAt t (by omega)).trans (bv_getD (by rw [HLM.out]; exact htm))
          obtain ⟨d, hdd⟩ : ∃ d, d = l'.getD t 0 := ⟨_, rfl⟩
          rw [← hdd] at hd hc
          have hq : bits .xor .u8 (d : Int) 255 = ((d ^^^ 255 : Nat) : Int) := u8_xor_nat d 255 hd (by omega)
          have hy := xor_lt8 hd (show 255 < 256 by omega)
          obtain ⟨y, hyy⟩ : ∃ y, y = d ^^^ 255 := ⟨_, rfl⟩
          rw [← hyy] at hq hy
          have own2 := own_set own t (.int .u8 (y : Nat))
          have hne := own_ne own R.row (by decide)
          have R2 := R.grown (grown_set wr gx t (.int .u8 (y : Nat))) hbs (fun b e => by cases e; exact hgx) (by
            rcases hne with h | h
            · cases h
            · exact h) (fun j z hj hz b hb => HAP.out j z hj hz b hb)
          have O2 := Lib.hid own2
          have hft := hfx t
          clear own own2 R hdd hyy hne hfx
          go_wp2
          go_roundw
          case rel =>
            refine ⟨t + 1, l'.set t y, by omega, by go_num, by show (l'.set t y).length = m; rw [List.length_set]; exact HLM.out, ?_, ?_, R2⟩
            · intro z hz
              rcases List.mem_or_eq_of_mem_set hz with h | h
              · exact hby z h
              · rw [h]; exact hy
            · rw [List.map_set]; exact O2.out
          case measure => simp [intOf]; omega
        · obtain rfl : t = m := by omega
          have hown := own.alloc (.cells #[.int .u8 1, .int .u8 2, .int .u8 3] 5)
          have ha : ∀ o, (wr.alloc o).cell? ⟨g4, k, none⟩ = some (.slice ax t cx) := fun o => ((below_alloc wr o).cell (p := ⟨g4, k, none⟩) (R.row.lt g4 rfl).2).trans hck
          have hne := own_ne own R.row (by decide)
          go_wp2_with (first | (at_builtin; refine wpList_append_row rfl (.tmp 59) (.tmp 60) 22 rfl w3.heap.size 5 i0 (.int .u8 0) 1 Try.underlying22 hi hz0 hz1 hz2 rfl _ _ _ rfl hown (some ⟨wr.heap.size, 0, none⟩) 3 3 [bv 1, bv 2, bv 3] rfl (rowV_lit _ _ _ _ _ _ rfl rfl rfl) (fun h => by cases h) (bv_one [1, 2, 3]) (by simp [maxLen]; omega) (by omega) (by simp; omega) ?_; intro v' w5 o5 g5 _; obtain ⟨a5, c5, rfl, _⟩ := ownsRow_parts o5; have g6 : wr.grownBy w5 (Value.slice ax t cx).ownBlock := grownBy_trans (grownBy_of_below (below_alloc wr _) _) g5; have R5 := R.grown g6 hbs (fun b e => (own.lt b e).1) (ne_some_of hne) (fun j z hj hz b hb => HAP.out j z hj hz b hb); have hck5 : w5.cell? ⟨g4, k, none⟩ = some (.slice ax t cx) := (by rw [R5.row.cellAt k (by omega), List.getElem?_map, HX.out]; rfl); have hf5 := own_frozen R5.row k; clear g5 g6 o5 hown ha hne own hck R hbs))
          have R6 := R5.setRow hg4 (a5, t + 3, c5)
          go_roundw
          case rel => exact ⟨k + 1, _, by omega, by go_num, R6⟩
          case measure => simp [intOf]; omega
    · obtain rfl : k = n0 := by omega
      have hb5 := R.below
      clear R
      replace h3 := h3.below hb5
      replace hA := hA.below hb5
      replace hb := hb.trans (hb5.mono hb.size)
      clear hb5
      go_wp2_with fail
      (with_reducible refine (KS _ _ _ h3).mono ?_)
      rintro e w6 ⟨a6, c6, s6, rfl, o6, i6, _, b6⟩
      dsimp only at o6 i6 ⊢
      rw [HLS.out] at o6 ⊢
      have v6 := rowV_own o6
      have r6 := i6.rowsV hpb
      replace h3 := h3.below b6
      replace hA := hA.below b6
      replace hb := hb.trans (b6.mono hb.size)
      clear o6 i6 b6
      go_wp2_with fail
      (with_reducible refine (sameBytes_any _ _ _ (framesN ls) _ _ _ (framesN ls) _ h3 hA).mono ?_)
      rw [decide_eq_true rfl]
      rintro e w7 ⟨rfl, b7⟩
      replace v6 := v6.below b7
      replace r6 := r6.below b7
      replace hb := hb.trans (b7.mono hb.size)
      clear b7
      go_wp2_with fail
      (with_reducible refine (sameRows_any _ _ _ s6 ls _ _ _ hs ls _ v6 r6 (v0.below hb) (r0.below hb) (by omega)).mono ?_)
      rw [decide_eq_true rfl]
      rintro e w8 ⟨rfl, b8⟩
      go_wp2
      go_ret
      exact ⟨rfl, hb.trans (b8.mono hb.size)⟩
end Go.Proofs.Ytkepdjbgfkoobaa
