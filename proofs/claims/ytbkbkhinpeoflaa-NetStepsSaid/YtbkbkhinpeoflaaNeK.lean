/-
  net: what a net's memory has to do with other blocks; NetMemory.
-/
import Derived.Test.YtbkbkhinpeoflaaNeJ
import Derived.Test.YtbkbkhinpeoflaaLaw
namespace Go.Proofs.Ytbkbkhinpeoflaa
open Go.RowKit

theorem own_kept {w w' : World} {B : Nat} {T : TypeId} {s n : Nat} {v : Value} {xs : List Value} (h : w.ownsRow B T s v n xs) (hk : ∀ b, v.ownBlock = some b → w'.heap[b]? = w.heap[b]?) : w'.ownsRow B T s v n xs := by
  refine ⟨h.1, ?_⟩
  rcases h.2 with h | ⟨g, cap, cur, e, hB, hh, h'⟩
  · exact .inl h
  · exact .inr ⟨g, cap, cur, e, hB, (hk g (by rw [e]; rfl)).trans hh, h'⟩
theorem NetV.kept {w w' : World} {g base : Nat} {v : Value} {sent : Int} {xs : List (Int × Hd)} {bs : List (List Nat)} (h : NetV w g base v sent xs bs) (hg : w'.heap[g]? = w.heap[g]?) (hv : ∀ b, v.ownBlock = some b → w'.heap[b]? = w.heap[b]?) (hx : ∀ x ∈ xs, ∀ b, (SV x.2).ownBlock = some b → w'.heap[b]? = w.heap[b]?) : NetV w' g base v sent xs bs :=
  ⟨hg.trans h.box, own_kept h.row hv, ⟨h.own.1, fun i x l h1 h2 => ⟨(h.own.2 i x l h1 h2).1, own_kept (h.own.2 i x l h1 h2).2 fun b e => by
    obtain ⟨y, hy, rfl⟩ := List.mem_map.1 (List.mem_of_getElem? h1)
    exact hx y hy b e⟩⟩, h.bytes, h.ge⟩
theorem own_set {w : World} {B : Nat} {T : TypeId} {g n cap : Nat} {xs : List Value} (h : w.ownsRow B T 1 (.slice (some ⟨g, 0, none⟩) n cap) n xs) (i : Nat) (v : Value) :
    (w.setCell ⟨g, i, none⟩ v).ownsRow B T 1 (.slice (some ⟨g, 0, none⟩) n cap) n (xs.set i v) := by
  refine ⟨by simpa using h.1, .inr ?_⟩
  rcases h.2 with ⟨e, _⟩ | ⟨g', cap', cur, e, hB, hh, h1, h2, h3, h4⟩
  · cases e
  · cases e
    refine ⟨g, cap, _, rfl, hB, heap_setCell_same _ _ i _ _ _ hh, h1, h2, by simpa using h3, ?_⟩
    rw [← h4]
    simp [List.take_set]
/-- a net with nothing on its way: its block alone. -/
def Bare (w : World) (g : Nat) : Prop := w.heap[g]? = some (.cells #[NilV, .int .i64 0] NT (0, 0))
theorem Bare.net {w : World} {g : Nat} (h : Bare w g) : NetV w g g NilV 0 [] [] :=
  ⟨h, World.ownsRow_nil _ _ _ _, ⟨rfl, fun i x l h => by simp at h⟩, fun l h => (by cases h), Nat.le_refl _⟩
theorem Bare.lt {w : World} {g : Nat} (h : Bare w g) : g < w.heap.size := (Array.getElem?_eq_some_iff.1 h).1
theorem Bare.below {w w' : World} {g : Nat} (h : Bare w g) (hb : Below w.heap.size w w') : Bare w' g := (hb.block g h.lt).trans h
theorem Bare.only {w w' : World} {g g' base : Nat} {v : Value} {sent : Int} {xs : List (Int × Hd)} {bs : List (List Nat)} (h : Bare w g') (hN : NetV w g base v sent xs bs) (hO : OnlyN w w' g v) (hne : g' ≠ g) : Bare w' g' :=
  (hO.block g' h.lt hne (own_ne_box hN.row h (by decide))).trans h
theorem Bare.grown {w w' : World} {g : Nat} {r : Option Nat} (h : Bare w g) (hg : w.grownBy w' r) (hne : r ≠ some g) : Bare w' g := (hg.block g h.lt (fun e => hne e.symm)).trans h
theorem step_only {w0 w w' : World} {g base : Nat} {v : Value} {sent : Int} {xs : List (Int × Hd)} {bs : List (List Nat)} (hN : NetV w g base v sent xs bs) (hO : OnlyN w w' g v) (hb : Below w0.heap.size w0 w) (hg : w0.heap.size ≤ base) : Below w0.heap.size w0 w' :=
  hO.below hb hb.size (Nat.le_trans hg hN.ge) (fun b e => Nat.le_trans hg (hN.row.lt b e).1)
/-- bytes of one's own, whatever they are. -/
def Ink (w : World) (B : Nat) (a : Option Addr) (n c : Nat) : Prop := ∃ L, w.ownsRow B 5 1 (.slice a n c) n (L.map bv) ∧ Bytes L ∧ L.length = n
theorem Ink.only {w w' : World} {g base B : Nat} {v : Value} {sent : Int} {xs : List (Int × Hd)} {bs : List (List Nat)} {a : Option Addr} {n c : Nat} (h : Ink w B a n c) (hN : NetV w g base v sent xs bs) (hO : OnlyN w w' g v) : Ink w' B a n c := by
  obtain ⟨L, h, hB, hl⟩ := h
  refine ⟨L, own_kept h fun b e => hO.block b (h.lt b e).2 (fun e2 => own_ne_box h hN.box (by decide) (by rw [e, e2])) (fun e2 => ?_), hB, hl⟩
  rcases own_ne h hN.row (by decide) with k | k
  · rw [e] at k; cases k
  · exact k (by rw [e, e2])
theorem Ink.cell {w : World} {B : Nat} {a : Option Addr} {n c k : Nat} (h : Ink w B a n c) (hk : k < n) : ∃ g x, a = some ⟨g, 0, none⟩ ∧ B ≤ g ∧ x < 256 ∧ w.cell? ⟨g, k, none⟩ = some (.int .u8 (x : Nat)) ∧ w.frozen? ⟨g, k, none⟩ = false := by
  obtain ⟨L, h, hB, hl⟩ := h
  obtain ⟨ad', cap', e, hcase, _⟩ := ownsRow_parts h
  cases e
  rcases hcase with ⟨_, h0, _⟩ | ⟨g, rfl, h1, h2⟩
  · omega
  · refine ⟨g, L.getD k 0, rfl, h1, hB.getD k, ?_, h.frozenAt k⟩
    rw [h.cellAt k (by omega), bv_getD (by omega)]
theorem Ink.set {w : World} {B g n c : Nat} (h : Ink w B (some ⟨g, 0, none⟩) n c) (k : Nat) (x : Nat) (hx : x < 256) : Ink (w.setCell ⟨g, k, none⟩ (.int .u8 (x : Nat))) B (some ⟨g, 0, none⟩) n c := by
  obtain ⟨L, h, hB, hl⟩ := h
  refine ⟨L.set k x, ?_, ?_, by simpa using hl⟩
  · have := own_set h k (.int .u8 (x : Nat))
    rw [List.map_set]
    exact this
  · intro y hy
    rcases List.mem_or_eq_of_mem_set hy with h1 | h1
    · exact hB y h1
    · rw [h1]; exact hx
theorem Ink.apart {w : World} {g base B : Nat} {v : Value} {sent : Int} {xs : List (Int × Hd)} {bs : List (List Nat)} {a : Option Addr} {n c : Nat} (h : Ink w B a n c) (hN : NetV w g base v sent xs bs) : ∀ b, v.ownBlock = some b → (Value.slice a n c).ownBlock ≠ some b := by
  obtain ⟨L, h, hB, hl⟩ := h
  intro b e e2
  rcases own_ne hN.row h (by decide) with k | k
  · rw [e] at k; cases k
  · exact k (by rw [e, e2])
theorem xor_255 {x t : Nat} (hx : x < 256) (ht : t < 256) : x ^^^ t < 256 := Nat.xor_lt_two_pow (n := 8) hx ht

set_option maxRecDepth 100000 in
set_option maxHeartbeats 8000000 in
theorem netMemory_walk (a0 : Option Addr) (n0 c0 : Nat) (la : List Nat) (turn : Int) (w : World)
    (h1 : BytesV w (a0, n0, c0) la) (_s1 : n0 ≤ 140737488351232) (wt : (Lit.int .u8 turn).wf = true) :
    Calls Try.prog 7 #[.slice a0 n0 c0, .int .u8 turn] w fun e w' => e = .returned (.bool true) ∧ Below w.heap.size w w' := by
  have KA := alive_any
  have l1 : la.length = n0 := h1.length
  have L1 := Lib.hid l1
  have b1 := h1.bytes
  have s1 := h1.small
  simp only at s1
  obtain ⟨t0, t1⟩ := wf_u8 wt
  obtain ⟨t, rfl⟩ := Int.eq_ofNat_of_zero_le t0
  have ht : t < 256 := by omega
  have HA := Lib.hid h1
  clear l1 h1 t0 t1 wt
  go_enter Try.func7, Try.ntmps7
  go_wp2_with (go_at_call 8; (with_reducible refine (KA _).mono ?_); rintro e w1 ⟨rfl, hb1⟩)
  clear KA
  (with_reducible refine (new_any w1 w1.heap.size (Nat.le_refl _)).mono ?_)
  rintro e w2 ⟨rfl, hN2, b2⟩
  have hb2 := hb1.trans (b2.mono hb1.size)
  have hwg := hb1.size
  obtain ⟨g, hg⟩ : ∃ g, g = w1.heap.size := ⟨_, rfl⟩
  rw [← hg] at hN2 hwg ⊢
  clear hg b2 hb1
  go_wp2_with fail
  (with_reducible refine (new_any w2 w2.heap.size (Nat.le_refl _)).mono ?_)
  rintro e w3 ⟨rfl, hM3, b3⟩
  have hm3 : Bare w3 w2.heap.size := hM3.box
  have hgm3 := hm3.lt
  have hgm : g < w2.heap.size := hN2.lt
  have hN3 := hN2.below b3
  have hb3 := hb2.trans (b3.mono hb2.size)
  obtain ⟨gm, hgm'⟩ : ∃ gm, gm = w2.heap.size := ⟨_, rfl⟩
  rw [← hgm'] at hm3 hgm hgm3 ⊢
  clear hgm' b3 hN2 hb2 hM3
  go_wp2_with fail
  (with_reducible refine (copyBytes_any _ _ _ la _ (HA.out.below hb3)).mono ?_)
  rintro e w4 ⟨a4, c4, rfl, o4, b4⟩
  rw [L1.out] at o4 ⊢
  have hX4 := bytesV_of_owns o4 b1 s1
  have hI4 : Ink w4 w3.heap.size a4 n0 c4 := ⟨la, o4, b1, L1.out⟩
  have hN4 := hN3.below b4
  have hm4 := hm3.below b4
  have hb4 := hb3.trans (b4.mono hb3.size)
  have hlo := fun b e => o4.lt b e
  clear b4 hN3 hm3 o4
  have hs3 := hb3.size
  have KS := send_any g g _ _ _ _ 1 (a4, n0, c4) la _ hN4 hX4 (by simp) (by have := hN4.lt; omega) (by omega) (by omega)
  unfold SV at KS
  simp only at KS
  go_wp2_with fail
  (with_reducible refine KS.mono ?_)
  rintro e w5 ⟨rfl, v5, x5, hN5, hO5, hF5, oX5⟩
  have hI5 := hI4.only hN4 hO5
  have hm5 := hm4.only hN4 hO5 (by omega)
  have hb5 := step_only hN4 hO5 hb4 hwg
  have hx5 := fun b e => (oX5.lt b e).1
  rw [show (0 : Int) + 1 = 1 from rfl] at hN5
  simp only [List.nil_append] at hN5
  have hgw4 := hN4.lt
  have hs4 := hO5.size
  clear KS hN4 hX4 hI4 hm4 hb4 hO5 hF5 oX5
  go_wp2
  have J5 : Ink w5 w3.heap.size a4 n0 c4 ∧ w5.grownBy w5 (Value.slice a4 n0 c4).ownBlock := ⟨hI5, World.grownBy_refl _ _⟩
  have hs5 := hb5.size
  have hvne := hI5.apart hN5
  clear hI5
  go_loopw [8] (fun i wr => ∃ k : Nat, k ≤ n0 ∧ i = .int .i64 k ∧ Ink wr w3.heap.size a4 n0 c4 ∧ w5.grownBy wr (Value.slice a4 n0 c4).ownBlock) (fun i _ => n0 - (intOf i).toNat)
  case atStart => exact ⟨0, Nat.zero_le _, rfl, J5⟩
  case round =>
    clear J5
    obtain ⟨k, hk, rfl, hI, hG⟩ := hrel
    by_cases hlt : k < n0
    · obtain ⟨go, x, rfl, hgo, hx, e0, e1⟩ := hI.cell hlt
      have hq := u8_xor_nat x t hx ht
      have hy := xor_255 hx ht
      obtain ⟨y, hyy⟩ : ∃ y, y = x ^^^ t := ⟨_, rfl⟩
      rw [← hyy] at hq hy
      have hI' := hI.set k y hy
      have hG' : w5.grownBy (wr.setCell ⟨go, k, none⟩ (.int .u8 (y : Nat))) (some go) := grownBy_trans hG (grown_set wr go k _)
      clear hyy hI hG
      go_wp2
      go_roundw
      case rel => exact ⟨k + 1, by omega, by go_num, hI', hG'⟩
      case measure => simp [intOf]; omega
    · obtain rfl : k = n0 := by omega
      clear hk hlt hI
      have hx5lt := fun b e => ((hN5.own.2 0 x5 la rfl rfl).2.lt b e).2
      have hN6 := hN5.kept (hG.block g hN5.lt (fun e => by have := (hlo g e.symm).1; omega)) (fun b e => hG.block b (hN5.row.lt b e).2 (fun e2 => hvne b e e2.symm)) (fun z hz b e => by
          obtain rfl : z = (1, x5) := by simpa using hz
          exact hG.block b (hx5lt b e) (fun e2 => by have := (hlo b e2.symm).2; have := hx5 b e; omega))
      have hm6 := hm5.grown hG (fun e => by have := (hlo gm e).1; omega)
      have hb6 := hb5.grown hG hs5 (fun b e => by have := (hlo b e).1; omega)
      have hs6 := hG.size
      have hs45 : w4.heap.size ≤ wr.heap.size := Nat.le_trans hs4 hs6
      clear hG hN5 hm5 hb5 hvne hlo hs5 hs4 hx5lt
      have KS := double_yes g g _ _ _ _ 0 (1, x5) la _ hN6 rfl rfl (by simp) (by have := hN6.lt; omega) (by omega) (by omega)
      rw [show ((0 : Nat) : Int) = 0 from rfl] at KS
      go_wp2_with fail
      (with_reducible refine KS.mono ?_)
      rintro e w7 ⟨rfl, v7, x7, hN7, hO7, hF7, oX7⟩
      rw [show (1 : Int) + 1 = 2 from rfl] at hN7
      simp only [List.cons_append, List.nil_append] at hN7
      have hm7 := hm6.only hN6 hO7 (by omega)
      have hb7 := step_only hN6 hO7 hb6 hwg
      have hx56 := fun b e => ((hN6.own.2 0 x5 la rfl rfl).2.lt b e).2
      have hx7 := fun b e => (oX7.lt b e).1
      clear KS hN6 hm6 hb6 hO7 hF7 oX7
      obtain ⟨a5, n5, c5⟩ := x5
      have KS := take_yes g g _ _ _ _ 0 (1, a5, n5, c5) la _ hN7 (by simp) rfl rfl
      rw [show ((0 : Nat) : Int) = 0 from rfl] at KS
      unfold SV at KS
      simp only at KS
      go_wp2_with fail
      (with_reducible refine KS.mono ?_)
      rintro e w8 ⟨rfl, v8, hN8, hO8, hF8, ho8, hn5, -, -⟩
      simp only [List.eraseIdx_cons_zero] at hN8
      simp only at hn5
      rw [L1.out] at hn5
      subst hn5
      unfold SV at ho8
      simp only at ho8
      rw [L1.out] at ho8
      have hm8 := hm7.only hN7 hO8 (by omega)
      have hb8 := step_only hN7 hO8 hb7 hwg
      have hX8 := bytesV_of_owns ho8 b1 s1
      have hI8 : Ink w8 g a5 n5 c5 := ⟨la, ho8, b1, L1.out⟩
      clear KS hN7 hm7 hb7 hO8 hF8 ho8
      clear hx5 hgw4 hs6 hs45 hb3
      go_wp2_with fail
      (with_reducible refine (sameBytes_any _ _ _ la _ _ _ la _ hX8 (HA.out.below hb8)).mono ?_)
      rw [decide_eq_true rfl]
      rintro e w9 ⟨rfl, b9⟩
      have hN9 := hN8.below b9
      have hm9 := hm8.below b9
      have hb9 := hb8.trans (b9.mono hb8.size)
      have hI9 : Ink w9 g a5 n5 c5 := by
        obtain ⟨L, h, hB, hl⟩ := hI8
        exact ⟨L, h.kept (grownBy_of_below b9 none) (by cases (Value.slice a5 n5 c5).ownBlock <;> simp), hB, hl⟩
      clear hN8 hm8 hb8 hI8 hX8 b9
      have hs9 := hb9.size
      have hvne := hI9.apart hN9
      have hgne : (Value.slice a5 n5 c5).ownBlock ≠ some g := by
        obtain ⟨L, h, hB, hl⟩ := hI9
        exact own_ne_box h hN9.box (by decide)
      have hmne : (Value.slice a5 n5 c5).ownBlock ≠ some gm := by
        obtain ⟨L, h, hB, hl⟩ := hI9
        exact own_ne_box h hm9 (by decide)
      have hge : ∀ b, (Value.slice a5 n5 c5).ownBlock = some b → g ≤ b := by
        obtain ⟨L, h, hB, hl⟩ := hI9
        exact fun b e => (h.lt b e).1
      have J9 : Ink w9 g a5 n5 c5 ∧ w9.grownBy w9 (Value.slice a5 n5 c5).ownBlock := ⟨hI9, World.grownBy_refl _ _⟩
      clear hI9
      go_wp2
      go_loopw [12] (fun i wr => ∃ k : Nat, k ≤ n5 ∧ i = .int .i64 k ∧ Ink wr g a5 n5 c5 ∧ w9.grownBy wr (Value.slice a5 n5 c5).ownBlock) (fun i _ => n5 - (intOf i).toNat)
      case atStart => exact ⟨0, Nat.zero_le _, rfl, J9⟩
      case round =>
        clear J9
        obtain ⟨k, hk, rfl, hI, hG⟩ := hrel
        by_cases hlt : k < n5
        · obtain ⟨go, x, rfl, hgo, hx, e0, e1⟩ := hI.cell hlt
          have hq := u8_xor_nat x 255 hx (by omega)
          have hy := xor_255 hx (show 255 < 256 by omega)
          obtain ⟨y, hyy⟩ : ∃ y, y = x ^^^ 255 := ⟨_, rfl⟩
          rw [← hyy] at hq hy
          rw [show ((255 : Nat) : Int) = 255 from rfl] at hq
          have hI' := hI.set k y hy
          have hG' : w9.grownBy (World.setCell _ ⟨go, k, none⟩ (.int .u8 (y : Nat))) (some go) := grownBy_trans hG (grown_set _ go k _)
          clear hyy hI hG
          go_wp2
          go_roundw
          case rel => exact ⟨k + 1, by omega, by go_num, hI', hG'⟩
          case measure => simp [intOf]; omega
        · obtain rfl : k = n5 := by omega
          clear hk hlt hI
          have hx7lt := fun b e => ((hN9.own.2 0 x7 la rfl rfl).2.lt b e).2
          have hNa := hN9.kept (hG.block g hN9.lt (fun e => hgne e.symm)) (fun b e => hG.block b (hN9.row.lt b e).2 (fun e2 => hvne b e e2.symm)) (fun z hz b e => by
              obtain rfl : z = (1, x7) := by simpa using hz
              exact hG.block b (hx7lt b e) (fun e2 => by have := hx56 b e2.symm; have := hx7 b e; omega))
          have hma := hm9.grown hG hmne
          have hba := hb9.grown hG hs9 (fun b e => Nat.le_trans hwg (hge b e))
          clear hG hN9 hm9 hb9 hvne hgne hmne hge hx7lt hx56 hx7 hs9
          have KF := flight_any g g _ _ _ _ _ hNa (by simp)
          rw [show tos [((1 : Int), x7)] = [1] from rfl] at KF
          go_wp2_with fail
          (with_reducible refine KF.mono ?_)
          rintro e w11 ⟨af, cf, rfl, hf, b11⟩
          simp only [List.length_cons, List.length_nil, Nat.zero_add] at hf ⊢
          clear KF
          obtain ⟨gf, rfl, hgf, f0, f1⟩ : ∃ gf, af = some ⟨gf, 0, none⟩ ∧ wr.heap.size ≤ gf ∧ w11.cell? ⟨gf, 0, none⟩ = some (.int .i64 1) ∧ w11.frozen? ⟨gf, 0, none⟩ = false := by
            obtain ⟨_, _, e, hc, _⟩ := ownsRow_parts hf
            cases e
            rcases hc with ⟨_, h, _⟩ | ⟨gf, rfl, h, _⟩
            · omega
            · exact ⟨gf, rfl, h, hf.cellAt 0 (by omega), hf.frozenAt 0⟩
          have b12 := b11.setCell (p := ⟨gf, 0, none⟩) hgf (.int .i64 77)
          have hNb := hNa.below b12
          have hmb := hma.below b12
          have hbb := hba.trans (b12.mono hba.size)
          clear hNa hma hba b11 b12 hf
          obtain ⟨a7, n7, c7⟩ := x7
          have KS := take_yes g g _ _ _ _ 0 (1, a7, n7, c7) la _ hNb (by simp) rfl rfl
          rw [show ((0 : Nat) : Int) = 0 from rfl] at KS
          unfold SV at KS
          simp only at KS
          go_wp2_with fail
          (with_reducible refine KS.mono ?_)
          rintro e w13 ⟨rfl, v13, hN13, hO13, hF13, ho13, hn13, -, -⟩
          simp only at hn13
          rw [L1.out] at hn13
          subst hn13
          unfold SV at ho13
          simp only at ho13
          rw [L1.out] at ho13
          have hm13 := hmb.only hNb hO13 (by omega)
          have hb13 := step_only hNb hO13 hbb hwg
          have hX13 := bytesV_of_owns ho13 b1 s1
          clear KS hNb hmb hbb hO13 hF13 ho13 hN13
          go_wp2_with fail
          (with_reducible refine (sameBytes_any _ _ _ la _ _ _ la _ hX13 (HA.out.below hb13)).mono ?_)
          rw [decide_eq_true rfl]
          rintro e w14 ⟨rfl, b14⟩
          have hm14 := hm13.below b14
          have hb14 := hb13.trans (b14.mono hb13.size)
          clear hm13 hb13 b14 hX13
          have KF := flight_any gm gm _ _ _ _ _ hm14.net (by simp)
          rw [show tos [] = [] from rfl] at KF
          go_wp2_with fail
          (with_reducible refine KF.mono ?_)
          rintro e w15 ⟨af2, cf2, rfl, hf2, b15⟩
          have hm15 := hm14.below b15
          have hb15 := hb14.trans (b15.mono hb14.size)
          clear KF hm14 hb14 b15 hf2
          simp only [List.length_nil]
          go_wp2_with fail
          (with_reducible refine (sent_any gm gm _ _ _ _ _ hm15.net).mono ?_)
          rintro e w16 ⟨rfl, rfl⟩
          go_wp2
          go_ret
          exact ⟨by simp, hb15⟩
end Go.Proofs.Ytbkbkhinpeoflaa
