/-
  rilllaw01: GfMemory.
-/
import Derived.Test.YtlclalcdijphoaaGfH
namespace Go.Proofs.Ytlclalcdijphoaa
open Go.RowKit

theorem addB_nil {l : List Nat} : addB l [] = l := by
  apply ext_getD
  · rw [addB_length]; simp
  · intro i _; rw [addB_getD]; simp
theorem mix_one {l : List Nat} (h : Bytes l) : mixTo [1] [l] (longest [l] 1) 1 = l := by
  rw [mix_scale]
  apply ext_getD
  · rw [scaleB_length]
  · intro i _; rw [scaleB_getD, one_mul (h.getD i)]

/-- Bytes that may be written. -/
def BC (w : World) (g n : Nat) : Prop := ∀ i, i < n → (∃ b : Nat, b < 256 ∧ w.cell? ⟨g, i, none⟩ = some (.int .u8 (b : Nat))) ∧ w.frozen? ⟨g, i, none⟩ = false
theorem BC.setCell {w : World} {g n : Nat} (h : BC w g n) (g' i : Nat) (b : Nat) (hb : b < 256) : BC (w.setCell ⟨g', i, none⟩ (.int .u8 (b : Nat))) g n := by
  intro j hj
  obtain ⟨⟨c, hc, hcell⟩, hf⟩ := h j hj
  have hlt := block_lt_of_cell hcell
  simp only at hlt
  by_cases e : g = g'
  · subst e
    cases hg : w.heap[g]? with
    | none => simp [World.cell?, hg] at hcell
    | some o =>
      cases o with
      | cells cs t fr =>
        have h1 : (w.setCell ⟨g, i, none⟩ (.int .u8 (b : Nat))).heap[g]? = some (.cells (cs.setIfInBounds i (.int .u8 (b : Nat))) t fr) := by
          rw [setCell_eq_setRow w g i cs t fr _ hg]
          exact setRow_heap w g cs _ t fr hg
        refine ⟨?_, by simpa [World.frozen?, h1, hg] using hf⟩
        rw [cell_of_row _ _ _ _ _ _ h1, Array.getElem?_setIfInBounds]
        rw [cell_of_row _ _ _ _ _ _ hg] at hcell
        split
        · rename_i e
          subst e
          split
          · exact ⟨b, hb, rfl⟩
          · rename_i hn
            rw [Array.getElem?_eq_none (by omega)] at hcell
            cases hcell
        · exact ⟨c, hc, hcell⟩
      | _ => simp [World.cell?, hg] at hcell
  · have h1 := heap_setCell_other w ⟨g', i, none⟩ g (.int .u8 (b : Nat)) e
    exact ⟨⟨c, hc, (World.cell?_of_block (a := ⟨g, j, none⟩) h1).trans hcell⟩, (World.frozen?_of_block (a := ⟨g, j, none⟩) h1).trans hf⟩
theorem bc_of_owns {w : World} {base : Nat} {T : TypeId} {ad : Option Addr} {n cap : Nat} {l : List Nat} (h : w.ownsRow base T 1 (.slice ad n cap) n (l.map bv)) (hl : Bytes l) (hn : 0 < n) : ∃ g, ad = some ⟨g, 0, none⟩ ∧ base ≤ g ∧ g < w.heap.size ∧ BC w g n := by
  obtain ⟨ad', cap', e, hcase, _⟩ := ownsRow_parts h
  cases e
  rcases hcase with ⟨_, h0, _⟩ | ⟨g, rfl, h1, h2⟩
  · omega
  · refine ⟨g, rfl, h1, h2, fun i hi => ⟨⟨l.getD i 0, hl.getD i, ?_⟩, h.frozenAt i⟩⟩
    rw [h.cellAt i (by omega), bv_getD (by have := h.1; simp at this; omega)]
theorem BC.below {w w' : World} {g n : Nat} (h : BC w g n) (hb : Below w.heap.size w w') : BC w' g n := by
  intro i hi
  obtain ⟨⟨b, h1, h2⟩, h3⟩ := h i hi
  have hlt := block_lt_of_cell h2
  exact ⟨⟨b, h1, (hb.cell (p := ⟨g, i, none⟩) hlt).trans h2⟩, (hb.frozen (p := ⟨g, i, none⟩) hlt).trans h3⟩

set_option maxRecDepth 10000 in
set_option maxHeartbeats 2000000 in
theorem gfMemory_walk (k' : Int) (a1 : Option Addr) (n1 c1 : Nat) (la : List Nat) (w : World) (wk : (Lit.int .u8 k').wf = true) (h1 : BytesV w (a1, n1, c1) la) (_s1 : n1 ≤ 140737488351232) :
    Calls Try.prog 9 #[.int .u8 k', .slice a1 n1 c1] w fun e w' => e = .returned (.bool true) ∧ Below w.heap.size w w' := by
  obtain ⟨k0, k1⟩ := wf_u8 wk
  obtain ⟨k, rfl⟩ := Int.eq_ofNat_of_zero_le k0
  have hk : k < 256 := by omega
  have ba := h1.bytes
  have na : la.length = n1 := h1.length
  have sa : la.length ≤ 140737488355328 := by rw [h1.length]; exact h1.small
  have hn1 : n1 ≤ 140737488355328 := h1.small
  have NA := Lib.hid na
  have bsa := scaleB_bytes (a := la) hk
  have nsa : (scaleB k la).length = n1 := by rw [scaleB_length, na]
  have NSA := Lib.hid nsa
  clear na nsa
  go_enter Try.func9, Try.ntmps9
  go_wp2_with fail
  refine (alive1 w).mono ?_
  rintro e w0 ⟨rfl, hb⟩
  replace h1 := h1.below hb
  go_wp2_with fail
  (with_reducible refine (copyBytes_any _ _ _ la _ h1).mono ?_)
  rintro e w1 ⟨a2, c2, rfl, o2, b2⟩
  rw [NA.out] at o2 ⊢
  have h2 := bytesV_of_owns o2 ba hn1
  replace h1 := h1.below b2
  replace hb := hb.trans (b2.mono hb.size)
  clear o2 b2
  go_wp2_with fail
  (with_reducible refine (scale_any k _ _ _ _ _ hk h2).mono ?_)
  rintro e w2 ⟨ax, cx, rfl, ox, bx⟩
  rw [NSA.out] at ox ⊢
  go_wp2_with fail
  (with_reducible refine (add_any a2 n1 c2 la none 0 0 [] _ (h2.below bx) (bytesV_nil _)).mono ?_)
  rintro e w3 ⟨ay, cy, rfl, oy, bby⟩
  rw [addB_nil, NA.out] at oy
  rw [addB_nil, NA.out]
  have hbxy := bx.trans (bby.mono bx.size)
  have h2y := h2.below hbxy
  have hks := rowV_lit w3 #[.int .u8 1] 5 w3.heap.size 1 ([1].map bv) rfl rfl rfl
  have hks2 := hks.alloc (o := .cells #[.slice a2 n1 c2] 33)
  have hvs := rowV_lit (w3.alloc (.cells #[.int .u8 1] 5)) #[.slice a2 n1 c2] 33 (w3.heap.size + 1) 1 ([(a2, n1, c2)].map SV) (by simp) rfl rfl
  go_wp2_with fail
  (with_reducible refine (mix_any _ 1 1 [1] _ 1 1 [(a2, n1, c2)] [la] _ hks2 (bytes_of (by decide)) (by omega) hvs (by omega) (rowsV_cons h2y.alloc.alloc (rowsV_nil _))).mono ?_)
  rintro e w4 ⟨rfl, oz, bz⟩
  have hL : longest [la] 1 = n1 := by simp [longest, NA.out]
  rw [mix_one ba, hL] at oz
  rw [hL]
  simp only [World.size_alloc] at oz bz
  clear hks hks2 hvs hL h2y
  have hb3 := below_alloc w3 (.cells #[.int .u8 1] 5)
  have hbz : Below w3.heap.size w3 w4 := ((below_alloc w3 (.cells #[.int .u8 1] 5)).alloc (by simp) (.cells #[.slice a2 n1 c2] 33)).trans (bz.mono (by omega))
  clear hb3 bz
  have hall := hbxy.trans (hbz.mono hbxy.size)
  by_cases hn0 : n1 = 0
  · subst hn0
    clear ox oy oz bx bby hbz hbxy
    go_wp2
    go_loopw [9] (fun i wr => i = .int .i64 0 ∧ Below w1.heap.size w1 wr) (fun i _ => 0)
    case atStart => exact ⟨rfl, hall⟩
    case round =>
      obtain ⟨rfl, hbr⟩ := hrel
      clear hall
      replace h1 := h1.below hbr
      replace h2 := h2.below hbr
      replace hb := hb.trans (hbr.mono hb.size)
      clear hbr
      go_wp2_with fail
      (with_reducible refine (sameBytes_any _ _ _ _ _ _ _ _ _ h2 h1).mono ?_)
      rintro e w21 ⟨rfl, b21⟩
      rw [decide_eq_true (rfl)]
      replace h1 := h1.below b21
      replace h2 := h2.below b21
      replace hb := hb.trans (b21.mono hb.size)
      clear b21
      go_wp2_with fail
      (with_reducible refine (add_any a2 _ c2 la none 0 0 [] _ h2 (bytesV_nil _)).mono ?_)
      rintro e w22 ⟨a22, c22, rfl, o22, b22⟩
      rw [addB_nil] at o22
      rw [addB_nil]
      have h22 := gives_reads o22 ba sa
      replace h1 := h1.below b22
      replace h2 := h2.below b22
      replace hb := hb.trans (b22.mono hb.size)
      clear o22 b22
      go_wp2_with fail
      (with_reducible refine (sameBytes_any _ _ _ _ _ _ _ _ _ h22 h1).mono ?_)
      rintro e w23 ⟨rfl, b23⟩
      rw [decide_eq_true (rfl)]
      replace h1 := h1.below b23
      replace h2 := h2.below b23
      replace h22 := h22.below b23
      replace hb := hb.trans (b23.mono hb.size)
      clear b23
      clear h22
      go_wp2_with fail
      (with_reducible refine (scale_any k _ _ _ _ _ hk h2).mono ?_)
      rintro e w24 ⟨a24, c24, rfl, o24, b24⟩
      have h24 := gives_reads o24 bsa (by rw [scaleB_length]; exact sa)
      replace h1 := h1.below b24
      replace h2 := h2.below b24
      replace hb := hb.trans (b24.mono hb.size)
      clear o24 b24
      go_wp2_with fail
      (with_reducible refine (refScale_any k _ _ _ _ _ hk h1).mono ?_)
      rintro e w25 ⟨a25, c25, rfl, o25, b25⟩
      have h25 := gives_reads o25 bsa (by rw [scaleB_length]; exact sa)
      replace h1 := h1.below b25
      replace h2 := h2.below b25
      replace h24 := h24.below b25
      replace hb := hb.trans (b25.mono hb.size)
      clear o25 b25
      go_wp2_with fail
      (with_reducible refine (sameBytes_any _ _ _ _ _ _ _ _ _ h24 h25).mono ?_)
      rintro e w26 ⟨rfl, b26⟩
      rw [decide_eq_true (rfl)]
      replace h1 := h1.below b26
      replace h2 := h2.below b26
      replace h24 := h24.below b26
      replace h25 := h25.below b26
      replace hb := hb.trans (b26.mono hb.size)
      clear b26
      go_wp2
      go_ret
      exact ⟨rfl, hb⟩
  · obtain ⟨gx, rfl, gx1, gx2, cx1⟩ := bc_of_owns ox bsa (by omega)
    obtain ⟨gy, rfl, gy1, gy2, cy1⟩ := bc_of_owns oy ba (by omega)
    obtain ⟨gz, hgz, gz1, gz2, cz1⟩ := bc_of_owns oz ba (by omega)
    cases hgz
    replace cx1 := (cx1.below bby).below hbz
    replace cy1 := cy1.below hbz
    have sx := bx.size
    have sy := bby.size
    have sz := hbz.size
    clear ox oy oz bx bby hbz
    go_wp2
    go_loopw [9] (fun i wr => ∃ j : Nat, j ≤ n1 ∧ i = .int .i64 j ∧ BC wr gx n1 ∧ BC wr gy n1 ∧ BC wr (w3.heap.size + 1 + 1) n1 ∧ Below w1.heap.size w1 wr) (fun i _ => (n1 - intOf i).toNat)
    case atStart => exact ⟨0, by omega, rfl, cx1, cy1, cz1, hall⟩
    case round =>
      obtain ⟨j, hj, rfl, dx, dy, dz, hbr⟩ := hrel
      by_cases hlt : j < n1
      · obtain ⟨⟨x, x1, x2⟩, x3⟩ := dx j hlt
        obtain ⟨⟨y, y1, y2⟩, y3⟩ := dy j hlt
        obtain ⟨⟨z, z1, z2⟩, z3⟩ := dz j hlt
        have ex : bits .xor .u8 (x : Int) 255 = ((x ^^^ 255 : Nat) : Int) := u8_xor_nat x 255 x1 (by omega)
        have ey : bits .xor .u8 (y : Int) 255 = ((y ^^^ 255 : Nat) : Int) := u8_xor_nat y 255 y1 (by omega)
        have ez : bits .xor .u8 (z : Int) 255 = ((z ^^^ 255 : Nat) : Int) := u8_xor_nat z 255 z1 (by omega)
        have lx := xor_lt x1 (show 255 < 256 by omega)
        have ly := xor_lt y1 (show 255 < 256 by omega)
        have lz := xor_lt z1 (show 255 < 256 by omega)
        have n12 : gx ≠ gy := by omega
        have n13 : gx ≠ w3.heap.size + 1 + 1 := by omega
        have n23 : gy ≠ w3.heap.size + 1 + 1 := by omega
        go_wp2
        go_roundw
        case rel =>
          refine ⟨j + 1, by omega, by go_num, ?_, ?_, ?_, ?_⟩
          · exact ((dx.setCell gx j _ lx).setCell gy j _ ly).setCell _ j _ lz
          · exact ((dy.setCell gx j _ lx).setCell gy j _ ly).setCell _ j _ lz
          · exact ((dz.setCell gx j _ lx).setCell gy j _ ly).setCell _ j _ lz
          · exact ((hbr.setCell (p := ⟨gx, j, none⟩) (by simpa using gx1) _).setCell (p := ⟨gy, j, none⟩) (by simp; omega) _).setCell (p := ⟨_, j, none⟩) (by simp; omega) _
        case measure => simp [intOf]; omega
      · clear dx dy dz cx1 cy1 cz1 hall gx1 gx2 gy1 gy2 gz1 gz2 sx sy sz
        replace h1 := h1.below hbr
        replace h2 := h2.below hbr
        replace hb := hb.trans (hbr.mono hb.size)
        clear hbr
        go_wp2_with fail
        (with_reducible refine (sameBytes_any _ _ _ _ _ _ _ _ _ h2 h1).mono ?_)
        rintro e w21 ⟨rfl, b21⟩
        rw [decide_eq_true (rfl)]
        replace h1 := h1.below b21
        replace h2 := h2.below b21
        replace hb := hb.trans (b21.mono hb.size)
        clear b21
        go_wp2_with fail
        (with_reducible refine (add_any a2 _ c2 la none 0 0 [] _ h2 (bytesV_nil _)).mono ?_)
        rintro e w22 ⟨a22, c22, rfl, o22, b22⟩
        rw [addB_nil] at o22
        rw [addB_nil]
        have h22 := gives_reads o22 ba sa
        replace h1 := h1.below b22
        replace h2 := h2.below b22
        replace hb := hb.trans (b22.mono hb.size)
        clear o22 b22
        go_wp2_with fail
        (with_reducible refine (sameBytes_any _ _ _ _ _ _ _ _ _ h22 h1).mono ?_)
        rintro e w23 ⟨rfl, b23⟩
        rw [decide_eq_true (rfl)]
        replace h1 := h1.below b23
        replace h2 := h2.below b23
        replace h22 := h22.below b23
        replace hb := hb.trans (b23.mono hb.size)
        clear b23
        clear h22
        go_wp2_with fail
        (with_reducible refine (scale_any k _ _ _ _ _ hk h2).mono ?_)
        rintro e w24 ⟨a24, c24, rfl, o24, b24⟩
        have h24 := gives_reads o24 bsa (by rw [scaleB_length]; exact sa)
        replace h1 := h1.below b24
        replace h2 := h2.below b24
        replace hb := hb.trans (b24.mono hb.size)
        clear o24 b24
        go_wp2_with fail
        (with_reducible refine (refScale_any k _ _ _ _ _ hk h1).mono ?_)
        rintro e w25 ⟨a25, c25, rfl, o25, b25⟩
        have h25 := gives_reads o25 bsa (by rw [scaleB_length]; exact sa)
        replace h1 := h1.below b25
        replace h2 := h2.below b25
        replace h24 := h24.below b25
        replace hb := hb.trans (b25.mono hb.size)
        clear o25 b25
        go_wp2_with fail
        (with_reducible refine (sameBytes_any _ _ _ _ _ _ _ _ _ h24 h25).mono ?_)
        rintro e w26 ⟨rfl, b26⟩
        rw [decide_eq_true (rfl)]
        replace h1 := h1.below b26
        replace h2 := h2.below b26
        replace h24 := h24.below b26
        replace h25 := h25.below b26
        replace hb := hb.trans (b26.mono hb.size)
        clear b26
        go_wp2
        go_ret
        exact ⟨rfl, hb⟩
end Go.Proofs.Ytlclalcdijphoaa
