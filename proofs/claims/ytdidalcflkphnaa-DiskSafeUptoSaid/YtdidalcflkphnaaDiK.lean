/-
  disk: Write.
-/
import Derived.Test.YtdidalcflkphnaaDiJ
import Derived.Deep.RegionHeld3
namespace Go.Proofs.Ytdidalcflkphnaa
open Go.RowKit

theorem DiskM.gr {w : World} {F : Nat → Prop} {g : Nat} {d : DV} (h : DiskM w F g d) : DiskM w (Gr F w w) g d := by
  obtain ⟨FL, FS, sa, rd, sh, hs, h1, h2, h3, h4, h5, h6, h7, h8, h9⟩ := h
  exact ⟨FL, FS, sa, rd, sh, hs, h1, h2, h3, fun b hb => ⟨.inl (h4 b hb).1, (h4 b hb).2⟩, fun b hb => ⟨.inl (h5 b hb).1, (h5 b hb).2⟩, .inl h6, fun b hb => by rcases hb with q | q; exact h7 b q; omega, h8, h9⟩
theorem cell_set_ne {w : World} {b g i j : Nat} {v u : Value} (hne : b ≠ g) (h : w.cell? ⟨g, j, none⟩ = some u) : (w.setCell ⟨b, i, none⟩ v).cell? ⟨g, j, none⟩ = some u :=
  (World.cell?_of_block (w := w) (w' := w.setCell ⟨b, i, none⟩ v) (a := ⟨g, j, none⟩) (heap_setCell_other _ ⟨b, i, none⟩ g _ (fun e => by simp only at e; omega))).trans h
def writeV (d : DV) (i : Int) (l : List Nat) : DV × Int :=
  if 0 ≤ i ∧ i < (d.sl.length : Int) then
    if 64 < l.length then (d, 41) else if d.pow = 0 then (d, 81)
    else ({ d with pow := (spendV d.pow).1, sl := d.sl.set i.toNat ((d.sl.getD i.toNat ([], [], false)).1, l, true) }, 0)
  else (d, 80)
set_option maxRecDepth 100000 in
set_option maxHeartbeats 4000000 in
theorem write_any (F : Nat → Prop) (g : Nat) (d : DV) (i : Int) (ba : Option Addr) (bn bc : Nat) (l : List Nat) (w : World) (hD : DiskM w F g d) (hb : BytesV w (ba, bn, bc) l) (hbF : 0 < bn → ∀ b, (SV (ba, bn, bc)).ownBlock = some b → ¬ F b) :
    Calls Try.prog 23 #[.pointer (some ⟨g, 0, none⟩), .int .i64 i, .slice ba bn bc] w fun e w' => e = .returned (.int .i64 (writeV d i l).2) ∧ DiskM w' (Gr F w w') g (writeV d i l).1 ∧ ChF F w w' := by
  have HD := Lib.hid hD
  obtain ⟨FL, FS, sa, rd, sh, hs', h1, h2, h3, h4, h5, h6, h7, h8, h9⟩ := hD
  obtain ⟨c0, -, -, -, -, c5, cF⟩ := cells6D h1
  have KS := spend_any g d.pow w c0 (cF 0) h9
  have hl := h3.len
  have hbl : l.length = bn := hb.length
  have HB := Lib.hid hb
  have HBF := Lib.hid hbF
  obtain ⟨s1, s2, s3⟩ := sh
  have KH := has_any g i s1 s2 s3 w c5
  simp only at hl
  rw [hl] at KH
  clear h1 h2 h3 h4 h5 h6 h7 h8 h9 c0 c5 cF hb hbF hl
  unfold writeV
  by_cases hi : 0 ≤ i ∧ i < (d.sl.length : Int)
  · rw [if_pos hi]
    rw [decide_eq_true hi] at KH
    by_cases hlen : 64 < l.length
    · rw [if_pos hlen]
      have hln : (64 : Int) < (bn : Int) := by omega
      go_enter Try.func23, Try.ntmps23
      go_wp2_with fail
      (with_reducible refine KH.mono ?_)
      rintro e w1 ⟨rfl, hw⟩
      subst hw
      clear KH KS
      go_wp2
      go_ret
      exact ⟨rfl, HD.out.gr, .refl _ _⟩
    · rw [if_neg hlen]
      have hln : ¬ (64 : Int) < (bn : Int) := by omega
      by_cases h0 : d.pow = 0
      · rw [h0, spend_none] at KS
        rw [if_pos h0]
        go_enter Try.func23, Try.ntmps23
        go_wp2_with fail
        (with_reducible refine KH.mono ?_)
        rintro e w1 ⟨rfl, hw⟩
        subst hw
        clear KH
        go_wp2_with fail
        (with_reducible refine KS.mono ?_)
        rintro e w1 ⟨rfl, hw⟩
        rw [if_neg (by decide)] at hw
        subst hw
        clear KS
        go_wp2
        go_ret
        exact ⟨rfl, HD.out.gr, .refl _ _⟩
      · rw [spend_ok h0] at KS
        rw [if_neg h0]
        go_enter Try.func23, Try.ntmps23
        go_wp2_with fail
        (with_reducible refine KH.mono ?_)
        rintro e w0 ⟨rfl, hw⟩
        subst hw
        clear KH
        go_wp2_with fail
        (with_reducible refine KS.mono ?_)
        rintro e w1 ⟨rfl, hw⟩
        obtain ⟨hd1, hc1, hsz⟩ := spent HD.out h0 w1 hw
        clear KS hw
        obtain ⟨FL, FS, sa, rd, sh, hs, h1, h2, h3, h4, h5, h6, h7, h8, h9⟩ := hd1
        simp only at h1 h2 h3 h8 h9
        obtain ⟨-, -, -, -, -, c5, cF⟩ := cells6D h1
        obtain ⟨hi0, hi1⟩ := hi
        obtain ⟨k, rfl⟩ : ∃ k : Nat, i = k := ⟨i.toNat, by omega⟩
        have hk : k < d.sl.length := by omega
        obtain ⟨b, c, x, rfl, hc, hx, -, x1, x2, xF⟩ := h3.at hk
        obtain ⟨cur, hblk⟩ := h3.block
        have hgl := h7 g h6
        have hbl2 := (Array.getElem?_eq_some_iff.1 hblk).1
        obtain ⟨o, ho⟩ : ∃ o, o = 0 := ⟨0, rfl⟩
        have HX := Lib.hid hx
        have H1 := Lib.hid h1
        have H2 := Lib.hid h2
        have H3 := Lib.hid h3
        have H4 := Lib.hid h4
        have H5 := Lib.hid h5
        have H7 := Lib.hid h7
        have HC1 := Lib.hid hc1
        have HBV := Lib.hid (HB.out.ofChF hc1 HBF.out)
        obtain ⟨N, hN⟩ : ∃ N, N = d.sl.length := ⟨_, rfl⟩
        rw [← hN] at c5 hk hi1 hc
        rw [← ho] at c5 x1 x2
        have HN := Lib.hid hN
        have HO := Lib.hid ho
        replace c5 : w1.cell? ⟨g, 5, none⟩ = some (.slice (some ⟨b, o, none⟩) N c) := c5
        have HK := Lib.hid (show ∀ w2 : World, Below w1.heap.size w1 w2 → w2.cell? ⟨g, 5, none⟩ = some (.slice (some ⟨b, o, none⟩) N c) ∧ w2.cell? ⟨b, o + k * 3 + 1, none⟩ = some (SV x.2.1) ∧ w2.cell? ⟨b, o + k * 3 + 2, none⟩ = some (.bool x.2.2) ∧ (∀ j, w2.frozen? ⟨g, j, none⟩ = false) ∧ ∀ j, w2.frozen? ⟨b, j, none⟩ = false from fun w2 bl => by
          have e1 := bl.block g hgl
          have e2 := bl.block b hbl2
          exact ⟨(World.cell?_of_block (w := w1) (w' := w2) (a := ⟨g, 5, none⟩) e1).trans c5, (World.cell?_of_block (w := w1) (w' := w2) (a := ⟨b, o + k * 3 + 1, none⟩) e2).trans x1, (World.cell?_of_block (w := w1) (w' := w2) (a := ⟨b, o + k * 3 + 2, none⟩) e2).trans x2, fun j => (World.frozen?_of_block (w := w1) (w' := w2) (a := ⟨g, j, none⟩) e1).trans (cF j), fun j => (World.frozen?_of_block (w := w1) (w' := w2) (a := ⟨b, j, none⟩) e2).trans (xF j)⟩)
        have hne : b ≠ g := (h5 b (h3.inF b rfl)).2
        have HFIN := Lib.hid (show ∀ w2 w3 a2 cap2, w2.ownsRow w1.heap.size 5 1 (.slice a2 l.length cap2) l.length (l.map bv) → Below w1.heap.size w1 w2 → w3 = (w2.setCell ⟨b, o + k * 3 + 1, none⟩ (.slice a2 bn cap2)).setCell ⟨b, o + k * 3 + 2, none⟩ (.bool true) → DiskM w3 (Gr F w0 w3) g { d with pow := (spendV d.pow).1, sl := d.sl.set (k : Int).toNat ((d.sl.getD (k : Int).toNat ([], [], false)).1, l, true) } ∧ ChF F w0 w3 from fun w2 w3 a2 cap2 o2 bl e => by
          rw [← hbl, HO.out, Nat.zero_add] at e
          have hkl : k < d.sl.length := by rw [← HN.out]; exact hk
          have hsl : d.sl[k]? = some (d.sl.getD k ([], [], false)) := by rw [List.getD_eq_getElem?_getD, List.getElem?_eq_getElem hkl]; rfl
          have hS := H3.out.write HX.out hsl o2 bl HBV.out.bytes (by omega)
          have hz : w1.heap.size ≤ w2.heap.size := bl.size
          have hz3 : w3.heap.size = w2.heap.size := by subst e; simp [World.setCell]
          have hbF : FS b := H3.out.inF b rfl
          have hset : ChF (fun q => q = b) w2 w3 := by
            subst e
            exact (((ChF.refl (fun q => q = b) w2).set (g := b) (.inl (show b = b from rfl))).set (g := b) (.inl (show b = b from rfl)))
          rw [← e] at hS
          rw [Int.toNat_natCast]
          have hcN : ChF (fun _ => False) w1 w2 := .of_below bl
          refine ⟨⟨FL, Gr FS w1 w2, sa, rd, _, _, ?_, (H2.out.keep hcN (fun _ _ e => e)).keep hset (fun q hq e => (H4.out q hq).2.1 (by rw [e]; exact hbF)), hS, fun q hq => ⟨.inl (H4.out q hq).1, fun e => ?_, (H4.out q hq).2.2⟩, fun q hq => ?_, .inl h6, fun q hq => ?_, h8, h9⟩, (HC1.out.trans (.of_below (F := F) bl) (fun q hq => .inl hq)).trans (hset.widen (F' := F) (fun q hq => by rw [hq]; exact (H5.out b hbF).1)) (fun q hq => .inl hq)⟩
          · exact (hset.block g (by omega) (fun e => hne e.symm)).trans ((bl.block g hgl).trans H1.out)
          · rcases e with q1 | q1
            · exact (H4.out q hq).2.1 q1
            · have := H7.out q (H4.out q hq).1; omega
          · rcases hq with q1 | q1
            · exact ⟨.inl (H5.out q q1).1, (H5.out q q1).2⟩
            · exact ⟨.inr ⟨by rw [← hsz]; exact q1.1, by rw [hz3]; exact q1.2⟩, fun e => by subst e; omega⟩
          · rcases hq with q1 | q1
            · have := H7.out q q1; omega
            · exact q1.2)
        have f5 := cF 5
        clear h1 h2 h3 h4 h5 h7 h8 hc1 hx hN ho x1 x2 xF cF hblk hsz
        go_wp2
        go_region_held3 (fun w' => w'.cell? ⟨g, 5, none⟩ = some (.slice (some ⟨b, o, none⟩) N c)) (first | exact c5 | exact r5 | exact cell_set_ne hne r5 | exact cell_set_ne hne (cell_set_ne hne r5) | go_keep)
          (first | (go_at_call 47; (with_reducible refine (clone_any ba bn bc l _ ?hh).mono ?_); (case hh => exact HBV.out.of_block (fun _ _ => rfl)); rintro e w2 ⟨a2, cap2, rfl, o2, d2e⟩; have d2 : Below w1.heap.size w1 w2 := ⟨d2e.os, d2e.tape, d2e.output, d2e.size, d2e.block⟩; clear d2e; obtain ⟨r5, r1, r2, rf, rx⟩ := HK.out w2 d2; have rf5 := rf 5; have rx1 := rx (o + k * 3 + 1); have rx2 := rx (o + k * 3 + 2); have HO2 := Lib.hid o2; have HD2 := Lib.hid d2; clear o2 d2))
        all_goals go_wp2
        all_goals go_ret
        all_goals exact ⟨rfl, HFIN.out _ _ _ _ HO2.out HD2.out rfl⟩
  · rw [if_neg hi]
    rw [decide_eq_false hi] at KH
    go_enter Try.func23, Try.ntmps23
    go_wp2_with fail
    (with_reducible refine KH.mono ?_)
    rintro e w1 ⟨rfl, hw⟩
    subst hw
    clear KH KS
    go_wp2
    go_ret
    exact ⟨rfl, HD.out.gr, .refl _ _⟩
end Go.Proofs.Ytdidalcflkphnaa
