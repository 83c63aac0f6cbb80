/-
  disk: SyncSlots, the walk.
-/
import Derived.Test.YtdidalcflkphnaaDiN
namespace Go.Proofs.Ytdidalcflkphnaa
open Go.RowKit

set_option maxRecDepth 100000 in
set_option maxHeartbeats 4000000 in
theorem slotsync_any (F : Nat → Prop) (g : Nat) (d : DV) (w : World) (hD : DiskM w F g d) :
    Calls Try.prog 25 #[.pointer (some ⟨g, 0, none⟩)] w fun e w' => e = .returned (.int .i64 (slotsV d).2) ∧ DiskM w' (Gr F w w') g (slotsV d).1 ∧ ChF F w w' := by
  have HD := Lib.hid hD
  obtain ⟨FL, FS, sa, rd, sh, hs', h1, h2, h3, h4, h5, h6, h7, h8, h9⟩ := hD
  obtain ⟨c0, -, -, -, -, -, cF⟩ := cells6D h1
  have KS := spend_any g d.pow w c0 (cF 0) h9
  clear h1 h2 h3 h4 h5 h6 h7 h8 c0 cF
  unfold slotsV
  by_cases h0 : d.pow = 0
  · rw [h0, spend_none] at KS
    rw [if_pos h0]
    go_enter Try.func25, Try.ntmps25
    go_wp2_with fail
    (with_reducible refine KS.mono ?_)
    rintro e w1 ⟨rfl, hw⟩
    rw [if_neg (by decide)] at hw
    subst hw
    clear KS
    go_wp2
    go_ret
    exact ⟨rfl, HD.out.gr, .refl _ _⟩
  · rw [spend_ok h0] at KS
    rw [if_neg h0]
    obtain ⟨P, hP⟩ : ∃ P, P = (spendV d.pow).1 := ⟨_, rfl⟩
    rw [← hP]
    have HP := Lib.hid hP
    clear hP
    go_enter Try.func25, Try.ntmps25
    go_wp2_with fail
    (with_reducible refine KS.mono ?_)
    rintro e w1 ⟨rfl, hw⟩
    obtain ⟨hd1, hc1, hsz⟩ := spent HD.out h0 w1 hw
    clear KS hw
    rw [← HP.out] at hd1
    obtain ⟨s1, s3, c5, f5⟩ := hd1.cell5
    obtain ⟨N, hN⟩ : ∃ N, N = d.sl.length := ⟨_, rfl⟩
    rw [show ({ pow := P, safe := d.safe, read := d.read, base := d.base, laid := d.laid, sl := d.sl } : DV).sl.length = N from hN.symm] at c5
    have HD1 := Lib.hid (show DiskM w1 (Gr F w w1) g { d with pow := P, sl := syncTo d.sl 0 } from by
      rw [syncTo_none]
      exact hd1.wide (fun b hb => .inl hb) (fun b hb => by
        rcases hb with q | q
        · exact hd1.lt.1 b q
        · exact q.2))
    have HC1 := Lib.hid hc1
    have HN := Lib.hid hN
    clear hd1 hc1 hsz hN h9 f5
    go_wp2_with fail
    go_loopw [18] (fun vi wr => ∃ k : Nat, k ≤ N ∧ vi = .int .i64 (k : Nat) ∧ Hid (DiskM wr (Gr F w wr) g { d with pow := P, sl := syncTo d.sl k }) ∧ Hid (ChF F w wr) ∧ wr.cell? ⟨g, 5, none⟩ = some (.slice s1 N s3)) (fun vi _ => (N - intOf vi).toNat)
    case atStart => exact ⟨0, Nat.zero_le _, rfl, HD1, HC1, c5⟩
    case round =>
      clear HD1 HC1 c5
      obtain ⟨k, hk, rfl, hd, hc, c5⟩ := hrel
      by_cases hlt : k < N
      · obtain ⟨s, hs⟩ : ∃ s, d.sl[k]? = some s := ⟨_, List.getElem?_eq_getElem (by have := HN.out; omega)⟩
        obtain ⟨b, c, x, e, hcap, hcm, x0, x1, x2, xF, hne, bS, bR, -, hbl, hgl, hfin⟩ := hd.out.slot c5 (syncTo_at hs)
        have hlen : (syncTo d.sl k).length = N := by rw [syncTo_length]; exact HN.out.symm
        simp only at e hcap hfin
        unfold maxLen at hcm
        rw [hlen] at e hcap hfin
        injection e with e1 e2 e3
        subst e1 e3

        obtain ⟨⟨ys1, ys2, ys3⟩, ⟨yr1, yr2, yr3⟩, xw⟩ := x
        simp only [SV] at x0 x1
        rw [Nat.zero_add] at x0 x1 x2
        have fx0 := xF (k * 3)
        have fx1 := xF (k * 3 + 1)
        have fx2 := xF (k * 3 + 2)
        have HFIN := Lib.hid hfin
        have HS := Lib.hid hs
        have hlt2 : (k : Int) < (N : Int) := by omega
        have hF := HD.out.lt.1
        have hwl := hc.out.size
        have b4 := below_alloc wr (.cells #[.slice ys1 ys2 ys3, .slice yr1 yr2 yr3, .bool s.2.2] KT)
        have k5 := (b4.cell (p := ⟨g, 5, none⟩) hgl).trans c5
        clear hlen bS hfin xF e2
        by_cases hw : s.2.2 = true
        · rw [hw] at x2 b4 k5
          have k1 : (wr.alloc (.cells #[.slice ys1 ys2 ys3, .slice yr1 yr2 yr3, .bool true] KT)).cell? ⟨wr.heap.size, 1, none⟩ = some (.slice yr1 yr2 yr3) := cell_of_row _ _ 1 _ _ _ (alloc_at wr _)
          have HBR := Lib.hid bR
          clear bR hs hd
          go_wp2
          obtain ⟨w4, hw4⟩ : ∃ x, x = wr.alloc (.cells #[.slice ys1 ys2 ys3, .slice yr1 yr2 yr3, .bool true] KT) := ⟨_, rfl⟩
          rw [← hw4] at b4 k5 k1 ⊢
          have h4s : w4.heap.size = wr.heap.size + 1 := by rw [hw4, alloc_sz]
          clear hw4
          have hgl4 : g < w4.heap.size := by omega
          have hbl4 : b < w4.heap.size := by omega
          obtain ⟨t, ht⟩ : ∃ t, t = wr.heap.size := ⟨_, rfl⟩
          have htl : t < w4.heap.size := by omega
          have hbt : b ≠ t := by omega
          have HK := Lib.hid (show ∀ w2 : World, Below w4.heap.size w4 w2 → (w2.cell? ⟨g, 5, none⟩ = some (.slice (some ⟨b, 0, none⟩) N s3) ∧ w2.cell? ⟨t, 1, none⟩ = some (.slice yr1 yr2 yr3)) ∧ w2.cell? ⟨b, k * 3, none⟩ = some (.slice ys1 ys2 ys3) ∧ w2.cell? ⟨b, k * 3 + 2, none⟩ = some (.bool true) ∧ w2.frozen? ⟨b, k * 3, none⟩ = false ∧ w2.frozen? ⟨b, k * 3 + 2, none⟩ = false from fun w2 bl => by
            rw [ht]
            rw [ht] at htl
            have e1 : w2.heap[b]? = wr.heap[b]? := (bl.block b hbl4).trans (b4.block b hbl)
            exact ⟨⟨(bl.cell (p := ⟨g, 5, none⟩) hgl4).trans k5, (bl.cell (p := ⟨wr.heap.size, 1, none⟩) htl).trans k1⟩, (World.cell?_of_block (w := wr) (w' := w2) (a := ⟨b, k * 3, none⟩) e1).trans x0, (World.cell?_of_block (w := wr) (w' := w2) (a := ⟨b, k * 3 + 2, none⟩) e1).trans x2, (World.frozen?_of_block (w := wr) (w' := w2) (a := ⟨b, k * 3, none⟩) e1).trans fx0, (World.frozen?_of_block (w := wr) (w' := w2) (a := ⟨b, k * 3 + 2, none⟩) e1).trans fx2⟩)
          rw [← ht] at k1 ⊢
          have P0 : w4.cell? ⟨g, 5, none⟩ = some (.slice (some ⟨b, 0, none⟩) N s3) ∧ w4.cell? ⟨t, 1, none⟩ = some (.slice yr1 yr2 yr3) := ⟨k5, k1⟩
          have PS : ∀ (w2 : World) i v, (w2.cell? ⟨g, 5, none⟩ = some (.slice (some ⟨b, 0, none⟩) N s3) ∧ w2.cell? ⟨t, 1, none⟩ = some (.slice yr1 yr2 yr3)) → ((w2.setCell ⟨b, i, none⟩ v).cell? ⟨g, 5, none⟩ = some (.slice (some ⟨b, 0, none⟩) N s3) ∧ (w2.setCell ⟨b, i, none⟩ v).cell? ⟨t, 1, none⟩ = some (.slice yr1 yr2 yr3)) := fun w2 i v q => ⟨cell_set_ne hne q.1, cell_set_ne hbt q.2⟩
          have HBC := Lib.hid ((HBR.out.bv_.below b4))
          have HT := Lib.hid ht
          clear ht x0 x1 x2 fx0 fx1 fx2 c5
          go_region_held3 (fun w' => w'.cell? ⟨g, 5, none⟩ = some (.slice (some ⟨b, 0, none⟩) N s3) ∧ w'.cell? ⟨t, 1, none⟩ = some (.slice yr1 yr2 yr3)) (first | exact P0 | exact P2 | exact PS _ _ _ P2 | exact PS _ _ _ (PS _ _ _ P2) | go_keep)
            (first | (go_at_call 47; (with_reducible refine (clone_any yr1 yr2 yr3 s.2.1 _ ?hh).mono ?_); (case hh => exact HBC.out.of_block (fun _ _ => rfl)); rintro e w2 ⟨a2, cap2, rfl, o2, d2e⟩; have d2 : Below w4.heap.size w4 w2 := ⟨d2e.os, d2e.tape, d2e.output, d2e.size, d2e.block⟩; clear d2e; obtain ⟨P2, r1, r2, rf1, rf2⟩ := HK.out w2 d2; obtain ⟨p5, p1⟩ := id P2; have HO2 := Lib.hid o2; have HD2 := Lib.hid d2; clear o2 d2))
          all_goals go_wp2
          all_goals rw [show ((k : Int) + 1) = ((k + 1 : Nat) : Int) by omega]
          all_goals have fin := HFIN.out (fun q => q = b) w2 ((w2.setCell ⟨b, k * 3, none⟩ (.slice a2 s.2.1.length cap2)).setCell ⟨b, k * 3 + 2, none⟩ (.bool false)) (syncTo d.sl (k + 1)) (below_trans b4 HD2.out) (((ChF.refl (fun q => q = b) w2).set (g := b) (.inl (show b = b from rfl))).set (g := b) (.inl (show b = b from rfl))) (by simp [World.setCell]) (fun FS hs h3 hx => ⟨fun q hq => by rw [hq]; exact h3.inF b rfl, _, by
            rw [syncTo_step HS.out, show syncS s = (s.2.1, s.2.1, false) by unfold syncS; rw [hw]; rfl]
            exact h3.sync hx (syncTo_at HS.out) (ownsRow_base HO2.out (by show wr.heap.size ≤ w4.heap.size; omega)) (below_trans b4 HD2.out) HBR.out.bytes HBR.out.small⟩)
          all_goals refine ⟨⟨k + 1, hlt, rfl, ?_, ?_, fin.2.2⟩, by simp only [intOf]; omega⟩
          · exact Lib.hid (.gr2 hF hwl fin.2.1.size fin.1)
          · exact Lib.hid (hc.out.gr2 fin.2.1)
        · rw [Bool.not_eq_true] at hw
          rw [hw] at x2 b4 k5
          go_wp2
          rw [show ((k : Int) + 1) = ((k + 1 : Nat) : Int) by omega]
          refine ⟨⟨k + 1, hlt, rfl, ?_, ?_, k5⟩, by simp only [intOf]; omega⟩
          · rw [syncTo_keep hs hw]
            exact Lib.hid (hd.out.below hF hwl b4)
          · exact Lib.hid (hc.out.trans (.of_below (F := F) b4) (fun _ q => .inl q))
      · go_wp2
        have hkN : k = N := by omega
        subst hkN
        have q := hd.out
        rw [HN.out, syncTo_all] at q
        go_ret
        exact ⟨rfl, q, hc.out⟩
end Go.Proofs.Ytdidalcflkphnaa
