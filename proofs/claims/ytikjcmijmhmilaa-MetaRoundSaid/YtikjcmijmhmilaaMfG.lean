/-
  meta's reader: a place read.
-/
import Derived.Test.YtikjcmijmhmilaaMfF
namespace Go.Proofs.Ytikjcmijmhmilaa
open Go.RowKit

theorem Sc.num_bad {s : Sc} {m : Nat} (h : s.bad = true) : (s.num m).bad = true := by simp only [Sc.num, h, Bool.true_or]
theorem Sc.text_bad {s : Sc} (h : s.bad = true) : s.text.bad = true := by simp only [Sc.text, h, Bool.true_or]
def Sc.place (s : Sc) : Sc := (((s.num 2).num 3).num 2).text
theorem Sc.place_bad {s : Sc} (h : s.bad = true) : s.place.bad = true := Sc.text_bad (Sc.num_bad (Sc.num_bad (Sc.num_bad h)))
/-- the place that is read, its digest nowhere. -/
def Sc.pl (s : Sc) : PlR := ⟨(s.val 2 : Nat), ((s.num 2).val 3 : Nat), (((s.num 2).num 3).val 2 : Nat), (none, (((s.num 2).num 3).num 2).bytes.length, 0), (((s.num 2).num 3).num 2).bytes⟩
theorem grown_new {w w5 w6 : World} {r : Option Nat} {q : Nat} (h : w.grownBy w5 r) (k : w5.grownBy w6 (some q)) (hq : w.heap.size ≤ q) : w.grownBy w6 r :=
  ⟨k.os.trans h.os, k.tape.trans h.tape, k.output.trans h.output, Nat.le_trans h.size k.size, fun i hi hn => (k.block i (Nat.lt_of_lt_of_le hi h.size) (fun e => by injection e with e; omega)).trans (h.block i hi hn)⟩
theorem set4X {w : World} {g : Nat} {u0 u1 u2 u3 : Value} {T : TypeId} (x0 x1 x2 x3 : Value) (h : w.heap[g]? = some (.cells #[u0, u1, u2, u3] T (0, 0))) : ((((w.setCell ⟨g, 0, none⟩ x0).setCell ⟨g, 1, none⟩ x1).setCell ⟨g, 2, none⟩ x2).setCell ⟨g, 3, none⟩ x3).heap[g]? = some (.cells #[x0, x1, x2, x3] T (0, 0)) :=
  heap_setCell_same _ g 3 _ _ _ (heap_setCell_same _ g 2 _ _ _ (heap_setCell_same _ g 1 _ _ _ (heap_setCell_same w g 0 _ _ _ h)))
theorem grown4X (w : World) (g : Nat) (x0 x1 x2 x3 : Value) : w.grownBy ((((w.setCell ⟨g, 0, none⟩ x0).setCell ⟨g, 1, none⟩ x1).setCell ⟨g, 2, none⟩ x2).setCell ⟨g, 3, none⟩ x3) (some g) :=
  (((grownBy_setCellM _ ⟨g, 0, none⟩ x0).trans (grownBy_setCellM _ ⟨g, 1, none⟩ x1)).trans (grownBy_setCellM _ ⟨g, 2, none⟩ x2)).trans (grownBy_setCellM _ ⟨g, 3, none⟩ x3)
theorem Sc.bytes_le {u w : World} {b : Nat} {s : Sc} (h : RdV u w b s.l) : s.bytes.length ≤ 140737488355328 ∧ Bytes s.bytes := by
  obtain ⟨ad, n, c, h1, h2⟩ := h
  have hv : tLen s.l ≤ 256 := by
    unfold tLen
    split
    · decide
    · have := nOf_lt h1.bytes 1
      have e : (256 : Nat) ^ 1 = 256 := rfl
      rw [e] at this
      omega
  unfold Sc.bytes tText
  split
  · exact ⟨by simp, fun x hx => by cases hx⟩
  · exact ⟨by rw [List.length_take, List.length_drop]; omega, fun x hx => h1.bytes x (List.mem_of_mem_drop (List.mem_of_mem_take hx))⟩
set_option maxRecDepth 100000 in
set_option maxHeartbeats 8000000 in
theorem placeRd (b : Nat) (s : Sc) (u w : World) (hu : Below u.heap.size u w) (hub : u.heap.size ≤ b) (hr : RdV u w b s.l) (hs : s.bad = false) :
    Calls Try.prog 51 #[.pointer (some ⟨b, 0, none⟩)] w fun e w' => w.grownBy w' (some b) ∧ ((s.place.bad = true ∧ e = .panicked PE90) ∨ (s.place.bad = false ∧ (∃ p : PlR, SameP p s.pl ∧ e = .returned (.agg #[.int .i64 p.b, .int .i64 p.e, .int .i64 p.s, .slice p.x.1 p.x.2.1 p.x.2.2]) ∧ p.x.2.1 = p.l.length ∧ w'.ownsRow w.heap.size 5 1 (SV p.x) p.l.length (p.l.map bv) ∧ Bytes p.l ∧ p.l.length ≤ 140737488355328) ∧ RdV u w' b s.place.l)) := by
  have hbw := hr.lt
  obtain ⟨q, hq⟩ : ∃ q, q = w.heap.size := ⟨_, rfl⟩
  obtain ⟨w1, hw1⟩ : ∃ x, x = w.alloc (.cells #[.int .i64 0, .int .i64 0, .int .i64 0, .slice none 0 0] PT4) := ⟨_, rfl⟩
  have k1 : w1.heap[q]? = some (.cells #[.int .i64 0, .int .i64 0, .int .i64 0, .slice none 0 0] PT4 (0, 0)) := by rw [hw1, hq]; exact heap_alloc_new w _
  have b1 : Below w.heap.size w w1 := by rw [hw1]; exact below_alloc w _
  have hg1 := grownBy_of_below b1 (some b)
  have hr1 := hr.of_block (b1.block b hbw)
  have hqb : b < q := by omega
  have K1 := numRd b 2 s u w1 (below_on hu hub hg1) hub hr1 hs (by decide) 2 rfl
  have HW1 := Lib.hid hw1
  have HQ := Lib.hid hq
  have C1 := Lib.hid k1
  have G1 := Lib.hid hg1
  have HU := Lib.hid hu
  clear hw1 hq k1 b1 hg1 hr1 hu hr hbw
  go_enter Try.func51, Try.ntmps51
  go_upto_region 1 with fail
  rw [← HQ.out, ← HW1.out]
  go_wp2_with fail
  (with_reducible refine K1.mono ?_)
  rintro e w2 ⟨hg, ⟨hb, rfl⟩ | ⟨hb, rfl, hr⟩⟩
  · have HE := Lib.hid (And.intro (G1.out.trans hg) (show s.place.bad = true from Sc.text_bad (Sc.num_bad (Sc.num_bad hb))))
    clear hg hb K1
    go_wp2
    exact ⟨rfl, HE.out.1, .inl ⟨HE.out.2, rfl⟩⟩
  have C2 := Lib.hid ((hg.block q (Array.getElem?_eq_some_iff.1 C1.out).1 (fun e => by injection e with e; omega)).trans C1.out)
  have hg2 := G1.out.trans hg
  have G2 := Lib.hid hg2
  have K2 := numRd b 3 (s.num 2) u w2 (below_on HU.out hub hg2) hub hr hb (by decide) 3 rfl
  clear K1 hg hg2 hr hb
  obtain ⟨v1, hv1⟩ : ∃ v, v = s.val 2 := ⟨_, rfl⟩
  rw [← hv1]
  have V1 := Lib.hid hv1
  clear hv1
  go_wp2_with fail
  (with_reducible refine K2.mono ?_)
  rintro e w3 ⟨hg, ⟨hb, rfl⟩ | ⟨hb, rfl, hr⟩⟩
  · have HE := Lib.hid (And.intro (G2.out.trans hg) (show s.place.bad = true from Sc.text_bad (Sc.num_bad hb)))
    clear hg hb K2
    go_wp2
    exact ⟨rfl, HE.out.1, .inl ⟨HE.out.2, rfl⟩⟩
  have C3 := Lib.hid ((hg.block q (Array.getElem?_eq_some_iff.1 C2.out).1 (fun e => by injection e with e; omega)).trans C2.out)
  have hg3 := G2.out.trans hg
  have G3 := Lib.hid hg3
  have K3 := numRd b 2 ((s.num 2).num 3) u w3 (below_on HU.out hub hg3) hub hr hb (by decide) 2 rfl
  clear K2 hg hg3 hr hb
  obtain ⟨v2, hv2⟩ : ∃ v, v = (s.num 2).val 3 := ⟨_, rfl⟩
  rw [← hv2]
  have V2 := Lib.hid hv2
  clear hv2
  go_wp2_with fail
  (with_reducible refine K3.mono ?_)
  rintro e w4 ⟨hg, ⟨hb, rfl⟩ | ⟨hb, rfl, hr⟩⟩
  · have HE := Lib.hid (And.intro (G3.out.trans hg) (show s.place.bad = true from Sc.text_bad hb))
    clear hg hb K3
    go_wp2
    exact ⟨rfl, HE.out.1, .inl ⟨HE.out.2, rfl⟩⟩
  have C4 := Lib.hid ((hg.block q (Array.getElem?_eq_some_iff.1 C3.out).1 (fun e => by injection e with e; omega)).trans C3.out)
  have hg4 := G3.out.trans hg
  have G4 := Lib.hid hg4
  have K4 := textRd b (((s.num 2).num 3).num 2) u w4 (below_on HU.out hub hg4) hub hr hb
  have HBL := Lib.hid (Sc.bytes_le hr)
  clear K3 hg hg4 hr hb
  obtain ⟨v3, hv3⟩ : ∃ v, v = ((s.num 2).num 3).val 2 := ⟨_, rfl⟩
  rw [← hv3]
  have V3 := Lib.hid hv3
  clear hv3
  go_wp2_with fail
  (with_reducible refine K4.mono ?_)
  rintro e w5 ⟨hg, ⟨hb, rfl⟩ | ⟨hb, ⟨ta, tc, rfl, hown⟩, hr⟩⟩
  · have HE := Lib.hid (And.intro (G4.out.trans hg) (show s.place.bad = true from hb))
    clear hg hb K4
    go_wp2
    exact ⟨rfl, HE.out.1, .inl ⟨HE.out.2, rfl⟩⟩
  have C5 := Lib.hid ((hg.block q (Array.getElem?_eq_some_iff.1 C4.out).1 (fun e => by injection e with e; omega)).trans C4.out)
  have G5 := Lib.hid (G4.out.trans hg)
  have HO := Lib.hid hown
  have HE := Lib.hid (And.intro hb hr)
  have hq4 : q < w4.heap.size := (Array.getElem?_eq_some_iff.1 C4.out).1
  have HNQ := Lib.hid (show (Value.slice ta (((s.num 2).num 3).num 2).bytes.length tc).ownBlock ≠ some q from fun e => by have := (hown.lt q e).1; omega)
  have HSZ := Lib.hid G4.out.size
  clear K4 hg hown hb hr hq4
  obtain ⟨L, hL⟩ : ∃ L, L = (((s.num 2).num 3).num 2).bytes := ⟨_, rfl⟩
  rw [← hL] at HO HNQ HBL ⊢
  have HL := Lib.hid hL
  clear hL
  obtain ⟨n, hn⟩ : ∃ n, n = L.length := ⟨_, rfl⟩
  rw [← hn] at HO HNQ HBL ⊢
  have HN := Lib.hid hn
  clear hn
  obtain ⟨c0, c1, c2, c3⟩ := cells4M C5.out
  have hfz : ∀ j, w5.frozen? ⟨q, j, none⟩ = false := fun _ => frozen_of_row _ _ _ _ _ C5.out
  go_wp2
  clear c0 c1 c2 c3 hfz
  refine bodyPost_ret (results_cell_row rfl _ _ q PT4 #[.int .i64 v1, .int .i64 v2, .int .i64 v3, .slice ta n tc] (0, 0) _ rfl ?hh Try.underlying60 rfl (by kernel_rfl)) (by rfl) ?_
  · exact set4X _ _ _ _ C5.out
  have hgr := grown4X w5 q (.int .i64 v1) (.int .i64 v2) (.int .i64 v3) (.slice ta n tc)
  refine ⟨grown_new G5.out hgr (Nat.le_of_eq HQ.out.symm), .inr ⟨HE.out.1, ⟨⟨v1, v2, v3, (ta, n, tc), L⟩, ⟨?_, ?_, ?_, ?_, ?_⟩, rfl, HN.out, ?_, HBL.out.2, ?_⟩, HE.out.2.of_block ?_⟩⟩
  · show (v1 : Int) = _; rw [V1.out]; rfl
  · show (v2 : Int) = _; rw [V2.out]; rfl
  · show (v3 : Int) = _; rw [V3.out]; rfl
  · show L = _; rw [HL.out]; rfl
  · show n = _; rw [HN.out, HL.out]; rfl
  · have := HO.out.kept hgr (.inr HNQ.out)
    have h2 := ownsRow_base this HSZ.out
    rw [HN.out] at h2
    show World.ownsRow _ _ _ _ (.slice ta n tc) L.length _
    rw [HN.out]
    exact h2
  · show L.length ≤ _; rw [← HN.out]; exact HBL.out.1
  · exact hgr.block b (by have := HE.out.2.lt; exact this) (fun e => by injection e with e; omega)
end Go.Proofs.Ytikjcmijmhmilaa
