/-
  disk: Lay.
-/
import Derived.Test.YtdidalcflkphnaaDiF
namespace Go.Proofs.Ytdidalcflkphnaa
open Go.RowKit

theorem own_zero {w : World} {B n s : Nat} {T : TypeId} {v : Value} {xs : List Value} (h : w.ownsRow B T s v n xs) : w.ownsRow 0 T s v n xs := by
  refine ⟨h.1, ?_⟩
  rcases h.2 with e | ⟨g, cap, cur, e, -, rest⟩
  · exact .inl e
  · exact .inr ⟨g, cap, cur, e, Nat.zero_le _, rest⟩
theorem ChF.widen {F F' : Nat → Prop} {w w' : World} (h : ChF F w w') (k : ∀ b, F b → F' b) : ChF F' w w' := ⟨h.os, h.tape, h.output, h.size, fun b hb hn => h.block b hb (fun e => hn (k b e))⟩
set_option maxRecDepth 100000 in
set_option maxHeartbeats 4000000 in
theorem jlay_any (g : Nat) (ba : Option Addr) (bn bc : Nat) (l : List Nat) (v2 v3 v4 : Value) (w : World) (hb : BytesV w (ba, bn, bc) l)
    (k2 : w.cell? ⟨g, 2, none⟩ = some v2) (k3 : w.cell? ⟨g, 3, none⟩ = some v3) (k4 : w.cell? ⟨g, 4, none⟩ = some v4) (hf : ∀ j, w.frozen? ⟨g, j, none⟩ = false) :
    Calls Try.prog 40 #[.pointer (some ⟨g, 1, none⟩), .slice ba bn bc] w fun e w' => e = .returned (.tuple #[]) ∧ ∃ a c w1, w1.ownsRow w.heap.size 5 1 (.slice a l.length c) l.length (l.map bv) ∧ Below w.heap.size w w1 ∧ w' = ((w1.setCell ⟨g, 2, none⟩ (.slice a l.length c)).setCell ⟨g, 3, none⟩ (.int .i64 (l.length : Nat))).setCell ⟨g, 4, none⟩ (.bool true) := by
  have hg := World.block_lt_of_cell? w ⟨g, 2, none⟩ k2
  have KC := clone_any ba bn bc l w hb
  have hl : l.length = bn := hb.length
  have HK := Lib.hid (show ∀ w1 : World, Below w.heap.size w w1 → (w1.cell? ⟨g, 2, none⟩ = some v2 ∧ w1.cell? ⟨g, 3, none⟩ = some v3 ∧ w1.cell? ⟨g, 4, none⟩ = some v4) ∧ ∀ j, w1.frozen? ⟨g, j, none⟩ = false from fun w1 b => by
    have e := b.block g hg
    exact ⟨⟨(World.cell?_of_block (w := w) (w' := w1) (a := ⟨g, 2, none⟩) e).trans k2, (World.cell?_of_block (w := w) (w' := w1) (a := ⟨g, 3, none⟩) e).trans k3, (World.cell?_of_block (w := w) (w' := w1) (a := ⟨g, 4, none⟩) e).trans k4⟩, fun j => (World.frozen?_of_block (w := w) (w' := w1) (a := ⟨g, j, none⟩) e).trans (hf j)⟩)
  have HL := Lib.hid hl
  clear hb k2 k3 k4 hf hl
  go_enter Try.func40, Try.ntmps40
  go_wp2_with fail
  (with_reducible refine KC.mono ?_)
  rintro e w1 ⟨a, c, rfl, o, b⟩
  obtain ⟨⟨k2, k3, k4⟩, hf⟩ := HK.out w1 b
  have f2 := hf 2
  have f3 := hf 3
  have f4 := hf 4
  have HO := Lib.hid o
  have HB := Lib.hid b
  clear KC HK o b hf
  go_wp2
  refine bodyPost_end (v := .tuple #[]) (results_none rfl _ _ _) rfl ⟨rfl, a, c, w1, HO.out, HB.out, ?_⟩
  rw [HL.out]
def layV (d : DV) (l : List Nat) : DV × Int := if d.pow = 0 then (d, 81) else ({ d with pow := (spendV d.pow).1, read := l, base := l.length, laid := true }, 0)
theorem lay_set {w : World} {g : Nat} {v0 v1 v2 v3 v4 v5 : Value} {T : TypeId} (p q r : Value) (h : w.heap[g]? = some (.cells #[v0, v1, v2, v3, v4, v5] T (0, 0))) : (((w.setCell ⟨g, 2, none⟩ p).setCell ⟨g, 3, none⟩ q).setCell ⟨g, 4, none⟩ r).heap[g]? = some (.cells #[v0, v1, p, q, r, v5] T (0, 0)) :=
  heap_setCell_same _ _ 4 _ _ _ (heap_setCell_same _ _ 3 _ _ _ (heap_setCell_same _ _ 2 _ _ _ h))
theorem LogM.lay {w w' : World} {F : Nat → Prop} {sa rd : HdT} {a : Option Addr} {c : Nat} {safe read l : List Nat} (h : LogM w F sa rd safe read) (hl : Bytes l) (hs : l.length ≤ 1000000000)
    (o : w'.ownsRow w.heap.size 5 1 (.slice a l.length c) l.length (l.map bv)) (b : Below w.heap.size w w') : LogM w' (Gr F w w') sa (a, l.length, c) safe l := by
  refine ⟨⟨own_zero o, rfl, hl, hs, fun k hk => .inr (o.lt k hk)⟩, h.sv.of_block (fun k hk => b.block k (h.sF k hk).2), fun k hk => ⟨.inl (h.sF k hk).1, Nat.lt_of_lt_of_le (h.sF k hk).2 b.size⟩, h.s0, fun k h1 h2 => ?_⟩
  have q1 := (h.sF k h1).2
  have q2 := (o.lt k h2).1
  omega
set_option maxRecDepth 100000 in
set_option maxHeartbeats 4000000 in
theorem lay_any (F : Nat → Prop) (g : Nat) (d : DV) (ba : Option Addr) (bn bc : Nat) (l : List Nat) (w : World) (hD : DiskM w F g d) (hb : BytesV w (ba, bn, bc) l) (hbF : 0 < bn → ∀ b, (SV (ba, bn, bc)).ownBlock = some b → ¬ F b) (hs : l.length ≤ 1000000000) :
    Calls Try.prog 21 #[.pointer (some ⟨g, 0, none⟩), .slice ba bn bc] w fun e w' => e = .returned (.int .i64 (layV d l).2) ∧ DiskM w' (Gr F w w') g (layV d l).1 ∧ ChF F w w' := by
  have HD := Lib.hid hD
  obtain ⟨FL, FS, sa, rd, sh, hs', h1, h2, h3, h4, h5, h6, h7, h8, h9⟩ := hD
  obtain ⟨c0, -, -, -, -, -, cF⟩ := cells6D h1
  have KS := spend_any g d.pow w c0 (cF 0) h9
  have HB := Lib.hid hb
  have HBF := Lib.hid hbF
  have HS := Lib.hid hs
  clear h1 h2 h3 h4 h5 h7 h8 c0 cF hs hbF
  unfold layV
  by_cases h0 : d.pow = 0
  · rw [h0, spend_none] at KS
    rw [if_pos h0]
    go_enter Try.func21, Try.ntmps21
    go_wp2_with fail
    (with_reducible refine KS.mono ?_)
    rintro e w1 ⟨rfl, hw⟩
    rw [if_neg (by decide)] at hw
    subst hw
    clear KS
    go_wp2
    go_ret
    refine ⟨rfl, ?_, .refl _ _⟩
    obtain ⟨FL, FS, sa, rd, sh, hs, h1, h2, h3, h4, h5, h6, h7, h8, h9⟩ := HD.out
    exact ⟨FL, FS, sa, rd, sh, hs, h1, h2, h3, fun b hb => ⟨.inl (h4 b hb).1, (h4 b hb).2⟩, fun b hb => ⟨.inl (h5 b hb).1, (h5 b hb).2⟩, .inl h6, fun b hb => by rcases hb with q | q; exact h7 b q; omega, h8, h9⟩
  · rw [spend_ok h0] at KS
    rw [if_neg h0]
    go_enter Try.func21, Try.ntmps21
    go_wp2_with fail
    (with_reducible refine KS.mono ?_)
    rintro e w1 ⟨rfl, hw⟩
    obtain ⟨hd1, hc1, hsz⟩ := spent HD.out h0 w1 hw
    clear KS hw
    obtain ⟨FL, FS, sa, rd, sh, hs, h1, h2, h3, h4, h5, h6, h7, h8, h9⟩ := hd1
    simp only at h1 h2 h3 h8 h9
    obtain ⟨c0, c1, c2, c3, c4, c5, cF⟩ := cells6D h1
    have HBV := Lib.hid (HB.out.ofChF hc1 HBF.out)
    have HC1 := Lib.hid hc1
    have KA := jlay_any g ba bn bc l _ _ _ w1 HBV.out c2 c3 c4 cF
    have HFIN := Lib.hid (show ∀ a c w2 w3, w2.ownsRow w1.heap.size 5 1 (.slice a l.length c) l.length (l.map bv) → Below w1.heap.size w1 w2 → w3 = ((w2.setCell ⟨g, 2, none⟩ (.slice a l.length c)).setCell ⟨g, 3, none⟩ (.int .i64 (l.length : Nat))).setCell ⟨g, 4, none⟩ (.bool true) → DiskM w3 (Gr F w w3) g { d with pow := (spendV d.pow).1, read := l, base := l.length, laid := true } ∧ ChF F w w3 from fun a c w2 w3 o b e => by
      have hset : ChF (fun b => b = g) w2 w3 := by
        subst e
        exact ((((ChF.refl (fun b => b = g) w2).set (g := g) (.inl (show g = g from rfl))).set (g := g) (.inl (show g = g from rfl))).set (g := g) (.inl (show g = g from rfl)))
      have hblk : w2.heap[g]? = w1.heap[g]? := b.block g (h7 g h6)
      have hcF : ChF F w1 w2 := .of_below b
      have hcN : ChF (fun _ => False) w1 w2 := .of_below b
      have hz : w1.heap.size ≤ w2.heap.size := b.size
      have hz3 : w3.heap.size = w2.heap.size := by subst e; simp [World.setCell]
      have hcells : w3.heap[g]? = some (.cells #[.int .i64 (spendV d.pow).1, SV sa, .slice a l.length c, .int .i64 (l.length : Nat), .bool true, SV sh] DT (0, 0)) := by
        subst e
        exact lay_set _ _ _ (hblk.trans h1)
      refine ⟨⟨Gr FL w1 w2, FS, sa, (a, l.length, c), sh, hs, hcells, (h2.lay HB.out.bytes HS.out o b).keep hset (fun k hk e => by
        subst e
        rcases hk with q | q
        · exact (h4 k q).2.2 rfl
        · have := h7 k h6; omega), (h3.keep hcN (fun _ _ e => e)).keep hset (fun k hk e => (h5 k hk).2 e), fun k hk => ?_, fun k hk => ⟨.inl (h5 k hk).1, (h5 k hk).2⟩, .inl h6, fun k hk => ?_, Nat.le_refl _, h9⟩, (HC1.out.trans hcF (fun k hk => .inl hk)).trans (hset.widen (F' := F) (fun k hk => by subst hk; exact h6)) (fun k hk => .inl hk)⟩
      · rcases hk with q | q
        · exact ⟨.inl (h4 k q).1, (h4 k q).2⟩
        · refine ⟨.inr ⟨by rw [← hsz]; exact q.1, by rw [hz3]; exact q.2⟩, fun e => ?_, fun e => ?_⟩
          · have := h7 k (h5 k e).1; omega
          · subst e; have := h7 k h6; omega
      · rcases hk with q | q
        · have := h7 k q
          omega
        · exact q.2)
    clear h1 h2 h3 h4 h5 h6 h7 h8 h9 c0 c1 c2 c3 c4 c5 cF hc1 hb
    go_wp2_with fail
    (with_reducible refine KA.mono ?_)
    rintro e w2 ⟨rfl, a, c, w3, o, b, hw⟩
    have HF2 := Lib.hid (HFIN.out a c w3 w2 o b hw)
    clear KA HFIN o b hw
    go_wp2
    go_ret
    exact ⟨rfl, HF2.out.1, HF2.out.2⟩
end Go.Proofs.Ytdidalcflkphnaa
