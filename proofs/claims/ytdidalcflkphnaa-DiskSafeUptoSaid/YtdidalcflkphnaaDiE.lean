/-
  disk: a whole disk in memory; Append.
-/
import Derived.Test.YtdidalcflkphnaaDiD
namespace Go.Proofs.Ytdidalcflkphnaa
open Go.RowKit

/-- a slot's headers. -/
abbrev SlH := HdT × HdT × Bool
def kcells : List SlH → List Value
  | [] => []
  | x :: xs => SV x.1 :: SV x.2.1 :: .bool x.2.2 :: kcells xs
/-- the headers of the slots' bytes, one behind the other. -/
def hdr (hs : List SlH) (k : Nat) : Option HdT := (hs[k / 2]?).map fun x => if k % 2 = 0 then x.1 else x.2.1
/-- the slots. -/
structure SlM (w : World) (F : Nat → Prop) (sh : HdT) (hs : List SlH) (sl : List Slot) : Prop where
  own : w.ownsRow 0 KT 3 (SV sh) sl.length (kcells hs)
  len : sh.2.1 = sl.length
  hl : hs.length = sl.length
  inF : ∀ b, (SV sh).ownBlock = some b → F b
  each : ∀ (i : Nat) x s, hs[i]? = some x → sl[i]? = some s → x.2.2 = s.2.2 ∧ ByF w F x.1 s.1 ∧ ByF w F x.2.1 s.2.1
  apart : ∀ k l u v, hdr hs k = some u → hdr hs l = some v → k ≠ l → (SV u).ownBlock = none ∨ (SV u).ownBlock ≠ (SV v).ownBlock
theorem SlM.keep {w w' : World} {F G : Nat → Prop} {sh : HdT} {hs : List SlH} {sl : List Slot} (h : SlM w F sh hs sl) (hc : ChF G w w') (hn : ∀ b, F b → ¬ G b) : SlM w' F sh hs sl :=
  ⟨own_ChF h.own hc (fun b hb => hn b (h.inF b hb)), h.len, h.hl, h.inF, fun i x s a b => by
    obtain ⟨q1, q2, q3⟩ := h.each i x s a b
    exact ⟨q1, q2.keep hc (fun b hb => hn b (q2.inF b hb)), q3.keep hc (fun b hb => hn b (q3.inF b hb))⟩, h.apart⟩
/-- a disk. -/
def DiskM (w : World) (F : Nat → Prop) (g : Nat) (d : DV) : Prop :=
  ∃ (FL FS : Nat → Prop) (sa rd sh : HdT) (hs : List SlH),
    w.heap[g]? = some (.cells #[.int .i64 d.pow, SV sa, SV rd, .int .i64 (d.base : Nat), .bool d.laid, SV sh] DT (0, 0)) ∧
    LogM w FL sa rd d.safe d.read ∧ SlM w FS sh hs d.sl ∧ (∀ b, FL b → F b ∧ ¬ FS b ∧ b ≠ g) ∧ (∀ b, FS b → F b ∧ b ≠ g) ∧ F g ∧ (∀ b, F b → b < w.heap.size) ∧ d.base ≤ d.read.length ∧ d.pow ≤ 9223372036854775807
theorem DiskM.keep {w w' : World} {F G : Nat → Prop} {g : Nat} {d : DV} (h : DiskM w F g d) (hc : ChF G w w') (hn : ∀ b, F b → ¬ G b) : DiskM w' F g d := by
  obtain ⟨FL, FS, sa, rd, sh, hs, h1, h2, h3, h4, h5, h6, h7, h8, h9⟩ := h
  exact ⟨FL, FS, sa, rd, sh, hs, (hc.block g (h7 g h6) (hn g h6)).trans h1, h2.keep hc (fun b hb => hn b (h4 b hb).1), h3.keep hc (fun b hb => hn b (h5 b hb).1), h4, h5, h6, fun b hb => Nat.lt_of_lt_of_le (h7 b hb) hc.size, h8, h9⟩
def appV (d : DV) (l : List Nat) : DV × Int := if d.pow = 0 then (d, 81) else ({ d with pow := (spendV d.pow).1, read := d.read ++ l }, 0)
theorem cells6D {w : World} {b : Nat} {v0 v1 v2 v3 v4 v5 : Value} {T : TypeId} (h : w.heap[b]? = some (.cells #[v0, v1, v2, v3, v4, v5] T (0, 0))) :
    w.cell? ⟨b, 0, none⟩ = some v0 ∧ w.cell? ⟨b, 1, none⟩ = some v1 ∧ w.cell? ⟨b, 2, none⟩ = some v2 ∧ w.cell? ⟨b, 3, none⟩ = some v3 ∧ w.cell? ⟨b, 4, none⟩ = some v4 ∧ w.cell? ⟨b, 5, none⟩ = some v5 ∧ ∀ j, w.frozen? ⟨b, j, none⟩ = false :=
  ⟨cell_of_row _ _ 0 _ _ _ h, cell_of_row _ _ 1 _ _ _ h, cell_of_row _ _ 2 _ _ _ h, cell_of_row _ _ 3 _ _ _ h, cell_of_row _ _ 4 _ _ _ h, cell_of_row _ _ 5 _ _ _ h, fun _ => frozen_of_row _ _ _ _ _ h⟩
/-- the power's cell is set. -/
theorem pow_set {w : World} {g : Nat} {v0 v1 v2 v3 v4 v5 : Value} {T : TypeId} (p : Value) (h : w.heap[g]? = some (.cells #[v0, v1, v2, v3, v4, v5] T (0, 0))) : (w.setCell ⟨g, 0, none⟩ p).heap[g]? = some (.cells #[p, v1, v2, v3, v4, v5] T (0, 0)) := heap_setCell_same _ _ 0 _ _ _ h
theorem read_set {w : World} {g : Nat} {v0 v1 v2 v3 v4 v5 : Value} {T : TypeId} (p : Value) (h : w.heap[g]? = some (.cells #[v0, v1, v2, v3, v4, v5] T (0, 0))) : (w.setCell ⟨g, 2, none⟩ p).heap[g]? = some (.cells #[v0, v1, p, v3, v4, v5] T (0, 0)) := heap_setCell_same _ _ 2 _ _ _ h
/-- behind spend: the same disk with less power. -/
theorem spent {w : World} {F : Nat → Prop} {g : Nat} {d : DV} (h : DiskM w F g d) (h0 : d.pow ≠ 0) : ∀ w', (w' = if 0 < d.pow then w.setCell ⟨g, 0, none⟩ (.int .i64 (spendV d.pow).1) else w) → DiskM w' F g { d with pow := (spendV d.pow).1 } ∧ ChF F w w' ∧ w'.heap.size = w.heap.size := by
  rintro w' rfl
  obtain ⟨FL, FS, sa, rd, sh, hs, h1, h2, h3, h4, h5, h6, h7, h8, h9⟩ := h
  by_cases hp : 0 < d.pow
  · rw [if_pos hp]
    have hc : ChF (fun b => b = g) w (w.setCell ⟨g, 0, none⟩ (.int .i64 (spendV d.pow).1)) := (ChF.refl _ w).set (.inl rfl)
    refine ⟨⟨FL, FS, sa, rd, sh, hs, pow_set _ h1, h2.keep hc (fun b hb e => (h4 b hb).2.2 e), h3.keep hc (fun b hb e => (h5 b hb).2 e), h4, h5, h6, fun b hb => by simpa [World.setCell] using h7 b hb, h8, ?_⟩, (ChF.refl F w).set (.inl h6), by simp [World.setCell]⟩
    simp only [spendV, if_neg h0, if_pos hp]
    omega
  · rw [if_neg hp]
    have hs' : (spendV d.pow).1 = d.pow := by simp only [spendV, if_neg h0, if_neg hp]
    rw [hs']
    exact ⟨⟨FL, FS, sa, rd, sh, hs, h1, h2, h3, h4, h5, h6, h7, h8, h9⟩, .refl _ _, rfl⟩
theorem spend_ok {p : Int} (h : p ≠ 0) : (spendV p).2 = 0 := by
  unfold spendV
  rw [if_neg h]
  split <;> rfl
theorem spend_none : (spendV 0).2 = 81 := rfl
theorem BytesV.ofChF {w w' : World} {F : Nat → Prop} {x : HdT} {l : List Nat} (h : BytesV w x l) (hc : ChF F w w') (hn : 0 < x.2.1 → ∀ b, (SV x).ownBlock = some b → ¬ F b) : BytesV w' x l := by
  refine ⟨⟨h.row.1, fun h0 => ?_⟩, h.bytes, h.small, h.cap, h.nil⟩
  obtain ⟨b, off, e, hcl⟩ := h.row.2 h0
  refine ⟨b, off, e, fun i hi => ?_⟩
  have hl : i < (l.map bv).length := by rw [h.row.1]; exact hi
  have hci := hcl i hi
  rw [List.getElem?_eq_getElem hl] at hci
  rw [← hcl i hi]
  exact World.cell?_of_block (w := w) (w' := w') (a := ⟨b, off + i, none⟩) (hc.block b (World.block_lt_of_cell? w ⟨b, off + i, none⟩ hci) (hn h0 b (by simp [SV, Value.ownBlock, e])))
set_option maxRecDepth 100000 in
set_option maxHeartbeats 4000000 in
theorem add_any (g : Nat) (rd : HdT) (read : List Nat) (ba : Option Addr) (bn bc : Nat) (l : List Nat) (w : World) (h : w.cell? ⟨g, 2, none⟩ = some (SV rd)) (hf : w.frozen? ⟨g, 2, none⟩ = false) (hown : w.ownsRow 0 5 1 (SV rd) read.length (read.map bv)) (hg : ∀ b, (SV rd).ownBlock = some b → b ≠ g) (hb : BytesV w (ba, bn, bc) l) (hs : read.length + l.length ≤ 1000000000) :
    Calls Try.prog 45 #[.pointer (some ⟨g, 1, none⟩), .slice ba bn bc] w fun e w' => e = .returned (.tuple #[]) ∧ ∃ v' w1, w1.ownsRow 0 5 1 v' (read.length + l.length) (read.map bv ++ l.map bv) ∧ ((v'.ownBlock = (SV rd).ownBlock ∧ w.grownBy w1 (SV rd).ownBlock) ∨ (v'.ownBlock = some w.heap.size ∧ Below w.heap.size w w1)) ∧ w' = w1.setCell ⟨g, 2, none⟩ v' := by
  obtain ⟨i0, hi, hz0, hz1, hz2⟩ := info_parts Try.info5
  have hbl : l.length = bn := hb.length
  have hgl := World.block_lt_of_cell? w ⟨g, 2, none⟩ h
  obtain ⟨r1, r2, r3⟩ := rd
  replace h : w.cell? ⟨g, 2, none⟩ = some (.slice r1 r2 r3) := h
  have HB := Lib.hid hb
  have HO := Lib.hid hown
  have HG := Lib.hid hg
  have HF := Lib.hid hf
  have HL := Lib.hid hbl
  have HBLK := Lib.hid (show ∀ w1 : World, w1.heap[g]? = w.heap[g]? → w1.cell? ⟨g, 2, none⟩ = some (.slice r1 r2 r3) ∧ w1.frozen? ⟨g, 2, none⟩ = false from fun w1 e => ⟨(World.cell?_of_block (w := w) (w' := w1) (a := ⟨g, 2, none⟩) e).trans h, (World.frozen?_of_block (w := w) (w' := w1) (a := ⟨g, 2, none⟩) e).trans hf⟩)
  clear hb hown hg hf hbl
  go_enter Try.func45, Try.ntmps45
  go_wp2_with (first | (at_builtin; refine Hid.out ?_))
  refine Lib.hid ?_
  refine wpList_append_two rfl _ _ 28 rfl 5 i0 (.int .u8 0) 1 Try.underlying28 hi hz0 hz1 hz2 rfl _ _ _ rfl HO.out ba bn bc (l.map bv) rfl HB.out.row HB.out.nil (bv_one l) (by have := HL.out; simp [maxLen]; omega) (by have := HL.out; omega) ?_
  intro v' w1 hE hcs
  rw [← HL.out] at hE
  obtain ⟨k1, k2⟩ := HBLK.out w1 (by
    rcases hcs with ⟨-, k⟩ | ⟨-, k⟩
    · exact k.block g hgl (fun e => HG.out g e.symm rfl)
    · exact k.block g hgl)
  have HE := Lib.hid hE
  have HC := Lib.hid hcs
  obtain ⟨ad, cap, rfl, -, -⟩ := ownsRow_parts hE
  clear hE hcs h
  go_wp2
  exact bodyPost_end (v := .tuple #[]) (results_none rfl _ _ _) rfl ⟨rfl, _, w1, HE.out, HC.out, rfl⟩
set_option maxRecDepth 100000 in
set_option maxHeartbeats 4000000 in
theorem append_any (F : Nat → Prop) (g : Nat) (d : DV) (ba : Option Addr) (bn bc : Nat) (l : List Nat) (w : World) (hD : DiskM w F g d) (hb : BytesV w (ba, bn, bc) l) (hbF : 0 < bn → ∀ b, (SV (ba, bn, bc)).ownBlock = some b → ¬ F b) (hs : d.read.length + l.length ≤ 1000000000) :
    Calls Try.prog 20 #[.pointer (some ⟨g, 0, none⟩), .slice ba bn bc] w fun e w' => e = .returned (.int .i64 (appV d l).2) ∧ DiskM w' (Gr F w w') g (appV d l).1 ∧ ChF F w w' := by
  obtain ⟨i0, hi, hz0, hz1, hz2⟩ := info_parts Try.info5
  have HD := Lib.hid hD
  obtain ⟨FL, FS, sa, rd, sh, hs', h1, h2, h3, h4, h5, h6, h7, h8, h9⟩ := hD
  obtain ⟨c0, -, -, -, -, -, cF⟩ := cells6D h1
  have KS := spend_any g d.pow w c0 (cF 0) h9
  have HB := Lib.hid hb
  have HBF := Lib.hid hbF
  have HS := Lib.hid hs
  have HG := Lib.hid h6
  clear h1 h2 h3 h4 h5 h7 h8 c0 cF hs hbF
  unfold appV
  by_cases h0 : d.pow = 0
  · rw [h0, spend_none] at KS
    rw [if_pos h0]
    go_enter Try.func20, Try.ntmps20
    go_wp2_with fail
    (with_reducible refine KS.mono ?_)
    rintro e w1 ⟨rfl, hw⟩
    rw [if_neg (by decide)] at hw
    subst hw
    clear KS
    go_wp2
    go_ret
    refine ⟨rfl, ?_, .refl _ _⟩
    obtain ⟨FL, FS, sa, rd, sh, hs, h1, h2, h3, h4, h5, h6, h7, h8, h9⟩ := HD.out
    exact ⟨FL, FS, sa, rd, sh, hs, h1, h2, h3, fun b hb => ⟨.inl (h4 b hb).1, (h4 b hb).2⟩, fun b hb => ⟨.inl (h5 b hb).1, (h5 b hb).2⟩, .inl h6, fun b hb => by rcases hb with q | q; exact h7 b q; omega, h8, h9⟩
  · rw [spend_ok h0] at KS
    rw [if_neg h0]
    go_enter Try.func20, Try.ntmps20
    go_wp2_with fail
    (with_reducible refine KS.mono ?_)
    rintro e w1 ⟨rfl, hw⟩
    obtain ⟨hd1, hc1, hsz⟩ := spent HD.out h0 w1 hw
    clear KS hw
    obtain ⟨FL, FS, sa, rd, sh, hs, h1, h2, h3, h4, h5, h6, h7, h8, h9⟩ := hd1
    simp only at h1 h2 h3 h8 h9
    obtain ⟨c0, c1, c2, c3, c4, c5, cF⟩ := cells6D h1
    have cF2 := cF 2
    have HBV := Lib.hid (HB.out.ofChF hc1 HBF.out)
    have HC1 := Lib.hid hc1
    have KA := add_any g rd d.read ba bn bc l w1 c2 cF2 h2.now.own (fun b hb => (h4 b (h2.now.inF b hb)).2.2) HBV.out HS.out
    have HFIN := Lib.hid (show ∀ v' w2, w2.ownsRow 0 5 1 v' (d.read.length + l.length) (d.read.map bv ++ l.map bv) → ((v'.ownBlock = (SV rd).ownBlock ∧ w1.grownBy w2 (SV rd).ownBlock) ∨ (v'.ownBlock = some w1.heap.size ∧ Below w1.heap.size w1 w2)) → DiskM (w2.setCell ⟨g, 2, none⟩ v') (Gr F w (w2.setCell ⟨g, 2, none⟩ v')) g { d with pow := (spendV d.pow).1, read := d.read ++ l } ∧ ChF F w (w2.setCell ⟨g, 2, none⟩ v') from fun v' w2 hE hcs => by
      obtain ⟨rd', rfl, q1, q2⟩ := h2.append HB.out.bytes HS.out hE hcs
      have hblk : w2.heap[g]? = w1.heap[g]? := q2.block g (h7 g h6) (fun e => (h4 g e).2.2 rfl)
      have hcF : ChF F w1 w2 := ⟨q2.os, q2.tape, q2.output, q2.size, fun b hb hn => q2.block b hb (fun e => hn (h4 b e).1)⟩
      have hset : ChF (fun b => b = g) w2 (w2.setCell ⟨g, 2, none⟩ (SV rd')) := (ChF.refl _ w2).set (.inl rfl)
      have hz : w1.heap.size ≤ w2.heap.size := q2.size
      refine ⟨⟨Gr FL w1 w2, FS, sa, rd', sh, hs, read_set _ (hblk.trans h1), q1.keep hset (fun b hb e => by
        subst e
        rcases hb with k | k
        · exact (h4 b k).2.2 rfl
        · have := h7 b h6; omega), (h3.keep q2 (fun b hb e => (h4 b e).2.1 hb)).keep hset (fun b hb e => (h5 b hb).2 e), fun b hb => ?_, fun b hb => ⟨.inl (h5 b hb).1, (h5 b hb).2⟩, .inl h6, fun b hb => ?_, by simp; omega, h9⟩, (HC1.out.trans hcF (fun b hb => .inl hb)).set (.inl h6)⟩
      · rcases hb with k | k
        · exact ⟨.inl (h4 b k).1, (h4 b k).2⟩
        · refine ⟨.inr ⟨by rw [← hsz]; exact k.1, by simpa [World.setCell] using k.2⟩, fun e => ?_, fun e => ?_⟩
          · have := h7 b (h5 b e).1; omega
          · subst e; have := h7 b h6; omega
      · rcases hb with k | k
        · have := h7 b k
          simp [World.setCell]; omega
        · exact k.2)
    clear h1 h2 h3 h4 h5 h6 h7 h8 h9 c0 c1 c2 c3 c4 c5 cF cF2 hc1
    go_wp2_with fail
    (with_reducible refine KA.mono ?_)
    rintro e w2 ⟨rfl, v', w3, hE, hcs, rfl⟩
    have HF2 := Lib.hid (HFIN.out v' w3 hE hcs)
    clear KA HFIN hE hcs
    go_wp2
    go_ret
    exact ⟨rfl, HF2.out.1, HF2.out.2⟩
end Go.Proofs.Ytdidalcflkphnaa
