/-
  disk: SyncSlots.
-/
import Derived.Test.YtdidalcflkphnaaDiM
namespace Go.Proofs.Ytdidalcflkphnaa
open Go.RowKit

def syncS (s : Slot) : Slot := if s.2.2 = true then (s.2.1, s.2.1, false) else s
def syncTo (sl : List Slot) (k : Nat) : List Slot := (sl.take k).map syncS ++ sl.drop k
theorem syncTo_length (sl : List Slot) (k : Nat) : (syncTo sl k).length = sl.length := by simp [syncTo]; omega
theorem syncTo_at {sl : List Slot} {k : Nat} {s : Slot} (h : sl[k]? = some s) : (syncTo sl k)[k]? = some s := by
  have hk := (List.getElem?_eq_some_iff.1 h).1
  unfold syncTo
  rw [List.getElem?_append_right (by simp; omega), List.getElem?_drop]
  rw [← h]
  congr 1
  simp; omega
theorem syncTo_step {sl : List Slot} {k : Nat} {s : Slot} (h : sl[k]? = some s) : syncTo sl (k + 1) = (syncTo sl k).set k (syncS s) := by
  have hk := (List.getElem?_eq_some_iff.1 h).1
  unfold syncTo
  rw [take_step sl k s h, List.map_append, List.append_assoc]
  rw [List.set_append_right _ _ (by simp; omega)]
  congr 1
  have : sl.drop k = s :: sl.drop (k + 1) := by
    rw [List.drop_eq_getElem_cons hk]
    congr 1
    rw [List.getElem?_eq_getElem hk] at h
    injection h
  rw [this]
  have e : k - ((sl.take k).map syncS).length = 0 := by simp; omega
  rw [e]
  rfl
theorem syncTo_keep {sl : List Slot} {k : Nat} {s : Slot} (h : sl[k]? = some s) (hw : s.2.2 = false) : syncTo sl (k + 1) = syncTo sl k := by
  rw [syncTo_step h]
  have : syncS s = s := by unfold syncS; rw [hw]; rfl
  rw [this]
  exact set_sameD _ _ _ (syncTo_at h)
theorem syncTo_all (sl : List Slot) : syncTo sl sl.length = sl.map syncS := by simp [syncTo]
theorem syncTo_none (sl : List Slot) : syncTo sl 0 = sl := by simp [syncTo]
theorem SlM.sync {w1 w2 : World} {F : Nat → Prop} {b c k n : Nat} {hs : List SlH} {sl : List Slot} (h : SlM w1 F (some ⟨b, 0, none⟩, n, c) hs sl) {x : SlH} (hx : hs[k]? = some x) {s : Slot} (hs' : sl[k]? = some s)
    {a : Option Addr} {cap : Nat} {l : List Nat} (o : w2.ownsRow w1.heap.size 5 1 (.slice a l.length cap) l.length (l.map bv)) (bl : Below w1.heap.size w1 w2) (hl : Bytes l) (hsm : l.length ≤ 1000000000) :
    SlM ((w2.setCell ⟨b, k * 3, none⟩ (.slice a l.length cap)).setCell ⟨b, k * 3 + 2, none⟩ (.bool false)) (Gr F w1 w2) (some ⟨b, 0, none⟩, n, c) (hs.set k ((a, l.length, cap), x.2.1, false)) (sl.set k (l, s.2.1, false)) := by
  have hc0 : ChF (fun _ => False) w1 w2 := .of_below bl
  obtain ⟨cur, hb1⟩ := h.block
  have hbF : F b := h.inF b rfl
  have hb2 : w2.heap[b]? = some (.cells cur KT (0, 0)) := (hc0.block b (Array.getElem?_eq_some_iff.1 hb1).1 (fun e => e)).trans hb1
  have hset : ChF (fun q => q = b) w2 ((w2.setCell ⟨b, k * 3, none⟩ (.slice a l.length cap)).setCell ⟨b, k * 3 + 2, none⟩ (.bool false)) := (((ChF.refl (fun q => q = b) w2).set (g := b) (.inl (show b = b from rfl))).set (g := b) (.inl (show b = b from rfl)))
  have hnew : ByF w2 (Gr F w1 w2) (a, l.length, cap) l := ⟨own_zero o, rfl, hl, hsm, fun q hq => .inr (o.lt q hq)⟩
  have hk2 := h.keep hc0 (fun _ _ e => e)
  have hkeep : ∀ y t, ByF w2 F y t → ByF ((w2.setCell ⟨b, k * 3, none⟩ (.slice a l.length cap)).setCell ⟨b, k * 3 + 2, none⟩ (.bool false)) (Gr F w1 w2) y t := fun y t hy => (hy.keep hset (fun q hq e => hy.ne hb2 q hq e)).mono (fun q hq => .inl hq)
  have hln := h.len
  simp only at hln
  refine ⟨?_, by simpa using h.len, by simpa using h.hl, fun q hq => .inl (h.inF q hq), fun i u t hu ht => ?_, ?_⟩
  · rw [kcells_safe hs k x _ _ hx, List.length_set]
    have ho := hk2.own
    simp only [SV] at ho ⊢
    rw [hln] at ho ⊢
    exact own_setS (own_setS ho _ _) _ _
  · by_cases e : i = k
    · subst e
      rw [List.getElem?_set_self (List.getElem?_eq_some_iff.1 hx).1] at hu
      rw [List.getElem?_set_self (List.getElem?_eq_some_iff.1 hs').1] at ht
      injection hu with hu
      injection ht with ht
      subst hu ht
      obtain ⟨-, -, q1⟩ := hk2.each i x s hx hs'
      exact ⟨rfl, hnew.keep hset (fun q hq e => hnew.ne hb2 q hq e), hkeep _ _ q1⟩
    · rw [List.getElem?_set_ne (fun q => e q.symm)] at hu ht
      obtain ⟨q0, q1, q2⟩ := hk2.each i u t hu ht
      exact ⟨q0, hkeep _ _ q1, hkeep _ _ q2⟩
  · obtain ⟨p1, p2⟩ := hdr_safe hs k x (a, l.length, cap) false hx
    exact apart_put (m := w1.heap.size) h.apart (fun j u q h1 h2 => (h.hdr_lt j u q h1 h2).1) p1 p2 (fun q hq => (o.lt q hq).1)
theorem DiskM.wide {w : World} {F F' : Nat → Prop} {g : Nat} {d : DV} (h : DiskM w F g d) (hF : ∀ b, F b → F' b) (hl : ∀ b, F' b → b < w.heap.size) : DiskM w F' g d := by
  obtain ⟨FL, FS, sa, rd, sh, hs, h1, h2, h3, h4, h5, h6, h7, h8, h9⟩ := h
  exact ⟨FL, FS, sa, rd, sh, hs, h1, h2, h3, fun b hb => ⟨hF b (h4 b hb).1, (h4 b hb).2⟩, fun b hb => ⟨hF b (h5 b hb).1, (h5 b hb).2⟩, hF g h6, hl, h8, h9⟩
/-- a slot's headers and bytes, and what a change of them gives. -/
theorem DiskM.slot {w : World} {F : Nat → Prop} {g : Nat} {d : DV} (h : DiskM w F g d) {v : Value} (k5 : w.cell? ⟨g, 5, none⟩ = some v) {k : Nat} {s : Slot} (hs : d.sl[k]? = some s) :
    ∃ b c x, v = .slice (some ⟨b, 0, none⟩) d.sl.length c ∧ d.sl.length ≤ c ∧ c ≤ maxLen ∧ w.cell? ⟨b, 0 + k * 3, none⟩ = some (SV x.1) ∧ w.cell? ⟨b, 0 + k * 3 + 1, none⟩ = some (SV x.2.1) ∧ w.cell? ⟨b, 0 + k * 3 + 2, none⟩ = some (.bool s.2.2) ∧ (∀ j, w.frozen? ⟨b, j, none⟩ = false) ∧ b ≠ g ∧ ByF w F x.1 s.1 ∧ ByF w F x.2.1 s.2.1 ∧ ((SV x.1).ownBlock = none ∨ (SV x.1).ownBlock ≠ (SV x.2.1).ownBlock) ∧ b < w.heap.size ∧ g < w.heap.size ∧
      (∀ (G : Nat → Prop) w2 w3 s', Below w.heap.size w w2 → ChF G w2 w3 → w3.heap.size = w2.heap.size → (∀ FS hs, SlM w FS (some ⟨b, 0, none⟩, d.sl.length, c) hs d.sl → hs[k]? = some x → (∀ q, G q → FS q) ∧ ∃ hs', SlM w3 (Gr FS w w2) (some ⟨b, 0, none⟩, d.sl.length, c) hs' s') →
        DiskM w3 (Gr F w w3) g { d with sl := s' } ∧ ChF F w w3 ∧ w3.cell? ⟨g, 5, none⟩ = some (.slice (some ⟨b, 0, none⟩) d.sl.length c)) := by
  obtain ⟨FL, FS, sa, rd, sh, hs0, h1, h2, h3, h4, h5, h6, h7, h8, h9⟩ := h
  obtain ⟨-, -, -, -, -, c5, -⟩ := cells6D h1
  rw [k5] at c5
  have hk := (List.getElem?_eq_some_iff.1 hs).1
  obtain ⟨b, c, x, e, hc, hx, x0, x1, x2, xF⟩ := h3.at hk
  obtain ⟨q0, q1, q2⟩ := h3.each k x s hx hs
  subst e
  have hbF : FS b := h3.inF b rfl
  have hgl := h7 g h6
  have hne : b ≠ g := (h5 b hbF).2
  obtain ⟨cur, hblk⟩ := h3.block
  have hcm : c ≤ maxLen := by
    rcases h3.own.2 with ⟨e, -⟩ | ⟨g', cap', cur', e, -, -, -, q, -⟩
    · cases e
    · simp only [SV, Value.slice.injEq] at e
      rw [e.2.2]; exact q
  refine ⟨b, c, x, by simpa [SV] using c5, hc, hcm, x0, x1, by rw [← q0]; exact x2, xF, hne, q1.mono (fun q hq => (h5 q hq).1), q2.mono (fun q hq => (h5 q hq).1), h3.apart (2 * k) (2 * k + 1) x.1 x.2.1 (by unfold hdr; rw [show (2 * k) / 2 = k by omega, hx]; simp [show (2 * k) % 2 = 0 by omega]) (by unfold hdr; rw [show (2 * k + 1) / 2 = k by omega, hx]; simp [show (2 * k + 1) % 2 = 1 by omega]) (by omega), (Array.getElem?_eq_some_iff.1 hblk).1, hgl, fun G w2 w3 s' bl hset hz3 hS => ?_⟩
  obtain ⟨hG, hs', q⟩ := hS FS hs0 h3 hx
  have hz : w.heap.size ≤ w2.heap.size := bl.size
  have hcN : ChF (fun _ => False) w w2 := .of_below bl
  have hgb : w3.heap[g]? = w.heap[g]? := (hset.block g (by omega) (fun e => (h5 g (hG g e)).2 rfl)).trans (bl.block g hgl)
  refine ⟨⟨FL, Gr FS w w2, sa, rd, _, hs', hgb.trans h1, (h2.keep hcN (fun _ _ e => e)).keep hset (fun q hq e => (h4 q hq).2.1 (hG q e)), q, fun q hq => ⟨.inl (h4 q hq).1, fun e => ?_, (h4 q hq).2.2⟩, fun q hq => ?_, .inl h6, fun q hq => ?_, h8, h9⟩, (ChF.of_below (F := F) bl).trans (hset.widen (F' := F) (fun q hq => (h5 q (hG q hq)).1)) (fun q hq => .inl hq), ?_⟩
  · rcases e with q1 | q1
    · exact (h4 q hq).2.1 q1
    · have := h7 q (h4 q hq).1; omega
  · rcases hq with q1 | q1
    · exact ⟨.inl (h5 q q1).1, (h5 q q1).2⟩
    · exact ⟨.inr ⟨q1.1, by rw [hz3]; exact q1.2⟩, fun e => by subst e; omega⟩
  · rcases hq with q1 | q1
    · have := h7 q q1; omega
    · exact q1.2
  · rw [(World.cell?_of_block (w := w) (w' := w3) (a := ⟨g, 5, none⟩) hgb), k5, c5]; rfl
theorem DiskM.lt {w : World} {F : Nat → Prop} {g : Nat} {d : DV} (h : DiskM w F g d) : (∀ b, F b → b < w.heap.size) ∧ F g := by
  obtain ⟨_, _, _, _, _, _, _, _, _, _, _, h6, h7, _⟩ := h
  exact ⟨h7, h6⟩
theorem DiskM.cell5 {w : World} {F : Nat → Prop} {g : Nat} {d : DV} (h : DiskM w F g d) : ∃ s1 s3, w.cell? ⟨g, 5, none⟩ = some (.slice s1 d.sl.length s3) ∧ w.frozen? ⟨g, 5, none⟩ = false := by
  obtain ⟨_, _, _, _, ⟨s1, s2, s3⟩, _, h1, _, h3, _, _, _, _⟩ := h
  obtain ⟨-, -, -, -, -, c5, cF⟩ := cells6D h1
  have := h3.len
  simp only at this
  subst this
  exact ⟨s1, s3, c5, cF 5⟩
theorem ByF.bv_ {w : World} {F : Nat → Prop} {x : HdT} {l : List Nat} (h : ByF w F x l) : BytesV w (x.1, x.2.1, x.2.2) l := by
  have q := h.bytesV
  rw [← h.len] at q
  exact q
theorem below_trans {a b c : World} (h : Below a.heap.size a b) (k : Below b.heap.size b c) : Below a.heap.size a c :=
  ⟨k.os.trans h.os, k.tape.trans h.tape, k.output.trans h.output, Nat.le_trans h.size k.size, fun x hx => (k.block x (Nat.lt_of_lt_of_le hx h.size)).trans (h.block x hx)⟩
theorem DiskM.gr2 {w wr w3 : World} {F : Nat → Prop} {g : Nat} {d : DV} (hF : ∀ b, F b → b < w.heap.size) (h1 : w.heap.size ≤ wr.heap.size) (h2 : wr.heap.size ≤ w3.heap.size) (h : DiskM w3 (Gr (Gr F w wr) wr w3) g d) : DiskM w3 (Gr F w w3) g d :=
  h.wide (fun b hb => by
    rcases hb with (q | q) | q
    · exact .inl q
    · exact .inr ⟨q.1, by omega⟩
    · exact .inr ⟨by omega, q.2⟩) (fun b hb => by
    rcases hb with q | q
    · have := hF b q; omega
    · exact q.2)
theorem DiskM.below {w wr w3 : World} {F : Nat → Prop} {g : Nat} {d : DV} (hF : ∀ b, F b → b < w.heap.size) (h1 : w.heap.size ≤ wr.heap.size) (hb : Below wr.heap.size wr w3) (h : DiskM wr (Gr F w wr) g d) : DiskM w3 (Gr F w w3) g d :=
  (h.keep (G := fun _ => False) (.of_below hb) (fun _ _ e => e)).wide (fun b q => by
    have := hb.size
    rcases q with q | q
    · exact .inl q
    · exact .inr ⟨q.1, by omega⟩) (fun b q => by
    have := hb.size
    rcases q with q | q
    · have := hF b q; omega
    · exact q.2)
theorem ChF.gr2 {w wr w3 : World} {F : Nat → Prop} (h : ChF F w wr) (k : ChF (Gr F w wr) wr w3) : ChF F w w3 := h.trans k (fun x hx => by
  rcases hx with q | q
  · exact .inl q
  · exact .inr q.1)
def slotsV (d : DV) : DV × Int := if d.pow = 0 then (d, 81) else ({ d with pow := (spendV d.pow).1, sl := d.sl.map syncS }, 0)
end Go.Proofs.Ytdidalcflkphnaa
