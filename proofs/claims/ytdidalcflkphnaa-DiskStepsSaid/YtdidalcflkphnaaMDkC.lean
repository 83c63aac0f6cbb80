/-
  rillref08: what Left's loop keeps: the result's box and its slots' slices.
-/
import Derived.Test.YtdidalcflkphnaaMDkB
namespace Go.Proofs.Ytdidalcflkphnaa
open Go.RowKit

/-- where the rows of the result may lie: not in the box, not in the slices of rows. -/
def RowQ (B t : Nat) (o : RefH) (w : World) (b : Nat) : Prop := B ≤ b ∧ b < w.heap.size ∧ b ≠ t ∧ (SV o.st).ownBlock ≠ some b ∧ (SV o.no).ownBlock ≠ some b ∧ (SV o.fr).ownBlock ≠ some b
structure RowsQ (B t : Nat) (o : RefH) (x : HdT) (L : List (List Nat)) (w : World) : Prop where
  ex : ∃ hs : List HdT, w.ownsRow B 28 1 (SV x) L.length (hs.map SV) ∧ hs.length = L.length ∧ ∀ (i : Nat) y l, hs[i]? = some y → L[i]? = some l → ByR w (RowQ B t o w) y l
structure LInv (w0 : World) (B t : Nat) (h : RefH) (f : Array Value) (o : RefH) (L5 L6 : List (List Nat)) (w : World) : Prop where
  bx : Box3 w0 w h f
  ob : w.heap[t]? = some (.cells o.cells RT (0, 0))
  tB : w0.heap.size + 3 ≤ t
  BB : w0.heap.size + 3 ≤ B
  Bt : B ≤ t
  r5 : RowsQ B t o o.st L5 w
  r6 : RowsQ B t o o.no L6 w
  len : L5.length = L6.length
  o7 : w.ownsRow B 4 1 (SV o.fr) L5.length (List.replicate L5.length (.bool false))
  ap : ∀ b, (SV o.st).ownBlock = some b → (SV o.no).ownBlock = some b → False
  lt5 : ∀ b, (SV o.st).ownBlock = some b → b < t
  lt6 : ∀ b, (SV o.no).ownBlock = some b → b < t
  lt7 : ∀ b, (SV o.fr).ownBlock = some b → b < t
theorem RowsQ.keep {B t : Nat} {o : RefH} {x : HdT} {L : List (List Nat)} {w w' : World} {G : Nat → Prop} (k : RowsQ B t o x L w) (hc : ChF G w w') (hx : ∀ b, (SV x).ownBlock = some b → ¬ G b) (hn : ∀ b, RowQ B t o w b → ¬ G b) : RowsQ B t o x L w' := by
  obtain ⟨hs, h1, h2, h3⟩ := k.ex
  exact ⟨hs, own_ChF h1 hc hx, h2, fun i y l a b => ((h3 i y l a b).keep hc hn).mono (fun b q => ⟨q.1, Nat.lt_of_lt_of_le q.2.1 hc.size, q.2.2⟩)⟩
theorem LInv.below {w0 : World} {B t : Nat} {h : RefH} {f : Array Value} {o : RefH} {L5 L6 : List (List Nat)} {w w' : World} (k : LInv w0 B t h f o L5 L6 w) (hb : Below w.heap.size w w') : LInv w0 B t h f o L5 L6 w' :=
  have c := ChF.of_below (F := fun _ => False) hb
  ⟨k.bx.below hb, (hb.block t (Array.getElem?_eq_some_iff.1 k.ob).1).trans k.ob, k.tB, k.BB, k.Bt, k.r5.keep c (fun _ _ e => e) (fun _ _ e => e), k.r6.keep c (fun _ _ e => e) (fun _ _ e => e), k.len, own_ChF k.o7 c (fun _ _ e => e), k.ap, k.lt5, k.lt6, k.lt7⟩
theorem RowsQ.set {B t g j c n : Nat} {o : RefH} {L : List (List Nat)} {w : World} {y : HdT} {l : List Nat} (k : RowsQ B t o (some ⟨g, 0, none⟩, n, c) L w) (hn : n = L.length) (hQ : ∀ b, RowQ B t o w b → b ≠ g) (hj : j < L.length) (hy : ByR w (RowQ B t o w) y l) :
    RowsQ B t o (some ⟨g, 0, none⟩, n, c) (L.set j l) (w.setCell ⟨g, j, none⟩ (SV y)) := by
  obtain ⟨hs, h1, h2, h3⟩ := k.ex
  subst hn
  have hset : ChF (fun q => q = g) w (w.setCell ⟨g, j, none⟩ (SV y)) := (ChF.refl (fun q => q = g) w).set (g := g) (.inl rfl)
  have z4 : (w.setCell ⟨g, j, none⟩ (SV y)).heap.size = w.heap.size := by simp [World.setCell]
  have hm : ∀ b, RowQ B t o w b → RowQ B t o (w.setCell ⟨g, j, none⟩ (SV y)) b := fun b q => ⟨q.1, by rw [z4]; exact q.2.1, q.2.2⟩
  refine ⟨hs.set j y, ?_, by rw [List.length_set, List.length_set]; exact h2, fun i x l1 e1 e2 => ?_⟩
  · rw [List.length_set, List.map_set]
    exact own_setS h1 j _
  · rw [List.getElem?_set] at e1 e2
    by_cases hq : j = i
    · subst hq
      rw [if_pos rfl, if_pos (by omega)] at e1
      rw [if_pos rfl, if_pos (by omega)] at e2
      injection e1 with e1
      injection e2 with e2
      subst e1 e2
      exact (hy.keep hset hQ).mono hm
    · rw [if_neg hq] at e1 e2
      exact ((h3 i x l1 e1 e2).keep hset hQ).mono hm
/-- a slot of the result is written, in Still. -/
theorem LInv.set5 {w0 : World} {B t : Nat} {h : RefH} {f : Array Value} {o : RefH} {L5 L6 : List (List Nat)} {w : World} {g n c j : Nat} {y : HdT} {l : List Nat} (k : LInv w0 B t h f o L5 L6 w) (hg : o.st = (some ⟨g, 0, none⟩, n, c)) (hn : n = L5.length) (hj : j < L5.length) (hy : ByR w (RowQ B t o w) y l) :
    LInv w0 B t h f o (L5.set j l) L6 (w.setCell ⟨g, j, none⟩ (SV y)) := by
  have hgb : (SV o.st).ownBlock = some g := by rw [hg]; rfl
  have hgt := k.lt5 g hgb
  have hset : ChF (fun q => q = g) w (w.setCell ⟨g, j, none⟩ (SV y)) := (ChF.refl (fun q => q = g) w).set (g := g) (.inl rfl)
  have hQ : ∀ b, RowQ B t o w b → b ≠ g := fun b q e => q.2.2.2.1 (by rw [e]; exact hgb)
  have hgB : B ≤ g := by obtain ⟨hs, h1, -⟩ := k.r5.ex; exact (h1.lt g hgb).1
  have h7 : ∀ b, (SV o.fr).ownBlock = some b → ¬ b = g := fun b e1 e2 => by
    obtain ⟨hs, h1, -⟩ := k.r5.ex
    exact ne_of h1 k.o7 (by decide) g hgb (e2 ▸ e1)
  have r5 := k.r5
  rw [hg] at r5
  have r5' := r5.set hn hQ hj hy
  rw [← hg] at r5'
  refine ⟨k.bx.keep hset (fun b e => by have := k.BB; omega), (hset.block t (Array.getElem?_eq_some_iff.1 k.ob).1 (fun e => by omega)).trans k.ob, k.tB, k.BB, k.Bt, r5', k.r6.keep hset (fun b e1 e2 => k.ap g hgb (e2 ▸ e1)) hQ, by rw [List.length_set]; exact k.len, ?_, k.ap, k.lt5, k.lt6, k.lt7⟩
  rw [List.length_set]
  exact own_ChF k.o7 hset h7
/-- a slot of the result is written, in Now. -/
theorem LInv.set6 {w0 : World} {B t : Nat} {h : RefH} {f : Array Value} {o : RefH} {L5 L6 : List (List Nat)} {w : World} {g n c j : Nat} {y : HdT} {l : List Nat} (k : LInv w0 B t h f o L5 L6 w) (hg : o.no = (some ⟨g, 0, none⟩, n, c)) (hn : n = L6.length) (hj : j < L6.length) (hy : ByR w (RowQ B t o w) y l) :
    LInv w0 B t h f o L5 (L6.set j l) (w.setCell ⟨g, j, none⟩ (SV y)) := by
  have hgb : (SV o.no).ownBlock = some g := by rw [hg]; rfl
  have hgt := k.lt6 g hgb
  have hset : ChF (fun q => q = g) w (w.setCell ⟨g, j, none⟩ (SV y)) := (ChF.refl (fun q => q = g) w).set (g := g) (.inl rfl)
  have hQ : ∀ b, RowQ B t o w b → b ≠ g := fun b q e => q.2.2.2.2.1 (by rw [e]; exact hgb)
  have hgB : B ≤ g := by obtain ⟨hs, h1, -⟩ := k.r6.ex; exact (h1.lt g hgb).1
  have h7 : ∀ b, (SV o.fr).ownBlock = some b → ¬ b = g := fun b e1 e2 => by
    obtain ⟨hs, h1, -⟩ := k.r6.ex
    exact ne_of h1 k.o7 (by decide) g hgb (e2 ▸ e1)
  have r6 := k.r6
  rw [hg] at r6
  have r6' := r6.set hn hQ hj hy
  rw [← hg] at r6'
  exact ⟨k.bx.keep hset (fun b e => by have := k.BB; omega), (hset.block t (Array.getElem?_eq_some_iff.1 k.ob).1 (fun e => by omega)).trans k.ob, k.tB, k.BB, k.Bt, k.r5.keep hset (fun b e1 e2 => k.ap g (e2 ▸ e1) hgb) hQ, r6', by rw [List.length_set]; exact k.len, own_ChF k.o7 hset h7, k.ap, k.lt5, k.lt6, k.lt7⟩
/-- a row that a call of its own gave may be written. -/
theorem LInv.rowQ {w0 : World} {B t : Nat} {h : RefH} {f : Array Value} {o : RefH} {L5 L6 : List (List Nat)} {w w' : World} (k : LInv w0 B t h f o L5 L6 w) (b : Nat) (h1 : w.heap.size ≤ b) (h2 : b < w'.heap.size) : RowQ B t o w' b := by
  have ht := (Array.getElem?_eq_some_iff.1 k.ob).1
  refine ⟨by have := k.Bt; omega, h2, by omega, fun e => by have := k.lt5 b e; omega, fun e => by have := k.lt6 b e; omega, fun e => by have := k.lt7 b e; omega⟩
theorem RowsQ.fresh {B t n c : Nat} {a : Option Addr} {o : RefH} {w : World} (h : w.ownsRow B 28 1 (.slice a n c) n (List.replicate n nS)) : RowsQ B t o (a, n, c) (List.replicate n []) w := by
  refine ⟨List.replicate n nH, ?_, by simp, fun i y l h1 h2 => ?_⟩
  · rw [List.map_replicate, List.length_replicate]
    exact h
  · rw [List.getElem?_replicate] at h1 h2
    split at h1
    · rename_i hi
      rw [if_pos hi] at h2
      injection h1 with h1
      injection h2 with h2
      subst h1 h2
      exact .empty w _
    · cases h1
theorem LInv.start {w0 w1 w : World} {t B n c5 c6 c7 : Nat} {a5 a6 a7 : Option Addr} {h : RefH} {f : Array Value} {o : RefH} (ht : t = w1.heap.size) (k : NewR B w1 (a5, n, c5) (a6, n, c6) (a7, n, c7)) (hc : ChF (fun b => w1.heap.size ≤ b) w1 w) (hb : Box3 w0 w h f) (ho : w.heap[t]? = some (.cells o.cells RT (0, 0))) (h5 : o.st = (a5, n, c5)) (h6 : o.no = (a6, n, c6)) (h7 : o.fr = (a7, n, c7))
    (tB : w0.heap.size + 3 ≤ t) (BB : w0.heap.size + 3 ≤ B) (Bt : B ≤ t) : LInv w0 B t h f o (List.replicate n []) (List.replicate n []) w := by
  subst ht
  have l5 := k.o5.lt
  have l6 := k.o6.lt
  have l7 := k.o7.lt
  have e5 := own_ChF k.o5 hc (fun b e q => by have := (l5 b e).2; omega)
  have e6 := own_ChF k.o6 hc (fun b e q => by have := (l6 b e).2; omega)
  have e7 := own_ChF k.o7 hc (fun b e q => by have := (l7 b e).2; omega)
  refine ⟨hb, ho, tB, BB, Bt, ?_, ?_, rfl, ?_, ?_, ?_, ?_, ?_⟩
  · rw [h5]; exact .fresh e5
  · rw [h6]; exact .fresh e6
  · rw [h7, List.length_replicate]; exact e7
  · rw [h5, h6]; exact k.ap
  · rw [h5]; exact fun b e => (l5 b e).2
  · rw [h6]; exact fun b e => (l6 b e).2
  · rw [h7]; exact fun b e => (l7 b e).2
theorem NewR.le {B n c5 : Nat} {w : World} {a5 : Option Addr} {x6 x7 : HdT} (k : NewR B w (a5, n, c5) x6 x7) (hn : 1 ≤ n) : B ≤ w.heap.size := by
  obtain ⟨_, _, e, hcs, -⟩ := ownsRow_parts k.o5
  rcases hcs with ⟨-, q, -⟩ | ⟨g, -, h1, h2⟩
  · simp only at q; omega
  · omega
theorem RowsQ.rows {B t n c : Nat} {a : Option Addr} {o : RefH} {w : World} {L : List (List Nat)} {R : Nat → Prop} (k : RowsQ B t o (a, n, c) L w) (hn : n = L.length) (hR : ∀ b, B ≤ b → b < w.heap.size → R b) : RowsR w R (a, n, c) L := by
  subst hn
  obtain ⟨hs, h1, h2, h3⟩ := k.ex
  exact ⟨hs, .own h1 hR, h2, fun i y l e1 e2 => (h3 i y l e1 e2).mono (fun b q => hR b q.1 q.2.1)⟩
theorem leftTo_plain (sl : List Slot) (fs : List Int) : ∀ k, ∀ s ∈ leftTo sl fs k, s.2.2 = false ∧ s.1 = s.2.1
  | 0, s, h => by
    have := List.eq_of_mem_replicate (show s ∈ List.replicate sl.length ([], [], false) from h)
    subst this
    exact ⟨rfl, rfl⟩
  | k + 1, s, h => by
    rw [leftTo_succ] at h
    rcases List.mem_or_eq_of_mem_set h with q | q
    · exact leftTo_plain sl fs k s q
    · subst q; exact ⟨rfl, rfl⟩
theorem leftTo_bools (sl : List Slot) (fs : List Int) (k : Nat) : (leftTo sl fs k).map (fun s => Value.bool s.2.2) = List.replicate sl.length (.bool false) := by
  rw [List.map_eq_replicate_iff.2 (fun s hs => by rw [(leftTo_plain sl fs k s hs).1]), leftTo_length]
end Go.Proofs.Ytdidalcflkphnaa
