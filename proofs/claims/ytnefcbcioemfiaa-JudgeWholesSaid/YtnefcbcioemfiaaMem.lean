/-
  Rows of values in memory: what a slice reads as; what is owned; nothing of a program in sight.
-/
import Derived.WalkKit
import Derived.OneCell
import Derived.Laws.CopyOwn
import Derived.Laws.AppendOwnNone
import Derived.Test.YtnefcbcioemfiaaGfM
namespace Go.Proofs.Ytnefcbcioemfiaa
open Go Go.RowKit

def bv (n : Nat) : Value := .int .u8 (n : Nat)
def Bytes (l : List Nat) : Prop := ∀ x ∈ l, x < 256

/-- A slice of len elements at ad reads as these values (each of one cell). -/
def RowV (w : World) (ad : Option Addr) (len : Nat) (vs : List Value) : Prop :=
  vs.length = len ∧ (0 < len → ∃ b off, ad = some ⟨b, off, none⟩ ∧ ∀ i, i < len → w.cell? ⟨b, off + i, none⟩ = vs[i]?)

theorem RowV.lt {w : World} {ad : Option Addr} {len : Nat} {vs : List Value} (h : RowV w ad len vs) (hl : 0 < len) {a : Addr} (ha : ad = some a) : a.block < w.heap.size := by
  obtain ⟨b, off, e, hc⟩ := h.2 hl
  rw [e] at ha
  cases ha
  have := hc 0 hl
  rw [List.getElem?_eq_getElem (by rw [h.1]; exact hl)] at this
  exact block_lt_of_cell this

theorem RowV.kept {w w' : World} {ad : Option Addr} {len : Nat} {vs : List Value} (h : RowV w ad len vs) (hk : ∀ a, ad = some a → w'.heap[a.block]? = w.heap[a.block]?) : RowV w' ad len vs := by
  refine ⟨h.1, fun hl => ?_⟩
  obtain ⟨b, off, e, hc⟩ := h.2 hl
  exact ⟨b, off, e, fun i hi => (World.cell?_of_block (a := ⟨b, off + i, none⟩) (hk ⟨b, off, none⟩ e)).trans (hc i hi)⟩
theorem RowV.kept' {w w' : World} {ad : Option Addr} {len : Nat} {vs : List Value} (h : RowV w ad len vs) (hk : 0 < len → ∀ a, ad = some a → w'.heap[a.block]? = w.heap[a.block]?) : RowV w' ad len vs := by
  refine ⟨h.1, fun hl => ?_⟩
  obtain ⟨b, off, e, hc⟩ := h.2 hl
  exact ⟨b, off, e, fun i hi => (World.cell?_of_block (a := ⟨b, off + i, none⟩) (hk hl ⟨b, off, none⟩ e)).trans (hc i hi)⟩
theorem RowV.below {w w' : World} {ad : Option Addr} {len : Nat} {vs : List Value} (h : RowV w ad len vs) (hb : Below w.heap.size w w') : RowV w' ad len vs :=
  h.kept' fun hl _ ha => hb.block _ (h.lt hl ha)
theorem RowV.belowB {B : Nat} {w w' : World} {ad : Option Addr} {len : Nat} {vs : List Value} (h : RowV w ad len vs) (hB : ∀ a, ad = some a → a.block < B) (hb : Below B w w') : RowV w' ad len vs :=
  h.kept fun _ ha => hb.block _ (hB _ ha)

theorem World.grownBy_refl (w : World) (r : Option Nat) : w.grownBy w r := ⟨rfl, rfl, rfl, Nat.le_refl _, fun _ _ _ => rfl⟩
theorem grownBy_trans {a b c : World} {r : Option Nat} (h : a.grownBy b r) (k : b.grownBy c r) : a.grownBy c r :=
  ⟨k.os.trans h.os, k.tape.trans h.tape, k.output.trans h.output, Nat.le_trans h.size k.size, fun i hi hn => (k.block i (Nat.lt_of_lt_of_le hi h.size) hn).trans (h.block i hi hn)⟩
theorem grownBy_of_below {a b : World} (h : Below a.heap.size a b) (r : Option Nat) : a.grownBy b r :=
  ⟨h.os, h.tape, h.output, h.size, fun i hi _ => h.block i hi⟩

theorem _root_.Go.World.ownsRow.setRow_other {w : World} {base : Nat} {e : TypeId} {size : Nat} {v : Value} {n : Nat} {xs : List Value} (h : w.ownsRow base e size v n xs) {g : Nat} (hg : v.ownBlock ≠ some g) (cs : Array Value) :
    (w.setRow g cs).ownsRow base e size v n xs :=
  h.kept (row := some g) ⟨rfl, rfl, rfl, by simp, fun k _ hk => _root_.Go.setRow_other w g k cs (fun e => hk (by rw [e]))⟩ (.inr hg)
theorem grownBy_setRow {w w' : World} {r : Option Nat} (h : w.grownBy w' r) {g : Nat} (hg : w.heap.size ≤ g) (cs : Array Value) : w.grownBy (w'.setRow g cs) r :=
  ⟨h.os, h.tape, h.output, by simpa using h.size, fun k hk hn => (_root_.Go.setRow_other w' g k cs (by omega)).trans (h.block k hk hn)⟩
theorem Bytes.getD {l : List Nat} (h : Bytes l) (i : Nat) : l.getD i 0 < 256 := by
  rw [List.getD_eq_getElem?_getD]
  by_cases hi : i < l.length
  · rw [List.getElem?_eq_getElem hi]; exact h _ (List.getElem_mem hi)
  · rw [List.getElem?_eq_none (by omega)]; decide
theorem Bytes.of_getD {l : List Nat} (h : ∀ i, i < l.length → l.getD i 0 < 256) : Bytes l := by
  intro x hx
  obtain ⟨i, hi, rfl⟩ := List.mem_iff_getElem.1 hx
  have := h i hi
  rwa [List.getD_eq_getElem?_getD, List.getElem?_eq_getElem hi] at this
theorem ext_getD {a b : List Nat} (hl : a.length = b.length) (h : ∀ i, i < a.length → a.getD i 0 = b.getD i 0) : a = b := by
  apply List.ext_getElem hl
  intro i h1 h2
  have := h i h1
  simpa [List.getD_eq_getElem?_getD, h1, h2] using this
theorem bv_getD {l : List Nat} {i : Nat} (h : i < l.length) : (l.map bv)[i]? = some (.int .u8 (l.getD i 0 : Nat)) := by
  simp [List.getElem?_map, List.getElem?_eq_getElem h, bv, List.getD_eq_getElem?_getD]

/-- sum ^= k * v, from the front. -/
def addTo (xs : List Nat) (k : Nat) (v : List Nat) : List Nat := xs.mapIdx fun j x => x ^^^ mul k (v.getD j 0)
theorem addTo_length (xs : List Nat) (k : Nat) (v : List Nat) : (addTo xs k v).length = xs.length := by simp [addTo]
theorem addTo_getD (xs : List Nat) (k : Nat) (v : List Nat) (j : Nat) (hj : j < xs.length) : (addTo xs k v).getD j 0 = xs.getD j 0 ^^^ mul k (v.getD j 0) := by
  simp [addTo, List.getD_eq_getElem?_getD, hj]
theorem addTo_zero (xs v : List Nat) : addTo xs 0 v = xs :=
  ext_getD (addTo_length _ _ _) fun i hi => by rw [addTo_length] at hi; rw [addTo_getD _ _ _ _ hi, zero_mul, Nat.xor_zero]
theorem addTo_nil (xs : List Nat) (k : Nat) : addTo xs k [] = xs :=
  ext_getD (addTo_length _ _ _) fun i hi => by rw [addTo_length] at hi; rw [addTo_getD _ _ _ _ hi]; simp [mul_zero]
theorem addTo_bytes {xs : List Nat} {k : Nat} {v : List Nat} (hx : Bytes xs) (hk : k < 256) : Bytes (addTo xs k v) :=
  Bytes.of_getD fun i hi => by rw [addTo_length] at hi; rw [addTo_getD _ _ _ _ hi]; exact xor_lt (hx.getD i) (mul_lt hk)
theorem addTo_step (xs : List Nat) (k : Nat) (v : List Nat) (i : Nat) :
    (addTo xs k (v.take i)).set i (xs.getD i 0 ^^^ mul k (v.getD i 0)) = addTo xs k (v.take (i + 1)) := by
  apply ext_getD
  · simp [addTo_length]
  · intro j hj
    have hj' : j < xs.length := by simpa [addTo_length] using hj
    rw [addTo_getD _ _ _ _ hj']
    rw [List.getD_eq_getElem?_getD, List.getElem?_set]
    split
    · rename_i e
      subst e
      simp [addTo_length, hj', List.getD_eq_getElem?_getD]
    · rename_i e
      rw [← List.getD_eq_getElem?_getD, addTo_getD _ _ _ _ hj']
      simp only [List.getD_eq_getElem?_getD, List.getElem?_take]
      by_cases h : j < i
      · simp [h, show j < i + 1 by omega]
      · simp [h, show ¬ j < i + 1 by omega]
/-- A slice value, by its parts. -/
def SV (x : Option Addr × Nat × Nat) : Value := .slice x.1 x.2.1 x.2.2
/-- One slice of bytes, not too long. -/
structure BytesV (w : World) (x : Option Addr × Nat × Nat) (l : List Nat) : Prop where
  row : RowV w x.1 x.2.1 (l.map bv)
  bytes : Bytes l
  small : x.2.1 ≤ 140737488355328
  cap : x.2.1 ≤ x.2.2
  nil : x.1 = none → x.2.2 = 0
theorem BytesV.length {w : World} {x : Option Addr × Nat × Nat} {l : List Nat} (h : BytesV w x l) : l.length = x.2.1 := by have := h.row.1; simpa using this
/-- Slices of bytes, one by one. -/
def RowsV (w : World) (hs : List (Option Addr × Nat × Nat)) (ls : List (List Nat)) : Prop :=
  hs.length = ls.length ∧ ∀ (i : Nat) x l, hs[i]? = some x → ls[i]? = some l → BytesV w x l
theorem RowsV.at {w : World} {hs : List (Option Addr × Nat × Nat)} {ls : List (List Nat)} (h : RowsV w hs ls) (i : Nat) (hi : i < hs.length) : ∃ x, hs[i]? = some x ∧ BytesV w x (ls.getD i []) := by
  refine ⟨hs[i], List.getElem?_eq_getElem hi, ?_⟩
  refine h.2 i _ _ (List.getElem?_eq_getElem hi) ?_
  rw [List.getD_eq_getElem?_getD, List.getElem?_eq_getElem (by rw [← h.1]; exact hi)]; rfl
theorem BytesV.below {w w' : World} {x : Option Addr × Nat × Nat} {l : List Nat} (h : BytesV w x l) (hb : Below w.heap.size w w') : BytesV w' x l := ⟨h.row.below hb, h.bytes, h.small, h.cap, h.nil⟩
theorem RowsV.below {w w' : World} {hs : List (Option Addr × Nat × Nat)} {ls : List (List Nat)} (h : RowsV w hs ls) (hb : Below w.heap.size w w') : RowsV w' hs ls :=
  ⟨h.1, fun i x l h1 h2 => (h.2 i x l h1 h2).below hb⟩

/-- The greatest length of the first k lists. -/
def longest (ls : List (List Nat)) : Nat → Nat
  | 0 => 0
  | k + 1 => max (longest ls k) (ls.getD k []).length
theorem longest_le {w : World} {hs : List (Option Addr × Nat × Nat)} {ls : List (List Nat)} (h : RowsV w hs ls) : ∀ k, longest ls k ≤ 140737488355328
  | 0 => Nat.zero_le _
  | k + 1 => by
    have ih := longest_le h k
    simp only [longest]
    by_cases hk : k < hs.length
    · obtain ⟨x, _, hx⟩ := h.at k hk
      have h1 := hx.length
      have h2 := hx.small
      omega
    · have h1 : ls.length = hs.length := h.1.symm
      rw [List.getD_eq_getElem?_getD, List.getElem?_eq_none (by omega)]
      simpa using ih
theorem le_longest (ls : List (List Nat)) (i : Nat) : ∀ k, i < k → (ls.getD i []).length ≤ longest ls k
  | 0, h => absurd h (Nat.not_lt_zero _)
  | k + 1, h => by
    simp only [longest]
    by_cases e : i = k
    · subst e; omega
    · have := le_longest ls i k (by omega); omega
/-- The sum of the first k lists, each scaled, L long. -/
def mixTo (ks : List Nat) (ls : List (List Nat)) (L : Nat) : Nat → List Nat
  | 0 => List.replicate L 0
  | k + 1 => addTo (mixTo ks ls L k) (ks.getD k 0) (ls.getD k [])
theorem mixTo_length (ks : List Nat) (ls : List (List Nat)) (L : Nat) : ∀ k, (mixTo ks ls L k).length = L
  | 0 => by simp [mixTo]
  | k + 1 => by simp [mixTo, addTo_length, mixTo_length ks ls L k]
theorem mixTo_bytes {ks : List Nat} (hk : Bytes ks) (ls : List (List Nat)) (L : Nat) : ∀ k, Bytes (mixTo ks ls L k)
  | 0 => by intro x hx; simp [mixTo] at hx; omega
  | k + 1 => addTo_bytes (mixTo_bytes hk ls L k) (hk.getD k)

theorem below_alloc (w : World) (o : Obj) : Below w.heap.size w (w.alloc o) := (Below.refl _ _).alloc (Nat.le_refl _) o
theorem below_grown {w0 w w' : World} {row : Option Nat} (h : Below w0.heap.size w0 w) (hg : w.grownBy w' row) (hr : ∀ k, row = some k → w0.heap.size ≤ k) : Below w0.heap.size w0 w' := h.grown hg h.size hr
theorem ownBlock_ge {w : World} {base : Nat} {e : TypeId} {size : Nat} {v : Value} {n : Nat} {xs : List Value} (h : w.ownsRow base e size v n xs) : ∀ k, v.ownBlock = some k → base ≤ k := fun k hk => (h.lt k hk).1

/-- append of whatever slice, nil or not, to a slice of the call's own. -/
theorem wpList_append_row {P : Program} {w : World} {ops : Array Oper} {rest : List Oper} {o : Oper} {a : Act} {Q : Exit → Act → World → Prop} (hgd : o.guard = none) (s x : Operand) (t : TypeId)
    (ho : o.op = .call { callee := .builtin .append, args := #[s, x], argTypes := #[t, t] })
    (base : Nat) (e : TypeId) (i : TypeInfo) (z : Value) (bytes : Nat) (ht : P.underlying t = some (.slice e)) (hi : P.info? e = some i) (hz : i.zero = some z)
    (hsize : i.size = 1) (hby : i.bytes = bytes) (hzs : z.cells.size = 1)
    (v : Value) (n : Nat) (xs : List Value) (hs : a.eval s = v) (hown : w.ownsRow base e 1 v n xs)
    (ad : Option Addr) (m c : Nat) (news : List Value) (hx : a.eval x = .slice ad m c) (hnews : RowV w ad m news) (hnil : ad = none → c = 0) (h1 : ∀ u ∈ news, u.oneCell' = true)
    (h63 : n + m ≤ maxLen) (hbytes : (n + m) * bytes ≤ 140737488355328) (hbase : base ≤ w.heap.size)
    (h : ∀ v' w', w'.ownsRow base e 1 v' (n + m) (xs ++ news) → w.grownBy w' v.ownBlock → (v' = .slice none 0 0 ↔ v = .slice none 0 0 ∧ m = 0) → wpList P ops Q rest (a.put o.dst v') w') : wpList P ops Q (o :: rest) a w := by
  cases ad with
  | none =>
    have hm : m = 0 := by
      rcases Nat.eq_zero_or_pos m with h0 | h0
      · exact h0
      · obtain ⟨_, _, hh, _⟩ := hnews.2 h0; cases hh
    subst hm
    have hc := hnil rfl
    subst hc
    have hn : news = [] := List.eq_nil_of_length_eq_zero hnews.1
    subst hn
    refine wpList_append_own_none hgd s x t ho base e i 1 ht hi v n xs hs hown hx (h v w ?_ (World.grownBy_refl _ _) ?_)
    · simpa using hown
    · simp
  | some ad =>
    refine wpList_append_own w hgd s x t ho base e i z 1 bytes ht hi hz hsize hby hzs (by omega) v n xs hs hown ad m c news hx (by rw [hnews.1]; omega) ?_ h1 h63 hbytes hbase h
    intro j u hj
    have hjm : j < m := by rw [← hnews.1]; exact (List.getElem?_eq_some_iff.1 hj).1
    obtain ⟨b, off, hh, hc⟩ := hnews.2 (by omega)
    cases hh
    rw [← hj, ← hc j hjm]
    unfold Addr.add
    split
    · rename_i e0; subst e0; rfl
    · rfl

theorem bv_one (l : List Nat) : ∀ u ∈ l.map bv, u.oneCell' = true := by
  intro u hu
  simp at hu
  obtain ⟨x, _, rfl⟩ := hu
  rfl

theorem rowV_lit (w : World) (cs : Array Value) (T : TypeId) (b n : Nat) (vs : List Value) (hb : b = w.heap.size) (hcs : cs.toList = vs) (hn : vs.length = n) : RowV (w.alloc (.cells cs T)) (some ⟨b, 0, none⟩) n vs := by
  subst hb hcs
  refine ⟨hn, fun _ => ⟨w.heap.size, 0, rfl, fun i hi => ?_⟩⟩
  rw [cell_of_row _ _ _ _ _ _ (heap_alloc_new w _)]
  simp
theorem bytesV_lit (w : World) (cs : Array Value) (T : TypeId) (b n : Nat) (l : List Nat) (hb : b = w.heap.size) (hcs : cs.toList = l.map bv) (hn : l.length = n) (hl : Bytes l) (hs : n ≤ 140737488355328) :
    BytesV (w.alloc (.cells cs T)) (some ⟨b, 0, none⟩, n, n) l :=
  ⟨rowV_lit w cs T b n _ hb hcs (by simpa using hn), hl, hs, Nat.le_refl _, fun h => by cases h⟩
theorem RowV.alloc {w : World} {ad : Option Addr} {len : Nat} {vs : List Value} {o : Obj} (h : RowV w ad len vs) : RowV (w.alloc o) ad len vs := h.below (below_alloc w o)
theorem BytesV.alloc {w : World} {x : Option Addr × Nat × Nat} {l : List Nat} {o : Obj} (h : BytesV w x l) : BytesV (w.alloc o) x l := h.below (below_alloc w o)
theorem bytes_of {l : List Nat} (h : l.all (fun x => Nat.blt x 256) = true) : Bytes l := by
  intro x hx
  have := List.all_eq_true.1 h x hx
  simpa [Nat.blt_eq] using this
theorem rowsV_nil (w : World) : RowsV w [] [] := ⟨rfl, fun i x l h => by simp at h⟩
theorem rowsV_cons {w : World} {x : Option Addr × Nat × Nat} {l : List Nat} {hs : List (Option Addr × Nat × Nat)} {ls : List (List Nat)} (h : BytesV w x l) (k : RowsV w hs ls) : RowsV w (x :: hs) (l :: ls) := by
  refine ⟨by simp [k.1], fun i y m h1 h2 => ?_⟩
  cases i with
  | zero => simp at h1 h2; subst h1 h2; exact h
  | succ i => simp at h1 h2; exact k.2 i y m h1 h2

/-- What a call answers that makes a slice of bytes of its own. -/
def GivesBytes (T : TypeId) (w0 : World) (l : List Nat) (e : Ending) (w' : World) : Prop :=
  ∃ ad cap, e = .returned (.slice ad l.length cap) ∧ w'.ownsRow w0.heap.size T 1 (.slice ad l.length cap) l.length (l.map bv) ∧ Below w0.heap.size w0 w'

theorem ownsRow_parts {w : World} {base : Nat} {T : TypeId} {v : Value} {n : Nat} {xs : List Value} (h : w.ownsRow base T 1 v n xs) : ∃ ad cap, v = .slice ad n cap ∧ (ad = none ∧ n = 0 ∧ cap = 0 ∨ ∃ g, ad = some ⟨g, 0, none⟩ ∧ base ≤ g ∧ g < w.heap.size) ∧ n ≤ cap ∧ cap ≤ maxLen ∧ RowV w ad n xs := by
  have hl := h.1
  rcases h.2 with ⟨rfl, rfl⟩ | ⟨g, cap, cur, rfl, hb, hg, hnc, hcm, hcs, htake⟩
  · exact ⟨none, 0, rfl, .inl ⟨rfl, rfl, rfl⟩, Nat.le_refl _, by simp [maxLen], by simpa using hl, fun h0 => absurd h0 (by omega)⟩
  · refine ⟨_, cap, rfl, .inr ⟨g, rfl, hb, (Array.getElem?_eq_some_iff.1 hg).1⟩, hnc, hcm, by simpa using hl, fun _ => ⟨g, 0, rfl, fun i hi => ?_⟩⟩
    rw [Nat.zero_add, h.cellAt i (by omega)]
theorem bytesV_of_owns {w : World} {base : Nat} {T : TypeId} {ad : Option Addr} {cap n : Nat} {l : List Nat} (h : w.ownsRow base T 1 (.slice ad n cap) n (l.map bv)) (hl : Bytes l) (hs : n ≤ 140737488355328) : BytesV w (ad, n, cap) l := by
  obtain ⟨ad', cap', e, hcase, hnc, _, hrow⟩ := ownsRow_parts h
  cases e
  exact ⟨hrow, hl, hs, hnc, fun e => by rcases hcase with ⟨_, _, hc⟩ | ⟨g, hg, _⟩; exact hc; rw [hg] at e; cases e⟩

theorem ofInt_i64 (a : Nat) (ha : a < 9223372036854775808) : (BitVec.ofInt 64 (a : Int)).toNat = a := by
  rw [BitVec.ofInt_natCast, BitVec.toNat_ofNat]; exact Nat.mod_eq_of_lt (by omega)
theorem wrap_i64_id (n : Int) (h0 : 0 ≤ n) (h1 : n < 9223372036854775808) : IntKind.i64.wrap n = n := by
  simp [IntKind.wrap, IntKind.bits, IntKind.signed]; omega
theorem i64_xor_nat (a b : Nat) (ha : a < 9223372036854775808) (hb : b < 9223372036854775808) : bits .xor .i64 (a : Int) (b : Int) = ((a ^^^ b : Nat) : Int) := by
  have hx : a ^^^ b < 2 ^ 63 := Nat.xor_lt_two_pow (by omega) (by omega)
  show IntKind.i64.wrap ((BitVec.ofInt 64 (a : Int) ^^^ BitVec.ofInt 64 (b : Int)).toNat : Int) = _
  rw [BitVec.toNat_xor, ofInt_i64 a ha, ofInt_i64 b hb, wrap_i64_id _ (by omega) (by omega)]
theorem i64_and_nat (a b : Nat) (ha : a < 9223372036854775808) (hb : b < 9223372036854775808) : bits .and .i64 (a : Int) (b : Int) = ((a &&& b : Nat) : Int) := by
  have hx : a &&& b < 2 ^ 63 := Nat.and_lt_two_pow _ (by omega)
  show IntKind.i64.wrap ((BitVec.ofInt 64 (a : Int) &&& BitVec.ofInt 64 (b : Int)).toNat : Int) = _
  rw [BitVec.toNat_and, ofInt_i64 a ha, ofInt_i64 b hb, wrap_i64_id _ (by omega) (by omega)]
theorem i64_bit (s k : Nat) (hs : s < 9223372036854775808) : bits .and .i64 ((s : Int) / 2 ^ k) 1 = ((bit s k : Nat) : Int) := by
  have e : ((s : Int) / 2 ^ k) = ((s / 2 ^ k : Nat) : Int) := by simp
  have hlt : s / 2 ^ k < 9223372036854775808 := by have := Nat.div_le_self s (2 ^ k); omega
  rw [e, show (1 : Int) = ((1 : Nat) : Int) from rfl, i64_and_nat _ _ hlt (by omega), nat_mask1]
  rfl

/-- ints -/
def iv (n : Int) : Value := .int .i64 n
theorem iv_getD {l : List Int} {i : Nat} (h : i < l.length) : (l.map iv)[i]? = some (.int .i64 (l.getD i 0)) := by
  simp [List.getElem?_map, List.getElem?_eq_getElem h, iv, List.getD_eq_getElem?_getD]

theorem ownsRow_base {w : World} {base base' : Nat} {e : TypeId} {size : Nat} {v : Value} {n : Nat} {xs : List Value} (h : w.ownsRow base e size v n xs) (hb : base' ≤ base) : w.ownsRow base' e size v n xs := by
  refine ⟨h.1, ?_⟩
  rcases h.2 with hn | ⟨g, cap, cur, hv, hg, rest⟩
  · exact .inl hn
  · exact .inr ⟨g, cap, cur, hv, Nat.le_trans hb hg, rest⟩

end Go.Proofs.Ytnefcbcioemfiaa
