/-
  disk: Left, as a value; a slot that is filled.
-/
import Derived.Test.YtdidalcflkphnaaMBase
import Derived.Test.YtdidalcflkphnaaMDs3
import Derived.Test.YtdidalcflkphnaaMDjB
namespace Go.Proofs.Ytdidalcflkphnaa
open Go.RowKit

def fateOf (fs : List Int) (k : Nat) (wr : Bool) : Int := if wr = true ∧ 0 < fs.length then ((fs.getD (k % fs.length) 0).tmod 3 + 3).tmod 3 else 0
def cntW (sl : List Slot) (i : Nat) : Nat := ((sl.take i).filter (·.2.2)).length
def leftS (fs : List Int) (k : Nat) (s : Slot) : Slot := (remS s.1 s.2.1 (fateOf fs k s.2.2), remS s.1 s.2.1 (fateOf fs k s.2.2), false)
/-- the first k slots are left. -/
def leftTo (sl : List Slot) (fs : List Int) : Nat → List Slot
  | 0 => noSl sl.length
  | k + 1 => (leftTo sl fs k).set k (leftS fs (cntW sl k) (sl.getD k ([], [], false)))
theorem leftTo_succ (sl : List Slot) (fs : List Int) (k : Nat) : leftTo sl fs (k + 1) = (leftTo sl fs k).set k (leftS fs (cntW sl k) (sl.getD k ([], [], false))) := rfl
theorem leftTo_length (sl : List Slot) (fs : List Int) : ∀ k, (leftTo sl fs k).length = sl.length
  | 0 => by simp [leftTo, noSl]
  | k + 1 => by simp [leftTo, leftTo_length sl fs k]
theorem leftTo_at (sl : List Slot) (fs : List Int) : ∀ k i, i < k → i < sl.length → (leftTo sl fs k)[i]? = some (leftS fs (cntW sl i) (sl.getD i ([], [], false)))
  | 0, i, h, _ => by omega
  | k + 1, i, h, hl => by
    unfold leftTo
    by_cases e : i = k
    · subst e
      rw [List.getElem?_set_self (by rw [leftTo_length]; exact hl)]
    · rw [List.getElem?_set_ne (fun q => e q.symm)]
      exact leftTo_at sl fs k i (by omega) hl
def leftV (d : DV) (keep : Int) (reset : Bool) (fs : List Int) (p : Int) : DV :=
  { pow := p, safe := logS d.safe d.read d.base d.laid keep reset, read := logS d.safe d.read d.base d.laid keep reset, base := (logS d.safe d.read d.base d.laid keep reset).length, laid := false, sl := leftTo d.sl fs d.sl.length }
theorem cntW_step {sl : List Slot} {k : Nat} {s : Slot} (h : sl[k]? = some s) : cntW sl (k + 1) = cntW sl k + (if s.2.2 = true then 1 else 0) := by
  unfold cntW
  rw [take_step sl k s h, List.filter_append, List.length_append]
  congr 1
  cases e : s.2.2 <;> simp [e]
theorem cntW_le (sl : List Slot) (k : Nat) : cntW sl k ≤ k := by
  unfold cntW
  exact Nat.le_trans (List.length_filter_le _ _) (by simp; omega)
theorem remS_bytes {safe read : List Nat} (h1 : Bytes safe) (h2 : Bytes read) (f : Int) : Bytes (remS safe read f) := by
  unfold remS
  split
  · exact h2
  · split
    · intro x hx
      rcases List.mem_append.1 hx with q | q
      · exact h2 x (List.mem_of_mem_take q)
      · exact h1 x (List.mem_of_mem_drop q)
    · exact h1
theorem remS_len (safe read : List Nat) (f : Int) : (remS safe read f).length ≤ max safe.length read.length := by
  unfold remS
  split
  · omega
  · split
    · simp; omega
    · omega
theorem logS_bytes {safe read : List Nat} (h1 : Bytes safe) (h2 : Bytes read) (b : Nat) (l : Bool) (k : Int) (r : Bool) : Bytes (logS safe read b l k r) := by
  unfold logS
  split
  · exact h1
  · exact fun x hx => h2 x (List.mem_of_mem_take hx)
theorem logS_len (safe read : List Nat) (b : Nat) (l : Bool) (k : Int) (r : Bool) : (logS safe read b l k r).length ≤ max safe.length read.length := by
  unfold logS
  split
  · omega
  · simp; omega
theorem hdr_len {hs : List SlH} {k : Nat} (h : k < hs.length) : ∃ x, hs[k]? = some x := ⟨_, List.getElem?_eq_getElem h⟩
/-- a slot gets two new slices. -/
theorem SlM.fill {w1 w2 : World} {F : Nat → Prop} {b c k n M : Nat} {hs : List SlH} {sl : List Slot} (h : SlM w1 F (some ⟨b, 0, none⟩, n, c) hs sl) {x : SlH} (hx : hs[k]? = some x) (hkl : k < sl.length)
    {a1 a2 : Option Addr} {c1 c2 : Nat} {l1 l2 : List Nat} (o1 : w2.ownsRow w1.heap.size 5 1 (.slice a1 l1.length c1) l1.length (l1.map bv)) (o2 : w2.ownsRow M 5 1 (.slice a2 l2.length c2) l2.length (l2.map bv))
    (hM : ∀ q, (SV (a1, l1.length, c1)).ownBlock = some q → q < M) (hM1 : w1.heap.size ≤ M) (bl : Below w1.heap.size w1 w2) (y1 : Bytes l1) (y2 : Bytes l2) (z1 : l1.length ≤ 1000000000) (z2 : l2.length ≤ 1000000000) (t : Bool) :
    SlM (((w2.setCell ⟨b, k * 3, none⟩ (.slice a1 l1.length c1)).setCell ⟨b, k * 3 + 1, none⟩ (.slice a2 l2.length c2)).setCell ⟨b, k * 3 + 2, none⟩ (.bool t)) (Gr F w1 w2) (some ⟨b, 0, none⟩, n, c) (hs.set k ((a1, l1.length, c1), (a2, l2.length, c2), t)) (sl.set k (l1, l2, t)) := by
  have hc0 : ChF (fun _ => False) w1 w2 := .of_below bl
  obtain ⟨cur, hb1⟩ := h.block
  have hbF : F b := h.inF b rfl
  have hb2 : w2.heap[b]? = some (.cells cur KT (0, 0)) := (hc0.block b (Array.getElem?_eq_some_iff.1 hb1).1 (fun e => e)).trans hb1
  obtain ⟨w3, hw3⟩ : ∃ x, x = ((w2.setCell ⟨b, k * 3, none⟩ (.slice a1 l1.length c1)).setCell ⟨b, k * 3 + 1, none⟩ (.slice a2 l2.length c2)).setCell ⟨b, k * 3 + 2, none⟩ (.bool t) := ⟨_, rfl⟩
  have hset : ChF (fun q => q = b) w2 w3 := by
    rw [hw3]
    exact ((((ChF.refl (fun q => q = b) w2).set (g := b) (.inl (show b = b from rfl))).set (g := b) (.inl (show b = b from rfl))).set (g := b) (.inl (show b = b from rfl)))
  have hn1 : ByF w2 (Gr F w1 w2) (a1, l1.length, c1) l1 := ⟨own_zero o1, rfl, y1, z1, fun q hq => .inr (o1.lt q hq)⟩
  have hn2 : ByF w2 (Gr F w1 w2) (a2, l2.length, c2) l2 := ⟨own_zero o2, rfl, y2, z2, fun q hq => .inr ⟨Nat.le_trans hM1 (o2.lt q hq).1, (o2.lt q hq).2⟩⟩
  have hk2 := h.keep hc0 (fun _ _ e => e)
  have hkeep : ∀ y t, ByF w2 F y t → ByF w3 (Gr F w1 w2) y t := fun y t hy => (hy.keep hset (fun q hq e => hy.ne hb2 q hq e)).mono (fun q hq => .inl hq)
  have hln := h.len
  simp only at hln
  have hkh : k < hs.length := (List.getElem?_eq_some_iff.1 hx).1
  refine ⟨?_, by simpa using h.len, by simpa using h.hl, fun q hq => .inl (h.inF q hq), fun i u s hu hs' => ?_, ?_⟩
  · rw [kcells_set hs k x _ hx, List.length_set]
    have ho := hk2.own
    simp only [SV] at ho ⊢
    rw [hln] at ho ⊢
    exact own_setS (own_setS (own_setS ho _ _) _ _) _ _
  · rw [← hw3]
    by_cases e : i = k
    · subst e
      rw [List.getElem?_set_self hkh] at hu
      rw [List.getElem?_set_self hkl] at hs'
      injection hu with hu
      injection hs' with hs'
      subst hu hs'
      exact ⟨rfl, hn1.keep hset (fun q hq e => hn1.ne hb2 q hq e), hn2.keep hset (fun q hq e => hn2.ne hb2 q hq e)⟩
    · rw [List.getElem?_set_ne (fun q => e q.symm)] at hu hs'
      obtain ⟨q0, q1, q2⟩ := hk2.each i u s hu hs'
      exact ⟨q0, hkeep _ _ q1, hkeep _ _ q2⟩
  · obtain ⟨p1, p2⟩ := hdr_safe hs k x (a1, l1.length, c1) t hx
    have hlt := fun j u q h1 h2 => (h.hdr_lt j u q h1 h2).1
    have A1 := apart_put (m := w1.heap.size) h.apart hlt p1 p2 (fun q hq => (o1.lt q hq).1)
    have hx1 : (hs.set k ((a1, l1.length, c1), x.2.1, t))[k]? = some ((a1, l1.length, c1), x.2.1, t) := List.getElem?_set_self hkh
    obtain ⟨r1, r2⟩ := hdr_read (hs.set k ((a1, l1.length, c1), x.2.1, t)) k ((a1, l1.length, c1), x.2.1, t) (a2, l2.length, c2) t hx1
    rw [List.set_set] at r1 r2
    refine apart_put (m := M) A1 (fun j u q h1 h2 => ?_) r1 r2 (fun q hq => (o2.lt q hq).1)
    by_cases ej : j = 2 * k
    · subst ej
      rw [p1] at h1
      injection h1 with h1
      subst h1
      exact hM q h2
    · rw [p2 j ej] at h1
      have := hlt j u q h1 h2
      omega
end Go.Proofs.Ytdidalcflkphnaa
