/-
  disk: a slot is written.
-/
import Derived.Test.YtdidalcflkphnaaDiI
namespace Go.Proofs.Ytdidalcflkphnaa
open Go.RowKit

theorem ByF.ne {w : World} {F : Nat → Prop} {y : HdT} {l : List Nat} (h : ByF w F y l) {b : Nat} {cur : Array Value} (hb : w.heap[b]? = some (.cells cur KT (0, 0))) : ∀ q, (SV y).ownBlock = some q → q ≠ b := by
  rintro q hq rfl
  rcases h.own.2 with ⟨e, -⟩ | ⟨g, cap, cur', e, -, hh, -⟩
  · rw [e] at hq; cases hq
  · rw [e] at hq
    have : g = q := by simpa [Value.ownBlock] using hq
    subst this
    rw [hb] at hh
    injection hh with hh
    injection hh with _ h2
    exact absurd h2 (by decide)
theorem SlM.block {w : World} {F : Nat → Prop} {b n c : Nat} {hs : List SlH} {sl : List Slot} (h : SlM w F (some ⟨b, 0, none⟩, n, c) hs sl) : ∃ cur, w.heap[b]? = some (.cells cur KT (0, 0)) := by
  rcases h.own.2 with ⟨e, -⟩ | ⟨g, cap, cur', e, -, hh, -⟩
  · cases e
  · injection e with e1
    injection e1 with e1
    injection e1 with e1
    subst e1
    exact ⟨_, hh⟩
theorem SlM.write {w1 w2 : World} {F : Nat → Prop} {b c k : Nat} {hs : List SlH} {sl : List Slot} (h : SlM w1 F (some ⟨b, 0, none⟩, sl.length, c) hs sl) {x : SlH} (hx : hs[k]? = some x) {s : Slot} (hs' : sl[k]? = some s)
    {a : Option Addr} {cap : Nat} {l : List Nat} (o : w2.ownsRow w1.heap.size 5 1 (.slice a l.length cap) l.length (l.map bv)) (bl : Below w1.heap.size w1 w2) (hl : Bytes l) (hsm : l.length ≤ 1000000000) :
    SlM ((w2.setCell ⟨b, k * 3 + 1, none⟩ (.slice a l.length cap)).setCell ⟨b, k * 3 + 2, none⟩ (.bool true)) (Gr F w1 w2) (some ⟨b, 0, none⟩, sl.length, c) (hs.set k (x.1, (a, l.length, cap), true)) (sl.set k (s.1, l, true)) := by
  have hc0 : ChF (fun _ => False) w1 w2 := .of_below bl
  obtain ⟨cur, hb1⟩ := h.block
  have hbF : F b := h.inF b rfl
  have hb2 : w2.heap[b]? = some (.cells cur KT (0, 0)) := (hc0.block b (Array.getElem?_eq_some_iff.1 hb1).1 (fun e => e)).trans hb1
  have hset : ChF (fun q => q = b) w2 ((w2.setCell ⟨b, k * 3 + 1, none⟩ (.slice a l.length cap)).setCell ⟨b, k * 3 + 2, none⟩ (.bool true)) := (((ChF.refl (fun q => q = b) w2).set (g := b) (.inl (show b = b from rfl))).set (g := b) (.inl (show b = b from rfl)))
  have hnew : ByF w2 (Gr F w1 w2) (a, l.length, cap) l := ⟨own_zero o, rfl, hl, hsm, fun q hq => .inr (o.lt q hq)⟩
  have hk2 := h.keep hc0 (fun _ _ e => e)
  have hkeep : ∀ y t, ByF w2 F y t → ByF ((w2.setCell ⟨b, k * 3 + 1, none⟩ (.slice a l.length cap)).setCell ⟨b, k * 3 + 2, none⟩ (.bool true)) (Gr F w1 w2) y t := fun y t hy => (hy.keep hset (fun q hq e => hy.ne hb2 q hq e)).mono (fun q hq => .inl hq)
  refine ⟨?_, by simp, by simpa using h.hl, fun q hq => .inl (h.inF q hq), fun i u t hu ht => ?_, ?_⟩
  · rw [kcells_read hs k x _ _ hx, List.length_set]
    exact own_setS (own_setS hk2.own _ _) _ _
  · by_cases e : i = k
    · subst e
      rw [List.getElem?_set_self (List.getElem?_eq_some_iff.1 hx).1] at hu
      rw [List.getElem?_set_self (List.getElem?_eq_some_iff.1 hs').1] at ht
      injection hu with hu
      injection ht with ht
      subst hu ht
      obtain ⟨-, q1, -⟩ := hk2.each i x s hx hs'
      exact ⟨rfl, hkeep _ _ q1, hnew.keep hset (fun q hq e => hnew.ne hb2 q hq e)⟩
    · rw [List.getElem?_set_ne (fun q => e q.symm)] at hu ht
      obtain ⟨q0, q1, q2⟩ := hk2.each i u t hu ht
      exact ⟨q0, hkeep _ _ q1, hkeep _ _ q2⟩
  · obtain ⟨p1, p2⟩ := hdr_read hs k x (a, l.length, cap) true hx
    exact apart_put (m := w1.heap.size) h.apart (fun j u q h1 h2 => (h.hdr_lt j u q h1 h2).1) p1 p2 (fun q hq => (o.lt q hq).1)
end Go.Proofs.Ytdidalcflkphnaa
