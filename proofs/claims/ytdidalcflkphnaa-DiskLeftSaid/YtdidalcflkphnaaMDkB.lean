/-
  rillref08: Left's boxes; an append's step; ways joined.
-/
import Derived.Test.YtdidalcflkphnaaMDjC
import Derived.Test.YtdidalcflkphnaaMDkA
namespace Go.Proofs.Ytdidalcflkphnaa
open Go.RowKit

def fcells (keep : Int) (reset : Bool) (f : HdT) : Array Value := #[.int .i64 keep, .bool reset, .slice f.1 f.2.1 f.2.2]
/-- Left's boxes: the receiver, the fate, the result. -/
structure Box3 (w0 w : World) (h : RefH) (f : Array Value) : Prop where
  a : w.heap[w0.heap.size]? = some (.cells h.cells RT (0, 0))
  f : w.heap[w0.heap.size + 1]? = some (.cells f FT (0, 0))
  r : w.heap[w0.heap.size + 2]? = some (.cells zH.cells RT (0, 0))
  bel : Below w0.heap.size w0 w
theorem Box3.new (w : World) (h : RefH) (f : Array Value) : Box3 w (((w.alloc (.cells h.cells RT)).alloc (.cells f FT)).alloc (.cells zH.cells RT)) h f := by
  have z := alloc_sz' w (.cells h.cells RT)
  have z2 := alloc_sz' (w.alloc (.cells h.cells RT)) (.cells f FT)
  refine ⟨(heap_alloc_old _ _ (by omega)).trans ((heap_alloc_old _ _ (by omega)).trans (heap_alloc_self w _)), ?_, ?_, ((below_alloc w _).alloc (by omega) _).alloc (by omega) _⟩
  · have := heap_alloc_self (w.alloc (.cells h.cells RT)) (.cells f FT)
    rw [z] at this
    exact (heap_alloc_old _ _ (by omega)).trans this
  · have := heap_alloc_self ((w.alloc (.cells h.cells RT)).alloc (.cells f FT)) (.cells zH.cells RT)
    rw [z2, z] at this
    exact this
theorem Box3.below {w0 w w' : World} {h : RefH} {f : Array Value} (k : Box3 w0 w h f) (hb : Below w.heap.size w w') : Box3 w0 w' h f :=
  ⟨(hb.block _ (Array.getElem?_eq_some_iff.1 k.a).1).trans k.a, (hb.block _ (Array.getElem?_eq_some_iff.1 k.f).1).trans k.f, (hb.block _ (Array.getElem?_eq_some_iff.1 k.r).1).trans k.r, k.bel.trans (hb.mono k.bel.size)⟩
theorem Box3.sz {w0 w : World} {h : RefH} {f : Array Value} (k : Box3 w0 w h f) : w0.heap.size + 3 ≤ w.heap.size := (Array.getElem?_eq_some_iff.1 k.r).1
theorem Box3.keep {w0 w w' : World} {h : RefH} {f : Array Value} (k : Box3 w0 w h f) {G : Nat → Prop} (hc : ChF G w w') (hG : ∀ b, G b → w0.heap.size + 3 ≤ b) : Box3 w0 w' h f :=
  have s := k.sz
  ⟨(hc.block _ (by omega) (fun e => by have := hG _ e; omega)).trans k.a, (hc.block _ (by omega) (fun e => by have := hG _ e; omega)).trans k.f, (hc.block _ (by omega) (fun e => by have := hG _ e; omega)).trans k.r, k.bel.trans (hc.below (B := w0.heap.size) (fun b e => by have := hG b e; omega) (by omega))⟩
theorem cells3F {w : World} {b : Nat} {keep : Int} {reset : Bool} {f : HdT} (k : w.heap[b]? = some (.cells (fcells keep reset f) FT (0, 0))) :
    w.cell? ⟨b, 0, none⟩ = some (.int .i64 keep) ∧ w.cell? ⟨b, 1, none⟩ = some (.bool reset) ∧ w.cell? ⟨b, 2, none⟩ = some (.slice f.1 f.2.1 f.2.2) :=
  ⟨cell_of_row _ _ 0 _ _ _ k, cell_of_row _ _ 1 _ _ _ k, cell_of_row _ _ 2 _ _ _ k⟩
theorem step_append_all {P : Program} {w : World} {ops : Array Oper} {o : Oper} {a : Act} {K : Act → World → Prop} {Q : Exit → Act → World → Prop} {E : Prop} (hgd : o.guard = none) (s x : Operand) (t : TypeId)
    (ho : o.op = .call { callee := .builtin .append, args := #[s, x], argTypes := #[t, t] })
    (base : Nat) (e : TypeId) (i : TypeInfo) (z : Value) (bytes : Nat) (ht : P.underlying t = some (.slice e)) (hi : P.info? e = some i) (hz : i.zero = some z)
    (hsize : i.size = 1) (hby : i.bytes = bytes) (hzs : z.cells.size = 1)
    (v : Value) (n : Nat) (xs : List Value) (hs : a.eval s = v) (hown : w.ownsRow base e 1 v n xs)
    (ad : Option Addr) (m c : Nat) (news : List Value) (hx : a.eval x = .slice ad m c) (hnews : RowV w ad m news) (hnil : ad = none → c = 0) (h1 : ∀ u ∈ news, u.oneCell' = true)
    (h63 : n + m ≤ maxLen) (hbytes : (n + m) * bytes ≤ 140737488355328) (hbase : base ≤ w.heap.size)
    (h : ∀ v' w', w'.ownsRow base e 1 v' (n + m) (xs ++ news) → w.grownBy w' v.ownBlock → K (a.put o.dst v') w') : if Region.wanted o (yielded ops a.tmps) = true then Oper.wp P o a w K Q else E := by
  have hw : Region.wanted o (yielded ops a.tmps) = true := by simp [Region.wanted, hgd]
  rw [if_pos hw]
  cases ad with
  | none =>
    have hm : m = 0 := by
      rcases Nat.eq_zero_or_pos m with h0 | h0
      · exact h0
      · obtain ⟨_, _, hh, _⟩ := hnews.2 h0; cases hh
    subst hm
    have hc := hnil rfl
    subst hc
    have hn : news = [] := List.eq_nil_of_length_eq_zero hnews.1
    subst hn
    have hrun := run_append_owned_none (P := P) (w := w) base t o.type e i 1 ht hi v n xs hown
    unfold Oper.wp
    simp [execOp, ho, resolve, invoke, builtin, hs, hx, hrun, Result.andThen]
    exact h v w (by simpa using hown) (World.grownBy_refl _ _)
  | some ad =>
    obtain ⟨v', w', hrun, r1, r2, _⟩ := run_append_own (P := P) w base t o.type e i z 1 bytes ht hi hz hsize hby hzs (by omega) v n xs hown ad m c news (by rw [hnews.1]; omega) (fun j u hj => by
      have hjm : j < m := by rw [← hnews.1]; exact (List.getElem?_eq_some_iff.1 hj).1
      obtain ⟨b, off, hh, hc⟩ := hnews.2 (by omega)
      cases hh
      rw [← hj, ← hc j hjm]
      unfold Addr.add
      split
      · rename_i e0; subst e0; rfl
      · rfl) h1 h63 hbytes hbase
    unfold Oper.wp
    simp [execOp, ho, resolve, invoke, builtin, hs, hx, hrun, Result.andThen]
    exact h v' w' r1 r2
theorem join_ways {p T : Prop} (h : Hid T → p) (t : T) : p := h (Lib.hid t)
theorem rowV_take8 {w : World} {a : Option Addr} {n m : Nat} {vs : List Value} (h : RowV w a n vs) (hm : m ≤ n) : RowV w a m (vs.take m) := by
  have hl := h.1
  refine ⟨by simp [hl]; omega, fun h0 => ?_⟩
  obtain ⟨b, off, e, hc⟩ := h.2 (by omega)
  refine ⟨b, off, e, fun i hi => ?_⟩
  rw [hc i (by omega), List.getElem?_take, if_pos hi]
end Go.Proofs.Ytdidalcflkphnaa
