/-
  places copied.
-/
import Derived.Test.YtopnjjehefaghaaDoorMBase
import Derived.Test.YtopnjjehefaghaaDoorMMeV
namespace Go.Proofs.YtopnjjehefaghaaDoor
open Go.RowKit

def pcells (P : Nat → PlR) : Nat → List Value
  | 0 => []
  | m + 1 => pcells P m ++ [.int .i64 (P m).b, .int .i64 (P m).e, .int .i64 (P m).s, SV (P m).x]
theorem pcells_len (P : Nat → PlR) : ∀ n, (pcells P n).length = n * 4
  | 0 => rfl
  | m + 1 => by simp only [pcells, List.length_append, List.length_cons, List.length_nil, pcells_len P m]; omega
theorem pcells_ext {P P' : Nat → PlR} : ∀ n, (∀ i, i < n → P i = P' i) → pcells P n = pcells P' n
  | 0, _ => rfl
  | m + 1, h => by simp only [pcells]; rw [pcells_ext m (fun i hi => h i (by omega)), h m (by omega)]
theorem pcells_at (P : Nat → PlR) : ∀ (n i : Nat), i < n → (pcells P n)[i * 4]? = some (.int .i64 (P i).b) ∧ (pcells P n)[i * 4 + 1]? = some (.int .i64 (P i).e) ∧ (pcells P n)[i * 4 + 2]? = some (.int .i64 (P i).s) ∧ (pcells P n)[i * 4 + 3]? = some (SV (P i).x)
  | 0, i, h => absurd h (Nat.not_lt_zero _)
  | m + 1, i, h => by
    have hl := pcells_len P m
    by_cases e : i = m
    · subst e
      simp only [pcells]
      refine ⟨?_, ?_, ?_, ?_⟩ <;> rw [List.getElem?_append_right (by omega)] <;> simp [hl]
    · have := pcells_at P m i (by omega)
      simp only [pcells]
      rw [List.getElem?_append_left (by omega), List.getElem?_append_left (by omega), List.getElem?_append_left (by omega), List.getElem?_append_left (by omega)]
      exact this
/-- the same place, wherever its digest lies. -/
structure SameP (p q : PlR) : Prop where
  b : p.b = q.b
  e : p.e = q.e
  s : p.s = q.s
  l : p.l = q.l
  n : p.x.2.1 = q.x.2.1
theorem news4 {w : World} {g : Nat} {v0 v1 v2 v3 : Value} {T : TypeId} {fr : Nat × Nat} (h : w.heap[g]? = some (.cells #[v0, v1, v2, v3] T fr)) : ∀ j u, [v0, v1, v2, v3][j]? = some u → w.cell? ((⟨g, 0, none⟩ : Addr).add j) = some u := World.news_of_block h
end Go.Proofs.YtopnjjehefaghaaDoor
