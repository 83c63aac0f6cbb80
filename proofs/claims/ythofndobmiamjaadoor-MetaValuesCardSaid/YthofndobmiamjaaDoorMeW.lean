/-
  places copied.
-/
import Derived.Test.YthofndobmiamjaaDoorMeV
import Derived.Test.YthofndobmiamjaaDoorUse2
namespace Go.Proofs.YthofndobmiamjaaDoor
open Go.RowKit

def pcells (P : Nat → PlR) : Nat → List Value
  | 0 => []
  | m + 1 => pcells P m ++ [.int .i64 (P m).b, .int .i64 (P m).e, .int .i64 (P m).s, SV (P m).x]
theorem pcells_len (P : Nat → PlR) : ∀ n, (pcells P n).length = n * 4
  | 0 => rfl
  | m + 1 => by simp only [pcells, List.length_append, List.length_cons, List.length_nil, pcells_len P m]; omega
theorem pcells_ext {P P' : Nat → PlR} : ∀ n, (∀ i, i < n → P i = P' i) → pcells P n = pcells P' n
  | 0, _ => rfl
  | m + 1, h => by simp only [pcells]; rw [pcells_ext m (fun i hi => h i (by omega)), h m (by omega)]
theorem pcells_at (P : Nat → PlR) : ∀ (n i : Nat), i < n → (pcells P n)[i * 4]? = some (.int .i64 (P i).b) ∧ (pcells P n)[i * 4 + 1]? = some (.int .i64 (P i).e) ∧ (pcells P n)[i * 4 + 2]? = some (.int .i64 (P i).s) ∧ (pcells P n)[i * 4 + 3]? = some (SV (P i).x)
  | 0, i, h => absurd h (Nat.not_lt_zero _)
  | m + 1, i, h => by
    have hl := pcells_len P m
    by_cases e : i = m
    · subst e
      simp only [pcells]
      refine ⟨?_, ?_, ?_, ?_⟩ <;> rw [List.getElem?_append_right (by omega)] <;> simp [hl]
    · have := pcells_at P m i (by omega)
      simp only [pcells]
      rw [List.getElem?_append_left (by omega), List.getElem?_append_left (by omega), List.getElem?_append_left (by omega), List.getElem?_append_left (by omega)]
      exact this
theorem infoPlace : (Tryd.prog.info? 85).map (fun i => (i.zero, i.size, i.bytes)) = some (some (.agg #[.int .i64 0, .int .i64 0, .int .i64 0, .slice none 0 0]), 4, 48) := by kernel_rfl
/-- the same place, wherever its digest lies. -/
structure SameP (p q : PlR) : Prop where
  b : p.b = q.b
  e : p.e = q.e
  s : p.s = q.s
  l : p.l = q.l
  n : p.x.2.1 = q.x.2.1
/-- places of the call's own. -/
structure OwnP (w : World) (B : Nat) (a : Option Addr) (n c : Nat) (P : Nat → PlR) : Prop where
  row : w.ownsRow B PT4 4 (.slice a n c) n (pcells P n)
  dig : ∀ i, i < n → (P i).x.2.1 = (P i).l.length ∧ w.ownsRow B 5 1 (SV (P i).x) (P i).l.length ((P i).l.map bv) ∧ Bytes (P i).l ∧ (P i).l.length ≤ 140737488355328
theorem OwnP.below {w w' : World} {B : Nat} {a : Option Addr} {n c : Nat} {P : Nat → PlR} (h : OwnP w B a n c P) (hb : Below w.heap.size w w') : OwnP w' B a n c P :=
  ⟨h.row.kept (grownBy_of_below hb none) (by cases (Value.slice a n c).ownBlock <;> simp), fun i hi => by
    obtain ⟨k0, k1, k2⟩ := h.dig i hi
    exact ⟨k0, k1.kept (grownBy_of_below hb none) (by cases (SV (P i).x).ownBlock <;> simp), k2⟩⟩
theorem OwnP.kept {w w' : World} {B : Nat} {a : Option Addr} {n c : Nat} {P : Nat → PlR} {r : Option Nat} (h : OwnP w B a n c P) (hg : w.grownBy w' r) (h1 : (Value.slice a n c).ownBlock = none ∨ (Value.slice a n c).ownBlock ≠ r) (h2 : ∀ j, j < n → (SV (P j).x).ownBlock = none ∨ (SV (P j).x).ownBlock ≠ r) : OwnP w' B a n c P :=
  ⟨h.row.kept hg h1, fun i hi => by
    obtain ⟨k0, k1, k2⟩ := h.dig i hi
    exact ⟨k0, k1.kept hg (h2 i hi), k2⟩⟩
theorem OwnP.made {w : World} {B : Nat} (P : Nat → PlR) (hB : B ≤ w.heap.size) : OwnP (w.alloc (.cells #[] PT4)) B (some ⟨w.heap.size, 0, none⟩) 0 0 P :=
  ⟨World.ownsRow_made (base := B) (e := PT4) (size := 4) w #[] 0 hB (by simp [maxLen]) rfl, fun i hi => absurd hi (Nat.not_lt_zero _)⟩
theorem OwnP.places {w : World} {B : Nat} {a : Option Addr} {n c : Nat} {P : Nat → PlR} (h : OwnP w B a n c P) (hn : n ≤ maxLen) : PlacesV w a n c P := by
  have hd : ∀ i, i < n → BytesV w ((P i).x.1, (P i).x.2.1, (P i).x.2.2) (P i).l := fun i hi => by
    obtain ⟨k0, k1, k2, k3⟩ := h.dig i hi
    rw [← k0] at k1 k3
    exact bytesV_of_owns k1 k2 k3
  rcases h.row.2 with ⟨e, e0⟩ | ⟨g, cp, cur, e, hB, hh, hc, hcm, -, -⟩
  · injection e with e1 e2 e3
    subst e2 e3
    exact ⟨by simp [maxLen], Nat.le_refl _, fun _ => rfl, fun h => absurd h (by omega)⟩
  · injection e with e1 e2 e3
    subst e1 e3
    have hr := h.row
    refine ⟨hn, hc, (fun e => by cases e), fun h0 => ⟨g, 0, rfl, (Array.getElem?_eq_some_iff.1 hh).1, fun i hi => ?_⟩⟩
    obtain ⟨t0, t1, t2, t3⟩ := pcells_at P n i hi
    rw [Nat.zero_add]
    exact ⟨(hr.cellAt (i * 4) (by omega)).trans t0, (hr.cellAt (i * 4 + 1) (by omega)).trans t1, (hr.cellAt (i * 4 + 2) (by omega)).trans t2, (hr.cellAt (i * 4 + 3) (by omega)).trans t3, hd i hi⟩
theorem OwnP.append {wm w' : World} {B n : Nat} {a : Option Addr} {c : Nat} {P : Nat → PlR} {p : PlR} (h : OwnP wm B a n c P) (hp : p.x.2.1 = p.l.length ∧ wm.ownsRow B 5 1 (SV p.x) p.l.length (p.l.map bv) ∧ Bytes p.l ∧ p.l.length ≤ 140737488355328) {g cap : Nat}
    (hE : w'.ownsRow B PT4 4 (.slice (some ⟨g, 0, none⟩) (n + 1) cap) (n + 1) (pcells P n ++ [.int .i64 p.b, .int .i64 p.e, .int .i64 p.s, SV p.x])) (hg : wm.grownBy w' (Value.slice a n c).ownBlock) : OwnP w' B (some ⟨g, 0, none⟩) (n + 1) cap (fun j => if j = n then p else P j) := by
  have key : ∀ {x : Option Addr × Nat × Nat} {m : List Nat}, wm.ownsRow B 5 1 (SV x) m.length (m.map bv) → w'.ownsRow B 5 1 (SV x) m.length (m.map bv) := fun k => k.kept hg (own_ne k h.row (by decide))
  refine ⟨?_, fun i hi => ?_⟩
  · have e : pcells (fun j => if j = n then p else P j) (n + 1) = pcells P n ++ [.int .i64 p.b, .int .i64 p.e, .int .i64 p.s, SV p.x] := by
      simp only [pcells, if_pos]
      rw [pcells_ext n (P' := P) (fun i hi => by rw [if_neg (by omega)])]
    rw [e]
    exact hE
  · by_cases e : i = n
    · simp only [if_pos e]
      exact ⟨hp.1, key hp.2.1, hp.2.2⟩
    · simp only [if_neg e]
      obtain ⟨k0, k1, k2⟩ := h.dig i (by omega)
      exact ⟨k0, key k1, k2⟩
theorem news4 {w : World} {g : Nat} {v0 v1 v2 v3 : Value} {T : TypeId} {fr : Nat × Nat} (h : w.heap[g]? = some (.cells #[v0, v1, v2, v3] T fr)) : ∀ j u, [v0, v1, v2, v3][j]? = some u → w.cell? ((⟨g, 0, none⟩ : Addr).add j) = some u := World.news_of_block h
end Go.Proofs.YthofndobmiamjaaDoor
