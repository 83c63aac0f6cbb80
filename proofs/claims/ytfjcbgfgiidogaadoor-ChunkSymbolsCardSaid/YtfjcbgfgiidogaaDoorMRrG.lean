/-
  rillref04: the reference's fixed rows: lists.
-/
import Derived.Test.YtfjcbgfgiidogaaDoorMRrF
namespace Go.Proofs.YtfjcbgfgiidogaaDoor
open Go.RowKit

/-! the light rows, in the reference's order -/
def rlt1 (k : Nat) : Nat → List (List Nat)
  | 0 => List.replicate (cS k) (zs (cL k))
  | i + 1 => lit3 k i (rlt1 k i) 3
def rlt2 (k : Nat) : Nat → List (List Nat)
  | 0 => rlt1 k (cB k)
  | i + 1 => flpAt (flpAt (flpAt (rlt2 k i) i (cB k + i)) i (cW k + i % cP k)) i (cW k + (i + 1) % cP k)
def rlightP (k : Nat) : List (List Nat) := rlt2 k (cS k)
theorem rlt1_kp (k : Nat) : ∀ i, rlt1 (cKp k) i = rlt1 k i
  | 0 => by simp only [rlt1]; rw [cS_kp, cL_kp]
  | i + 1 => by simp only [rlt1]; rw [rlt1_kp k i, lit3_kp]
theorem cW_kp' (k : Nat) : cW (cKp k) = cW k := by unfold cW; rw [kp_kp, cS_kp]
theorem cP_kp' (k : Nat) : cP (cKp k) = cP k := by unfold cP; rw [cL_kp, cW_kp']
theorem rlt2_kp (k : Nat) : ∀ i, rlt2 (cKp k) i = rlt2 k i
  | 0 => by simp only [rlt2]; rw [rlt1_kp, cB_kp]
  | i + 1 => by simp only [rlt2]; rw [rlt2_kp k i, cB_kp, cW_kp', cP_kp']
theorem rlightP_kp (k : Nat) : rlightP (cKp k) = rlightP k := by unfold rlightP; rw [rlt2_kp, cS_kp]
theorem rlight_all : ∀ m, m < 8 → rlightP (4 * (m + 1)) = lightP (4 * (m + 1)) := by decide +kernel
theorem rlight_eq {k : Nat} (h1 : 1 ≤ k) (hk : k ≤ 32) : rlightP k = lightP k := by
  have h := rlight_all (cKp k / 4 - 1) (by unfold cKp; omega)
  have e : 4 * (cKp k / 4 - 1 + 1) = cKp k := by unfold cKp; omega
  rw [e, rlightP_kp, lightP_kp] at h
  exact h
theorem flpAt_all {L : Nat} {ls : List (List Nat)} (h : AllL L ls) (r i : Nat) : AllL L (flpAt ls r i) := h.flp r i
theorem rlt1_all (k : Nat) : ∀ i, AllL (cL k) (rlt1 k i)
  | 0 => fun l hl => by
    rw [List.eq_of_mem_replicate hl]; exact ⟨zs_bytes _, zs_length _⟩
  | i + 1 => (rlt1_all k i).lit3 3
theorem rlt2_all (k : Nat) : ∀ i, AllL (cL k) (rlt2 k i)
  | 0 => rlt1_all k _
  | i + 1 => (((rlt2_all k i).flp _ _).flp _ _).flp _ _
theorem flpAt_length (ls : List (List Nat)) (r i : Nat) : (flpAt ls r i).length = ls.length := by simp [flpAt]
/-- where nothing is, 1 is laid by storing it. -/
theorem hv_set {k h : Nat} : (hvR k h (cKp k + cS k)).set (cKp k + cS k + h) 1 = hv0 k h := by
  unfold hv0 flp
  have e : (hvR k h (cKp k + cS k)).getD (cKp k + cS k + h) 0 = 0 := by
    unfold hvR
    rw [List.getD_eq_getElem?_getD, List.getElem?_append_right (by simp)]
    simp only [List.length_map, List.length_range, zs, List.getElem?_replicate]
    split <;> rfl
  rw [e]
  rfl

/-- what the reference's walk over the fixed rows keeps. -/
def codeA (k : Nat) : Array Value := #[.int .i64 (k : Nat), .int .i64 (cKp k : Nat), .int .i64 (cS k : Nat), .int .i64 4, .int .i64 (cL k : Nat), .int .i64 (cW k : Nat), .int .i64 (cP k : Nat), .int .i64 (cP1 k : Nat), .int .i64 (cB k : Nat), .int .i64 (cJ k : Nat)]
structure FxS (B wr : World) (cs : Array Value) (gc g n c : Nat) (hs : List HdT) (ls : List (List Nat)) : Prop where
  own : OwnD wr B.heap.size g n c hs ls
  code : wr.heap[gc]? = some (.cells cs 106 (0, 0))
  below : Below B.heap.size B wr
theorem own_ne_blk {w : World} {base : Nat} {T T2 : TypeId} {s n : Nat} {v : Value} {xs : List Value} (h : w.ownsRow base T s v n xs) {g : Nat} {cs : Array Value} (hb : w.heap[g]? = some (.cells cs T2 (0, 0))) (hne : T ≠ T2) : v.ownBlock ≠ some g := by
  intro e
  rcases h.2 with ⟨rfl, _⟩ | ⟨g', cap, cur, rfl, _, hh, _⟩
  · cases e
  · simp [Value.ownBlock] at e
    subst e
    rw [hh] at hb
    injection hb with hb
    injection hb with _ hb
    exact hne hb
theorem FxS.cells {B wr : World} {cs : Array Value} {gc g n c : Nat} {hs : List HdT} {ls : List (List Nat)} {k Kp S L W P P1 Bn J : Nat} (h : FxS B wr cs gc g n c hs ls) (ht : cs = #[.int .i64 (k : Nat), .int .i64 (Kp : Nat), .int .i64 (S : Nat), .int .i64 4, .int .i64 (L : Nat), .int .i64 (W : Nat), .int .i64 (P : Nat), .int .i64 (P1 : Nat), .int .i64 (Bn : Nat), .int .i64 (J : Nat)]) :
    wr.cell? ⟨gc, 0, none⟩ = some (.int .i64 (k : Nat)) ∧ wr.cell? ⟨gc, 1, none⟩ = some (.int .i64 (Kp : Nat)) ∧ wr.cell? ⟨gc, 2, none⟩ = some (.int .i64 (S : Nat)) ∧ wr.cell? ⟨gc, 3, none⟩ = some (.int .i64 4) ∧ wr.cell? ⟨gc, 4, none⟩ = some (.int .i64 (L : Nat)) ∧ wr.cell? ⟨gc, 5, none⟩ = some (.int .i64 (W : Nat)) ∧ wr.cell? ⟨gc, 6, none⟩ = some (.int .i64 (P : Nat)) ∧ wr.cell? ⟨gc, 7, none⟩ = some (.int .i64 (P1 : Nat)) ∧ wr.cell? ⟨gc, 8, none⟩ = some (.int .i64 (Bn : Nat)) ∧ wr.cell? ⟨gc, 9, none⟩ = some (.int .i64 (J : Nat)) := by
  have hg := h.code
  rw [ht] at hg
  refine ⟨?_, ?_, ?_, ?_, ?_, ?_, ?_, ?_, ?_, ?_⟩ <;> (rw [cell_of_row _ _ _ _ _ _ hg]; rfl)
theorem FxS.step {B wr w' : World} {cs : Array Value} {gc g n c : Nat} {hs : List HdT} {ls : List (List Nat)} (h : FxS B wr cs gc g n c hs ls) (hb : Below wr.heap.size wr w') : FxS B w' cs gc g n c hs ls :=
  ⟨h.own.below hb, (hb.block gc (Array.getElem?_eq_some_iff.1 h.code).1).trans h.code, h.below.trans (hb.mono h.below.size)⟩
/-- one cell of one row is turned. -/
theorem FxS.flip {B wr : World} {cs : Array Value} {gc g n c : Nat} {hs : List HdT} {ls : List (List Nat)} (h : FxS B wr cs gc g n c hs ls) {L r i : Nat} (hall : AllL L ls) (hr : r < n) (hi : i < L) (hL : L ≤ 100) :
    ∃ q c' x, x < 256 ∧ wr.cell? ⟨g, r, none⟩ = some (.slice (some ⟨q, 0, none⟩) L c') ∧ wr.cell? ⟨q, i, none⟩ = some (.int .u8 (x : Nat)) ∧ wr.frozen? ⟨q, i, none⟩ = false ∧ bits .xor .u8 (x : Int) 1 = ((x ^^^ 1 : Nat) : Int) ∧ FxS B (wr.setCell ⟨q, i, none⟩ (.int .u8 ((x ^^^ 1 : Nat) : Int))) cs gc g n c hs (flpAt ls r i) := by
  have hlen := h.own.len
  have hll : ls.length = n := by rw [← h.own.2.1.1]; exact hlen
  have hml : ls.getD r [] ∈ ls := by
    rw [List.getD_eq_getElem?_getD, List.getElem?_eq_getElem (by omega)]; exact List.getElem_mem _
  obtain ⟨l, hl⟩ : ∃ l, ls.getD r [] = l := ⟨_, rfl⟩
  have hla := hall _ hml
  rw [hl] at hla
  obtain ⟨q, c', hx, q9, o9, hlb⟩ := h.own.row hr (by rw [hl, hla.2]; omega)
  rw [hl, hla.2] at hx q9 o9
  rw [hl] at hlb
  have hb : l.getD i 0 < 256 := hlb.getD i
  have hxx := u8_xor_nat (l.getD i 0) 1 hb (by omega)
  rw [show ((1 : Nat) : Int) = 1 from rfl] at hxx
  have hgr := grown_set4 wr q i (.int .u8 ((l.getD i 0 ^^^ 1 : Nat) : Int))
  have ho := own_set' o9 i (.int .u8 ((l.getD i 0 ^^^ 1 : Nat) : Int))
  rw [← flp_map] at ho
  have hput := h.own.put hx hgr ho (flp_bytes hlb i) (by omega)
  refine ⟨q, c', l.getD i 0, hb, q9, own_cell o9 hi, o9.frozenAt i, hxx, ?_, ?_, ?_⟩
  · unfold flpAt; rw [hl]; exact hput
  · refine (hgr.block gc (Array.getElem?_eq_some_iff.1 h.code).1 (fun e => ?_)).trans h.code
    have := own_ne_blk o9 h.code (by decide)
    exact this e.symm
  · exact below_grown h.below hgr (fun k e => by injection e with e; rw [← e]; exact (o9.lt q rfl).1)
/-- a row more, in a block of its own. -/
theorem OwnD.snoc {wm w' : World} {B g n c g' c' : Nat} {hs : List HdT} {ls : List (List Nat)} {x : HdT} {l : List Nat} (h : OwnD wm B g n c hs ls) (hx : wm.ownsRow B 5 1 (SV x) l.length (l.map bv)) (hxl : x.2.1 = l.length) (hl : Bytes l ∧ l.length ≤ 140737488355328) (hf : ∀ y ∈ hs, y.1 ≠ none → y.1 ≠ x.1)
    (hE : w'.ownsRow B 22 1 (.slice (some ⟨g', 0, none⟩) (n + 1) c') (n + 1) (hs.map SV ++ [SV x])) (hg : wm.grownBy w' (Value.slice (some ⟨g, 0, none⟩) n c).ownBlock) : OwnD w' B g' (n + 1) c' (hs ++ [x]) (ls ++ [l]) := by
  obtain ⟨h1, h2, h3, h4⟩ := h
  refine ⟨by rw [List.map_append]; exact hE, ⟨by simp [h2.1], fun i y m a b => ?_⟩, fun m hm => ?_, fun i j y z a b hne hyz => ?_⟩
  · rcases snoc_at a with ⟨a, k1⟩ | ⟨k1, rfl⟩ <;> rcases snoc_at b with ⟨b, k2⟩ | ⟨k2, rfl⟩
    · have k := h2.2 i y m a b
      exact ⟨k.1, k.2.kept hg (own_ne k.2 h1 (by decide))⟩
    · have := h2.1; omega
    · have := h2.1; omega
    · exact ⟨hxl, hx.kept hg (own_ne hx h1 (by decide))⟩
  · rcases List.mem_append.1 hm with hm | hm
    · exact h3 m hm
    · simp only [List.mem_singleton] at hm; subst hm; exact hl
  · rcases snoc_at a with ⟨a', k1⟩ | ⟨k1, k3⟩ <;> rcases snoc_at b with ⟨b', k2⟩ | ⟨k2, k4⟩
    · exact h4 i j y z a' b' hne hyz
    · rw [k4] at hyz
      exact absurd hyz (hf y (List.mem_of_getElem? a') hne)
    · rw [k3] at hyz hne
      exact absurd hyz.symm (hf z (List.mem_of_getElem? b') (by rw [← hyz]; exact hne))
    · omega
/-- rows that are owned lie in blocks that there are. -/
theorem OwnD.older {w : World} {B g n c : Nat} {hs : List HdT} {ls : List (List Nat)} (h : OwnD w B g n c hs ls) : ∀ y ∈ hs, ∀ a, y.1 = some a → a.block < w.heap.size := fun y hy a ha => by
  obtain ⟨i, hi⟩ := List.getElem?_of_mem hy
  obtain ⟨l, hl⟩ : ∃ l, ls[i]? = some l := ⟨_, List.getElem?_eq_getElem (by rw [← h.2.1.1]; exact (List.getElem?_eq_some_iff.1 hi).1)⟩
  obtain ⟨_, ho⟩ := h.2.1.2 i y l hi hl
  obtain ⟨ad, cap, e, hc, -⟩ := ownsRow_parts ho
  unfold SV at e
  injection e with e1 e2 e3
  rcases hc with ⟨e4, -, -⟩ | ⟨q, e4, -, hq⟩
  · rw [ha, e4] at e1; cases e1
  · rw [ha, e4] at e1
    injection e1 with e1
    rw [e1]; exact hq
theorem FxS.snoc {B wm w' : World} {cs : Array Value} {gc g n c g' c' U : Nat} {hs : List HdT} {ls : List (List Nat)} {q L cq : Nat} {l : List Nat} (h : FxS B wm cs gc g n c hs ls) (hx : wm.ownsRow B.heap.size 5 1 (SV (some ⟨q, 0, none⟩, L, cq)) l.length (l.map bv)) (hxl : L = l.length) (hl : Bytes l ∧ l.length ≤ 140737488355328) (hU : ∀ y ∈ hs, ∀ a, y.1 = some a → a.block < U) (hq : U ≤ q)
    (hE : w'.ownsRow B.heap.size 22 1 (.slice (some ⟨g', 0, none⟩) (n + 1) c') (n + 1) (hs.map SV ++ [SV (some ⟨q, 0, none⟩, L, cq)])) (hg : wm.grownBy w' (Value.slice (some ⟨g, 0, none⟩) n c).ownBlock) : FxS B w' cs gc g' (n + 1) c' (hs ++ [(some ⟨q, 0, none⟩, L, cq)]) (ls ++ [l]) := by
  refine ⟨h.own.snoc hx hxl hl (fun y hy hne e => ?_) hE hg, ?_, below_grown h.below hg (fun k e => ownBlock_ge h.own.1 k e)⟩
  · have := hU y hy _ e
    simp only at this
    omega
  · exact (hg.block gc (Array.getElem?_eq_some_iff.1 h.code).1 (fun e => own_ne_blk h.own.1 h.code (by decide) e.symm)).trans h.code
/-- a store into a row that isn't among them. -/
theorem FxS.other {B wr w' : World} {cs : Array Value} {gc g n c U q m cq : Nat} {hs : List HdT} {ls : List (List Nat)} {xs : List Value} (h : FxS B wr cs gc g n c hs ls) (hU : ∀ y ∈ hs, ∀ a, y.1 = some a → a.block < U) (hq : U ≤ q) (ho : wr.ownsRow B.heap.size 5 1 (.slice (some ⟨q, 0, none⟩) m cq) m xs) (hg : wr.grownBy w' (some q)) : FxS B w' cs gc g n c hs ls := by
  obtain ⟨⟨h1, h2, h3, h4⟩, hc, hb⟩ := h
  refine ⟨⟨h1.kept hg ?_, ⟨h2.1, fun i y l a b => ?_⟩, h3, h4⟩, ?_, below_grown hb hg (fun k e => by injection e with e; rw [← e]; exact (ho.lt q rfl).1)⟩
  · have := own_ne h1 ho (by decide)
    simpa [Value.ownBlock] using this
  · have k := h2.2 i y l a b
    refine ⟨k.1, k.2.kept hg ?_⟩
    cases hk : (SV y).ownBlock with
    | none => exact .inl rfl
    | some q' =>
      right
      intro e
      injection e with e
      have := hU y (List.mem_of_getElem? a) _ (own_shape k.2 hk)
      simp only at this
      omega
  · exact (hg.block gc (Array.getElem?_eq_some_iff.1 hc).1 (fun e => own_ne_blk ho hc (by decide) e.symm)).trans hc
theorem OwnD.hd {w : World} {B g n c : Nat} {hs : List HdT} {ls : List (List Nat)} (h : OwnD w B g n c hs ls) : HdV w B (some ⟨g, 0, none⟩) n c ls := by
  refine ⟨by rw [← h.2.1.1]; exact h.len, hs, h.1, h.2.1.1, fun i x l a b => ?_⟩
  have k := h.2.1.2 i x l a b
  have hm := h.2.2.1 l (List.mem_of_getElem? b)
  exact own_at k.2 k.1 hm.1 hm.2
end Go.Proofs.YtfjcbgfgiidogaaDoor
