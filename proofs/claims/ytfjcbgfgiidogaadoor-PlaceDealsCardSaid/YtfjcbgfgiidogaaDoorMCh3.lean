/-
  Ch3: ChI Sink ChJ
-/
import Derived.StillTailTactics
import Derived.Deep.RegionHeld3
import Derived.WalkKit
import Derived.Test.YtfjcbgfgiidogaaDoorMRqO
import Derived.Test.YtfjcbgfgiidogaaDoorMCh2
namespace Go.Proofs.YtfjcbgfgiidogaaDoor
open Go.RowKit

abbrev PST : TypeId := 68
theorem own_ne_cl {w : World} {base : Nat} {T T2 : TypeId} {s n : Nat} {v : Value} {xs : List Value} (h : w.ownsRow base T s v n xs) {g : Nat} {cs : Array Value} (hb : w.heap[g]? = some (.cells cs T2 (0, 0))) (hne : T ≠ T2) : v.ownBlock ≠ some g := by
  intro e
  rcases h.2 with ⟨rfl, _⟩ | ⟨g', cap, cur, rfl, _, hh, _⟩
  · cases e
  · simp [Value.ownBlock] at e
    subst e
    rw [hh] at hb
    injection hb with hb
    injection hb with _ hb
    exact hne hb
structure RowP (w0 w : World) (B : Nat) (a : Option Addr) (n c : Nat) (ps : List Pc) : Prop where
  len : ps.length = n
  ex : ∃ xs : List (Int × HdT), xs.length = n ∧ w.ownsRow B PT 2 (.slice a n c) n (pcells xs) ∧ ∀ (i : Nat) x p, xs[i]? = some x → ps[i]? = some p → x.1 = p.1 ∧ BytesV w0 x.2 p.2
theorem RowP.keep {w0 w w' : World} {B : Nat} {a : Option Addr} {n c : Nat} {ps : List Pc} {row : Option Nat} (h : RowP w0 w B a n c ps) (hg : w.grownBy w' row) (hne : (Value.slice a n c).ownBlock = none ∨ (Value.slice a n c).ownBlock ≠ row) : RowP w0 w' B a n c ps := by
  obtain ⟨h1, xs, h2, h3, h4⟩ := h
  exact ⟨h1, xs, h2, h3.kept hg hne, h4⟩
theorem RowP.below {w0 w w' : World} {B : Nat} {a : Option Addr} {n c : Nat} {ps : List Pc} (h : RowP w0 w B a n c ps) (hb : Below w.heap.size w w') : RowP w0 w' B a n c ps := h.keep (grownBy_of_below hb none) (by cases (Value.slice a n c).ownBlock <;> simp)
theorem RowP.nil (w0 w : World) (B : Nat) : RowP w0 w B none 0 0 [] := ⟨rfl, [], rfl, ⟨rfl, .inl ⟨rfl, rfl⟩⟩, fun i x p h => by simp at h⟩
theorem RowP.pi {w0 w : World} {B : Nat} {a : Option Addr} {n c : Nat} {ps : List Pc} (h : RowP w0 w B a n c ps) (hb : Below w0.heap.size w0 w) : PiV w a n ps := by
  obtain ⟨h1, xs, h2, h3, h4⟩ := h
  refine ⟨h1, xs, h2, fun h0 => ?_, fun i x p a b => ⟨(h4 i x p a b).1, (h4 i x p a b).2.below hb⟩⟩
  rcases h3.2 with ⟨_, e⟩ | ⟨g, cap, cur, e, _, hg, _, _, _, ht⟩
  · omega
  · injection e with e1 e2 e3
    subst e1
    refine ⟨g, 0, rfl, fun i x hx => ?_⟩
    have hi : i < n := by have := (List.getElem?_eq_some_iff.1 hx).1; omega
    have k := pcells_get xs i x hx
    have q1 := h3.cellAt (i * 2) (by omega)
    have q2 := h3.cellAt (i * 2 + 1) (by omega)
    rw [Nat.zero_add]
    exact ⟨q1.trans k.1, q2.trans k.2⟩
def OwnQ (w0 w : World) (B g n c : Nat) (hs : List HdT) (qs : List (List Pc)) : Prop :=
  qs.length = n ∧ w.ownsRow B PST 1 (.slice (some ⟨g, 0, none⟩) n c) n (hs.map SV) ∧ hs.length = qs.length ∧ (∀ (i : Nat) x ps, hs[i]? = some x → qs[i]? = some ps → RowP w0 w B x.1 x.2.1 x.2.2 ps) ∧
    ∀ (i j : Nat) x y, hs[i]? = some x → hs[j]? = some y → i ≠ j → (SV x).ownBlock = none ∨ (SV x).ownBlock ≠ (SV y).ownBlock
theorem OwnQ.below {w0 w w' : World} {B g n c : Nat} {hs : List HdT} {qs : List (List Pc)} (h : OwnQ w0 w B g n c hs qs) (hb : Below w.heap.size w w') : OwnQ w0 w' B g n c hs qs := by
  obtain ⟨h0, h1, h2, h3, h4⟩ := h
  exact ⟨h0, h1.kept (grownBy_of_below hb none) (by simp [Value.ownBlock]), h2, fun i x ps a b => (h3 i x ps a b).below hb, h4⟩
theorem OwnQ.made {w0 w : World} {B g n : Nat} (h : w.ownsRow B PST 1 (.slice (some ⟨g, 0, none⟩) n n) n (List.replicate n NilS)) : OwnQ w0 w B g n n (List.replicate n (none, 0, 0)) (List.replicate n []) := by
  refine ⟨by simp, by rw [List.map_replicate]; exact h, by simp, fun i x ps a b => ?_, fun i j x y a _ _ => ?_⟩
  · rw [List.getElem?_replicate] at a b
    by_cases hi : i < n
    · rw [if_pos hi] at a b
      injection a with a
      injection b with b
      subst a b
      exact .nil _ _ _
    · rw [if_neg hi] at a
      cases a
  · rw [List.getElem?_replicate] at a
    split at a
    · injection a with a
      subst a
      exact .inl rfl
    · cases a
theorem OwnQ.at {w0 w : World} {B g n c i : Nat} {hs : List HdT} {qs : List (List Pc)} (h : OwnQ w0 w B g n c hs qs) (hi : i < n) : ∃ x, hs[i]? = some x ∧ w.cell? ⟨g, i, none⟩ = some (SV x) ∧ w.frozen? ⟨g, i, none⟩ = false ∧ qs[i]? = some (qs.getD i []) ∧ RowP w0 w B x.1 x.2.1 x.2.2 (qs.getD i []) := by
  obtain ⟨h0, h1, h2, h3, h4⟩ := h
  obtain ⟨x, hx⟩ : ∃ x, hs[i]? = some x := ⟨_, List.getElem?_eq_getElem (by omega)⟩
  obtain ⟨ps, hl⟩ : ∃ ps, qs[i]? = some ps := ⟨_, List.getElem?_eq_getElem (by omega)⟩
  have e : qs.getD i [] = ps := by rw [List.getD_eq_getElem?_getD, hl]; rfl
  refine ⟨x, hx, ?_, h1.frozenAt i, by rw [e]; exact hl, by rw [e]; exact h3 i x ps hx hl⟩
  have := h1.cellAt i (by omega)
  rw [List.getElem?_map, hx] at this
  exact this
theorem OwnQ.rebase {w0 w : World} {B B' g n c : Nat} {hs : List HdT} {qs : List (List Pc)} (h : OwnQ w0 w B g n c hs qs) (hB : B' ≤ B) : OwnQ w0 w B' g n c hs qs := by
  obtain ⟨h0, h1, h2, h3, h4⟩ := h
  refine ⟨h0, ownsRow_base h1 hB, h2, fun i x ps a b => ?_, h4⟩
  obtain ⟨r1, xs, r2, r3, r4⟩ := h3 i x ps a b
  exact ⟨r1, xs, r2, ownsRow_base r3 hB, r4⟩
/-- a piece more in one of them. -/
theorem OwnQ.push {w0 w w' : World} {B g n c i g1 cap : Nat} {hs : List HdT} {qs : List (List Pc)} {x y : HdT} {ps : List Pc} {xs : List (Int × HdT)} {e : Int} {l : List Nat} (h : OwnQ w0 w B g n c hs qs) (hx : hs[i]? = some x) (hq : qs[i]? = some ps)
    (hxl : xs.length = ps.length) (hpl : ps.length = x.2.1) (h4 : ∀ (i : Nat) x p, xs[i]? = some x → ps[i]? = some p → x.1 = p.1 ∧ BytesV w0 x.2 p.2) (hy : BytesV w0 y l)
    (hE : w'.ownsRow B PT 2 (.slice (some ⟨g1, 0, none⟩) (x.2.1 + 1) cap) (x.2.1 + 1) (pcells xs ++ [.int .i64 e, SV y])) (hg : w.grownBy w' (SV x).ownBlock) (hlie : (SV x).ownBlock = some g1 ∨ g1 = w.heap.size) :
    OwnQ w0 (w'.setCell ⟨g, i, none⟩ (.slice (some ⟨g1, 0, none⟩) (x.2.1 + 1) cap)) B g n c (hs.set i (some ⟨g1, 0, none⟩, x.2.1 + 1, cap)) (qs.set i (ps ++ [(e, l)])) := by
  obtain ⟨k0, k1, k2, k3, k5⟩ := h
  have hrx := k3 i x ps hx hq
  obtain ⟨-, zs', -, hro, -⟩ := hrx
  have k1' := k1.kept hg (own_ne k1 (show w.ownsRow B PT 2 (SV x) x.2.1 _ from hro) (by decide))
  have kset := own_set' k1' i (.slice (some ⟨g1, 0, none⟩) (x.2.1 + 1) cap)
  have hmap : (hs.map SV).set i (.slice (some ⟨g1, 0, none⟩) (x.2.1 + 1) cap) = (hs.set i (some ⟨g1, 0, none⟩, x.2.1 + 1, cap)).map SV := by rw [List.map_set]; rfl
  rw [hmap] at kset
  have hgs := grown_set4 w' g i (.slice (some ⟨g1, 0, none⟩) (x.2.1 + 1) cap)
  have keyb : ∀ (j : Nat) (y : HdT) (qj : List Pc), hs[j]? = some y → qs[j]? = some qj → ∀ q, (SV y).ownBlock = some q → q < w.heap.size := fun j y qj a b q hq' => by
    obtain ⟨-, _, -, ho, -⟩ := k3 j y qj a b
    exact ((show w.ownsRow B PT 2 (SV y) y.2.1 _ from ho).lt q hq').2
  refine ⟨by rw [List.length_set]; exact k0, kset, by rw [List.length_set, List.length_set]; exact k2, fun j z m a b => ?_, fun j1 j2 z1 z2 a b hne => ?_⟩
  · rw [List.getElem?_set] at a b
    by_cases ei : i = j
    · rw [if_pos ei] at a b
      split at a
      · split at b
        · injection a with a
          injection b with b
          subst a b
          refine ⟨by simp [hpl], xs ++ [(e, y)], by simp [hxl, hpl], ?_, fun q u p a b => ?_⟩
          · rw [pcells_append]
            exact hE.kept hgs (by have := own_ne hE k1' (by decide); simpa [Value.ownBlock] using this)
          · by_cases hq1 : q < ps.length
            · rw [List.getElem?_append_left (by omega)] at a
              rw [List.getElem?_append_left (by omega)] at b
              exact h4 q u p a b
            · rw [List.getElem?_append_right (by omega)] at a
              rw [List.getElem?_append_right (by omega), ← hxl] at b
              have hi0 := (List.getElem?_eq_some_iff.1 a).1
              simp only [List.length_cons, List.length_nil] at hi0
              have e0 : q - xs.length = 0 := by omega
              rw [e0] at a b
              simp at a b
              subst a b
              exact ⟨rfl, hy⟩
        · cases b
      · cases a
    · rw [if_neg ei] at a b
      have r1 := (k3 j z m a b).keep hg (k5 j i z x a hx (fun e => ei e.symm))
      obtain ⟨-, _, -, ho, -⟩ := r1
      exact ((k3 j z m a b).keep hg (k5 j i z x a hx (fun e => ei e.symm))).keep hgs (by have := own_ne ho k1' (by decide); simpa [Value.ownBlock] using this)
  · have hnew : ∀ (j : Nat) (z : HdT), i ≠ j → hs[j]? = some z → (SV z).ownBlock = none ∨ (SV z).ownBlock ≠ some g1 := fun j z hij a => by
      rcases hlie with e | e
      · rw [← e]; exact k5 j i z x a hx (fun e => hij e.symm)
      · cases hk : (SV z).ownBlock with
        | none => exact .inl rfl
        | some q =>
          right
          intro e2
          injection e2 with e2
          obtain ⟨m, hm⟩ : ∃ m, qs[j]? = some m := ⟨_, List.getElem?_eq_getElem (by rw [← k2]; exact (List.getElem?_eq_some_iff.1 a).1)⟩
          have := keyb j z m a hm q hk
          omega
    rw [List.getElem?_set] at a b
    by_cases e1 : i = j1
    · by_cases e2 : i = j2
      · exact absurd (e1.symm.trans e2) hne
      · rw [if_pos e1] at a
        rw [if_neg e2] at b
        split at a
        · injection a with a
          subst a
          right
          intro e3
          rcases hnew j2 z2 e2 b with h | h
          · rw [h] at e3; cases e3
          · exact h e3.symm
        · cases a
    · rw [if_neg e1] at a
      by_cases e2 : i = j2
      · rw [if_pos e2] at b
        split at b
        · injection b with b
          subst b
          exact hnew j1 z1 e1 a
        · cases b
      · rw [if_neg e2] at b
        exact k5 j1 j2 z1 z2 a b hne
end Go.Proofs.YtfjcbgfgiidogaaDoor
namespace Go.Proofs.YtfjcbgfgiidogaaDoor
open Go

section
variable {P : Program} {ops : Array Oper} {Q : Exit → Act → World → Prop} {md : Region.Mode} {S : World → Prop}

def wpX (P : Program) (md : Region.Mode) (ops : Array Oper) (Q : Exit → Act → World → Prop) (S : World → Prop) (n : Nat) : Nat → Array Bool → Act → World → Prop
  | 0, listed, a, w => Region.ready md ops listed = [] ∧ Q .normal a w
  | fuel + 1, listed, a, w =>
    (Region.ready md ops listed = [] → Q .normal a w) ∧
    ∀ i ∈ Region.ready md ops listed, wpOp P ops Q i (fun a' w' => (i < n → S w') ∧ wpX P md ops Q S n fuel (listed.setIfInBounds i true) a' w') a w

theorem wpAny_of_x {n : Nat} : ∀ (fuel : Nat) (listed : Array Bool) (a : Act) (w : World), wpX P md ops Q S n fuel listed a w → wpAny P md ops Q fuel listed a w
  | 0, _, _, _, h => h
  | fuel + 1, _, _, _, h => ⟨h.1, fun i hi => wpOp_mono (fun a' w' h' => wpAny_of_x fuel _ a' w' h'.2) (h.2 i hi)⟩

theorem wpX_first {i n : Nat} {oi : Oper} {v : Value} (hi : ops[i]? = some oi) (hsel : ∀ (j : Nat) (o : Oper) cs b, ops[j]? = some o → o.op ≠ .select cs b)
    (hQ : ∀ c a w, Q (.panic c) (a.put oi.dst v) w → Q (.panic c) a w) (hs : Region.sinkB md ops n = true) (hc : Region.chainB md ops n = true) (hn : n < ops.size) (hin : i < n) :
    ∀ (fuel : Nat) (listed : Array Bool) (a : Act) (w : World), HeadInv md ops n listed →
      (∀ j oj, ops[j]? = some oj → j ≠ i → listed.getD j true = false → (∀ e ∈ oj.after, Region.binds md e = true → e.on ≠ i) → oi.apart ops oj = true) →
      i ∈ Region.ready md ops listed → YieldsIf P ops S oi v a → S w →
      wpX P md ops Q S n fuel (listed.setIfInBounds i true) (a.put oi.dst v) w → wpX P md ops Q S n (fuel + 1) listed a w := by
  intro fuel
  induction fuel with
  | zero =>
    intro listed a w _ _ hr hy hS H
    refine ⟨fun h => (by rw [h] at hr; cases hr), fun j hj => ?_⟩
    by_cases hji : j = i
    · subst hji; exact hy.wpOp hi hS ⟨fun _ => hS, H⟩
    · have := ready_mono hj hji
      rw [H.1] at this
      cases this
  | succ fuel ih =>
    intro listed a w inv hfree hr hy hS H
    have hun := (mem_ready.1 hr).1
    refine ⟨fun h => (by rw [h] at hr; cases hr), fun j hj => ?_⟩
    have hjn : j < n := by
      rcases Nat.lt_or_ge j n with h | h
      · exact h
      · exact absurd hj (tail_waits hs hc hn inv _ i rfl hin hun j h)
    by_cases hji : j = i
    · subst hji; exact hy.wpOp hi hS ⟨fun _ => hS, H⟩
    · have h1 := H.2 j (ready_mono hj hji)
      obtain ⟨hjun, oj, hoj, hall⟩ := mem_ready.1 hj
      have hnot : ∀ e ∈ oj.after, Region.binds md e = true → e.on ≠ i := fun e he hb heq => by
        have h1 := hall e he hb
        rw [heq, getD_both hun] at h1
        cases h1
      have h2 := wpOp_putIf hoj (hfree j oj hoj hji hjun hnot) (fun cs b => hsel i oi cs b hi) (fun cs b => hsel j oj cs b hoj) hQ hy h1
      have hfree' : ∀ k ok, ops[k]? = some ok → k ≠ i → (listed.setIfInBounds j true).getD k true = false →
          (∀ e ∈ ok.after, Region.binds md e = true → e.on ≠ i) → oi.apart ops ok = true := fun k ok hk hki hun hno => by
        refine hfree k ok hk hki ?_ hno
        by_cases hjk : j = k
        · subst hjk; exact hjun
        · rw [getD_set_ne true hjk] at hun; exact hun
      refine wpOp_mono (fun a' w' h3 => ⟨h3.2.1, ih (listed.setIfInBounds j true) a' w' (inv.set hj hjn) hfree' (ready_mono hr (Ne.symm hji)) h3.1 (h3.2.1 hjn) ?_⟩) h2
      rw [Array.setIfInBounds_comm _ _ hji]
      exact h3.2.2

/-- the walk's goal. -/
structure GoX (P : Program) (l : List Oper) (Q : Exit → Act → World → Prop) (S : World → Prop) (n fuel : Nat) (listed : Array Bool) (a : Act) (w : World) : Prop where
  go : HeadInv .any l.toArray n listed → wpX P .any l.toArray Q S n fuel listed a w

variable {l : List Oper} {n : Nat}

/-- the side conditions of a region, once. -/
def sinkOk (l : List Oper) (n : Nat) : Bool := Region.noSelect l.toArray && Region.sinkB .any l.toArray n && Region.chainB .any l.toArray n && decide (n < l.length)

theorem GoX.start {id : Nat} {a : Act} {w : World} (n : Nat) (S : World → Prop) (hm : P.follows .mixedOrders = true)
    (h : GoX P l Q S n l.length (Array.replicate l.length false) a w.drew) : (Code.region id l.toArray true).wp P Q a w := by
  refine wp_region_any hm (wpAny_of_x (S := S) (n := n) _ _ _ _ ?_)
  have := h.go ⟨by simp, fun j oj _ hl => (by rw [getD_replicate_false] at hl; cases hl), fun t _ ht => getD_in (by simpa using ht) (getD_replicate_false _ _)⟩
  simpa using this

theorem drop_at : ∀ {l : List Oper} {i : Nat} {oi : Oper} {rest : List Oper}, l.drop i = oi :: rest → l[i]? = some oi
  | [], i, _, _, h => by simp at h
  | x :: l, 0, _, _, h => by simp at h; simp [h.1]
  | x :: l, i + 1, _, _, h => by simpa using drop_at (l := l) (by simpa using h)

theorem GoX.take {fuel : Nat} {listed : Array Bool} {a : Act} {w : World} (i : Nat) {oi : Oper} {rest : List Oper} {v : Value} (hd : l.drop i = oi :: rest) (hk : sinkOk l n = true)
    (hf : (Region.free .any l.toArray listed i && (Region.ready .any l.toArray listed).contains i && decide (i < n)) = true) (hw : Region.wanted oi (yielded l.toArray a.tmps) = true)
    (hQ : ∀ c a w, Q (.panic c) (a.put oi.dst v) w → Q (.panic c) a w) (hS : S w) (hy : ∀ w, S w → (execOp a.eval oi).run P w = .ok (.value v) w)
    (h : GoX P l Q S n fuel (listed.setIfInBounds i true) (a.put oi.dst v) w) : GoX P l Q S n (fuel + 1) listed a w := by
  simp only [sinkOk, Bool.and_eq_true, decide_eq_true_eq] at hk hf
  have h0 : l.toArray[i]? = some oi := by simpa using drop_at hd
  have hr : i ∈ Region.ready .any l.toArray listed := by simpa using hf.1.2
  exact ⟨fun inv => wpX_first h0 (Region.noSelect_spec hk.1.1.1) hQ hk.1.1.2 hk.1.2 (by simpa using hk.2) hf.2 fuel listed a w inv (Region.free_spec h0 hf.1.1) hr (.inl ⟨hw, hy⟩) hS (h.go (inv.set hr hf.2))⟩

theorem GoX.skip {fuel : Nat} {listed : Array Bool} {a : Act} {w : World} (i : Nat) {oi : Oper} {rest : List Oper} (hd : l.drop i = oi :: rest) (hk : sinkOk l n = true)
    (hf : (Region.free .any l.toArray listed i && (Region.ready .any l.toArray listed).contains i && decide (i < n)) = true) (hw : Region.wanted oi (yielded l.toArray a.tmps) = false)
    (hQ : ∀ c a w, Q (.panic c) (a.put oi.dst undef) w → Q (.panic c) a w) (hS : S w)
    (h : GoX P l Q S n fuel (listed.setIfInBounds i true) (a.put oi.dst undef) w) : GoX P l Q S n (fuel + 1) listed a w := by
  simp only [sinkOk, Bool.and_eq_true, decide_eq_true_eq] at hk hf
  have h0 : l.toArray[i]? = some oi := by simpa using drop_at hd
  have hr : i ∈ Region.ready .any l.toArray listed := by simpa using hf.1.2
  exact ⟨fun inv => wpX_first h0 (Region.noSelect_spec hk.1.1.1) hQ hk.1.1.2 hk.1.2 (by simpa using hk.2) hf.2 fuel listed a w inv (Region.free_spec h0 hf.1.1) hr (.inr ⟨hw, rfl⟩) hS (h.go (inv.set hr hf.2))⟩

/-- the one operation that may come up now is carried out. -/
theorem GoX.one {fuel : Nat} {listed : Array Bool} {a : Act} {w : World} (i : Nat) {oi : Oper} {rest : List Oper} (hd : l.drop i = oi :: rest)
    (hf : Region.ready .any l.toArray listed = [i]) (hi : i < n)
    (h : ∀ K : Act → World → Prop, Shut (∀ a w, S w → (S w → GoX P l Q S n fuel (listed.setIfInBounds i true) a w) → K a w) → if Region.wanted oi (yielded l.toArray a.tmps) = true then Oper.wp P oi a w K Q else K (a.put oi.dst undef) w) : GoX P l Q S n (fuel + 1) listed a w := by
  have h0 : l.toArray[i]? = some oi := by simpa using drop_at hd
  refine ⟨fun inv => ⟨fun h1 => (by rw [h1] at hf; cases hf), fun j hj => ?_⟩⟩
  have hr := hj
  rw [hf] at hj
  obtain rfl : j = i := by simpa using hj
  exact wpOp_step h0 (fun K hK => h K (fun a w hS hG => hK a w ⟨fun _ => hS, (hG hS).go (inv.set hr hi)⟩))

/-- two operations may come up. -/
theorem GoX.two {fuel : Nat} {listed : Array Bool} {a : Act} {w : World} (i j : Nat) {oi oj : Oper} {ri rj : List Oper} (hdi : l.drop i = oi :: ri) (hdj : l.drop j = oj :: rj)
    (hf : Region.ready .any l.toArray listed = [i, j]) (hi : i < n) (hj : j < n)
    (h1 : ∀ K : Act → World → Prop, Shut (∀ a w, S w → (S w → GoX P l Q S n fuel (listed.setIfInBounds i true) a w) → K a w) → if Region.wanted oi (yielded l.toArray a.tmps) = true then Oper.wp P oi a w K Q else K (a.put oi.dst undef) w)
    (h2 : ∀ K : Act → World → Prop, Shut (∀ a w, S w → (S w → GoX P l Q S n fuel (listed.setIfInBounds j true) a w) → K a w) → if Region.wanted oj (yielded l.toArray a.tmps) = true then Oper.wp P oj a w K Q else K (a.put oj.dst undef) w) : GoX P l Q S n (fuel + 1) listed a w := by
  have h0 : l.toArray[i]? = some oi := by simpa using drop_at hdi
  have h0' : l.toArray[j]? = some oj := by simpa using drop_at hdj
  refine ⟨fun inv => ⟨fun h1 => (by rw [h1] at hf; cases hf), fun k hk => ?_⟩⟩
  have hr := hk
  rw [hf] at hk
  simp only [List.mem_cons, List.not_mem_nil, or_false] at hk
  rcases hk with rfl | rfl
  · exact wpOp_step h0 (fun K hK => h1 K (fun a w hS hG => hK a w ⟨fun _ => hS, (hG hS).go (inv.set hr hi)⟩))
  · exact wpOp_step h0' (fun K hK => h2 K (fun a w hS hG => hK a w ⟨fun _ => hS, (hG hS).go (inv.set hr hj)⟩))

/-- the last operation. -/
theorem GoX.last {fuel : Nat} {listed : Array Bool} {a : Act} {w : World} (i : Nat) {oi : Oper} {rest : List Oper} (hd : l.drop i = oi :: rest)
    (hf : Region.ready .any l.toArray listed = [i]) (hg : Region.ready .any l.toArray (listed.setIfInBounds i true) = []) (hi : n ≤ i)
    (h : if Region.wanted oi (yielded l.toArray a.tmps) = true then Oper.wp P oi a w (Q .normal) Q else Q .normal (a.put oi.dst undef) w) : GoX P l Q S n (fuel + 1) listed a w := by
  have h0 : l.toArray[i]? = some oi := by simpa using drop_at hd
  refine ⟨fun inv => ⟨fun h1 => (by rw [h1] at hf; cases hf), fun j hj => ?_⟩⟩
  rw [hf] at hj
  obtain rfl : j = i := by simpa using hj
  refine wpOp_step h0 (fun K hK => ?_)
  have done : ∀ a w, Q .normal a w → K a w := fun a w hq => hK a w ⟨fun hlt => absurd hlt (by omega), by
    cases fuel with
    | zero => exact ⟨hg, hq⟩
    | succ f => exact ⟨fun _ => hq, by rw [hg]; simp⟩⟩
  split
  · rename_i hw
    rw [if_pos hw] at h
    exact Oper.wp_mono done h
  · rename_i hw
    rw [if_neg hw] at h
    exact done _ _ h
end
end Go.Proofs.YtfjcbgfgiidogaaDoor
namespace Go.Proofs.YtfjcbgfgiidogaaDoor
open Go.RowKit

def qsTo (ss : List Sy) (z i : Nat) : List (List Pc) := (List.range z).map (ofBlock (ss.take i))
theorem qsTo_length (ss : List Sy) (z i : Nat) : (qsTo ss z i).length = z := by simp [qsTo]
theorem qsTo_at {ss : List Sy} {z i b : Nat} (h : b < z) : (qsTo ss z i)[b]? = some (ofBlock (ss.take i) b) := by
  unfold qsTo
  rw [List.getElem?_map, List.getElem?_range h]
  rfl
theorem qsTo_step {ss : List Sy} {z i b : Nat} {e : Int} {l : List Nat} (h : ss[i]? = some ((b : Int), e, l)) (hb : b < z) : (qsTo ss z i).set b (ofBlock (ss.take i) b ++ [(e, l)]) = qsTo ss z (i + 1) := by
  apply List.ext_getElem?
  intro j
  rw [List.getElem?_set]
  by_cases ej : b = j
  · subst ej
    rw [if_pos rfl, if_pos (by rw [qsTo_length]; exact hb), qsTo_at hb, take_step ss i _ h, ofBlock_append, ofBlock_one, if_pos rfl]
  · rw [if_neg ej]
    by_cases hj : j < z
    · rw [qsTo_at hj, qsTo_at hj, take_step ss i _ h, ofBlock_append, ofBlock_one, if_neg (by intro e2; simp only at e2; omega), List.append_nil]
    · rw [List.getElem?_eq_none (by rw [qsTo_length]; omega), List.getElem?_eq_none (by rw [qsTo_length]; omega)]
theorem qsTo_zero (ss : List Sy) (z : Nat) : qsTo ss z 0 = List.replicate z [] := by
  apply List.ext_getElem?
  intro j
  by_cases hj : j < z
  · rw [qsTo_at hj, List.getElem?_replicate, if_pos hj]; rfl
  · rw [List.getElem?_eq_none (by rw [qsTo_length]; omega), List.getElem?_eq_none (by simp; omega)]
def GivesQ (w : World) (s t : Int) (ss : List Sy) (e : Ending) (w' : World) : Prop := Below w.heap.size w w' ∧
  ((sizeC s t ≠ 0 ∧ e = .returned (.tuple #[.slice none 0 0, .slice none 0 0, .int .i64 (sizeC s t)])) ∨
   (sizeC s t = 0 ∧ badZ (chZ (chN s.toNat t.toNat)) ss = true ∧ e = .returned (.tuple #[.slice none 0 0, .slice none 0 0, .int .i64 51])) ∨
   (sizeC s t = 0 ∧ badZ (chZ (chN s.toNat t.toNat)) ss = false ∧ ∃ a c g c2 hs, e = .returned (.tuple #[.slice a (chZ (chN s.toNat t.toNat)) c, .slice (some ⟨g, 0, none⟩) (chZ (chN s.toNat t.toNat)) c2, .int .i64 0]) ∧
     w'.ownsRow w.heap.size 3 1 (.slice a (chZ (chN s.toNat t.toNat)) c) (chZ (chN s.toNat t.toNat)) ((partsL (chN s.toNat t.toNat)).map nv') ∧ OwnQ w w' w.heap.size g (chZ (chN s.toNat t.toNat)) c2 hs (qsTo ss (chZ (chN s.toNat t.toNat)) ss.length)))
theorem psinfo : (Tryd.prog.info? PST).map (fun i => (i.zero, i.size, i.bytes)) = some (some (.slice none 0 0), 1, 24) := by kernel_rfl
set_option maxRecDepth 100000 in
set_option maxHeartbeats 8000000 in
theorem byBlock_any (s t : Int) (sa : Option Addr) (sn sc : Nat) (ss : List Sy) (w : World) (h : SyV w sa sn ss) (hsn : sn ≤ 100000) :
    Calls Tryd.prog 40 #[.int .i64 s, .int .i64 t, .slice sa sn sc] w (GivesQ w s t ss) := by
  obtain ⟨i0, hi, hz0, hz1, hz2⟩ := info_parts psinfo
  obtain ⟨p0, hpi, hy0, hy1, hy2⟩ := info_parts pinfo
  have KP := parts_any s t w
  unfold partsR at KP
  have HL := Lib.hid h.len
  have H := Lib.hid h
  clear h
  by_cases hc : sizeC s t = 0
  rotate_left 1
  · unfold GivesQ
    rw [if_neg hc] at KP
    have hcb : (sizeC s t != 0) = true := by rw [bne_iff_ne]; exact hc
    have HC := Lib.hid hc
    generalize sizeC s t = code at KP hcb HC ⊢
    clear hc
    go_enter Tryd.func40, Tryd.ntmps40
    go_wp2_with fail
    (with_reducible refine KP.mono ?_)
    rintro e w1 ⟨a1, c1, rfl, -, b1⟩
    clear KP
    go_wp2
    go_ret3
    exact ⟨b1, .inl ⟨HC.out, rfl⟩⟩
  rw [if_pos hc] at KP
  obtain ⟨g1, g2⟩ := sizeC_zero.1 hc
  obtain ⟨s1, s2⟩ := okS_iff.1 g1
  obtain ⟨t1, t2⟩ := okT_iff.1 g2
  have HB51 : Hid (∀ w', Below w.heap.size w w' → badZ (chZ (chN s.toNat t.toNat)) ss = true → GivesQ w s t ss (.returned (.tuple #[.slice none 0 0, .slice none 0 0, .int .i64 51])) w') := Lib.hid (fun w' hb h => ⟨hb, .inr (.inl ⟨hc, h, rfl⟩)⟩)
  have HOKQ : Hid (∀ w' a c g c2 hs, Below w.heap.size w w' → badZ (chZ (chN s.toNat t.toNat)) ss = false → w'.ownsRow w.heap.size 3 1 (.slice a (chZ (chN s.toNat t.toNat)) c) (chZ (chN s.toNat t.toNat)) ((partsL (chN s.toNat t.toNat)).map nv') → OwnQ w w' w.heap.size g (chZ (chN s.toNat t.toNat)) c2 hs (qsTo ss (chZ (chN s.toNat t.toNat)) ss.length) → GivesQ w s t ss (.returned (.tuple #[.slice a (chZ (chN s.toNat t.toNat)) c, .slice (some ⟨g, 0, none⟩) (chZ (chN s.toNat t.toNat)) c2, .int .i64 0])) w') := Lib.hid (fun w' a c g c2 hs hb h ho hq => ⟨hb, .inr (.inr ⟨hc, h, a, c, g, c2, hs, rfl, ho, hq⟩)⟩)
  obtain ⟨G, hG⟩ : ∃ G, G = GivesQ w s t ss := ⟨_, rfl⟩
  rw [← hG] at HB51 HOKQ ⊢
  clear hc g1 g2 hG
  obtain ⟨n1, n2, -, -⟩ := chN_facts (size := s.toNat) (t := t.toNat) (by omega) (by omega) (by omega)
  obtain ⟨n, hn⟩ : ∃ n, n = chN s.toNat t.toNat := ⟨_, rfl⟩
  rw [← hn] at n1 n2 KP HB51 HOKQ
  clear hn
  obtain ⟨z1, z2, -, -, z3⟩ := chZ_facts n1 n2
  unfold GivesN at KP
  simp only at KP
  rw [partsL_length] at KP
  obtain ⟨z, hz⟩ : ∃ z, z = chZ n := ⟨_, rfl⟩
  rw [← hz] at z1 z2 z3 KP HB51 HOKQ
  clear hz
  obtain ⟨PL, hPL⟩ : ∃ P, P = (partsL n).map nv' := ⟨_, rfl⟩
  rw [← hPL] at KP HOKQ
  clear hPL
  go_enter Tryd.func40, Tryd.ntmps40
  go_wp2_with fail
  (with_reducible refine KP.mono ?_)
  rintro e w1 ⟨a1, c1, rfl, o1, b1⟩
  clear KP
  have hs1 := b1.size
  have HO1 := Lib.hid o1
  have HB1 := Lib.hid b1
  clear o1 b1
  go_wp2_with (first | (at_make; refine Hid.out ?_))
  refine Lib.hid ?_
  refine wpList_make_full _ rfl _ _ 74 rfl w1.heap.size PST i0 (.slice none 0 0) 1 Tryd.underlying74 hi hz0 hz1 _ _ _ _ z rfl rfl rfl rfl (by rw [hz2]; omega) (by unfold maxLen; omega) (Nat.le_refl _) ?_
  intro w2 hown2 hgrow2
  rw [show (Value.slice none 0 0).cells = #[.slice none 0 0] from rfl, Nat.mul_one, toList_madeCells_one] at hown2
  have hQ := OwnQ.made (w0 := w) hown2
  rw [← qsTo_zero ss] at hQ
  have b2 : Below w1.heap.size w1 w2 := ⟨hgrow2.os, hgrow2.tape, hgrow2.output, hgrow2.size, fun i hi => hgrow2.block i hi (by simp)⟩
  have HQ := Lib.hid hQ
  have HB2 := Lib.hid b2
  clear hQ b2 hown2 hgrow2
  go_wp2_with fail
  go_loopw [28] (fun vi wr => ∃ (i : Nat) (hs : List HdT), i ≤ sn ∧ vi = .int .i64 (i : Nat) ∧ Hid (OwnQ w wr w1.heap.size w1.heap.size z z hs (qsTo ss z i)) ∧ Hid (Below w1.heap.size w1 wr) ∧ Hid (∀ (j : Nat) x, j < i → ss[j]? = some x → inZ z x.1 = true)) (fun vi _ => (sn - intOf vi).toNat)
  case atStart => exact ⟨0, _, Nat.zero_le _, rfl, HQ, HB2, Lib.hid (fun j x h => absurd h (Nat.not_lt_zero _))⟩
  case round =>
    clear HQ HB2
    obtain ⟨i, hs, hi', rfl, hQ, hB, HZ⟩ := hrel
    by_cases hlt : i < sn
    · obtain ⟨sb, off, zb, e, a3, n3, c3, l, rfl, k0, k1, k2, hsj, hby⟩ := H.out.at hlt
      have hbw := HB1.out.trans (hB.out.mono hs1)
      have q0 := cell_below k0 hbw
      have q1 := cell_below k1 hbw
      have q2 := cell_below k2 hbw
      have HSJ := Lib.hid hsj
      have HBY := Lib.hid hby
      have HBW := Lib.hid hbw
      have hsz := hB.out.size
      have hwz := hbw.size
      clear k0 k1 k2 hsj hby hbw
      have HB1W := Lib.hid (hB.out.alloc hsz (.cells #[.int .i64 zb, .int .i64 e, .slice a3 n3 c3] ST3))
      have hbx := Lib.hid (HBW.out.alloc hwz (.cells #[.int .i64 zb, .int .i64 e, .slice a3 n3 c3] ST3))
      by_cases hz0' : inZ z zb = true
      rotate_left 1
      · have hbt : badZ z ss = true := by
          cases hb : badZ z ss with
          | true => rfl
          | false => exact absurd (badZ_false.1 hb _ (List.mem_of_getElem? HSJ.out)) hz0'
        have HBT := Lib.hid hbt
        have hor : zb < 0 ∨ (z : Int) ≤ zb := by
          rcases Classical.em (zb < 0) with h | h
          · exact .inl h
          · rcases Classical.em ((z : Int) ≤ zb) with h' | h'
            · exact .inr h'
            · exact absurd (inZ_iff.2 ⟨by omega, by omega⟩) hz0'
        clear hbt hz0'
        rcases hor with h | h
        · go_wp2
          go_ret3
          exact HB51.out _ hbx.out HBT.out
        · have h0 : ¬ zb < 0 := by omega
          have h0' : 0 ≤ zb := by omega
          go_wp2
          go_ret3
          exact HB51.out _ hbx.out HBT.out
      obtain ⟨zb0, zb1⟩ := inZ_iff.1 hz0'
      obtain ⟨b, rfl⟩ : ∃ b : Nat, zb = (b : Nat) := ⟨zb.toNat, by omega⟩
      have HZ0 := Lib.hid hz0'
      have hbz : b < z := by omega
      have hbz' : (b : Int) < (z : Int) := by omega
      have hQ1 := hQ.out.below (below_alloc wr (.cells #[.int .i64 (b : Int), .int .i64 e, .slice a3 n3 c3] ST3))
      obtain ⟨⟨xa, xn, xc⟩, hx, cx, fx, hqb, hrow⟩ := hQ1.at hbz
      obtain ⟨hpl, xs, hxl, hxo, hxs⟩ := hrow
      have hblk := heap_alloc_new wr (.cells #[.int .i64 (b : Int), .int .i64 e, .slice a3 n3 c3] ST3)
      have HHX := Lib.hid hx
      have HHQ := Lib.hid hqb
      have HPL := Lib.hid hpl
      have HXL := Lib.hid hxl
      have HXS := Lib.hid hxs
      have HQ1 := Lib.hid hQ1
      have HHB := Lib.hid hblk
      have hbs := hbx.out.size
      have K0 : (wr.alloc (.cells #[.int .i64 (b : Int), .int .i64 e, .slice a3 n3 c3] ST3)).cell? ⟨wr.heap.size, 0, none⟩ = some (.int .i64 (b : Int)) ∧ (wr.alloc (.cells #[.int .i64 (b : Int), .int .i64 e, .slice a3 n3 c3] ST3)).cell? ⟨wr.heap.size, 1, none⟩ = some (.int .i64 e) ∧ (wr.alloc (.cells #[.int .i64 (b : Int), .int .i64 e, .slice a3 n3 c3] ST3)).cell? ⟨wr.heap.size, 2, none⟩ = some (.slice a3 n3 c3) ∧ (wr.alloc (.cells #[.int .i64 (b : Int), .int .i64 e, .slice a3 n3 c3] ST3)).cell? ⟨w1.heap.size, b, none⟩ = some (.slice xa xn xc) := ⟨by rw [cell_of_row _ _ 0 _ _ _ hblk]; rfl, by rw [cell_of_row _ _ 1 _ _ _ hblk]; rfl, by rw [cell_of_row _ _ 2 _ _ _ hblk]; rfl, cx⟩
      clear hx hqb hpl hxl hxs hQ1 hblk hQ hz0'
      have hxn : xn ≤ 100000 := by
        have h := HPL.out
        rw [List.getD_eq_getElem?_getD, qsTo_at hbz] at h
        have := ofBlock_count (ss.take i) b
        rw [List.length_take] at this
        simp only [Option.getD_some] at h
        omega
      go_wp2_with fail
      generalize wr.alloc (.cells #[.int .i64 (b : Int), .int .i64 e, .slice a3 n3 c3] ST3) = W at HB1W hbx HQ1 hxo K0 hbs HHB cx fx ⊢
      have K8 : (W.alloc (.cells #[.int .i64 e, .slice a3 n3 c3] PT)).cell? ⟨wr.heap.size, 0, none⟩ = some (.int .i64 (b : Int)) ∧ (W.alloc (.cells #[.int .i64 e, .slice a3 n3 c3] PT)).cell? ⟨wr.heap.size, 1, none⟩ = some (.int .i64 e) ∧ (W.alloc (.cells #[.int .i64 e, .slice a3 n3 c3] PT)).cell? ⟨wr.heap.size, 2, none⟩ = some (.slice a3 n3 c3) ∧ (W.alloc (.cells #[.int .i64 e, .slice a3 n3 c3] PT)).cell? ⟨w1.heap.size, b, none⟩ = some (.slice xa xn xc) := ⟨cell_below K0.1 (below_alloc _ _), cell_below K0.2.1 (below_alloc _ _), cell_below K0.2.2.1 (below_alloc _ _), cell_below K0.2.2.2 (below_alloc _ _)⟩
      have hxo8 := hxo.alloc (.cells #[.int .i64 e, .slice a3 n3 c3] PT)
      have hb8 := hbx.out.alloc hbs (.cells #[.int .i64 e, .slice a3 n3 c3] PT)
      have hbs8 := hb8.size
      have hbs18 := (HB1W.out.alloc HB1W.out.size (.cells #[.int .i64 e, .slice a3 n3 c3] PT)).size
      have j0' : (0 : Int) ≤ (b : Int) := by omega
      refine GoX.start 16 (fun w' => w'.cell? ⟨wr.heap.size, 0, none⟩ = some (.int .i64 (b : Int)) ∧ w'.cell? ⟨wr.heap.size, 1, none⟩ = some (.int .i64 e) ∧ w'.cell? ⟨wr.heap.size, 2, none⟩ = some (.slice a3 n3 c3) ∧ w'.cell? ⟨w1.heap.size, b, none⟩ = some (.slice xa xn xc)) (by kernel_rfl) ?_
      refine GoX.take 0 rfl (by kernel_rfl) (by kernel_rfl) (by rfl) (fun _ _ _ h => h) (v := ?tv0) K0 ?ty0 ?tr0
      case ty0 => (intro w hSw; (try dsimp only at hSw); go_simp; first | done | with_reducible rfl)
      simp only [Act.put, List.setIfInBounds_toArray, List.set_cons_zero, List.set_cons_succ]
      refine GoX.take 1 rfl (by kernel_rfl) (by kernel_rfl) (by rfl) (fun _ _ _ h => h) (v := ?tv1) K0 ?ty1 ?tr1
      case ty1 => (intro w hSw; (try dsimp only at hSw); go_simp; first | done | with_reducible rfl)
      simp only [Act.put, List.setIfInBounds_toArray, List.set_cons_zero, List.set_cons_succ]
      refine GoX.take 2 rfl (by kernel_rfl) (by kernel_rfl) (by rfl) (fun _ _ _ h => h) (v := ?tv2) K0 ?ty2 ?tr2
      case ty2 => (intro w hSw; (try dsimp only at hSw); go_simp; first | done | with_reducible rfl)
      simp only [Act.put, List.setIfInBounds_toArray, List.set_cons_zero, List.set_cons_succ]
      refine GoX.take 3 rfl (by kernel_rfl) (by kernel_rfl) (by rfl) (fun _ _ _ h => h) (v := ?tv3) K0 ?ty3 ?tr3
      case ty3 => (intro w hSw; (try dsimp only at hSw); go_simp; first | done | with_reducible rfl)
      simp only [Act.put, List.setIfInBounds_toArray, List.set_cons_zero, List.set_cons_succ]
      refine GoX.take 4 rfl (by kernel_rfl) (by kernel_rfl) (by rfl) (fun _ _ _ h => h) (v := ?tv4) K0 ?ty4 ?tr4
      case ty4 => (intro w hSw; (try dsimp only at hSw); go_simp; first | done | with_reducible rfl)
      simp only [Act.put, List.setIfInBounds_toArray, List.set_cons_zero, List.set_cons_succ]
      refine GoX.take 5 rfl (by kernel_rfl) (by kernel_rfl) (by rfl) (fun _ _ _ h => h) (v := ?tv5) K0 ?ty5 ?tr5
      case ty5 => (intro w hSw; (try dsimp only at hSw); go_simp; first | done | with_reducible rfl)
      simp only [Act.put, List.setIfInBounds_toArray, List.set_cons_zero, List.set_cons_succ]
      refine GoX.take 6 rfl (by kernel_rfl) (by kernel_rfl) (by rfl) (fun _ _ _ h => h) (v := ?tv6) K0 ?ty6 ?tr6
      case ty6 => (intro w hSw; (try dsimp only at hSw); go_simp; first | done | with_reducible rfl)
      simp only [Act.put, List.setIfInBounds_toArray, List.set_cons_zero, List.set_cons_succ]
      refine GoX.take 7 rfl (by kernel_rfl) (by kernel_rfl) (by rfl) (fun _ _ _ h => h) (v := ?tv7) K0 ?ty7 ?tr7
      case ty7 => (intro w hSw; (try dsimp only at hSw); go_simp; first | done | with_reducible rfl)
      simp only [Act.put, List.setIfInBounds_toArray, List.set_cons_zero, List.set_cons_succ]
      refine GoX.take 8 rfl (by kernel_rfl) (by kernel_rfl) (by rfl) (fun _ _ _ h => h) (v := ?tv8) K0 ?ty8 ?tr8
      case ty8 => (intro w hSw; (try dsimp only at hSw); go_simp; first | done | with_reducible rfl)
      simp only [Act.put, List.setIfInBounds_toArray, List.set_cons_zero, List.set_cons_succ]
      refine GoX.take 9 rfl (by kernel_rfl) (by kernel_rfl) (by rfl) (fun _ _ _ h => h) (v := ?tv9) K0 ?ty9 ?tr9
      case ty9 => (intro w hSw; (try dsimp only at hSw); go_simp; first | done | with_reducible rfl)
      simp only [Act.put, List.setIfInBounds_toArray, List.set_cons_zero, List.set_cons_succ]
      refine GoX.take 10 rfl (by kernel_rfl) (by kernel_rfl) (by rfl) (fun _ _ _ h => h) (v := ?tv10) K0 ?ty10 ?tr10
      case ty10 => (intro w hSw; (try dsimp only at hSw); go_simp; first | done | with_reducible rfl)
      simp only [Act.put, List.setIfInBounds_toArray, List.set_cons_zero, List.set_cons_succ]
      refine GoX.take 11 rfl (by kernel_rfl) (by kernel_rfl) (by rfl) (fun _ _ _ h => h) (v := ?tv11) K0 ?ty11 ?tr11
      case ty11 => (intro w hSw; (try dsimp only at hSw); go_simp; first | done | with_reducible rfl)
      simp only [Act.put, List.setIfInBounds_toArray, List.set_cons_zero, List.set_cons_succ]
      refine GoX.take 12 rfl (by kernel_rfl) (by kernel_rfl) (by rfl) (fun _ _ _ h => h) (v := ?tv12) K0 ?ty12 ?tr12
      case ty12 => (intro w hSw; (try dsimp only at hSw); go_simp; first | done | with_reducible rfl)
      simp only [Act.put, List.setIfInBounds_toArray, List.set_cons_zero, List.set_cons_succ]
      refine GoX.one 13 rfl (by kernel_rfl) (by decide) (fun K hK => ?_)
      go_simp
      refine hK.out _ _ K8 (fun _ => ?_)
      clear hK K
      refine GoX.one 14 rfl (by kernel_rfl) (by decide) (fun K hK => ?_)
      refine step_append_lies _ rfl (.tmp 49) (.tmp 55) 68 rfl w1.heap.size PT p0 (.agg #[.int .i64 0, .slice none 0 0]) 2 32 Tryd.underlying68 hpi hy0 hy1 hy2 rfl (by decide) (.slice xa xn xc) xn (pcells xs) (by rfl) hxo8 ⟨W.heap.size, 0, none⟩ 1 1 [.int .i64 e, SV (a3, n3, c3)] (by rfl) (by rfl) (World.news_of_block (heap_alloc_new W _)) (by intro u hu; simp at hu; rcases hu with rfl | rfl <;> rfl) (by decide) (by simp [maxLen]; omega) (by omega) hbs18 _ rfl ?_
      intro g9 c9 w9 hE9 g9' lie9 _
      have gg : (W.alloc (.cells #[.int .i64 e, .slice a3 n3 c3] PT)).grownBy w9 (SV (xa, xn, xc)).ownBlock := ⟨g9'.os, g9'.tape, g9'.output, g9'.size, g9'.block⟩
      have hQ8 := HQ1.out.below (below_alloc W (.cells #[.int .i64 e, .slice a3 n3 c3] PT))
      have hws : wr.heap.size < W.heap.size := World.block_lt_of_cell? W ⟨wr.heap.size, 0, none⟩ K0.1
      have hbk := ((below_alloc W (.cells #[.int .i64 e, .slice a3 n3 c3] PT)).block _ hws).trans HHB.out
      have hnb := own_ne_cl hxo8 hbk (by decide)
      have hbk9 := (gg.block _ (Nat.lt_of_lt_of_le hws (below_alloc W _).size) (Ne.symm hnb)).trans hbk
      have k9 := hQ8.2.1.kept gg (own_ne hQ8.2.1 hxo8 (by decide))
      have c9b := k9.cellAt b (by omega)
      rw [List.getElem?_map, HHX.out] at c9b
      have f9b := k9.frozenAt b
      have K9 : w9.cell? ⟨wr.heap.size, 0, none⟩ = some (.int .i64 (b : Int)) ∧ w9.cell? ⟨wr.heap.size, 1, none⟩ = some (.int .i64 e) ∧ w9.cell? ⟨wr.heap.size, 2, none⟩ = some (.slice a3 n3 c3) ∧ w9.cell? ⟨w1.heap.size, b, none⟩ = some (.slice xa xn xc) := ⟨by rw [cell_of_row _ _ 0 _ _ _ hbk9]; rfl, by rw [cell_of_row _ _ 1 _ _ _ hbk9]; rfl, by rw [cell_of_row _ _ 2 _ _ _ hbk9]; rfl, c9b⟩
      have hp := OwnQ.push (x := (xa, xn, xc)) (y := (a3, n3, c3)) (e := e) (l := l) hQ8 HHX.out HHQ.out (HXL.out.trans HPL.out.symm) HPL.out HXS.out HBY.out hE9 gg lie9
      have hge : (qsTo ss z i).getD b [] = ofBlock (ss.take i) b := by rw [List.getD_eq_getElem?_getD, qsTo_at hbz]; rfl
      rw [hge, qsTo_step HSJ.out hbz] at hp
      have hsW := HB1W.out.size
      have hb9 := (below_grown (HB1W.out.alloc hsW _) gg (ownBlock_ge hxo8)).setCell (p := ⟨w1.heap.size, b, none⟩) (Nat.le_refl _) (.slice (some ⟨g9, 0, none⟩) (xn + 1) c9)
      have HP9 := Lib.hid hp
      have HB9 := Lib.hid hb9
      refine hK.out _ _ K9 (fun _ => ?_)
      clear hK K gg hQ8 hws hbk hnb hbk9 k9 hp hge hb9 hE9 g9' lie9 K0 K8 hxo8 hb8 hbs8 cx fx hxo
      simp only [Act.put, List.setIfInBounds_toArray, List.set_cons_zero, List.set_cons_succ]
      refine GoX.take 15 rfl (by kernel_rfl) (by kernel_rfl) (by rfl) (fun _ _ _ h => h) (v := ?tv15) K9 ?ty15 ?tr15
      case ty15 => (intro w hSw; (try dsimp only at hSw); go_simp; first | done | with_reducible rfl)
      simp only [Act.put, List.setIfInBounds_toArray, List.set_cons_zero, List.set_cons_succ]
      refine GoX.last 16 rfl (by kernel_rfl) (by kernel_rfl) (by decide) ?_
      go_wp2
      go_roundw
      case rel => exact ⟨i + 1, _, by omega, by go_num, HP9, HB9, Lib.hid (fun j x hj hjx => by
        rcases Nat.lt_or_ge j i with h | h
        · exact HZ.out j x h hjx
        · obtain rfl : j = i := by omega
          rw [HSJ.out] at hjx
          injection hjx with hjx
          subst hjx
          exact HZ0.out)⟩
      case measure => simp [intOf] <;> omega
    · obtain rfl : i = sn := by omega
      have hbf : badZ z ss = false := badZ_false.2 fun x hx => by
        obtain ⟨j, hj⟩ := List.getElem?_of_mem hx
        exact HZ.out j x (by have := (List.getElem?_eq_some_iff.1 hj).1; rw [HL.out] at this; exact this) hj
      have HBF := Lib.hid hbf
      have hO' := HO1.out.kept (grownBy_of_below hB.out none) (by cases (Value.slice a1 z c1).ownBlock <;> simp)
      have HO' := Lib.hid hO'
      clear hbf hO'
      go_wp2
      go_ret3
      exact HOKQ.out _ _ _ _ _ hs (HB1.out.trans (hB.out.mono hs1)) HBF.out HO'.out (by rw [HL.out]; exact hQ.out.rebase hs1)
end Go.Proofs.YtfjcbgfgiidogaaDoor
