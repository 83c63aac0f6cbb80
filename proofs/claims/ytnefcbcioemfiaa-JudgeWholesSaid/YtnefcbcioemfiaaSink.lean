/-
  A drawn region whose tail (its operations from number n on) waits for all ahead of it: 'S' holds till the tail begins, and need not be shown behind an operation of the tail. Nothing of a program in sight.
-/
import Derived.StillTailTactics
import Derived.Deep.RegionHeld3
import Derived.WalkKit
namespace Go.Proofs.Ytnefcbcioemfiaa
open Go

section
variable {P : Program} {ops : Array Oper} {Q : Exit → Act → World → Prop} {md : Region.Mode} {S : World → Prop}

def wpX (P : Program) (md : Region.Mode) (ops : Array Oper) (Q : Exit → Act → World → Prop) (S : World → Prop) (n : Nat) : Nat → Array Bool → Act → World → Prop
  | 0, listed, a, w => Region.ready md ops listed = [] ∧ Q .normal a w
  | fuel + 1, listed, a, w =>
    (Region.ready md ops listed = [] → Q .normal a w) ∧
    ∀ i ∈ Region.ready md ops listed, wpOp P ops Q i (fun a' w' => (i < n → S w') ∧ wpX P md ops Q S n fuel (listed.setIfInBounds i true) a' w') a w

theorem wpAny_of_x {n : Nat} : ∀ (fuel : Nat) (listed : Array Bool) (a : Act) (w : World), wpX P md ops Q S n fuel listed a w → wpAny P md ops Q fuel listed a w
  | 0, _, _, _, h => h
  | fuel + 1, _, _, _, h => ⟨h.1, fun i hi => wpOp_mono (fun a' w' h' => wpAny_of_x fuel _ a' w' h'.2) (h.2 i hi)⟩

theorem wpX_first {i n : Nat} {oi : Oper} {v : Value} (hi : ops[i]? = some oi) (hsel : ∀ (j : Nat) (o : Oper) cs b, ops[j]? = some o → o.op ≠ .select cs b)
    (hQ : ∀ c a w, Q (.panic c) (a.put oi.dst v) w → Q (.panic c) a w) (hs : Region.sinkB md ops n = true) (hc : Region.chainB md ops n = true) (hn : n < ops.size) (hin : i < n) :
    ∀ (fuel : Nat) (listed : Array Bool) (a : Act) (w : World), HeadInv md ops n listed →
      (∀ j oj, ops[j]? = some oj → j ≠ i → listed.getD j true = false → (∀ e ∈ oj.after, Region.binds md e = true → e.on ≠ i) → oi.apart ops oj = true) →
      i ∈ Region.ready md ops listed → YieldsIf P ops S oi v a → S w →
      wpX P md ops Q S n fuel (listed.setIfInBounds i true) (a.put oi.dst v) w → wpX P md ops Q S n (fuel + 1) listed a w := by
  intro fuel
  induction fuel with
  | zero =>
    intro listed a w _ _ hr hy hS H
    refine ⟨fun h => (by rw [h] at hr; cases hr), fun j hj => ?_⟩
    by_cases hji : j = i
    · subst hji; exact hy.wpOp hi hS ⟨fun _ => hS, H⟩
    · have := ready_mono hj hji
      rw [H.1] at this
      cases this
  | succ fuel ih =>
    intro listed a w inv hfree hr hy hS H
    have hun := (mem_ready.1 hr).1
    refine ⟨fun h => (by rw [h] at hr; cases hr), fun j hj => ?_⟩
    have hjn : j < n := by
      rcases Nat.lt_or_ge j n with h | h
      · exact h
      · exact absurd hj (tail_waits hs hc hn inv _ i rfl hin hun j h)
    by_cases hji : j = i
    · subst hji; exact hy.wpOp hi hS ⟨fun _ => hS, H⟩
    · have h1 := H.2 j (ready_mono hj hji)
      obtain ⟨hjun, oj, hoj, hall⟩ := mem_ready.1 hj
      have hnot : ∀ e ∈ oj.after, Region.binds md e = true → e.on ≠ i := fun e he hb heq => by
        have h1 := hall e he hb
        rw [heq, getD_both hun] at h1
        cases h1
      have h2 := wpOp_putIf hoj (hfree j oj hoj hji hjun hnot) (fun cs b => hsel i oi cs b hi) (fun cs b => hsel j oj cs b hoj) hQ hy h1
      have hfree' : ∀ k ok, ops[k]? = some ok → k ≠ i → (listed.setIfInBounds j true).getD k true = false →
          (∀ e ∈ ok.after, Region.binds md e = true → e.on ≠ i) → oi.apart ops ok = true := fun k ok hk hki hun hno => by
        refine hfree k ok hk hki ?_ hno
        by_cases hjk : j = k
        · subst hjk; exact hjun
        · rw [getD_set_ne true hjk] at hun; exact hun
      refine wpOp_mono (fun a' w' h3 => ⟨h3.2.1, ih (listed.setIfInBounds j true) a' w' (inv.set hj hjn) hfree' (ready_mono hr (Ne.symm hji)) h3.1 (h3.2.1 hjn) ?_⟩) h2
      rw [Array.setIfInBounds_comm _ _ hji]
      exact h3.2.2

/-- the walk's goal. -/
structure GoX (P : Program) (l : List Oper) (Q : Exit → Act → World → Prop) (S : World → Prop) (n fuel : Nat) (listed : Array Bool) (a : Act) (w : World) : Prop where
  go : HeadInv .any l.toArray n listed → wpX P .any l.toArray Q S n fuel listed a w

variable {l : List Oper} {n : Nat}
theorem wpX_mono {S' : World → Prop} {n : Nat} (hS : ∀ w, S' w → S w) : ∀ (fuel : Nat) (listed : Array Bool) (a : Act) (w : World), wpX P md ops Q S' n fuel listed a w → wpX P md ops Q S n fuel listed a w
  | 0, _, _, _, h => h
  | fuel + 1, _, _, _, h => ⟨h.1, fun i hi => wpOp_mono (fun _ w' h' => ⟨fun hn => hS w' (h'.1 hn), wpX_mono hS fuel _ _ _ h'.2⟩) (h.2 i hi)⟩
/-- more is held from here on. -/
theorem GoX.more {S' : World → Prop} {fuel : Nat} {listed : Array Bool} {a : Act} {w : World} (hS : ∀ w, S' w → S w) (h : GoX P l Q S' n fuel listed a w) : GoX P l Q S n fuel listed a w :=
  ⟨fun inv => wpX_mono hS _ _ _ _ (h.go inv)⟩

/-- the side conditions of a region, once. -/
def sinkOk (l : List Oper) (n : Nat) : Bool := Region.noSelect l.toArray && Region.sinkB .any l.toArray n && Region.chainB .any l.toArray n && decide (n < l.length)

theorem GoX.start {id : Nat} {a : Act} {w : World} (n : Nat) (S : World → Prop) (hm : P.follows .mixedOrders = true)
    (h : GoX P l Q S n l.length (Array.replicate l.length false) a w.drew) : (Code.region id l.toArray true).wp P Q a w := by
  refine wp_region_any hm (wpAny_of_x (S := S) (n := n) _ _ _ _ ?_)
  have := h.go ⟨by simp, fun j oj _ hl => (by rw [getD_replicate_false] at hl; cases hl), fun t _ ht => getD_in (by simpa using ht) (getD_replicate_false _ _)⟩
  simpa using this

theorem drop_at : ∀ {l : List Oper} {i : Nat} {oi : Oper} {rest : List Oper}, l.drop i = oi :: rest → l[i]? = some oi
  | [], i, _, _, h => by simp at h
  | x :: l, 0, _, _, h => by simp at h; simp [h.1]
  | x :: l, i + 1, _, _, h => by simpa using drop_at (l := l) (by simpa using h)

theorem GoX.take {fuel : Nat} {listed : Array Bool} {a : Act} {w : World} (i : Nat) {oi : Oper} {rest : List Oper} {v : Value} (hd : l.drop i = oi :: rest) (hk : sinkOk l n = true)
    (hf : (Region.free .any l.toArray listed i && (Region.ready .any l.toArray listed).contains i && decide (i < n)) = true) (hw : Region.wanted oi (yielded l.toArray a.tmps) = true)
    (hQ : ∀ c a w, Q (.panic c) (a.put oi.dst v) w → Q (.panic c) a w) (hS : S w) (hy : ∀ w, S w → (execOp a.eval oi).run P w = .ok (.value v) w)
    (h : GoX P l Q S n fuel (listed.setIfInBounds i true) (a.put oi.dst v) w) : GoX P l Q S n (fuel + 1) listed a w := by
  simp only [sinkOk, Bool.and_eq_true, decide_eq_true_eq] at hk hf
  have h0 : l.toArray[i]? = some oi := by simpa using drop_at hd
  have hr : i ∈ Region.ready .any l.toArray listed := by simpa using hf.1.2
  exact ⟨fun inv => wpX_first h0 (Region.noSelect_spec hk.1.1.1) hQ hk.1.1.2 hk.1.2 (by simpa using hk.2) hf.2 fuel listed a w inv (Region.free_spec h0 hf.1.1) hr (.inl ⟨hw, hy⟩) hS (h.go (inv.set hr hf.2))⟩

theorem GoX.skip {fuel : Nat} {listed : Array Bool} {a : Act} {w : World} (i : Nat) {oi : Oper} {rest : List Oper} (hd : l.drop i = oi :: rest) (hk : sinkOk l n = true)
    (hf : (Region.free .any l.toArray listed i && (Region.ready .any l.toArray listed).contains i && decide (i < n)) = true) (hw : Region.wanted oi (yielded l.toArray a.tmps) = false)
    (hQ : ∀ c a w, Q (.panic c) (a.put oi.dst undef) w → Q (.panic c) a w) (hS : S w)
    (h : GoX P l Q S n fuel (listed.setIfInBounds i true) (a.put oi.dst undef) w) : GoX P l Q S n (fuel + 1) listed a w := by
  simp only [sinkOk, Bool.and_eq_true, decide_eq_true_eq] at hk hf
  have h0 : l.toArray[i]? = some oi := by simpa using drop_at hd
  have hr : i ∈ Region.ready .any l.toArray listed := by simpa using hf.1.2
  exact ⟨fun inv => wpX_first h0 (Region.noSelect_spec hk.1.1.1) hQ hk.1.1.2 hk.1.2 (by simpa using hk.2) hf.2 fuel listed a w inv (Region.free_spec h0 hf.1.1) hr (.inr ⟨hw, rfl⟩) hS (h.go (inv.set hr hf.2))⟩

/-- the one operation that may come up now is carried out. -/
theorem GoX.one {fuel : Nat} {listed : Array Bool} {a : Act} {w : World} (i : Nat) {oi : Oper} {rest : List Oper} (hd : l.drop i = oi :: rest)
    (hf : Region.ready .any l.toArray listed = [i]) (hi : i < n)
    (h : ∀ K : Act → World → Prop, Shut (∀ a w, S w → (S w → GoX P l Q S n fuel (listed.setIfInBounds i true) a w) → K a w) → if Region.wanted oi (yielded l.toArray a.tmps) = true then Oper.wp P oi a w K Q else K (a.put oi.dst undef) w) : GoX P l Q S n (fuel + 1) listed a w := by
  have h0 : l.toArray[i]? = some oi := by simpa using drop_at hd
  refine ⟨fun inv => ⟨fun h1 => (by rw [h1] at hf; cases hf), fun j hj => ?_⟩⟩
  have hr := hj
  rw [hf] at hj
  obtain rfl : j = i := by simpa using hj
  exact wpOp_step h0 (fun K hK => h K (fun a w hS hG => hK a w ⟨fun _ => hS, (hG hS).go (inv.set hr hi)⟩))

/-- two operations may come up. -/
theorem GoX.two {fuel : Nat} {listed : Array Bool} {a : Act} {w : World} (i j : Nat) {oi oj : Oper} {ri rj : List Oper} (hdi : l.drop i = oi :: ri) (hdj : l.drop j = oj :: rj)
    (hf : Region.ready .any l.toArray listed = [i, j]) (hi : i < n) (hj : j < n)
    (h1 : ∀ K : Act → World → Prop, Shut (∀ a w, S w → (S w → GoX P l Q S n fuel (listed.setIfInBounds i true) a w) → K a w) → if Region.wanted oi (yielded l.toArray a.tmps) = true then Oper.wp P oi a w K Q else K (a.put oi.dst undef) w)
    (h2 : ∀ K : Act → World → Prop, Shut (∀ a w, S w → (S w → GoX P l Q S n fuel (listed.setIfInBounds j true) a w) → K a w) → if Region.wanted oj (yielded l.toArray a.tmps) = true then Oper.wp P oj a w K Q else K (a.put oj.dst undef) w) : GoX P l Q S n (fuel + 1) listed a w := by
  have h0 : l.toArray[i]? = some oi := by simpa using drop_at hdi
  have h0' : l.toArray[j]? = some oj := by simpa using drop_at hdj
  refine ⟨fun inv => ⟨fun h1 => (by rw [h1] at hf; cases hf), fun k hk => ?_⟩⟩
  have hr := hk
  rw [hf] at hk
  simp only [List.mem_cons, List.not_mem_nil, or_false] at hk
  rcases hk with rfl | rfl
  · exact wpOp_step h0 (fun K hK => h1 K (fun a w hS hG => hK a w ⟨fun _ => hS, (hG hS).go (inv.set hr hi)⟩))
  · exact wpOp_step h0' (fun K hK => h2 K (fun a w hS hG => hK a w ⟨fun _ => hS, (hG hS).go (inv.set hr hj)⟩))

/-- the last operation. -/
theorem GoX.last {fuel : Nat} {listed : Array Bool} {a : Act} {w : World} (i : Nat) {oi : Oper} {rest : List Oper} (hd : l.drop i = oi :: rest)
    (hf : Region.ready .any l.toArray listed = [i]) (hg : Region.ready .any l.toArray (listed.setIfInBounds i true) = []) (hi : n ≤ i)
    (h : if Region.wanted oi (yielded l.toArray a.tmps) = true then Oper.wp P oi a w (Q .normal) Q else Q .normal (a.put oi.dst undef) w) : GoX P l Q S n (fuel + 1) listed a w := by
  have h0 : l.toArray[i]? = some oi := by simpa using drop_at hd
  refine ⟨fun inv => ⟨fun h1 => (by rw [h1] at hf; cases hf), fun j hj => ?_⟩⟩
  rw [hf] at hj
  obtain rfl : j = i := by simpa using hj
  refine wpOp_step h0 (fun K hK => ?_)
  have done : ∀ a w, Q .normal a w → K a w := fun a w hq => hK a w ⟨fun hlt => absurd hlt (by omega), by
    cases fuel with
    | zero => exact ⟨hg, hq⟩
    | succ f => exact ⟨fun _ => hq, by rw [hg]; simp⟩⟩
  split
  · rename_i hw
    rw [if_pos hw] at h
    exact Oper.wp_mono done h
  · rename_i hw
    rw [if_neg hw] at h
    exact done _ _ h
end
end Go.Proofs.Ytnefcbcioemfiaa
