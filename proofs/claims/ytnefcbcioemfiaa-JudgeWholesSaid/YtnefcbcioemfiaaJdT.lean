/-
  Acts appended to acts of one's own; a part of acts; an act of one's own changed.
-/
import Derived.Test.YtnefcbcioemfiaaJdR
import Derived.Test.YtnefcbcioemfiaaJdS
import Derived.Deep.Upon
namespace Go.Proofs.Ytnefcbcioemfiaa
open Go Go.RowKit

theorem Far.after {wm : World} {a : Option Addr} {g : Nat} {x : SH3} {vs : List Value} (hr : RowV wm x.1 x.2.1 vs) (hf : Far a x) (hl : ofB a = some g ∨ g = wm.heap.size) : Far (some ⟨g, 0, none⟩) x := by
  intro h0 p hp e
  have e2 : g = p.block := by simpa [ofB, Value.ownBlock] using e
  rcases hl with h1 | h1
  · exact hf h0 p hp (by rw [h1, e2])
  · have := hr.lt h0 hp
    omega
theorem far_hi {a : Option Addr} {B : Nat} {x : SH3} (h : HiB B x) (ha : ∀ g, ofB a = some g → g < B) : Far a x := fun h0 p hp e => by
  have h1 := h h0 p hp
  have h2 := ha _ e
  omega
theorem HiB.mono {B B' : Nat} {x : SH3} (h : HiB B x) (hB : B' ≤ B) : HiB B' x := fun h0 p hp => Nat.le_trans hB (h h0 p hp)
set_option maxRecDepth 10000 in
theorem wpList_append_acts {ops : Array Oper} {rest : List Oper} {o : Oper} {ac : Act} {Q : Exit → Act → World → Prop} (hgd : o.guard = none) (s x : Operand)
    (ho : o.op = .call { callee := .builtin .append, args := #[s, x], argTypes := #[22, 22] }) (w : World) (B B2 : Nat) (av : Option Addr) (cv : Nat) (ys : List YA) (a2 : Option Addr) (c2 : Nat) (zs : List YA) (ny nz nn : Nat) (hnn : ny + nz = nn)
    (hs : ac.eval s = .slice av ny cv) (hy : OwA w B av cv ys) (hx : ac.eval x = .slice a2 nz c2) (hz : OwA w B2 a2 c2 zs) (hny : ys.length = ny) (hnz : zs.length = nz) (hB : B ≤ B2) (hBw : B2 ≤ w.heap.size) (hlow : ∀ g, ofB av = some g → g < B2) (hn : ny + nz ≤ 1000000) (hcv : ny ≤ cv)
    (h : ∀ av' cv' w', OwA w' B av' cv' (ys ++ zs) → w.grownBy w' (ofB av) → nn ≤ cv' → (∀ g, ofB av' = some g → g < w'.heap.size) → wpList Try.prog ops Q rest (ac.put o.dst (.slice av' nn cv')) w') : wpList Try.prog ops Q (o :: rest) ac w := by
  obtain ⟨i0, hi, hz0, hz1, hz2⟩ := info_parts ainfo
  subst hny hnz hnn
  by_cases h0 : zs = []
  · subst h0
    have hsrc : Src Try.prog i0.size 22 (.slice a2 0 c2) 0 [] w := by
      cases a2 with
      | none => exact Src.ofNil w Try.underlying22 c2
      | some ad => exact Src.ofSlice w Try.underlying22 ad 0 c2 [] (by simp) (fun j u hj => by simp at hj) (fun u hu => nomatch hu)
    refine wpList_plain hgd fun K hK => ?_
    have hrun := run_append_nothing w 22 22 o.type ActT i0 Try.underlying22 hi av ys.length cv hcv _ hsrc
    simp only [List.length_nil] at hx
    unfold Oper.wp
    simp [execOp, ho, resolve, invoke, builtin, hs, hx, hrun, Result.andThen]
    have hlt : ∀ g, ofB av = some g → g < w.heap.size := fun g hg => Nat.lt_of_lt_of_le (hlow g hg) hBw
    have := h av cv w (by rw [List.append_nil]; exact hy) (World.grownBy_refl _ _) (by simpa using hcv) hlt
    simp only [List.length_nil, Nat.add_zero] at this
    exact hK _ _ this
  · have hp : 0 < zs.length := List.length_pos_iff.2 h0
    obtain ⟨g2, rfl⟩ : ∃ g, a2 = some ⟨g, 0, none⟩ := by
      rcases hz.own.2 with ⟨_, e⟩ | ⟨g, cap, cur, e, _⟩
      · omega
      · injection e with e1 e2 e3
        exact ⟨g, e1⟩
    refine wpList_append_lies _ hgd s x 22 ho B ActT i0 (.agg #[.int .i64 0, .int .i64 0, .int .i64 0, .int .i64 0, .string ⟨#[]⟩, .slice none 0 0, .int .i64 0, .int .i64 0, .string ⟨#[]⟩, .slice none 0 0, .int .i64 0, .int .i64 0, .int .i64 0, .bool false, .slice none 0 0]) 15 184 Try.underlying22 hi hz0 hz1 hz2 rfl (by decide) (.slice av ys.length cv) ys.length (acells ys) hs hy.own ⟨g2, 0, none⟩ zs.length c2 (acells zs) hx (acells_length zs) (fun j u hj => ?_) (acells_one zs) hp (by simp [maxLen]; omega) (by omega) (by omega) _ rfl ?_
    · have hjl : j < (acells zs).length := (List.getElem?_eq_some_iff.1 hj).1
      rw [acells_length] at hjl
      have := hz.own.cellAt j (by omega)
      rw [show (⟨g2, 0, none⟩ : Addr).add j = ⟨g2, j, none⟩ by unfold Addr.add; split <;> simp_all, this]
      exact hj
    · intro g9 c9 w9 hE9 g9' lie9 hlt9
      have hg : w.grownBy w9 (ofB av) := by rw [ofB_eq] at g9'; exact g9'
      have hl : ofB av = some g9 ∨ g9 = w.heap.size := by rw [ofB_eq] at lie9; exact lie9
      refine h _ _ _ ⟨by rw [List.length_append, acells_append]; exact hE9, fun u hu => ?_, fun u hu => ?_⟩ hg ?_ (fun g hgg => ?_)
      · rcases List.mem_append.1 hu with hu | hu
        · obtain ⟨k0, k1, k2, k3⟩ := hy.dig u hu
          exact ⟨k0.otherJ hg k1 k2 k3, Far.after k0.v.row k1 hl, Far.after k0.r.row k2 hl, Far.after k0.k.row k3 hl⟩
        · obtain ⟨k0, -⟩ := hz.dig u hu
          obtain ⟨j1, j2, j3⟩ := hz.hi u hu
          have k1 := far_hi j1 hlow
          have k2 := far_hi j2 hlow
          have k3 := far_hi j3 hlow
          exact ⟨k0.otherJ hg k1 k2 k3, Far.after k0.v.row k1 hl, Far.after k0.r.row k2 hl, Far.after k0.k.row k3 hl⟩
      · rcases List.mem_append.1 hu with hu | hu
        · exact hy.hi u hu
        · obtain ⟨j1, j2, j3⟩ := hz.hi u hu
          exact ⟨j1.mono hB, j2.mono hB, j3.mono hB⟩
      · rcases hE9.2 with ⟨_, e⟩ | ⟨g, cap, cur, e, _, _, hnc, _⟩
        · omega
        · injection e with e1 e2 e3; omega
      · have e2 : g9 = g := by simpa [ofB, Value.ownBlock] using hgg
        omega
/-! a part of acts -/
theorem ActsV.take {w : World} {a : Option Addr} {n : Nat} {xs : List ActR} (h : ActsV w a n xs) {t : Nat} (ht : t ≤ n) : ActsV w a t (xs.take t) := by
  obtain ⟨h1, X, hx⟩ := h
  refine ⟨by simp; omega, X, fun h0 => ?_⟩
  obtain ⟨b, o, e, hl, hc⟩ := hx (by omega)
  refine ⟨b, o, e, hl, fun i A hi => hc i A ?_⟩
  rw [List.getElem?_take] at hi
  split at hi
  · exact hi
  · cases hi
theorem ActsV.drop {w : World} {b o n : Nat} {xs : List ActR} (h : ActsV w (some ⟨b, o, none⟩) n xs) {t : Nat} (ht : t ≤ n) : ActsV w (some ⟨b, o + t * 15, none⟩) (n - t) (xs.drop t) := by
  obtain ⟨h1, X, hx⟩ := h
  refine ⟨by simp; omega, fun i => X (t + i), fun h0 => ?_⟩
  obtain ⟨b', o', e, hl, hc⟩ := hx (by omega)
  injection e with e
  injection e with e1 e2
  subst e1 e2
  refine ⟨b, o + t * 15, rfl, hl, fun i A hi => ?_⟩
  rw [List.getElem?_drop] at hi
  have := hc (t + i) A hi
  rw [Nat.add_mul, ← Nat.add_assoc] at this
  exact this
theorem ActsV.none {w : World} {a a' : Option Addr} {n : Nat} {xs : List ActR} (h : ActsV w a n xs) {t : Nat} (ht : n ≤ t) : ActsV w a' 0 (xs.drop t) := by
  have := h.len
  exact ⟨by simp; omega, fun _ => ((Option.none, 0, 0), (Option.none, 0, 0), (Option.none, 0, 0)), fun h0 => absurd h0 (Nat.lt_irrefl _)⟩
/-! an act changed -/
theorem acells_set0 : ∀ (ys : List YA) (i : Nat) (A : ActR) (h : SH3 × SH3 × SH3) (v : Int), ys[i]? = some (A, h) → acells (ys.set i ({ A with cl := v }, h)) = (acells ys).set (i * 15) (.int .i64 v)
  | [], i, A, h, v, e => by simp at e
  | y :: ys, 0, A, h, v, e => by
    simp at e; subst e; rfl
  | y :: ys, i + 1, A, h, v, e => by
    simp at e
    rw [show (i + 1) * 15 = i * 15 + 15 by omega]
    simp only [List.set_cons_succ, acells]
    rw [acells_set0 ys i A h v e]
theorem acells_set2 : ∀ (ys : List YA) (i : Nat) (A : ActR) (h : SH3 × SH3 × SH3) (v : Int), ys[i]? = some (A, h) → acells (ys.set i ({ A with st := v }, h)) = (acells ys).set (i * 15 + 2) (.int .i64 v)
  | [], i, A, h, v, e => by simp at e
  | y :: ys, 0, A, h, v, e => by
    simp at e; subst e; rfl
  | y :: ys, i + 1, A, h, v, e => by
    simp at e
    rw [show (i + 1) * 15 + 2 = i * 15 + 2 + 15 by omega]
    simp only [List.set_cons_succ, acells]
    rw [acells_set2 ys i A h v e]
theorem acells_set3 : ∀ (ys : List YA) (i : Nat) (A : ActR) (h : SH3 × SH3 × SH3) (v : Int), ys[i]? = some (A, h) → acells (ys.set i ({ A with en := v }, h)) = (acells ys).set (i * 15 + 3) (.int .i64 v)
  | [], i, A, h, v, e => by simp at e
  | y :: ys, 0, A, h, v, e => by
    simp at e; subst e; rfl
  | y :: ys, i + 1, A, h, v, e => by
    simp at e
    rw [show (i + 1) * 15 + 3 = i * 15 + 3 + 15 by omega]
    simp only [List.set_cons_succ, acells]
    rw [acells_set3 ys i A h v e]
theorem own_setA {w : World} {B : Nat} {T : TypeId} {s g n cap : Nat} {xs : List Value} (h : w.ownsRow B T s (.slice (some ⟨g, 0, none⟩) n cap) n xs) (i : Nat) (v : Value) :
    (w.setCell ⟨g, i, none⟩ v).ownsRow B T s (.slice (some ⟨g, 0, none⟩) n cap) n (xs.set i v) := by
  refine ⟨by simpa using h.1, .inr ?_⟩
  rcases h.2 with ⟨e, _⟩ | ⟨g', cap', cur, e, hB, hh, h1, h2, h3, h4⟩
  · cases e
  · cases e
    refine ⟨g, cap, _, rfl, hB, heap_setCell_same _ _ i _ _ _ hh, h1, h2, by simpa using h3, ?_⟩
    rw [← h4]
    simp [List.take_set]
theorem OwA.setJ {w : World} {B g c : Nat} {ys : List YA} (h : OwA w B (some ⟨g, 0, none⟩) c ys) {i : Nat} {A A' : ActR} {hd : SH3 × SH3 × SH3} (hi : ys[i]? = some (A, hd)) (h1 : A'.val = A.val) (h2 : A'.rval = A.rval) (h3 : A'.keys = A.keys) (j : Nat) (v : Value) (hc : acells (ys.set i (A', hd)) = (acells ys).set j v) :
    OwA (w.setCell ⟨g, j, none⟩ v) B (some ⟨g, 0, none⟩) c (ys.set i (A', hd)) := by
  have hg : w.grownBy (w.setCell ⟨g, j, none⟩ v) (ofB (some ⟨g, 0, none⟩)) := ⟨rfl, rfl, rfl, by simp, fun k _ hk => heap_setCell_other _ _ _ _ (fun e => hk (by rw [e]; rfl))⟩
  have each : ∀ u ∈ ys.set i (A', hd), ∃ u0 ∈ ys, u.2 = u0.2 ∧ u.1.val = u0.1.val ∧ u.1.rval = u0.1.rval ∧ u.1.keys = u0.1.keys := fun u hu => by
    rcases List.mem_or_eq_of_mem_set hu with hu | rfl
    · exact ⟨u, hu, rfl, rfl, rfl, rfl⟩
    · exact ⟨_, List.mem_of_getElem? hi, rfl, h1, h2, h3⟩
  refine ⟨by rw [List.length_set, hc]; exact own_setA h.own j v, fun u hu => ?_, fun u hu => ?_⟩
  · obtain ⟨u0, hu0, e1, e2, e3, e4⟩ := each u hu
    obtain ⟨k0, k1, k2, k3⟩ := h.dig u0 hu0
    rw [e1]
    have k := k0.otherJ hg k1 k2 k3
    exact ⟨⟨by rw [e2]; exact k.v, by rw [e3]; exact k.r, by rw [e4]; exact k.k⟩, k1, k2, k3⟩
  · obtain ⟨u0, hu0, e1, -⟩ := each u hu
    rw [e1]
    exact h.hi u0 hu0
end Go.Proofs.Ytnefcbcioemfiaa
