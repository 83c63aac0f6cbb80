/-
  Ci2: CiG CiH
-/
import Derived.Deep.RegionHeld3
import Derived.Test.YtfjcbgfgiidogaaDoorMCh3
import Derived.Test.YtfjcbgfgiidogaaDoorMCi1
import Derived.Test.YtfjcbgfgiidogaaDoorMChO
import Derived.Test.YtfjcbgfgiidogaaDoorMPl1
namespace Go.Proofs.YtfjcbgfgiidogaaDoor
open Go.RowKit

theorem OwnS.keepT {w w' : World} {B : Nat} {a : Option Addr} {n c : Nat} {ss : List Sy} {row : Option Nat} (h : OwnS w B a n c ss) (hg : w.grownBy w' row) (hr : ∀ k, row = some k → ∃ cs T fr, w.heap[k]? = some (.cells cs T fr) ∧ T ≠ ST3 ∧ T ≠ 5) : OwnS w' B a n c ss := by
  obtain ⟨h1, xs, h2, h3, h4⟩ := h
  have key : ∀ {T : TypeId} {s : Nat} {v : Value} {m : Nat} {ys : List Value}, T = ST3 ∨ T = 5 → w.ownsRow B T s v m ys → v.ownBlock = none ∨ v.ownBlock ≠ row := fun {T s v m ys} hT ho => by
    cases hk : v.ownBlock with
    | none => exact .inl rfl
    | some q =>
      right
      intro e
      obtain ⟨cs, T', fr, hh, k1, k2⟩ := hr q e.symm
      rcases ho.2 with ⟨rfl, _⟩ | ⟨g', cap', cur, rfl, _, hh2, _⟩
      · cases hk
      · simp [Value.ownBlock] at hk
        subst hk
        rw [hh2] at hh
        injection hh with hh
        injection hh with _ ht
        rcases hT with e | e
        · exact k1 (by rw [← ht, e])
        · exact k2 (by rw [← ht, e])
  exact ⟨h1, xs, h2, h3.kept hg (key (.inl rfl) h3), fun i x p a b => by
    obtain ⟨q0, q1, q2, q3, q4, q5⟩ := h4 i x p a b
    exact ⟨q0, q1, q2, q3.kept hg (key (.inr rfl) q3), q4, q5⟩⟩
abbrev YT : TypeId := 37
theorem own_rowY {w : World} {B : Nat} {v : Value} {n : Nat} {xs : List Value} (h : w.ownsRow B YT 1 v n xs) : ∀ k, v.ownBlock = some k → ∃ cs T fr, w.heap[k]? = some (.cells cs T fr) ∧ T ≠ ST3 ∧ T ≠ 5 := fun k hk => by
  rcases h.2 with ⟨rfl, _⟩ | ⟨g, cap, cur, rfl, _, hh, _⟩
  · cases hk
  · simp [Value.ownBlock] at hk
    subst hk
    exact ⟨_, _, _, hh, by decide, by decide⟩
/-- rows of symbols, apart from each other, in a row of the call's own. -/
def OwnY (w : World) (B g n c : Nat) (hs : List HdT) (qs : List (List Sy)) : Prop :=
  qs.length = n ∧ w.ownsRow B YT 1 (.slice (some ⟨g, 0, none⟩) n c) n (hs.map SV) ∧ hs.length = n ∧ (∀ (i : Nat) x q, hs[i]? = some x → qs[i]? = some q → OwnS w B x.1 x.2.1 x.2.2 q) ∧
  ∀ (i j : Nat) x y, hs[i]? = some x → hs[j]? = some y → i ≠ j → (SV x).ownBlock = none ∨ (SV x).ownBlock ≠ (SV y).ownBlock
theorem OwnY.below {w w' : World} {B g n c : Nat} {hs : List HdT} {qs : List (List Sy)} (h : OwnY w B g n c hs qs) (hb : Below w.heap.size w w') : OwnY w' B g n c hs qs := by
  obtain ⟨h1, h2, h3, h4, h5⟩ := h
  exact ⟨h1, h2.kept (grownBy_of_below hb none) (by simp [Value.ownBlock]), h3, fun i x q a b => (h4 i x q a b).below hb, h5⟩
theorem OwnY.made {w : World} {B g n : Nat} (h : w.ownsRow B YT 1 (.slice (some ⟨g, 0, none⟩) n n) n (List.replicate n NilS)) : OwnY w B g n n (List.replicate n (none, 0, 0)) (List.replicate n []) := by
  refine ⟨by simp, by rw [List.map_replicate]; exact h, by simp, fun i x q a b => ?_, fun i j x y a b _ => ?_⟩
  · rw [List.getElem?_replicate] at a b
    by_cases hi : i < n
    · rw [if_pos hi] at a b
      injection a with a
      injection b with b
      subst a b
      exact .nil _ _
    · rw [if_neg hi] at a
      cases a
  · rw [List.getElem?_replicate] at a
    by_cases hi : i < n
    · rw [if_pos hi] at a
      injection a with a
      subst a
      exact .inl rfl
    · rw [if_neg hi] at a
      cases a
theorem OwnY.push {w w' : World} {B g n c i g1 cap : Nat} {hs : List HdT} {qs : List (List Sy)} {x y : HdT} {ps : List Sy} {xs : List SH} {z e : Int} {l : List Nat} (h : OwnY w B g n c hs qs) (hx : hs[i]? = some x) (hq : qs[i]? = some ps)
    (h2 : xs.length = x.2.1) (h1 : ps.length = x.2.1) (h3 : w.ownsRow B ST3 3 (.slice x.1 x.2.1 x.2.2) x.2.1 (scells xs))
    (h4 : ∀ (i : Nat) x p, xs[i]? = some x → ps[i]? = some p → x.1 = p.1 ∧ x.2.1 = p.2.1 ∧ x.2.2.2.1 = p.2.2.length ∧ w.ownsRow B 5 1 (SV x.2.2) p.2.2.length (p.2.2.map bv) ∧ Bytes p.2.2 ∧ p.2.2.length ≤ 140737488355328)
    (hy : w.ownsRow B 5 1 (SV y) l.length (l.map bv)) (hyl : y.2.1 = l.length) (hl : Bytes l ∧ l.length ≤ 140737488355328)
    (hE : w'.ownsRow B ST3 3 (.slice (some ⟨g1, 0, none⟩) (x.2.1 + 1) cap) (x.2.1 + 1) (scells xs ++ [.int .i64 z, .int .i64 e, SV y])) (hg : w.grownBy w' (Value.slice x.1 x.2.1 x.2.2).ownBlock) (hlie : (Value.slice x.1 x.2.1 x.2.2).ownBlock = some g1 ∨ g1 = w.heap.size) :
    OwnY (w'.setCell ⟨g, i, none⟩ (.slice (some ⟨g1, 0, none⟩) (x.2.1 + 1) cap)) B g n c (hs.set i (some ⟨g1, 0, none⟩, x.2.1 + 1, cap)) (qs.set i (ps ++ [(z, e, l)])) := by
  obtain ⟨k0, k1, k2, k3, k5⟩ := h
  have hnew := sy_append h2 h1 h3 h4 hy hyl hl hE hg
  have k1' := k1.kept hg (own_ne k1 h3 (by decide))
  have kset := own_set' k1' i (.slice (some ⟨g1, 0, none⟩) (x.2.1 + 1) cap)
  have hmap : (hs.map SV).set i (.slice (some ⟨g1, 0, none⟩) (x.2.1 + 1) cap) = (hs.set i (some ⟨g1, 0, none⟩, x.2.1 + 1, cap)).map SV := by rw [List.map_set]; rfl
  rw [hmap] at kset
  have hgs := grown_set4 w' g i (.slice (some ⟨g1, 0, none⟩) (x.2.1 + 1) cap)
  have hrow : ∀ k, (some g : Option Nat) = some k → ∃ cs T fr, w'.heap[k]? = some (.cells cs T fr) ∧ T ≠ ST3 ∧ T ≠ 5 := fun k hk => own_rowY k1' k (by injection hk with hk; subst hk; rfl)
  have hlt : ∀ (j : Nat) (y : HdT) (qj : List Sy), hs[j]? = some y → qs[j]? = some qj → ∀ q, (SV y).ownBlock = some q → q < w.heap.size := fun j y qj a b q hq' => by
    obtain ⟨-, _, -, ho, -⟩ := k3 j y qj a b
    exact (ho.lt q hq').2
  have keep : ∀ (j : Nat) (y : HdT) (qj : List Sy), i ≠ j → hs[j]? = some y → qs[j]? = some qj → OwnS w' B y.1 y.2.1 y.2.2 qj := fun j y qj hne a b => by
    obtain ⟨m1, ys, m2, m3, m4⟩ := k3 j y qj a b
    refine ⟨m1, ys, m2, m3.kept hg ?_, fun r u p a' b' => ?_⟩
    · have := k5 j i y x a hx (Ne.symm hne)
      exact this
    · obtain ⟨q0, q1, q2, q3, q4, q5⟩ := m4 r u p a' b'
      exact ⟨q0, q1, q2, q3.kept hg (own_ne q3 h3 (by decide)), q4, q5⟩
  have hxb : ∀ q, (SV x).ownBlock = some q → q < w.heap.size := hlt i x ps hx hq
  refine ⟨by rw [List.length_set]; exact k0, kset, by rw [List.length_set]; exact k2, fun j y m a b => ?_, fun j1 j2 y1 y2 a b hne => ?_⟩
  · rw [List.getElem?_set] at a b
    by_cases ei : i = j
    · rw [if_pos ei] at a b
      split at a
      · split at b
        · injection a with a
          injection b with b
          subst a b
          exact hnew.keepT hgs hrow
        · cases b
      · cases a
    · rw [if_neg ei] at a b
      exact (keep j y m ei a b).keepT hgs hrow
  · rw [List.getElem?_set] at a b
    by_cases e1 : i = j1
    · rw [if_pos e1] at a
      rw [if_neg (by omega)] at b
      split at a
      · injection a with a
        subst a
        right
        intro e
        have hb2 : (SV y2).ownBlock = some g1 := e.symm.trans rfl
        obtain ⟨q2, hq2⟩ : ∃ q, qs[j2]? = some q := ⟨_, List.getElem?_eq_getElem (by have := (List.getElem?_eq_some_iff.1 b).1; omega)⟩
        rcases hlie with h | h
        · rcases k5 j2 i y2 x b hx (by omega) with h' | h'
          · rw [hb2] at h'; cases h'
          · exact h' (hb2.trans h.symm)
        · have := hlt j2 y2 q2 b hq2 g1 hb2
          omega
      · cases a
    · rw [if_neg e1] at a
      by_cases e2 : i = j2
      · rw [if_pos e2] at b
        split at b
        · injection b with b
          subst b
          obtain ⟨q1, hq1⟩ : ∃ q, qs[j1]? = some q := ⟨_, List.getElem?_eq_getElem (by have := (List.getElem?_eq_some_iff.1 a).1; omega)⟩
          cases hb1 : (SV y1).ownBlock with
          | none => exact .inl rfl
          | some q =>
            right
            intro e
            have hq : q = g1 := by simpa [SV, Value.ownBlock] using e
            subst hq
            rcases hlie with h | h
            · rcases k5 j1 i y1 x a hx (by omega) with h' | h'
              · rw [hb1] at h'; cases h'
              · exact h' (hb1.trans h.symm)
            · have := hlt j1 y1 q1 a hq1 q hb1
              omega
        · cases b
      · rw [if_neg e2] at b
        exact k5 j1 j2 y1 y2 a b hne
/-! the lists -/
theorem turn_filter (N m : Nat) (hm : m < N) : ∀ q, ((List.range (q * N)).filter fun e => decide (e % N = m)) = (List.range q).map fun j => m + N * j
  | 0 => by simp
  | q + 1 => by
    have h1 : List.range ((q + 1) * N) = List.range (q * N) ++ (List.range N).map (fun x => q * N + x) := by
      rw [Nat.add_mul, Nat.one_mul, List.range_add]
    rw [h1, List.filter_append, turn_filter N m hm q, List.range_succ, List.map_append]
    congr 1
    rw [List.filter_map]
    have h2 : (List.range N).filter ((fun e => decide (e % N = m)) ∘ fun x => q * N + x) = [m] := by
      have : (List.range N).filter ((fun e => decide (e % N = m)) ∘ fun x => q * N + x) = (List.range N).filter (fun x => decide (x = m)) := by
        apply List.filter_congr
        intro x hx
        have hx := List.mem_range.1 hx
        have hx2 : (q * N + x) % N = x := by rw [Nat.add_comm, Nat.add_mul_mod_self_right, Nat.mod_eq_of_lt hx]
        simp only [Function.comp, hx2]
      rw [this]
      clear this h1
      induction N with
      | zero => omega
      | succ N ih =>
        rw [List.range_succ, List.filter_append]
        by_cases e : m = N
        · subst e
          have : (List.range m).filter (fun x => decide (x = m)) = [] := by
            rw [List.filter_eq_nil_iff]
            intro x hx
            have := List.mem_range.1 hx
            simp; omega
          rw [this]; simp
        · rw [ih (by omega)]
          simp
          omega
    rw [h2]
    simp [Nat.mul_comm, Nat.add_comm]
/-- of the first e symbols of a block, those of node m. -/
def dturn (v : List Nat) (T N i m e : Nat) : List Sy := ((List.range e).filter fun x => decide (x % N = m)).map fun (x : Nat) => gen v T i (x : Int)
theorem dturn_succ (v : List Nat) (T N i m e : Nat) : dturn v T N i m (e + 1) = dturn v T N i m e ++ (if e % N = m then [gen v T i (e : Int)] else []) := by
  unfold dturn
  rw [List.range_succ, List.filter_append, List.map_append]
  congr 1
  by_cases h : e % N = m
  · rw [if_pos h]; simp [h]
  · rw [if_neg h]; simp [h]
/-- a node's share of a block. -/
def shareL (v : List Nat) (T N i m q : Nat) : List Sy := (List.range q).map fun j => gen v T i (((m + N * j : Nat) : Nat) : Int)
theorem dturn_end {v : List Nat} {T N i m q : Nat} (hm : m < N) : dturn v T N i m (q * N) = shareL v T N i m q := by
  unfold dturn shareL
  rw [turn_filter N m hm q, List.map_map]
  rfl
/-- what node m has of the first i blocks. -/
def dealTo (v : List Nat) (T N : Nat) (sh : Nat → Nat) (m : Nat) : Nat → List Sy
  | 0 => []
  | i + 1 => dealTo v T N sh m i ++ shareL v T N i m (sh i)
def dealQ (v : List Nat) (T N : Nat) (sh : Nat → Nat) (i e : Nat) : List (List Sy) := (List.range N).map fun m => dealTo v T N sh m i ++ dturn v T N i m e
theorem dealQ_at {v : List Nat} {T N : Nat} {sh : Nat → Nat} {i e m : Nat} (h : m < N) : (dealQ v T N sh i e)[m]? = some (dealTo v T N sh m i ++ dturn v T N i m e) := by
  unfold dealQ; rw [List.getElem?_map, List.getElem?_range h]; rfl
theorem dealQ_step {v : List Nat} {T N : Nat} {sh : Nat → Nat} {i e : Nat} (hN : 0 < N) : (dealQ v T N sh i e).set (e % N) ((dealTo v T N sh (e % N) i ++ dturn v T N i (e % N) e) ++ [gen v T i (e : Int)]) = dealQ v T N sh i (e + 1) := by
  have hm : e % N < N := Nat.mod_lt _ hN
  apply List.ext_getElem?
  intro m
  rw [List.getElem?_set]
  by_cases h : m < N
  · rw [dealQ_at h, dealQ_at h, dturn_succ]
    by_cases e1 : e % N = m
    · subst e1
      rw [if_pos rfl, if_pos (by unfold dealQ; simpa using hm), if_pos rfl, List.append_assoc]
    · rw [if_neg e1, if_neg e1, List.append_nil]
  · rw [if_neg (by omega), List.getElem?_eq_none (by unfold dealQ; simp; omega), List.getElem?_eq_none (by unfold dealQ; simp; omega)]
theorem dealQ_end {v : List Nat} {T N : Nat} {sh : Nat → Nat} {i : Nat} : dealQ v T N sh i (sh i * N) = dealQ v T N sh (i + 1) 0 := by
  apply List.ext_getElem?
  intro m
  by_cases h : m < N
  · rw [dealQ_at h, dealQ_at h, dturn_end h]
    simp [dealTo, dturn]
  · rw [List.getElem?_eq_none (by unfold dealQ; simp; omega), List.getElem?_eq_none (by unfold dealQ; simp; omega)]
theorem dealQ_start (v : List Nat) (T N : Nat) (sh : Nat → Nat) : dealQ v T N sh 0 0 = List.replicate N [] := by
  apply List.ext_getElem?
  intro m
  rw [List.getElem?_replicate]
  by_cases h : m < N
  · rw [dealQ_at h, if_pos h]; rfl
  · rw [List.getElem?_eq_none (by unfold dealQ; simp; omega), if_neg h]
theorem dealQ_length (v : List Nat) (T N : Nat) (sh : Nat → Nat) (i e : Nat) : (dealQ v T N sh i e).length = N := by simp [dealQ]
end Go.Proofs.YtfjcbgfgiidogaaDoor
namespace Go.Proofs.YtfjcbgfgiidogaaDoor
open Go.RowKit

def upL (k i : Nat) : List Int := natsI i ++ List.replicate (k - i) 0
theorem upL_step {k i : Nat} (h : i < k) : (upL k i).set i (i : Int) = upL k (i + 1) := by
  unfold upL
  rw [List.set_append_right _ _ (by rw [natsI_length]; exact Nat.le_refl _), natsI_length, Nat.sub_self, show k - i = (k - (i + 1)) + 1 by omega, List.replicate_succ, natsI_succ, List.append_assoc]
  rfl
theorem upL_end (k : Nat) : upL k k = natsI k := by simp [upL]
theorem upL_start (k : Nat) : upL k 0 = List.replicate k 0 := by simp [upL, natsI]
set_option maxRecDepth 100000 in
set_option maxHeartbeats 4000000 in
theorem upTo_any (k : Nat) (hk1 : 1 ≤ k) (hk : k ≤ 1000) (w : World) : Calls Tryd.prog 51 #[.int .i64 (k : Int)] w fun e w' => ∃ a c, e = .returned (.slice a k c) ∧ IntsV w' (a, k, c) (natsI k) ∧ Below w.heap.size w w' := by
  obtain ⟨i0, hi, hz0, hz1, hz2⟩ := info_parts iinfo
  have HST := Lib.hid (fun i (h : i < k) => upL_step h)
  have HE := Lib.hid (upL_end k)
  have H0 := Lib.hid (upL_start k)
  go_enter Tryd.func51, Tryd.ntmps51
  go_wp2_with (first | (at_make; refine Hid.out ?_))
  refine Lib.hid ?_
  refine wpList_make_full _ rfl _ _ 24 rfl w.heap.size 3 i0 (.int .i64 0) 1 Tryd.underlying24 hi hz0 hz1 _ _ _ _ k rfl rfl rfl rfl (by rw [hz2]; omega) (by unfold maxLen; omega) (Nat.le_refl _) ?_
  intro w2 hown2 hgrow2
  rw [show (Value.int .i64 0).cells = #[.int .i64 0] from rfl, Nat.mul_one, toList_madeCells_one] at hown2
  have hO : w2.ownsRow w.heap.size 3 1 (.slice (some ⟨w.heap.size, 0, none⟩) k k) k ((upL k 0).map iv) := by rw [H0.out, List.map_replicate]; exact hown2
  have HO := Lib.hid hO
  have HB2 := Lib.hid (below_grown (Below.refl _ _) hgrow2 (fun k e => by cases e))
  clear hO hown2 hgrow2
  go_wp2_with fail
  go_loopw [9] (fun vi wr => ∃ i : Nat, i ≤ k ∧ vi = .int .i64 (i : Nat) ∧ Hid (wr.ownsRow w.heap.size 3 1 (.slice (some ⟨w.heap.size, 0, none⟩) k k) k ((upL k i).map iv)) ∧ Hid (Below w.heap.size w wr)) (fun vi _ => (k - intOf vi).toNat)
  case atStart => exact ⟨0, Nat.zero_le _, rfl, HO, HB2⟩
  case round =>
    clear HO HB2
    obtain ⟨i, hi, rfl, hO, hB⟩ := hrel
    by_cases hlt : i < k
    · obtain ⟨v, c3, f3⟩ : ∃ v, wr.cell? ⟨w.heap.size, i, none⟩ = some v ∧ wr.frozen? ⟨w.heap.size, i, none⟩ = false := by
        have h := hO.out.cellAt i (by omega)
        rw [List.getElem?_eq_getElem (by rw [hO.out.1]; omega)] at h
        exact ⟨_, h, hO.out.frozenAt i⟩
      have o4 := own_set' hO.out i (.int .i64 (i : Int))
      have b4 := hB.out.setCell (p := ⟨w.heap.size, i, none⟩) (Nat.le_refl _) (.int .i64 (i : Int))
      have HO4 : Hid ((wr.setCell ⟨w.heap.size, i, none⟩ (.int .i64 (i : Int))).ownsRow w.heap.size 3 1 (.slice (some ⟨w.heap.size, 0, none⟩) k k) k ((upL k (i + 1)).map iv)) := Lib.hid (by rw [← HST.out i hlt, List.map_set]; exact o4)
      have HB4 := Lib.hid b4
      clear o4 b4 hO hB
      go_wp2
      go_roundw
      case rel => exact ⟨i + 1, by omega, by go_num, HO4, HB4⟩
      case measure => simp [intOf] <;> omega
    · obtain rfl : i = k := by omega
      have hO' := hO.out
      rw [HE.out] at hO'
      have HI := Lib.hid (intsV_ownsC hO' (by omega))
      clear hO hO'
      go_wp2
      go_ret
      exact ⟨_, _, rfl, HI.out, hB.out⟩
theorem own_below' {w w' : World} {B n s : Nat} {T : TypeId} {v : Value} {xs : List Value} (h : w.ownsRow B T s v n xs) (hb : Below w.heap.size w w') : w'.ownsRow B T s v n xs := h.kept (grownBy_of_below hb none) (by cases v.ownBlock <;> simp)
/-- a node's share. -/
def shN (N u r : Int) (n i : Nat) : Nat := (shr N u r (chK n i : Nat)).toNat
set_option maxRecDepth 100000 in
set_option maxHeartbeats 16000000 in
theorem deal_good (n0 u r c t s : Int) (va : Option Addr) (vn vc : Nat) (v : List Nat) (w : World) (hG : Good n0 u r c t s) (hg : Bnd w) (hv : BytesV w (va, vn, vc) v) (hsz : sizeC (vn : Int) t = 0) :
    Calls Tryd.prog 35 #[cfg n0 u r c t s, .slice va vn vc] w fun e w' => ∃ (g : Nat) (hs : List HdT), e = .returned (.tuple #[.slice (some ⟨g, 0, none⟩) n0.toNat n0.toNat, .int .i64 0]) ∧ OwnY w' w.heap.size g n0.toNat n0.toNat hs (dealQ v t.toNat n0.toNat (shN n0 u r (chN vn t.toNat)) (chZ (chN vn t.toNat)) 0) ∧ Below w.heap.size w w' := by
  obtain ⟨i0, hpi, hz0, hz1, hz2⟩ := info_parts sinfo
  obtain ⟨j0, hj, hy0, hy1, hy2⟩ := info_parts (show (Tryd.prog.info? YT).map (fun i => (i.zero, i.size, i.bytes)) = some (some (.slice none 0 0), 1, 24) by kernel_rfl)
  have HC := fun w => check_any n0 u r c t s w ⟨by have := hG; unfold Good at this; omega, by have := hG; unfold Good at this; omega⟩ ⟨by have := hG; unfold Good at this; omega, by have := hG; unfold Good at this; omega⟩
  rw [chk_good hG] at HC
  have KSH := fun k w (hk : 1 ≤ k ∧ k ≤ 32) => share_good n0 u r c t s k w hG hk
  have HSR := Lib.hid (fun k (h1 : 1 ≤ k) (h2 : k ≤ 32) => shr_range (k := k) hG h1 h2)
  obtain ⟨g0, g1, g2, g3, g4, g5, g6, g7, g8, g9, g10, g11, g12⟩ := (show _ ∧ _ from hG)
  clear hG
  unfold cfg at HC KSH ⊢
  obtain ⟨N, rfl⟩ : ∃ N : Nat, n0 = (N : Nat) := ⟨n0.toNat, by omega⟩
  obtain ⟨T, rfl⟩ : ∃ T : Nat, t = (T : Nat) := ⟨t.toNat, by omega⟩
  simp only [Int.toNat_natCast]
  obtain ⟨h1, h2⟩ := sizeC_zero.1 hsz
  obtain ⟨s1, s2⟩ := okS_iff.1 h1
  obtain ⟨t1, t2⟩ := okT_iff.1 h2
  have KP := fun w => parts_any (vn : Int) (T : Int) w
  unfold partsR at KP
  rw [if_pos hsz, Int.toNat_natCast, Int.toNat_natCast] at KP
  obtain ⟨n1, n2, -, -⟩ := chN_facts (size := vn) (t := T) (by omega) (by omega) (by omega)
  have HVL := Lib.hid (show v.length = vn from hv.length)
  have HVB := Lib.hid hv.bytes
  have HV := Lib.hid hv
  have HGB := Lib.hid hg
  have HSYM := Lib.hid (fun (i m : Nat) (hi : i < chZ (chN vn T)) (hm : m ≤ 1000) => (show symbolsR v (T : Int) (i : Int) (natsI m) = ((natsI m).map (gen v T i), 0) by
    rw [symbols_val HVB.out (by rw [HVL.out]; omega) (by rw [HVL.out]; omega) (by omega) (by omega), HVL.out, if_pos (inZ_iff.2 ⟨by omega, by omega⟩), if_pos (natsI_ok hm), Int.toNat_natCast]))
  clear hsz h1 h2 hg hv
  obtain ⟨n, hn⟩ : ∃ n, n = chN vn T := ⟨_, rfl⟩
  rw [← hn] at n1 n2 KP HSYM ⊢
  clear hn
  obtain ⟨z1, z2, -, -, z3⟩ := chZ_facts n1 n2
  have HKF := Lib.hid (fun i (h : i < chZ n) => chK_facts n1 n2 h)
  have hPL : (partsL n).length = chZ n := partsL_length n
  have HPK : Hid (∀ i, i < chZ n → ((partsL n).map nv')[i]? = some (.int .i64 ((chK n i : Nat) : Int))) := Lib.hid (fun i h => by
    unfold partsL
    rw [List.map_map, List.getElem?_map, List.getElem?_range h]
    rfl)
  unfold GivesN at KP
  simp only [hPL] at KP
  have HSH := Lib.hid (show ∀ i, shN (N : Int) u r n i = (shr (N : Int) u r (chK n i : Nat)).toNat from fun i => rfl)
  obtain ⟨SH, hSH⟩ : ∃ f, f = shN (N : Int) u r n := ⟨_, rfl⟩
  rw [← hSH] at HSH ⊢
  obtain ⟨PL, hPLL⟩ : ∃ P, P = partsL n := ⟨_, rfl⟩
  rw [← hPLL] at KP HPK
  obtain ⟨z, hz⟩ : ∃ z, z = chZ n := ⟨_, rfl⟩
  rw [← hz] at z1 z2 z3 KP HKF HPK HSYM ⊢
  clear hz hPLL hPL hSH
  have HQ0 := Lib.hid (dealQ_start v T N SH)
  have HQS := Lib.hid (fun i e => dealQ_step (v := v) (T := T) (N := N) (sh := SH) (i := i) (e := e) (by omega))
  have HQE := Lib.hid (fun i => dealQ_end (v := v) (T := T) (N := N) (sh := SH) (i := i))
  have HQA := Lib.hid (fun i e m (h : m < N) => dealQ_at (v := v) (T := T) (sh := SH) (i := i) (e := e) h)
  go_enter Tryd.func35, Tryd.ntmps35
  go_wp2_with fail
  (with_reducible refine (HC _).mono ?_)
  rintro e w1 ⟨rfl, hb1⟩
  obtain ⟨-, -, hold, hbw⟩ := after_callP _ _ _ hb1
  have c0 : w1.cell? ⟨w.heap.size, 0, none⟩ = some (.int .i64 (N : Int)) := cell_of_row _ _ 0 _ _ _ hold
  have c4 : w1.cell? ⟨w.heap.size, 4, none⟩ = some (.int .i64 (T : Int)) := cell_of_row _ _ 4 _ _ _ hold
  have HC1 : w1.cell? ⟨w.heap.size, 1, none⟩ = some (.int .i64 u) := cell_of_row _ _ 1 _ _ _ hold
  have HC2 : w1.cell? ⟨w.heap.size, 2, none⟩ = some (.int .i64 r) := cell_of_row _ _ 2 _ _ _ hold
  have HC3 : w1.cell? ⟨w.heap.size, 3, none⟩ = some (.int .i64 c) := cell_of_row _ _ 3 _ _ _ hold
  have HC5 : w1.cell? ⟨w.heap.size, 5, none⟩ = some (.int .i64 s) := cell_of_row _ _ 5 _ _ _ hold
  have HCF := Lib.hid (fun (wr : World) (hb : Below w1.heap.size w1 wr) => (show wr.cell? ⟨w.heap.size, 0, none⟩ = some (.int .i64 (N : Int)) ∧ wr.cell? ⟨w.heap.size, 1, none⟩ = some (.int .i64 u) ∧ wr.cell? ⟨w.heap.size, 2, none⟩ = some (.int .i64 r) ∧ wr.cell? ⟨w.heap.size, 3, none⟩ = some (.int .i64 c) ∧ wr.cell? ⟨w.heap.size, 4, none⟩ = some (.int .i64 (T : Int)) ∧ wr.cell? ⟨w.heap.size, 5, none⟩ = some (.int .i64 s) from ⟨cell_below c0 hb, cell_below HC1 hb, cell_below HC2 hb, cell_below HC3 hb, cell_below c4 hb, cell_below HC5 hb⟩))
  have HBW := Lib.hid hbw
  have hs1 := hbw.size
  clear HC hb1 hold hbw HC1 HC2 HC3 HC5
  go_wp2_with fail
  (with_reducible refine (KP _).mono ?_)
  rintro e w2 ⟨a2, c2, rfl, o2, b2⟩
  obtain ⟨q, rfl⟩ := own_some o2 (by omega)
  have HCP : Hid (∀ i, i < z → w2.cell? ⟨q, i, none⟩ = some (.int .i64 ((chK n i : Nat) : Int))) := Lib.hid (fun i hi => (o2.cellAt i (by omega)).trans (HPK.out i hi))
  obtain ⟨d0, d1, d2, d3, d4, d5⟩ := HCF.out w2 b2
  have HB2 := Lib.hid b2
  have hs2 := b2.size
  clear KP o2 b2 HPK c0 c4
  go_wp2_with (first | (at_make; refine Hid.out ?_))
  refine Lib.hid ?_
  refine wpList_make_full _ rfl _ _ 62 rfl w2.heap.size YT j0 (.slice none 0 0) 1 Tryd.underlying62 hj hy0 hy1 _ _ _ _ N rfl rfl rfl rfl (by rw [hy2]; omega) (by unfold maxLen; omega) (Nat.le_refl _) ?_
  intro w3 hown3 hgrow3
  rw [show (Value.slice none 0 0).cells = #[.slice none 0 0] from rfl, Nat.mul_one, toList_madeCells_one] at hown3
  have hY := OwnY.made hown3
  rw [← HQ0.out] at hY
  have HY := Lib.hid hY
  have HB3 := Lib.hid (show Below w2.heap.size w2 w3 from ⟨hgrow3.os, hgrow3.tape, hgrow3.output, hgrow3.size, fun i hi => hgrow3.block i hi (by simp)⟩)
  clear hY hown3 hgrow3 d0 d1 d2 d3 d4 d5
  go_wp2_with fail
  have HLB0 : Hid (∀ (j : Nat) (y : HdT), (List.replicate N ((none, 0, 0) : HdT))[j]? = some y → y.2.1 ≤ 0 * 300) := Lib.hid (fun j y h => by
    rw [List.getElem?_replicate] at h
    split at h
    · injection h with h; subst h; simp
    · cases h)
  go_loopw [39] (fun vi wr => ∃ (i : Nat) (hs : List HdT), i ≤ z ∧ vi = .int .i64 (i : Nat) ∧ Hid (OwnY wr w2.heap.size w2.heap.size N N hs (dealQ v T N SH i 0)) ∧ Hid (∀ (j : Nat) (y : HdT), hs[j]? = some y → y.2.1 ≤ i * 300) ∧ Hid (Below w2.heap.size w2 wr)) (fun vi _ => (z - intOf vi).toNat)
  case atStart => exact ⟨0, _, Nat.zero_le _, rfl, HY, HLB0, HB3⟩
  case round =>
    clear HY HB3 HLB0
    obtain ⟨i, hs, hi, rfl, HO, HLB, HB⟩ := hrel
    obtain ⟨wo, hwo⟩ : ∃ x, x = wr := ⟨_, rfl⟩
    subst hwo
    have hsr := HB.out.size
    by_cases hlt : i < z
    · have cp := cell_below (HCP.out i hlt) HB.out
      obtain ⟨k1, k2, -, -⟩ := HKF.out i hlt
      obtain ⟨q0, q1⟩ := HSR.out ((chK n i : Nat) : Int) (by omega) (by omega)
      have HSI := Lib.hid (HSH.out i)
      have HQEI := Lib.hid (HQE.out i)
      obtain ⟨m, hm⟩ : ∃ m, m = SH i := ⟨_, rfl⟩
      rw [← hm] at HSI HQEI
      have hmi : (m : Int) = shr (N : Int) u r ((chK n i : Nat) : Int) := by rw [HSI.out]; omega
      have KSI := fun W => KSH ((chK n i : Nat) : Int) W ⟨by omega, by omega⟩
      rw [← hmi] at q0 q1
      simp only [← hmi] at KSI
      obtain ⟨k, hk⟩ : ∃ k, k = chK n i := ⟨_, rfl⟩
      rw [← hk] at cp k1 k2
      simp only [← hk] at KSI
      obtain ⟨d0, d1, d2, d3, d4, d5⟩ := HCF.out wo (HB2.out.trans (HB.out.mono hs2))
      have hMle : m * N ≤ 33 * 8 := Nat.mul_le_mul (by omega) (by omega)
      have hMge : 1 ≤ m * N := Nat.mul_pos (by omega) (by omega)
      have EW : IntKind.i64.wrap ((m : Int) * (N : Int)) = ((m * N : Nat) : Int) := by
        rw [IntKind.wrap_i64, ← Int.natCast_mul]
        generalize m * N = M at hMle ⊢
        omega
      obtain ⟨M, hMM⟩ : ∃ M, M = m * N := ⟨_, rfl⟩
      rw [← hMM] at EW hMle hMge HQEI
      have HEW := Lib.hid EW
      have hsym := HSYM.out i M hlt (by omega)
      have KSY := fun a5 c5 W h k g => syms_any va vn vc v (T : Int) (i : Nat) a5 M c5 (natsI M) W h k (by omega) g
      simp only [hsym] at KSY
      have HSA := Lib.hid (fun x (h : x < M) => (show ((natsI M).map (gen v T i))[x]? = some (gen v T i (x : Int)) by rw [List.getElem?_map, natsI_at h]; rfl))
      have hSL : ((natsI M).map (gen v T i)).length = M := by rw [List.length_map, natsI_length]
      unfold GivesS at KSY
      simp only [hSL] at KSY
      obtain ⟨SS, hSS⟩ : ∃ S, S = (natsI M).map (gen v T i) := ⟨_, rfl⟩
      simp only [← hSS] at KSY
      rw [← hSS] at HSA
      have hlo := HO.out
      have hgd : w2.heap.size < wo.heap.size := (hlo.2.1.lt _ rfl).2
      have HLT0 := Lib.hid (show ∀ (j : Nat) (y : HdT), hs[j]? = some y → ∀ b, (SV y).ownBlock = some b → b < wo.heap.size from fun j y hj b hb => by
        have hjl : j < (dealQ v T N SH i 0).length := by rw [hlo.1, ← hlo.2.2.1]; exact (List.getElem?_eq_some_iff.1 hj).1
        exact ((hlo.2.2.2.1 j y _ hj (List.getElem?_eq_getElem hjl)).ex.elim fun xs hx => (hx.2.1.lt b hb).2))
      have hi0 : (0 : Int) ≤ (i : Int) := by omega
      have hi1 : (i : Int) < (z : Int) := by omega
      clear hm hmi hk hMM EW hsym hSL hSS hlo
      go_wp2_with fail
      (with_reducible refine (KSI _).mono ?_)
      rintro e w4 ⟨rfl, b4⟩
      have K0 : w4.cell? ⟨w.heap.size, 4, none⟩ = some (.int .i64 (T : Int)) ∧ w4.cell? ⟨w.heap.size, 0, none⟩ = some (.int .i64 (N : Int)) := ⟨cell_below d4 b4, cell_below d0 b4⟩
      have HB4 := Lib.hid b4
      have HB4W := Lib.hid (HBW.out.trans ((HB2.out.trans ((HB.out.trans (b4.mono hsr)).mono hs2)).mono hs1))
      have HV4 := Lib.hid (HV.out.below HB4W.out)
      have HG4 := Lib.hid (HGB.out.below HB4W.out)
      clear KSI b4 d0 d1 d2 d3 d4 d5 cp
      go_wp2_with fail
      go_region_held3 (fun w' => w'.cell? ⟨w.heap.size, 4, none⟩ = some (.int .i64 (T : Int)) ∧ w'.cell? ⟨w.heap.size, 0, none⟩ = some (.int .i64 (N : Int))) (first | exact K0 | exact K6 | exact K7 | go_keep)
        (first
          | (go_at_call 51; rw [HEW.out]; (with_reducible refine (upTo_any M hMge (by omega) _).mono ?_); rintro e w6 ⟨a6, c6, rfl, I6, e6⟩; have b6 : Below w4.heap.size w4 w6 := ⟨e6.os, e6.tape, e6.output, e6.size, e6.block⟩; have K6 : w6.cell? ⟨w.heap.size, 4, none⟩ = some (.int .i64 (T : Int)) ∧ w6.cell? ⟨w.heap.size, 0, none⟩ = some (.int .i64 (N : Int)) := ⟨cell_below K0.1 b6, cell_below K0.2 b6⟩; have H6 := Lib.hid I6)
          | (go_at_call 23; (with_reducible refine (KSY a6 c6 _ ?hv ?he ?hg).mono ?_); (case hv => exact (HV4.out.below b6).below ⟨rfl, rfl, rfl, Nat.le_refl _, fun _ _ => rfl⟩); (case he => exact H6.out.below ⟨rfl, rfl, rfl, Nat.le_refl _, fun _ _ => rfl⟩); (case hg => exact (HG4.out.below b6).below ⟨rfl, rfl, rfl, Nat.le_refl _, fun _ _ => rfl⟩); rintro e w7 ⟨a7, c7, rfl, o7, e7⟩; have b7 : Below w6.heap.size w6 w7 := ⟨e7.os, e7.tape, e7.output, e7.size, e7.block⟩; have K7 : w7.cell? ⟨w.heap.size, 4, none⟩ = some (.int .i64 (T : Int)) ∧ w7.cell? ⟨w.heap.size, 0, none⟩ = some (.int .i64 (N : Int)) := ⟨cell_below K6.1 b7, cell_below K6.2 b7⟩; have O7 : OwnS w7 w6.heap.size a7 M c7 SS := o7))
      have hs47 : w4.heap.size ≤ w6.heap.size ∧ w6.heap.size ≤ w7.heap.size := ⟨b6.size, b7.size⟩
      have hso4 := HB4.out.size
      have hb7 := HB4.out.trans ((b6.trans (b7.mono b6.size)).mono hso4)
      have HY7 := Lib.hid (HO.out.below hb7)
      have HB7 := Lib.hid (HB.out.trans (hb7.mono hsr))
      obtain ⟨e1, sx, e2, e3, e4⟩ := O7
      obtain ⟨sb, rfl⟩ : ∃ q, a7 = some ⟨q, 0, none⟩ := by
        rcases e3.2 with ⟨_, h⟩ | ⟨g', _, _, h, _⟩
        · omega
        · injection h with h
          exact ⟨g', h⟩
      have hsb := e3.lt sb rfl
      have HSX3 := Lib.hid e3
      have HSX4 := Lib.hid e4
      have HSX2 := Lib.hid e2
      have HLO7 : Hid (∀ (j : Nat) (y : HdT), hs[j]? = some y → y.2.1 ≤ i * 300 + 0 ∧ ∀ b, (SV y).ownBlock = some b → b < wo.heap.size ∨ w7.heap.size ≤ b) := Lib.hid (fun j y hj => ⟨HLB.out j y hj, fun b hb => .inl (HLT0.out j y hj b hb)⟩)
      have hs7 := HB7.out.size
      clear hb7 b6 b7 e6 e7 o7 I6 H6 K0 K6 K7 KSY HV4 HG4 HO HLB HLT0 HB4W e1 e2 e3 e4
      go_wp2_with fail
      go_loopw [68] (fun vx wr => ∃ (x : Nat) (hs : List HdT), x ≤ M ∧ vx = .int .i64 (x : Nat) ∧ Hid (OwnY wr w2.heap.size w2.heap.size N N hs (dealQ v T N SH i x)) ∧ Hid (∀ (j : Nat) (y : HdT), hs[j]? = some y → y.2.1 ≤ i * 300 + x ∧ ∀ b, (SV y).ownBlock = some b → b < wo.heap.size ∨ w7.heap.size ≤ b) ∧ Hid (∀ b, wo.heap.size ≤ b → b < w7.heap.size → wr.heap[b]? = w7.heap[b]?) ∧ Hid (Below w2.heap.size w2 wr) ∧ w7.heap.size ≤ wr.heap.size) (fun vx _ => (M - intOf vx).toNat)
      case atStart => exact ⟨0, hs, Nat.zero_le _, rfl, HY7, HLO7, Lib.hid (fun _ _ _ => rfl), HB7, Nat.le_refl _⟩
      case round =>
        clear HY7 HLO7 HB7 hs7
        obtain ⟨x, hs, hx, rfl, HY, HLO, HK, HBR, hss⟩ := hrel
        by_cases hxm : x < M
        · obtain ⟨⟨zz, ee, a3, n3, c3⟩, hxs⟩ : ∃ y, sx[x]? = some y := ⟨_, List.getElem?_eq_getElem (by rw [HSX2.out]; exact hxm)⟩
          have hgx := HSA.out x hxm
          have HQX := Lib.hid (HQS.out i x)
          obtain ⟨gg, hgg⟩ : ∃ p, p = gen v T i (x : Int) := ⟨_, rfl⟩
          rw [← hgg] at hgx HQX
          obtain ⟨zz', ee', l⟩ := gg
          obtain ⟨r0, r1, r2, r3, r4⟩ := HSX4.out x _ _ hxs hgx
          simp only at r0 r1 r2
          subst r0 r1 r2
          have hcl : ∀ y, y < M * 3 → wr.cell? ⟨sb, y, none⟩ = w7.cell? ⟨sb, y, none⟩ := fun y _ => World.cell?_of_block (w := w7) (w' := wr) (a := ⟨sb, y, none⟩) (HK.out sb (by omega) hsb.2)
          have p0 : wr.cell? ⟨sb, x * 3, none⟩ = some (.int .i64 zz) := (hcl _ (by omega)).trans ((HSX3.out.cellAt (x * 3) (by omega)).trans (scells_get sx x _ hxs).1)
          have p1 : wr.cell? ⟨sb, x * 3 + 1, none⟩ = some (.int .i64 ee) := (hcl _ (by omega)).trans ((HSX3.out.cellAt (x * 3 + 1) (by omega)).trans (scells_get sx x _ hxs).2.1)
          have p2 : wr.cell? ⟨sb, x * 3 + 2, none⟩ = some (.slice a3 l.length c3) := (hcl _ (by omega)).trans ((HSX3.out.cellAt (x * 3 + 2) (by omega)).trans (scells_get sx x _ hxs).2.2)
          have hR3 := Lib.hid (ownsRow_base (own_range r3 (fun b h1 h2 => HK.out b (by omega) h2)) (show w2.heap.size ≤ w6.heap.size by omega))
          have HR4 := Lib.hid r4
          obtain ⟨ll, hll⟩ : ∃ y, y = l.length := ⟨_, rfl⟩
          rw [← hll] at p2
          have HLL := Lib.hid hll
          obtain ⟨mm, hmm⟩ : ∃ y, y = x % N := ⟨_, rfl⟩
          have hmN : mm < N := by rw [hmm]; exact Nat.mod_lt _ (by omega)
          have EM : (x : Int) % (N : Int) = (mm : Int) := by rw [hmm]; exact (Int.natCast_emod _ _).symm
          have EMt : ((x : Int)).tmod (N : Int) = (mm : Int) := by rw [Int.tmod_eq_emod_of_nonneg (by omega)]; exact EM
          rw [← hmm] at HQX
          obtain ⟨y1, y2, y3, y4, y5⟩ := HY.out
          obtain ⟨⟨xa, xn, xc⟩, hxh⟩ : ∃ y, hs[mm]? = some y := ⟨_, List.getElem?_eq_getElem (by rw [y3]; exact hmN)⟩
          have hqm := HQA.out i x mm hmN
          obtain ⟨ps, hps⟩ : ∃ p, p = dealTo v T N SH mm i ++ dturn v T N i mm x := ⟨_, rfl⟩
          rw [← hps] at hqm HQX
          have HQM := Lib.hid hqm
          have HXH := Lib.hid hxh
          have hxb := (HLO.out mm _ hxh).1
          simp only at hxb
          have cr : wr.cell? ⟨w2.heap.size, mm, none⟩ = some (.slice xa xn xc) := by
            have h := y2.cellAt mm (by omega)
            rw [List.getElem?_map, hxh] at h
            exact h
          obtain ⟨d0, -, -, -, d4, -⟩ := HCF.out wr (HB2.out.trans (HBR.out.mono hs2))
          have hm0 : (0 : Int) ≤ (mm : Int) := by omega
          have hm1 : (mm : Int) < (N : Int) := by omega
          have hN0 : (N : Int) ≠ 0 := by omega
          have hNb : ((N : Int) == 0) = false := beq_eq_false_iff_ne.2 hN0
          have hNf : ((N : Int) = 0) = False := eq_false hN0
          have hNf2 : (N = 0) = False := eq_false (by omega)
          have hbW := below_alloc wr (.cells #[.int .i64 zz, .int .i64 ee, .slice a3 ll c3] ST3)
          have HYW := Lib.hid (HY.out.below hbW)
          have K0 : (wr.alloc (.cells #[.int .i64 zz, .int .i64 ee, .slice a3 ll c3] ST3)).cell? ⟨wr.heap.size, 0, none⟩ = some (.int .i64 zz) ∧ (wr.alloc (.cells #[.int .i64 zz, .int .i64 ee, .slice a3 ll c3] ST3)).cell? ⟨wr.heap.size, 1, none⟩ = some (.int .i64 ee) ∧ (wr.alloc (.cells #[.int .i64 zz, .int .i64 ee, .slice a3 ll c3] ST3)).cell? ⟨wr.heap.size, 2, none⟩ = some (.slice a3 ll c3) ∧ (wr.alloc (.cells #[.int .i64 zz, .int .i64 ee, .slice a3 ll c3] ST3)).cell? ⟨w2.heap.size, mm, none⟩ = some (.slice xa xn xc) ∧ (wr.alloc (.cells #[.int .i64 zz, .int .i64 ee, .slice a3 ll c3] ST3)).cell? ⟨w.heap.size, 0, none⟩ = some (.int .i64 (N : Int)) := ⟨by rw [cell_of_row _ _ 0 _ _ _ (heap_alloc_new wr _)]; rfl, by rw [cell_of_row _ _ 1 _ _ _ (heap_alloc_new wr _)]; rfl, by rw [cell_of_row _ _ 2 _ _ _ (heap_alloc_new wr _)]; rfl, cell_below cr hbW, cell_below d0 hbW⟩
          have HBX := Lib.hid (heap_alloc_new wr (.cells #[.int .i64 zz, .int .i64 ee, .slice a3 ll c3] ST3))
          have hR3W := Lib.hid (own_below' hR3.out hbW)
          have HKW := Lib.hid (show ∀ b, wo.heap.size ≤ b → b < w7.heap.size → (wr.alloc (.cells #[.int .i64 zz, .int .i64 ee, .slice a3 ll c3] ST3)).heap[b]? = w7.heap[b]? from fun b h1 h2 => (hbW.block b (by omega)).trans (HK.out b h1 h2))
          have HBRW := Lib.hid (HBR.out.alloc HBR.out.size (.cells #[.int .i64 zz, .int .i64 ee, .slice a3 ll c3] ST3))
          have hssW : wr.heap.size < (wr.alloc (.cells #[.int .i64 zz, .int .i64 ee, .slice a3 ll c3] ST3)).heap.size := by simp
          have HRL := Lib.hid (show ∀ b, (Value.slice xa xn xc).ownBlock = some b → b < wr.heap.size from fun b hb => by
            obtain ⟨-, ys, -, u3, -⟩ := y4 mm _ _ hxh hqm
            exact (u3.lt b hb).2)
          clear y1 y2 y3 y4 y5 hxs hgx hcl r3 r4 hll hmm hgg hqm hxh hps hbW HY HBR HK hR3
          go_wp2_with fail
          generalize wr.alloc (.cells #[.int .i64 zz, .int .i64 ee, .slice a3 ll c3] ST3) = W at HYW K0 HBX hR3W HKW HBRW hssW ⊢
          refine GoX.start 16 (fun w' => w'.cell? ⟨wr.heap.size, 0, none⟩ = some (.int .i64 zz) ∧ w'.cell? ⟨wr.heap.size, 1, none⟩ = some (.int .i64 ee) ∧ w'.cell? ⟨wr.heap.size, 2, none⟩ = some (.slice a3 ll c3) ∧ w'.cell? ⟨w2.heap.size, mm, none⟩ = some (.slice xa xn xc) ∧ w'.cell? ⟨w.heap.size, 0, none⟩ = some (.int .i64 (N : Int))) (by kernel_rfl) ?_
          refine GoX.take 0 rfl (by kernel_rfl) (by kernel_rfl) (by rfl) (fun _ _ _ h => h) (v := ?tv0) K0 ?ty0 ?tr0
          case ty0 => (intro w hSw; (try dsimp only at hSw); go_simp; first | done | with_reducible rfl)
          simp only [Act.put, List.setIfInBounds_toArray, List.set_cons_zero, List.set_cons_succ]
          refine GoX.take 1 rfl (by kernel_rfl) (by kernel_rfl) (by rfl) (fun _ _ _ h => h) (v := ?tv1) K0 ?ty1 ?tr1
          case ty1 => (intro w hSw; (try dsimp only at hSw); go_simp; first | done | with_reducible rfl)
          simp only [Act.put, List.setIfInBounds_toArray, List.set_cons_zero, List.set_cons_succ]
          refine GoX.take 2 rfl (by kernel_rfl) (by kernel_rfl) (by rfl) (fun _ _ _ h => h) (v := ?tv2) K0 ?ty2 ?tr2
          case ty2 => (intro w hSw; (try dsimp only at hSw); go_simp; first | done | with_reducible rfl)
          simp only [Act.put, List.setIfInBounds_toArray, List.set_cons_zero, List.set_cons_succ]
          refine GoX.take 3 rfl (by kernel_rfl) (by kernel_rfl) (by rfl) (fun _ _ _ h => h) (v := ?tv3) K0 ?ty3 ?tr3
          case ty3 => (intro w hSw; (try dsimp only at hSw); go_simp; first | done | with_reducible rfl)
          simp only [Act.put, List.setIfInBounds_toArray, List.set_cons_zero, List.set_cons_succ]
          refine GoX.take 4 rfl (by kernel_rfl) (by kernel_rfl) (by rfl) (fun _ _ _ h => h) (v := ?tv4) K0 ?ty4 ?tr4
          case ty4 => (intro w hSw; (try dsimp only at hSw); go_simp; first | done | with_reducible rfl)
          simp only [Act.put, List.setIfInBounds_toArray, List.set_cons_zero, List.set_cons_succ]
          refine GoX.take 5 rfl (by kernel_rfl) (by kernel_rfl) (by rfl) (fun _ _ _ h => h) (v := ?tv5) K0 ?ty5 ?tr5
          case ty5 => (intro w hSw; (try dsimp only at hSw); go_simp; first | done | with_reducible rfl)
          simp only [Act.put, List.setIfInBounds_toArray, List.set_cons_zero, List.set_cons_succ]
          refine GoX.take 6 rfl (by kernel_rfl) (by kernel_rfl) (by rfl) (fun _ _ _ h => h) (v := ?tv6) K0 ?ty6 ?tr6
          case ty6 => (intro w hSw; (try dsimp only at hSw); go_simp; first | done | with_reducible rfl)
          simp only [Act.put, List.setIfInBounds_toArray, List.set_cons_zero, List.set_cons_succ]
          refine GoX.take 7 rfl (by kernel_rfl) (by kernel_rfl) (by rfl) (fun _ _ _ h => h) (v := ?tv7) K0 ?ty7 ?tr7
          case ty7 => (intro w hSw; (try dsimp only at hSw); go_simp; first | done | with_reducible rfl)
          simp only [Act.put, List.setIfInBounds_toArray, List.set_cons_zero, List.set_cons_succ]
          refine GoX.take 8 rfl (by kernel_rfl) (by kernel_rfl) (by rfl) (fun _ _ _ h => h) (v := ?tv8) K0 ?ty8 ?tr8
          case ty8 => (intro w hSw; (try dsimp only at hSw); go_simp; first | done | with_reducible rfl)
          simp only [Act.put, List.setIfInBounds_toArray, List.set_cons_zero, List.set_cons_succ]
          refine GoX.take 9 rfl (by kernel_rfl) (by kernel_rfl) (by rfl) (fun _ _ _ h => h) (v := ?tv9) K0 ?ty9 ?tr9
          case ty9 => (intro w hSw; (try dsimp only at hSw); go_simp; first | done | with_reducible rfl)
          simp only [Act.put, List.setIfInBounds_toArray, List.set_cons_zero, List.set_cons_succ]
          refine GoX.take 10 rfl (by kernel_rfl) (by kernel_rfl) (by rfl) (fun _ _ _ h => h) (v := ?tv10) K0 ?ty10 ?tr10
          case ty10 => (intro w hSw; (try dsimp only at hSw); go_simp; first | done | with_reducible rfl)
          simp only [Act.put, List.setIfInBounds_toArray, List.set_cons_zero, List.set_cons_succ]
          refine GoX.take 11 rfl (by kernel_rfl) (by kernel_rfl) (by rfl) (fun _ _ _ h => h) (v := ?tv11) K0 ?ty11 ?tr11
          case ty11 => (intro w hSw; (try dsimp only at hSw); go_simp; first | done | with_reducible rfl)
          simp only [Act.put, List.setIfInBounds_toArray, List.set_cons_zero, List.set_cons_succ]
          refine GoX.take 12 rfl (by kernel_rfl) (by kernel_rfl) (by rfl) (fun _ _ _ h => h) (v := ?tv12) K0 ?ty12 ?tr12
          case ty12 => (intro w hSw; (try dsimp only at hSw); go_simp; first | done | with_reducible rfl)
          simp only [Act.put, List.setIfInBounds_toArray, List.set_cons_zero, List.set_cons_succ]
          have hbA := below_alloc W (.cells #[.int .i64 zz, .int .i64 ee, .slice a3 ll c3] ST3)
          have K8 : (W.alloc (.cells #[.int .i64 zz, .int .i64 ee, .slice a3 ll c3] ST3)).cell? ⟨wr.heap.size, 0, none⟩ = some (.int .i64 zz) ∧ (W.alloc (.cells #[.int .i64 zz, .int .i64 ee, .slice a3 ll c3] ST3)).cell? ⟨wr.heap.size, 1, none⟩ = some (.int .i64 ee) ∧ (W.alloc (.cells #[.int .i64 zz, .int .i64 ee, .slice a3 ll c3] ST3)).cell? ⟨wr.heap.size, 2, none⟩ = some (.slice a3 ll c3) ∧ (W.alloc (.cells #[.int .i64 zz, .int .i64 ee, .slice a3 ll c3] ST3)).cell? ⟨w2.heap.size, mm, none⟩ = some (.slice xa xn xc) ∧ (W.alloc (.cells #[.int .i64 zz, .int .i64 ee, .slice a3 ll c3] ST3)).cell? ⟨w.heap.size, 0, none⟩ = some (.int .i64 (N : Int)) := ⟨cell_below K0.1 hbA, cell_below K0.2.1 hbA, cell_below K0.2.2.1 hbA, cell_below K0.2.2.2.1 hbA, cell_below K0.2.2.2.2 hbA⟩
          refine GoX.one 13 rfl (by kernel_rfl) (by decide) (fun K hK => ?_)
          go_simp
          refine hK.out _ _ K8 (fun _ => ?_)
          clear hK K
          have HYA := Lib.hid (HYW.out.below hbA)
          have hyA := own_below' hR3W.out hbA
          have hBA := HBRW.out.alloc HBRW.out.size (.cells #[.int .i64 zz, .int .i64 ee, .slice a3 ll c3] ST3)
          have hbase := hBA.size
          have hWA : W.heap.size ≤ (W.alloc (.cells #[.int .i64 zz, .int .i64 ee, .slice a3 ll c3] ST3)).heap.size := hbA.size
          obtain ⟨h1, xs, h2, h3, h4⟩ := HYA.out.2.2.2.1 mm _ _ HXH.out HQM.out
          simp only at h1 h2 h3
          have HBXA := Lib.hid ((hbA.block wr.heap.size hssW).trans HBX.out)
          refine GoX.one 14 rfl (by kernel_rfl) (by decide) (fun K hK => ?_)
          refine step_append_lies _ rfl (.tmp 84) (.tmp 86) 37 rfl w2.heap.size ST3 i0 (.agg #[.int .i64 0, .int .i64 0, .slice none 0 0]) 3 40 Tryd.underlying37 hpi hz0 hz1 hz2 rfl (by decide) (.slice xa xn xc) xn (scells xs) (by rfl) h3 ⟨W.heap.size, 0, none⟩ 1 1 [.int .i64 zz, .int .i64 ee, SV (a3, ll, c3)] (by rfl) (by rfl) (World.news_of_block (heap_alloc_new W _)) (by intro u hu; simp at hu; rcases hu with rfl | rfl | rfl <;> rfl) (by decide) (by simp [maxLen]; omega) (by omega) hbase _ rfl ?_
          intro g9 c9 w9 hE9 g9' lie9 _
          have gg : (W.alloc (.cells #[.int .i64 zz, .int .i64 ee, .slice a3 ll c3] ST3)).grownBy w9 (Value.slice xa xn xc).ownBlock := ⟨g9'.os, g9'.tape, g9'.output, g9'.size, g9'.block⟩
          have hb9 := below_grown hBA gg (ownBlock_ge h3)
          have hbk9 := (gg.block wr.heap.size (Nat.lt_of_lt_of_le hssW hWA) (fun e => by have := HRL.out _ e.symm; omega)).trans HBXA.out
          have k9 := HYA.out.2.1.kept gg (own_ne HYA.out.2.1 h3 (by decide))
          have c9b := k9.cellAt mm (by omega)
          rw [List.getElem?_map, HXH.out] at c9b
          have f9b := k9.frozenAt mm
          have K9 : w9.cell? ⟨wr.heap.size, 0, none⟩ = some (.int .i64 zz) ∧ w9.cell? ⟨wr.heap.size, 1, none⟩ = some (.int .i64 ee) ∧ w9.cell? ⟨wr.heap.size, 2, none⟩ = some (.slice a3 ll c3) ∧ w9.cell? ⟨w2.heap.size, mm, none⟩ = some (.slice xa xn xc) ∧ w9.cell? ⟨w.heap.size, 0, none⟩ = some (.int .i64 (N : Int)) := ⟨by rw [cell_of_row _ _ 0 _ _ _ hbk9]; rfl, by rw [cell_of_row _ _ 1 _ _ _ hbk9]; rfl, by rw [cell_of_row _ _ 2 _ _ _ hbk9]; rfl, c9b, (HCF.out w9 (HB2.out.trans (hb9.mono hs2))).1⟩
          have hp := OwnY.push (x := (xa, xn, xc)) (y := (a3, ll, c3)) (z := zz) (e := ee) (l := l) HYA.out HXH.out HQM.out h2 h1 h3 h4 (by have h := hyA; rw [← HLL.out] at h ⊢; exact h) HLL.out HR4.out hE9 gg lie9
          rw [HQX.out] at hp
          have hbF := hb9.setCell (p := ⟨w2.heap.size, mm, none⟩) (Nat.le_refl _) (.slice (some ⟨g9, 0, none⟩) (xn + 1) c9)
          have HP9 := Lib.hid hp
          have HB9 := Lib.hid hbF
          have HL9 : Hid (∀ (j : Nat) (y : HdT), (hs.set mm (some ⟨g9, 0, none⟩, xn + 1, c9))[j]? = some y → y.2.1 ≤ i * 300 + (x + 1) ∧ ∀ b, (SV y).ownBlock = some b → b < wo.heap.size ∨ w7.heap.size ≤ b) := Lib.hid (fun j y hy => by
            rw [List.getElem?_set] at hy
            by_cases ej : mm = j
            · rw [if_pos ej] at hy
              split at hy
              · injection hy with hy
                subst hy
                refine ⟨by simp only; omega, fun b hb => ?_⟩
                have hb' : g9 = b := by simpa [SV, Value.ownBlock] using hb
                subst hb'
                rcases lie9 with h | h
                · exact (HLO.out mm _ HXH.out).2 _ h
                · exact .inr (Nat.le_trans hss (Nat.le_trans (Nat.le_of_lt hssW) (Nat.le_trans hWA (Nat.le_of_eq h.symm))))
              · cases hy
            · rw [if_neg ej] at hy
              obtain ⟨u1, u2⟩ := HLO.out j y hy
              exact ⟨by omega, u2⟩)
          have HK9 : Hid (∀ b, wo.heap.size ≤ b → b < w7.heap.size → (w9.setCell ⟨w2.heap.size, mm, none⟩ (.slice (some ⟨g9, 0, none⟩) (xn + 1) c9)).heap[b]? = w7.heap[b]?) := Lib.hid (fun b q1 q2 => by
            rw [heap_setCell_other _ ⟨w2.heap.size, mm, none⟩ b _ (show b ≠ w2.heap.size by omega)]
            rw [gg.block b (by omega) (fun e => by
              rcases (HLO.out mm _ HXH.out).2 b e.symm with h | h <;> omega)]
            exact (hbA.block b (by omega)).trans (HKW.out b q1 q2))
          have hs9 : w7.heap.size ≤ (w9.setCell ⟨w2.heap.size, mm, none⟩ (.slice (some ⟨g9, 0, none⟩) (xn + 1) c9)).heap.size := by
            have := gg.size
            simp [World.setCell]
            omega
          refine hK.out _ _ K9 (fun _ => ?_)
          clear hK K gg hb9 hbk9 k9 hp hbF hE9 g9' lie9 K0 K8 h1 h2 h3 h4 hyA hBA HYA HYW HBXA HLO HKW HBRW hR3W
          simp only [Act.put, List.setIfInBounds_toArray, List.set_cons_zero, List.set_cons_succ]
          refine GoX.take 15 rfl (by kernel_rfl) (by kernel_rfl) (by rfl) (fun _ _ _ h => h) (v := ?tv15) K9 ?ty15 ?tr15
          case ty15 => (intro w hSw; (try dsimp only at hSw); go_simp; first | done | with_reducible rfl)
          simp only [Act.put, List.setIfInBounds_toArray, List.set_cons_zero, List.set_cons_succ]
          refine GoX.last 16 rfl (by kernel_rfl) (by kernel_rfl) (by decide) ?_
          go_wp2
          go_roundw
          case rel => exact ⟨x + 1, hs.set mm (some ⟨g9, 0, none⟩, xn + 1, c9), by omega, by go_num, HP9, HL9, HK9, HB9, hs9⟩
          case measure => simp [intOf] <;> omega
        · obtain rfl : x = M := by omega
          have HYE : Hid (OwnY wr w2.heap.size w2.heap.size N N hs (dealQ v T N SH (i + 1) 0)) := Lib.hid (by rw [← HQEI.out]; exact HY.out)
          have HLE : Hid (∀ (j : Nat) (y : HdT), hs[j]? = some y → y.2.1 ≤ (i + 1) * 300) := Lib.hid (fun j y hj => by have := (HLO.out j y hj).1; omega)
          clear HY HLO HK
          go_wp2
          go_roundw
          case rel => exact ⟨i + 1, hs, by omega, by go_num, HYE, HLE, HBR⟩
          case measure => simp [intOf]; omega
    · obtain rfl : i = z := by omega
      clear HLB
      go_wp2
      go_ret2
      exact ⟨_, hs, rfl, (by obtain ⟨u1, u2, u3, u4, u5⟩ := HO.out; exact ⟨u1, ownsRow_base u2 (by omega), u3, fun a b c d e => (u4 a b c d e).rebase (by omega), u5⟩), HBW.out.trans ((HB2.out.trans (HB.out.mono hs2)).mono hs1)⟩
end Go.Proofs.YtfjcbgfgiidogaaDoor
