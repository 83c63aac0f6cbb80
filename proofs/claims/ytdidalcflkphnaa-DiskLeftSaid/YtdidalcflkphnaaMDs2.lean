/-
  Ds2: DiH DiI DiJ DiK DiL DiM
-/
import Derived.Deep.RegionHeld3
import Derived.Test.YtdidalcflkphnaaMBase
import Derived.Test.YtdidalcflkphnaaMDs1
namespace Go.Proofs.Ytdidalcflkphnaa
open Go.RowKit

theorem kcells_at : ∀ (hs : List SlH) (k : Nat) (x : SlH), hs[k]? = some x → (kcells hs)[k * 3]? = some (SV x.1) ∧ (kcells hs)[k * 3 + 1]? = some (SV x.2.1) ∧ (kcells hs)[k * 3 + 2]? = some (.bool x.2.2)
  | [], k, x, h => by simp at h
  | y :: ys, 0, x, h => by
    simp only [List.getElem?_cons_zero, Option.some.injEq] at h
    subst h
    exact ⟨rfl, rfl, rfl⟩
  | y :: ys, k + 1, x, h => by
    have := kcells_at ys k x (by simpa using h)
    rw [show (k + 1) * 3 = k * 3 + 3 by omega]
    exact this
theorem SlM.at {w : World} {F : Nat → Prop} {sh : HdT} {hs : List SlH} {sl : List Slot} (h : SlM w F sh hs sl) {k : Nat} (hk : k < sl.length) :
    ∃ b c x, sh = (some ⟨b, 0, none⟩, sl.length, c) ∧ sl.length ≤ c ∧ hs[k]? = some x ∧ w.cell? ⟨b, 0 + k * 3, none⟩ = some (SV x.1) ∧ w.cell? ⟨b, 0 + k * 3 + 1, none⟩ = some (SV x.2.1) ∧ w.cell? ⟨b, 0 + k * 3 + 2, none⟩ = some (.bool x.2.2) ∧ ∀ j, w.frozen? ⟨b, j, none⟩ = false := by
  obtain ⟨s1, s2, s3⟩ := sh
  obtain ⟨x, hx⟩ : ∃ x, hs[k]? = some x := ⟨_, List.getElem?_eq_getElem (by rw [h.hl]; exact hk)⟩
  rcases h.own.2 with ⟨-, e⟩ | ⟨b, cap, cur, e, -, hh, hnc, hcm, hcs, ht⟩
  · omega
  · injection e with e1 e2 e3
    subst e1 e2 e3
    obtain ⟨q1, q2, q3⟩ := kcells_at hs k _ hx
    have hat : ∀ j v, j < sl.length * 3 → (kcells hs)[j]? = some v → cur[j]? = some v := fun j v hj hv => by
      rw [← ht, List.getElem?_take_of_lt hj] at hv
      simpa using hv
    refine ⟨b, _, _, rfl, hnc, hx, ?_, ?_, ?_, fun j => frozen_of_row _ _ _ _ _ hh⟩
    · exact (cell_of_row _ _ _ _ _ _ hh).trans (by rw [Nat.zero_add]; exact hat _ _ (by omega) q1)
    · exact (cell_of_row _ _ _ _ _ _ hh).trans (by rw [Nat.zero_add]; exact hat _ _ (by omega) q2)
    · exact (cell_of_row _ _ _ _ _ _ hh).trans (by rw [Nat.zero_add]; exact hat _ _ (by omega) q3)
set_option maxRecDepth 100000 in
set_option maxHeartbeats 4000000 in
theorem has_any (g : Nat) (i : Int) (a : Option Addr) (n c : Nat) (w : World) (k5 : w.cell? ⟨g, 5, none⟩ = some (.slice a n c)) :
    Calls Try.prog 46 #[.pointer (some ⟨g, 0, none⟩), .int .i64 i] w fun e w' => e = .returned (.bool (decide (0 ≤ i ∧ i < (n : Int)))) ∧ w' = w := by
  by_cases h0 : 0 ≤ i
  · by_cases h1 : i < (n : Int)
    · rw [decide_eq_true ⟨h0, h1⟩]
      go_enter Try.func46, Try.ntmps46
      go_wp2
      go_ret
      exact ⟨rfl, rfl⟩
    · rw [decide_eq_false (fun e => h1 e.2)]
      go_enter Try.func46, Try.ntmps46
      go_wp2
      go_ret
      exact ⟨rfl, rfl⟩
  · rw [decide_eq_false (fun e => h0 e.1)]
    go_enter Try.func46, Try.ntmps46
    go_wp2
    go_ret
    exact ⟨rfl, rfl⟩
set_option maxRecDepth 100000 in
set_option maxHeartbeats 4000000 in
theorem slots_any (F : Nat → Prop) (g : Nat) (d : DV) (w : World) (hD : DiskM w F g d) :
    Calls Try.prog 30 #[.pointer (some ⟨g, 0, none⟩)] w fun e w' => e = .returned (.int .i64 (d.sl.length : Nat)) ∧ w' = w := by
  obtain ⟨FL, FS, sa, rd, sh, hs, h1, h2, h3, h4, h5, h6, h7, h8, h9⟩ := hD
  obtain ⟨-, -, -, -, -, c5, cF⟩ := cells6D h1
  have hl := h3.len
  obtain ⟨s1, s2, s3⟩ := sh
  simp only at hl
  rw [← hl]
  clear h1 h2 h3 h4 h5 h6 h7 h8 h9 hl
  replace c5 : w.cell? ⟨g, 5, none⟩ = some (.slice s1 s2 s3) := c5
  go_enter Try.func30, Try.ntmps30
  go_wp2
  go_ret
  exact ⟨rfl, rfl⟩
def readV (d : DV) (i : Int) : List Nat × Int := if 0 ≤ i ∧ i < (d.sl.length : Int) then ((d.sl.getD i.toNat ([], [], false)).2.1, 0) else ([], 80)
set_option maxRecDepth 100000 in
set_option maxHeartbeats 4000000 in
theorem read_any (F : Nat → Prop) (g : Nat) (d : DV) (i : Int) (w : World) (hD : DiskM w F g d) :
    Calls Try.prog 28 #[.pointer (some ⟨g, 0, none⟩), .int .i64 i] w fun e w' => ∃ ad cap, e = .returned (.tuple #[.slice ad (readV d i).1.length cap, .int .i64 (readV d i).2]) ∧ w'.ownsRow w.heap.size 5 1 (.slice ad (readV d i).1.length cap) (readV d i).1.length ((readV d i).1.map bv) ∧ Below w.heap.size w w' := by
  obtain ⟨FL, FS, sa, rd, sh, hs, h1, h2, h3, h4, h5, h6, h7, h8, h9⟩ := hD
  obtain ⟨-, -, -, -, -, c5, cF⟩ := cells6D h1
  have f5 := cF 5
  unfold readV
  by_cases hi : 0 ≤ i ∧ i < (d.sl.length : Int)
  · rw [if_pos hi]
    obtain ⟨h0, hlt⟩ := hi
    obtain ⟨k, rfl⟩ : ∃ k : Nat, i = k := ⟨i.toNat, by omega⟩
    have hk : k < d.sl.length := by omega
    obtain ⟨b, c, x, rfl, hc, hx, x0, x1, x2, xF⟩ := h3.at hk
    obtain ⟨o, ho⟩ : ∃ o, o = 0 := ⟨0, rfl⟩
    rw [← ho] at x1
    have fx := xF (o + k * 3 + 1)
    have hsl : d.sl[k]? = some (d.sl.getD k ([], [], false)) := by rw [List.getD_eq_getElem?_getD, List.getElem?_eq_getElem hk]; rfl
    rw [Int.toNat_natCast]
    obtain ⟨y, hy⟩ : ∃ y, y = d.sl.getD k ([], [], false) := ⟨_, rfl⟩
    rw [← hy] at hsl ⊢
    obtain ⟨-, -, hby⟩ := h3.each k x y hx hsl
    have hb : BytesV w (x.2.1.1, x.2.1.2.1, x.2.1.2.2) y.2.1 := by
      have q := hby.bytesV
      rw [← hby.len] at q
      exact q
    have KH := has_any g k (some ⟨b, o, none⟩) d.sl.length c w (by rw [ho]; exact c5)
    rw [decide_eq_true ⟨h0, hlt⟩] at KH
    replace c5 : w.cell? ⟨g, 5, none⟩ = some (.slice (some ⟨b, o, none⟩) d.sl.length c) := by rw [ho]; exact c5
    obtain ⟨xs, ⟨r1, r2, r3⟩, xb⟩ := x
    replace x1 : w.cell? ⟨b, o + k * 3 + 1, none⟩ = some (.slice r1 r2 r3) := x1
    have KC := clone_any r1 r2 r3 y.2.1 w hb
    obtain ⟨N, hN⟩ : ∃ N, N = d.sl.length := ⟨_, rfl⟩
    rw [← hN] at c5 hk hlt hc
    dsimp only
    clear h1 h2 h3 h4 h5 h6 h7 h8 h9 x0 x2 xF hx hsl hby hb ho hN hy cF
    go_enter Try.func28, Try.ntmps28
    go_wp2_with fail
    (with_reducible refine KH.mono ?_)
    rintro e w1 ⟨rfl, hw⟩
    subst hw
    go_wp2_with fail
    (with_reducible refine KC.mono ?_)
    rintro e w2 ⟨ad, cap, rfl, o2, b2⟩
    have HO := Lib.hid o2
    have HB := Lib.hid b2
    clear KC KH o2 b2
    go_wp2
    refine bodyPost_ret (results_tmp2 rfl _ _ _) rfl ?_
    exact ⟨ad, cap, rfl, HO.out, HB.out⟩
  · rw [if_neg hi]
    have hl := h3.len
    obtain ⟨s1, s2, s3⟩ := sh
    have KH := has_any g i s1 s2 s3 w c5
    simp only at hl
    rw [hl, decide_eq_false hi] at KH
    clear h1 h2 h3 h4 h5 h6 h7 h8 h9 c5 f5 cF
    go_enter Try.func28, Try.ntmps28
    go_wp2_with fail
    (with_reducible refine KH.mono ?_)
    rintro e w1 ⟨rfl, hw⟩
    subst hw
    clear KH
    go_wp2
    refine bodyPost_ret (results_tmp2 rfl _ _ _) rfl ?_
    exact ⟨none, 0, rfl, ⟨rfl, .inl ⟨rfl, rfl⟩⟩, .refl _ _⟩
end Go.Proofs.Ytdidalcflkphnaa
namespace Go.Proofs.Ytdidalcflkphnaa
open Go.RowKit

theorem own_setS {w : World} {B : Nat} {T : TypeId} {s g n cap : Nat} {xs : List Value} (h : w.ownsRow B T s (.slice (some ⟨g, 0, none⟩) n cap) n xs) (i : Nat) (v : Value) :
    (w.setCell ⟨g, i, none⟩ v).ownsRow B T s (.slice (some ⟨g, 0, none⟩) n cap) n (xs.set i v) := by
  refine ⟨by simpa using h.1, .inr ?_⟩
  rcases h.2 with ⟨e, _⟩ | ⟨g', cap', cur, e, hB, hh, h1, h2, h3, h4⟩
  · cases e
  · cases e
    refine ⟨g, cap, _, rfl, hB, heap_setCell_same _ _ i _ _ _ hh, h1, h2, by simpa using h3, ?_⟩
    rw [← h4]
    simp [List.take_set]
theorem kcells_set : ∀ (hs : List SlH) (k : Nat) (x y : SlH), hs[k]? = some x → kcells (hs.set k y) = (((kcells hs).set (k * 3) (SV y.1)).set (k * 3 + 1) (SV y.2.1)).set (k * 3 + 2) (.bool y.2.2)
  | [], k, x, y, h => by simp at h
  | z :: zs, 0, x, y, h => rfl
  | z :: zs, k + 1, x, y, h => by
    have := kcells_set zs k x y (by simpa using h)
    rw [show (k + 1) * 3 = k * 3 + 3 by omega]
    show SV z.1 :: SV z.2.1 :: .bool z.2.2 :: kcells (zs.set k y) = _
    rw [this]
    rfl
theorem set_sameD {α : Type} : ∀ (l : List α) (i : Nat) (a : α), l[i]? = some a → l.set i a = l
  | [], i, a, h => by simp at h
  | b :: l, 0, a, h => by simp only [List.getElem?_cons_zero, Option.some.injEq] at h; subst h; rfl
  | b :: l, i + 1, a, h => by rw [List.set_cons_succ, set_sameD l i a (by simpa using h)]
theorem kcells_read (hs : List SlH) (k : Nat) (x : SlH) (y : HdT) (t : Bool) (h : hs[k]? = some x) : kcells (hs.set k (x.1, y, t)) = ((kcells hs).set (k * 3 + 1) (SV y)).set (k * 3 + 2) (.bool t) := by
  rw [kcells_set hs k x _ h]
  congr 2
  obtain ⟨q, -⟩ := kcells_at hs k x h
  exact set_sameD _ _ _ q
theorem kcells_safe (hs : List SlH) (k : Nat) (x : SlH) (y : HdT) (t : Bool) (h : hs[k]? = some x) : kcells (hs.set k (y, x.2.1, t)) = ((kcells hs).set (k * 3) (SV y)).set (k * 3 + 2) (.bool t) := by
  rw [kcells_set hs k x _ h]
  congr 1
  obtain ⟨-, q, -⟩ := kcells_at hs k x h
  exact set_sameD _ _ _ (by rw [List.getElem?_set_ne (by omega)]; exact q)
theorem apart_put {hs hs' : List SlH} {kk m : Nat} {nh : HdT} (h : ∀ k l u v, hdr hs k = some u → hdr hs l = some v → k ≠ l → (SV u).ownBlock = none ∨ (SV u).ownBlock ≠ (SV v).ownBlock)
    (hlt : ∀ j u b, hdr hs j = some u → (SV u).ownBlock = some b → b < m) (hk : hdr hs' kk = some nh) (ho : ∀ j, j ≠ kk → hdr hs' j = hdr hs j) (hn : ∀ b, (SV nh).ownBlock = some b → m ≤ b) :
    ∀ k l u v, hdr hs' k = some u → hdr hs' l = some v → k ≠ l → (SV u).ownBlock = none ∨ (SV u).ownBlock ≠ (SV v).ownBlock := by
  intro a b u v ha hb hab
  by_cases e1 : a = kk
  · subst e1
    rw [hk] at ha
    injection ha with ha
    subst ha
    rw [ho b (fun e => hab e.symm)] at hb
    cases e : (SV nh).ownBlock with
    | none => exact .inl rfl
    | some q =>
      refine .inr fun e2 => ?_
      have q1 := hn q e
      have q2 := hlt b v q hb e2.symm
      omega
  · rw [ho a e1] at ha
    by_cases e3 : b = kk
    · subst e3
      rw [hk] at hb
      injection hb with hb
      subst hb
      cases e : (SV u).ownBlock with
      | none => exact .inl rfl
      | some q =>
        refine .inr fun e2 => ?_
        have q1 := hn q e2.symm
        have q2 := hlt a u q ha e
        omega
    · rw [ho b e3] at hb
      exact h a b u v ha hb hab
theorem hdr_read (hs : List SlH) (k : Nat) (x : SlH) (y : HdT) (t : Bool) (h : hs[k]? = some x) : hdr (hs.set k (x.1, y, t)) (2 * k + 1) = some y ∧ ∀ j, j ≠ 2 * k + 1 → hdr (hs.set k (x.1, y, t)) j = hdr hs j := by
  have hk : k < hs.length := (List.getElem?_eq_some_iff.1 h).1
  refine ⟨?_, fun j hj => ?_⟩
  · unfold hdr
    rw [show (2 * k + 1) / 2 = k by omega, List.getElem?_set_self hk]
    simp [show (2 * k + 1) % 2 = 1 by omega]
  · unfold hdr
    by_cases e : j / 2 = k
    · rw [e, List.getElem?_set_self hk, h]
      simp [show j % 2 = 0 by omega]
    · rw [List.getElem?_set_ne (fun q => e q.symm)]
theorem hdr_safe (hs : List SlH) (k : Nat) (x : SlH) (y : HdT) (t : Bool) (h : hs[k]? = some x) : hdr (hs.set k (y, x.2.1, t)) (2 * k) = some y ∧ ∀ j, j ≠ 2 * k → hdr (hs.set k (y, x.2.1, t)) j = hdr hs j := by
  have hk : k < hs.length := (List.getElem?_eq_some_iff.1 h).1
  refine ⟨?_, fun j hj => ?_⟩
  · unfold hdr
    rw [show (2 * k) / 2 = k by omega, List.getElem?_set_self hk]
    simp [show (2 * k) % 2 = 0 by omega]
  · unfold hdr
    by_cases e : j / 2 = k
    · rw [e, List.getElem?_set_self hk, h]
      simp [show j % 2 = 1 by omega]
    · rw [List.getElem?_set_ne (fun q => e q.symm)]
theorem SlM.hdr_lt {w : World} {F : Nat → Prop} {sh : HdT} {hs : List SlH} {sl : List Slot} (h : SlM w F sh hs sl) : ∀ j u b, hdr hs j = some u → (SV u).ownBlock = some b → b < w.heap.size ∧ F b := by
  intro j u b hj hb
  unfold hdr at hj
  cases e : hs[j / 2]? with
  | none => rw [e] at hj; cases hj
  | some x =>
    rw [e] at hj
    have hlt : j / 2 < sl.length := by rw [← h.hl]; exact (List.getElem?_eq_some_iff.1 e).1
    obtain ⟨-, q1, q2⟩ := h.each (j / 2) x _ e (List.getElem?_eq_getElem hlt)
    simp only [Option.map_some, Option.some.injEq] at hj
    by_cases p : j % 2 = 0
    · rw [if_pos p] at hj; subst hj; exact ⟨(q1.own.lt b hb).2, q1.inF b hb⟩
    · rw [if_neg p] at hj; subst hj; exact ⟨(q2.own.lt b hb).2, q2.inF b hb⟩
end Go.Proofs.Ytdidalcflkphnaa
namespace Go.Proofs.Ytdidalcflkphnaa
open Go.RowKit

theorem ByF.ne {w : World} {F : Nat → Prop} {y : HdT} {l : List Nat} (h : ByF w F y l) {b : Nat} {cur : Array Value} (hb : w.heap[b]? = some (.cells cur KT (0, 0))) : ∀ q, (SV y).ownBlock = some q → q ≠ b := by
  rintro q hq rfl
  rcases h.own.2 with ⟨e, -⟩ | ⟨g, cap, cur', e, -, hh, -⟩
  · rw [e] at hq; cases hq
  · rw [e] at hq
    have : g = q := by simpa [Value.ownBlock] using hq
    subst this
    rw [hb] at hh
    injection hh with hh
    injection hh with _ h2
    exact absurd h2 (by decide)
theorem SlM.block {w : World} {F : Nat → Prop} {b n c : Nat} {hs : List SlH} {sl : List Slot} (h : SlM w F (some ⟨b, 0, none⟩, n, c) hs sl) : ∃ cur, w.heap[b]? = some (.cells cur KT (0, 0)) := by
  rcases h.own.2 with ⟨e, -⟩ | ⟨g, cap, cur', e, -, hh, -⟩
  · cases e
  · injection e with e1
    injection e1 with e1
    injection e1 with e1
    subst e1
    exact ⟨_, hh⟩
theorem SlM.write {w1 w2 : World} {F : Nat → Prop} {b c k : Nat} {hs : List SlH} {sl : List Slot} (h : SlM w1 F (some ⟨b, 0, none⟩, sl.length, c) hs sl) {x : SlH} (hx : hs[k]? = some x) {s : Slot} (hs' : sl[k]? = some s)
    {a : Option Addr} {cap : Nat} {l : List Nat} (o : w2.ownsRow w1.heap.size 5 1 (.slice a l.length cap) l.length (l.map bv)) (bl : Below w1.heap.size w1 w2) (hl : Bytes l) (hsm : l.length ≤ 1000000000) :
    SlM ((w2.setCell ⟨b, k * 3 + 1, none⟩ (.slice a l.length cap)).setCell ⟨b, k * 3 + 2, none⟩ (.bool true)) (Gr F w1 w2) (some ⟨b, 0, none⟩, sl.length, c) (hs.set k (x.1, (a, l.length, cap), true)) (sl.set k (s.1, l, true)) := by
  have hc0 : ChF (fun _ => False) w1 w2 := .of_below bl
  obtain ⟨cur, hb1⟩ := h.block
  have hbF : F b := h.inF b rfl
  have hb2 : w2.heap[b]? = some (.cells cur KT (0, 0)) := (hc0.block b (Array.getElem?_eq_some_iff.1 hb1).1 (fun e => e)).trans hb1
  have hset : ChF (fun q => q = b) w2 ((w2.setCell ⟨b, k * 3 + 1, none⟩ (.slice a l.length cap)).setCell ⟨b, k * 3 + 2, none⟩ (.bool true)) := (((ChF.refl (fun q => q = b) w2).set (g := b) (.inl (show b = b from rfl))).set (g := b) (.inl (show b = b from rfl)))
  have hnew : ByF w2 (Gr F w1 w2) (a, l.length, cap) l := ⟨own_zero o, rfl, hl, hsm, fun q hq => .inr (o.lt q hq)⟩
  have hk2 := h.keep hc0 (fun _ _ e => e)
  have hkeep : ∀ y t, ByF w2 F y t → ByF ((w2.setCell ⟨b, k * 3 + 1, none⟩ (.slice a l.length cap)).setCell ⟨b, k * 3 + 2, none⟩ (.bool true)) (Gr F w1 w2) y t := fun y t hy => (hy.keep hset (fun q hq e => hy.ne hb2 q hq e)).mono (fun q hq => .inl hq)
  refine ⟨?_, by simp, by simpa using h.hl, fun q hq => .inl (h.inF q hq), fun i u t hu ht => ?_, ?_⟩
  · rw [kcells_read hs k x _ _ hx, List.length_set]
    exact own_setS (own_setS hk2.own _ _) _ _
  · by_cases e : i = k
    · subst e
      rw [List.getElem?_set_self (List.getElem?_eq_some_iff.1 hx).1] at hu
      rw [List.getElem?_set_self (List.getElem?_eq_some_iff.1 hs').1] at ht
      injection hu with hu
      injection ht with ht
      subst hu ht
      obtain ⟨-, q1, -⟩ := hk2.each i x s hx hs'
      exact ⟨rfl, hkeep _ _ q1, hnew.keep hset (fun q hq e => hnew.ne hb2 q hq e)⟩
    · rw [List.getElem?_set_ne (fun q => e q.symm)] at hu ht
      obtain ⟨q0, q1, q2⟩ := hk2.each i u t hu ht
      exact ⟨q0, hkeep _ _ q1, hkeep _ _ q2⟩
  · obtain ⟨p1, p2⟩ := hdr_read hs k x (a, l.length, cap) true hx
    exact apart_put (m := w1.heap.size) h.apart (fun j u q h1 h2 => (h.hdr_lt j u q h1 h2).1) p1 p2 (fun q hq => (o.lt q hq).1)
end Go.Proofs.Ytdidalcflkphnaa
namespace Go.Proofs.Ytdidalcflkphnaa
open Go.RowKit

theorem DiskM.gr {w : World} {F : Nat → Prop} {g : Nat} {d : DV} (h : DiskM w F g d) : DiskM w (Gr F w w) g d := by
  obtain ⟨FL, FS, sa, rd, sh, hs, h1, h2, h3, h4, h5, h6, h7, h8, h9⟩ := h
  exact ⟨FL, FS, sa, rd, sh, hs, h1, h2, h3, fun b hb => ⟨.inl (h4 b hb).1, (h4 b hb).2⟩, fun b hb => ⟨.inl (h5 b hb).1, (h5 b hb).2⟩, .inl h6, fun b hb => by rcases hb with q | q; exact h7 b q; omega, h8, h9⟩
theorem cell_set_ne {w : World} {b g i j : Nat} {v u : Value} (hne : b ≠ g) (h : w.cell? ⟨g, j, none⟩ = some u) : (w.setCell ⟨b, i, none⟩ v).cell? ⟨g, j, none⟩ = some u :=
  (World.cell?_of_block (w := w) (w' := w.setCell ⟨b, i, none⟩ v) (a := ⟨g, j, none⟩) (heap_setCell_other _ ⟨b, i, none⟩ g _ (fun e => by simp only at e; omega))).trans h
def writeV (d : DV) (i : Int) (l : List Nat) : DV × Int :=
  if 0 ≤ i ∧ i < (d.sl.length : Int) then
    if 64 < l.length then (d, 41) else if d.pow = 0 then (d, 81)
    else ({ d with pow := (spendV d.pow).1, sl := d.sl.set i.toNat ((d.sl.getD i.toNat ([], [], false)).1, l, true) }, 0)
  else (d, 80)
set_option maxRecDepth 100000 in
set_option maxHeartbeats 4000000 in
theorem write_any (F : Nat → Prop) (g : Nat) (d : DV) (i : Int) (ba : Option Addr) (bn bc : Nat) (l : List Nat) (w : World) (hD : DiskM w F g d) (hb : BytesV w (ba, bn, bc) l) (hbF : 0 < bn → ∀ b, (SV (ba, bn, bc)).ownBlock = some b → ¬ F b) :
    Calls Try.prog 23 #[.pointer (some ⟨g, 0, none⟩), .int .i64 i, .slice ba bn bc] w fun e w' => e = .returned (.int .i64 (writeV d i l).2) ∧ DiskM w' (Gr F w w') g (writeV d i l).1 ∧ ChF F w w' := by
  have HD := Lib.hid hD
  obtain ⟨FL, FS, sa, rd, sh, hs', h1, h2, h3, h4, h5, h6, h7, h8, h9⟩ := hD
  obtain ⟨c0, -, -, -, -, c5, cF⟩ := cells6D h1
  have KS := spend_any g d.pow w c0 (cF 0) h9
  have hl := h3.len
  have hbl : l.length = bn := hb.length
  have HB := Lib.hid hb
  have HBF := Lib.hid hbF
  obtain ⟨s1, s2, s3⟩ := sh
  have KH := has_any g i s1 s2 s3 w c5
  simp only at hl
  rw [hl] at KH
  clear h1 h2 h3 h4 h5 h6 h7 h8 h9 c0 c5 cF hb hbF hl
  unfold writeV
  by_cases hi : 0 ≤ i ∧ i < (d.sl.length : Int)
  · rw [if_pos hi]
    rw [decide_eq_true hi] at KH
    by_cases hlen : 64 < l.length
    · rw [if_pos hlen]
      have hln : (64 : Int) < (bn : Int) := by omega
      go_enter Try.func23, Try.ntmps23
      go_wp2_with fail
      (with_reducible refine KH.mono ?_)
      rintro e w1 ⟨rfl, hw⟩
      subst hw
      clear KH KS
      go_wp2
      go_ret
      exact ⟨rfl, HD.out.gr, .refl _ _⟩
    · rw [if_neg hlen]
      have hln : ¬ (64 : Int) < (bn : Int) := by omega
      by_cases h0 : d.pow = 0
      · rw [h0, spend_none] at KS
        rw [if_pos h0]
        go_enter Try.func23, Try.ntmps23
        go_wp2_with fail
        (with_reducible refine KH.mono ?_)
        rintro e w1 ⟨rfl, hw⟩
        subst hw
        clear KH
        go_wp2_with fail
        (with_reducible refine KS.mono ?_)
        rintro e w1 ⟨rfl, hw⟩
        rw [if_neg (by decide)] at hw
        subst hw
        clear KS
        go_wp2
        go_ret
        exact ⟨rfl, HD.out.gr, .refl _ _⟩
      · rw [spend_ok h0] at KS
        rw [if_neg h0]
        go_enter Try.func23, Try.ntmps23
        go_wp2_with fail
        (with_reducible refine KH.mono ?_)
        rintro e w0 ⟨rfl, hw⟩
        subst hw
        clear KH
        go_wp2_with fail
        (with_reducible refine KS.mono ?_)
        rintro e w1 ⟨rfl, hw⟩
        obtain ⟨hd1, hc1, hsz⟩ := spent HD.out h0 w1 hw
        clear KS hw
        obtain ⟨FL, FS, sa, rd, sh, hs, h1, h2, h3, h4, h5, h6, h7, h8, h9⟩ := hd1
        simp only at h1 h2 h3 h8 h9
        obtain ⟨-, -, -, -, -, c5, cF⟩ := cells6D h1
        obtain ⟨hi0, hi1⟩ := hi
        obtain ⟨k, rfl⟩ : ∃ k : Nat, i = k := ⟨i.toNat, by omega⟩
        have hk : k < d.sl.length := by omega
        obtain ⟨b, c, x, rfl, hc, hx, -, x1, x2, xF⟩ := h3.at hk
        obtain ⟨cur, hblk⟩ := h3.block
        have hgl := h7 g h6
        have hbl2 := (Array.getElem?_eq_some_iff.1 hblk).1
        obtain ⟨o, ho⟩ : ∃ o, o = 0 := ⟨0, rfl⟩
        have HX := Lib.hid hx
        have H1 := Lib.hid h1
        have H2 := Lib.hid h2
        have H3 := Lib.hid h3
        have H4 := Lib.hid h4
        have H5 := Lib.hid h5
        have H7 := Lib.hid h7
        have HC1 := Lib.hid hc1
        have HBV := Lib.hid (HB.out.ofChF hc1 HBF.out)
        obtain ⟨N, hN⟩ : ∃ N, N = d.sl.length := ⟨_, rfl⟩
        rw [← hN] at c5 hk hi1 hc
        rw [← ho] at c5 x1 x2
        have HN := Lib.hid hN
        have HO := Lib.hid ho
        replace c5 : w1.cell? ⟨g, 5, none⟩ = some (.slice (some ⟨b, o, none⟩) N c) := c5
        have HK := Lib.hid (show ∀ w2 : World, Below w1.heap.size w1 w2 → w2.cell? ⟨g, 5, none⟩ = some (.slice (some ⟨b, o, none⟩) N c) ∧ w2.cell? ⟨b, o + k * 3 + 1, none⟩ = some (SV x.2.1) ∧ w2.cell? ⟨b, o + k * 3 + 2, none⟩ = some (.bool x.2.2) ∧ (∀ j, w2.frozen? ⟨g, j, none⟩ = false) ∧ ∀ j, w2.frozen? ⟨b, j, none⟩ = false from fun w2 bl => by
          have e1 := bl.block g hgl
          have e2 := bl.block b hbl2
          exact ⟨(World.cell?_of_block (w := w1) (w' := w2) (a := ⟨g, 5, none⟩) e1).trans c5, (World.cell?_of_block (w := w1) (w' := w2) (a := ⟨b, o + k * 3 + 1, none⟩) e2).trans x1, (World.cell?_of_block (w := w1) (w' := w2) (a := ⟨b, o + k * 3 + 2, none⟩) e2).trans x2, fun j => (World.frozen?_of_block (w := w1) (w' := w2) (a := ⟨g, j, none⟩) e1).trans (cF j), fun j => (World.frozen?_of_block (w := w1) (w' := w2) (a := ⟨b, j, none⟩) e2).trans (xF j)⟩)
        have hne : b ≠ g := (h5 b (h3.inF b rfl)).2
        have HFIN := Lib.hid (show ∀ w2 w3 a2 cap2, w2.ownsRow w1.heap.size 5 1 (.slice a2 l.length cap2) l.length (l.map bv) → Below w1.heap.size w1 w2 → w3 = (w2.setCell ⟨b, o + k * 3 + 1, none⟩ (.slice a2 bn cap2)).setCell ⟨b, o + k * 3 + 2, none⟩ (.bool true) → DiskM w3 (Gr F w0 w3) g { d with pow := (spendV d.pow).1, sl := d.sl.set (k : Int).toNat ((d.sl.getD (k : Int).toNat ([], [], false)).1, l, true) } ∧ ChF F w0 w3 from fun w2 w3 a2 cap2 o2 bl e => by
          rw [← hbl, HO.out, Nat.zero_add] at e
          have hkl : k < d.sl.length := by rw [← HN.out]; exact hk
          have hsl : d.sl[k]? = some (d.sl.getD k ([], [], false)) := by rw [List.getD_eq_getElem?_getD, List.getElem?_eq_getElem hkl]; rfl
          have hS := H3.out.write HX.out hsl o2 bl HBV.out.bytes (by omega)
          have hz : w1.heap.size ≤ w2.heap.size := bl.size
          have hz3 : w3.heap.size = w2.heap.size := by subst e; simp [World.setCell]
          have hbF : FS b := H3.out.inF b rfl
          have hset : ChF (fun q => q = b) w2 w3 := by
            subst e
            exact (((ChF.refl (fun q => q = b) w2).set (g := b) (.inl (show b = b from rfl))).set (g := b) (.inl (show b = b from rfl)))
          rw [← e] at hS
          rw [Int.toNat_natCast]
          have hcN : ChF (fun _ => False) w1 w2 := .of_below bl
          refine ⟨⟨FL, Gr FS w1 w2, sa, rd, _, _, ?_, (H2.out.keep hcN (fun _ _ e => e)).keep hset (fun q hq e => (H4.out q hq).2.1 (by rw [e]; exact hbF)), hS, fun q hq => ⟨.inl (H4.out q hq).1, fun e => ?_, (H4.out q hq).2.2⟩, fun q hq => ?_, .inl h6, fun q hq => ?_, h8, h9⟩, (HC1.out.trans (.of_below (F := F) bl) (fun q hq => .inl hq)).trans (hset.widen (F' := F) (fun q hq => by rw [hq]; exact (H5.out b hbF).1)) (fun q hq => .inl hq)⟩
          · exact (hset.block g (by omega) (fun e => hne e.symm)).trans ((bl.block g hgl).trans H1.out)
          · rcases e with q1 | q1
            · exact (H4.out q hq).2.1 q1
            · have := H7.out q (H4.out q hq).1; omega
          · rcases hq with q1 | q1
            · exact ⟨.inl (H5.out q q1).1, (H5.out q q1).2⟩
            · exact ⟨.inr ⟨by rw [← hsz]; exact q1.1, by rw [hz3]; exact q1.2⟩, fun e => by subst e; omega⟩
          · rcases hq with q1 | q1
            · have := H7.out q q1; omega
            · exact q1.2)
        have f5 := cF 5
        clear h1 h2 h3 h4 h5 h7 h8 hc1 hx hN ho x1 x2 xF cF hblk hsz
        go_wp2
        go_region_held3 (fun w' => w'.cell? ⟨g, 5, none⟩ = some (.slice (some ⟨b, o, none⟩) N c)) (first | exact c5 | exact r5 | exact cell_set_ne hne r5 | exact cell_set_ne hne (cell_set_ne hne r5) | go_keep)
          (first | (go_at_call 47; (with_reducible refine (clone_any ba bn bc l _ ?hh).mono ?_); (case hh => exact HBV.out.of_block (fun _ _ => rfl)); rintro e w2 ⟨a2, cap2, rfl, o2, d2e⟩; have d2 : Below w1.heap.size w1 w2 := ⟨d2e.os, d2e.tape, d2e.output, d2e.size, d2e.block⟩; clear d2e; obtain ⟨r5, r1, r2, rf, rx⟩ := HK.out w2 d2; have rf5 := rf 5; have rx1 := rx (o + k * 3 + 1); have rx2 := rx (o + k * 3 + 2); have HO2 := Lib.hid o2; have HD2 := Lib.hid d2; clear o2 d2))
        all_goals go_wp2
        all_goals go_ret
        all_goals exact ⟨rfl, HFIN.out _ _ _ _ HO2.out HD2.out rfl⟩
  · rw [if_neg hi]
    rw [decide_eq_false hi] at KH
    go_enter Try.func23, Try.ntmps23
    go_wp2_with fail
    (with_reducible refine KH.mono ?_)
    rintro e w1 ⟨rfl, hw⟩
    subst hw
    clear KH KS
    go_wp2
    go_ret
    exact ⟨rfl, HD.out.gr, .refl _ _⟩
end Go.Proofs.Ytdidalcflkphnaa
namespace Go.Proofs.Ytdidalcflkphnaa
open Go.RowKit

set_option maxRecDepth 100000 in
set_option maxHeartbeats 4000000 in
theorem new_bad (n p : Int) (w : World) (hn : n < 1 ∨ 512 < n) :
    Calls Try.prog 11 #[.int .i64 n, .int .i64 p] w fun e w' => e = .returned (.tuple #[.pointer none, .int .i64 130]) ∧ w' = w := by
  by_cases h1 : n < 1
  · go_enter Try.func11, Try.ntmps11
    go_wp2
    go_ret2
    exact ⟨rfl, rfl⟩
  · have h2 : 512 < n := by omega
    go_enter Try.func11, Try.ntmps11
    go_wp2
    go_ret2
    exact ⟨rfl, rfl⟩
end Go.Proofs.Ytdidalcflkphnaa
namespace Go.Proofs.Ytdidalcflkphnaa
open Go.RowKit

theorem Try.info80 : (Try.prog.info? 80).map (fun i => (i.zero, i.size, i.bytes)) = some (some (.agg #[.slice none 0 0, .slice none 0 0, .bool false]), 3, 56) := by kernel_rfl
/-- slots that nobody wrote. -/
def noSl (n : Nat) : List Slot := List.replicate n ([], [], false)
def noHs (n : Nat) : List SlH := List.replicate n ((none, 0, 0), (none, 0, 0), false)
def newV (n : Nat) (p : Int) : DV := { pow := p, safe := [], read := [], base := 0, laid := false, sl := noSl n }
theorem kcells_len : ∀ hs : List SlH, (kcells hs).length = hs.length * 3
  | [] => rfl
  | x :: xs => by
    show (SV x.1 :: SV x.2.1 :: .bool x.2.2 :: kcells xs).length = _
    simp only [List.length_cons, kcells_len xs]
    omega
theorem madeK (n : Nat) : (madeCells #[.slice none 0 0, .slice none 0 0, .bool false] (n * 3)).toList = kcells (noHs n) := by
  apply List.ext_getElem?
  intro j
  by_cases hj : j < n * 3
  · have hq : j / 3 < n := by omega
    have hx : (noHs n)[j / 3]? = some ((none, 0, 0), (none, 0, 0), false) := by unfold noHs; rw [List.getElem?_replicate, if_pos hq]
    obtain ⟨a, b, c⟩ := kcells_at _ _ _ hx
    have hl : (madeCells #[.slice none 0 0, .slice none 0 0, .bool false] (n * 3)).toList[j]? = some ((#[Value.slice none 0 0, .slice none 0 0, .bool false] : Array Value)[j % 3]!) := by
      unfold madeCells
      rw [Array.getElem?_toList, Array.getElem?_map, Array.getElem?_range, if_pos hj]
      rfl
    rw [hl]
    have h3 : j % 3 = 0 ∨ j % 3 = 1 ∨ j % 3 = 2 := by omega
    rcases h3 with e | e | e
    · rw [e, show j = j / 3 * 3 by omega, a]; rfl
    · rw [e, show j = j / 3 * 3 + 1 by omega, b]; rfl
    · rw [e, show j = j / 3 * 3 + 2 by omega, c]; rfl
  · rw [List.getElem?_eq_none (by simp [size_madeCells]; omega), List.getElem?_eq_none (by rw [kcells_len]; simp [noHs]; omega)]
theorem SlM.fresh {w : World} {n : Nat} {F : Nat → Prop} {b : Nat} (h : w.ownsRow 0 KT 3 (.slice (some ⟨b, 0, none⟩) n n) n (kcells (noHs n))) (hb : F b) : SlM w F (some ⟨b, 0, none⟩, n, n) (noHs n) (noSl n) := by
  have hat : ∀ (i : Nat) x, (noHs n)[i]? = some x → x = ((none, 0, 0), (none, 0, 0), false) := fun i x hx => List.eq_of_mem_replicate (List.mem_of_getElem? hx)
  refine ⟨by rw [show (noSl n).length = n by simp [noSl]]; exact h, by simp [noSl], by simp [noSl, noHs], fun q hq => ?_, fun i x s hx hs => ?_, fun k l u v hu hv hkl => .inl ?_⟩
  · have : b = q := by simpa [SV, Value.ownBlock] using hq
    rw [← this]; exact hb
  · have := hat i x hx
    subst this
    have hs2 : s = ([], [], false) := List.eq_of_mem_replicate (List.mem_of_getElem? hs)
    subst hs2
    exact ⟨rfl, .nil _ _, .nil _ _⟩
  · unfold hdr at hu
    cases e : (noHs n)[k / 2]? with
    | none => rw [e] at hu; cases hu
    | some x =>
      have := hat _ x e
      subst this
      rw [e, Option.map_some] at hu
      have : u = (none, 0, 0) := by
        by_cases p : k % 2 = 0
        · rw [if_pos p] at hu; exact (Option.some.inj hu).symm
        · rw [if_neg p] at hu; exact (Option.some.inj hu).symm
      rw [this]
      rfl
theorem alloc_at (w : World) (o : Obj) : (w.alloc o).heap[w.heap.size]? = some o := by show (w.heap.push o)[w.heap.size]? = some o; simp
theorem alloc_sz (w : World) (o : Obj) : (w.alloc o).heap.size = w.heap.size + 1 := by simp
theorem sv_none {b : Nat} (h : (SV (none, 0, 0)).ownBlock = some b) : False := by simp [SV, Value.ownBlock] at h
/-- what is new. -/
def Fresh (w w' : World) : Nat → Prop := fun b => w.heap.size ≤ b ∧ b < w'.heap.size
set_option maxRecDepth 100000 in
set_option maxHeartbeats 4000000 in
theorem new_ok (n : Nat) (p : Int) (w : World) (h1 : 1 ≤ n) (h2 : n ≤ 512) (hp : p ≤ 9223372036854775807) :
    Calls Try.prog 11 #[.int .i64 (n : Nat), .int .i64 p] w fun e w' => ∃ g, e = .returned (.tuple #[.pointer (some ⟨g, 0, none⟩), .int .i64 0]) ∧ DiskM w' (Fresh w w') g (newV n p) ∧ Below w.heap.size w w' := by
  obtain ⟨i0, hi, hz0, hz1, hz2⟩ := info_parts Try.info80
  have q1 : ¬ ((n : Nat) : Int) < 1 := by omega
  have q2 : ¬ (512 : Int) < ((n : Nat) : Int) := by omega
  go_enter Try.func11, Try.ntmps11
  go_wp2_with (first | (at_make; refine Hid.out ?_))
  refine Lib.hid ?_
  refine wpList_make_full _ rfl _ _ 68 rfl w.heap.size KT i0 (.agg #[.slice none 0 0, .slice none 0 0, .bool false]) 3 Try.underlying68 hi hz0 hz1 _ _ _ _ n rfl rfl rfl rfl (by rw [hz2]; omega) (by unfold maxLen; omega) (Nat.le_refl _) ?_
  intro w3 hown3 hgrow3
  rw [show (Value.agg #[.slice none 0 0, .slice none 0 0, .bool false]).cells = #[.slice none 0 0, .slice none 0 0, .bool false] from rfl, madeK] at hown3
  have HO := Lib.hid hown3
  have HG := Lib.hid hgrow3
  clear hown3 hgrow3 hi
  go_wp2
  refine bodyPost_ret (results_tmp2 rfl _ _ _) rfl ?_
  have hsz := HG.out.size
  have hlt : w.heap.size < w3.heap.size := (HO.out.lt w.heap.size rfl).2
  have hS := SlM.fresh (F := fun b => b = w.heap.size) (own_zero HO.out) rfl
  have hB : Below w.heap.size w w3 := ⟨HG.out.os, HG.out.tape, HG.out.output, HG.out.size, fun i hi => HG.out.block i hi (by simp)⟩
  refine ⟨w3.heap.size, rfl, ⟨fun _ => False, fun b => b = w.heap.size, (none, 0, 0), (none, 0, 0), (some ⟨w.heap.size, 0, none⟩, n, n), noHs n, ?_, ?_, ?_, fun b hb => hb.elim, fun b hb => ?_, ?_, fun b hb => hb.2, by simp [newV], hp⟩, hB.alloc hsz _⟩
  · exact alloc_at w3 _
  · exact ⟨.nil _ _, bytesV_nil _, fun b hb => (sv_none hb).elim, fun a ha => (nomatch ha), fun b hb => (sv_none hb).elim⟩
  · exact hS.keep (G := fun _ => False) (.of_below (below_alloc w3 _)) (fun _ _ e => e)
  · subst hb; exact ⟨⟨Nat.le_refl _, by rw [alloc_sz]; omega⟩, by omega⟩
  · exact ⟨hsz, by rw [alloc_sz]; omega⟩
end Go.Proofs.Ytdidalcflkphnaa
