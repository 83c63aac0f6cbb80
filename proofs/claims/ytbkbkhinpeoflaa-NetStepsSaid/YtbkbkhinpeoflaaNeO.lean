/-
  net: the reference, a net as a plain value.
-/
import Derived.Test.YtbkbkhinpeoflaaNeN
namespace Go.Proofs.Ytbkbkhinpeoflaa
open Go.RowKit

/-- the reference's net: n receivers and n rows of bytes. -/
structure RefN (w : World) (aT : Option Addr) (cT : Nat) (aD : Option Addr) (cD : Nat) (n : Nat) (ts : List Int) (bs : List (List Nat)) : Prop where
  ints : IntsV w (aT, n, cT) ts
  rows : ∃ hs, RowV w aD n (hs.map SV) ∧ RowsV w hs bs
  cap : n ≤ cD
  nil : aD = none → cD = 0
theorem RefN.below {w w' : World} {aT : Option Addr} {cT : Nat} {aD : Option Addr} {cD n : Nat} {ts : List Int} {bs : List (List Nat)} (h : RefN w aT cT aD cD n ts bs) (hb : Below w.heap.size w w') : RefN w' aT cT aD cD n ts bs :=
  ⟨h.ints.below hb, by obtain ⟨hs, h1, h2⟩ := h.rows; exact ⟨hs, h1.below hb, h2.below hb⟩, h.cap, h.nil⟩
def RT : TypeId := 29
theorem loadVar_ref (w : World) (g : Nat) (cs : Array Value) (hg : w.heap[g]? = some (.cells cs 29 (0, 0))) (hs : cs.size = 3) : (loadVar 29 ⟨g, 0, none⟩).run Try.prog w = .ok (.agg cs) w :=
  run_loadVar_row w g 29 29 cs (0, 0) _ hg Try.underlying29 rfl (by rw [hs]; kernel_rfl)
theorem results_rsend (tmps : Array Value) (w : World) (g : Nat) (cs : Array Value) (b : Bool) (hp : tmps.getD 6 undef = .pointer (some ⟨g, 0, none⟩)) (h5 : tmps.getD 7 undef = .bool b) (hg : w.heap[g]? = some (.cells cs 29 (0, 0))) (hs : cs.size = 3) :
    (results Try.f11 tmps).run Try.prog w = .ok (.tuple #[.agg cs, .bool b]) w := by
  have hp' : tmps[6]?.getD undef = .pointer (some ⟨g, 0, none⟩) := by simpa using hp
  have h5' : tmps[7]?.getD undef = .bool b := by simpa using h5
  simp [results, Try.results11, hp', h5', asAddr, loadVar_ref w g cs hg hs]
theorem box3_set0 {w : World} {b : Nat} {v0 v1 v2 : Value} {T : TypeId} (h : w.heap[b]? = some (.cells #[v0, v1, v2] T (0, 0))) (v : Value) : (w.setCell ⟨b, 0, none⟩ v).heap[b]? = some (.cells #[v, v1, v2] T (0, 0)) := heap_setCell_same _ _ 0 _ _ _ h
theorem box3_set1 {w : World} {b : Nat} {v0 v1 v2 : Value} {T : TypeId} (h : w.heap[b]? = some (.cells #[v0, v1, v2] T (0, 0))) (v : Value) : (w.setCell ⟨b, 1, none⟩ v).heap[b]? = some (.cells #[v0, v, v2] T (0, 0)) := heap_setCell_same _ _ 1 _ _ _ h
theorem box3_set2 {w : World} {b : Nat} {v0 v1 v2 : Value} {T : TypeId} (h : w.heap[b]? = some (.cells #[v0, v1, v2] T (0, 0))) (v : Value) : (w.setCell ⟨b, 2, none⟩ v).heap[b]? = some (.cells #[v0, v1, v] T (0, 0)) := heap_setCell_same _ _ 2 _ _ _ h
theorem set_other {w : World} {b c i : Nat} {o : Obj} (h : w.heap[b]? = some o) (hne : b ≠ c) (v : Value) : (w.setCell ⟨c, i, none⟩ v).heap[b]? = some o := (heap_setCell_other _ ⟨c, i, none⟩ b _ hne).trans h
theorem box_below {w w' : World} {b : Nat} {o : Obj} (h : w.heap[b]? = some o) (hb : Below w.heap.size w w') : w'.heap[b]? = some o := (hb.block b (Array.getElem?_eq_some_iff.1 h).1).trans h

theorem box_grown {w w' : World} {b : Nat} {o : Obj} {r : Option Nat} (h : w.heap[b]? = some o) (hg : w.grownBy w' r) (hne : r ≠ some b) : w'.heap[b]? = some o := (hg.block b (Array.getElem?_eq_some_iff.1 h).1 (fun e => hne e.symm)).trans h
theorem own_set_other {w : World} {B : Nat} {T : TypeId} {s n c i : Nat} {v : Value} {xs : List Value} (h : w.ownsRow B T s v n xs) (hc : c < B) (u : Value) : (w.setCell ⟨c, i, none⟩ u).ownsRow B T s v n xs :=
  own_kept h fun b e => heap_setCell_other _ ⟨c, i, none⟩ b _ (fun e2 => by have := (h.lt b e).1; simp only at e2; omega)

def set3 (w : World) (g : Nat) (v0 v1 v2 : Value) : World := ((w.setCell ⟨g, 0, none⟩ v0).setCell ⟨g, 1, none⟩ v1).setCell ⟨g, 2, none⟩ v2
theorem set3_same {w : World} {g : Nat} {T : TypeId} {z0 z1 z2 : Value} (v0 v1 v2 : Value) (h : w.heap[g]? = some (.cells #[z0, z1, z2] T (0, 0))) : (set3 w g v0 v1 v2).heap[g]? = some (.cells #[v0, v1, v2] T (0, 0)) := box3_set2 (box3_set1 (box3_set0 h v0) v1) v2
theorem set3_below {B : Nat} {a w : World} (h : Below B a w) {g : Nat} (hg : B ≤ g) (v0 v1 v2 : Value) : Below B a (set3 w g v0 v1 v2) :=
  ((h.setCell (p := ⟨g, 0, none⟩) hg v0).setCell (p := ⟨g, 1, none⟩) hg v1).setCell (p := ⟨g, 2, none⟩) hg v2
theorem own_set3 {w : World} {B : Nat} {T : TypeId} {s n c : Nat} {v : Value} {xs : List Value} (h : w.ownsRow B T s v n xs) (hc : c < B) (v0 v1 v2 : Value) : (set3 w c v0 v1 v2).ownsRow B T s v n xs :=
  own_set_other (own_set_other (own_set_other h hc v0) hc v1) hc v2
theorem refN_end {w' : World} {B n c2 c6 : Nat} {a2 a6 : Option Addr} {ts : List Int} {to : Int} {hs : List (Option Addr × Nat × Nat)} {bs : List (List Nat)} {x : Option Addr × Nat × Nat} {l : List Nat} (t : w'.ownsRow B 3 1 (.slice a2 (n + 1) c2) (n + 1) (ts.map iv ++ [iv to])) (d : w'.ownsRow B 31 1 (.slice a6 (n + 1) c6) (n + 1) (hs.map SV ++ [SV x]))
    (hR : RowsV w' hs bs) (hB : BytesV w' x l) (hn : n < 400) : RefN w' a2 c2 a6 c6 (n + 1) (ts ++ [to]) (bs ++ [l]) := by
  refine ⟨intsV_own (by rw [List.map_append]; exact t) (by omega), ⟨hs ++ [x], ?_, ?_⟩, ?_, ?_⟩
  · obtain ⟨_, _, e, _, _, _, h⟩ := ownsRow_parts d
    cases e
    rw [List.map_append]
    exact h
  · refine ⟨by simp [hR.1], fun i y z h1 h2 => ?_⟩
    by_cases hi : i < hs.length
    · rw [List.getElem?_append_left hi] at h1
      rw [List.getElem?_append_left (by rw [← hR.1]; exact hi)] at h2
      exact hR.2 i y z h1 h2
    · rw [List.getElem?_append_right (by omega)] at h1
      rw [List.getElem?_append_right (by rw [← hR.1]; omega), ← hR.1] at h2
      obtain ⟨hi0, e1⟩ := List.getElem?_eq_some_iff.1 h1
      simp only [List.length_cons, List.length_nil] at hi0
      have e0 : i - hs.length = 0 := by omega
      rw [e0] at h1 h2
      simp at h1 h2
      subst h1 h2
      exact hB
  · obtain ⟨_, _, e, _, h, _⟩ := ownsRow_parts d
    cases e
    exact h
  · intro ea
    obtain ⟨_, _, e, hc, _⟩ := ownsRow_parts d
    cases e
    rcases hc with ⟨_, h, _⟩ | ⟨gg, hgg, _⟩
    · omega
    · rw [ea] at hgg; cases hgg

/-- what the reference's Send makes is its own. -/
def SendRes (w w' : World) (n : Nat) (ts : List Int) (to : Int) (hs : List (Option Addr × Nat × Nat)) (l : List Nat) (a2 : Option Addr) (c2 : Nat) (a6 : Option Addr) (c6 : Nat) : Prop :=
  ∃ x : Option Addr × Nat × Nat, w'.ownsRow (w.heap.size + 2) 3 1 (.slice a2 (n + 1) c2) (n + 1) (ts.map iv ++ [iv to]) ∧ w'.ownsRow (w.heap.size + 2) 31 1 (.slice a6 (n + 1) c6) (n + 1) (hs.map SV ++ [SV x]) ∧ w'.ownsRow (w.heap.size + 2) 5 1 (SV x) x.2.1 (l.map bv) ∧ Bytes l ∧ x.2.1 ≤ 140737488355328
theorem SendRes.ref {w w' : World} {n : Nat} {ts : List Int} {to : Int} {hs : List (Option Addr × Nat × Nat)} {bs : List (List Nat)} {l : List Nat} {a2 : Option Addr} {c2 : Nat} {a6 : Option Addr} {c6 : Nat} (h : SendRes w w' n ts to hs l a2 c2 a6 c6) (hR : RowsV w' hs bs) (hn : n < 400) : RefN w' a2 c2 a6 c6 (n + 1) (ts ++ [to]) (bs ++ [l]) := by
  obtain ⟨⟨a, m, c⟩, t, d, o, hB, hl⟩ := h
  exact refN_end t d hR (bytesV_of_owns o hB hl) hn
theorem SendRes.set {w w' : World} {n : Nat} {ts : List Int} {to : Int} {hs : List (Option Addr × Nat × Nat)} {l : List Nat} {a2 : Option Addr} {c2 : Nat} {a6 : Option Addr} {c6 c : Nat} (h : SendRes w w' n ts to hs l a2 c2 a6 c6) (hc : c < w.heap.size + 2) (v0 v1 v2 : Value) : SendRes w (set3 w' c v0 v1 v2) n ts to hs l a2 c2 a6 c6 := by
  obtain ⟨x, t, d, o, hB, hl⟩ := h
  exact ⟨x, own_set3 t hc v0 v1 v2, own_set3 d hc v0 v1 v2, own_set3 o hc v0 v1 v2, hB, hl⟩

set_option maxRecDepth 100000 in
set_option maxHeartbeats 8000000 in
theorem refSend_own (aT : Option Addr) (cT : Nat) (aD : Option Addr) (cD n : Nat) (ts : List Int) (bs : List (List Nat)) (cnt to : Int) (ab : Option Addr) (nb cb : Nat) (l : List Nat) (w : World)
    (hs : List (Option Addr × Nat × Nat)) (hV : RowV w aD n (hs.map SV)) (h : RefN w aT cT aD cD n ts bs) (hx : BytesV w (ab, nb, cb) l) (hn : n < 400) (h0 : 0 ≤ cnt) (h1 : cnt ≤ 1000000000) :
    Calls Try.prog 11 #[.agg #[.slice aT n cT, .slice aD n cD, .int .i64 cnt], .int .i64 to, .slice ab nb cb] w fun e w' => ∃ aT' cT' aD' cD', e = .returned (.tuple #[.agg #[.slice aT' (n + 1) cT', .slice aD' (n + 1) cD', .int .i64 (cnt + 1)], .bool true]) ∧ SendRes w w' n ts to hs l aT' cT' aD' cD' ∧ Below w.heap.size w w' := by
  obtain ⟨j0, ji, jz0, jz1, jz2⟩ := info_parts Try.info3
  obtain ⟨i0, hi, hz0, hz1, hz2⟩ := info_parts Try.info31
  have hts : ts.length = n := h.ints.length
  have HTS := Lib.hid hts
  have hll : l.length = nb := hx.length
  have HLL := Lib.hid hll
  have HX := Lib.hid hx
  have HH := Lib.hid h
  clear hts hll hx h
  go_enter Try.func11, Try.ntmps11
  have hA0 : ((w.alloc (.cells #[.slice aT n cT, .slice aD n cD, .int .i64 cnt] RT)).alloc (.cells #[.slice none 0 0, .slice none 0 0, .int .i64 0] RT)).heap[w.heap.size]? = some (.cells #[.slice aT n cT, .slice aD n cD, .int .i64 cnt] RT (0, 0)) := box_below (heap_alloc_new w _) (below_alloc _ _)
  have hR0 : ((w.alloc (.cells #[.slice aT n cT, .slice aD n cD, .int .i64 cnt] RT)).alloc (.cells #[.slice none 0 0, .slice none 0 0, .int .i64 0] RT)).heap[w.heap.size + 1]? = some (.cells #[.slice none 0 0, .slice none 0 0, .int .i64 0] RT (0, 0)) := by
    have := heap_alloc_new (w.alloc (.cells #[.slice aT n cT, .slice aD n cD, .int .i64 cnt] RT)) (.cells #[.slice none 0 0, .slice none 0 0, .int .i64 0] RT)
    simpa using this
  have hb0 : Below w.heap.size w ((w.alloc (.cells #[.slice aT n cT, .slice aD n cD, .int .i64 cnt] RT)).alloc (.cells #[.slice none 0 0, .slice none 0 0, .int .i64 0] RT)) := (below_alloc w _).alloc (by simp) _
  have hs0 : ((w.alloc (.cells #[.slice aT n cT, .slice aD n cD, .int .i64 cnt] RT)).alloc (.cells #[.slice none 0 0, .slice none 0 0, .int .i64 0] RT)).heap.size = w.heap.size + 2 := by simp
  unfold RT at hA0 hR0 hb0 hs0
  generalize hww : (w.alloc (.cells #[.slice aT n cT, .slice aD n cD, .int .i64 cnt] 29)).alloc (.cells #[.slice none 0 0, .slice none 0 0, .int .i64 0] 29) = w0 at hA0 hR0 hb0 hs0
  have HW := Lib.hid hww
  clear hww
  go_wp2_with fail
  rw [HW.out]
  (with_reducible refine (copyInts_any _ _ _ ts _ (HH.out.ints.below hb0) (by omega)).mono ?_)
  rintro e w1 ⟨a1, c1, rfl, t1, b1⟩
  rw [HTS.out] at t1 ⊢
  have hA1 := box_below hA0 b1
  have hR1 := box_below hR0 b1
  have hb1 := hb0.trans (b1.mono hb0.size)
  have hs1 := b1.size
  rw [hs0] at t1 hs1
  clear hA0 hR0 hb0 b1
  go_wp2_with (first
    | (at_builtin; refine wpList_append_row rfl _ _ 26 rfl (w.heap.size + 2) 3 j0 (.int .i64 0) 8 Try.underlying26 ji jz0 jz1 jz2 rfl _ _ _ rfl (t1.alloc _) (some ⟨w1.heap.size, 0, none⟩) 1 1 [iv to] rfl (rowV_lit w1 _ _ _ 1 _ rfl rfl rfl) (fun h => by cases h) (iv_one [_]) (by simp [maxLen]; omega) (by omega) (by simp; omega) ?_; intro v2 w2 t2 g2 _; have g2' : (w1.alloc (.cells #[.int .i64 to] 3)).grownBy w2 (Value.slice a1 n c1).ownBlock := g2; have hne2 : ∀ k, (Value.slice a1 n c1).ownBlock = some k → w.heap.size + 2 ≤ k := (fun k hk => (t1.lt k hk).1); have hA2 := box_grown (box_below hA1 (below_alloc w1 _)) g2' (fun e => by have := hne2 _ e; omega); have hR2 := box_grown (box_below hR1 (below_alloc w1 _)) g2' (fun e => by have := hne2 _ e; omega); have hb2 := below_grown (hb1.alloc hb1.size _) g2' (fun k hk => by have := hne2 k hk; omega); have hs2 : w1.heap.size + 1 ≤ w2.heap.size := (by have := g2'.size; simpa using this); obtain ⟨a2, c2, rfl, _⟩ := ownsRow_parts t2; obtain ⟨p0, p1, p2, pF⟩ := box3_cells hA2; have hA3 := box3_set0 hA2 (.slice a2 (n + 1) c2); have hR3 := set_other (c := w.heap.size) (i := 0) hR2 (by omega) (.slice a2 (n + 1) c2); have hA3' := box_below hA3 (below_alloc _ (.cells #[] 31)); obtain ⟨q0, q1, q2, qF⟩ := box3_cells hA3'; have hb3 := hb2.setCell (p := ⟨w.heap.size, 0, none⟩) (Nat.le_refl _) (.slice a2 (n + 1) c2); have t3 := own_set_other (c := w.heap.size) (i := 0) t2 (by omega) (.slice a2 (n + 1) c2); have d0 := World.ownsRow_made (base := w.heap.size + 2) (e := 31) (size := 1) (w2.setCell ⟨w.heap.size, 0, none⟩ (.slice a2 (n + 1) c2)) #[] 0 (by simp [World.setCell]; omega) (by simp [maxLen]) rfl; rw [show (w2.setCell ⟨w.heap.size, 0, none⟩ (.slice a2 (n + 1) c2)).heap.size = w2.heap.size by simp [World.setCell]] at d0; have hV3 := (hV.below hb3).below (below_alloc _ (.cells #[] 31)); clear g2 g2' hA1 hR1 hb1 t1 hne2)
    | (at_builtin; refine wpList_append_row rfl _ _ 27 rfl (w.heap.size + 2) 31 i0 (.slice none 0 0) 24 Try.underlying27 hi hz0 hz1 hz2 rfl _ _ _ rfl d0 aD n cD (hs.map SV) rfl hV3 HH.out.nil (SV_one hs) (by simp [maxLen]; omega) (by omega) (by simp [World.setCell]; omega) ?_; intro v4 w4 d4 g4 _; refine Hid.out ?_))
  refine Lib.hid ?_
  have g4' : ((w2.setCell ⟨w.heap.size, 0, none⟩ (.slice a2 (n + 1) c2)).alloc (.cells #[] 31)).grownBy w4 (Value.slice (some ⟨w2.heap.size, 0, none⟩) 0 0).ownBlock := g4
  have hne4 : (Value.slice (some ⟨w2.heap.size, 0, none⟩) 0 0).ownBlock ≠ some w.heap.size := by intro e; simp [Value.ownBlock] at e; omega
  have hne4' : (Value.slice (some ⟨w2.heap.size, 0, none⟩) 0 0).ownBlock ≠ some (w.heap.size + 1) := by intro e; simp [Value.ownBlock] at e; omega
  have hA4 := box_grown hA3' g4' hne4
  have hR4 := box_grown (box_below hR3 (below_alloc _ _)) g4' hne4'
  have hb4 := below_grown (hb3.alloc hb3.size _) g4' (fun k hk => by simp [Value.ownBlock] at hk; omega)
  have t4 := (t3.alloc (.cells #[] 31)).kept g4' (.inr (fun e => by have := (t2.lt w2.heap.size (e.trans rfl)).2; omega))
  have hs4 := g4'.size
  rw [Nat.zero_add, List.nil_append] at d4
  obtain ⟨a4, c4, rfl, _⟩ := ownsRow_parts d4
  clear g4 g4' hA3' hR3 hb3 t3 hne4 hne4' q0 q1 q2 qF hA3 p0 p1 p2 pF hA2 hR2 hb2 t2
  rw [World.size_alloc] at hs4
  have hs4' : w2.heap.size + 1 ≤ w4.heap.size := by simpa [World.setCell] using hs4
  clear hs4
  refine Hid.out ?_
  refine Lib.hid ?_
  go_wp2_with (first
    | (go_at_call 12; (with_reducible refine (copyBytes_any _ _ _ l _ (HX.out.below hb4)).mono ?_); rintro e w5 ⟨a5, c5, rfl, o5, b5⟩; have hA5 := box_below hA4 b5; have hR5 := box_below hR4 b5; have hb5 := hb4.trans (b5.mono hb4.size); have hs5 := b5.size; have t5 := t4.kept (grownBy_of_below b5 none) (by cases (Value.slice a2 (n + 1) c2).ownBlock <;> simp); have d5 := d4.kept (grownBy_of_below b5 none) (by cases (Value.slice a4 n c4).ownBlock <;> simp); have hd4 := (fun k e => (d4.lt k e).2 : ∀ k, (Value.slice a4 n c4).ownBlock = some k → k < w4.heap.size); rw [HLL.out] at o5 ⊢; clear b5 hA4 hR4 hb4 t4 d4)
    | (at_builtin; refine wpList_append_row rfl _ _ 27 rfl (w.heap.size + 2) 31 i0 (.slice none 0 0) 24 Try.underlying27 hi hz0 hz1 hz2 rfl _ _ _ rfl (d5.alloc _) (some ⟨w5.heap.size, 0, none⟩) 1 1 [SV (a5, nb, c5)] rfl (rowV_lit w5 _ _ _ 1 _ rfl rfl rfl) (fun h => by cases h) (SV_one [(a5, nb, c5)]) (by simp [maxLen]; omega) (by omega) (by simp; omega) ?_; intro v6 w6 d6 g6 _; refine Hid.out ?_))
  refine Lib.hid ?_
  have g6' : (w5.alloc (.cells #[.slice a5 nb c5] 31)).grownBy w6 (Value.slice a4 n c4).ownBlock := g6
  have hA6 := box_grown (box_below hA5 (below_alloc w5 _)) g6' (fun e => by have := (d5.lt _ e).1; omega)
  have hR6 := box_grown (box_below hR5 (below_alloc w5 _)) g6' (fun e => by have := (d5.lt _ e).1; omega)
  have hb6 := below_grown (hb5.alloc hb5.size _) g6' (fun k hk => by have := (d5.lt k hk).1; omega)
  have t6 := (t5.alloc (.cells #[.slice a5 nb c5] 31)).kept g6' (own_ne t5 d5 (by decide))
  have o6 := (o5.alloc (.cells #[.slice a5 nb c5] 31)).kept g6' (own_ne o5 d5 (by decide))
  obtain ⟨a6, c6, rfl, _⟩ := ownsRow_parts d6
  obtain ⟨p0, p1, p2, pF⟩ := box3_cells hA6
  have hA7 := box3_set1 hA6 (.slice a6 (n + 1) c6)
  have hR7 := set_other (c := w.heap.size) (i := 1) hR6 (by omega) (.slice a6 (n + 1) c6)
  obtain ⟨q0, q1, q2, qF⟩ := box3_cells hA7
  have hA8 := box3_set2 hA7 (.int .i64 (cnt + 1))
  have hR8 := set_other (c := w.heap.size) (i := 2) hR7 (by omega) (.int .i64 (cnt + 1))
  obtain ⟨r0, r1, r2, rF⟩ := box3_cells hA8
  obtain ⟨s0, s1, s2, sF⟩ := box3_cells hR8
  clear g6 g6' hA5 hR5 hb5 t5 o5 d5 hd4
  refine Hid.out ?_
  refine Lib.hid ?_
  go_wp2
  have hb9 := set3_below (g := w.heap.size + 1) ((hb6.setCell (p := ⟨w.heap.size, 1, none⟩) (Nat.le_refl _) (.slice a6 (n + 1) c6)).setCell (p := ⟨w.heap.size, 2, none⟩) (Nat.le_refl _) (.int .i64 (cnt + 1))) (by omega) (.slice a2 (n + 1) c2) (.slice a6 (n + 1) c6) (.int .i64 (cnt + 1))
  have t9 := own_set3 (c := w.heap.size + 1) (own_set_other (c := w.heap.size) (i := 2) (own_set_other (c := w.heap.size) (i := 1) t6 (by omega) (.slice a6 (n + 1) c6)) (by omega) (.int .i64 (cnt + 1))) (by omega) (.slice a2 (n + 1) c2) (.slice a6 (n + 1) c6) (.int .i64 (cnt + 1))
  have d9 := own_set3 (c := w.heap.size + 1) (own_set_other (c := w.heap.size) (i := 2) (own_set_other (c := w.heap.size) (i := 1) d6 (by omega) (.slice a6 (n + 1) c6)) (by omega) (.int .i64 (cnt + 1))) (by omega) (.slice a2 (n + 1) c2) (.slice a6 (n + 1) c6) (.int .i64 (cnt + 1))
  have o9 := own_set3 (c := w.heap.size + 1) (own_set_other (c := w.heap.size) (i := 2) (own_set_other (c := w.heap.size) (i := 1) o6 (by omega) (.slice a6 (n + 1) c6)) (by omega) (.int .i64 (cnt + 1))) (by omega) (.slice a2 (n + 1) c2) (.slice a6 (n + 1) c6) (.int .i64 (cnt + 1))
  exact bodyPost_ret (v := .tuple #[.agg #[.slice a2 (n + 1) c2, .slice a6 (n + 1) c6, .int .i64 (cnt + 1)], .bool true]) (results_rsend _ _ _ _ _ rfl rfl (set3_same (.slice a2 (n + 1) c2) (.slice a6 (n + 1) c6) (.int .i64 (cnt + 1)) hR8) rfl) rfl ⟨a2, c2, a6, c6, rfl, ⟨(a5, nb, c5), t9, d9, ownsRow_base o9 (by omega), HX.out.bytes, HX.out.small⟩, hb9⟩
theorem refSend_any (aT : Option Addr) (cT : Nat) (aD : Option Addr) (cD n : Nat) (ts : List Int) (bs : List (List Nat)) (cnt to : Int) (ab : Option Addr) (nb cb : Nat) (l : List Nat) (w : World)
    (h : RefN w aT cT aD cD n ts bs) (hx : BytesV w (ab, nb, cb) l) (hn : n < 400) (h0 : 0 ≤ cnt) (h1 : cnt ≤ 1000000000) :
    Calls Try.prog 11 #[.agg #[.slice aT n cT, .slice aD n cD, .int .i64 cnt], .int .i64 to, .slice ab nb cb] w fun e w' => ∃ aT' cT' aD' cD', e = .returned (.tuple #[.agg #[.slice aT' (n + 1) cT', .slice aD' (n + 1) cD', .int .i64 (cnt + 1)], .bool true]) ∧ RefN w' aT' cT' aD' cD' (n + 1) (ts ++ [to]) (bs ++ [l]) ∧ Below w.heap.size w w' :=
  by
    obtain ⟨hs, hV, hR⟩ := h.rows
    exact (refSend_own aT cT aD cD n ts bs cnt to ab nb cb l w hs hV h hx hn h0 h1).mono fun _ _ ⟨a, b, c, d, he, hS, hb⟩ => ⟨a, b, c, d, he, hS.ref (hR.below hb) hn, hb⟩
end Go.Proofs.Ytbkbkhinpeoflaa
