/-
  CopyTexts, CopyActs; great.
-/
import Derived.Test.YtnefcbcioemfiaaJdN
import Derived.Test.YtnefcbcioemfiaaUse
namespace Go.Proofs.Ytnefcbcioemfiaa
open Go Go.RowKit

theorem str_one (l : List ByteArray) : ∀ u ∈ l.map Value.string, u.oneCell' = true := by
  intro u hu
  simp at hu
  obtain ⟨x, _, rfl⟩ := hu
  rfl
theorem infoStrJ : (Try.prog.info? 9).map (fun i => (i.zero, i.size, i.bytes)) = some (some (.string ⟨#[]⟩), 1, 16) := by kernel_rfl
def GivesTexts (w0 : World) (l : List ByteArray) (e : Ending) (w' : World) : Prop :=
  ∃ ad cap, e = .returned (.slice ad l.length cap) ∧ w'.ownsRow w0.heap.size 9 1 (.slice ad l.length cap) l.length (l.map Value.string) ∧ Below w0.heap.size w0 w'
set_option maxRecDepth 10000 in
set_option maxHeartbeats 400000 in
theorem copyTexts_any (ad : Option Addr) (n c : Nat) (l : List ByteArray) (w : World) (h : TxV w (ad, n, c) l) :
    Calls Try.prog 32 #[.slice ad n c] w (GivesTexts w l) := by
  obtain ⟨i0, hi, hz0, hz1, hz2⟩ := info_parts infoStrJ
  have hsm : n * 16 ≤ 140737488355328 := h.small
  have hl : l.length = n := h.length
  have hr := h.row.below (below_alloc w (.cells #[] 9))
  have hnil := h.nil
  have HL := Lib.hid hl
  have hown0 := World.ownsRow_made (base := w.heap.size) (e := 9) (size := 1) w #[] 0 (Nat.le_refl _) (by simp [maxLen]) rfl
  clear h hl
  go_enter Try.func32, Try.ntmps32
  go_wp2_with (first | (at_builtin; refine wpList_append_row rfl _ _ 27 rfl w.heap.size 9 i0 (.string ⟨#[]⟩) 16 Try.underlying27 hi hz0 hz1 hz2 rfl _ _ _ rfl hown0 ad n c (l.map Value.string) rfl hr hnil (str_one l) (by simp [maxLen]; omega) (by omega) (by simp) ?_; intro v' w1 hown1 hgrow1 hnil1))
  obtain ⟨ad', cap', rfl, _⟩ := ownsRow_parts hown1
  have hb := below_grown (below_alloc w _) hgrow1 (ownBlock_ge hown0)
  simp only [Nat.zero_add, List.nil_append] at hown1 ⊢
  clear hgrow1 hnil1 hr
  go_wp2
  go_ret
  obtain rfl := HL.out
  exact ⟨ad', cap', rfl, hown1, hb⟩
theorem txV_own {w : World} {base : Nat} {T : TypeId} {ad : Option Addr} {cap n : Nat} {l : List ByteArray} (h : w.ownsRow base T 1 (.slice ad n cap) n (l.map Value.string)) (hs : n * 16 ≤ 140737488355328) : TxV w (ad, n, cap) l := by
  obtain ⟨ad', cap', e, hcase, hnc, _, hrow⟩ := ownsRow_parts h
  cases e
  exact ⟨hrow, hs, hnc, fun e => by rcases hcase with ⟨_, _, hc⟩ | ⟨g, hg, _⟩; exact hc; rw [hg] at e; cases e⟩
theorem far_own {w : World} {base : Nat} {T : TypeId} {a0 ad : Option Addr} {n cap : Nat} {xs : List Value} (h : w.ownsRow base T 1 (.slice ad n cap) n xs) (ha : ∀ g, ofB a0 = some g → g < base) : Far a0 (ad, n, cap) := by
  intro h0 p hp e
  obtain ⟨ad', cap', e', hcase, -⟩ := ownsRow_parts h
  injection e' with e1 e2 e3
  subst e1
  rcases hcase with ⟨h1, h2, -⟩ | ⟨g, h1, h2, -⟩
  · simp only at h0; omega
  · simp only at hp
    rw [h1] at hp
    injection hp with hp
    subst hp
    have := ha _ e
    simp only at this
    omega
theorem hi_own {w : World} {base B : Nat} {T : TypeId} {ad : Option Addr} {n cap : Nat} {xs : List Value} (h : w.ownsRow base T 1 (.slice ad n cap) n xs) (hB : B ≤ base) : HiB B (ad, n, cap) := by
  intro h0 p hp
  obtain ⟨ad', cap', e', hcase, -⟩ := ownsRow_parts h
  injection e' with e1 e2 e3
  subst e1
  rcases hcase with ⟨h1, h2, -⟩ | ⟨g, h1, h2, -⟩
  · simp only at h0; omega
  · simp only at hp
    rw [h1] at hp
    injection hp with hp
    subst hp
    exact Nat.le_trans hB h2
/-- what CopyActs gives. -/
def GivesActs (w : World) (xs : List ActR) (e : Ending) (w' : World) : Prop :=
  ∃ a c ys, e = .returned (.slice a xs.length c) ∧ ys.map Prod.fst = xs ∧ OwA w' w.heap.size a c ys ∧ Below w.heap.size w w' ∧ xs.length ≤ c
/-- the box of an act that is copied. -/
structure CpI (q : Nat) (wr W : World) (cs : Array Value) : Prop where
  box : W.heap[q]? = some (.cells cs ActT (0, 0))
  low : Below wr.heap.size wr W
  lt : q < W.heap.size
theorem CpI.below {q : Nat} {wr W W' : World} {cs : Array Value} (h : CpI q wr W cs) (hb : Below W.heap.size W W') : CpI q wr W' cs := ⟨(hb.block _ h.lt).trans h.box, h.low.trans (hb.mono h.low.size), Nat.lt_of_lt_of_le h.lt hb.size⟩
theorem CpI.set {q : Nat} {wr W : World} {cs : Array Value} (h : CpI q wr W cs) (hq : wr.heap.size ≤ q) (i : Nat) (v : Value) : CpI q wr (W.setCell ⟨q, i, none⟩ v) (cs.setIfInBounds i v) := ⟨heap_setCell_same _ _ i _ _ _ h.box, h.low.setCell (p := ⟨q, i, none⟩) hq v, by simpa using h.lt⟩
theorem own_setJ {q : Nat} {W : World} {T : TypeId} {v : Value} {n : Nat} {vs : List Value} (h : W.ownsRow (q + 1) T 1 v n vs) (i : Nat) (u : Value) : (W.setCell ⟨q, i, none⟩ u).ownsRow (q + 1) T 1 v n vs :=
  h.kept (row := some q) ⟨rfl, rfl, rfl, by simp, fun k _ hk => heap_setCell_other _ _ _ _ (fun e => hk (by rw [e]))⟩ (.inr (fun e => by have := (h.lt q e).1; omega))
set_option maxRecDepth 100000 in
set_option maxHeartbeats 8000000 in
theorem copyActs_any (aa : Option Addr) (an ac : Nat) (xs : List ActR) (w : World) (h : ActsV w aa an xs) (hac : an ≤ ac) (hn : an ≤ 1000000) :
    Calls Try.prog 12 #[.slice aa an ac] w (GivesActs w xs) := by
  obtain ⟨i0, hi, hz0, hz1, hz2⟩ := info_parts ainfo
  have hlen := h.len
  have H := Lib.hid h
  have HLEN := Lib.hid hlen
  have O1 : Hid (OwA (w.alloc (.cells #[] ActT)) w.heap.size (some ⟨w.heap.size, 0, none⟩) 0 []) := Lib.hid (OwA.made (Nat.le_refl _))
  have B1 : Hid (Below w.heap.size w (w.alloc (.cells #[] ActT))) := Lib.hid (below_alloc w _)
  clear h hlen
  go_enter Try.func12, Try.ntmps12
  go_upto_region 2 with fail
  refine (?_ : ∀ W : World, Hid (OwA W w.heap.size (some ⟨w.heap.size, 0, none⟩) 0 []) → Hid (Below w.heap.size w W) → Code.wp Try.prog _ _ _ W) _ O1 B1
  clear O1 B1
  intro W O1 B1
  go_wp2
  go_loopw [3, 4] (fun vp vi wr => ∃ (k : Nat) (av : Option Addr) (cv : Nat) (ys : List YA), k ≤ an ∧ vi = .int .i64 (k : Nat) ∧ vp = .slice av k cv ∧ Hid (ys.length = k) ∧ Hid (ys.map Prod.fst = xs.take k) ∧ Hid (OwA wr w.heap.size av cv ys) ∧ Hid (Below w.heap.size w wr)) (fun _ vi _ => an - (intOf vi).toNat)
  case atStart => exact ⟨0, _, 0, [], Nat.zero_le _, rfl, rfl, Lib.hid rfl, Lib.hid (by simp), O1, B1⟩
  case round =>
    clear O1 B1
    obtain ⟨k, av, cv, ys, hk, rfl, rfl, HYL, HM, HO, HB⟩ := hrel
    by_cases hlt : k < an
    · obtain ⟨b, o, A, x, y, z, eaa, hA1, hA, at0⟩ := (H.out.below HB.out).at hlt
      have hs0 := at0.s
      subst eaa
      obtain ⟨e0, e1, e2, e3, e4, e5, e6, e7, e8, e9, ea, eb, ec, ed, ee, -⟩ := at0
      have HA1 := Lib.hid hA1
      have I1 : Hid (CpI wr.heap.size wr (wr.alloc (.cells #[.int .i64 A.cl, .int .i64 A.d, .int .i64 A.st, .int .i64 A.en, .string A.key, .slice x.1 x.2.1 x.2.2, .int .i64 A.rop, .int .i64 A.rdo, .string A.rkey, .slice y.1 y.2.1 y.2.2, .int .i64 A.tn, .int .i64 A.tc, .int .i64 A.code, .bool A.found, .slice z.1 z.2.1 z.2.2] ActT)) #[.int .i64 A.cl, .int .i64 A.d, .int .i64 A.st, .int .i64 A.en, .string A.key, .slice x.1 x.2.1 x.2.2, .int .i64 A.rop, .int .i64 A.rdo, .string A.rkey, .slice y.1 y.2.1 y.2.2, .int .i64 A.tn, .int .i64 A.tc, .int .i64 A.code, .bool A.found, .slice z.1 z.2.1 z.2.2]) := Lib.hid ⟨heap_alloc_new wr _, below_alloc wr _, by simp⟩
      have HVS := Lib.hid (And.intro (by have h1 := hs0.v.length; have h2 := hs0.v.small; omega : A.val.length ≤ 140737488355328) (And.intro (by have h1 := hs0.r.length; have h2 := hs0.r.small; omega : A.rval.length ≤ 140737488355328) (by have h1 := hs0.k.length; have h2 := hs0.k.small; omega : A.keys.length * 16 ≤ 140737488355328)))
      obtain ⟨n1, hn1⟩ : ∃ n, n = A.val.length := ⟨_, rfl⟩
      obtain ⟨n2, hn2⟩ : ∃ n, n = A.rval.length := ⟨_, rfl⟩
      obtain ⟨n3, hn3⟩ : ∃ n, n = A.keys.length := ⟨_, rfl⟩
      have HN1 := Lib.hid hn1
      have HN2 := Lib.hid hn2
      have HN3 := Lib.hid hn3
      have S0 := Lib.hid hs0
      have HFB : Hid (∀ g, ofB av = some g → g < wr.heap.size + 1) := Lib.hid (fun g hg => by
        have h1 := HO.out.own
        have := (h1.lt g (by rw [ofB_eq]; exact hg)).2
        omega)
      clear hs0 hA1 hA hn1 hn2 hn3
      go_upto_region 6 with fail
      refine (?_ : ∀ W1 : World, Hid (CpI wr.heap.size wr W1 #[.int .i64 A.cl, .int .i64 A.d, .int .i64 A.st, .int .i64 A.en, .string A.key, .slice x.1 x.2.1 x.2.2, .int .i64 A.rop, .int .i64 A.rdo, .string A.rkey, .slice y.1 y.2.1 y.2.2, .int .i64 A.tn, .int .i64 A.tc, .int .i64 A.code, .bool A.found, .slice z.1 z.2.1 z.2.2]) → Code.wp Try.prog _ _ _ W1) _ I1
      clear e0 e1 e2 e3 e4 e5 e6 e7 e8 e9 ea eb ec ed ee I1
      intro W1 I1
      obtain ⟨e0, e1, e2, e3, e4, e5, e6, e7, e8, e9, ea, eb, ec, ed, ee, eF⟩ := cells15 I1.out.box
      have f5 := eF 5
      have K1 := copyBytes_any x.1 x.2.1 x.2.2 A.val W1 (S0.out.below I1.out.low).v
      unfold GivesBytes at K1
      rw [← HN1.out] at K1
      clear eF
      go_wp2_with fail
      (with_reducible refine K1.mono ?_)
      rintro e w2 ⟨a1, c1, rfl, o1, b1⟩
      have I2 := Lib.hid (I1.out.below b1)
      have P2 := Lib.hid (ownsRow_baseJ o1 (show wr.heap.size + 1 ≤ W1.heap.size from I1.out.lt))
      clear o1 b1 K1 e0 e1 e2 e3 e4 e5 e6 e7 e8 e9 ea eb ec ed ee f5 I1
      obtain ⟨e0, e1, e2, e3, e4, e5, e6, e7, e8, e9, ea, eb, ec, ed, ee, eF⟩ := cells15 I2.out.box
      have f5 := eF 5
      clear eF
      go_upto_region 7 with fail
      refine (?_ : ∀ W3 : World, Hid (CpI wr.heap.size wr W3 #[.int .i64 A.cl, .int .i64 A.d, .int .i64 A.st, .int .i64 A.en, .string A.key, .slice a1 n1 c1, .int .i64 A.rop, .int .i64 A.rdo, .string A.rkey, .slice y.1 y.2.1 y.2.2, .int .i64 A.tn, .int .i64 A.tc, .int .i64 A.code, .bool A.found, .slice z.1 z.2.1 z.2.2]) → Hid (W3.ownsRow (wr.heap.size + 1) 5 1 (.slice a1 n1 c1) n1 (A.val.map bv)) → Code.wp Try.prog _ _ _ W3) _ (Lib.hid (I2.out.set (Nat.le_refl _) 5 (.slice a1 n1 c1))) (Lib.hid (own_setJ P2.out 5 (.slice a1 n1 c1)))
      clear e0 e1 e2 e3 e4 e5 e6 e7 e8 e9 ea eb ec ed ee f5 I2 P2
      intro W3 I3 P3
      obtain ⟨e0, e1, e2, e3, e4, e5, e6, e7, e8, e9, ea, eb, ec, ed, ee, eF⟩ := cells15 I3.out.box
      have f9 := eF 9
      have K1 := copyBytes_any y.1 y.2.1 y.2.2 A.rval W3 (S0.out.below I3.out.low).r
      unfold GivesBytes at K1
      rw [← HN2.out] at K1
      clear eF
      go_wp2_with fail
      (with_reducible refine K1.mono ?_)
      rintro e w4 ⟨a2, c2, rfl, o1, b1⟩
      have I4 := Lib.hid (I3.out.below b1)
      have Q4 := Lib.hid (ownsRow_baseJ o1 (show wr.heap.size + 1 ≤ W3.heap.size from I3.out.lt))
      have P4 := Lib.hid (own_belowJ P3.out b1)
      clear o1 b1 K1 e0 e1 e2 e3 e4 e5 e6 e7 e8 e9 ea eb ec ed ee f9 I3 P3
      obtain ⟨e0, e1, e2, e3, e4, e5, e6, e7, e8, e9, ea, eb, ec, ed, ee, eF⟩ := cells15 I4.out.box
      have f9 := eF 9
      clear eF
      go_upto_region 8 with fail
      refine (?_ : ∀ W5 : World, Hid (CpI wr.heap.size wr W5 #[.int .i64 A.cl, .int .i64 A.d, .int .i64 A.st, .int .i64 A.en, .string A.key, .slice a1 n1 c1, .int .i64 A.rop, .int .i64 A.rdo, .string A.rkey, .slice a2 n2 c2, .int .i64 A.tn, .int .i64 A.tc, .int .i64 A.code, .bool A.found, .slice z.1 z.2.1 z.2.2]) → Hid (W5.ownsRow (wr.heap.size + 1) 5 1 (.slice a1 n1 c1) n1 (A.val.map bv)) → Hid (W5.ownsRow (wr.heap.size + 1) 5 1 (.slice a2 n2 c2) n2 (A.rval.map bv)) → Code.wp Try.prog _ _ _ W5) _ (Lib.hid (I4.out.set (Nat.le_refl _) 9 (.slice a2 n2 c2))) (Lib.hid (own_setJ P4.out 9 (.slice a2 n2 c2))) (Lib.hid (own_setJ Q4.out 9 (.slice a2 n2 c2)))
      clear e0 e1 e2 e3 e4 e5 e6 e7 e8 e9 ea eb ec ed ee f9 I4 P4 Q4
      intro W5 I5 P5 Q5
      obtain ⟨e0, e1, e2, e3, e4, e5, e6, e7, e8, e9, ea, eb, ec, ed, ee, eF⟩ := cells15 I5.out.box
      have f14 := eF 14
      have K1 := copyTexts_any z.1 z.2.1 z.2.2 A.keys W5 (S0.out.below I5.out.low).k
      unfold GivesTexts at K1
      rw [← HN3.out] at K1
      clear eF
      go_wp2_with fail
      (with_reducible refine K1.mono ?_)
      rintro e w6 ⟨a3, c3, rfl, o1, b1⟩
      have I6 := Lib.hid (I5.out.below b1)
      have R6 := Lib.hid (ownsRow_baseJ o1 (show wr.heap.size + 1 ≤ W5.heap.size from I5.out.lt))
      have P6 := Lib.hid (own_belowJ P5.out b1)
      have Q6 := Lib.hid (own_belowJ Q5.out b1)
      clear o1 b1 K1 e0 e1 e2 e3 e4 e5 e6 e7 e8 e9 ea eb ec ed ee f14 I5 P5 Q5
      obtain ⟨e0, e1, e2, e3, e4, e5, e6, e7, e8, e9, ea, eb, ec, ed, ee, eF⟩ := cells15 I6.out.box
      have f14 := eF 14
      clear eF
      go_upto_region 9 with fail
      refine (?_ : ∀ W7 : World, Hid (CpI wr.heap.size wr W7 #[.int .i64 A.cl, .int .i64 A.d, .int .i64 A.st, .int .i64 A.en, .string A.key, .slice a1 n1 c1, .int .i64 A.rop, .int .i64 A.rdo, .string A.rkey, .slice a2 n2 c2, .int .i64 A.tn, .int .i64 A.tc, .int .i64 A.code, .bool A.found, .slice a3 n3 c3]) → Hid (W7.ownsRow (wr.heap.size + 1) 5 1 (.slice a1 n1 c1) n1 (A.val.map bv)) → Hid (W7.ownsRow (wr.heap.size + 1) 5 1 (.slice a2 n2 c2) n2 (A.rval.map bv)) → Hid (W7.ownsRow (wr.heap.size + 1) 9 1 (.slice a3 n3 c3) n3 (A.keys.map Value.string)) → Code.wp Try.prog _ _ _ W7) _ (Lib.hid (I6.out.set (Nat.le_refl _) 14 (.slice a3 n3 c3))) (Lib.hid (own_setJ P6.out 14 (.slice a3 n3 c3))) (Lib.hid (own_setJ Q6.out 14 (.slice a3 n3 c3))) (Lib.hid (own_setJ R6.out 14 (.slice a3 n3 c3)))
      clear e0 e1 e2 e3 e4 e5 e6 e7 e8 e9 ea eb ec ed ee f14 I6 P6 Q6 R6
      intro W7 I7 P7 Q7 R7
      obtain ⟨e0, e1, e2, e3, e4, e5, e6, e7, e8, e9, ea, eb, ec, ed, ee, -⟩ := cells15 I7.out.box
      go_wp2_with (first | (at_builtin; refine Hid.out ?_))
      refine Lib.hid ?_
      have b8 := below_alloc W7 (.cells #[.int .i64 A.cl, .int .i64 A.d, .int .i64 A.st, .int .i64 A.en, .string A.key, .slice a1 n1 c1, .int .i64 A.rop, .int .i64 A.rdo, .string A.rkey, .slice a2 n2 c2, .int .i64 A.tn, .int .i64 A.tc, .int .i64 A.code, .bool A.found, .slice a3 n3 c3] ActT)
      have o8 := (HO.out.below I7.out.low).below b8
      have o8o := o8.own
      rw [HYL.out] at o8o
      have sA : ActS (W7.alloc (.cells #[.int .i64 A.cl, .int .i64 A.d, .int .i64 A.st, .int .i64 A.en, .string A.key, .slice a1 n1 c1, .int .i64 A.rop, .int .i64 A.rdo, .string A.rkey, .slice a2 n2 c2, .int .i64 A.tn, .int .i64 A.tc, .int .i64 A.code, .bool A.found, .slice a3 n3 c3] ActT)) A (a1, n1, c1) (a2, n2, c2) (a3, n3, c3) := by
        have hv := HVS.out
        exact ⟨(bytesV_of_owns P7.out S0.out.v.bytes (by rw [HN1.out]; exact hv.1)).below b8, (bytesV_of_owns Q7.out S0.out.r.bytes (by rw [HN2.out]; exact hv.2.1)).below b8, (txV_own R7.out (by rw [HN3.out]; exact hv.2.2)).below b8⟩
      have F1 := far_own P7.out HFB.out
      have F2 := far_own Q7.out HFB.out
      have F3 := far_own R7.out HFB.out
      have hbs : w.heap.size ≤ (W7.alloc (.cells #[.int .i64 A.cl, .int .i64 A.d, .int .i64 A.st, .int .i64 A.en, .string A.key, .slice a1 n1 c1, .int .i64 A.rop, .int .i64 A.rdo, .string A.rkey, .slice a2 n2 c2, .int .i64 A.tn, .int .i64 A.tc, .int .i64 A.code, .bool A.found, .slice a3 n3 c3] ActT)).heap.size := Nat.le_trans HB.out.size (Nat.le_trans I7.out.low.size b8.size)
      refine wpList_append_lies _ rfl (.tmp 33) (.tmp 35) 22 rfl w.heap.size ActT i0 (.agg #[.int .i64 0, .int .i64 0, .int .i64 0, .int .i64 0, .string ⟨#[]⟩, .slice none 0 0, .int .i64 0, .int .i64 0, .string ⟨#[]⟩, .slice none 0 0, .int .i64 0, .int .i64 0, .int .i64 0, .bool false, .slice none 0 0]) 15 184 Try.underlying22 hi hz0 hz1 hz2 rfl (by decide) (.slice av k cv) k (acells ys) rfl o8o ⟨W7.heap.size, 0, none⟩ 1 1 [.int .i64 A.cl, .int .i64 A.d, .int .i64 A.st, .int .i64 A.en, .string A.key, .slice a1 n1 c1, .int .i64 A.rop, .int .i64 A.rdo, .string A.rkey, .slice a2 n2 c2, .int .i64 A.tn, .int .i64 A.tc, .int .i64 A.code, .bool A.found, .slice a3 n3 c3] rfl rfl (World.news_of_block (heap_alloc_new W7 _)) (by intro u hu; simp at hu; rcases hu with rfl | rfl | rfl | rfl | rfl | rfl | rfl | rfl | rfl | rfl | rfl | rfl | rfl | rfl | rfl <;> rfl) (by decide) (by simp [maxLen]; omega) (by omega) hbs _ rfl ?_
      intro g9 c9 w9 hE9 g9' lie9 _
      rw [← HYL.out] at hE9 g9' lie9
      have hwr := HB.out.size
      have HN := Lib.hid (o8.snoc sA F1 F2 F3 ⟨hi_own P7.out (by omega), hi_own Q7.out (by omega), hi_own R7.out (by omega)⟩ hE9 g9' lie9)
      have B9 := Lib.hid (below_grown (HB.out.trans ((I7.out.low.trans (b8.mono I7.out.low.size)).mono HB.out.size)) g9' (ownBlock_geJ o8.own))
      have HYL2 := Lib.hid HYL.out
      clear b8 o8 o8o sA F1 F2 F3 hbs hE9 g9' lie9 e0 e1 e2 e3 e4 e5 e6 e7 e8 e9 ea eb ec ed ee
      go_wp2
      go_roundw
      case rel => exact ⟨k + 1, some ⟨g9, 0, none⟩, c9, _, by omega, by go_num, rfl, Lib.hid (by rw [List.length_append, HYL.out]; rfl), Lib.hid (by
        have hkx : k < xs.length := by rw [HLEN.out]; exact hlt
        rw [List.map_append, HM.out, List.take_succ_eq_append_getElem hkx]
        have := HA1.out
        rw [List.getElem?_eq_getElem hkx] at this
        injection this with this
        rw [this]; rfl), HN, B9⟩
      case measure => simp [intOf]; omega
    · obtain rfl : k = an := by omega
      have hown := HO.out.own
      rw [HYL.out] at hown
      have hcv : k ≤ cv := by
        rcases hown.2 with ⟨e1, e2⟩ | ⟨g, cap, cur, e, -, -, hnc, -⟩
        · omega
        · injection e with e1 e2 e3; omega
      have HCV := Lib.hid hcv
      clear hcv hown
      go_wp2
      go_ret
      have h1 := HLEN.out
      exact ⟨av, cv, ys, by rw [h1]; rfl, by rw [HM.out, List.take_of_length_le (by omega)], HO.out, HB.out, by rw [h1]; exact HCV.out⟩
end Go.Proofs.Ytnefcbcioemfiaa
