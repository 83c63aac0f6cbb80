/-
  rilllaw08: DiskSafe.
-/
import Derived.Test.YtdidalcflkphnaaDjK
import Derived.Test.YtdidalcflkphnaaDjI
namespace Go.Proofs.Ytdidalcflkphnaa
open Go.RowKit

structure One (B : Nat) (w0 w : World) (F : Nat → Prop) (g : Nat) (d : DV) : Prop where
  a : DL B w F g d
  bel : Below B w0 w
theorem One.below {B : Nat} {w0 w w' : World} {F : Nat → Prop} {g : Nat} {d : DV} (h : One B w0 w F g d) (hb : Below w.heap.size w w') : One B w0 w' F g d := ⟨h.a.below hb, h.bel.trans (hb.mono h.a.base)⟩
theorem One.step {B : Nat} {w0 w w' : World} {F : Nat → Prop} {g : Nat} {d d' : DV} {e : Ending} {err : Int} (h : One B w0 w F g d) (s : StepL B F g d' err w e w') :
    e = .returned (.int .i64 err) ∧ ∃ F', One B w0 w' F' g d' ∧ (∀ q, F' q → F q ∨ w.heap.size ≤ q) ∧ ChF F w w' := by
  obtain ⟨he, F', hD, hF, hc⟩ := s
  exact ⟨he, F', ⟨hD, chF_lo h.bel hc h.a.lo h.a.base⟩, hF, hc⟩
def Out1 (t : Nat) (w : World) (F : Nat → Prop) : Prop := t < w.heap.size ∧ ¬ F t
theorem One.out {B : Nat} {w0 w : World} {F : Nat → Prop} {g : Nat} {d : DV} (h : One B w0 w F g d) (ob : Obj) : Out1 w.heap.size (w.alloc ob) F := ⟨by rw [alloc_sz]; omega, fun e => by have := h.a.hi _ e; omega⟩
theorem Out1.step {t : Nat} {w w' : World} {F F' : Nat → Prop} (h : Out1 t w F) (hF : ∀ q, F' q → F q ∨ w.heap.size ≤ q) (hc : ChF F w w') : Out1 t w' F' ∧ w'.heap[t]? = w.heap[t]? :=
  ⟨⟨Nat.lt_of_lt_of_le h.1 hc.size, fun e => by
    rcases hF t e with k | k
    · exact h.2 k
    · have := h.1; omega⟩, hc.block t h.1 h.2⟩
theorem Out1.below {t : Nat} {w w' : World} {F : Nat → Prop} (h : Out1 t w F) (hb : Below w.heap.size w w') : Out1 t w' F ∧ w'.heap[t]? = w.heap[t]? := ⟨⟨Nat.lt_of_lt_of_le h.1 hb.size, h.2⟩, hb.block t h.1⟩
structure RelS (d : DV) (N m : Nat) : Prop where
  p1 : d.pow = -1
  n1 : d.sl.length = N
  len : d.read.length ≤ m
  still : ∀ s ∈ d.sl, s.2.2 = false → s.1 = s.2.1
theorem RelS.new (N : Nat) : RelS (newV N (-1)) N 0 := ⟨rfl, by simp [newV, noSl], by simp [newV], fun s hs _ => by
  have : s = ([], [], false) := List.eq_of_mem_replicate hs
  rw [this]⟩
theorem RelS.more {d : DV} {N m m' : Nat} (h : RelS d N m) (hm : m ≤ m') : RelS d N m' := ⟨h.p1, h.n1, Nat.le_trans h.len hm, h.still⟩
theorem RelS.app {d : DV} {N m : Nat} (h : RelS d N m) (l : List Nat) : RelS (appV d l).1 N (m + l.length) := by
  have e1 : appV d l = ({ d with pow := -1, read := d.read ++ l }, 0) := by unfold appV; rw [if_neg (by rw [h.p1]; decide), h.p1]; rfl
  rw [e1]
  exact ⟨rfl, h.n1, by simp only [List.length_append]; have := h.len; omega, h.still⟩
theorem RelS.lay {d : DV} {N m : Nat} (h : RelS d N m) (l : List Nat) : RelS (layV d l).1 N (m + l.length) := by
  have e1 : layV d l = ({ d with pow := -1, read := l, base := l.length, laid := true }, 0) := by unfold layV; rw [if_neg (by rw [h.p1]; decide), h.p1]; rfl
  rw [e1]
  exact ⟨rfl, h.n1, by simp only; omega, h.still⟩
theorem RelS.write {d : DV} {N m : Nat} (h : RelS d N m) (i : Int) (l : List Nat) : RelS (writeV d i l).1 N m := by
  unfold writeV
  split
  · split
    · exact h
    · rw [if_neg (by rw [h.p1]; decide)]
      refine ⟨by simp only [h.p1]; rfl, by simpa using h.n1, h.len, fun s hs hw => ?_⟩
      rcases List.mem_or_eq_of_mem_set hs with q | q
      · exact h.still s q hw
      · rw [q] at hw; cases hw
  · exact h
/-- all is safe, then the log grows. -/
def dS (d : DV) (more : List Nat) : DV := (appV (slotsV (syncV d).1).1 more).1
theorem dS_is {d : DV} {N m : Nat} (h : RelS d N m) (more : List Nat) : dS d more = { pow := -1, safe := d.read, read := d.read ++ more, base := d.read.length, laid := false, sl := d.sl.map syncS } := by
  have e1 : syncV d = ({ d with pow := -1, safe := d.read, base := d.read.length, laid := false }, 0) := by unfold syncV; rw [if_neg (by rw [h.p1]; decide), h.p1]; rfl
  unfold dS
  rw [e1]
  rfl
theorem remS_same (r : List Nat) (f : Int) : remS r r f = r := by
  unfold remS
  split
  · rfl
  · split
    · rw [show min (r.length / 2) r.length = r.length / 2 by omega, List.take_append_drop]
    · rfl
theorem dS_left {d : DV} {N m : Nat} (h : RelS d N m) (more : List Nat) (keep : Int) (reset : Bool) (fs : List Int) (p : Int) (i : Int) : readV (leftV (dS d more) keep reset fs p) i = readV (dS d more) i := by
  rw [dS_is h]
  unfold readV leftV
  simp only
  rw [leftTo_length]
  by_cases hi : 0 ≤ i ∧ i < ((d.sl.map syncS).length : Int)
  · rw [if_pos hi, if_pos hi]
    have hl : i.toNat < (d.sl.map syncS).length := by omega
    have hl' : i.toNat < d.sl.length := by simpa using hl
    rw [List.getD_eq_getElem?_getD, leftTo_at _ _ _ _ hl hl]
    show ((leftS fs (cntW (d.sl.map syncS) i.toNat) ((d.sl.map syncS).getD i.toNat ([], [], false))).2.1, (0 : Int)) = _
    have hs : (d.sl.map syncS).getD i.toNat ([], [], false) = syncS d.sl[i.toNat] := by rw [List.getD_eq_getElem?_getD, List.getElem?_map, List.getElem?_eq_getElem hl']; rfl
    rw [hs]
    have he : (syncS d.sl[i.toNat]).1 = (syncS d.sl[i.toNat]).2.1 := by
      unfold syncS
      split
      · rfl
      · rename_i hw
        exact h.still _ (List.getElem_mem hl') (by simpa using hw)
    unfold leftS
    rw [he, remS_same]
  · rw [if_neg hi, if_neg hi]
theorem dS_log {d : DV} {N m : Nat} (h : RelS d N m) (more : List Nat) (keep : Int) (reset : Bool) (fs : List Int) (p : Int) : (leftV (dS d more) keep reset fs p).read = d.read ++ more.take (min keep.toNat more.length) := by
  rw [dS_is h]
  unfold leftV logS
  simp only
  rw [if_neg (by simp)]
  rw [List.length_append, show d.read.length + more.length - d.read.length = more.length by omega]
  rw [List.take_append, List.take_of_length_le (by omega), show d.read.length + min keep.toNat more.length - d.read.length = min keep.toNat more.length by omega]
theorem bytes_take {w : World} {a : Option Addr} {n c m : Nat} {l : List Nat} (h : BytesV w (a, n, c) l) (hm : m ≤ n) : BytesV w (a, m, c) (l.take m) := by
  have hl : l.length = n := h.length
  have hc : n ≤ c := h.cap
  have hs : n ≤ 140737488355328 := h.small
  exact ⟨⟨by simp [hl]; omega, fun h0 => by
    obtain ⟨b, off, e, hcl⟩ := h.row.2 (by simp only at h0 ⊢; omega)
    exact ⟨b, off, e, fun i hi => by simp only at hi ⊢; rw [hcl i (by simp only; omega), List.getElem?_map, List.getElem?_map, List.getElem?_take, if_pos hi]⟩⟩, fun y hy => h.bytes y (List.mem_of_mem_take hy), by simp only; omega, by simp only; omega, h.nil⟩
set_option maxRecDepth 100000 in
set_option maxHeartbeats 16000000 in
theorem diskSafe_walk (slots : Int) (a1 : Option Addr) (n1 c1 : Nat) (O : Nat → OpR) (a2 : Option Addr) (n2 c2m : Nat) (l2 : List Nat) (fkeep : Int) (freset : Bool) (fa : Option Addr) (fn fc : Nat) (fs : List Int) (w0 : World) (_w0 : (Lit.int .i64 slots).wf = true) (h1 : CallsV w0 a1 n1 c1 O) (k1 : ∀ i, i < n1 → (O i).b.length ≤ 1048576)
    (h2 : BytesV w0 (a2, n2, c2m) l2) (_s2 : n2 ≤ 140737488351232) (h3 : IntsV w0 (fa, fn, fc) fs) (s3 : fn * 8 ≤ 140737488351232) (z3 : ∀ z ∈ fs, (Lit.int .i64 z).wf = true) (_k3 : (Lit.int .i64 fkeep).wf = true) :
    Calls Try.prog 5 #[.int .i64 slots, .slice a1 n1 c1, .slice a2 n2 c2m, .agg #[.int .i64 fkeep, .bool freset, .slice fa fn fc]] w0 fun e W' => e = .returned (.bool true) ∧ Below w0.heap.size w0 W' := by
  obtain rfl : l2.length = n2 := h2.length
  obtain rfl : fs.length = fn := h3.length
  have b0 := below_alloc w0 (.cells #[.int .i64 fkeep, .bool freset, .slice fa fs.length fc] FT)
  obtain ⟨w, hw⟩ : ∃ x, x = w0.alloc (.cells #[.int .i64 fkeep, .bool freset, .slice fa fs.length fc] FT) := ⟨_, rfl⟩
  have ef : w.heap[w0.heap.size]? = some (.cells #[.int .i64 fkeep, .bool freset, .slice fa fs.length fc] FT) := by rw [hw]; exact heap_alloc_self w0 _
  have hwz : w.heap.size = w0.heap.size + 1 := by rw [hw]; exact alloc_sz w0 _
  rw [← hw] at b0
  have HW := Lib.hid hw
  have HB0 := Lib.hid b0
  have H1 := Lib.hid (h1.below b0)
  have H2 := Lib.hid (h2.below b0)
  have H3 := Lib.hid (h3.below b0)
  have HEF := Lib.hid ef
  have K1 := Lib.hid k1
  have hz3 : ∀ z ∈ fs, -9223372036854775808 ≤ z ∧ z ≤ 9223372036854775807 := fun z hz => wf_i64 (z3 z hz)
  have KA := alive8_any w
  clear h1 h2 h3 hw b0 ef z3 k1
  go_enter Try.func5, Try.ntmps5
  go_wp2_with fail
  rw [← HW.out]
  obtain ⟨tf, htf⟩ : ∃ t, t = w0.heap.size := ⟨_, rfl⟩
  rw [← htf]
  have HTF := Lib.hid htf
  clear htf
  (with_reducible refine KA.mono ?_)
  rintro e w1 ⟨rfl, b1⟩
  clear KA
  have hb0w : ∀ W', Below w.heap.size w W' → Below w0.heap.size w0 W' := fun W' b => HB0.out.trans (b.mono HB0.out.size)
  have HB0W := Lib.hid hb0w
  have HB1 := Lib.hid b1
  clear hb0w b1
  by_cases hs0 : slots < 1 ∨ 512 < slots
  · have KN := new_bad slots (-1) w1 hs0
    go_wp2_with fail
    (with_reducible refine KN.mono ?_)
    rintro e w2 ⟨rfl, hw2⟩
    subst hw2
    clear KN
    go_wp2
    go_ret
    exact ⟨rfl, HB0W.out _ HB1.out⟩
  obtain ⟨N, rfl⟩ : ∃ N : Nat, slots = N := ⟨slots.toNat, by omega⟩
  have KN := new_l w.heap.size N (-1) w1 HB1.out.size (by omega) (by omega) (by omega)
  go_wp2_with fail
  (with_reducible refine KN.mono ?_)
  rintro e w2 ⟨g, F2, rfl, D2, -, b2⟩
  have HT2 := Lib.hid (show One w.heap.size w w2 F2 g (newV N (-1)) from ⟨D2, HB1.out.trans (b2.mono HB1.out.size)⟩)
  clear KN b2 D2 HB1
  by_cases hs1 : 20 < (N : Int)
  · go_wp2
    go_ret
    exact ⟨rfl, HB0W.out _ HT2.out.bel⟩
  by_cases hm : 5000 < l2.length
  · have hmI : (5000 : Int) < (l2.length : Int) := by omega
    go_wp2
    go_ret
    exact ⟨rfl, HB0W.out _ HT2.out.bel⟩
  have hmI : ¬ (5000 : Int) < (l2.length : Int) := by omega
  have HR2 := Lib.hid (RelS.new N)
  have KU := cut8_any a1 n1 c1 w2 H1.out.cap H1.out.capm
  go_wp2_with fail
  (with_reducible refine KU.mono ?_)
  rintro e w4 ⟨rfl, hw4⟩
  subst hw4
  obtain ⟨n, hn⟩ : ∃ n, n = min n1 60 := ⟨_, rfl⟩
  rw [← hn]
  have HC := Lib.hid (H1.out.cut (m := n) (by omega))
  have HN1 := Lib.hid (show n ≤ n1 ∧ n ≤ 60 by omega)
  have hcap := HC.out.cap
  clear KU hn
  go_wp2_with fail
  go_loopw [11] (fun vi wr => ∃ (i : Nat) (F : Nat → Prop) (d : DV), i ≤ n ∧ vi = .int .i64 (i : Nat) ∧ Hid (One w.heap.size w wr F g d) ∧ Hid (RelS d N (i * 1048576))) (fun vi _ => (n - intOf vi).toNat)
  case atStart => exact ⟨0, F2, _, Nat.zero_le _, rfl, HT2, by rw [Nat.zero_mul]; exact HR2⟩
  case round =>
    clear HT2 HR2
    obtain ⟨i, F, d, hi, rfl, hT, hR⟩ := hrel
    by_cases hlt : i < n
    · obtain ⟨b, off, e, hblt, hrow⟩ := HC.out.row (by omega)
      have hat0 := hrow i hlt
      have hat := hat0.below hblt hT.out.bel
      have hlen := K1.out i (by have := HN1.out; omega)
      have h60 := HN1.out.2
      subst e
      obtain ⟨x, hx⟩ : ∃ x, x = O i := ⟨_, rfl⟩
      rw [← hx] at hat hat0 hlen
      clear hx hrow
      obtain ⟨what, nn, mm, ⟨b1, b2, b3⟩, l, keep, reset, ⟨f1, f2, f3⟩, f⟩ := x
      obtain ⟨c0, c1', c2, c3, c4, c5, c6, hby, his, wn, wm, wk, wf, hfs⟩ := hat
      obtain ⟨-, -, -, -, -, -, -, hbw, -, -, -, -, -, -⟩ := hat0
      simp only at c0 c1' c2 c3 c4 c5 c6 hby his wn wm wk wf hfs hbw hlen
      obtain rfl : l.length = b2 := hby.length
      have hiI : (i : Int) < (n : Int) := by omega
      have T4 := hT.out.below (below_alloc wr (.cells #[.int .i64 what, .int .i64 nn, .int .i64 mm, .slice b1 l.length b3, .int .i64 keep, .bool reset, .slice f1 f2 f3] OT))
      have O4 := hT.out.out (.cells #[.int .i64 what, .int .i64 nn, .int .i64 mm, .slice b1 l.length b3, .int .i64 keep, .bool reset, .slice f1 f2 f3] OT)
      have e4 := heap_alloc_self wr (.cells #[.int .i64 what, .int .i64 nn, .int .i64 mm, .slice b1 l.length b3, .int .i64 keep, .bool reset, .slice f1 f2 f3] OT)
      have HT4 := Lib.hid T4
      have HO4 := Lib.hid O4
      have HE4 := Lib.hid e4
      have HBW := Lib.hid hbw
      have HR := Lib.hid hR.out
      clear T4 O4 e4 hbw hby his hT hR wn wm wk wf hfs
      by_cases h1 : what = 1
      · obtain rfl := h1
        have KA := append_l w.heap.size F g d b1 l.length b3 l _ HT4.out.a (HBW.out.below HT4.out.bel) (HT4.out.a.apart HBW.out (Nat.le_refl _)) (by have := HR.out.len; omega)
        go_wp2_with fail
        (with_reducible refine KA.mono ?_)
        rintro e w5 hst
        obtain ⟨rfl, F5, T5, hF5, hc5⟩ := HT4.out.step hst
        have HT5 := Lib.hid T5
        clear KA hst hF5 hc5 T5 HT4 HO4 HE4
        go_wp2
        go_roundw
        case rel => exact ⟨i + 1, F5, _, by omega, by go_num, HT5, Lib.hid ((HR.out.app l).more (by omega))⟩
        case measure => simp [intOf]; omega
      by_cases h2 : what = 2
      · obtain rfl := h2
        have KA := copyBytes_any b1 l.length b3 l _ (HBW.out.below HT4.out.bel)
        go_wp2_with fail
        (with_reducible refine KA.mono ?_)
        rintro e w5 ⟨a5, c5n, rfl, o5, bb5⟩
        have T5 := HT4.out.below bb5
        have KB := lay_l w.heap.size F g d a5 l.length c5n l w5 T5.a (bytesV_of_owns o5 HBW.out.bytes (by omega)) (HT4.out.a.apartN (x := (a5, l.length, c5n)) o5) (by omega)
        have HT5 := Lib.hid T5
        clear KA bb5 o5 T5 HT4 HO4 HE4
        go_wp2_with fail
        (with_reducible refine KB.mono ?_)
        rintro e w6 hst
        obtain ⟨rfl, F6, T6, hF6, hc6⟩ := HT5.out.step hst
        have HT6 := Lib.hid T6
        clear KB hst hF6 hc6 T6 HT5
        go_wp2
        go_roundw
        case rel => exact ⟨i + 1, F6, _, by omega, by go_num, HT6, Lib.hid ((HR.out.lay l).more (by omega))⟩
        case measure => simp [intOf]; omega
      by_cases h4 : what = 4
      · obtain rfl := h4
        obtain ⟨t, ht⟩ : ∃ t, t = wr.heap.size := ⟨_, rfl⟩
        have hnw := HT4.out
        have hno := HO4.out
        have hne := HE4.out
        go_wp2
        obtain ⟨w4', hw4'⟩ : ∃ x, x = wr.alloc (.cells #[.int .i64 4, .int .i64 nn, .int .i64 mm, .slice b1 l.length b3, .int .i64 keep, .bool reset, .slice f1 f2 f3] OT) := ⟨_, rfl⟩
        rw [← hw4'] at hnw hno hne ⊢
        rw [← ht] at hno hne ⊢
        have HT4' := Lib.hid hnw
        have HO4' := Lib.hid hno
        have PK := Lib.hid (show ∀ (W : World), W.heap[t]? = some (.cells #[.int .i64 4, .int .i64 nn, .int .i64 mm, .slice b1 l.length b3, .int .i64 keep, .bool reset, .slice f1 f2 f3] OT (0, 0)) → W.cell? ⟨t, 1, none⟩ = some (.int .i64 nn) ∧ W.cell? ⟨t, 3, none⟩ = some (.slice b1 l.length b3) from fun W h => by
          obtain ⟨-, q1, -, q3, -, -, -⟩ := cells7D h
          exact ⟨q1, q3⟩)
        have P4 := PK.out w4' hne
        have HE4' := Lib.hid hne
        have bd4 : Below w4'.heap.size w4' w4'.drew := ⟨rfl, rfl, rfl, Nat.le_refl _, fun _ _ => rfl⟩
        have KCC := Lib.hid (copyBytes_any b1 l.length b3 l w4'.drew (HBW.out.below (HT4'.out.below bd4).bel))
        clear hw4' ht hnw hno hne HT4 HO4 HE4 c0 c1' c2 c3 c4 c5 c6
        go_region_held3 (fun w' => w'.cell? ⟨t, 1, none⟩ = some (.int .i64 nn) ∧ w'.cell? ⟨t, 3, none⟩ = some (.slice b1 l.length b3)) (first | exact P4 | exact P5 | exact P6 | go_keep)
          (first
            | (go_at_call 22; (with_reducible refine KCC.out.mono ?_); rintro e w5 ⟨a5, c5n, rfl, o5, bb5⟩; have bb5' : Below w4'.heap.size w4' w5 := ⟨bb5.os, bb5.tape, bb5.output, bb5.size, bb5.block⟩; have o5' : w5.ownsRow w4'.heap.size 5 1 (.slice a5 l.length c5n) l.length (l.map bv) := o5; have HT5 := Lib.hid (HT4'.out.below bb5'); have HO5 := Lib.hid (HO4'.out.below bb5').1; have HE5 := Lib.hid ((HO4'.out.below bb5').2.trans HE4'.out); have P5 := PK.out w5 HE5.out; have KW := Lib.hid (write_l w.heap.size F g d nn a5 l.length c5n l w5 HT5.out.a (bytesV_of_owns o5' HBW.out.bytes (by omega)) (HT4'.out.a.apartN (x := (a5, l.length, c5n)) o5')); clear bb5 o5 bb5' o5')
            | (go_at_call 23; (with_reducible refine KW.out.mono ?_); rintro e w6 hst; obtain ⟨rfl, F6, T6, hF6, hc6⟩ := HT5.out.step hst; have HT6 := Lib.hid T6; have P6 := PK.out w6 ((HO5.out.step hF6 hc6).2.trans HE5.out); clear hst T6 hF6 hc6))
        go_wp2
        go_roundw
        case rel => exact ⟨i + 1, F6, _, by omega, by go_num, HT6, Lib.hid ((HR.out.write nn l).more (by omega))⟩
        case measure => simp [intOf]; omega
      have HTx := Lib.hid (show One w.heap.size w (wr.alloc (.cells #[.int .i64 what, .int .i64 nn, .int .i64 mm, .slice b1 l.length b3, .int .i64 keep, .bool reset, .slice f1 f2 f3] OT)) F g d from HT4.out)
      clear HO4 HE4 HT4
      go_wp2
      go_roundw
      case rel => exact ⟨i + 1, F, _, by omega, by go_num, HTx, Lib.hid (HR.out.more (by omega))⟩
      case measure => simp [intOf]; omega
    · obtain rfl : i = n := by omega
      have HR := Lib.hid hR.out
      have HRD := Lib.hid (hT.out.a.m.logB)
      have h60 := HN1.out.2
      have hrl := HR.out.len
      have KS := sync_l w.heap.size F g d _ hT.out.a
      have HT := Lib.hid hT.out
      clear hT hR hlt hi hcap
      go_wp2_with fail
      (with_reducible refine KS.mono ?_)
      rintro e w5 hst
      obtain ⟨rfl, F5, T5, -, -⟩ := HT.out.step hst
      have KS2 := slots_l w.heap.size F5 g _ w5 T5.a
      have HT5 := Lib.hid T5
      clear KS hst T5 HT
      go_wp2_with fail
      (with_reducible refine KS2.mono ?_)
      rintro e w6 hst
      obtain ⟨rfl, F6, T6, -, -⟩ := HT5.out.step hst
      obtain ⟨RD, hRD⟩ : ∃ X, X = d.read := ⟨_, rfl⟩
      have hrd3 : (slotsV (syncV d).1).1.read = RD := by
        have e1 : syncV d = ({ d with pow := -1, safe := d.read, base := d.read.length, laid := false }, 0) := by unfold syncV; rw [if_neg (by rw [HR.out.p1]; decide), HR.out.p1]; rfl
        rw [e1, hRD]; rfl
      have KG := log_any F6 g _ w6 T6.a.m
      rw [hrd3] at KG
      have hRb : Bytes RD := by rw [hRD]; exact HRD.out.1
      have hRl : RD.length ≤ 62914560 := by rw [hRD]; omega
      have HT6 := Lib.hid T6
      have HRDE := Lib.hid hRD
      have HRD3 := Lib.hid hrd3
      clear KS2 hst T6 HT5 hRD hrd3 HRD hrl
      go_wp2_with fail
      (with_reducible refine KG.mono ?_)
      rintro e w7 ⟨a13, c13, rfl, o13, b7⟩
      have T7 := HT6.out.below b7
      have hX7 : BytesV w7 (a13, RD.length, c13) RD := bytesV_of_owns o13 hRb (by omega)
      have hq7 : ∀ q, (SV (a13, RD.length, c13)).ownBlock = some q → w6.heap.size ≤ q ∧ q < w7.heap.size := fun q hq => o13.lt q hq
      have hn7 : ∀ q, (SV (a13, RD.length, c13)).ownBlock = some q → ¬ F6 q := fun q hq hF => by have := hq7 q hq; have := HT6.out.a.hi q hF; omega
      have KP := append_l w.heap.size F6 g _ a2 l2.length c2m l2 w7 T7.a (H2.out.below T7.bel) (T7.a.apart H2.out (Nat.le_refl _)) (by rw [HRD3.out]; omega)
      have HX7 := Lib.hid hX7
      have HQ7 := Lib.hid hq7
      have HN7 := Lib.hid hn7
      have HT7 := Lib.hid T7
      have hz7 := b7.size
      clear KG HT6 o13 b7 T7 hX7 hq7 hn7
      go_wp2_with fail
      (with_reducible refine KP.mono ?_)
      rintro e w8 hst
      obtain ⟨rfl, F8, T8, hF8, hc8⟩ := HT7.out.step hst
      have HX8 := Lib.hid (HX7.out.ofChF hc8 (fun _ => HN7.out))
      have ef8 : w8.heap[tf]? = some (.cells #[.int .i64 fkeep, .bool freset, .slice fa fs.length fc] FT) := by
        rw [T8.bel.block tf (by have := HTF.out; omega), HTF.out]; exact HEF.out
      obtain ⟨t0, t1, t2, -⟩ := cells3D ef8
      have KF := copyFate_any fkeep freset fa fs.length fc fs w8 (H3.out.below T8.bel) (by omega)
      obtain ⟨d8, hd8⟩ : ∃ x, x = dS d l2 := ⟨_, rfl⟩
      have hT8 : One w.heap.size w w8 F8 g d8 := by rw [hd8]; exact T8
      have HT8 := Lib.hid hT8
      have HD8 := Lib.hid hd8
      clear KP HX7 HT7 hF8 hc8 hst ef8 T8 hd8 hT8 HQ7 HN7
      go_wp2_with fail
      (with_reducible refine KF.mono ?_)
      rintro e w9 ⟨f9, g9, rfl, o9, b9⟩
      have T9 := HT8.out.below b9
      have hn8 : d8.sl.length = N := by rw [HD8.out, dS_is HR.out]; simpa using HR.out.n1
      have KL := left_l w.heap.size F8 g d8 fkeep freset f9 fs.length g9 fs (-1) w9 T9.a (intsV_owns o9 (by omega)) (by omega) (by rw [hn8]; omega) (by rw [HD8.out, dS_is HR.out]; show d.read.length ≤ _; rw [← HRDE.out]; omega) hz3
      have HT9 := Lib.hid T9
      have HX9 := Lib.hid (HX8.out.below b9)
      clear KF HT8 HX8 o9 b9 T9 t0 t1 t2
      go_wp2_with fail
      (with_reducible refine KL.mono ?_)
      rintro e w10 ⟨gl, F10, rfl, D10, hF10, b10⟩
      have HTW := Lib.hid (show Two w.heap.size w w10 F8 g d8 F10 gl (leftV d8 fkeep freset fs (-1)) from ⟨HT9.out.a.below b10, D10, fun q h1 h2 => by have := HT9.out.a.hi q h1; have := hF10 q h2; omega, HT9.out.bel.trans (b10.mono HT9.out.a.base)⟩)
      have HX10 := Lib.hid (HX9.out.below b10)
      obtain ⟨kp, hkp⟩ : ∃ k, k = min fkeep.toNat l2.length := ⟨_, rfl⟩
      have hlog : (leftV d8 fkeep freset fs (-1)).read = RD ++ l2.take kp := by rw [HD8.out, dS_log HR.out, ← HRDE.out, ← hkp]
      have hrdl := Lib.hid (fun i => (show readV (leftV d8 fkeep freset fs (-1)) i = readV d8 i by rw [HD8.out]; exact dS_left HR.out l2 fkeep freset fs (-1) i))
      obtain ⟨dl, hdl⟩ : ∃ x, x = leftV d8 fkeep freset fs (-1) := ⟨_, rfl⟩
      rw [← hdl] at hlog HTW hrdl
      have KG := log_any F10 gl dl w10 HTW.out.b.m
      obtain ⟨GT, hGT⟩ : ∃ X, X = RD ++ l2.take kp := ⟨_, rfl⟩
      obtain ⟨gn, hgn⟩ : ∃ x, x = RD.length + kp := ⟨_, rfl⟩
      have hkl : kp ≤ l2.length := by omega
      have hgl : GT.length = gn := by rw [hGT, hgn]; simp; omega
      rw [hlog, ← hGT] at KG
      unfold GivesBytes at KG
      rw [hgl] at KG
      have hGb : Bytes GT := by
        rw [hGT]; intro y hy
        rcases List.mem_append.1 hy with q | q
        · exact hRb y q
        · exact H2.out.bytes y (List.mem_of_mem_take q)
      have hG1 : GT.take RD.length = RD := by rw [hGT]; simp
      have hG2 : GT.drop RD.length = l2.take kp := by rw [hGT]; simp
      have HRR := hrdl
      have HGL := Lib.hid hgl
      have HGN := Lib.hid hgn
      have HG1 := Lib.hid hG1
      have HG2 := Lib.hid hG2
      have HKP := Lib.hid hkl
      clear KL HT9 HX9 hF10 b10 D10 hdl hkp hlog hGT hgl hG1 hG2 hrdl HD8 hgn hkl
      go_wp2_with fail
      (with_reducible refine KG.mono ?_)
      rintro e w11 ⟨a15, c15, rfl, o15, b11⟩
      have HTX := Lib.hid (HTW.out.below b11)
      have HX11 := Lib.hid (HX10.out.below b11)
      have HY11 := Lib.hid (show BytesV w11 (a15, gn, c15) GT from by
        have q := o15
        rw [← HGL.out] at q
        have := bytesV_of_owns q hGb (by have := HGL.out; have := HGN.out; have := HKP.out; omega)
        rw [HGL.out] at this; exact this)
      have HZ11 := Lib.hid (H2.out.below (HTX.out.bel))
      clear KG HTW HX10 o15 b11
      have hgc : gn ≤ c15 := HY11.out.cap
      have hmc : l2.length ≤ c2m := HZ11.out.cap
      have hrg : RD.length ≤ gn := by have := HGN.out; omega
      have q1 : ((gn : Int) < (RD.length : Int)) = False := eq_false (by omega)
      have q1b : ¬ (gn : Int) < (RD.length : Int) := by omega
      obtain ⟨sm, hsm⟩ : ∃ x, x = RD.length + l2.length := ⟨_, rfl⟩
      have q2 : IntKind.i64.wrap ((RD.length : Int) + (l2.length : Int)) = (sm : Nat) := by rw [wrap_i64_id _ (by omega) (by omega)]; omega
      have q3 : ((sm : Int) < (gn : Int)) = False := eq_false (by have := HGN.out; have := HKP.out; omega)
      have q4 : IntKind.i64.wrap ((gn : Int) - (RD.length : Int)) = (kp : Nat) := by have := HGN.out; have := HKP.out; rw [wrap_i64_id _ (by omega) (by omega)]; omega
      have q5 : ((RD.length : Nat) : Int) ≤ (c15 : Nat) := by omega
      have q6 : ((kp : Nat) : Int) ≤ (c2m : Nat) := by have := HKP.out; omega
      have q7 : ((RD.length : Nat) : Int) ≤ (gn : Nat) := by omega
      have q8 : gn - RD.length = kp := by have := HGN.out; omega
      have KE1 := Lib.hid (fun m => sameBytes_quiet a15 RD.length c15 RD a13 RD.length c13 RD (w11.drewN m) (by have q := bytes_take (HY11.out.drewN m) hrg; rw [HG1.out] at q; exact q) (HX11.out.drewN m))
      rw [decide_eq_true rfl] at KE1
      clear hsm
      by_cases hc15 : c15 = RD.length
      · have KE2 := Lib.hid (fun m => sameBytes_quiet a15 0 0 (l2.take kp) a2 kp c2m (l2.take kp) (w11.drewN m) (by have q := (HY11.out.drewN m).dropTo hrg hc15; rw [HG2.out] at q; exact q) (bytes_take (HZ11.out.drewN m) HKP.out))
        rw [decide_eq_true rfl] at KE2
        have hkp0 : kp = 0 := by omega
        subst hkp0
        subst hc15
        go_wp2
        go_quiet (first | (go_at_call 27; (with_reducible exact Calls.quiet_of (KE1.out _))) | (go_at_call 27; (with_reducible exact Calls.quiet_of (KE2.out _))))
        obtain ⟨wq, hwq⟩ : ∃ x, x = w11.drewN nq := ⟨_, rfl⟩
        rw [← hwq]
        have HTF := Lib.hid (show Two w.heap.size w wq F8 g d8 F10 gl dl from by rw [hwq]; exact HTX.out.below (below_drewN (Below.refl _ _) nq))
        clear hwq HTX HX11 HY11 HZ11 KE1 KE2 q1 q1b q2 q3 q4 q5 q6 q7 q8 hgc hmc hrg
        go_wp2_with fail
        go_loopw [16] (fun vi wr => ∃ j : Nat, j ≤ N ∧ vi = .int .i64 (j : Nat) ∧ Hid (Two w.heap.size w wr F8 g d8 F10 gl dl)) (fun vi _ => (N - intOf vi).toNat)
        case atStart => exact ⟨0, Nat.zero_le _, rfl, HTF⟩
        case round =>
          clear HTF
          obtain ⟨j, hj, rfl, hT⟩ := hrel
          by_cases hlt : j < N
          · have hjI : (j : Int) < (N : Int) := by omega
            have KR := read_l w.heap.size F8 g d8 (j : Int) _ hT.out.a
            obtain ⟨hXb, hXl⟩ := hT.out.a.m.readB (j : Int)
            have hrr := HRR.out (j : Int)
            have KR2 := fun (W : World) (D : DL w.heap.size W F10 gl dl) => read_l w.heap.size F10 gl dl (j : Int) W D
            rw [hrr] at KR2
            have hok : (readV d8 (j : Int)).2 = 0 := by unfold readV; rw [if_pos ⟨by omega, by rw [hn8]; omega⟩]
            rw [hok] at KR KR2
            obtain ⟨X, hX⟩ : ∃ X, X = (readV d8 (j : Int)).1 := ⟨_, rfl⟩
            rw [← hX] at hXb hXl KR KR2
            have HKR := Lib.hid KR2
            clear hrr hX KR2 hok
            go_wp2_with fail
            (with_reducible refine KR.mono ?_)
            rintro e w5 ⟨a5, c5n, rfl, o5, bb5⟩
            have T5 := hT.out.below bb5
            have KB := HKR.out w5 T5.b
            have HX5 := Lib.hid (bytesV_of_owns o5 hXb (by omega))
            have HT5 := Lib.hid T5
            clear KR hT o5 bb5 T5 HKR
            go_wp2_with fail
            (with_reducible refine KB.mono ?_)
            rintro e w6 ⟨a6, c6n, rfl, o6, bb6⟩
            have KE := sameBytes_any a5 X.length c5n X a6 X.length c6n X w6 (HX5.out.below bb6) (bytesV_of_owns o6 hXb (by omega))
            rw [decide_eq_true rfl] at KE
            have HT6 := Lib.hid (HT5.out.below bb6)
            clear KB HT5 HX5 o6 bb6
            go_wp2_with fail
            (with_reducible refine KE.mono ?_)
            rintro e w7 ⟨rfl, bb7⟩
            have HT7 := Lib.hid (HT6.out.below bb7)
            clear KE HT6 bb7
            go_wp2
            go_roundw
            case rel => exact ⟨j + 1, by omega, by go_num, HT7⟩
            case measure => simp [intOf]; omega
          · go_wp2
            go_ret
            exact ⟨rfl, HB0W.out _ hT.out.bel⟩
      · obtain ⟨x, hx⟩ : ∃ x, a15 = some x := by
          cases a15 with
          | none => have := HY11.out.nil rfl; simp only at this; omega
          | some x => exact ⟨x, rfl⟩
        have KE2 := Lib.hid (fun m => sameBytes_quiet (some (x.add RD.length)) kp (c15 - RD.length) (l2.take kp) a2 kp c2m (l2.take kp) (w11.drewN m) (by have q := (HY11.out.drewN m).dropAt hx hrg; rw [HG2.out, q8] at q; exact q) (bytes_take (HZ11.out.drewN m) HKP.out))
        rw [decide_eq_true rfl] at KE2
        subst hx
        go_wp2
        go_quiet (first | (go_at_call 27; (with_reducible exact Calls.quiet_of (KE1.out _))) | (go_at_call 27; (with_reducible exact Calls.quiet_of (KE2.out _))))
        obtain ⟨wq, hwq⟩ : ∃ x, x = w11.drewN nq := ⟨_, rfl⟩
        rw [← hwq]
        have HTF := Lib.hid (show Two w.heap.size w wq F8 g d8 F10 gl dl from by rw [hwq]; exact HTX.out.below (below_drewN (Below.refl _ _) nq))
        clear hwq HTX HX11 HY11 HZ11 KE1 KE2 q1 q1b q2 q3 q4 q5 q6 q7 q8 hgc hmc hrg
        go_wp2_with fail
        go_loopw [16] (fun vi wr => ∃ j : Nat, j ≤ N ∧ vi = .int .i64 (j : Nat) ∧ Hid (Two w.heap.size w wr F8 g d8 F10 gl dl)) (fun vi _ => (N - intOf vi).toNat)
        case atStart => exact ⟨0, Nat.zero_le _, rfl, HTF⟩
        case round =>
          clear HTF
          obtain ⟨j, hj, rfl, hT⟩ := hrel
          by_cases hlt : j < N
          · have hjI : (j : Int) < (N : Int) := by omega
            have KR := read_l w.heap.size F8 g d8 (j : Int) _ hT.out.a
            obtain ⟨hXb, hXl⟩ := hT.out.a.m.readB (j : Int)
            have hrr := HRR.out (j : Int)
            have KR2 := fun (W : World) (D : DL w.heap.size W F10 gl dl) => read_l w.heap.size F10 gl dl (j : Int) W D
            rw [hrr] at KR2
            have hok : (readV d8 (j : Int)).2 = 0 := by unfold readV; rw [if_pos ⟨by omega, by rw [hn8]; omega⟩]
            rw [hok] at KR KR2
            obtain ⟨X, hX⟩ : ∃ X, X = (readV d8 (j : Int)).1 := ⟨_, rfl⟩
            rw [← hX] at hXb hXl KR KR2
            have HKR := Lib.hid KR2
            clear hrr hX KR2 hok
            go_wp2_with fail
            (with_reducible refine KR.mono ?_)
            rintro e w5 ⟨a5, c5n, rfl, o5, bb5⟩
            have T5 := hT.out.below bb5
            have KB := HKR.out w5 T5.b
            have HX5 := Lib.hid (bytesV_of_owns o5 hXb (by omega))
            have HT5 := Lib.hid T5
            clear KR hT o5 bb5 T5 HKR
            go_wp2_with fail
            (with_reducible refine KB.mono ?_)
            rintro e w6 ⟨a6, c6n, rfl, o6, bb6⟩
            have KE := sameBytes_any a5 X.length c5n X a6 X.length c6n X w6 (HX5.out.below bb6) (bytesV_of_owns o6 hXb (by omega))
            rw [decide_eq_true rfl] at KE
            have HT6 := Lib.hid (HT5.out.below bb6)
            clear KB HT5 HX5 o6 bb6
            go_wp2_with fail
            (with_reducible refine KE.mono ?_)
            rintro e w7 ⟨rfl, bb7⟩
            have HT7 := Lib.hid (HT6.out.below bb7)
            clear KE HT6 bb7
            go_wp2
            go_roundw
            case rel => exact ⟨j + 1, by omega, by go_num, HT7⟩
            case measure => simp [intOf]; omega
          · go_wp2
            go_ret
            exact ⟨rfl, HB0W.out _ hT.out.bel⟩
end Go.Proofs.Ytdidalcflkphnaa
