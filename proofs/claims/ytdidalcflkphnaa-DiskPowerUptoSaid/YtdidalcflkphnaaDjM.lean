/-
  rilllaw08: DiskPower.
-/
import Derived.Test.YtdidalcflkphnaaDjK
namespace Go.Proofs.Ytdidalcflkphnaa
open Go.RowKit

/-- a disk with power for L calls more, and one that has it always, read alike. -/
structure RelP (d o : DV) (N m : Nat) (L : Int) : Prop where
  p1 : d.pow = L
  p0 : 0 ≤ L
  p2 : o.pow = -1
  rd : d.read = o.read
  now : d.sl.map (fun s => s.2.1) = o.sl.map (fun s => s.2.1)
  n1 : d.sl.length = N
  len : d.read.length ≤ m
theorem RelP.n2 {d o : DV} {N m : Nat} {L : Int} (h : RelP d o N m L) : o.sl.length = N := by have := congrArg List.length h.now; simp at this; have := h.n1; omega
theorem RelP.new (N : Nat) (p : Int) (hp : 0 ≤ p) : RelP (newV N p) (newV N (-1)) N 0 p := ⟨rfl, hp, rfl, rfl, rfl, by simp [newV, noSl], by simp [newV]⟩
theorem RelP.more {d o : DV} {N m m' : Nat} {L : Int} (h : RelP d o N m L) (hm : m ≤ m') : RelP d o N m' L := ⟨h.p1, h.p0, h.p2, h.rd, h.now, h.n1, Nat.le_trans h.len hm⟩
theorem RelP.app0 {d o : DV} {N m : Nat} (h : RelP d o N m 0) (l : List Nat) : appV d l = (d, 81) := by unfold appV; rw [if_pos h.p1]
theorem RelP.sync0 {d o : DV} {N m : Nat} (h : RelP d o N m 0) : syncV d = (d, 81) := by unfold syncV; rw [if_pos h.p1]
theorem RelP.write0 {d o : DV} {N m : Nat} (h : RelP d o N m 0) (i : Int) (l : List Nat) (hi : 0 ≤ i ∧ i < (N : Int)) (hl : ¬ 64 < l.length) : writeV d i l = (d, 81) := by unfold writeV; rw [h.n1, if_pos hi, if_neg hl, if_pos h.p1]
theorem spend_pos {p : Int} (h : 0 < p) : (spendV p).1 = p - 1 := by unfold spendV; rw [if_neg (by omega), if_pos h]
theorem RelP.app {d o : DV} {N m : Nat} {L : Int} (h : RelP d o N m L) (hL : 0 < L) (l : List Nat) : (appV d l).2 = 0 ∧ (appV o l).2 = 0 ∧ RelP (appV d l).1 (appV o l).1 N (m + l.length) (L - 1) := by
  have e1 : appV d l = ({ d with pow := L - 1, read := d.read ++ l }, 0) := by unfold appV; rw [if_neg (by rw [h.p1]; omega), h.p1, spend_pos hL]
  have e2 : appV o l = ({ o with pow := -1, read := o.read ++ l }, 0) := by unfold appV; rw [if_neg (by rw [h.p2]; decide), h.p2]; rfl
  rw [e1, e2]
  exact ⟨rfl, rfl, rfl, by omega, rfl, by simp only [h.rd], h.now, h.n1, by simp only [List.length_append]; have := h.len; omega⟩
theorem RelP.sync {d o : DV} {N m : Nat} {L : Int} (h : RelP d o N m L) (hL : 0 < L) : (syncV d).2 = 0 ∧ (syncV o).2 = 0 ∧ RelP (syncV d).1 (syncV o).1 N m (L - 1) := by
  have e1 : syncV d = ({ d with pow := L - 1, safe := d.read, base := d.read.length, laid := false }, 0) := by unfold syncV; rw [if_neg (by rw [h.p1]; omega), h.p1, spend_pos hL]
  have e2 : syncV o = ({ o with pow := -1, safe := o.read, base := o.read.length, laid := false }, 0) := by unfold syncV; rw [if_neg (by rw [h.p2]; decide), h.p2]; rfl
  rw [e1, e2]
  exact ⟨rfl, rfl, rfl, by omega, rfl, h.rd, h.now, h.n1, h.len⟩
theorem RelP.write {d o : DV} {N m : Nat} {L : Int} (h : RelP d o N m L) (hL : 0 < L) (i : Int) (l : List Nat) (hi : 0 ≤ i ∧ i < (N : Int)) (hl : ¬ 64 < l.length) : (writeV d i l).2 = 0 ∧ (writeV o i l).2 = 0 ∧ RelP (writeV d i l).1 (writeV o i l).1 N m (L - 1) := by
  have q1 : d.pow ≠ 0 := by rw [h.p1]; omega
  have q2 : o.pow ≠ 0 := by rw [h.p2]; decide
  unfold writeV
  rw [h.n1, h.n2, if_pos hi, if_pos hi, if_neg hl, if_neg hl, if_neg q1, if_neg q2]
  refine ⟨rfl, rfl, by simp only [h.p1]; exact spend_pos hL, by omega, by simp only [h.p2]; rfl, h.rd, ?_, by simpa using h.n1, h.len⟩
  simp only [List.map_set, h.now]
theorem RelP.read {d o : DV} {N m : Nat} {L : Int} (h : RelP d o N m L) (i : Int) : readV o i = readV d i := by
  unfold readV
  rw [h.n1, h.n2, now_at h.now]
set_option maxRecDepth 100000 in
set_option maxHeartbeats 16000000 in
theorem diskPower_walk (slots power : Int) (a1 : Option Addr) (n1 c1 : Nat) (O : Nat → OpR) (w : World) (_w0 : (Lit.int .i64 slots).wf = true) (w0' : (Lit.int .i64 power).wf = true) (h1 : CallsV w a1 n1 c1 O) (k1 : ∀ i, i < n1 → (O i).b.length ≤ 1048576) :
    Calls Try.prog 6 #[.int .i64 slots, .int .i64 power, .slice a1 n1 c1] w fun e W' => e = .returned (.bool true) ∧ Below w.heap.size w W' := by
  have KA := alive8_any w
  have hpm := (wf_i64 w0').2
  have H1 := Lib.hid h1
  have K1 := Lib.hid k1
  clear h1 k1
  go_enter Try.func6, Try.ntmps6
  go_wp2_with fail
  (with_reducible refine KA.mono ?_)
  rintro e w1 ⟨rfl, b1⟩
  clear KA
  by_cases hs0 : slots < 1
  · go_wp2
    go_ret
    exact ⟨rfl, b1⟩
  by_cases hs1 : 20 < slots
  · go_wp2
    go_ret
    exact ⟨rfl, b1⟩
  by_cases hp0 : power < 0
  · go_wp2
    go_ret
    exact ⟨rfl, b1⟩
  obtain ⟨N, rfl⟩ : ∃ N : Nat, slots = N := ⟨slots.toNat, by omega⟩
  have KN := new_l w.heap.size N power w1 b1.size (by omega) (by omega) hpm
  have HB1 := Lib.hid b1
  clear b1
  go_wp2_with fail
  (with_reducible refine KN.mono ?_)
  rintro e w2 ⟨g, F2, rfl, D2, -, b2⟩
  have HB2 := Lib.hid (HB1.out.trans (b2.mono HB1.out.size))
  have HD2 := Lib.hid D2
  clear KN b2 D2 HB1
  have KN := new_l w.heap.size N (-1) w2 HB2.out.size (by omega) (by omega) (by omega)
  go_wp2_with fail
  (with_reducible refine KN.mono ?_)
  rintro e w3 ⟨k, G3, rfl, D3, hG3, b3⟩
  have HT3 := Lib.hid (show Two w.heap.size w w3 F2 g (newV N power) G3 k (newV N (-1)) from ⟨HD2.out.below b3, D3, fun q h1 h2 => by have := HD2.out.hi q h1; have := hG3 q h2; omega, HB2.out.trans (b3.mono HB2.out.size)⟩)
  have HR3 := Lib.hid (RelP.new N power (by omega))
  have KU := cut8_any a1 n1 c1 w3 H1.out.cap H1.out.capm
  clear KN HB2 HD2 D3 hG3 b3
  go_wp2_with fail
  (with_reducible refine KU.mono ?_)
  rintro e w4 ⟨rfl, hw4⟩
  subst hw4
  obtain ⟨n, hn⟩ : ∃ n, n = min n1 60 := ⟨_, rfl⟩
  rw [← hn]
  have HC := Lib.hid (H1.out.cut (m := n) (by omega))
  have HN1 := Lib.hid (show n ≤ n1 ∧ n ≤ 60 by omega)
  have hcap := HC.out.cap
  clear KU hn
  go_wp2_with fail
  go_loopw [11, 12] (fun lv vi wr => ∃ (i : Nat) (F G : Nat → Prop) (d o : DV) (L : Int), i ≤ n ∧ vi = .int .i64 (i : Nat) ∧ lv = .int .i64 L ∧ L ≤ 9223372036854775807 ∧ Hid (Two w.heap.size w wr F g d G k o) ∧ Hid (RelP d o N (i * 1048576) L)) (fun _ vi _ => (n - intOf vi).toNat)
  case atStart => exact ⟨0, F2, G3, _, _, power, Nat.zero_le _, rfl, rfl, hpm, HT3, by rw [Nat.zero_mul]; exact HR3⟩
  case round =>
    clear HT3 HR3
    obtain ⟨i, F, G, d, o, L, hi, rfl, rfl, hLm, hT, hR⟩ := hrel
    by_cases hlt : i < n
    · obtain ⟨b, off, e, hblt, hrow⟩ := HC.out.row (by omega)
      have hat0 := hrow i hlt
      have hat := hat0.below hblt hT.out.bel
      have hlen := K1.out i (by have := HN1.out; omega)
      have h60 := HN1.out.2
      subst e
      obtain ⟨x, hx⟩ : ∃ x, x = O i := ⟨_, rfl⟩
      rw [← hx] at hat hat0 hlen
      clear hx hrow
      obtain ⟨what, nn, mm, ⟨b1, b2, b3⟩, l, keep, reset, ⟨f1, f2, f3⟩, f⟩ := x
      obtain ⟨c0, c1', c2, c3, c4, c5, c6, hby, his, wn, wm, wk, wf, hfs⟩ := hat
      obtain ⟨-, -, -, -, -, -, -, hbw, -, -, -, -, -, -⟩ := hat0
      simp only at c0 c1' c2 c3 c4 c5 c6 hby his wn wm wk wf hfs hbw hlen
      obtain rfl : l.length = b2 := hby.length
      have hiI : (i : Int) < (n : Int) := by omega
      have T4 := hT.out.below (below_alloc wr (.cells #[.int .i64 what, .int .i64 nn, .int .i64 mm, .slice b1 l.length b3, .int .i64 keep, .bool reset, .slice f1 f2 f3] OT))
      have O4 := hT.out.out (.cells #[.int .i64 what, .int .i64 nn, .int .i64 mm, .slice b1 l.length b3, .int .i64 keep, .bool reset, .slice f1 f2 f3] OT)
      have e4 := heap_alloc_self wr (.cells #[.int .i64 what, .int .i64 nn, .int .i64 mm, .slice b1 l.length b3, .int .i64 keep, .bool reset, .slice f1 f2 f3] OT)
      have HT4 := Lib.hid T4
      have HO4 := Lib.hid O4
      have HE4 := Lib.hid e4
      have HBW := Lib.hid hbw
      have HR := Lib.hid hR.out
      have hL0 := HR.out.p0
      clear T4 O4 e4 hbw hby his hT hR wn wm wk wf hfs
      by_cases hL : L = 0
      · obtain rfl := hL
        by_cases h1 : what = 1
        · obtain rfl := h1
          have KA := append_l w.heap.size F g d b1 l.length b3 l _ HT4.out.a (HBW.out.below HT4.out.bel) (HT4.out.a.apart HBW.out (Nat.le_refl _)) (by have := HR.out.len; omega)
          rw [HR.out.app0 l] at KA
          go_wp2_with fail
          (with_reducible refine KA.mono ?_)
          rintro e w5 hst
          obtain ⟨rfl, F5, T5, hF5, hc5⟩ := HT4.out.fst hst
          obtain ⟨O5, e5⟩ := HO4.out.fst hF5 hc5
          obtain ⟨k0, k1, k2, k3, k4, k5, k6⟩ := cells7D (e5.trans HE4.out)
          have HT5 := Lib.hid T5
          clear KA hst hF5 hc5 O5 e5 T5 HT4 HO4 HE4
          go_wp2
          go_roundw
          case rel => exact ⟨i + 1, F5, G, _, _, 0, by omega, by go_num, by go_num, by omega, HT5, Lib.hid (HR.out.more (by omega))⟩
          case measure => simp [intOf]; omega
        by_cases h3 : what = 3
        · obtain rfl := h3
          have KA := sync_l w.heap.size F g d _ HT4.out.a
          rw [HR.out.sync0] at KA
          go_wp2_with fail
          (with_reducible refine KA.mono ?_)
          rintro e w5 hst
          obtain ⟨rfl, F5, T5, hF5, hc5⟩ := HT4.out.fst hst
          have HT5 := Lib.hid T5
          clear KA hst hF5 hc5 T5 HT4 HO4 HE4
          go_wp2
          go_roundw
          case rel => exact ⟨i + 1, F5, G, _, _, 0, by omega, by go_num, by go_num, by omega, HT5, Lib.hid (HR.out.more (by omega))⟩
          case measure => simp [intOf]; omega
        by_cases h4 : what = 4
        · obtain rfl := h4
          by_cases hn0 : nn < 0
          · have HTx := Lib.hid (show Two w.heap.size w (wr.alloc (.cells #[.int .i64 4, .int .i64 nn, .int .i64 mm, .slice b1 l.length b3, .int .i64 keep, .bool reset, .slice f1 f2 f3] OT)) F g d G k o from HT4.out)
            clear HO4 HE4 HT4
            go_wp2
            go_roundw
            case rel => exact ⟨i + 1, F, G, _, _, 0, by omega, by go_num, by go_num, by omega, HTx, Lib.hid (HR.out.more (by omega))⟩
            case measure => simp [intOf]; omega
          by_cases hn1 : (N : Int) ≤ nn
          · have HTx := Lib.hid (show Two w.heap.size w (wr.alloc (.cells #[.int .i64 4, .int .i64 nn, .int .i64 mm, .slice b1 l.length b3, .int .i64 keep, .bool reset, .slice f1 f2 f3] OT)) F g d G k o from HT4.out)
            clear HO4 HE4 HT4
            go_wp2
            go_roundw
            case rel => exact ⟨i + 1, F, G, _, _, 0, by omega, by go_num, by go_num, by omega, HTx, Lib.hid (HR.out.more (by omega))⟩
            case measure => simp [intOf]; omega
          by_cases hll : 64 < l.length
          · have hlI : (64 : Int) < (l.length : Int) := by omega
            have HTx := Lib.hid (show Two w.heap.size w (wr.alloc (.cells #[.int .i64 4, .int .i64 nn, .int .i64 mm, .slice b1 l.length b3, .int .i64 keep, .bool reset, .slice f1 f2 f3] OT)) F g d G k o from HT4.out)
            clear HO4 HE4 HT4
            go_wp2
            go_roundw
            case rel => exact ⟨i + 1, F, G, _, _, 0, by omega, by go_num, by go_num, by omega, HTx, Lib.hid (HR.out.more (by omega))⟩
            case measure => simp [intOf]; omega
          have hlI : ¬ (64 : Int) < (l.length : Int) := by omega
          have hnn : 0 ≤ nn ∧ nn < (N : Int) := by omega
          obtain ⟨t, ht⟩ : ∃ t, t = wr.heap.size := ⟨_, rfl⟩
          have hnw := HT4.out
          have hno := HO4.out
          have hne := HE4.out
          go_wp2
          obtain ⟨w4', hw4'⟩ : ∃ x, x = wr.alloc (.cells #[.int .i64 4, .int .i64 nn, .int .i64 mm, .slice b1 l.length b3, .int .i64 keep, .bool reset, .slice f1 f2 f3] OT) := ⟨_, rfl⟩
          rw [← hw4'] at hnw hno hne ⊢
          rw [← ht] at hno hne ⊢
          have KCC := Lib.hid (fun (W : World) (bW : Below w.heap.size w W) => copyBytes_any b1 l.length b3 l W (HBW.out.below bW))
          have HT4' := Lib.hid hnw
          have HO4' := Lib.hid hno
          have PK := Lib.hid (show ∀ (W : World), W.heap[t]? = some (.cells #[.int .i64 4, .int .i64 nn, .int .i64 mm, .slice b1 l.length b3, .int .i64 keep, .bool reset, .slice f1 f2 f3] OT (0, 0)) → W.cell? ⟨t, 1, none⟩ = some (.int .i64 nn) ∧ W.cell? ⟨t, 3, none⟩ = some (.slice b1 l.length b3) from fun W h => by
            obtain ⟨-, q1, -, q3, -, -, -⟩ := cells7D h
            exact ⟨q1, q3⟩)
          have P4 := PK.out w4' hne
          have HE4' := Lib.hid hne
          have bd4 : Below w4'.heap.size w4' w4'.drew := ⟨rfl, rfl, rfl, Nat.le_refl _, fun _ _ => rfl⟩
          have hbl4 := (HT4'.out.below bd4).bel
          clear hw4' ht hnw hno hne HT4 HO4 HE4 c0 c1' c2 c3 c4 c5 c6
          go_region_held3 (fun w' => w'.cell? ⟨t, 1, none⟩ = some (.int .i64 nn) ∧ w'.cell? ⟨t, 3, none⟩ = some (.slice b1 l.length b3)) (first | exact P4 | exact P5 | exact P6 | go_keep)
            (first
              | (go_at_call 22; (with_reducible refine (KCC.out w4'.drew hbl4).mono ?_); rintro e w5 ⟨a5, c5n, rfl, o5, bb5⟩; have bb5' : Below w4'.heap.size w4' w5 := ⟨bb5.os, bb5.tape, bb5.output, bb5.size, bb5.block⟩; have o5' : w5.ownsRow w4'.heap.size 5 1 (.slice a5 l.length c5n) l.length (l.map bv) := o5; have HT5 := Lib.hid (HT4'.out.below bb5'); have HO5 := Lib.hid (HO4'.out.below bb5').1; have HE5 := Lib.hid ((HO4'.out.below bb5').2.trans HE4'.out); have P5 := PK.out w5 HE5.out; have KW := Lib.hid (show Calls Try.prog 23 #[.pointer (some ⟨g, 0, none⟩), .int .i64 nn, .slice a5 l.length c5n] w5 (StepL w.heap.size F g d 81 w5) from (by have q := write_l w.heap.size F g d nn a5 l.length c5n l w5 HT5.out.a (bytesV_of_owns o5' HBW.out.bytes (by omega)) (HT4'.out.a.apartN (x := (a5, l.length, c5n)) o5'); rw [HR.out.write0 nn l hnn hll] at q; exact q)); clear bb5 o5 bb5' o5')
              | (go_at_call 23; (with_reducible refine KW.out.mono ?_); rintro e w6 hst; obtain ⟨rfl, F6, T6, hF6, hc6⟩ := HT5.out.fst hst; have HT6 := Lib.hid T6; have HO6 := Lib.hid (HO5.out.fst hF6 hc6).1; have HE6 := Lib.hid ((HO5.out.fst hF6 hc6).2.trans HE5.out); have P6 := PK.out w6 HE6.out; clear hst T6 hF6 hc6))
          go_wp2
          go_roundw
          case rel => exact ⟨i + 1, F6, G, _, _, 0, by omega, by go_num, by go_num, by omega, HT6, Lib.hid (HR.out.more (by omega))⟩
          case measure => simp [intOf]; omega
        have HTx := Lib.hid (show Two w.heap.size w (wr.alloc (.cells #[.int .i64 what, .int .i64 nn, .int .i64 mm, .slice b1 l.length b3, .int .i64 keep, .bool reset, .slice f1 f2 f3] OT)) F g d G k o from HT4.out)
        clear HO4 HE4 HT4
        go_wp2
        go_roundw
        case rel => exact ⟨i + 1, F, G, _, _, 0, by omega, by go_num, by go_num, by omega, HTx, Lib.hid (HR.out.more (by omega))⟩
        case measure => simp [intOf]; omega
      have hLp : 0 < L := by omega
      have hLb : (L == 0) = false := beq_eq_false_iff_ne.2 hL
      by_cases h1 : what = 1
      · obtain rfl := h1
        obtain ⟨hr1, hr2, hR6⟩ := HR.out.app hLp l
        have HR6 := Lib.hid hR6
        clear hR6
        have KA := append_l w.heap.size F g d b1 l.length b3 l _ HT4.out.a (HBW.out.below HT4.out.bel) (HT4.out.a.apart HBW.out (Nat.le_refl _)) (by have := HR.out.len; omega)
        rw [hr1] at KA
        go_wp2_with fail
        (with_reducible refine KA.mono ?_)
        rintro e w5 hst
        obtain ⟨rfl, F5, T5, hF5, hc5⟩ := HT4.out.fst hst
        obtain ⟨O5, e5⟩ := HO4.out.fst hF5 hc5
        obtain ⟨k0, k1, k2, k3, k4, k5, k6⟩ := cells7D (e5.trans HE4.out)
        have KB := append_l w.heap.size G k o b1 l.length b3 l w5 T5.b (HBW.out.below T5.bel) (T5.b.apart HBW.out (Nat.le_refl _)) (by have := HR.out.len; rw [← HR.out.rd]; omega)
        rw [hr2] at KB
        have HT5 := Lib.hid T5
        clear KA hst hF5 hc5 O5 e5 T5 HT4 HO4 HE4

        go_wp2_with fail
        (with_reducible refine KB.mono ?_)
        rintro e w6 hst
        obtain ⟨rfl, G6, T6, hG6, hc6⟩ := HT5.out.symm.fst hst
        have HT6 := Lib.hid T6.symm
        clear KB hst hG6 hc6 T6 HT5 k0 k1 k2 k3 k4 k5 k6 hr1 hr2
        go_wp2
        go_roundw
        case rel => exact ⟨i + 1, F5, G6, _, _, L - 1, by omega, by go_num, by go_num, by omega, HT6, Lib.hid (HR6.out.more (by omega))⟩
        case measure => simp [intOf]; omega
      by_cases h3 : what = 3
      · obtain rfl := h3
        obtain ⟨hr1, hr2, hR6⟩ := HR.out.sync hLp
        have HR6 := Lib.hid hR6
        clear hR6
        have KA := sync_l w.heap.size F g d _ HT4.out.a
        rw [hr1] at KA
        go_wp2_with fail
        (with_reducible refine KA.mono ?_)
        rintro e w5 hst
        obtain ⟨rfl, F5, T5, hF5, hc5⟩ := HT4.out.fst hst
        have KB := sync_l w.heap.size G k o w5 T5.b
        rw [hr2] at KB
        have HT5 := Lib.hid T5
        clear KA hst hF5 hc5 T5 HT4 HO4 HE4

        go_wp2_with fail
        (with_reducible refine KB.mono ?_)
        rintro e w6 hst
        obtain ⟨rfl, G6, T6, hG6, hc6⟩ := HT5.out.symm.fst hst
        have HT6 := Lib.hid T6.symm
        clear KB hst hG6 hc6 T6 HT5 hr1 hr2
        go_wp2
        go_roundw
        case rel => exact ⟨i + 1, F5, G6, _, _, L - 1, by omega, by go_num, by go_num, by omega, HT6, Lib.hid (HR6.out.more (by omega))⟩
        case measure => simp [intOf]; omega
      by_cases h4 : what = 4
      · obtain rfl := h4
        by_cases hn0 : nn < 0
        · have HTx := Lib.hid (show Two w.heap.size w (wr.alloc (.cells #[.int .i64 4, .int .i64 nn, .int .i64 mm, .slice b1 l.length b3, .int .i64 keep, .bool reset, .slice f1 f2 f3] OT)) F g d G k o from HT4.out)
          clear HO4 HE4 HT4
          go_wp2
          go_roundw
          case rel => exact ⟨i + 1, F, G, _, _, L, by omega, by go_num, by go_num, by omega, HTx, Lib.hid (HR.out.more (by omega))⟩
          case measure => simp [intOf]; omega
        by_cases hn1 : (N : Int) ≤ nn
        · have HTx := Lib.hid (show Two w.heap.size w (wr.alloc (.cells #[.int .i64 4, .int .i64 nn, .int .i64 mm, .slice b1 l.length b3, .int .i64 keep, .bool reset, .slice f1 f2 f3] OT)) F g d G k o from HT4.out)
          clear HO4 HE4 HT4
          go_wp2
          go_roundw
          case rel => exact ⟨i + 1, F, G, _, _, L, by omega, by go_num, by go_num, by omega, HTx, Lib.hid (HR.out.more (by omega))⟩
          case measure => simp [intOf]; omega
        by_cases hll : 64 < l.length
        · have hlI : (64 : Int) < (l.length : Int) := by omega
          have HTx := Lib.hid (show Two w.heap.size w (wr.alloc (.cells #[.int .i64 4, .int .i64 nn, .int .i64 mm, .slice b1 l.length b3, .int .i64 keep, .bool reset, .slice f1 f2 f3] OT)) F g d G k o from HT4.out)
          clear HO4 HE4 HT4
          go_wp2
          go_roundw
          case rel => exact ⟨i + 1, F, G, _, _, L, by omega, by go_num, by go_num, by omega, HTx, Lib.hid (HR.out.more (by omega))⟩
          case measure => simp [intOf]; omega
        have hlI : ¬ (64 : Int) < (l.length : Int) := by omega
        have hnn : 0 ≤ nn ∧ nn < (N : Int) := by omega
        obtain ⟨hr1, hr2, hR6⟩ := HR.out.write hLp nn l hnn hll
        have HR6 := Lib.hid hR6
        clear hR6
        obtain ⟨t, ht⟩ : ∃ t, t = wr.heap.size := ⟨_, rfl⟩
        have hnw := HT4.out
        have hno := HO4.out
        have hne := HE4.out
        go_wp2
        obtain ⟨w4', hw4'⟩ : ∃ x, x = wr.alloc (.cells #[.int .i64 4, .int .i64 nn, .int .i64 mm, .slice b1 l.length b3, .int .i64 keep, .bool reset, .slice f1 f2 f3] OT) := ⟨_, rfl⟩
        rw [← hw4'] at hnw hno hne ⊢
        rw [← ht] at hno hne ⊢
        have KCC := Lib.hid (fun (W : World) (bW : Below w.heap.size w W) => copyBytes_any b1 l.length b3 l W (HBW.out.below bW))
        have HT4' := Lib.hid hnw
        have HO4' := Lib.hid hno
        have PK := Lib.hid (show ∀ (W : World), W.heap[t]? = some (.cells #[.int .i64 4, .int .i64 nn, .int .i64 mm, .slice b1 l.length b3, .int .i64 keep, .bool reset, .slice f1 f2 f3] OT (0, 0)) → W.cell? ⟨t, 1, none⟩ = some (.int .i64 nn) ∧ W.cell? ⟨t, 3, none⟩ = some (.slice b1 l.length b3) from fun W h => by
          obtain ⟨-, q1, -, q3, -, -, -⟩ := cells7D h
          exact ⟨q1, q3⟩)
        have P4 := PK.out w4' hne
        have HE4' := Lib.hid hne
        have bd4 : Below w4'.heap.size w4' w4'.drew := ⟨rfl, rfl, rfl, Nat.le_refl _, fun _ _ => rfl⟩
        have hbl4 := (HT4'.out.below bd4).bel
        clear hw4' ht hnw hno hne HT4 HO4 HE4 c0 c1' c2 c3 c4 c5 c6
        go_region_held3 (fun w' => w'.cell? ⟨t, 1, none⟩ = some (.int .i64 nn) ∧ w'.cell? ⟨t, 3, none⟩ = some (.slice b1 l.length b3)) (first | exact P4 | exact P5 | exact P6 | go_keep)
          (first
            | (go_at_call 22; (with_reducible refine (KCC.out w4'.drew hbl4).mono ?_); rintro e w5 ⟨a5, c5n, rfl, o5, bb5⟩; have bb5' : Below w4'.heap.size w4' w5 := ⟨bb5.os, bb5.tape, bb5.output, bb5.size, bb5.block⟩; have o5' : w5.ownsRow w4'.heap.size 5 1 (.slice a5 l.length c5n) l.length (l.map bv) := o5; have HT5 := Lib.hid (HT4'.out.below bb5'); have HO5 := Lib.hid (HO4'.out.below bb5').1; have HE5 := Lib.hid ((HO4'.out.below bb5').2.trans HE4'.out); have P5 := PK.out w5 HE5.out; have KW := Lib.hid (show Calls Try.prog 23 #[.pointer (some ⟨g, 0, none⟩), .int .i64 nn, .slice a5 l.length c5n] w5 (StepL w.heap.size F g (writeV d nn l).1 0 w5) from (by have q := write_l w.heap.size F g d nn a5 l.length c5n l w5 HT5.out.a (bytesV_of_owns o5' HBW.out.bytes (by omega)) (HT4'.out.a.apartN (x := (a5, l.length, c5n)) o5'); rw [hr1] at q; exact q)); clear bb5 o5 bb5' o5')
            | (go_at_call 23; (with_reducible refine KW.out.mono ?_); rintro e w6 hst; obtain ⟨rfl, F6, T6, hF6, hc6⟩ := HT5.out.fst hst; have HT6 := Lib.hid T6; have HO6 := Lib.hid (HO5.out.fst hF6 hc6).1; have HE6 := Lib.hid ((HO5.out.fst hF6 hc6).2.trans HE5.out); have P6 := PK.out w6 HE6.out; clear hst T6 hF6 hc6))

        go_wp2
        have hbl6 := (HT6.out.below (w' := w6.drew) ⟨rfl, rfl, rfl, Nat.le_refl _, fun _ _ => rfl⟩).bel
        go_region_held3 (fun w' => w'.cell? ⟨t, 1, none⟩ = some (.int .i64 nn) ∧ w'.cell? ⟨t, 3, none⟩ = some (.slice b1 l.length b3)) (first | exact P6 | exact P7 | exact P8 | go_keep)
          (first
            | (go_at_call 22; (with_reducible refine (KCC.out w6.drew hbl6).mono ?_); rintro e w7 ⟨a7, c7n, rfl, o7, bb7⟩; have bb7' : Below w6.heap.size w6 w7 := ⟨bb7.os, bb7.tape, bb7.output, bb7.size, bb7.block⟩; have o7' : w7.ownsRow w6.heap.size 5 1 (.slice a7 l.length c7n) l.length (l.map bv) := o7; have HT7 := Lib.hid (HT6.out.below bb7'); have HE7 := Lib.hid ((HO6.out.below bb7').2.trans HE6.out); have P7 := PK.out w7 HE7.out; have HO7 := Lib.hid (HO6.out.below bb7').1; have KW7 := Lib.hid (show Calls Try.prog 23 #[.pointer (some ⟨k, 0, none⟩), .int .i64 nn, .slice a7 l.length c7n] w7 (StepL w.heap.size G k (writeV o nn l).1 0 w7) from (by have q := write_l w.heap.size G k o nn a7 l.length c7n l w7 HT7.out.b (bytesV_of_owns o7' HBW.out.bytes (by omega)) (HT6.out.b.apartN (x := (a7, l.length, c7n)) o7'); rw [hr2] at q; exact q)); clear bb7 o7 bb7' o7')
            | (go_at_call 23; (with_reducible refine KW7.out.mono ?_); rintro e w8 hst; obtain ⟨rfl, G8, T8, hG8, hc8⟩ := HT7.out.symm.fst hst; have HT8 := Lib.hid T8.symm; have P8 := PK.out w8 ((HO7.out.symm.fst hG8 hc8).2.trans HE7.out); clear hst T8 hG8 hc8))
        clear hr1 hr2
        go_wp2
        go_roundw
        case rel => exact ⟨i + 1, F6, G8, _, _, L - 1, by omega, by go_num, by go_num, by omega, HT8, Lib.hid (HR6.out.more (by omega))⟩
        case measure => simp [intOf]; omega
      have HTx := Lib.hid (show Two w.heap.size w (wr.alloc (.cells #[.int .i64 what, .int .i64 nn, .int .i64 mm, .slice b1 l.length b3, .int .i64 keep, .bool reset, .slice f1 f2 f3] OT)) F g d G k o from HT4.out)
      clear HO4 HE4 HT4
      go_wp2
      go_roundw
      case rel => exact ⟨i + 1, F, G, _, _, L, by omega, by go_num, by go_num, by omega, HTx, Lib.hid (HR.out.more (by omega))⟩
      case measure => simp [intOf]; omega
    · obtain rfl : i = n := by omega
      have HR' := Lib.hid hR.out
      have KG := log_any F g d wr hT.out.a.m
      obtain ⟨hXb, hXl⟩ := hT.out.a.m.logB
      have KG2 := Lib.hid (fun (W : World) (D : DL w.heap.size W G k o) => log_any G k o W D.m)
      rw [← HR'.out.rd] at KG2
      obtain ⟨X, hX⟩ : ∃ X, X = d.read := ⟨_, rfl⟩
      rw [← hX] at hXb hXl KG KG2
      have HT := Lib.hid hT.out
      clear hX hT hlt hi hR
      go_wp2_with fail
      (with_reducible refine KG.mono ?_)
      rintro e w5 ⟨a5, c5n, rfl, o5, bb5⟩
      have T5 := HT.out.below bb5
      have KB := KG2.out w5 T5.b
      have HX5 := Lib.hid (bytesV_of_owns o5 hXb (by omega))
      have HT5 := Lib.hid T5
      clear KG HT o5 bb5 T5 KG2
      go_wp2_with fail
      (with_reducible refine KB.mono ?_)
      rintro e w6 ⟨a6, c6n, rfl, o6, bb6⟩
      have KE := sameBytes_any a5 X.length c5n X a6 X.length c6n X w6 (HX5.out.below bb6) (bytesV_of_owns o6 hXb (by omega))
      rw [decide_eq_true rfl] at KE
      have HT6 := Lib.hid (HT5.out.below bb6)
      clear KB HT5 HX5 o6 bb6
      go_wp2_with fail
      (with_reducible refine KE.mono ?_)
      rintro e w7 ⟨rfl, bb7⟩
      have HTF := Lib.hid (HT6.out.below bb7)
      clear KE HT6 bb7
      go_wp2_with fail
      go_loopw [17] (fun vi wr => ∃ j : Nat, j ≤ N ∧ vi = .int .i64 (j : Nat) ∧ Hid (Two w.heap.size w wr F g d G k o)) (fun vi _ => (N - intOf vi).toNat)
      case atStart => exact ⟨0, Nat.zero_le _, rfl, HTF⟩
      case round =>
        clear HTF
        obtain ⟨j, hj, rfl, hT⟩ := hrel
        by_cases hlt : j < N
        · have hjI : (j : Int) < (N : Int) := by omega
          have KR := read_l w.heap.size F g d (j : Int) _ hT.out.a
          obtain ⟨hXb, hXl⟩ := hT.out.a.m.readB (j : Int)
          have hrr := HR'.out.read (j : Int)
          have KR2 := fun (W : World) (D : DL w.heap.size W G k o) => read_l w.heap.size G k o (j : Int) W D
          rw [hrr] at KR2
          obtain ⟨X, hX⟩ : ∃ X, X = (readV d (j : Int)).1 := ⟨_, rfl⟩
          obtain ⟨er, her⟩ : ∃ er, er = (readV d (j : Int)).2 := ⟨_, rfl⟩
          rw [← hX] at hXb hXl KR KR2
          rw [← her] at KR KR2
          have HKR := Lib.hid KR2
          clear hrr hX her KR2
          go_wp2_with fail
          (with_reducible refine KR.mono ?_)
          rintro e w5 ⟨a5, c5n, rfl, o5, bb5⟩
          have T5 := hT.out.below bb5
          have KB := HKR.out w5 T5.b
          have HX5 := Lib.hid (bytesV_of_owns o5 hXb (by omega))
          have HT5 := Lib.hid T5
          clear KR hT o5 bb5 T5 HKR
          go_wp2_with fail
          (with_reducible refine KB.mono ?_)
          rintro e w6 ⟨a6, c6n, rfl, o6, bb6⟩
          have KE := sameBytes_any a5 X.length c5n X a6 X.length c6n X w6 (HX5.out.below bb6) (bytesV_of_owns o6 hXb (by omega))
          rw [decide_eq_true rfl] at KE
          have HT6 := Lib.hid (HT5.out.below bb6)
          clear KB HT5 HX5 o6 bb6
          go_wp2_with fail
          (with_reducible refine KE.mono ?_)
          rintro e w7 ⟨rfl, bb7⟩
          have HT7 := Lib.hid (HT6.out.below bb7)
          clear KE HT6 bb7
          go_wp2
          go_roundw
          case rel => exact ⟨j + 1, by omega, by go_num, HT7⟩
          case measure => simp [intOf]; omega
        · go_wp2
          go_ret
          exact ⟨rfl, hT.out.bel⟩
end Go.Proofs.Ytdidalcflkphnaa
