/-
  rilllaw08: DiskReads.
-/
import Derived.Test.YtdidalcflkphnaaDjK
namespace Go.Proofs.Ytdidalcflkphnaa
open Go.RowKit

set_option maxRecDepth 100000 in
set_option maxHeartbeats 16000000 in
theorem diskReads_walk (slots : Int) (a1 : Option Addr) (n1 c1 : Nat) (O : Nat → OpR) (w : World) (_w0 : (Lit.int .i64 slots).wf = true) (h1 : CallsV w a1 n1 c1 O) (k1 : ∀ i, i < n1 → (O i).b.length ≤ 1048576) :
    Calls Try.prog 9 #[.int .i64 slots, .slice a1 n1 c1] w fun e W' => e = .returned (.bool true) ∧ Below w.heap.size w W' := by
  have KA := alive8_any w
  have H1 := Lib.hid h1
  have K1 := Lib.hid k1
  clear h1 k1
  go_enter Try.func9, Try.ntmps9
  go_wp2_with fail
  (with_reducible refine KA.mono ?_)
  rintro e w1 ⟨rfl, b1⟩
  clear KA
  by_cases hs0 : slots < 1
  · go_wp2
    go_ret
    exact ⟨rfl, b1⟩
  by_cases hs1 : 20 < slots
  · go_wp2
    go_ret
    exact ⟨rfl, b1⟩
  obtain ⟨N, rfl⟩ : ∃ N : Nat, slots = N := ⟨slots.toNat, by omega⟩
  have KN := new_l w.heap.size N (-1) w1 b1.size (by omega) (by omega) (by omega)
  have HB1 := Lib.hid b1
  clear b1
  go_wp2_with fail
  (with_reducible refine KN.mono ?_)
  rintro e w2 ⟨g, F2, rfl, D2, -, b2⟩
  have HB2 := Lib.hid (HB1.out.trans (b2.mono HB1.out.size))
  have HD2 := Lib.hid D2
  clear KN b2 D2 HB1
  have KN := new_l w.heap.size N (-1) w2 HB2.out.size (by omega) (by omega) (by omega)
  go_wp2_with fail
  (with_reducible refine KN.mono ?_)
  rintro e w3 ⟨k, G3, rfl, D3, hG3, b3⟩
  have HT3 := Lib.hid (show Two w.heap.size w w3 F2 g (newV N (-1)) G3 k (newV N (-1)) from ⟨HD2.out.below b3, D3, fun q h1 h2 => by have := HD2.out.hi q h1; have := hG3 q h2; omega, HB2.out.trans (b3.mono HB2.out.size)⟩)
  have HR3 := Lib.hid (RelR.new N)
  have KU := cut8_any a1 n1 c1 w3 H1.out.cap H1.out.capm
  clear KN HB2 HD2 D3 hG3 b3
  go_wp2_with fail
  (with_reducible refine KU.mono ?_)
  rintro e w4 ⟨rfl, hw4⟩
  subst hw4
  obtain ⟨n, hn⟩ : ∃ n, n = min n1 60 := ⟨_, rfl⟩
  rw [← hn]
  have HC := Lib.hid (H1.out.cut (m := n) (by omega))
  have HN1 := Lib.hid (show n ≤ n1 ∧ n ≤ 60 by omega)
  have hcap := HC.out.cap
  clear KU hn
  go_wp2_with fail
  go_loopw [9] (fun vi wr => ∃ (i : Nat) (F G : Nat → Prop) (d o : DV), i ≤ n ∧ vi = .int .i64 (i : Nat) ∧ Hid (Two w.heap.size w wr F g d G k o) ∧ Hid (RelR d o N (i * 1048576))) (fun vi _ => (n - intOf vi).toNat)
  case atStart => exact ⟨0, F2, G3, _, _, Nat.zero_le _, rfl, HT3, by rw [Nat.zero_mul]; exact HR3⟩
  case round =>
    clear HT3 HR3
    obtain ⟨i, F, G, d, o, hi, rfl, hT, hR⟩ := hrel
    by_cases hlt : i < n
    · obtain ⟨b, off, e, hblt, hrow⟩ := HC.out.row (by omega)
      have hat0 := hrow i hlt
      have hat := hat0.below hblt hT.out.bel
      have hlen := K1.out i (by have := HN1.out; omega)
      have h60 := HN1.out.2
      subst e
      obtain ⟨x, hx⟩ : ∃ x, x = O i := ⟨_, rfl⟩
      rw [← hx] at hat hat0 hlen
      clear hx hrow
      obtain ⟨what, nn, mm, ⟨b1, b2, b3⟩, l, keep, reset, ⟨f1, f2, f3⟩, f⟩ := x
      obtain ⟨c0, c1', c2, c3, c4, c5, c6, hby, his, wn, wm, wk, wf, hfs⟩ := hat
      obtain ⟨-, -, -, -, -, -, -, hbw, -, -, -, -, -, -⟩ := hat0
      simp only at c0 c1' c2 c3 c4 c5 c6 hby his wn wm wk wf hfs hbw hlen
      obtain rfl : l.length = b2 := hby.length
      have hm64 := wf_i64 wm
      have hiI : (i : Int) < (n : Int) := by omega
      have T4 := hT.out.below (below_alloc wr (.cells #[.int .i64 what, .int .i64 nn, .int .i64 mm, .slice b1 l.length b3, .int .i64 keep, .bool reset, .slice f1 f2 f3] OT))
      have O4 := hT.out.out (.cells #[.int .i64 what, .int .i64 nn, .int .i64 mm, .slice b1 l.length b3, .int .i64 keep, .bool reset, .slice f1 f2 f3] OT)
      have e4 := heap_alloc_self wr (.cells #[.int .i64 what, .int .i64 nn, .int .i64 mm, .slice b1 l.length b3, .int .i64 keep, .bool reset, .slice f1 f2 f3] OT)
      have HT4 := Lib.hid T4
      have HO4 := Lib.hid O4
      have HE4 := Lib.hid e4
      have HBW := Lib.hid hbw
      have HR := Lib.hid hR.out
      clear T4 O4 e4 hbw hby his hT hR wn wm wk wf hfs
      by_cases h1 : what = 1
      · obtain rfl := h1
        have KA := append_l w.heap.size F g d b1 l.length b3 l _ HT4.out.a (HBW.out.below HT4.out.bel) (HT4.out.a.apart HBW.out (Nat.le_refl _)) (by have := HR.out.len; omega)
        go_wp2_with fail
        (with_reducible refine KA.mono ?_)
        rintro e w5 hst
        obtain ⟨rfl, F5, T5, hF5, hc5⟩ := HT4.out.fst hst
        obtain ⟨O5, e5⟩ := HO4.out.fst hF5 hc5
        obtain ⟨k0, k1, k2, k3, k4, k5, k6⟩ := cells7D (e5.trans HE4.out)
        have KB := append_l w.heap.size G k o b1 l.length b3 l w5 T5.b (HBW.out.below T5.bel) (T5.b.apart HBW.out (Nat.le_refl _)) (by have := HR.out.len; have := HR.out.rd; rw [← HR.out.rd]; omega)
        have HT5 := Lib.hid T5
        clear KA hst hF5 hc5 O5 e5 T5 HT4 HO4 HE4
        go_wp2_with fail
        (with_reducible refine KB.mono ?_)
        rintro e w6 hst
        obtain ⟨rfl, G6, T6, hG6, hc6⟩ := HT5.out.symm.fst hst
        have HT6 := Lib.hid T6.symm
        have HR6 := Lib.hid (HR.out.app l)
        clear KB hst hG6 hc6 T6 HT5 k0 k1 k2 k3 k4 k5 k6
        go_wp2
        go_roundw
        case rel => exact ⟨i + 1, F5, G6, _, _, by omega, by go_num, HT6, Lib.hid (HR6.out.more (by omega))⟩
        case measure => simp [intOf]; omega
      by_cases h2 : what = 2
      · obtain rfl := h2
        have KA := copyBytes_any b1 l.length b3 l _ (HBW.out.below HT4.out.bel)
        go_wp2_with fail
        (with_reducible refine KA.mono ?_)
        rintro e w5 ⟨a5, c5n, rfl, o5, bb5⟩
        have T5 := HT4.out.below bb5
        obtain ⟨O5, e5⟩ := HO4.out.below bb5
        have KB := lay_l w.heap.size F g d a5 l.length c5n l w5 T5.a (bytesV_of_owns o5 HBW.out.bytes (by omega)) (HT4.out.a.apartN (x := (a5, l.length, c5n)) o5) (by omega)
        have HT5 := Lib.hid T5
        have HO5 := Lib.hid O5
        have HE5 := Lib.hid (e5.trans HE4.out)
        clear KA bb5 o5 O5 e5 T5 HT4 HO4 HE4
        go_wp2_with fail
        (with_reducible refine KB.mono ?_)
        rintro e w6 hst
        obtain ⟨rfl, F6, T6, hF6, hc6⟩ := HT5.out.fst hst
        obtain ⟨O6, e6⟩ := HO5.out.fst hF6 hc6
        obtain ⟨k0, k1, k2, k3, k4, k5, k6⟩ := cells7D (e6.trans HE5.out)
        have KC := copyBytes_any b1 l.length b3 l w6 (HBW.out.below T6.bel)
        have HT6 := Lib.hid T6
        clear KB hst hF6 hc6 O6 e6 T6 HT5 HO5 HE5
        go_wp2_with fail
        (with_reducible refine KC.mono ?_)
        rintro e w7 ⟨a7, c7n, rfl, o7, bb7⟩
        have T7 := HT6.out.below bb7
        have KD := lay_l w.heap.size G k o a7 l.length c7n l w7 T7.b (bytesV_of_owns o7 HBW.out.bytes (by omega)) (HT6.out.b.apartN (x := (a7, l.length, c7n)) o7) (by omega)
        have HT7 := Lib.hid T7
        clear KC bb7 o7 T7 HT6 k0 k1 k2 k3 k4 k5 k6
        go_wp2_with fail
        (with_reducible refine KD.mono ?_)
        rintro e w8 hst
        obtain ⟨rfl, G8, T8, hG8, hc8⟩ := HT7.out.symm.fst hst
        have HT8 := Lib.hid T8.symm
        have HR8 := Lib.hid (HR.out.lay l)
        clear KD hst hG8 hc8 T8 HT7
        go_wp2
        go_roundw
        case rel => exact ⟨i + 1, F6, G8, _, _, by omega, by go_num, HT8, Lib.hid (HR8.out.more (by omega))⟩
        case measure => simp [intOf]; omega
      by_cases h3 : what = 3
      · obtain rfl := h3
        have KA := sync_l w.heap.size F g d _ HT4.out.a
        go_wp2_with fail
        (with_reducible refine KA.mono ?_)
        rintro e w5 hst
        obtain ⟨rfl, F5, T5, hF5, hc5⟩ := HT4.out.fst hst
        have HT5 := Lib.hid T5
        have HR5 := Lib.hid HR.out.sync
        clear KA hst hF5 hc5 T5 HT4 HO4 HE4
        go_wp2
        go_roundw
        case rel => exact ⟨i + 1, F5, G, _, _, by omega, by go_num, HT5, Lib.hid (HR5.out.more (by omega))⟩
        case measure => simp [intOf]; omega
      by_cases h4 : what = 4
      · obtain rfl := h4
        obtain ⟨t, ht⟩ : ∃ t, t = wr.heap.size := ⟨_, rfl⟩
        obtain ⟨er, her⟩ : ∃ er, er = (writeV d nn l).2 := ⟨_, rfl⟩
        obtain ⟨her2, hR6⟩ := HR.out.write nn l
        rw [← her] at her2
        have HER := Lib.hid her
        have HER2 := Lib.hid her2
        have HR6 := Lib.hid hR6
        have hnw := HT4.out
        have hno := HO4.out
        have hne := HE4.out
        go_wp2
        obtain ⟨w4', hw4'⟩ : ∃ x, x = wr.alloc (.cells #[.int .i64 4, .int .i64 nn, .int .i64 mm, .slice b1 l.length b3, .int .i64 keep, .bool reset, .slice f1 f2 f3] OT) := ⟨_, rfl⟩
        rw [← hw4'] at hnw hno hne ⊢
        rw [← ht] at hno hne ⊢
        have KCC := Lib.hid (fun (W : World) (bW : Below w.heap.size w W) => copyBytes_any b1 l.length b3 l W (HBW.out.below bW))
        have HT4' := Lib.hid hnw
        have HO4' := Lib.hid hno
        have PK := Lib.hid (show ∀ (W : World), W.heap[t]? = some (.cells #[.int .i64 4, .int .i64 nn, .int .i64 mm, .slice b1 l.length b3, .int .i64 keep, .bool reset, .slice f1 f2 f3] OT (0, 0)) → W.cell? ⟨t, 1, none⟩ = some (.int .i64 nn) ∧ W.cell? ⟨t, 3, none⟩ = some (.slice b1 l.length b3) from fun W h => by
          obtain ⟨-, q1, -, q3, -, -, -⟩ := cells7D h
          exact ⟨q1, q3⟩)
        have P4 := PK.out w4' hne
        have HE4' := Lib.hid hne
        have bd4 : Below w4'.heap.size w4' w4'.drew := ⟨rfl, rfl, rfl, Nat.le_refl _, fun _ _ => rfl⟩
        have hbl4 := (HT4'.out.below bd4).bel
        clear hw4' ht hnw hno hne her her2 hR6 HT4 HO4 HE4 c0 c1' c2 c3 c4 c5 c6
        go_region_held3 (fun w' => w'.cell? ⟨t, 1, none⟩ = some (.int .i64 nn) ∧ w'.cell? ⟨t, 3, none⟩ = some (.slice b1 l.length b3)) (first | exact P4 | exact P5 | exact P6 | exact P7 | exact P8 | go_keep)
          (first
            | (go_at_call 22; (with_reducible refine (KCC.out w4'.drew hbl4).mono ?_); rintro e w5 ⟨a5, c5n, rfl, o5, bb5⟩; have bb5' : Below w4'.heap.size w4' w5 := ⟨bb5.os, bb5.tape, bb5.output, bb5.size, bb5.block⟩; have o5' : w5.ownsRow w4'.heap.size 5 1 (.slice a5 l.length c5n) l.length (l.map bv) := o5; have HT5 := Lib.hid (HT4'.out.below bb5'); have HO5 := Lib.hid (HO4'.out.below bb5').1; have HE5 := Lib.hid ((HO4'.out.below bb5').2.trans HE4'.out); have P5 := PK.out w5 HE5.out; have KW := Lib.hid (show Calls Try.prog 23 #[.pointer (some ⟨g, 0, none⟩), .int .i64 nn, .slice a5 l.length c5n] w5 (StepL w.heap.size F g (writeV d nn l).1 er w5) from (by rw [HER.out]; exact write_l w.heap.size F g d nn a5 l.length c5n l w5 HT5.out.a (bytesV_of_owns o5' HBW.out.bytes (by omega)) (HT4'.out.a.apartN (x := (a5, l.length, c5n)) o5'))); clear bb5 o5 bb5' o5')
            | (go_at_call 23; (with_reducible refine KW.out.mono ?_); rintro e w6 hst; obtain ⟨rfl, F6, T6, hF6, hc6⟩ := HT5.out.fst hst; have HT6 := Lib.hid T6; have HO6 := Lib.hid (HO5.out.fst hF6 hc6).1; have HE6 := Lib.hid ((HO5.out.fst hF6 hc6).2.trans HE5.out); have P6 := PK.out w6 HE6.out; have hbl6 := T6.bel; clear hst T6 hF6 hc6)
            | (go_at_call 22; (with_reducible refine (KCC.out w6 hbl6).mono ?_); rintro e w7 ⟨a7, c7n, rfl, o7, bb7⟩; have HT7 := Lib.hid (HT6.out.below bb7); have HE7 := Lib.hid ((HO6.out.below bb7).2.trans HE6.out); have P7 := PK.out w7 HE7.out; have HO7 := Lib.hid (HO6.out.below bb7).1; have KW7 := Lib.hid (show Calls Try.prog 23 #[.pointer (some ⟨k, 0, none⟩), .int .i64 nn, .slice a7 l.length c7n] w7 (StepL w.heap.size G k (writeV o nn l).1 er w7) from (by rw [← HER2.out]; exact write_l w.heap.size G k o nn a7 l.length c7n l w7 HT7.out.b (bytesV_of_owns o7 HBW.out.bytes (by omega)) (HT6.out.b.apartN (x := (a7, l.length, c7n)) o7))); clear bb7 o7)
            | (go_at_call 23; (with_reducible refine KW7.out.mono ?_); rintro e w8 hst; obtain ⟨rfl, G8, T8, hG8, hc8⟩ := HT7.out.symm.fst hst; have HT8 := Lib.hid T8.symm; have P8 := PK.out w8 ((HO7.out.symm.fst hG8 hc8).2.trans HE7.out); clear hst T8 hG8 hc8))
        go_wp2
        go_roundw
        case rel => exact ⟨i + 1, F6, G8, _, _, by omega, by go_num, HT8, Lib.hid (HR6.out.more (by omega))⟩
        case measure => simp [intOf]; omega
      by_cases h5 : what = 5
      · obtain rfl := h5
        have KA := slots_l w.heap.size F g d _ HT4.out.a
        go_wp2_with fail
        (with_reducible refine KA.mono ?_)
        rintro e w5 hst
        obtain ⟨rfl, F5, T5, hF5, hc5⟩ := HT4.out.fst hst
        have HT5 := Lib.hid T5
        have HR5 := Lib.hid HR.out.slots
        clear KA hst hF5 hc5 T5 HT4 HO4 HE4
        go_wp2
        go_roundw
        case rel => exact ⟨i + 1, F5, G, _, _, by omega, by go_num, HT5, Lib.hid (HR5.out.more (by omega))⟩
        case measure => simp [intOf]; omega
      by_cases h6 : what = 6
      · obtain rfl := h6
        obtain ⟨t, ht⟩ : ∃ t, t = wr.heap.size := ⟨_, rfl⟩
        obtain ⟨er, her⟩ : ∃ er, er = (rotV d nn mm).2 := ⟨_, rfl⟩
        obtain ⟨her2, hR6⟩ := HR.out.rot nn mm
        rw [← her] at her2
        have HER := Lib.hid her
        have HER2 := Lib.hid her2
        have HR6 := Lib.hid hR6
        have hnw := HT4.out
        have hno := HO4.out
        have hne := HE4.out
        go_wp2
        obtain ⟨w4', hw4'⟩ : ∃ x, x = wr.alloc (.cells #[.int .i64 6, .int .i64 nn, .int .i64 mm, .slice b1 l.length b3, .int .i64 keep, .bool reset, .slice f1 f2 f3] OT) := ⟨_, rfl⟩
        rw [← hw4'] at hnw hno hne ⊢
        rw [← ht] at hno hne ⊢
        have HT4' := Lib.hid hnw
        have HO4' := Lib.hid hno
        have PK := Lib.hid (show ∀ (W : World), W.heap[t]? = some (.cells #[.int .i64 6, .int .i64 nn, .int .i64 mm, .slice b1 l.length b3, .int .i64 keep, .bool reset, .slice f1 f2 f3] OT (0, 0)) → W.cell? ⟨t, 1, none⟩ = some (.int .i64 nn) ∧ W.cell? ⟨t, 2, none⟩ = some (.int .i64 mm) from fun W h => by
          obtain ⟨-, q1, q2, -, -, -, -⟩ := cells7D h
          exact ⟨q1, q2⟩)
        have P4 := PK.out w4' hne
        have bd4 : Below w4'.heap.size w4' w4'.drew := ⟨rfl, rfl, rfl, Nat.le_refl _, fun _ _ => rfl⟩
        have HTd := Lib.hid (HT4'.out.below bd4)
        have HOd := Lib.hid (HO4'.out.below bd4).1
        have HEd := Lib.hid ((HO4'.out.below bd4).2.trans hne)
        have KW := Lib.hid (show Calls Try.prog 29 #[.pointer (some ⟨g, 0, none⟩), .int .i64 nn, .int .i64 mm] w4'.drew (StepL w.heap.size F g (rotV d nn mm).1 er w4'.drew) from (by rw [HER.out]; exact rot_l w.heap.size F g d nn mm w4'.drew HTd.out.a hm64.2))
        clear hw4' ht hnw hno hne her her2 hR6 HT4 HO4 HE4 c0 c1' c2 c3 c4 c5 c6
        go_region_held3 (fun w' => w'.cell? ⟨t, 1, none⟩ = some (.int .i64 nn) ∧ w'.cell? ⟨t, 2, none⟩ = some (.int .i64 mm)) (first | exact P4 | exact P6 | exact P8 | go_keep)
          (first
            | (go_at_call 29; (with_reducible refine KW.out.mono ?_); rintro e w6 hst; obtain ⟨rfl, F6, T6, hF6, hc6⟩ := HTd.out.fst hst; have HT6 := Lib.hid T6; have HO6 := Lib.hid (HOd.out.fst hF6 hc6).1; have HE6 := Lib.hid ((HOd.out.fst hF6 hc6).2.trans HEd.out); have P6 := PK.out w6 HE6.out; have KW7 := Lib.hid (show Calls Try.prog 29 #[.pointer (some ⟨k, 0, none⟩), .int .i64 nn, .int .i64 mm] w6 (StepL w.heap.size G k (rotV o nn mm).1 er w6) from (by rw [← HER2.out]; exact rot_l w.heap.size G k o nn mm w6 T6.b hm64.2)); clear hst T6 hF6 hc6)
            | (go_at_call 29; (with_reducible refine KW7.out.mono ?_); rintro e w8 hst; obtain ⟨rfl, G8, T8, hG8, hc8⟩ := HT6.out.symm.fst hst; have HT8 := Lib.hid T8.symm; have P8 := PK.out w8 ((HO6.out.symm.fst hG8 hc8).2.trans HE6.out); clear hst T8 hG8 hc8))
        go_wp2
        go_roundw
        case rel => exact ⟨i + 1, F6, G8, _, _, by omega, by go_num, HT8, Lib.hid (HR6.out.more (by omega))⟩
        case measure => simp [intOf]; omega
      have HTx := Lib.hid (show Two w.heap.size w (wr.alloc (.cells #[.int .i64 what, .int .i64 nn, .int .i64 mm, .slice b1 l.length b3, .int .i64 keep, .bool reset, .slice f1 f2 f3] OT)) F g d G k o from HT4.out)
      clear HO4 HE4 HT4
      go_wp2
      go_roundw
      case rel => exact ⟨i + 1, F, G, _, _, by omega, by go_num, HTx, Lib.hid (HR.out.more (by omega))⟩
      case measure => simp [intOf]; omega
    · obtain rfl : i = n := by omega
      have HTF := Lib.hid hT.out
      have HRF := Lib.hid hR.out
      clear hlt hi hT hR
      go_wp2_with fail
      go_loopw [11] (fun vi wr => ∃ j : Nat, j ≤ N ∧ vi = .int .i64 (j : Nat) ∧ Hid (Two w.heap.size w wr F g d G k o)) (fun vi _ => (N - intOf vi).toNat)
      case atStart => exact ⟨0, Nat.zero_le _, rfl, HTF⟩
      case round =>
        clear HTF
        obtain ⟨j, hj, rfl, hT⟩ := hrel
        by_cases hlt : j < N
        · have hjI : (j : Int) < (N : Int) := by omega
          have KR := read_l w.heap.size F g d (j : Int) wr hT.out.a
          obtain ⟨hXb, hXl⟩ := hT.out.a.m.readB (j : Int)
          have hrr := HRF.out.read (j : Int)
          have KR2 := fun (W : World) (D : DL w.heap.size W G k o) => read_l w.heap.size G k o (j : Int) W D
          rw [hrr] at KR2
          obtain ⟨X, hX⟩ : ∃ X, X = (readV d (j : Int)).1 := ⟨_, rfl⟩
          obtain ⟨er, her⟩ : ∃ er, er = (readV d (j : Int)).2 := ⟨_, rfl⟩
          rw [← hX] at hXb hXl KR KR2
          rw [← her] at KR KR2
          have HKR := Lib.hid KR2
          clear hrr hX her KR2
          go_wp2_with fail
          (with_reducible refine KR.mono ?_)
          rintro e w5 ⟨a5, c5n, rfl, o5, bb5⟩
          have T5 := hT.out.below bb5
          have KB := HKR.out w5 T5.b
          have HX5 := Lib.hid (bytesV_of_owns o5 hXb (by omega))
          have HT5 := Lib.hid T5
          clear KR hT o5 bb5 T5 HKR
          go_wp2_with fail
          (with_reducible refine KB.mono ?_)
          rintro e w6 ⟨a6, c6n, rfl, o6, bb6⟩
          have KE := sameBytes_any a5 X.length c5n X a6 X.length c6n X w6 (HX5.out.below bb6) (bytesV_of_owns o6 hXb (by omega))
          rw [decide_eq_true rfl] at KE
          have HT6 := Lib.hid (HT5.out.below bb6)
          clear KB HT5 HX5 o6 bb6
          go_wp2_with fail
          (with_reducible refine KE.mono ?_)
          rintro e w7 ⟨rfl, bb7⟩
          have HT7 := Lib.hid (HT6.out.below bb7)
          clear KE HT6 bb7
          go_wp2
          go_roundw
          case rel => exact ⟨j + 1, by omega, by go_num, HT7⟩
          case measure => simp [intOf]; omega
        · obtain rfl : j = N := by omega
          have KG := log_any F g d wr hT.out.a.m
          obtain ⟨hXb, hXl⟩ := hT.out.a.m.logB
          have KG2 := Lib.hid (fun (W : World) (D : DL w.heap.size W G k o) => log_any G k o W D.m)
          rw [← HRF.out.rd] at KG2
          obtain ⟨X, hX⟩ : ∃ X, X = d.read := ⟨_, rfl⟩
          rw [← hX] at hXb hXl KG KG2
          have HT := Lib.hid hT.out
          clear hX hT hlt hj
          go_wp2_with fail
          (with_reducible refine KG.mono ?_)
          rintro e w5 ⟨a5, c5n, rfl, o5, bb5⟩
          have T5 := HT.out.below bb5
          have KB := KG2.out w5 T5.b
          have HX5 := Lib.hid (bytesV_of_owns o5 hXb (by omega))
          have HT5 := Lib.hid T5
          clear KG HT o5 bb5 T5 KG2
          go_wp2_with fail
          (with_reducible refine KB.mono ?_)
          rintro e w6 ⟨a6, c6n, rfl, o6, bb6⟩
          have KE := sameBytes_any a5 X.length c5n X a6 X.length c6n X w6 (HX5.out.below bb6) (bytesV_of_owns o6 hXb (by omega))
          rw [decide_eq_true rfl] at KE
          have HT6 := Lib.hid (HT5.out.below bb6)
          clear KB HT5 HX5 o6 bb6
          go_wp2_with fail
          (with_reducible refine KE.mono ?_)
          rintro e w7 ⟨rfl, bb7⟩
          have HT7 := Lib.hid (HT6.out.below bb7)
          clear KE HT6 bb7
          go_wp2
          go_ret
          exact ⟨rfl, HT7.out.bel⟩
end Go.Proofs.Ytdidalcflkphnaa
