/-
  rilllaw08: DiskLeft.
-/
import Derived.Deep.CutBlock
import Derived.Deep.DeepCutAuto
import Derived.Test.YtdidalcflkphnaaMBase
import Derived.Test.YtdidalcflkphnaaMDjF
import Derived.Test.YtdidalcflkphnaaMDjI
import Derived.Test.YtdidalcflkphnaaMDkH
namespace Go.Proofs.Ytdidalcflkphnaa
open Go.RowKit

set_option maxRecDepth 100000 in
set_option maxHeartbeats 16000000 in
theorem diskLeft_walk (slots : Int) (a1 : Option Addr) (n1 c1 : Nat) (O : Nat → OpR) (fkeep : Int) (freset : Bool) (fa : Option Addr) (fn fc : Nat) (fs : List Int) (wO : World) (_w0 : (Lit.int .i64 slots).wf = true) (h1 : CallsV wO a1 n1 c1 O) (h3 : IntsV wO (fa, fn, fc) fs) (s3 : fn * 8 ≤ 140737488351232) (z3 : ∀ z ∈ fs, (Lit.int .i64 z).wf = true) (_k3 : (Lit.int .i64 fkeep).wf = true) :
    Calls Try.prog 4 #[.int .i64 slots, .slice a1 n1 c1, .agg #[.int .i64 fkeep, .bool freset, .slice fa fn fc]] wO fun e W' => e = .returned (.bool true) ∧ Below wO.heap.size wO W' := by
  obtain rfl : fs.length = fn := h3.length
  have b0 := below_alloc wO (.cells #[.int .i64 fkeep, .bool freset, .slice fa fs.length fc] FT)
  obtain ⟨w, hw⟩ : ∃ x, x = wO.alloc (.cells #[.int .i64 fkeep, .bool freset, .slice fa fs.length fc] FT) := ⟨_, rfl⟩
  have ef : w.heap[wO.heap.size]? = some (.cells #[.int .i64 fkeep, .bool freset, .slice fa fs.length fc] FT) := by rw [hw]; exact heap_alloc_self wO _
  have hwz : w.heap.size = wO.heap.size + 1 := by rw [hw]; exact alloc_sz wO _
  rw [← hw] at b0
  have HW := Lib.hid hw
  have HB0 := Lib.hid b0
  have H1 := Lib.hid (h1.below b0)
  have H3 := Lib.hid (h3.below b0)
  have HEF := Lib.hid ef
  have hz3 : ∀ z ∈ fs, -9223372036854775808 ≤ z ∧ z ≤ 9223372036854775807 := fun z hz => wf_i64 (z3 z hz)
  have HZ3 := Lib.hid hz3
  have KA := alive8_any w
  have hpw : (-1 : Int) ≤ 9223372036854775807 := by omega
  have hb0w : ∀ W', Below w.heap.size w W' → Below wO.heap.size wO W' := fun W' b => HB0.out.trans (b.mono HB0.out.size)
  have HB0W := Lib.hid hb0w
  clear h1 h3 hw b0 ef z3 hz3 hb0w
  go_enter Try.func4, Try.ntmps4
  go_wp2_with fail
  rw [← HW.out]
  obtain ⟨tf, htf⟩ : ∃ t, t = wO.heap.size := ⟨_, rfl⟩
  rw [← htf]
  have HTF := Lib.hid htf
  clear htf
  (with_reducible refine KA.mono ?_)
  rintro e w1 ⟨rfl, b1⟩
  clear KA
  have HB1 := Lib.hid b1
  clear b1
  by_cases hs0 : slots < 1 ∨ 512 < slots
  · have KN := new_bad slots (-1) w1 hs0
    go_wp2_with fail
    (with_reducible refine KN.mono ?_)
    rintro e w2 ⟨rfl, hw2⟩
    subst hw2
    clear KN
    have KM := refNew_bad slots (-1) w2 hs0
    unfold RefH.v RefH.cells zH at KM
    simp only at KM
    go_wp2_with fail
    (with_reducible refine KM.mono ?_)
    rintro e w3 ⟨rfl, b3⟩
    clear KM
    have hb4 := fun cs => (HB1.out.trans (b3.mono HB1.out.size)).trans (((below_alloc w3 (.cells zH.cells RT)).trans (((chF_setRow (w := w3.alloc (.cells zH.cells RT)) (F := fun b => b = w3.heap.size) rfl cs).below (B := w3.heap.size) (fun b e => by omega) (by simp)))).mono (Nat.le_trans HB1.out.size b3.size))
    have HB4 := Lib.hid hb4
    clear hb4 b3
    go_wp2_with (first | ((with_reducible show wpList _ _ _ (⟨_, Op.store RT _ _, _, _, _, _⟩ :: _) _ _); refine Hid.out ?_))
    refine Lib.hid ?_
    refine wpList_store_row rfl RT _ _ rfl w3.heap.size zH.cells rfl rfl RT _ (heap_alloc_self w3 _) (by kernel_rfl) rfl (RefH.one _) ?_
    go_wp2_with fail
    go_ret
    exact ⟨rfl, HB0W.out _ (HB4.out _)⟩
  obtain ⟨N, rfl⟩ : ∃ N : Nat, slots = N := ⟨slots.toNat, by omega⟩
  have KN := new_l w.heap.size N (-1) w1 HB1.out.size (by omega) (by omega) hpw
  go_wp2_with fail
  (with_reducible refine KN.mono ?_)
  rintro e w2 ⟨g2, F2, rfl, D2, hF2, b2⟩
  have HB2 := Lib.hid (HB1.out.trans (b2.mono HB1.out.size))
  have HD2 := Lib.hid D2
  have HF2 := Lib.hid hF2
  have KM := refNew_any N (-1) w2 (by omega) (by omega)
  unfold RefH.v RefH.cells at KM
  simp only at KM
  clear KN D2 hF2 b2
  go_wp2_with fail
  (with_reducible refine KM.mono ?_)
  rintro e w3 ⟨a5, a6, a7, c5, c6, c7, rfl, R3, -, b3⟩
  clear KM
  have e4 := heap_alloc_self w3 (.cells zH.cells RT)
  have b34 := below_alloc w3 (.cells zH.cells RT)
  have cR : ChF (fun b => b = w3.heap.size) (w3.alloc (.cells zH.cells RT)) ((w3.alloc (.cells zH.cells RT)).setRow w3.heap.size (RefH.mk (-1) nH false nH nH (a5, N, c5) (a6, N, c6) (a7, N, c7) true).cells) := chF_setRow (F := fun b => b = w3.heap.size) rfl _
  have P3 : Pr w w3 F2 g2 (fun b => w2.heap.size ≤ b ∧ b < w3.heap.size) ⟨-1, nH, false, nH, nH, (a5, N, c5), (a6, N, c6), (a7, N, c7), true⟩ (newV N (-1)) 0 :=
    ⟨HD2.out.below b3, R3, fun q hq hF => by have := HD2.out.hi q hF; omega, fun q hq => by have := HB2.out.size; omega, HB2.out.trans (b3.mono HB2.out.size), ⟨hpw, by show 1 ≤ (noSl N).length; simp [noSl]; omega, by show (noSl N).length ≤ 512; simp [noSl]; omega, Nat.le_refl _, Nat.le_refl _⟩⟩
  have P4 := (P3.below b34).chF cR (fun q hq e => by have := P3.a.hi q hq; omega) (fun q hq e => by omega) (fun q e => by have := P3.bel.size; omega)
  have LP : LpS w ((w3.alloc (.cells zH.cells RT)).setRow w3.heap.size (RefH.mk (-1) nH false nH nH (a5, N, c5) (a6, N, c6) (a7, N, c7) true).cells) w3.heap.size F2 g2 (fun b => w2.heap.size ≤ b ∧ b < w3.heap.size) ⟨-1, nH, false, nH, nH, (a5, N, c5), (a6, N, c6), (a7, N, c7), true⟩ (newV N (-1)) 0 :=
    ⟨P4, setRow_same e4, fun q hq e => by have := P3.a.hi q hq; omega, fun q hq e => by omega, P3.bel.size⟩
  have HLP0 := Lib.hid LP
  clear LP P4 P3 cR b34 b3 R3
  go_wp2_with (first | ((with_reducible show wpList _ _ _ (⟨_, Op.store RT _ _, _, _, _, _⟩ :: _) _ _); refine Hid.out ?_))
  refine Lib.hid ?_
  refine wpList_store_row rfl RT _ _ rfl w3.heap.size (RefH.mk (-1) nH false nH nH (a5, N, c5) (a6, N, c6) (a7, N, c7) true).cells rfl rfl RT _ e4 (by kernel_rfl) rfl (RefH.one _) ?_
  obtain ⟨tb, htb⟩ : ∃ t, t = w3.heap.size := ⟨_, rfl⟩
  have htb' := htb
  rw [← htb'] at HLP0 ⊢
  obtain ⟨w4, hw4⟩ : ∃ x, x = (w3.alloc (.cells zH.cells RT)).setRow tb (RefH.mk (-1) nH false nH nH (a5, N, c5) (a6, N, c6) (a7, N, c7) true).cells := ⟨_, rfl⟩
  refine (?_ : wpList _ _ _ _ _ ((w3.alloc (.cells zH.cells RT)).setRow tb (RefH.mk (-1) nH false nH nH (a5, N, c5) (a6, N, c6) (a7, N, c7) true).cells))
  rw [← hw4] at HLP0 ⊢
  clear hw4 htb htb' e4 HB2 HD2 HF2
  by_cases h20 : 20 < (N : Int)
  · go_wp2_with fail
    go_ret
    exact ⟨rfl, HB0W.out _ HLP0.out.p.bel⟩
  have KU := cut8_any a1 n1 c1 w4 H1.out.cap H1.out.capm
  go_wp2_with fail
  (with_reducible refine KU.mono ?_)
  rintro e w5 ⟨rfl, hw5⟩
  subst hw5
  obtain ⟨n, hn⟩ : ∃ n, n = min n1 60 := ⟨_, rfl⟩
  rw [← hn]
  have HC := Lib.hid (H1.out.cut (m := n) (by omega))
  have hn60 : n ≤ 60 := by omega
  have hcap := HC.out.cap
  clear KU hn
  go_wp2_with fail
  go_loopw [7, 11] (fun vd vi wr => ∃ (i : Nat) (F R : Nat → Prop) (g : Nat) (h : RefH) (d : DV), i ≤ n ∧ vi = .int .i64 (i : Nat) ∧ vd = .pointer (some ⟨g, 0, none⟩) ∧ Hid (LpS w wr tb F g R h d (i * 5000))) (fun _ vi _ => (n - intOf vi).toNat)
  case atStart => exact ⟨0, F2, _, g2, _, _, Nat.zero_le _, rfl, rfl, HLP0⟩
  case round =>
    clear HLP0
    obtain ⟨i, F, R, g, h, d, hi, rfl, rfl, HLP⟩ := hrel
    by_cases hlt : i < n
    · obtain ⟨b, off, e, hblt, hrow⟩ := HC.out.row (by omega)
      have hat0 := hrow i hlt
      have hat := hat0.below hblt HLP.out.p.bel
      subst e
      obtain ⟨x, hx⟩ : ∃ x, x = O i := ⟨_, rfl⟩
      rw [← hx] at hat hat0
      clear hx hrow
      obtain ⟨what, nn, mm, ⟨b1, b2, b3⟩, l, keep, reset, ⟨f1, f2, f3⟩, f⟩ := x
      obtain ⟨c0, c1', c2, c3, c4, c5, c6, hby, his, wn, wm, wk, wf, hfs⟩ := hat
      obtain ⟨-, -, -, -, -, -, -, hbw, hiw, -, -, -, -, -⟩ := hat0
      simp only at c0 c1' c2 c3 c4 c5 c6 hby his wn wm wk wf hfs hbw hiw
      obtain rfl : l.length = b2 := hby.length
      obtain rfl : f.length = f2 := his.length
      have hm64 := (wf_i64 wm).2
      have hwf : ∀ z ∈ f, -9223372036854775808 ≤ z ∧ z ≤ 9223372036854775807 := fun z hz => wf_i64 (wf z hz)
      have hiI : (i : Int) < (n : Int) := by omega
      by_cases hl : 5000 < l.length
      · have hlI : (5000 : Int) < (l.length : Int) := by omega
        go_wp2_with fail
        go_ret
        exact ⟨rfl, HB0W.out _ HLP.out.p.bel⟩
      have hlI : ¬ (5000 : Int) < (l.length : Int) := by omega
      by_cases hw7 : what = 7
      · go_wp2_with fail
        go_roundw
        case rel => exact ⟨i + 1, F, R, g, h, d, by omega, by go_num, rfl, Lib.hid ⟨⟨HLP.out.p.a, HLP.out.p.b, HLP.out.p.ap, HLP.out.p.lo, HLP.out.p.bel, HLP.out.p.sz.mono (by omega)⟩, HLP.out.box, HLP.out.nF, HLP.out.nR, HLP.out.lo⟩⟩
        case measure => simp [intOf]; omega
      have hw7b : (what == 7) = false := beq_eq_false_iff_ne.2 hw7
      have KA := Lib.hid (fun (wS : World) (hS : ChF (fun _ => False) wr wS) => step_any w wS F g R h d (i * 5000) what nn mm b1 b3 l keep reset f1 f3 f (HLP.out.p.chF hS (fun _ _ e => e) (fun _ _ e => e) (fun _ e => e.elim)) hbw hiw (by omega) (by omega) hm64 (by omega) hwf)
      have HFA := Lib.hid (show (∀ q, F q → q ≠ tb) ∧ (∀ q, F q → q ≠ b) from ⟨HLP.out.nF, fun q hq e => by have := HLP.out.p.a.lo q hq; omega⟩)
      clear hbw hiw hby his wn wm wk wf hfs hwf
      obtain ⟨p, ⟨sa1, sa2, sa3⟩, laid, ⟨ba1, ba2, ba3⟩, ⟨mo1, mo2, mo3⟩, ⟨st1, st2, st3⟩, ⟨no1, no2, no3⟩, ⟨fr1, fr2, fr3⟩, op⟩ := h
      unfold RefH.v RefH.cells at KA
      simp only at KA
      have HPC := Lib.hid (show ∀ (w2 : World) (G : Nat → Prop), ChF G wr w2 → (∀ q, G q → q ≠ tb) → (∀ q, G q → q ≠ b) → (w2.cell? ⟨tb, 0, none⟩ = some (.int .i64 p) ∧ w2.cell? ⟨tb, 1, none⟩ = some (.slice sa1 sa2 sa3) ∧ w2.cell? ⟨tb, 2, none⟩ = some (.bool laid) ∧ w2.cell? ⟨tb, 3, none⟩ = some (.slice ba1 ba2 ba3) ∧ w2.cell? ⟨tb, 4, none⟩ = some (.slice mo1 mo2 mo3) ∧ w2.cell? ⟨tb, 5, none⟩ = some (.slice st1 st2 st3) ∧ w2.cell? ⟨tb, 6, none⟩ = some (.slice no1 no2 no3) ∧ w2.cell? ⟨tb, 7, none⟩ = some (.slice fr1 fr2 fr3) ∧ w2.cell? ⟨tb, 8, none⟩ = some (.bool op)) ∧ (w2.cell? ⟨b, off + i * 7, none⟩ = some (.int .i64 what) ∧ w2.cell? ⟨b, off + i * 7 + 1, none⟩ = some (.int .i64 nn) ∧ w2.cell? ⟨b, off + i * 7 + 2, none⟩ = some (.int .i64 mm) ∧ w2.cell? ⟨b, off + i * 7 + 3, none⟩ = some (.slice b1 l.length b3) ∧ w2.cell? ⟨b, off + i * 7 + 4, none⟩ = some (.int .i64 keep) ∧ w2.cell? ⟨b, off + i * 7 + 5, none⟩ = some (.bool reset) ∧ w2.cell? ⟨b, off + i * 7 + 6, none⟩ = some (.slice f1 f.length f3)) from fun w2 G hc hG1 hG2 => ⟨(cells9D ((hc.block tb (Array.getElem?_eq_some_iff.1 HLP.out.box).1 (fun e => hG1 _ e rfl)).trans HLP.out.box)).1, (fun (hb : w2.heap[b]? = wr.heap[b]?) => ⟨(World.cell?_of_block (w := wr) (w' := w2) (a := ⟨b, off + i * 7, none⟩) hb).trans c0, (World.cell?_of_block (w := wr) (w' := w2) (a := ⟨b, off + i * 7 + 1, none⟩) hb).trans c1', (World.cell?_of_block (w := wr) (w' := w2) (a := ⟨b, off + i * 7 + 2, none⟩) hb).trans c2, (World.cell?_of_block (w := wr) (w' := w2) (a := ⟨b, off + i * 7 + 3, none⟩) hb).trans c3, (World.cell?_of_block (w := wr) (w' := w2) (a := ⟨b, off + i * 7 + 4, none⟩) hb).trans c4, (World.cell?_of_block (w := wr) (w' := w2) (a := ⟨b, off + i * 7 + 5, none⟩) hb).trans c5, (World.cell?_of_block (w := wr) (w' := w2) (a := ⟨b, off + i * 7 + 6, none⟩) hb).trans c6⟩) (hc.block b (Nat.lt_of_lt_of_le hblt HLP.out.p.bel.size) (fun e => hG2 _ e rfl))⟩)
      go_upto_region 14 with fail
      go_cut [12, 13, 14] (fun vn vk vo wx => ∃ F' g' R' h' q, vn = .pointer (some ⟨g', 0, none⟩) ∧ vk = .pointer (some ⟨q, 0, none⟩) ∧ vo = .bool true ∧ Hid (LpT w wx tb q ⟨p, (sa1, sa2, sa3), laid, (ba1, ba2, ba3), (mo1, mo2, mo3), (st1, st2, st3), (no1, no2, no3), (fr1, fr2, fr3), op⟩ F' g' R' h' (stepV d what nn mm l keep reset f).1 (i * 5000 + 5000)))
      case first =>
        have P0 : (wr.drew.cell? ⟨tb, 0, none⟩ = some (.int .i64 p) ∧ wr.drew.cell? ⟨tb, 1, none⟩ = some (.slice sa1 sa2 sa3) ∧ wr.drew.cell? ⟨tb, 2, none⟩ = some (.bool laid) ∧ wr.drew.cell? ⟨tb, 3, none⟩ = some (.slice ba1 ba2 ba3) ∧ wr.drew.cell? ⟨tb, 4, none⟩ = some (.slice mo1 mo2 mo3) ∧ wr.drew.cell? ⟨tb, 5, none⟩ = some (.slice st1 st2 st3) ∧ wr.drew.cell? ⟨tb, 6, none⟩ = some (.slice no1 no2 no3) ∧ wr.drew.cell? ⟨tb, 7, none⟩ = some (.slice fr1 fr2 fr3) ∧ wr.drew.cell? ⟨tb, 8, none⟩ = some (.bool op)) ∧ (wr.drew.cell? ⟨b, off + i * 7, none⟩ = some (.int .i64 what) ∧ wr.drew.cell? ⟨b, off + i * 7 + 1, none⟩ = some (.int .i64 nn) ∧ wr.drew.cell? ⟨b, off + i * 7 + 2, none⟩ = some (.int .i64 mm) ∧ wr.drew.cell? ⟨b, off + i * 7 + 3, none⟩ = some (.slice b1 l.length b3) ∧ wr.drew.cell? ⟨b, off + i * 7 + 4, none⟩ = some (.int .i64 keep) ∧ wr.drew.cell? ⟨b, off + i * 7 + 5, none⟩ = some (.bool reset) ∧ wr.drew.cell? ⟨b, off + i * 7 + 6, none⟩ = some (.slice f1 f.length f3)) := HPC.out wr.drew (fun _ => False) ((ChF.refl _ wr).drew) (fun _ e => e.elim) (fun _ e => e.elim)
        refine GoX.start 14 (fun w' => (w'.cell? ⟨tb, 0, none⟩ = some (.int .i64 p) ∧ w'.cell? ⟨tb, 1, none⟩ = some (.slice sa1 sa2 sa3) ∧ w'.cell? ⟨tb, 2, none⟩ = some (.bool laid) ∧ w'.cell? ⟨tb, 3, none⟩ = some (.slice ba1 ba2 ba3) ∧ w'.cell? ⟨tb, 4, none⟩ = some (.slice mo1 mo2 mo3) ∧ w'.cell? ⟨tb, 5, none⟩ = some (.slice st1 st2 st3) ∧ w'.cell? ⟨tb, 6, none⟩ = some (.slice no1 no2 no3) ∧ w'.cell? ⟨tb, 7, none⟩ = some (.slice fr1 fr2 fr3) ∧ w'.cell? ⟨tb, 8, none⟩ = some (.bool op)) ∧ (w'.cell? ⟨b, off + i * 7, none⟩ = some (.int .i64 what) ∧ w'.cell? ⟨b, off + i * 7 + 1, none⟩ = some (.int .i64 nn) ∧ w'.cell? ⟨b, off + i * 7 + 2, none⟩ = some (.int .i64 mm) ∧ w'.cell? ⟨b, off + i * 7 + 3, none⟩ = some (.slice b1 l.length b3) ∧ w'.cell? ⟨b, off + i * 7 + 4, none⟩ = some (.int .i64 keep) ∧ w'.cell? ⟨b, off + i * 7 + 5, none⟩ = some (.bool reset) ∧ w'.cell? ⟨b, off + i * 7 + 6, none⟩ = some (.slice f1 f.length f3))) (by kernel_rfl) ?_
        refine GoX.take 0 rfl (by kernel_rfl) (by kernel_rfl) (by rfl) (fun _ _ _ h => h) (v := ?tv0) P0 ?ty0 ?tr0
        case ty0 => (intro w hSw; (try dsimp only at hSw); go_simp; first | done | with_reducible rfl)
        simp only [Act.put, List.setIfInBounds_toArray, List.set_cons_zero, List.set_cons_succ]
        refine GoX.take 1 rfl (by kernel_rfl) (by kernel_rfl) (by rfl) (fun _ _ _ h => h) (v := ?tv1) P0 ?ty1 ?tr1
        case ty1 => (intro w hSw; (try dsimp only at hSw); go_simp; first | done | with_reducible rfl)
        simp only [Act.put, List.setIfInBounds_toArray, List.set_cons_zero, List.set_cons_succ]
        refine GoX.take 2 rfl (by kernel_rfl) (by kernel_rfl) (by rfl) (fun _ _ _ h => h) (v := ?tv2) P0 ?ty2 ?tr2
        case ty2 => (intro w hSw; (try dsimp only at hSw); go_simp; first | done | with_reducible rfl)
        simp only [Act.put, List.setIfInBounds_toArray, List.set_cons_zero, List.set_cons_succ]
        refine GoX.take 3 rfl (by kernel_rfl) (by kernel_rfl) (by rfl) (fun _ _ _ h => h) (v := ?tv3) P0 ?ty3 ?tr3
        case ty3 => (intro w hSw; (try dsimp only at hSw); go_simp; first | done | with_reducible rfl)
        simp only [Act.put, List.setIfInBounds_toArray, List.set_cons_zero, List.set_cons_succ]
        refine GoX.take 4 rfl (by kernel_rfl) (by kernel_rfl) (by rfl) (fun _ _ _ h => h) (v := ?tv4) P0 ?ty4 ?tr4
        case ty4 => (intro w hSw; (try dsimp only at hSw); go_simp; first | done | with_reducible rfl)
        simp only [Act.put, List.setIfInBounds_toArray, List.set_cons_zero, List.set_cons_succ]
        refine GoX.take 5 rfl (by kernel_rfl) (by kernel_rfl) (by rfl) (fun _ _ _ h => h) (v := ?tv5) P0 ?ty5 ?tr5
        case ty5 => (intro w hSw; (try dsimp only at hSw); go_simp; first | done | with_reducible rfl)
        simp only [Act.put, List.setIfInBounds_toArray, List.set_cons_zero, List.set_cons_succ]
        refine GoX.two 6 11 rfl rfl (by kernel_rfl) (by decide) (by decide) (fun K hK => ?_) (fun K hK => ?_)
        · rw [if_pos (by rfl)]
          go_simp
          (with_reducible refine (KA.out _ ((ChF.refl _ wr).drew)).mono ?_)
          rintro e w5 ⟨F', g', R', h', rfl, PR, hF, hR, hc⟩
          have hc' : ChF F wr w5 := ⟨hc.os, hc.tape, hc.output, hc.size, hc.block⟩
          have P5 := HPC.out w5 F hc' HFA.out.1 HFA.out.2
          have HT := Lib.hid (LpT.after HLP.out PR hF hR hc')
          have HC5 := Lib.hid hc'
          refine hK.out _ _ P5 (fun _ => ?_)
          clear hK K hF hR hc hc' PR
          refine GoX.take 7 rfl (by kernel_rfl) (by kernel_rfl) (by rfl) (fun _ _ _ h => h) (v := ?tv7q2) P5 ?ty7q2 ?tr7q2
          case ty7q2 => (intro w hSw; (try dsimp only at hSw); go_simp; first | done | with_reducible rfl)
          simp only [Act.put, List.setIfInBounds_toArray, List.set_cons_zero, List.set_cons_succ]
          refine GoX.take 8 rfl (by kernel_rfl) (by kernel_rfl) (by rfl) (fun _ _ _ h => h) (v := ?tv8q2) P5 ?ty8q2 ?tr8q2
          case ty8q2 => (intro w hSw; (try dsimp only at hSw); go_simp; first | done | with_reducible rfl)
          simp only [Act.put, List.setIfInBounds_toArray, List.set_cons_zero, List.set_cons_succ]
          refine GoX.take 9 rfl (by kernel_rfl) (by kernel_rfl) (by rfl) (fun _ _ _ h => h) (v := ?tv9q2) P5 ?ty9q2 ?tr9q2
          case ty9q2 => (intro w hSw; (try dsimp only at hSw); go_simp; first | done | with_reducible rfl)
          simp only [Act.put, List.setIfInBounds_toArray, List.set_cons_zero, List.set_cons_succ]
          refine GoX.take 10 rfl (by kernel_rfl) (by kernel_rfl) (by rfl) (fun _ _ _ h => h) (v := ?tv10q2) P5 ?ty10q2 ?tr10q2
          case ty10q2 => (intro w hSw; (try dsimp only at hSw); go_simp; first | done | with_reducible rfl)
          simp only [Act.put, List.setIfInBounds_toArray, List.set_cons_zero, List.set_cons_succ]
          refine GoX.one 11 rfl (by kernel_rfl) (by decide) (fun K hK => ?_)
          rw [if_pos (by rfl)]
          go_simp
          have P6 := HPC.out (w5.alloc (.cells zH.cells RT)) F (HC5.out.trans (ChF.of_below (below_alloc w5 _)) (fun _ e => .inl e)) HFA.out.1 HFA.out.2
          refine hK.out _ _ P6 (fun _ => ?_)
          clear hK K
          refine GoX.take 12 rfl (by kernel_rfl) (by kernel_rfl) (by rfl) (fun _ _ _ h => h) (v := ?tv12q3) P6 ?ty12q3 ?tr12q3
          case ty12q3 => (intro w hSw; (try dsimp only at hSw); go_simp; first | done | with_reducible rfl)
          simp only [Act.put, List.setIfInBounds_toArray, List.set_cons_zero, List.set_cons_succ]
          have P7 := HPC.out ((w5.alloc (.cells zH.cells RT)).setRow w5.heap.size h'.cells) F ((HC5.out.trans (ChF.of_below (below_alloc w5 _)) (fun _ e => .inl e)).trans (chF_setRow (F := fun b => b = w5.heap.size) rfl _) (fun x e => .inr (by have := HC5.out.size; omega))) HFA.out.1 HFA.out.2
          refine GoX.one 13 rfl (by kernel_rfl) (by decide) (fun K hK => ?_)
          rw [if_pos (by rfl)]
          refine wp_store_row RT (.tmp 13) (.tmp 73) rfl w5.heap.size h'.cells (by rfl) (by rfl) RT _ (heap_alloc_self w5 (.cells zH.cells RT)) (by kernel_rfl) rfl (RefH.one _) ?_
          refine hK.out _ _ P7 (fun _ => ?_)
          clear hK K
          simp only [Act.put]
          refine GoX.last 14 rfl (by kernel_rfl) (by kernel_rfl) (by decide) ?_
          rw [if_pos (by rfl)]
          go_simp
          go_wp2_with fail
          go_meet
          exact ⟨F', g', R', h', _, rfl, rfl, rfl, HT⟩
        · rw [if_pos (by rfl)]
          go_simp
          have hcA : ChF (fun _ => False) wr (wr.alloc (.cells zH.cells RT)).drew := (ChF.of_below (F := fun _ => False) (below_alloc wr _)).drew
          have P6 := HPC.out (wr.alloc (.cells zH.cells RT)).drew (fun _ => False) hcA (fun _ e => e.elim) (fun _ e => e.elim)
          refine hK.out _ _ P6 (fun _ => ?_)
          clear hK K
          refine GoX.one 6 rfl (by kernel_rfl) (by decide) (fun K hK => ?_)
          rw [if_pos (by rfl)]
          go_simp
          (with_reducible refine (KA.out _ ?hS).mono ?_)
          case hS => exact hcA
          rintro e w5 ⟨F', g', R', h', rfl, PR, hF, hR, hc⟩
          have hz : ∀ o : Obj, ((wr.alloc o).drew).heap.size = wr.heap.size + 1 := fun o => by show (wr.alloc o).heap.size = _; simp
          obtain ⟨LT, eq5⟩ := LpT.ahead HLP.out PR (fun q hq => (hF q hq).imp id (fun e => by rw [hz] at e; exact e)) (fun q hq => (hR q hq).imp id (fun e => by rw [hz] at e; exact e)) (show ChF F (wr.alloc (.cells zH.cells RT)) w5 from ⟨hc.os, hc.tape, hc.output, hc.size, hc.block⟩)
          have hcw : ChF F wr w5 := (show ChF F wr (wr.alloc (.cells zH.cells RT)).drew from ⟨hcA.os, hcA.tape, hcA.output, hcA.size, fun b hb _ => hcA.block b hb (fun e => e)⟩).trans hc (fun _ e => .inl e)
          have P5 := HPC.out w5 F hcw HFA.out.1 HFA.out.2
          have HT := Lib.hid LT
          have HC5 := Lib.hid hcw
          refine hK.out _ _ P5 (fun _ => ?_)
          clear hK K hF hR hc hcw PR LT hcA hz
          refine GoX.take 7 rfl (by kernel_rfl) (by kernel_rfl) (by rfl) (fun _ _ _ h => h) (v := ?tv7q4) P5 ?ty7q4 ?tr7q4
          case ty7q4 => (intro w hSw; (try dsimp only at hSw); go_simp; first | done | with_reducible rfl)
          simp only [Act.put, List.setIfInBounds_toArray, List.set_cons_zero, List.set_cons_succ]
          refine GoX.take 8 rfl (by kernel_rfl) (by kernel_rfl) (by rfl) (fun _ _ _ h => h) (v := ?tv8q4) P5 ?ty8q4 ?tr8q4
          case ty8q4 => (intro w hSw; (try dsimp only at hSw); go_simp; first | done | with_reducible rfl)
          simp only [Act.put, List.setIfInBounds_toArray, List.set_cons_zero, List.set_cons_succ]
          refine GoX.take 9 rfl (by kernel_rfl) (by kernel_rfl) (by rfl) (fun _ _ _ h => h) (v := ?tv9q4) P5 ?ty9q4 ?tr9q4
          case ty9q4 => (intro w hSw; (try dsimp only at hSw); go_simp; first | done | with_reducible rfl)
          simp only [Act.put, List.setIfInBounds_toArray, List.set_cons_zero, List.set_cons_succ]
          refine GoX.take 10 rfl (by kernel_rfl) (by kernel_rfl) (by rfl) (fun _ _ _ h => h) (v := ?tv10q4) P5 ?ty10q4 ?tr10q4
          case ty10q4 => (intro w hSw; (try dsimp only at hSw); go_simp; first | done | with_reducible rfl)
          simp only [Act.put, List.setIfInBounds_toArray, List.set_cons_zero, List.set_cons_succ]
          refine GoX.take 12 rfl (by kernel_rfl) (by kernel_rfl) (by rfl) (fun _ _ _ h => h) (v := ?tv12q4) P5 ?ty12q4 ?tr12q4
          case ty12q4 => (intro w hSw; (try dsimp only at hSw); go_simp; first | done | with_reducible rfl)
          simp only [Act.put, List.setIfInBounds_toArray, List.set_cons_zero, List.set_cons_succ]
          have P7 := HPC.out (w5.setRow wr.heap.size h'.cells) F (HC5.out.trans (chF_setRow (F := fun b => b = wr.heap.size) rfl _) (fun x e => .inr (by omega))) HFA.out.1 HFA.out.2
          refine GoX.one 13 rfl (by kernel_rfl) (by decide) (fun K hK => ?_)
          rw [if_pos (by rfl)]
          refine wp_store_row RT (.tmp 13) (.tmp 73) rfl wr.heap.size h'.cells (by rfl) (by rfl) RT _ eq5 (by kernel_rfl) rfl (RefH.one _) ?_
          refine hK.out _ _ P7 (fun _ => ?_)
          clear hK K
          simp only [Act.put]
          refine GoX.last 14 rfl (by kernel_rfl) (by kernel_rfl) (by decide) ?_
          rw [if_pos (by rfl)]
          go_simp
          go_wp2_with fail
          go_meet
          exact ⟨F', g', R', h', _, rfl, rfl, rfl, HT⟩
      case rest =>
        rename World => wx
        obtain ⟨F', g', R', h', q, rfl, rfl, rfl, hL⟩ := hcut
        have HS5 := Lib.hid hL.out.set
        have hbx := hL.out.box
        obtain ⟨⟨m0, m1, m2, m3, m4, m5, m6, m7, m8⟩, -⟩ := cells9D hL.out.new
        obtain ⟨p', ⟨sa1', sa2', sa3'⟩, laid', ⟨ba1', ba2', ba3'⟩, ⟨mo1', mo2', mo3'⟩, ⟨st1', st2', st3'⟩, ⟨no1', no2', no3'⟩, ⟨fr1', fr2', fr3'⟩, op'⟩ := h'
        simp only at m0 m1 m2 m3 m4 m5 m6 m7 m8
        clear hL HPC HFA KA c0 c1' c2 c3 c4 c5 c6
        go_wp2_with (first | ((with_reducible show wpList _ _ _ (⟨_, Op.store RT _ _, _, _, _, _⟩ :: _) _ _); refine Hid.out ?_))
        refine Lib.hid ?_
        refine wpList_store_row rfl RT _ _ rfl tb (RefH.mk p' (sa1', sa2', sa3') laid' (ba1', ba2', ba3') (mo1', mo2', mo3') (st1', st2', st3') (no1', no2', no3') (fr1', fr2', fr3') op').cells rfl rfl RT _ hbx (by kernel_rfl) rfl (RefH.one _) ?_
        obtain ⟨wz, hwz⟩ : ∃ x, x = wx.setRow tb (RefH.mk p' (sa1', sa2', sa3') laid' (ba1', ba2', ba3') (mo1', mo2', mo3') (st1', st2', st3') (no1', no2', no3') (fr1', fr2', fr3') op').cells := ⟨_, rfl⟩
        rw [← hwz] at HS5 ⊢
        clear m0 m1 m2 m3 m4 m5 m6 m7 m8 hbx hwz HLP
        go_wp2_with fail
        go_roundw
        case rel => exact ⟨i + 1, F', R', g', _, _, by omega, by go_num, rfl, by rw [Nat.succ_mul]; exact HS5⟩
        case measure => simp [intOf]; omega
    · obtain rfl : i = n := by omega
      obtain ⟨p, ⟨sa1, sa2, sa3⟩, laid, ⟨ba1, ba2, ba3⟩, ⟨mo1, mo2, mo3⟩, ⟨st1, st2, st3⟩, ⟨no1, no2, no3⟩, ⟨fr1, fr2, fr3⟩, op⟩ := h
      have HUF := Lib.hid (show ∀ w2, Below w.heap.size w w2 → w2.cell? ⟨tf, 0, none⟩ = some (.int .i64 fkeep) ∧ w2.cell? ⟨tf, 1, none⟩ = some (.bool freset) ∧ w2.cell? ⟨tf, 2, none⟩ = some (.slice fa fs.length fc) from fun w2 b2 => by
        have e2 : w2.heap[tf]? = some (.cells #[.int .i64 fkeep, .bool freset, .slice fa fs.length fc] FT) := by rw [b2.block tf (by have := HTF.out; omega), HTF.out]; exact HEF.out
        exact ⟨cell_of_row _ _ 0 _ _ _ e2, cell_of_row _ _ 1 _ _ _ e2, cell_of_row _ _ 2 _ _ _ e2⟩)
      obtain ⟨t0, t1, t2⟩ := HUF.out wr HLP.out.p.bel
      have KF := copyFate_any fkeep freset fa fs.length fc fs wr (H3.out.below HLP.out.p.bel) (by omega)
      go_wp2_with fail
      (with_reducible refine KF.mono ?_)
      rintro e w5 ⟨f5, g5, rfl, o5, b5⟩
      have HLP5 := Lib.hid (HLP.out.below b5)
      have H5 := Lib.hid (intsV_owns o5 (by omega))
      clear KF t0 t1 t2 b5 o5 HLP
      have K6 := heap_alloc_self w5 (.cells #[.int .i64 fkeep, .bool freset, .slice f5 fs.length g5] FT)
      have B6 := below_alloc w5 (.cells #[.int .i64 fkeep, .bool freset, .slice f5 fs.length g5] FT)
      have HK6 := Lib.hid K6
      have HB6 := Lib.hid B6
      clear K6 B6
      go_upto_region 20 with fail
      refine (?_ : ∀ W, W.heap[w5.heap.size]? = some (.cells #[.int .i64 fkeep, .bool freset, .slice f5 fs.length g5] FT (0, 0)) → Below w5.heap.size w5 W → Code.wp Try.prog _ _ _ W) _ HK6.out HB6.out
      intro W KW BW
      clear HK6 HB6
      have LPW := HLP5.out.below BW
      obtain ⟨ow, how⟩ : ∃ x, x = w5.heap.size := ⟨_, rfl⟩
      rw [← how] at KW ⊢
      have o0 : W.cell? ⟨ow, 0, none⟩ = some (.int .i64 fkeep) := cell_of_row _ _ 0 _ _ _ KW
      have o1 : W.cell? ⟨ow, 1, none⟩ = some (.bool freset) := cell_of_row _ _ 1 _ _ _ KW
      have o2 : W.cell? ⟨ow, 2, none⟩ = some (.slice f5 fs.length g5) := cell_of_row _ _ 2 _ _ _ KW
      have how2 := World.block_lt_of_cell? W ⟨ow, 2, none⟩ o2
      have hsz := LPW.p.sz
      have KL := left_l w.heap.size F g d fkeep freset f5 fs.length g5 fs 3 W LPW.p.a (H5.out.below BW) (by omega) (by have := hsz.s2; omega) (by have := hsz.sf; omega) HZ3.out
      have HLW := Lib.hid LPW
      have HO2 := Lib.hid o2
      have HSZ := Lib.hid hsz
      have H6 := Lib.hid (H5.out.below BW)
      clear KW BW LPW HLP5 how hsz H5
      go_wp2_with fail
      (with_reducible refine KL.mono ?_)
      rintro e w6 ⟨gl, F6, rfl, D6, hF6, b6⟩
      have LP6 := HLW.out.below b6
      obtain ⟨⟨m0, m1, m2, m3, m4, m5, m6, m7, m8⟩, -⟩ := cells9D LP6.box
      simp only at m0 m1 m2 m3 m4 m5 m6 m7 m8
      obtain ⟨t0, t1, t2⟩ := HUF.out w6 LP6.p.bel
      have hsm : (logS d.safe d.read d.base d.laid fkeep freset).length ≤ 1000000000 := by
        have q := logS_len d.safe d.read d.base d.laid fkeep freset
        have := HSZ.out.rd
        have := HSZ.out.sf
        omega
      have KR := refLeft_any R ⟨p, (sa1, sa2, sa3), laid, (ba1, ba2, ba3), (mo1, mo2, mo3), (st1, st2, st3), (no1, no2, no3), (fr1, fr2, fr3), op⟩ d fkeep freset fa fs.length fc fs 3 w6 LP6.p.b (H3.out.below LP6.p.bel) HSZ.out.s1 HSZ.out.s2 hsm
      have HD6 := Lib.hid D6
      have HF6 := Lib.hid hF6
      have HB6 := Lib.hid b6
      have HLP6 := Lib.hid LP6
      clear KL D6 hF6 b6 LP6 o0 o1 o2 hsm
      unfold RefH.v RefH.cells at KR
      simp only at KR
      go_wp2_with fail
      (with_reducible refine KR.mono ?_)
      rintro e w7 ⟨h7, rfl, R7, b7⟩
      have R7' : RefD w7 (Gr R w6 w7) h7 (leftV d fkeep freset fs 3) := R7.mono (fun b q => .inr q) (fun b q => by
        rcases q with q | q
        · have := HLP6.out.p.b.lt b q; have := b7.size; omega
        · exact q.2)
      have P7 := HLW.out.p.step HD6.out (fun q hq => .inr (HF6.out q hq)) (ChF.of_below HB6.out) R7' b7 (HSZ.out.left (p := 3) (by omega))
      have KM := same_any w w7 F6 gl (Gr R w6 w7) h7 _ _ P7 (by omega)
      have LP7 := HLP6.out.below b7
      have HLP7 := Lib.hid LP7
      have HB7 := Lib.hid b7
      clear KR R7 R7' P7 LP7 b7 m0 m1 m2 m3 m4 m5 m6 m7 m8 t0 t1 t2 HD6 HF6
      unfold RefH.v RefH.cells at KM
      go_wp2_with fail
      (with_reducible refine KM.mono ?_)
      rintro e w8 ⟨rfl, b8⟩
      have LP8 := HLP7.out.below b8
      obtain ⟨⟨m0, m1, m2, m3, m4, m5, m6, m7, m8⟩, -⟩ := cells9D LP8.box
      simp only at m0 m1 m2 m3 m4 m5 m6 m7 m8
      have KM2 := same_any w w8 F g R _ _ _ LP8.p (by omega)
      have HLP8 := Lib.hid LP8
      have HB8 := Lib.hid (below_trans' (below_trans' HB6.out HB7.out) b8)
      clear KM b8 LP8 HLP7 HLP6 HB6 HB7 HLW
      unfold RefH.v RefH.cells at KM2
      simp only at KM2
      go_wp2_with fail
      (with_reducible refine KM2.mono ?_)
      rintro e w9 ⟨rfl, b9⟩
      have LP9 := HLP8.out.below b9
      have hB9 := below_trans' HB8.out b9
      obtain ⟨-, -, t2⟩ := HUF.out w9 LP9.p.bel
      have o2 := (hB9.cell (p := ⟨ow, 2, none⟩) how2).trans HO2.out
      have KI := sameInts_any f5 fs.length g5 fs fa fs.length fc fs w9 (H6.out.below hB9) (H3.out.below LP9.p.bel)
      rw [decide_eq_true (rfl : fs = fs)] at KI
      have HBL := Lib.hid LP9.p.bel
      clear KM2 b9 LP9 hB9 m0 m1 m2 m3 m4 m5 m6 m7 m8 HLP8 HB8
      go_wp2_with fail
      (with_reducible refine KI.mono ?_)
      rintro e wA ⟨rfl, hm⟩
      have hbA : Below w.heap.size w wA := HBL.out.trans (hm.mono HBL.out.size)
      clear KI hm
      go_wp2
      go_ret
      exact ⟨rfl, HB0W.out _ hbA⟩
end Go.Proofs.Ytdidalcflkphnaa
