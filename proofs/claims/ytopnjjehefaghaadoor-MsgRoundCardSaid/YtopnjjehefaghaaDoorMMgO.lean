/-
  msg's laws: items in memory of one's own; copies of messages.
-/
import Derived.Test.YtopnjjehefaghaaDoorMCh3
import Derived.Test.YtopnjjehefaghaaDoorMMe2
import Derived.Test.YtopnjjehefaghaaDoorMSyA
import Derived.Test.YtopnjjehefaghaaDoorMMgC
import Derived.Test.YtopnjjehefaghaaDoorMSts
namespace Go.Proofs.YtopnjjehefaghaaDoor
open Go.RowKit

def icells : List (ItR × HdT) → List Value
  | [] => []
  | x :: xs => .string x.1.key :: .int .i64 x.1.m.N :: .int .i64 x.1.m.c :: .int .i64 x.1.m.s :: .int .i64 x.1.m.t :: .bool x.1.m.d :: SV x.2 :: icells xs
theorem icells_length : ∀ xs : List (ItR × HdT), (icells xs).length = xs.length * 7
  | [] => rfl
  | x :: xs => by simp [icells, icells_length xs]; omega
theorem icells_append : ∀ xs ys : List (ItR × HdT), icells (xs ++ ys) = icells xs ++ icells ys
  | [], ys => rfl
  | x :: xs, ys => by simp [icells, icells_append xs ys]
theorem icells_one (xs : List (ItR × HdT)) : ∀ u ∈ icells xs, u.oneCell' = true := by
  induction xs with
  | nil => intro u hu; cases hu
  | cons x xs ih =>
    intro u hu
    simp only [icells, List.mem_cons] at hu
    rcases hu with rfl | rfl | rfl | rfl | rfl | rfl | rfl | hu
    · rfl
    · rfl
    · rfl
    · rfl
    · rfl
    · rfl
    · rfl
    · exact ih u hu
theorem icells_get (xs : List (ItR × HdT)) : ∀ (i : Nat) (x : ItR × HdT), xs[i]? = some x → (icells xs)[i * 7]? = some (.string x.1.key) ∧ (icells xs)[i * 7 + 1]? = some (.int .i64 x.1.m.N) ∧ (icells xs)[i * 7 + 2]? = some (.int .i64 x.1.m.c) ∧ (icells xs)[i * 7 + 3]? = some (.int .i64 x.1.m.s) ∧ (icells xs)[i * 7 + 4]? = some (.int .i64 x.1.m.t) ∧ (icells xs)[i * 7 + 5]? = some (.bool x.1.m.d) ∧ (icells xs)[i * 7 + 6]? = some (SV x.2) := by
  induction xs with
  | nil => intro i x h; simp at h
  | cons y xs ih =>
    intro i x h
    cases i with
    | zero => simp at h; subst h; exact ⟨rfl, rfl, rfl, rfl, rfl, rfl, rfl⟩
    | succ i =>
      simp at h
      have := ih i x h
      rw [show (i + 1) * 7 = i * 7 + 7 by omega]
      exact this
theorem iinfo : (Tryd.prog.info? 53).map (fun i => (i.zero, i.size, i.bytes)) = some (some (.agg #[.string ⟨#[]⟩, .int .i64 0, .int .i64 0, .int .i64 0, .int .i64 0, .bool false, .slice none 0 0]), 7, 80) := by kernel_rfl
/-- items in memory of one's own. -/
structure OwI (w : World) (B : Nat) (a : Option Addr) (c : Nat) (xs : List (ItR × HdT)) : Prop where
  own : w.ownsRow B IT7 7 (.slice a xs.length c) xs.length (icells xs)
  dig : ∀ x ∈ xs, x.2.2.1 = x.1.m.l.length ∧ w.ownsRow B 5 1 (SV x.2) x.1.m.l.length (x.1.m.l.map bv) ∧ Bytes x.1.m.l ∧ x.1.m.l.length ≤ 140737488355328
theorem OwI.below {w w' : World} {B : Nat} {a : Option Addr} {c : Nat} {xs : List (ItR × HdT)} (h : OwI w B a c xs) (hb : Below w.heap.size w w') : OwI w' B a c xs :=
  ⟨own_belowM h.own hb, fun x hx => by obtain ⟨k0, k1, k2⟩ := h.dig x hx; exact ⟨k0, own_belowM k1 hb, k2⟩⟩
theorem OwI.rebase {w : World} {B B' : Nat} {a : Option Addr} {c : Nat} {xs : List (ItR × HdT)} (h : OwI w B a c xs) (hB : B' ≤ B) : OwI w B' a c xs :=
  ⟨ownsRow_base h.own hB, fun x hx => by obtain ⟨k0, k1, k2⟩ := h.dig x hx; exact ⟨k0, ownsRow_base k1 hB, k2⟩⟩
theorem OwI.nil (w : World) (B : Nat) : OwI w B none 0 [] := ⟨⟨rfl, .inl ⟨rfl, rfl⟩⟩, fun _ hx => nomatch hx⟩
theorem OwI.made {w : World} {B : Nat} (hB : B ≤ w.heap.size) : OwI (w.alloc (.cells #[] IT7)) B (some ⟨w.heap.size, 0, none⟩) 0 [] :=
  ⟨World.ownsRow_made (base := B) (e := IT7) (size := 7) w #[] 0 hB (by simp [maxLen]) rfl, fun _ hx => nomatch hx⟩
theorem OwI.grown {w w' : World} {B g : Nat} {a : Option Addr} {c : Nat} {xs : List (ItR × HdT)} (h : OwI w B a c xs) (hg : w.grownBy w' (some g)) (hlt : g < B) : OwI w' B a c xs :=
  ⟨h.own.kept hg (.inr (fun e => by have := (h.own.lt g e).1; omega)), fun x hx => by obtain ⟨k0, k1, k2⟩ := h.dig x hx; exact ⟨k0, k1.kept hg (.inr (fun e => by have := (k1.lt g e).1; omega)), k2⟩⟩
theorem OwnS.grown {w w' : World} {B g : Nat} {a : Option Addr} {n c : Nat} {ss : List Sy} (h : OwnS w B a n c ss) (hg : w.grownBy w' (some g)) (hlt : g < B) : OwnS w' B a n c ss := by
  obtain ⟨l1, xs, l2, l3, l4⟩ := h
  exact ⟨l1, xs, l2, l3.kept hg (.inr (fun e => by have := (l3.lt g e).1; omega)), fun i x p ha hb => by
    obtain ⟨k0, k1, k2, k3, k4, k5⟩ := l4 i x p ha hb
    exact ⟨k0, k1, k2, k3.kept hg (.inr (fun e => by have := (k3.lt g e).1; omega)), k4, k5⟩⟩
theorem bytesV_own {w : World} {B : Nat} {x : HdT} {l : List Nat} (h : w.ownsRow B 5 1 (SV x) l.length (l.map bv)) (hx : x.2.1 = l.length) (hb : Bytes l) (hs : l.length ≤ 140737488355328) : BytesV w x l := by
  obtain ⟨a, n, c⟩ := x
  simp only at hx
  subst hx
  exact bytesV_of_owns h hb hs
theorem OwI.itv {w : World} {B : Nat} {a : Option Addr} {c : Nat} {xs : List (ItR × HdT)} (h : OwI w B a c xs) : ItV w a xs.length (xs.map Prod.fst) := by
  refine ⟨by simp, fun i => ((xs[i]?).map Prod.snd).getD (none, 0, 0), fun h0 => ?_⟩
  rcases h.own.2 with ⟨_, e⟩ | ⟨g, cap, cur, e, _, hg, _, _, _, ht⟩
  · omega
  · injection e with e1 e2 e3
    subst e1
    refine ⟨g, 0, rfl, fun i it hi => ?_⟩
    rw [List.getElem?_map] at hi
    obtain ⟨x, hx, rfl⟩ := Option.map_eq_some_iff.1 hi
    have hl : i < xs.length := (List.getElem?_eq_some_iff.1 hx).1
    have k := icells_get xs i x hx
    have q := fun j (hj : j < 7) => h.own.cellAt (i * 7 + j) (by omega)
    obtain ⟨k0, k1, k2, k3⟩ := h.dig x (List.mem_of_getElem? hx)
    simp only [Nat.zero_add, hx, Option.map_some, Option.getD_some]
    exact ⟨(q 0 (by omega)).trans k.1, (q 1 (by omega)).trans k.2.1, (q 2 (by omega)).trans k.2.2.1, (q 3 (by omega)).trans k.2.2.2.1, (q 4 (by omega)).trans k.2.2.2.2.1, (q 5 (by omega)).trans k.2.2.2.2.2.1, (q 6 (by omega)).trans k.2.2.2.2.2.2, bytesV_own k1 k0 k2 k3⟩
theorem OwI.snoc {wm w' : World} {B : Nat} {a : Option Addr} {c : Nat} {xs : List (ItR × HdT)} (h : OwI wm B a c xs) {it : ItR} {y : HdT} (hy : wm.ownsRow B 5 1 (SV y) it.m.l.length (it.m.l.map bv)) (hyl : y.2.1 = it.m.l.length) (hl : Bytes it.m.l ∧ it.m.l.length ≤ 140737488355328) {g cap : Nat}
    (hE : w'.ownsRow B IT7 7 (.slice (some ⟨g, 0, none⟩) (xs.length + 1) cap) (xs.length + 1) (icells xs ++ [.string it.key, .int .i64 it.m.N, .int .i64 it.m.c, .int .i64 it.m.s, .int .i64 it.m.t, .bool it.m.d, SV y])) (hg : wm.grownBy w' (Value.slice a xs.length c).ownBlock) : OwI w' B (some ⟨g, 0, none⟩) cap (xs ++ [(it, y)]) := by
  have key : ∀ {x : HdT} {m : List Nat}, wm.ownsRow B 5 1 (SV x) m.length (m.map bv) → w'.ownsRow B 5 1 (SV x) m.length (m.map bv) := fun k => k.kept hg (own_ne k h.own (by decide))
  refine ⟨by rw [List.length_append, icells_append]; exact hE, fun x hx => ?_⟩
  rcases List.mem_append.1 hx with hx | hx
  · obtain ⟨k0, k1, k2⟩ := h.dig x hx
    exact ⟨k0, key k1, k2⟩
  · rw [List.mem_singleton] at hx
    subst hx
    exact ⟨hyl, key hy, hl⟩

theorem frozen_none {w : World} {b : Nat} {cs : Array Value} {T : TypeId} (h : w.heap[b]? = some (.cells cs T (0, 0))) : ∀ j, w.frozen? ⟨b, j, none⟩ = false := fun _ => frozen_of_row _ _ _ _ _ h
set_option maxRecDepth 100000 in
set_option maxHeartbeats 16000000 in
theorem copyMsg_any (M : MsR) (x : Option Addr × Nat × Nat) (sa : Option Addr) (sc : Nat) (ia : Option Addr) (ic : Nat) (w : World) (hM : MsV w M x sa ia) (hs : M.sy.length ≤ 10000) (hi : M.it.length ≤ 10000) :
    Calls Tryd.prog 11 #[.agg (MsC M x sa sc ia ic)] w fun e w' => ∃ x' sa' sc' ia' ic', e = .returned (.agg (MsC M x' sa' sc' ia' ic')) ∧ MsV w' M x' sa' ia' ∧ Below w.heap.size w w' := by
  obtain ⟨k, f, t, op, cd, key, m, sy, it⟩ := M
  obtain ⟨xa, xn, xc⟩ := x
  simp only at hs hi
  have hMx : BytesV w (xa, xn, xc) m.l := hM.x
  have hMs : SyV w sa sy.length sy := hM.s
  have hMi : ItV w ia it.length it := hM.i
  have hml : m.l.length = xn := hMx.length
  obtain ⟨SN, hSN⟩ : ∃ n, n = sy.length := ⟨_, rfl⟩
  obtain ⟨IN, hIN⟩ : ∃ n, n = it.length := ⟨_, rfl⟩
  simp only [← hSN] at hMs hs
  simp only [← hIN] at hMi hi
  obtain ⟨b, hb⟩ : ∃ b, b = w.heap.size := ⟨_, rfl⟩
  obtain ⟨w1, hw1⟩ : ∃ x, x = w.alloc (.cells #[.int .i64 k, .int .i64 f, .int .i64 t, .int .i64 op, .int .i64 cd, .string key, .int .i64 m.N, .int .i64 m.c, .int .i64 m.s, .int .i64 m.t, .bool m.d, .slice xa xn xc, .slice sa SN sc, .slice ia IN ic] MMT) := ⟨_, rfl⟩
  have hs1 : w1.heap.size = b + 1 := by rw [hw1, hb]; simp
  obtain ⟨w2, hw2⟩ : ∃ x, x = w1.alloc (.cells #[.int .i64 0, .int .i64 0, .int .i64 0, .int .i64 0, .int .i64 0, .string ⟨#[]⟩, .int .i64 0, .int .i64 0, .int .i64 0, .int .i64 0, .bool false, .slice none 0 0, .slice none 0 0, .slice none 0 0] MMT) := ⟨_, rfl⟩
  have hs2 : w2.heap.size = b + 2 := by rw [hw2]; simp; omega
  have h1 : w1.heap[b]? = some (.cells #[.int .i64 k, .int .i64 f, .int .i64 t, .int .i64 op, .int .i64 cd, .string key, .int .i64 m.N, .int .i64 m.c, .int .i64 m.s, .int .i64 m.t, .bool m.d, .slice xa xn xc, .slice sa SN sc, .slice ia IN ic] MMT (0, 0)) := by rw [hw1, hb]; exact heap_alloc_new w _
  have h2 : w2.heap[b]? = some (.cells #[.int .i64 k, .int .i64 f, .int .i64 t, .int .i64 op, .int .i64 cd, .string key, .int .i64 m.N, .int .i64 m.c, .int .i64 m.s, .int .i64 m.t, .bool m.d, .slice xa xn xc, .slice sa SN sc, .slice ia IN ic] MMT (0, 0)) := by rw [hw2, heap_alloc_old _ _ (by omega)]; exact h1
  have h3 : w2.heap[b + 1]? = some (.cells #[.int .i64 0, .int .i64 0, .int .i64 0, .int .i64 0, .int .i64 0, .string ⟨#[]⟩, .int .i64 0, .int .i64 0, .int .i64 0, .int .i64 0, .bool false, .slice none 0 0, .slice none 0 0, .slice none 0 0] MMT (0, 0)) := by rw [hw2, ← hs1]; exact heap_alloc_new w1 _
  have b2 : Below b w w2 := by rw [hw2, hw1, hb]; exact (below_alloc w _).trans ((below_alloc _ _).mono (by simp))
  have hcs2 : MsC ⟨k, f, t, op, cd, key, m, sy, it⟩ (xa, xn, xc) sa sc ia ic = #[.int .i64 k, .int .i64 f, .int .i64 t, .int .i64 op, .int .i64 cd, .string key, .int .i64 m.N, .int .i64 m.c, .int .i64 m.s, .int .i64 m.t, .bool m.d, .slice xa xn xc, .slice sa SN sc, .slice ia IN ic] := by rw [hSN, hIN]
  rw [hcs2]
  have HW1 := Lib.hid hw1
  have HW2 := Lib.hid hw2
  have HBB := Lib.hid hb
  have H2 := Lib.hid h2
  have H3 := Lib.hid h3
  have B2 := Lib.hid b2
  have HMX := Lib.hid hMx
  have HMS := Lib.hid hMs
  have HMI := Lib.hid hMi
  have HSN := Lib.hid hSN
  have HIN := Lib.hid hIN
  have HML := Lib.hid hml
  have hbw : b ≤ w.heap.size := by omega
  have HZ2 := Lib.hid hs2
  have HSB := Lib.hid (show Bytes m.l ∧ xn ≤ 140737488355328 from ⟨hMx.bytes, hMx.small⟩)
  have hbm : ∀ W, Below b w W → Below w.heap.size w W := fun W h => by rw [hb] at h; exact h
  have HBM := Lib.hid hbm
  have KM := copyMeta_any m.N m.c m.s m.t m.d xa xn xc m.l w2 (hMx.below (hbm _ b2))
  obtain ⟨⟨c0, c1, c2, c3, c4, c5, c6⟩, c7, c8, c9, c10, c11, c12, c13⟩ := cells14 h2
  clear hw1 hw2 hb h1 h2 h3 b2 hs1 hs2 hM hMx hMs hMi hSN hIN hcs2 hml hbm
  go_enter Tryd.func11, Tryd.ntmps11
  go_upto_region 1 with fail
  rw [← HBB.out, ← HW1.out, ← HW2.out]
  go_wp2_with fail
  (with_reducible refine KM.mono ?_)
  rintro e v1 ⟨xa', xc', rfl, o1, b1⟩
  have hz2 := HZ2.out
  have g1 := (b1.block b (by omega)).trans H2.out
  have G3 := Lib.hid ((b1.block (b + 1) (by omega)).trans H3.out)
  have B1 := Lib.hid (B2.out.trans (b1.mono (by omega)))
  obtain ⟨v2, hv2⟩ : ∃ x, x = ((((((v1.setCell ⟨b, 6, none⟩ (.int .i64 m.N)).setCell ⟨b, 7, none⟩ (.int .i64 m.c)).setCell ⟨b, 8, none⟩ (.int .i64 m.s)).setCell ⟨b, 9, none⟩ (.int .i64 m.t)).setCell ⟨b, 10, none⟩ (.bool m.d)).setCell ⟨b, 11, none⟩ (.slice xa' xn xc')) := ⟨_, rfl⟩
  have hv2' : v2 = setsFrom v1 b 6 [.int .i64 m.N, .int .i64 m.c, .int .i64 m.s, .int .i64 m.t, .bool m.d, .slice xa' xn xc'] := hv2
  have hgr : v1.grownBy v2 (some b) := by rw [hv2']; exact grown_setsFrom _ _ _
  have k2 : v2.heap[b]? = some (.cells #[.int .i64 k, .int .i64 f, .int .i64 t, .int .i64 op, .int .i64 cd, .string key, .int .i64 m.N, .int .i64 m.c, .int .i64 m.s, .int .i64 m.t, .bool m.d, .slice xa' xn xc', .slice sa SN sc, .slice ia IN ic] MMT (0, 0)) := by rw [hv2']; exact heap_setsFrom 6 _ g1 rfl
  have hv1s := b1.size
  have K3 := Lib.hid ((hgr.block (b + 1) (by omega) (fun e => by injection e with e; omega)).trans G3.out)
  have HO2 := Lib.hid (o1.kept hgr (.inr (fun e => by have := (o1.lt b e).1; omega)))
  have B3 := Lib.hid (B1.out.grown hgr (by omega) (fun q hq => by injection hq with hq; omega))
  have hz3 : b + 2 ≤ v2.heap.size := Nat.le_trans (by omega) hgr.size
  have HV2 := Lib.hid hv2
  have K2 := Lib.hid k2
  clear c0 c1 c2 c3 c4 c5 c6 c7 c8 c9 c10 c11 c12 c13
  obtain ⟨⟨c0, c1, c2, c3, c4, c5, c6⟩, c7, c8, c9, c10, c11, c12, c13⟩ := cells14 g1
  have hfz := frozen_none g1
  have KP := copySyms_own sa SN sc sy v2 (HMS.out.below (HBM.out _ B3.out)) hs
  clear hv2 hv2' hgr o1 b1 k2 KM g1 hv1s hz2
  go_upto_region 2 with fail
  rw [← HV2.out]
  clear c0 c1 c2 c3 c4 c5 c6 c7 c8 c9 c10 c11 c12 c13
  clear hfz
  obtain ⟨⟨c0, c1, c2, c3, c4, c5, c6⟩, c7, c8, c9, c10, c11, c12, c13⟩ := cells14 K2.out
  go_wp2_with fail
  (with_reducible refine KP.mono ?_)
  rintro e v3 ⟨sa', sc', rfl, hO3, b3⟩
  have g2 := (b3.block b (by omega)).trans K2.out
  have G4 := Lib.hid ((b3.block (b + 1) (by omega)).trans K3.out)
  have B4 := Lib.hid (B3.out.trans (b3.mono (by omega)))
  have o3 := own_belowM HO2.out b3
  obtain ⟨v4, hv4⟩ : ∃ x, x = v3.setCell ⟨b, 12, none⟩ (.slice sa' SN sc') := ⟨_, rfl⟩
  have hgr : v3.grownBy v4 (some b) := by rw [hv4]; exact grownBy_setCellM v3 ⟨b, 12, none⟩ _
  have k4 : v4.heap[b]? = some (.cells #[.int .i64 k, .int .i64 f, .int .i64 t, .int .i64 op, .int .i64 cd, .string key, .int .i64 m.N, .int .i64 m.c, .int .i64 m.s, .int .i64 m.t, .bool m.d, .slice xa' xn xc', .slice sa' SN sc', .slice ia IN ic] MMT (0, 0)) := by rw [hv4]; exact heap_setCell_same v3 b 12 _ _ _ g2
  have hv3s := b3.size
  have hvz : b < v2.heap.size := by omega
  have hvz1 : b + 1 < v2.heap.size := by omega
  have K5 := Lib.hid ((hgr.block (b + 1) (by omega) (fun e => by injection e with e; omega)).trans G4.out)
  have HO4 := Lib.hid (o3.kept hgr (.inr (fun e => by have := (o3.lt b e).1; have := HZ2.out; omega)))
  have hsy := hO3.grown hgr (by omega)
  have B5 := Lib.hid (B4.out.grown hgr (by omega) (fun q hq => by injection hq with hq; omega))
  have hz4 : b + 2 ≤ v4.heap.size := Nat.le_trans (by omega) hgr.size
  have HV4 := Lib.hid hv4
  have K4 := Lib.hid k4
  have HSY := Lib.hid hsy
  clear c0 c1 c2 c3 c4 c5 c6 c7 c8 c9 c10 c11 c12 c13
  obtain ⟨⟨c0, c1, c2, c3, c4, c5, c6⟩, c7, c8, c9, c10, c11, c12, c13⟩ := cells14 g2
  have hfz := frozen_none g2
  clear hv4 hgr o3 b3 k4 KP g2 hO3 hsy hv3s hz3
  go_upto_region 3 with fail
  rw [← HV4.out]
  clear c0 c1 c2 c3 c4 c5 c6 c7 c8 c9 c10 c11 c12 c13
  clear hfz HV4 HV2 HW1 HW2 HO2 G3 G4 H2 H3 K2 K3 B1 B2 B3 B4
  obtain ⟨i0, hpi, hz0, hz1, hz2⟩ := info_partsM iinfo
  obtain ⟨w5, hw5⟩ : ∃ x, x = v4.alloc (.cells #[] IT7) := ⟨_, rfl⟩
  have HP : Hid (OwI w5 v4.heap.size (some ⟨v4.heap.size, 0, none⟩) 0 []) := Lib.hid (by rw [hw5]; exact OwI.made (Nat.le_refl _))
  have HB5 : Hid (Below v4.heap.size v4 w5) := Lib.hid (by rw [hw5]; exact below_alloc v4 _)
  have HW5 := Lib.hid hw5
  clear hw5
  go_upto_block 0 with fail
  rw [← HW5.out]
  have hcell13 : ∀ W, Below v4.heap.size v4 W → W.cell? ⟨b, 13, none⟩ = some (.slice ia IN ic) := fun W h => cell_of_row _ _ 13 _ _ _ ((h.block b (by omega)).trans K4.out)
  have HC13 := Lib.hid hcell13
  have c13 := hcell13 _ HB5.out
  clear hcell13
  go_wp2_with fail
  go_loopw [3, 4] (fun vp vi wr => ∃ (i : Nat) (av : Option Addr) (cv : Nat) (xs : List (ItR × HdT)), i ≤ IN ∧ vi = .int .i64 (i : Nat) ∧ vp = .slice av xs.length cv ∧ Hid (xs.map Prod.fst = it.take i) ∧ Hid (OwI wr v4.heap.size av cv xs) ∧ Hid (Below v4.heap.size v4 wr)) (fun _ vi _ => (IN - intOf vi).toNat)
  case atStart => exact ⟨0, _, _, [], Nat.zero_le _, rfl, rfl, Lib.hid (by simp), HP, HB5⟩
  case round =>
    clear HP HB5 c13 HW5
    obtain ⟨i, av, cv, xs, hile, rfl, rfl, HXS, hP, hB⟩ := hrel
    have c13 := HC13.out _ hB.out
    by_cases hlt : i < IN
    · obtain ⟨q, off, y, ⟨ya, yn, yc⟩, rfl, hpi', hat⟩ := HMI.out.at hlt
      obtain ⟨ykey, ym⟩ := y
      have HAT := Lib.hid (hat.below (HBM.out _ B5.out))
      have hat2 := HAT.out.below hB.out
      obtain ⟨p0, p1, p2, p3, p4, p5, p6, hby⟩ := hat2
      simp only at p0 p1 p2 p3 p4 p5 p6 hby
      have hyl : ym.l.length = yn := hby.length
      have HYL := Lib.hid hyl
      have HYB := Lib.hid (show Bytes ym.l ∧ ym.l.length ≤ 140737488355328 from ⟨hby.bytes, by rw [hyl]; exact hby.small⟩)
      have KM := copyMeta_any ym.N ym.c ym.s ym.t ym.d ya yn yc ym.l wr.drew (hby.below (drewBelow wr))
      have HT : Hid (it.take (i + 1) = it.take i ++ [⟨ykey, ym⟩]) := Lib.hid (take_step it i _ hpi')
      have hxl : xs.length = i := by have := congrArg List.length HXS.out; rw [List.length_map, List.length_take] at this; have := HIN.out; omega
      have hxle : xs.length ≤ 10000 := by omega
      have HXL := Lib.hid hxl
      have hsw := hB.out.size
      have j0' : (0 : Int) ≤ (i : Int) := by omega
      have j1' : (i : Int) < (IN : Int) := by omega
      clear hat hpi' hby hyl hxl
      go_wp2_with fail
      have P0 : wr.drew.cell? ⟨b, 13, none⟩ = some (.slice (some ⟨q, off, none⟩) IN ic) ∧ wr.drew.cell? ⟨q, off + i * 7, none⟩ = some (.string ykey) ∧ wr.drew.cell? ⟨q, off + i * 7 + 1, none⟩ = some (.int .i64 ym.N) ∧ wr.drew.cell? ⟨q, off + i * 7 + 2, none⟩ = some (.int .i64 ym.c) ∧ wr.drew.cell? ⟨q, off + i * 7 + 3, none⟩ = some (.int .i64 ym.s) ∧ wr.drew.cell? ⟨q, off + i * 7 + 4, none⟩ = some (.int .i64 ym.t) ∧ wr.drew.cell? ⟨q, off + i * 7 + 5, none⟩ = some (.bool ym.d) ∧ wr.drew.cell? ⟨q, off + i * 7 + 6, none⟩ = some (.slice ya yn yc) := ⟨HC13.out _ (hB.out.drew), (HAT.out.below (hB.out.drew)).c0, (HAT.out.below (hB.out.drew)).c1, (HAT.out.below (hB.out.drew)).c2, (HAT.out.below (hB.out.drew)).c3, (HAT.out.below (hB.out.drew)).c4, (HAT.out.below (hB.out.drew)).c5, (HAT.out.below (hB.out.drew)).c6⟩
      refine GoX.start 17 (fun w' => w'.cell? ⟨b, 13, none⟩ = some (.slice (some ⟨q, off, none⟩) IN ic) ∧ w'.cell? ⟨q, off + i * 7, none⟩ = some (.string ykey) ∧ w'.cell? ⟨q, off + i * 7 + 1, none⟩ = some (.int .i64 ym.N) ∧ w'.cell? ⟨q, off + i * 7 + 2, none⟩ = some (.int .i64 ym.c) ∧ w'.cell? ⟨q, off + i * 7 + 3, none⟩ = some (.int .i64 ym.s) ∧ w'.cell? ⟨q, off + i * 7 + 4, none⟩ = some (.int .i64 ym.t) ∧ w'.cell? ⟨q, off + i * 7 + 5, none⟩ = some (.bool ym.d) ∧ w'.cell? ⟨q, off + i * 7 + 6, none⟩ = some (.slice ya yn yc)) (by kernel_rfl) ?_
      refine GoX.take 0 rfl (by kernel_rfl) (by kernel_rfl) (by rfl) (fun _ _ _ h => h) (v := ?tv0g1) P0 ?ty0g1 ?tr0g1
      case ty0g1 => (intro w hSw; (try dsimp only at hSw); go_simp; first | done | with_reducible rfl)
      simp only [Act.put, List.setIfInBounds_toArray, List.set_cons_zero, List.set_cons_succ]
      refine GoX.take 1 rfl (by kernel_rfl) (by kernel_rfl) (by rfl) (fun _ _ _ h => h) (v := ?tv1g2) P0 ?ty1g2 ?tr1g2
      case ty1g2 => (intro w hSw; (try dsimp only at hSw); go_simp; first | done | with_reducible rfl)
      simp only [Act.put, List.setIfInBounds_toArray, List.set_cons_zero, List.set_cons_succ]
      refine GoX.take 2 rfl (by kernel_rfl) (by kernel_rfl) (by rfl) (fun _ _ _ h => h) (v := ?tv2g3) P0 ?ty2g3 ?tr2g3
      case ty2g3 => (intro w hSw; (try dsimp only at hSw); go_simp; first | done | with_reducible rfl)
      simp only [Act.put, List.setIfInBounds_toArray, List.set_cons_zero, List.set_cons_succ]
      refine GoX.take 3 rfl (by kernel_rfl) (by kernel_rfl) (by rfl) (fun _ _ _ h => h) (v := ?tv3g4) P0 ?ty3g4 ?tr3g4
      case ty3g4 => (intro w hSw; (try dsimp only at hSw); go_simp; first | done | with_reducible rfl)
      simp only [Act.put, List.setIfInBounds_toArray, List.set_cons_zero, List.set_cons_succ]
      refine GoX.take 4 rfl (by kernel_rfl) (by kernel_rfl) (by rfl) (fun _ _ _ h => h) (v := ?tv4g5) P0 ?ty4g5 ?tr4g5
      case ty4g5 => (intro w hSw; (try dsimp only at hSw); go_simp; first | done | with_reducible rfl)
      simp only [Act.put, List.setIfInBounds_toArray, List.set_cons_zero, List.set_cons_succ]
      refine GoX.take 5 rfl (by kernel_rfl) (by kernel_rfl) (by rfl) (fun _ _ _ h => h) (v := ?tv5g6) P0 ?ty5g6 ?tr5g6
      case ty5g6 => (intro w hSw; (try dsimp only at hSw); go_simp; first | done | with_reducible rfl)
      simp only [Act.put, List.setIfInBounds_toArray, List.set_cons_zero, List.set_cons_succ]
      refine GoX.take 6 rfl (by kernel_rfl) (by kernel_rfl) (by rfl) (fun _ _ _ h => h) (v := ?tv6g7) P0 ?ty6g7 ?tr6g7
      case ty6g7 => (intro w hSw; (try dsimp only at hSw); go_simp; first | done | with_reducible rfl)
      simp only [Act.put, List.setIfInBounds_toArray, List.set_cons_zero, List.set_cons_succ]
      refine GoX.take 7 rfl (by kernel_rfl) (by kernel_rfl) (by rfl) (fun _ _ _ h => h) (v := ?tv7g8) P0 ?ty7g8 ?tr7g8
      case ty7g8 => (intro w hSw; (try dsimp only at hSw); go_simp; first | done | with_reducible rfl)
      simp only [Act.put, List.setIfInBounds_toArray, List.set_cons_zero, List.set_cons_succ]
      refine GoX.take 8 rfl (by kernel_rfl) (by kernel_rfl) (by rfl) (fun _ _ _ h => h) (v := ?tv8g9) P0 ?ty8g9 ?tr8g9
      case ty8g9 => (intro w hSw; (try dsimp only at hSw); go_simp; first | done | with_reducible rfl)
      simp only [Act.put, List.setIfInBounds_toArray, List.set_cons_zero, List.set_cons_succ]
      refine GoX.take 9 rfl (by kernel_rfl) (by kernel_rfl) (by rfl) (fun _ _ _ h => h) (v := ?tv9g10) P0 ?ty9g10 ?tr9g10
      case ty9g10 => (intro w hSw; (try dsimp only at hSw); go_simp; first | done | with_reducible rfl)
      simp only [Act.put, List.setIfInBounds_toArray, List.set_cons_zero, List.set_cons_succ]
      refine GoX.take 10 rfl (by kernel_rfl) (by kernel_rfl) (by rfl) (fun _ _ _ h => h) (v := ?tv10g11) P0 ?ty10g11 ?tr10g11
      case ty10g11 => (intro w hSw; (try dsimp only at hSw); go_simp; first | done | with_reducible rfl)
      simp only [Act.put, List.setIfInBounds_toArray, List.set_cons_zero, List.set_cons_succ]
      refine GoX.take 11 rfl (by kernel_rfl) (by kernel_rfl) (by rfl) (fun _ _ _ h => h) (v := ?tv11g12) P0 ?ty11g12 ?tr11g12
      case ty11g12 => (intro w hSw; (try dsimp only at hSw); go_simp; first | done | with_reducible rfl)
      simp only [Act.put, List.setIfInBounds_toArray, List.set_cons_zero, List.set_cons_succ]
      refine GoX.take 12 rfl (by kernel_rfl) (by kernel_rfl) (by rfl) (fun _ _ _ h => h) (v := ?tv12g13) P0 ?ty12g13 ?tr12g13
      case ty12g13 => (intro w hSw; (try dsimp only at hSw); go_simp; first | done | with_reducible rfl)
      simp only [Act.put, List.setIfInBounds_toArray, List.set_cons_zero, List.set_cons_succ]
      refine GoX.one 13 rfl (by kernel_rfl) (by decide) (fun K hK => ?_)
      rw [if_pos (by rfl)]
      go_simp
      (with_reducible refine KM.mono ?_)
      rintro e w5 ⟨a5, c5, rfl, o5, b5⟩
      have b5' : Below wr.heap.size wr w5 := ⟨b5.os, b5.tape, b5.output, b5.size, b5.block⟩
      have hb5 := hB.out.trans (b5'.mono hsw)
      have hP5 := hP.out.below b5'
      have hsz5 := hb5.size
      have P5 : w5.cell? ⟨b, 13, none⟩ = some (.slice (some ⟨q, off, none⟩) IN ic) ∧ w5.cell? ⟨q, off + i * 7, none⟩ = some (.string ykey) ∧ w5.cell? ⟨q, off + i * 7 + 1, none⟩ = some (.int .i64 ym.N) ∧ w5.cell? ⟨q, off + i * 7 + 2, none⟩ = some (.int .i64 ym.c) ∧ w5.cell? ⟨q, off + i * 7 + 3, none⟩ = some (.int .i64 ym.s) ∧ w5.cell? ⟨q, off + i * 7 + 4, none⟩ = some (.int .i64 ym.t) ∧ w5.cell? ⟨q, off + i * 7 + 5, none⟩ = some (.bool ym.d) ∧ w5.cell? ⟨q, off + i * 7 + 6, none⟩ = some (.slice ya yn yc) := ⟨HC13.out _ hb5, (HAT.out.below hb5).c0, (HAT.out.below hb5).c1, (HAT.out.below hb5).c2, (HAT.out.below hb5).c3, (HAT.out.below hb5).c4, (HAT.out.below hb5).c5, (HAT.out.below hb5).c6⟩
      clear KM b5
      refine hK.out _ _ P5 (fun _ => ?_)
      clear hK K
      refine GoX.take 14 rfl (by kernel_rfl) (by kernel_rfl) (by rfl) (fun _ _ _ h => h) (v := ?tv14g14) P5 ?ty14g14 ?tr14g14
      case ty14g14 => (intro w hSw; (try dsimp only at hSw); go_simp; first | done | with_reducible rfl)
      simp only [Act.put, List.setIfInBounds_toArray, List.set_cons_zero, List.set_cons_succ]
      refine GoX.one 15 rfl (by kernel_rfl) (by decide) (fun K hK => ?_)
      rw [if_pos (by rfl)]
      go_simp
      have hb6 := hb5.alloc hb5.size (.cells #[.string ykey, .int .i64 ym.N, .int .i64 ym.c, .int .i64 ym.s, .int .i64 ym.t, .bool ym.d, .slice a5 yn c5] IT7)
      have hP6 := hP5.below (below_alloc w5 (.cells #[.string ykey, .int .i64 ym.N, .int .i64 ym.c, .int .i64 ym.s, .int .i64 ym.t, .bool ym.d, .slice a5 yn c5] IT7))
      have o6 := ownsRow_base (o5.alloc (.cells #[.string ykey, .int .i64 ym.N, .int .i64 ym.c, .int .i64 ym.s, .int .i64 ym.t, .bool ym.d, .slice a5 yn c5] IT7)) (show v4.heap.size ≤ wr.drew.heap.size from hsw)
      have P6 : (w5.alloc (.cells #[.string ykey, .int .i64 ym.N, .int .i64 ym.c, .int .i64 ym.s, .int .i64 ym.t, .bool ym.d, .slice a5 yn c5] IT7)).cell? ⟨b, 13, none⟩ = some (.slice (some ⟨q, off, none⟩) IN ic) ∧ (w5.alloc (.cells #[.string ykey, .int .i64 ym.N, .int .i64 ym.c, .int .i64 ym.s, .int .i64 ym.t, .bool ym.d, .slice a5 yn c5] IT7)).cell? ⟨q, off + i * 7, none⟩ = some (.string ykey) ∧ (w5.alloc (.cells #[.string ykey, .int .i64 ym.N, .int .i64 ym.c, .int .i64 ym.s, .int .i64 ym.t, .bool ym.d, .slice a5 yn c5] IT7)).cell? ⟨q, off + i * 7 + 1, none⟩ = some (.int .i64 ym.N) ∧ (w5.alloc (.cells #[.string ykey, .int .i64 ym.N, .int .i64 ym.c, .int .i64 ym.s, .int .i64 ym.t, .bool ym.d, .slice a5 yn c5] IT7)).cell? ⟨q, off + i * 7 + 2, none⟩ = some (.int .i64 ym.c) ∧ (w5.alloc (.cells #[.string ykey, .int .i64 ym.N, .int .i64 ym.c, .int .i64 ym.s, .int .i64 ym.t, .bool ym.d, .slice a5 yn c5] IT7)).cell? ⟨q, off + i * 7 + 3, none⟩ = some (.int .i64 ym.s) ∧ (w5.alloc (.cells #[.string ykey, .int .i64 ym.N, .int .i64 ym.c, .int .i64 ym.s, .int .i64 ym.t, .bool ym.d, .slice a5 yn c5] IT7)).cell? ⟨q, off + i * 7 + 4, none⟩ = some (.int .i64 ym.t) ∧ (w5.alloc (.cells #[.string ykey, .int .i64 ym.N, .int .i64 ym.c, .int .i64 ym.s, .int .i64 ym.t, .bool ym.d, .slice a5 yn c5] IT7)).cell? ⟨q, off + i * 7 + 5, none⟩ = some (.bool ym.d) ∧ (w5.alloc (.cells #[.string ykey, .int .i64 ym.N, .int .i64 ym.c, .int .i64 ym.s, .int .i64 ym.t, .bool ym.d, .slice a5 yn c5] IT7)).cell? ⟨q, off + i * 7 + 6, none⟩ = some (.slice ya yn yc) := ⟨HC13.out _ hb6, (HAT.out.below hb6).c0, (HAT.out.below hb6).c1, (HAT.out.below hb6).c2, (HAT.out.below hb6).c3, (HAT.out.below hb6).c4, (HAT.out.below hb6).c5, (HAT.out.below hb6).c6⟩
      refine hK.out _ _ P6 (fun _ => ?_)
      clear hK K
      refine GoX.one 16 rfl (by kernel_rfl) (by decide) (fun K hK => ?_)
      refine step_append_lies _ rfl (.tmp 21) (.tmp 36) 28 rfl v4.heap.size IT7 i0 (.agg #[.string ⟨#[]⟩, .int .i64 0, .int .i64 0, .int .i64 0, .int .i64 0, .bool false, .slice none 0 0]) 7 80 Tryd.underlying28 hpi hz0 hz1 hz2 rfl (by decide) (.slice av xs.length cv) xs.length (icells xs) (by rfl) hP6.own ⟨w5.heap.size, 0, none⟩ 1 1 [.string ykey, .int .i64 ym.N, .int .i64 ym.c, .int .i64 ym.s, .int .i64 ym.t, .bool ym.d, SV (a5, yn, c5)] (by rfl) (by rfl) (World.news_of_block (heap_alloc_new w5 _)) (by intro u hu; simp at hu; rcases hu with rfl | rfl | rfl | rfl | rfl | rfl | rfl <;> rfl) (by decide) (by simp [maxLen]; omega) (by omega) hb6.size _ rfl ?_
      intro g9 c9 w9 hE9 g9' lie9 _
      have hb9 := hb6.grown g9' hb6.size (ownBlock_ge hP6.own)
      have hO := hP6.snoc (it := ⟨ykey, ym⟩) (y := (a5, yn, c5)) (by show _ ; rw [show (ItR.mk ykey ym).m.l.length = yn from HYL.out]; exact o6) HYL.out.symm HYB.out hE9 g9'
      have HO := Lib.hid hO
      have HB9 := Lib.hid hb9
      have P9 : w9.cell? ⟨b, 13, none⟩ = some (.slice (some ⟨q, off, none⟩) IN ic) ∧ w9.cell? ⟨q, off + i * 7, none⟩ = some (.string ykey) ∧ w9.cell? ⟨q, off + i * 7 + 1, none⟩ = some (.int .i64 ym.N) ∧ w9.cell? ⟨q, off + i * 7 + 2, none⟩ = some (.int .i64 ym.c) ∧ w9.cell? ⟨q, off + i * 7 + 3, none⟩ = some (.int .i64 ym.s) ∧ w9.cell? ⟨q, off + i * 7 + 4, none⟩ = some (.int .i64 ym.t) ∧ w9.cell? ⟨q, off + i * 7 + 5, none⟩ = some (.bool ym.d) ∧ w9.cell? ⟨q, off + i * 7 + 6, none⟩ = some (.slice ya yn yc) := ⟨HC13.out _ hb9, (HAT.out.below hb9).c0, (HAT.out.below hb9).c1, (HAT.out.below hb9).c2, (HAT.out.below hb9).c3, (HAT.out.below hb9).c4, (HAT.out.below hb9).c5, (HAT.out.below hb9).c6⟩
      refine hK.out _ _ P9 (fun _ => ?_)
      clear hK K
      refine GoX.last 17 rfl (by kernel_rfl) (by kernel_rfl) (by decide) ?_
      have HXN : Hid ((xs ++ [((⟨ykey, ym⟩ : ItR), ((a5, yn, c5) : HdT))]).map Prod.fst = it.take (i + 1)) := Lib.hid (by rw [List.map_append, HXS.out, HT.out]; rfl)
      obtain ⟨XS, hXS⟩ : ∃ X : List (ItR × HdT), X = xs ++ [((⟨ykey, ym⟩ : ItR), ((a5, yn, c5) : HdT))] := ⟨_, rfl⟩
      rw [← hXS] at HXN HO
      have HXL2 : Hid (∀ c : Nat, Value.slice (some ⟨g9, 0, none⟩) (xs.length + 1) c = .slice (some ⟨g9, 0, none⟩) XS.length c) := Lib.hid (fun c => by rw [hXS, List.length_append]; rfl)
      clear hXS P9 P6 P5 p0 p1 p2 p3 p4 p5 p6 hE9 g9' lie9 hb9 hO hb6 hP6 o6 hb5 hP5 o5 b5'
      rw [if_pos (by rfl)]
      go_simp
      rw [HXL2.out]
      go_wp2
      go_roundw
      case rel => exact ⟨i + 1, _, _, XS, by omega, by go_num, rfl, HXN, HO, HB9⟩
      case measure => simp [intOf] <;> omega
    · obtain rfl : i = IN := by omega
      have HXE : Hid (xs.map Prod.fst = it) := Lib.hid (by rw [HXS.out, List.take_of_length_le (by rw [HIN.out]; exact Nat.le_refl _)])
      have hxl : xs.length = i := by have := congrArg List.length HXE.out; rw [List.length_map] at this; have := HIN.out; omega
      have HXL := Lib.hid hxl
      have hg := (hB.out.block b (by omega)).trans K4.out
      have hg2 := (hB.out.block (b + 1) (by omega)).trans K5.out
      have hbs := hB.out.size
      have hfz := frozen_none hg
      obtain ⟨v5, hv5⟩ : ∃ x, x = wr.setCell ⟨b, 13, none⟩ (.slice av i cv) := ⟨_, rfl⟩
      have hgr : wr.grownBy v5 (some b) := by rw [hv5]; exact grownBy_setCellM wr ⟨b, 13, none⟩ _
      have k5 : v5.heap[b]? = some (.cells #[.int .i64 k, .int .i64 f, .int .i64 t, .int .i64 op, .int .i64 cd, .string key, .int .i64 m.N, .int .i64 m.c, .int .i64 m.s, .int .i64 m.t, .bool m.d, .slice xa' xn xc', .slice sa' SN sc', .slice av i cv] MMT (0, 0)) := by rw [hv5]; exact heap_setCell_same wr b 13 _ _ _ hg
      have k6 := (hgr.block (b + 1) (by omega) (fun e => by injection e with e; omega)).trans hg2
      have HO5 := Lib.hid ((own_belowM HO4.out (hB.out.mono (Nat.le_refl _))).kept hgr (.inr (fun e => by have := (HO4.out.lt b e).1; have := HZ2.out; omega)))
      have HS5 := Lib.hid ((HSY.out.below hB.out).grown hgr hvz)
      have HI5 := Lib.hid (hP.out.grown hgr (by omega))
      have B6 := Lib.hid ((B5.out.trans (hB.out.mono (by omega))).grown hgr (by omega) (fun q hq => by injection hq with hq; omega))
      have hgs := hgr.size
      have HV5 := Lib.hid hv5
      have K6 := Lib.hid k6
      have K7 := Lib.hid k5
      clear hv5 hgr k5 k6 hg2 hlt hile
      rw [hxl]
      clear hxl
      obtain ⟨⟨c0, c1, c2, c3, c4, c5, c6⟩, c7, c8, c9, c10, c11, c12, -⟩ := cells14 hg
      go_upto_region 9 with fail
      rw [← HV5.out]
      clear c0 c1 c2 c3 c4 c5 c6 c7 c8 c9 c10 c11 c12
      clear hfz c13
      obtain ⟨⟨c0, c1, c2, c3, c4, c5, c6⟩, c7, c8, c9, c10, c11, c12, c13⟩ := cells14 K7.out
      have dd := cells14 K6.out
      obtain ⟨⟨d0, d1, d2, d3, d4, d5, d6⟩, d7, d8, d9, d10, d11, d12, d13⟩ := dd
      have hfz := frozen_none K6.out
      go_wp2
      clear c0 c1 c2 c3 c4 c5 c6 c7 c8 c9 c10 c11 c12 c13
      clear d0 d1 d2 d3 d4 d5 d6 d7 d8 d9 d10 d11 d12 d13 hfz
      have hgF := grown_setsFrom (g := b + 1) [.int .i64 k, .int .i64 f, .int .i64 t, .int .i64 op, .int .i64 cd, .string key, .int .i64 m.N, .int .i64 m.c, .int .i64 m.s, .int .i64 m.t, .bool m.d, .slice xa' xn xc', .slice sa' SN sc', .slice av i cv] 0 v5
      refine bodyPost_ret (results_cell_row rfl _ _ (b + 1) MMT #[.int .i64 k, .int .i64 f, .int .i64 t, .int .i64 op, .int .i64 cd, .string key, .int .i64 m.N, .int .i64 m.c, .int .i64 m.s, .int .i64 m.t, .bool m.d, .slice xa' xn xc', .slice sa' SN sc', .slice av i cv] (0, 0) _ rfl ?hh Tryd.underlying30 rfl (by kernel_rfl)) rfl ⟨(xa', xn, xc'), sa', sc', av, cv, by simp only [MsC, ← HSN.out, ← HIN.out], ?_, ?_⟩
      · exact heap_setsFrom 0 [.int .i64 k, .int .i64 f, .int .i64 t, .int .i64 op, .int .i64 cd, .string key, .int .i64 m.N, .int .i64 m.c, .int .i64 m.s, .int .i64 m.t, .bool m.d, .slice xa' xn xc', .slice sa' SN sc', .slice av i cv] K6.out rfl
      · have hX := HO5.out.kept hgF (.inr (fun e => by have := (HO5.out.lt (b + 1) e).1; have := HZ2.out; omega))
        have hS := (HS5.out.grown hgF hvz1).sy
        have hI := (HI5.out.grown hgF (by omega)).itv
        rw [HXE.out, HXL.out] at hI
        exact ⟨bytesV_own (x := (xa', xn, xc')) (by rw [HML.out]; exact hX) HML.out.symm HSB.out.1 (by rw [HML.out]; exact HSB.out.2), by rw [← HSN.out]; exact hS, by rw [← HIN.out]; exact hI⟩
      · exact HBM.out _ (B6.out.grown hgF (by omega) (fun q hq => by injection hq with hq; omega))
end Go.Proofs.YtopnjjehefaghaaDoor
