/-
  rillref11: Decode.
-/
import Derived.Test.YtopnjjehefaghaaDoorMMhC
namespace Go.Proofs.YtopnjjehefaghaaDoor
open Go.RowKit

theorem _root_.Go.World.ownsRow.keepR {w w' : World} {B n s : Nat} {T : TypeId} {v : Value} {xs : List Value} {X : Nat → Prop} (h : w.ownsRow B T s v n xs) (k : KeepR X w w') (hX : ∀ q, B ≤ q → q < w.heap.size → ¬ X q) : w'.ownsRow B T s v n xs := by
  refine ⟨h.1, ?_⟩
  rcases h.2 with e | ⟨g, cp, cur, e, hg, hh, rest⟩
  · exact .inl e
  · have hl := (Array.getElem?_eq_some_iff.1 hh).1
    exact .inr ⟨g, cp, cur, e, hg, (k.block g hl (hX g hg hl)).trans hh, rest⟩
theorem OwnS.keepR {w w' : World} {B : Nat} {a : Option Addr} {n c : Nat} {ss : List Sy} {X : Nat → Prop} (h : OwnS w B a n c ss) (k : KeepR X w w') (hX : ∀ q, B ≤ q → q < w.heap.size → ¬ X q) : OwnS w' B a n c ss := by
  obtain ⟨h1, xs, h2, h3, h4⟩ := h
  exact ⟨h1, xs, h2, h3.keepR k hX, fun i x p e1 e2 => by
    obtain ⟨k0, k1, k2, k3, k4⟩ := h4 i x p e1 e2
    exact ⟨k0, k1, k2, k3.keepR k hX, k4⟩⟩
theorem OwI.keepR {w w' : World} {B : Nat} {a : Option Addr} {c : Nat} {xs : List (ItR × HdT)} {X : Nat → Prop} (h : OwI w B a c xs) (k : KeepR X w w') (hX : ∀ q, B ≤ q → q < w.heap.size → ¬ X q) : OwI w' B a c xs :=
  ⟨h.own.keepR k hX, fun x hx => by
    obtain ⟨k0, k1, k2⟩ := h.dig x hx
    exact ⟨k0, k1.keepR k hX, k2⟩⟩
theorem SS.rebase {u W0 W : World} {bs bm : Nat} {T : TypeId} {s : Sd} {cs : Array Value} (h : SS u W0 W bs bm T s cs) : SS u W W bs bm T s cs :=
  ⟨KeepR.refl _ _, h.s, h.m, h.us, h.um, h.ne, Nat.lt_of_lt_of_le h.s0 h.k.size, Nat.lt_of_lt_of_le h.m0 h.k.size, h.bel⟩
theorem ownScan {X : World} {B n bs : Nat} {v : Value} {xs : List Value} (ho : X.ownsRow B 5 1 v n xs) (hb : bs < B) (a b : Value) : ((X.setCell ⟨bs, 0, none⟩ a).setCell ⟨bs, 1, none⟩ b).ownsRow B 5 1 v n xs := by
  have h1 := ho.kept (grownBy_setCellM X ⟨bs, 0, none⟩ a) (.inr (fun e => by have := (ho.lt bs e).1; omega))
  exact h1.kept (grownBy_setCellM _ ⟨bs, 1, none⟩ b) (.inr (fun e => by have := (h1.lt bs e).1; omega))
theorem ownPut {X : World} {B n bm : Nat} {v : Value} {xs : List Value} (ho : X.ownsRow B 5 1 v n xs) (hb : bm < B) (j : Nat) (a : Value) : (X.setCell ⟨bm, j, none⟩ a).ownsRow B 5 1 v n xs :=
  ho.kept (grownBy_setCellM X ⟨bm, j, none⟩ a) (.inr (fun e => by have := (ho.lt bm e).1; omega))

set_option maxRecDepth 100000 in
set_option maxHeartbeats 32000000 in
theorem rdecode_any (ad : Option Addr) (n c : Nat) (l : List Nat) (w : World) (h : BytesV w (ad, n, c) l) :
    Calls Tryd.prog 20 #[.slice ad n c] w (GivesD w (decM l)) := by
  obtain ⟨s, hs⟩ : ∃ s : Sd, s = ⟨false, l⟩ := ⟨_, rfl⟩
  obtain ⟨D, hD⟩ : ∃ D, D = decM l := ⟨_, rfl⟩
  rw [← hD]
  have hd2 : D = if s.fin.bad = false ∧ (encM s.msgV).2 = 0 ∧ (encM s.msgV).1 = l then (s.msgV, 0) else (zeroM, 110) := by rw [hD, hs]; rfl
  obtain ⟨r, hr⟩ : ∃ q, q = w.heap.size := ⟨_, rfl⟩
  obtain ⟨w1, hw1⟩ : ∃ x, x = w.alloc (.cells Z14 MMT) := ⟨_, rfl⟩
  have hs1 : w1.heap.size = r + 1 := by rw [hw1, hr]; simp
  obtain ⟨w2, hw2⟩ : ∃ x, x = w1.alloc (.cells Z14 MMT) := ⟨_, rfl⟩
  have hs2 : w2.heap.size = r + 2 := by rw [hw2]; simp [hs1]
  obtain ⟨w3, hw3⟩ : ∃ x, x = w2.alloc (.cells #[.slice ad n c, .bool false] SC2) := ⟨_, rfl⟩
  have hs3 : w3.heap.size = r + 3 := by rw [hw3]; simp [hs2]
  have k1 : w3.heap[r]? = some (.cells Z14 MMT (0, 0)) := by rw [hw3, heap_alloc_old _ _ (by omega), hw2, heap_alloc_old _ _ (by omega), hw1, hr]; exact heap_alloc_new w _
  have k2 : w3.heap[r + 1]? = some (.cells Z14 MMT (0, 0)) := by rw [hw3, heap_alloc_old _ _ (by omega), hw2, ← hs1]; exact heap_alloc_new w1 _
  have k3 : w3.heap[r + 2]? = some (.cells #[.slice ad n c, .bool s.bad] SC2 (0, 0)) := by rw [hw3, ← hs2, hs]; exact heap_alloc_new w2 _
  have hb3 : Below w.heap.size w w3 := by rw [hw3, hw2, hw1]; exact ((below_alloc w _).trans ((below_alloc _ _).mono (by simp))).trans ((below_alloc _ _).mono (by simp; omega))
  obtain ⟨bm, hbm⟩ : ∃ x, x = r + 1 := ⟨_, rfl⟩
  obtain ⟨bs, hbs⟩ : ∃ x, x = bm + 1 := ⟨_, rfl⟩
  have hbm1 : bm = r + 1 := hbm
  have hbs1 : bs = r + 2 := by omega
  rw [← hbm1] at k2
  rw [← hbs1] at k3
  have h0 : SS w w3 w3 bs bm MMT s Z14 := ⟨KeepR.refl _ _, ⟨ad, n, c, by rw [hs]; exact h, k3⟩, k2, by omega, by omega, by omega, by omega, by omega, hb3⟩
  have HW1 := Lib.hid hw1
  have HW2 := Lib.hid hw2
  have HW3 := Lib.hid hw3
  have HR := Lib.hid hr
  have HBM := Lib.hid hbm
  have HBS := Lib.hid hbs
  have HDD := Lib.hid hd2
  have HH := Lib.hid h
  have H0 := Lib.hid h0
  have K1 := Lib.hid k1
  have HB3 := Lib.hid hb3
  have hr1 : w.heap.size ≤ r := Nat.le_of_eq hr.symm
  have hr2 : r ≤ w.heap.size := Nat.le_of_eq hr
  have hm1 : r + 1 ≤ bm := by omega
  have hm2 : bm ≤ r + 1 := by omega
  have hq1 : r + 2 ≤ bs := by omega
  have hq2 : bs ≤ r + 2 := by omega
  have hz3 : r + 3 ≤ w3.heap.size := Nat.le_of_eq hs3.symm
  clear hr hw1 hs1 hw2 hs2 hw3 hs3 k1 k2 k3 hb3 h0 h hbm hbs hbm1 hbs1 hd2 hs hD
  go_enter Tryd.func20, Tryd.ntmps20
  go_upto_region 3 with fail
  rw [← HR.out, ← HW1.out, ← HW2.out, ← HW3.out, ← HBM.out, ← HBS.out]
  refine (?_ : ∀ W0 : World, Hid (SS w w3 W0 bs bm MMT s Z14) → Code.wp Tryd.prog _ _ _ W0) _ H0
  clear H0 HW1 HW2 HW3
  intro W0 H0
  obtain ⟨ad0, n0, c0, hby, hsc⟩ := H0.out.s
  have K := rnum_is 1 ad0 n0 c0 (s) w W0 H0.out.bel hby (by decide) 1 rfl
  obtain ⟨e0, e1, ez⟩ := cells2R hsc
  obtain ⟨v0, hv⟩ : ∃ v, v = Sd.val (s) 1 := ⟨_, rfl⟩
  rw [← hv] at K
  have BLv0 := Lib.hid (show v0 < 256 ^ 1 by rw [hv]; exact Sd.val_lt (s := s) hby.bytes 1)
  have Vv0 := Lib.hid hv
  clear hv hby
  go_wp2_with fail
  (with_reducible refine K.mono ?_)
  rintro e X0 ⟨a', n', c', rfl, hy, hb⟩
  have hx := H0.out.on hb
  obtain ⟨_, _, _, -, hxs⟩ := hx.s
  obtain ⟨q0, q1, qz⟩ := cells2R hxs
  have hfz : ∀ j, X0.frozen? ⟨bm, j, none⟩ = false := fun _ => frozen_of_row _ _ _ _ _ hx.m
  have hcj : X0.cell? ⟨bm, 0, none⟩ = some (.int .i64 0) := cell_of_row _ _ 0 _ _ _ hx.m
  have HS := Lib.hid ((H0.out.scan (s' := s.h1) hb hy).put 0 (.int .i64 (v0 : Nat)) (cs' := #[.int .i64 (v0 : Nat), .int .i64 0, .int .i64 0, .int .i64 0, .int .i64 0, .string ⟨#[]⟩, .int .i64 0, .int .i64 0, .int .i64 0, .int .i64 0, .bool false, .slice none 0 0, .slice none 0 0, .slice none 0 0]) rfl)
  clear K hy hb hx hxs hsc e0 e1 ez
  go_upto_region 4 with fail
  clear q0 q1 qz hfz hcj
  refine (?_ : ∀ W1 : World, Hid (SS w w3 W1 bs bm MMT (s.h1) #[.int .i64 (v0 : Nat), .int .i64 0, .int .i64 0, .int .i64 0, .int .i64 0, .string ⟨#[]⟩, .int .i64 0, .int .i64 0, .int .i64 0, .int .i64 0, .bool false, .slice none 0 0, .slice none 0 0, .slice none 0 0]) →  Code.wp Tryd.prog _ _ _ W1) _ HS
  clear HS H0
  intro W1 H1
  obtain ⟨ad1, n1, c1, hby, hsc⟩ := H1.out.s
  have K := rnum_is 1 ad1 n1 c1 (s.h1) w W1 H1.out.bel hby (by decide) 1 rfl
  obtain ⟨e0, e1, ez⟩ := cells2R hsc
  obtain ⟨v1, hv⟩ : ∃ v, v = Sd.val (s.h1) 1 := ⟨_, rfl⟩
  rw [← hv] at K
  have BLv1 := Lib.hid (show v1 < 256 ^ 1 by rw [hv]; exact Sd.val_lt (s := s.h1) hby.bytes 1)
  have Vv1 := Lib.hid hv
  clear hv hby
  go_wp2_with fail
  (with_reducible refine K.mono ?_)
  rintro e X1 ⟨a', n', c', rfl, hy, hb⟩
  have hx := H1.out.on hb
  obtain ⟨_, _, _, -, hxs⟩ := hx.s
  obtain ⟨q0, q1, qz⟩ := cells2R hxs
  have hfz : ∀ j, X1.frozen? ⟨bm, j, none⟩ = false := fun _ => frozen_of_row _ _ _ _ _ hx.m
  have hcj : X1.cell? ⟨bm, 1, none⟩ = some (.int .i64 0) := cell_of_row _ _ 1 _ _ _ hx.m
  have HS := Lib.hid ((H1.out.scan (s' := s.h2) hb hy).put 1 (.int .i64 (v1 : Nat)) (cs' := #[.int .i64 (v0 : Nat), .int .i64 (v1 : Nat), .int .i64 0, .int .i64 0, .int .i64 0, .string ⟨#[]⟩, .int .i64 0, .int .i64 0, .int .i64 0, .int .i64 0, .bool false, .slice none 0 0, .slice none 0 0, .slice none 0 0]) rfl)
  clear K hy hb hx hxs hsc e0 e1 ez
  go_upto_region 5 with fail
  clear q0 q1 qz hfz hcj
  refine (?_ : ∀ W2 : World, Hid (SS w w3 W2 bs bm MMT (s.h2) #[.int .i64 (v0 : Nat), .int .i64 (v1 : Nat), .int .i64 0, .int .i64 0, .int .i64 0, .string ⟨#[]⟩, .int .i64 0, .int .i64 0, .int .i64 0, .int .i64 0, .bool false, .slice none 0 0, .slice none 0 0, .slice none 0 0]) →  Code.wp Tryd.prog _ _ _ W2) _ HS
  clear HS H1
  intro W2 H2
  obtain ⟨ad2, n2, c2, hby, hsc⟩ := H2.out.s
  have K := rnum_is 1 ad2 n2 c2 (s.h2) w W2 H2.out.bel hby (by decide) 1 rfl
  obtain ⟨e0, e1, ez⟩ := cells2R hsc
  obtain ⟨v2, hv⟩ : ∃ v, v = Sd.val (s.h2) 1 := ⟨_, rfl⟩
  rw [← hv] at K
  have BLv2 := Lib.hid (show v2 < 256 ^ 1 by rw [hv]; exact Sd.val_lt (s := s.h2) hby.bytes 1)
  have Vv2 := Lib.hid hv
  clear hv hby
  go_wp2_with fail
  (with_reducible refine K.mono ?_)
  rintro e X2 ⟨a', n', c', rfl, hy, hb⟩
  have hx := H2.out.on hb
  obtain ⟨_, _, _, -, hxs⟩ := hx.s
  obtain ⟨q0, q1, qz⟩ := cells2R hxs
  have hfz : ∀ j, X2.frozen? ⟨bm, j, none⟩ = false := fun _ => frozen_of_row _ _ _ _ _ hx.m
  have hcj : X2.cell? ⟨bm, 2, none⟩ = some (.int .i64 0) := cell_of_row _ _ 2 _ _ _ hx.m
  have HS := Lib.hid ((H2.out.scan (s' := s.h3) hb hy).put 2 (.int .i64 (v2 : Nat)) (cs' := #[.int .i64 (v0 : Nat), .int .i64 (v1 : Nat), .int .i64 (v2 : Nat), .int .i64 0, .int .i64 0, .string ⟨#[]⟩, .int .i64 0, .int .i64 0, .int .i64 0, .int .i64 0, .bool false, .slice none 0 0, .slice none 0 0, .slice none 0 0]) rfl)
  clear K hy hb hx hxs hsc e0 e1 ez
  go_upto_region 6 with fail
  clear q0 q1 qz hfz hcj
  refine (?_ : ∀ W3 : World, Hid (SS w w3 W3 bs bm MMT (s.h3) #[.int .i64 (v0 : Nat), .int .i64 (v1 : Nat), .int .i64 (v2 : Nat), .int .i64 0, .int .i64 0, .string ⟨#[]⟩, .int .i64 0, .int .i64 0, .int .i64 0, .int .i64 0, .bool false, .slice none 0 0, .slice none 0 0, .slice none 0 0]) →  Code.wp Tryd.prog _ _ _ W3) _ HS
  clear HS H2
  intro W3 H3
  obtain ⟨ad3, n3, c3, hby, hsc⟩ := H3.out.s
  have K := rnum_is 4 ad3 n3 c3 (s.h3) w W3 H3.out.bel hby (by decide) 4 rfl
  obtain ⟨e0, e1, ez⟩ := cells2R hsc
  obtain ⟨v3, hv⟩ : ∃ v, v = Sd.val (s.h3) 4 := ⟨_, rfl⟩
  rw [← hv] at K
  have BLv3 := Lib.hid (show v3 < 256 ^ 4 by rw [hv]; exact Sd.val_lt (s := s.h3) hby.bytes 4)
  have Vv3 := Lib.hid hv
  clear hv hby
  go_wp2_with fail
  (with_reducible refine K.mono ?_)
  rintro e X3 ⟨a', n', c', rfl, hy, hb⟩
  have hx := H3.out.on hb
  obtain ⟨_, _, _, -, hxs⟩ := hx.s
  obtain ⟨q0, q1, qz⟩ := cells2R hxs
  have hfz : ∀ j, X3.frozen? ⟨bm, j, none⟩ = false := fun _ => frozen_of_row _ _ _ _ _ hx.m
  have hcj : X3.cell? ⟨bm, 3, none⟩ = some (.int .i64 0) := cell_of_row _ _ 3 _ _ _ hx.m
  have HS := Lib.hid ((H3.out.scan (s' := s.h4) hb hy).put 3 (.int .i64 (v3 : Nat)) (cs' := #[.int .i64 (v0 : Nat), .int .i64 (v1 : Nat), .int .i64 (v2 : Nat), .int .i64 (v3 : Nat), .int .i64 0, .string ⟨#[]⟩, .int .i64 0, .int .i64 0, .int .i64 0, .int .i64 0, .bool false, .slice none 0 0, .slice none 0 0, .slice none 0 0]) rfl)
  clear K hy hb hx hxs hsc e0 e1 ez
  go_upto_region 7 with fail
  clear q0 q1 qz hfz hcj
  refine (?_ : ∀ W4 : World, Hid (SS w w3 W4 bs bm MMT (s.h4) #[.int .i64 (v0 : Nat), .int .i64 (v1 : Nat), .int .i64 (v2 : Nat), .int .i64 (v3 : Nat), .int .i64 0, .string ⟨#[]⟩, .int .i64 0, .int .i64 0, .int .i64 0, .int .i64 0, .bool false, .slice none 0 0, .slice none 0 0, .slice none 0 0]) →  Code.wp Tryd.prog _ _ _ W4) _ HS
  clear HS H3
  intro W4 H4
  obtain ⟨ad4, n4, c4, hby, hsc⟩ := H4.out.s
  have K := rnum_is 4 ad4 n4 c4 (s.h4) w W4 H4.out.bel hby (by decide) 4 rfl
  obtain ⟨e0, e1, ez⟩ := cells2R hsc
  obtain ⟨v4, hv⟩ : ∃ v, v = Sd.val (s.h4) 4 := ⟨_, rfl⟩
  rw [← hv] at K
  have BLv4 := Lib.hid (show v4 < 256 ^ 4 by rw [hv]; exact Sd.val_lt (s := s.h4) hby.bytes 4)
  have Vv4 := Lib.hid hv
  clear hv hby
  go_wp2_with fail
  (with_reducible refine K.mono ?_)
  rintro e X4 ⟨a', n', c', rfl, hy, hb⟩
  have hx := H4.out.on hb
  obtain ⟨_, _, _, -, hxs⟩ := hx.s
  obtain ⟨q0, q1, qz⟩ := cells2R hxs
  have hfz : ∀ j, X4.frozen? ⟨bm, j, none⟩ = false := fun _ => frozen_of_row _ _ _ _ _ hx.m
  have hcj : X4.cell? ⟨bm, 4, none⟩ = some (.int .i64 0) := cell_of_row _ _ 4 _ _ _ hx.m
  have HS := Lib.hid ((H4.out.scan (s' := s.h5) hb hy).put 4 (.int .i64 (v4 : Nat)) (cs' := #[.int .i64 (v0 : Nat), .int .i64 (v1 : Nat), .int .i64 (v2 : Nat), .int .i64 (v3 : Nat), .int .i64 (v4 : Nat), .string ⟨#[]⟩, .int .i64 0, .int .i64 0, .int .i64 0, .int .i64 0, .bool false, .slice none 0 0, .slice none 0 0, .slice none 0 0]) rfl)
  clear K hy hb hx hxs hsc e0 e1 ez
  go_upto_region 8 with fail
  clear q0 q1 qz hfz hcj
  refine (?_ : ∀ W5 : World, Hid (SS w w3 W5 bs bm MMT (s.h5) #[.int .i64 (v0 : Nat), .int .i64 (v1 : Nat), .int .i64 (v2 : Nat), .int .i64 (v3 : Nat), .int .i64 (v4 : Nat), .string ⟨#[]⟩, .int .i64 0, .int .i64 0, .int .i64 0, .int .i64 0, .bool false, .slice none 0 0, .slice none 0 0, .slice none 0 0]) →  Code.wp Tryd.prog _ _ _ W5) _ HS
  clear HS H4
  intro W5 H5
  obtain ⟨ad5, n5, c5, hby, hsc⟩ := H5.out.s
  have K := rtextM_any ad5 n5 c5 s.h5 w W5 H5.out.bel hby
  obtain ⟨KB, hKB⟩ : ∃ L, L = s.h5.bytes := ⟨_, rfl⟩
  rw [← hKB] at K
  have HKB := Lib.hid hKB
  obtain ⟨kn, hkn⟩ : ∃ n, n = KB.length := ⟨_, rfl⟩
  rw [← hkn] at K
  have HKN := Lib.hid hkn
  obtain ⟨e0, e1, ez⟩ := cells2R hsc
  have hsl : bs < W5.heap.size := (Array.getElem?_eq_some_iff.1 hsc).1
  clear hKB hkn hby
  go_wp2_with fail
  (with_reducible refine K.mono ?_)
  rintro e X5 ⟨a', n', c', ta, tc, rfl, hy, ho, hbb, h255, hb⟩
  have hx := H5.out.on hb
  obtain ⟨_, _, _, -, hxs⟩ := hx.s
  obtain ⟨q0, q1, qz⟩ := cells2R hxs
  have HS := Lib.hid (H5.out.scan (s' := s.h6) hb hy)
  have ho2 := ownScan ho hsl (.slice a' n' c') (.bool s.h6.bad)
  have hkb := bytesV_own (x := (ta, kn, tc)) (by rw [HKN.out] at ho2 ⊢; exact ho2) HKN.out hbb (by rw [← HKN.out]; omega)
  have hcv := Lib.hid (conv_anyM _ ta kn tc KB hkb)
  clear K hy hb hx hxs hsc e0 e1 ez ho ho2 hbb h255 hkb hsl
  go_upto_region 9 with fail
  clear q0 q1 qz
  refine (?_ : ∀ W6 : World, Hid (SS w w3 W6 bs bm MMT s.h6 #[.int .i64 (v0 : Nat), .int .i64 (v1 : Nat), .int .i64 (v2 : Nat), .int .i64 (v3 : Nat), .int .i64 (v4 : Nat), .string ⟨#[]⟩, .int .i64 0, .int .i64 0, .int .i64 0, .int .i64 0, .bool false, .slice none 0 0, .slice none 0 0, .slice none 0 0]) → Hid ((convert 24 9 (.slice ta kn tc)).run Tryd.prog W6 = .ok (.string (strOfM KB)) W6) → Code.wp Tryd.prog _ _ _ W6) _ HS hcv
  clear HS hcv H5
  intro W6 H6 hcv
  have hcv := hcv.out
  have hfz : ∀ j, W6.frozen? ⟨bm, j, none⟩ = false := fun _ => frozen_of_row _ _ _ _ _ H6.out.m
  have hcj : W6.cell? ⟨bm, 5, none⟩ = some (.string ⟨#[]⟩) := cell_of_row _ _ 5 _ _ _ H6.out.m
  have HS := Lib.hid (H6.out.put 5 (.string (strOfM KB)) (cs' := #[.int .i64 (v0 : Nat), .int .i64 (v1 : Nat), .int .i64 (v2 : Nat), .int .i64 (v3 : Nat), .int .i64 (v4 : Nat), .string (strOfM KB), .int .i64 0, .int .i64 0, .int .i64 0, .int .i64 0, .bool false, .slice none 0 0, .slice none 0 0, .slice none 0 0]) rfl)
  go_upto_region 10 with fail
  clear hfz hcj hcv
  refine (?_ : ∀ W7 : World, Hid (SS w w3 W7 bs bm MMT s.h6 #[.int .i64 (v0 : Nat), .int .i64 (v1 : Nat), .int .i64 (v2 : Nat), .int .i64 (v3 : Nat), .int .i64 (v4 : Nat), .string (strOfM KB), .int .i64 0, .int .i64 0, .int .i64 0, .int .i64 0, .bool false, .slice none 0 0, .slice none 0 0, .slice none 0 0]) → Code.wp Tryd.prog _ _ _ W7) _ HS
  clear HS H6
  intro W7 H7
  obtain ⟨ad7, n7, c7, hby, hsc⟩ := H7.out.s
  have K := rmeta11_any ad7 n7 c7 s.h6 w W7 H7.out.bel hby
  obtain ⟨m, hm⟩ : ∃ m, m = s.h6.metaV := ⟨_, rfl⟩
  rw [← hm] at K
  have HM := Lib.hid hm
  obtain ⟨mn, hmn⟩ : ∃ n, n = m.l.length := ⟨_, rfl⟩
  rw [← hmn] at K
  have HMN := Lib.hid hmn
  simp only [MC] at K
  obtain ⟨e0, e1, ez⟩ := cells2R hsc
  have hsl : bs < W7.heap.size := (Array.getElem?_eq_some_iff.1 hsc).1
  have hsz7 : r + 3 ≤ W7.heap.size := Nat.le_trans hz3 H7.out.k.size
  clear hm hmn hby
  go_wp2_with fail
  (with_reducible refine K.mono ?_)
  rintro e X7 ⟨a', n', c', ta7, tc7, rfl, hy, ho, hbb, h255, hb⟩
  have hx := H7.out.on hb
  obtain ⟨_, _, _, -, hxs⟩ := hx.s
  obtain ⟨q0, q1, qz⟩ := cells2R hxs
  have hfz : ∀ j, X7.frozen? ⟨bm, j, none⟩ = false := fun _ => frozen_of_row _ _ _ _ _ hx.m
  obtain ⟨⟨d0, d1, d2, d3, d4, d5, d6⟩, d7, d8, d9, d10, d11, d12, d13⟩ := cells14 hx.m
  have HS := Lib.hid (((((((H7.out.scan (s' := s.h7) hb hy).put 6 (.int .i64 m.N) (cs' := #[.int .i64 (v0 : Nat), .int .i64 (v1 : Nat), .int .i64 (v2 : Nat), .int .i64 (v3 : Nat), .int .i64 (v4 : Nat), .string (strOfM KB), .int .i64 m.N, .int .i64 0, .int .i64 0, .int .i64 0, .bool false, .slice none 0 0, .slice none 0 0, .slice none 0 0]) rfl).put 7 (.int .i64 m.c) (cs' := #[.int .i64 (v0 : Nat), .int .i64 (v1 : Nat), .int .i64 (v2 : Nat), .int .i64 (v3 : Nat), .int .i64 (v4 : Nat), .string (strOfM KB), .int .i64 m.N, .int .i64 m.c, .int .i64 0, .int .i64 0, .bool false, .slice none 0 0, .slice none 0 0, .slice none 0 0]) rfl).put 8 (.int .i64 m.s) (cs' := #[.int .i64 (v0 : Nat), .int .i64 (v1 : Nat), .int .i64 (v2 : Nat), .int .i64 (v3 : Nat), .int .i64 (v4 : Nat), .string (strOfM KB), .int .i64 m.N, .int .i64 m.c, .int .i64 m.s, .int .i64 0, .bool false, .slice none 0 0, .slice none 0 0, .slice none 0 0]) rfl).put 9 (.int .i64 m.t) (cs' := #[.int .i64 (v0 : Nat), .int .i64 (v1 : Nat), .int .i64 (v2 : Nat), .int .i64 (v3 : Nat), .int .i64 (v4 : Nat), .string (strOfM KB), .int .i64 m.N, .int .i64 m.c, .int .i64 m.s, .int .i64 m.t, .bool false, .slice none 0 0, .slice none 0 0, .slice none 0 0]) rfl).put 10 (.bool m.d) (cs' := #[.int .i64 (v0 : Nat), .int .i64 (v1 : Nat), .int .i64 (v2 : Nat), .int .i64 (v3 : Nat), .int .i64 (v4 : Nat), .string (strOfM KB), .int .i64 m.N, .int .i64 m.c, .int .i64 m.s, .int .i64 m.t, .bool m.d, .slice none 0 0, .slice none 0 0, .slice none 0 0]) rfl).put 11 (.slice ta7 mn tc7) (cs' := #[.int .i64 (v0 : Nat), .int .i64 (v1 : Nat), .int .i64 (v2 : Nat), .int .i64 (v3 : Nat), .int .i64 (v4 : Nat), .string (strOfM KB), .int .i64 m.N, .int .i64 m.c, .int .i64 m.s, .int .i64 m.t, .bool m.d, .slice ta7 mn tc7, .slice none 0 0, .slice none 0 0]) rfl)
  have HO := Lib.hid (ownsRow_base (ownPut (bm := bm) (ownPut (bm := bm) (ownPut (bm := bm) (ownPut (bm := bm) (ownPut (bm := bm) (ownPut (bm := bm) (ownScan ho hsl (.slice a' n' c') (.bool s.h7.bad)) (show bm < _ by omega) 6 (.int .i64 m.N)) (by omega) 7 (.int .i64 m.c)) (by omega) 8 (.int .i64 m.s)) (by omega) 9 (.int .i64 m.t)) (by omega) 10 (.bool m.d)) (by omega) 11 (.slice ta7 mn tc7)) hsz7)
  have HXB := Lib.hid (And.intro hbb h255)
  clear K hy hb hx hxs hsc e0 e1 ez ho hbb h255 hsl
  go_upto_region 11 with fail
  clear q0 q1 qz hfz d0 d1 d2 d3 d4 d5 d6 d7 d8 d9 d10 d11 d12 d13
  refine (?_ : ∀ W8 : World, Hid (SS w w3 W8 bs bm MMT s.h7 #[.int .i64 (v0 : Nat), .int .i64 (v1 : Nat), .int .i64 (v2 : Nat), .int .i64 (v3 : Nat), .int .i64 (v4 : Nat), .string (strOfM KB), .int .i64 m.N, .int .i64 m.c, .int .i64 m.s, .int .i64 m.t, .bool m.d, .slice ta7 mn tc7, .slice none 0 0, .slice none 0 0]) → Hid (W8.ownsRow (r + 3) 5 1 (.slice ta7 mn tc7) mn (m.l.map bv)) → Code.wp Tryd.prog _ _ _ W8) _ HS HO
  clear HS HO H7 hsz7
  intro W8 H8 HO
  obtain ⟨ad8, n8, c8, hby, hsc⟩ := H8.out.s
  have K := rnum_is 2 ad8 n8 c8 (s.h7) w W8 H8.out.bel hby (by decide) 2 rfl
  obtain ⟨e0, e1, ez⟩ := cells2R hsc
  obtain ⟨v8, hv⟩ : ∃ v, v = Sd.val (s.h7) 2 := ⟨_, rfl⟩
  rw [← hv] at K
  have BLv8 := Lib.hid (show v8 < 256 ^ 2 by rw [hv]; exact Sd.val_lt (s := s.h7) hby.bytes 2)
  have Vv8 := Lib.hid hv
  clear hv hby
  go_wp2_with fail
  (with_reducible refine K.mono ?_)
  rintro e X8 ⟨a', n', c', rfl, hy, hb⟩
  have hx := H8.out.on hb
  obtain ⟨_, _, _, -, hxs⟩ := hx.s
  obtain ⟨q0, q1, qz⟩ := cells2R hxs
  have HS := Lib.hid (H8.out.scan (s' := s.h8) hb hy)
  have HO9 := Lib.hid (own_belowM HO.out hb)
  have HO9 := Lib.hid (ownScan HO9.out (show bs < r + 3 by omega) (.slice a' n' c') (.bool s.h8.bad))
  clear K hy hb hx hxs hsc e0 e1 ez
  go_upto_block 0 with fail
  clear q0 q1 qz
  refine (?_ : ∀ W9 : World, Hid (SS w w3 W9 bs bm MMT s.h8 #[.int .i64 (v0 : Nat), .int .i64 (v1 : Nat), .int .i64 (v2 : Nat), .int .i64 (v3 : Nat), .int .i64 (v4 : Nat), .string (strOfM KB), .int .i64 m.N, .int .i64 m.c, .int .i64 m.s, .int .i64 m.t, .bool m.d, .slice ta7 mn tc7, .slice none 0 0, .slice none 0 0]) → Hid (W9.ownsRow (r + 3) 5 1 (.slice ta7 mn tc7) mn (m.l.map bv)) → Code.wp Tryd.prog _ _ _ W9) _ HS HO9
  clear HS HO9 HO H8
  intro W9 H9 HO
  obtain ⟨N, hN⟩ : ∃ n, n = v8 := ⟨_, rfl⟩
  have hNb : N ≤ 65535 := by have h1 := BLv8.out; have h2 : (256 : Nat) ^ 2 = 65536 := rfl; omega
  rw [← hN] at Vv8 ⊢
  have HR9 := Lib.hid ((H9.out.k.block r (by omega) (by rintro (e | e) <;> omega)).trans K1.out)
  have H10 := Lib.hid H9.out.rebase
  have HZ9 := Lib.hid (Nat.le_trans hz3 H9.out.k.size)
  clear H9 hN BLv8
  go_wp2_with fail
  go_loopw [8] (fun vi wr => ∃ (k : Nat) (av : Option Addr) (cv : Nat) (XS : List Sy) (s1 : Sd), k ≤ N ∧ vi = .int .i64 (k : Nat) ∧ Hid (XS.length = k) ∧ Hid (Sd.many Sd.sym Sd.symV N s.h8 = ((Sd.many Sd.sym Sd.symV (N - k) s1).1, XS ++ (Sd.many Sd.sym Sd.symV (N - k) s1).2)) ∧ Hid (SS w W9 wr bs bm MMT s1 #[.int .i64 (v0 : Nat), .int .i64 (v1 : Nat), .int .i64 (v2 : Nat), .int .i64 (v3 : Nat), .int .i64 (v4 : Nat), .string (strOfM KB), .int .i64 m.N, .int .i64 m.c, .int .i64 m.s, .int .i64 m.t, .bool m.d, .slice ta7 mn tc7, .slice av k cv, .slice none 0 0]) ∧ Hid (OwnS wr W9.heap.size av k cv XS)) (fun vi _ => N - (intOf vi).toNat)
  case atStart => exact ⟨0, none, 0, [], s.h8, Nat.zero_le _, rfl, Lib.hid rfl, Lib.hid (by simp), H10, Lib.hid (OwnS.nil _ _)⟩
  case round =>
    clear H10
    obtain ⟨k, av, cv, XS, s1, hk, rfl, HL, HMA, HSS, HOS⟩ := hrel
    rename World => wr
    obtain ⟨a1, n1, c1, hby1, hsc1⟩ := HSS.out.s
    obtain ⟨e0, e1, ez⟩ := cells2R hsc1
    obtain ⟨B, hB⟩ : ∃ B, B = s1.bad := ⟨_, rfl⟩
    rw [← hB] at e1
    have HB := Lib.hid hB
    clear hB hby1 hsc1
    by_cases hgo : k < N ∧ B = false
    · obtain ⟨hlt, rfl⟩ := hgo
      have HST := Lib.hid (Sd.many_step HMA.out hlt HB.out.symm)
      go_upto_region 16 with fail
      obtain ⟨bx, hbx⟩ : ∃ x, x = wr.heap.size := ⟨_, rfl⟩
      obtain ⟨W20, hW20⟩ : ∃ x, x = wr.alloc (.cells #[.int .i64 0, .int .i64 0, .slice none 0 0] ST3) := ⟨_, rfl⟩
      have hb20 : Below wr.heap.size wr W20 := by rw [hW20]; exact below_alloc wr _
      have hx20 : W20.heap[bx]? = some (.cells #[.int .i64 0, .int .i64 0, .slice none 0 0] ST3 (0, 0)) := by rw [hW20, hbx]; exact heap_alloc_new wr _
      have hzr := HSS.out.k.size
      have hzr3 := HZ9.out
      have hs09 := HSS.out.s0
      have hm09 := HSS.out.m0
      have h20 := HSS.out.on hb20
      have hi20 : SS w W20 W20 bs bx ST3 s1 #[.int .i64 0, .int .i64 0, .slice none 0 0] := ⟨KeepR.refl _ _, h20.s, hx20, by omega, by have := h20.bel.size; have := HSS.out.bel.size; omega, by omega, by have := (Array.getElem?_eq_some_iff.1 h20.m).1; have := hb20.size; omega, (Array.getElem?_eq_some_iff.1 hx20).1, h20.bel⟩
      rw [← hbx, ← hW20]
      have H20 := Lib.hid hi20
      have HB20 := Lib.hid hb20
      have hbx1 : wr.heap.size ≤ bx := Nat.le_of_eq hbx.symm
      have hbx2 : bx ≤ wr.heap.size := Nat.le_of_eq hbx
      clear hW20 hb20 hx20 h20 hi20 hbx e0 e1 ez

      obtain ⟨ad20, n20, c20, hby, hsc⟩ := H20.out.s
      have K := rnum_is 2 ad20 n20 c20 (s1) w W20 H20.out.bel hby (by decide) 2 rfl
      obtain ⟨e0, e1, ez⟩ := cells2R hsc
      obtain ⟨v20, hv⟩ : ∃ v, v = Sd.val (s1) 2 := ⟨_, rfl⟩
      rw [← hv] at K
      have BLv20 := Lib.hid (show v20 < 256 ^ 2 by rw [hv]; exact Sd.val_lt (s := s1) hby.bytes 2)
      have Vv20 := Lib.hid hv
      clear hv hby
      go_wp2_with fail
      (with_reducible refine K.mono ?_)
      rintro e X20 ⟨a', n', c', rfl, hy, hb⟩
      have hx := H20.out.on hb
      obtain ⟨_, _, _, -, hxs⟩ := hx.s
      obtain ⟨q0, q1, qz⟩ := cells2R hxs
      have hfz : ∀ j, X20.frozen? ⟨bx, j, none⟩ = false := fun _ => frozen_of_row _ _ _ _ _ hx.m
      have hcj : X20.cell? ⟨bx, 0, none⟩ = some (.int .i64 0) := cell_of_row _ _ 0 _ _ _ hx.m
      have HS := Lib.hid ((H20.out.scan (s' := (s1.num 2)) hb hy).put 0 (.int .i64 (v20 : Nat)) (cs' := #[.int .i64 (v20 : Nat), .int .i64 0, .slice none 0 0]) rfl)
      clear K hy hb hx hxs hsc e0 e1 ez
      go_upto_region 17 with fail
      clear q0 q1 qz hfz hcj
      refine (?_ : ∀ W21 : World, Hid (SS w W20 W21 bs bx ST3 ((s1.num 2)) #[.int .i64 (v20 : Nat), .int .i64 0, .slice none 0 0]) →  Code.wp Tryd.prog _ _ _ W21) _ HS
      clear HS H20
      intro W21 H21
      obtain ⟨ad21, n21, c21, hby, hsc⟩ := H21.out.s
      have K := rnum_is 3 ad21 n21 c21 ((s1.num 2)) w W21 H21.out.bel hby (by decide) 3 rfl
      obtain ⟨e0, e1, ez⟩ := cells2R hsc
      obtain ⟨v21, hv⟩ : ∃ v, v = Sd.val ((s1.num 2)) 3 := ⟨_, rfl⟩
      rw [← hv] at K
      have BLv21 := Lib.hid (show v21 < 256 ^ 3 by rw [hv]; exact Sd.val_lt (s := (s1.num 2)) hby.bytes 3)
      have Vv21 := Lib.hid hv
      clear hv hby
      go_wp2_with fail
      (with_reducible refine K.mono ?_)
      rintro e X21 ⟨a', n', c', rfl, hy, hb⟩
      have hx := H21.out.on hb
      obtain ⟨_, _, _, -, hxs⟩ := hx.s
      obtain ⟨q0, q1, qz⟩ := cells2R hxs
      have hfz : ∀ j, X21.frozen? ⟨bx, j, none⟩ = false := fun _ => frozen_of_row _ _ _ _ _ hx.m
      have hcj : X21.cell? ⟨bx, 1, none⟩ = some (.int .i64 0) := cell_of_row _ _ 1 _ _ _ hx.m
      have HS := Lib.hid ((H21.out.scan (s' := ((s1.num 2).num 3)) hb hy).put 1 (.int .i64 (v21 : Nat)) (cs' := #[.int .i64 (v20 : Nat), .int .i64 (v21 : Nat), .slice none 0 0]) rfl)
      clear K hy hb hx hxs hsc e0 e1 ez
      go_upto_region 18 with fail
      clear q0 q1 qz hfz hcj
      refine (?_ : ∀ W22 : World, Hid (SS w W20 W22 bs bx ST3 (((s1.num 2).num 3)) #[.int .i64 (v20 : Nat), .int .i64 (v21 : Nat), .slice none 0 0]) →  Code.wp Tryd.prog _ _ _ W22) _ HS
      clear HS H21
      intro W22 H22
      obtain ⟨ad22, n22, c22, hby, hsc⟩ := H22.out.s
      have K := rtextM_any ad22 n22 c22 ((s1.num 2).num 3) w W22 H22.out.bel hby
      obtain ⟨TB, hTB⟩ : ∃ L, L = ((s1.num 2).num 3).bytes := ⟨_, rfl⟩
      rw [← hTB] at K
      have HTB := Lib.hid hTB
      obtain ⟨tn22, htn⟩ : ∃ n, n = TB.length := ⟨_, rfl⟩
      rw [← htn] at K
      have HTN := Lib.hid htn
      obtain ⟨e0, e1, ez⟩ := cells2R hsc
      have hszW : wr.heap.size ≤ W22.heap.size := Nat.le_trans HB20.out.size H22.out.k.size
      have hsl : bs < W22.heap.size := (Array.getElem?_eq_some_iff.1 hsc).1
      have hxl : bx < W22.heap.size := (Array.getElem?_eq_some_iff.1 H22.out.m).1
      clear hTB htn hby
      go_wp2_with fail
      (with_reducible refine K.mono ?_)
      rintro e X22 ⟨a', n', c', ta22, tc22, rfl, hy, ho, hbb, h255, hb⟩
      have hx := H22.out.on hb
      obtain ⟨_, _, _, -, hxs⟩ := hx.s
      obtain ⟨q0, q1, qz⟩ := cells2R hxs
      have hfz : ∀ j, X22.frozen? ⟨bx, j, none⟩ = false := fun _ => frozen_of_row _ _ _ _ _ hx.m
      have hcj : X22.cell? ⟨bx, 2, none⟩ = some (.slice none 0 0) := cell_of_row _ _ 2 _ _ _ hx.m
      have HS := Lib.hid ((H22.out.scan (s' := s1.sym) hb hy).put 2 (.slice ta22 tn22 tc22) (cs' := #[.int .i64 (v20 : Nat), .int .i64 (v21 : Nat), .slice ta22 tn22 tc22]) rfl)
      have HTX := Lib.hid (ownsRow_base (ownPut (bm := bx) (ownScan ho hsl (.slice a' n' c') (.bool s1.sym.bad)) hxl 2 (.slice ta22 tn22 tc22)) (show W9.heap.size ≤ W22.heap.size by omega))
      have HTY := Lib.hid (And.intro hbb h255)
      clear K hy hb hx hxs hsc e0 e1 ez ho hbb h255 hsl hxl
      go_upto_region 19 with fail
      clear q0 q1 qz hfz hcj
      refine (?_ : ∀ W23 : World, Hid (SS w W20 W23 bs bx ST3 s1.sym #[.int .i64 (v20 : Nat), .int .i64 (v21 : Nat), .slice ta22 tn22 tc22]) → Hid (W23.ownsRow W9.heap.size 5 1 (.slice ta22 tn22 tc22) tn22 (TB.map bv)) → Code.wp Tryd.prog _ _ _ W23) _ HS HTX
      clear HS HTX H22 hszW
      intro W23 H23 HTX
      have hK : KeepR (fun q => q = bs ∨ q = bx) wr W23 := (KeepR.of_below HB20.out).trans H23.out.k
      have hmb : bm < wr.heap.size := (Array.getElem?_eq_some_iff.1 HSS.out.m).1
      have hm23 := (hK.block bm hmb (by rintro (e | e) <;> omega)).trans HSS.out.m
      have hos := HOS.out.keepR hK (fun q h1 h2 => by rintro (e | e) <;> omega)
      have HK := Lib.hid hK
      have HM23 := Lib.hid hm23
      have c12 : W23.cell? ⟨bm, 12, none⟩ = some (.slice av k cv) := cell_of_row _ _ 12 _ _ _ hm23
      have x0 : W23.cell? ⟨bx, 0, none⟩ = some (.int .i64 (v20 : Nat)) := cell_of_row _ _ 0 _ _ _ H23.out.m
      have x1 : W23.cell? ⟨bx, 1, none⟩ = some (.int .i64 (v21 : Nat)) := cell_of_row _ _ 1 _ _ _ H23.out.m
      have x2 : W23.cell? ⟨bx, 2, none⟩ = some (.slice ta22 tn22 tc22) := cell_of_row _ _ 2 _ _ _ H23.out.m
      have hz23 : wr.heap.size ≤ W23.heap.size := hK.size
      have HO6 := Lib.hid (hos.below (below_alloc W23 (.cells #[.int .i64 (v20 : Nat), .int .i64 (v21 : Nat), .slice ta22 tn22 tc22] ST3)))
      have HY6 := Lib.hid (HTX.out.alloc (.cells #[.int .i64 (v20 : Nat), .int .i64 (v21 : Nat), .slice ta22 tn22 tc22] ST3))
      clear hm23 hK hos
      obtain ⟨i0, hpi, hz0, hz1, hz2⟩ := info_parts sinfo
      go_wp2_with (first | (at_builtin; refine Hid.out ?_))
      refine Lib.hid ?_
      clear c12 x0 x1 x2
      obtain ⟨h1, xs, h2, h3, h4⟩ := HO6.out
      refine wpList_append_lies _ rfl (.tmp 96) (.tmp 98) 27 rfl W9.heap.size ST3 i0 (.agg #[.int .i64 0, .int .i64 0, .slice none 0 0]) 3 40 Tryd.underlying27 hpi hz0 hz1 hz2 rfl (by decide) (.slice av k cv) k (scells xs) rfl h3 ⟨W23.heap.size, 0, none⟩ 1 1 [.int .i64 (v20 : Nat), .int .i64 (v21 : Nat), SV (ta22, tn22, tc22)] rfl rfl (World.news_of_block (heap_alloc_new W23 _)) (by intro u hu; simp at hu; rcases hu with rfl | rfl | rfl <;> rfl) (by decide) (by simp [maxLen]; omega) (by omega) (by simp; omega) _ rfl ?_
      intro g9 c9 w9 hE9 g9' lie9 _
      have hO := sy_append h2 h1 h3 h4 (y := (ta22, tn22, tc22)) (l := TB) (z := (v20 : Nat)) (e := (v21 : Nat)) (by rw [← HTN.out]; exact HY6.out) HTN.out ⟨HTY.out.1, by have := HTY.out.2; rw [← HTN.out]; omega⟩ hE9 g9'
      have hnb : ∀ i, i < W9.heap.size → some i ≠ (Value.slice av k cv).ownBlock := fun i hi e => by have := (h3.lt i e.symm).1; omega
      have hl23 : wr.heap.size ≤ W23.heap.size := HK.out.size
      have hblk : ∀ i, i < W9.heap.size → w9.heap[i]? = W23.heap[i]? := fun i hi => (g9'.block i (by simp; omega) (hnb i hi)).trans (heap_alloc_old _ _ (by omega))
      have hss9 : SS w W9 (w9.setCell ⟨bm, 12, none⟩ (.slice (some ⟨g9, 0, none⟩) (k + 1) c9)) bs bm MMT s1.sym #[.int .i64 (v0 : Nat), .int .i64 (v1 : Nat), .int .i64 (v2 : Nat), .int .i64 (v3 : Nat), .int .i64 (v4 : Nat), .string (strOfM KB), .int .i64 m.N, .int .i64 m.c, .int .i64 m.s, .int .i64 m.t, .bool m.d, .slice ta7 mn tc7, .slice (some ⟨g9, 0, none⟩) (k + 1) c9, .slice none 0 0] := by
        obtain ⟨a', n', c', hy', hs'⟩ := H23.out.s
        have hne := HSS.out.ne
        exact ⟨⟨g9'.os.trans (HK.out.os.trans HSS.out.k.os), g9'.tape.trans (HK.out.tape.trans HSS.out.k.tape), g9'.output.trans (HK.out.output.trans HSS.out.k.output), by have h1 := g9'.size; simp [World.setCell] at h1 ⊢; omega, fun i hi hn => (heap_setCell_other w9 ⟨bm, 12, none⟩ i _ (fun e => hn (.inr e))).trans ((hblk i hi).trans ((HK.out.block i (by omega) (by rintro (e | e); exact hn (.inl e); omega)).trans (HSS.out.k.block i hi hn)))⟩,
          ⟨a', n', c', hy', (heap_setCell_other w9 ⟨bm, 12, none⟩ bs _ hne).trans ((hblk bs hs09).trans hs')⟩, heap_setCell_same w9 bm 12 _ _ _ ((hblk bm hm09).trans HM23.out), HSS.out.us, HSS.out.um, hne, hs09, hm09, HSS.out.bu⟩
      have hO9 := hO.grown (grownBy_setCellM w9 ⟨bm, 12, none⟩ (.slice (some ⟨g9, 0, none⟩) (k + 1) c9)) hm09
      have hsv : s1.symV = (((v20 : Nat) : Int), ((v21 : Nat) : Int), TB) := by rw [Vv20.out, Vv21.out, HTB.out]; rfl
      have HST9 : Hid (Sd.many Sd.sym Sd.symV N s.h8 = ((Sd.many Sd.sym Sd.symV (N - (k + 1)) s1.sym).1, (XS ++ [(((v20 : Nat) : Int), ((v21 : Nat) : Int), TB)]) ++ (Sd.many Sd.sym Sd.symV (N - (k + 1)) s1.sym).2)) := Lib.hid (by rw [← hsv]; exact HST.out)
      have HL9 : Hid ((XS ++ [(((v20 : Nat) : Int), ((v21 : Nat) : Int), TB)]).length = k + 1) := Lib.hid (by rw [List.length_append, HL.out]; rfl)
      have HSS9 := Lib.hid hss9
      have HOS9 := Lib.hid hO9
      have c12 : w9.cell? ⟨bm, 12, none⟩ = some (.slice av k cv) := cell_of_row _ _ 12 _ _ _ ((hblk bm hm09).trans HM23.out)
      have hfz : w9.frozen? ⟨bm, 12, none⟩ = false := frozen_of_row _ _ _ _ _ ((hblk bm hm09).trans HM23.out)
      clear hss9 hO9 hO hE9 g9' lie9 h2 h1 h3 h4 hnb hblk hsv HST
      go_wp2
      go_roundw
      case rel => exact ⟨k + 1, _, _, _, _, by omega, by go_num, HL9, HST9, HSS9, HOS9⟩
      case measure => simp [intOf] <;> omega
    · have hres : Sd.many Sd.sym Sd.symV N s.h8 = (s1, XS) := by
        rw [HMA.out]
        cases B with
        | true => rw [Sd.many_bad HB.out.symm]; simp
        | false =>
          obtain rfl : k = N := by
            by_cases h : k < N
            · exact absurd ⟨h, rfl⟩ hgo
            · omega
          rw [Nat.sub_self]
          simp [Sd.many]
      have hh9 : s.h9 = s1 := by show (Sd.many Sd.sym Sd.symV (s.h7.val 2) s.h8).1 = _; rw [← Vv8.out, hres]
      have hsy : (Sd.many Sd.sym Sd.symV (s.h7.val 2) s.h8).2 = XS := by rw [← Vv8.out, hres]
      have HH9 := Lib.hid hh9
      have HSY := Lib.hid hsy
      clear hres hh9 hsy
      have hor : (N ≤ k ∧ B = false) ∨ (k < N ∧ B = true) ∨ (N ≤ k ∧ B = true) := by
        cases B with
        | true =>
          by_cases h : k < N
          · exact .inr (.inl ⟨h, rfl⟩)
          · exact .inr (.inr ⟨by omega, rfl⟩)
        | false => exact .inl ⟨by
          by_cases h : k < N
          · exact absurd ⟨h, rfl⟩ hgo
          · omega, rfl⟩
      clear hgo
      go_upto_region 13 with fail
      go_cut [73] (fun v wx => v = .bool false ∧ wr = wx)
      case first =>
        rcases hor with ⟨h, rfl⟩ | ⟨h, rfl⟩ | ⟨h, rfl⟩
        · have hn : ¬ k < N := by omega
          go_wp2
          go_meet
          exact ⟨rfl, rfl⟩
        · go_wp2
          go_meet
          exact ⟨rfl, rfl⟩
        · have hn : ¬ k < N := by omega
          go_wp2
          go_meet
          exact ⟨rfl, rfl⟩
      case rest =>
        obtain ⟨rfl, rfl⟩ := hcut
        clear e0 e1 ez hor
        have hre := HSS.out.rebase
        have ho30 := HO.out.keepR HSS.out.k (fun q h1 h2 => by rintro (e | e) <;> omega)
        have hr30 := (HSS.out.k.block r (by have := HZ9.out; omega) (by rintro (e | e) <;> omega)).trans HR9.out
        have H30 := Lib.hid hre
        have HO30 := Lib.hid ho30
        have HR30 := Lib.hid hr30
        have hs930 := HSS.out.s0
        have hm930 := HSS.out.m0
        have hz930 := HZ9.out
        have hsz30 := HSS.out.k.size
        have hkN := HL.out
        obtain ⟨SN, hSN⟩ : ∃ n, n = k := ⟨_, rfl⟩
        rw [← hSN] at H30 HOS HL
        have hHL := HL.out
        have hSNb : SN ≤ 65535 := by omega
        have HHL := Lib.hid hHL
        obtain ⟨W30, hW30⟩ : ∃ W, W = wr := ⟨_, rfl⟩
        rw [← hW30] at H30 HO30 HR30 HOS hsz30 ⊢
        clear hre ho30 hr30 HSS HMA HL hkN hHL hSN hW30 HB HR9 HZ9 hk hNb

        obtain ⟨ad30, n30, c30, hby, hsc⟩ := H30.out.s
        have K := rnum_is 1 ad30 n30 c30 (s1) w W30 H30.out.bel hby (by decide) 1 rfl
        obtain ⟨e0, e1, ez⟩ := cells2R hsc
        obtain ⟨v30, hv⟩ : ∃ v, v = Sd.val (s1) 1 := ⟨_, rfl⟩
        rw [← hv] at K
        have BLv30 := Lib.hid (show v30 < 256 ^ 1 by rw [hv]; exact Sd.val_lt (s := s1) hby.bytes 1)
        have Vv30 := Lib.hid hv
        clear hv hby
        go_wp2_with fail
        (with_reducible refine K.mono ?_)
        rintro e X30 ⟨a', n', c', rfl, hy, hb⟩
        have hx := H30.out.on hb
        obtain ⟨_, _, _, -, hxs⟩ := hx.s
        obtain ⟨q0, q1, qz⟩ := cells2R hxs
        have HS := Lib.hid (H30.out.scan (s' := (s1.num 1)) hb hy)
        have HO31 := Lib.hid (ownScan (own_belowM HO30.out hb) (show bs < r + 3 by omega) (.slice a' n' c') (.bool (s1.num 1).bad))
        have HOS31 := Lib.hid (((HOS.out.below hb).grown (grownBy_setCellM X30 ⟨bs, 0, none⟩ (.slice a' n' c')) hs930).grown (grownBy_setCellM _ ⟨bs, 1, none⟩ (.bool (s1.num 1).bad)) hs930)
        clear K hy hb hx hxs hsc e0 e1 ez
        go_upto_block 2 with fail
        clear q0 q1 qz
        refine (?_ : ∀ W31 : World, Hid (SS w W30 W31 bs bm MMT (s1.num 1) #[.int .i64 (v0 : Nat), .int .i64 (v1 : Nat), .int .i64 (v2 : Nat), .int .i64 (v3 : Nat), .int .i64 (v4 : Nat), .string (strOfM KB), .int .i64 m.N, .int .i64 m.c, .int .i64 m.s, .int .i64 m.t, .bool m.d, .slice ta7 mn tc7, .slice av SN cv, .slice none 0 0]) → Hid (W31.ownsRow (r + 3) 5 1 (.slice ta7 mn tc7) mn (m.l.map bv)) → Hid (OwnS W31 W9.heap.size av SN cv XS) → Code.wp Tryd.prog _ _ _ W31) _ HS HO31 HOS31
        clear HS HO31 HOS31 HO30 HOS H30
        intro W31 H31 HO31 HOS31
        obtain ⟨N2, hN2⟩ : ∃ n, n = v30 := ⟨_, rfl⟩
        have hN2b : N2 ≤ 65535 := by have h1 := BLv30.out; have h2 : (256 : Nat) ^ 1 = 256 := rfl; omega
        rw [← hN2] at Vv30 ⊢
        have HR31 := Lib.hid ((H31.out.k.block r (by omega) (by rintro (e | e) <;> omega)).trans HR30.out)
        have hsz31 := H31.out.k.size
        have H32 := Lib.hid H31.out.rebase
        clear H31 hN2 BLv30 HR30
        go_wp2_with fail
        go_loopw [10] (fun vi wq => ∃ (j : Nat) (aw : Option Addr) (cw : Nat) (YS : List (ItR × HdT)) (s2 : Sd), j ≤ N2 ∧ vi = .int .i64 (j : Nat) ∧ Hid (YS.length = j) ∧ Hid (Sd.many Sd.item Sd.itemV N2 (s1.num 1) = ((Sd.many Sd.item Sd.itemV (N2 - j) s2).1, YS.map Prod.fst ++ (Sd.many Sd.item Sd.itemV (N2 - j) s2).2)) ∧ Hid (SS w W31 wq bs bm MMT s2 #[.int .i64 (v0 : Nat), .int .i64 (v1 : Nat), .int .i64 (v2 : Nat), .int .i64 (v3 : Nat), .int .i64 (v4 : Nat), .string (strOfM KB), .int .i64 m.N, .int .i64 m.c, .int .i64 m.s, .int .i64 m.t, .bool m.d, .slice ta7 mn tc7, .slice av SN cv, .slice aw j cw]) ∧ Hid (OwI wq W31.heap.size aw cw YS)) (fun vi _ => N2 - (intOf vi).toNat)
        case atStart => exact ⟨0, none, 0, [], s1.num 1, Nat.zero_le _, rfl, Lib.hid rfl, Lib.hid (by simp), H32, Lib.hid (OwI.nil _ _)⟩
        case round =>
          clear H32
          obtain ⟨j, aw, cw, YS, s2, hj, rfl, HL2, HMA2, HSS2, HOI⟩ := hrel
          rename World => wq
          obtain ⟨a1, n1, c1, hby1, hsc1⟩ := HSS2.out.s
          obtain ⟨e0, e1, ez⟩ := cells2R hsc1
          obtain ⟨B2, hB2⟩ : ∃ B, B = s2.bad := ⟨_, rfl⟩
          rw [← hB2] at e1
          have HB2 := Lib.hid hB2
          clear hB2 hby1 hsc1
          by_cases hgo : j < N2 ∧ B2 = false
          · obtain ⟨hlt, rfl⟩ := hgo
            have HST := Lib.hid (Sd.many_step HMA2.out hlt HB2.out.symm)
            go_upto_region 25 with fail
            obtain ⟨bx, hbx⟩ : ∃ x, x = wq.heap.size := ⟨_, rfl⟩
            obtain ⟨W40, hW40⟩ : ∃ x, x = wq.alloc (.cells Z7 IT7) := ⟨_, rfl⟩
            have hb40 : Below wq.heap.size wq W40 := by rw [hW40]; exact below_alloc wq _
            have hx40 : W40.heap[bx]? = some (.cells Z7 IT7 (0, 0)) := by rw [hW40, hbx]; exact heap_alloc_new wq _
            have hzq := HSS2.out.k.size
            have hs031 := HSS2.out.s0
            have hm031 := HSS2.out.m0
            have h40 := HSS2.out.on hb40
            have hi40 : SS w W40 W40 bs bx IT7 s2 Z7 := ⟨KeepR.refl _ _, h40.s, hx40, by omega, by have := h40.bel.size; have := HSS2.out.bel.size; omega, by omega, by have := (Array.getElem?_eq_some_iff.1 h40.m).1; have := hb40.size; omega, (Array.getElem?_eq_some_iff.1 hx40).1, h40.bel⟩
            rw [← hbx, ← hW40]
            have HB40 := Lib.hid hb40
            have hbx1 : wq.heap.size ≤ bx := Nat.le_of_eq hbx.symm
            have hbx2 : bx ≤ wq.heap.size := Nat.le_of_eq hbx
            obtain ⟨ad40, n40, c40, hby, hsc⟩ := hi40.s
            have K := rtextM_any ad40 n40 c40 s2 w W40 hi40.bel hby
            have H40 := Lib.hid hi40
            obtain ⟨KI, hKI⟩ : ∃ L, L = s2.bytes := ⟨_, rfl⟩
            rw [← hKI] at K
            have HKI := Lib.hid hKI
            obtain ⟨ki, hki⟩ : ∃ n, n = KI.length := ⟨_, rfl⟩
            rw [← hki] at K
            have HKIN := Lib.hid hki
            have hsl : bs < W40.heap.size := (Array.getElem?_eq_some_iff.1 hsc).1
            clear e0 e1 ez
            obtain ⟨e0, e1, ez⟩ := cells2R hsc
            clear hW40 hb40 hx40 h40 hi40 hbx hKI hki hby
            go_wp2_with fail
            (with_reducible refine K.mono ?_)
            rintro e X40 ⟨a', n', c', ta40, tc40, rfl, hy, ho, hbb, h255, hb⟩
            have hx := H40.out.on hb
            obtain ⟨_, _, _, -, hxs⟩ := hx.s
            obtain ⟨q0, q1, qz⟩ := cells2R hxs
            have HS := Lib.hid (H40.out.scan (s' := s2.text) hb hy)
            have ho2 := ownScan ho hsl (.slice a' n' c') (.bool s2.text.bad)
            have hkb := bytesV_own (x := (ta40, ki, tc40)) (by rw [HKIN.out] at ho2 ⊢; exact ho2) HKIN.out hbb (by rw [← HKIN.out]; omega)
            have hcv := Lib.hid (conv_anyM _ ta40 ki tc40 KI hkb)
            clear K hy hb hx hxs hsc e0 e1 ez ho ho2 hbb h255 hkb hsl
            go_upto_region 26 with fail
            clear q0 q1 qz
            refine (?_ : ∀ W41 : World, Hid (SS w W40 W41 bs bx IT7 s2.text Z7) → Hid ((convert 24 9 (.slice ta40 ki tc40)).run Tryd.prog W41 = .ok (.string (strOfM KI)) W41) → Code.wp Tryd.prog _ _ _ W41) _ HS hcv
            clear HS hcv H40
            intro W41 H41 hcv
            have hcv := hcv.out
            have hfz : ∀ j, W41.frozen? ⟨bx, j, none⟩ = false := fun _ => frozen_of_row _ _ _ _ _ H41.out.m
            have hcj : W41.cell? ⟨bx, 0, none⟩ = some (.string ⟨#[]⟩) := cell_of_row _ _ 0 _ _ _ H41.out.m
            have HS := Lib.hid (H41.out.put 0 (.string (strOfM KI)) (cs' := #[.string (strOfM KI), .int .i64 0, .int .i64 0, .int .i64 0, .int .i64 0, .bool false, .slice none 0 0]) rfl)
            go_upto_region 27 with fail
            clear hfz hcj hcv
            refine (?_ : ∀ W42 : World, Hid (SS w W40 W42 bs bx IT7 s2.text #[.string (strOfM KI), .int .i64 0, .int .i64 0, .int .i64 0, .int .i64 0, .bool false, .slice none 0 0]) → Code.wp Tryd.prog _ _ _ W42) _ HS
            clear HS H41
            intro W42 H42
            obtain ⟨ad42, n42, c42, hby, hsc⟩ := H42.out.s
            have K := rmeta11_any ad42 n42 c42 s2.text w W42 H42.out.bel hby
            obtain ⟨y, hy0⟩ : ∃ y, y = s2.text.metaV := ⟨_, rfl⟩
            rw [← hy0] at K
            have HYV := Lib.hid hy0
            obtain ⟨yn, hyn⟩ : ∃ n, n = y.l.length := ⟨_, rfl⟩
            rw [← hyn] at K
            have HYN := Lib.hid hyn
            simp only [MC] at K
            obtain ⟨e0, e1, ez⟩ := cells2R hsc
            have hsl : bs < W42.heap.size := (Array.getElem?_eq_some_iff.1 hsc).1
            have hxl : bx < W42.heap.size := (Array.getElem?_eq_some_iff.1 H42.out.m).1
            have hszW : wq.heap.size ≤ W42.heap.size := Nat.le_trans HB40.out.size H42.out.k.size
            clear hy0 hyn hby
            go_wp2_with fail
            (with_reducible refine K.mono ?_)
            rintro e X42 ⟨a', n', c', ta42, tc42, rfl, hy, ho, hbb, h255, hb⟩
            have hx := H42.out.on hb
            obtain ⟨_, _, _, -, hxs⟩ := hx.s
            obtain ⟨q0, q1, qz⟩ := cells2R hxs
            have hfz : ∀ j, X42.frozen? ⟨bx, j, none⟩ = false := fun _ => frozen_of_row _ _ _ _ _ hx.m
            have d1 : X42.cell? ⟨bx, 1, none⟩ = some (.int .i64 0) := cell_of_row _ _ 1 _ _ _ hx.m
            have d2 : X42.cell? ⟨bx, 2, none⟩ = some (.int .i64 0) := cell_of_row _ _ 2 _ _ _ hx.m
            have d3 : X42.cell? ⟨bx, 3, none⟩ = some (.int .i64 0) := cell_of_row _ _ 3 _ _ _ hx.m
            have d4 : X42.cell? ⟨bx, 4, none⟩ = some (.int .i64 0) := cell_of_row _ _ 4 _ _ _ hx.m
            have d5 : X42.cell? ⟨bx, 5, none⟩ = some (.bool false) := cell_of_row _ _ 5 _ _ _ hx.m
            have d6 : X42.cell? ⟨bx, 6, none⟩ = some (.slice none 0 0) := cell_of_row _ _ 6 _ _ _ hx.m
            have HS := Lib.hid (((((((H42.out.scan (s' := s2.item) hb hy).put 1 (.int .i64 y.N) (cs' := #[.string (strOfM KI), .int .i64 y.N, .int .i64 0, .int .i64 0, .int .i64 0, .bool false, .slice none 0 0]) rfl).put 2 (.int .i64 y.c) (cs' := #[.string (strOfM KI), .int .i64 y.N, .int .i64 y.c, .int .i64 0, .int .i64 0, .bool false, .slice none 0 0]) rfl).put 3 (.int .i64 y.s) (cs' := #[.string (strOfM KI), .int .i64 y.N, .int .i64 y.c, .int .i64 y.s, .int .i64 0, .bool false, .slice none 0 0]) rfl).put 4 (.int .i64 y.t) (cs' := #[.string (strOfM KI), .int .i64 y.N, .int .i64 y.c, .int .i64 y.s, .int .i64 y.t, .bool false, .slice none 0 0]) rfl).put 5 (.bool y.d) (cs' := #[.string (strOfM KI), .int .i64 y.N, .int .i64 y.c, .int .i64 y.s, .int .i64 y.t, .bool y.d, .slice none 0 0]) rfl).put 6 (.slice ta42 yn tc42) (cs' := #[.string (strOfM KI), .int .i64 y.N, .int .i64 y.c, .int .i64 y.s, .int .i64 y.t, .bool y.d, .slice ta42 yn tc42]) rfl)
            have HTX := Lib.hid (ownsRow_base (ownPut (bm := bx) (ownPut (bm := bx) (ownPut (bm := bx) (ownPut (bm := bx) (ownPut (bm := bx) (ownPut (bm := bx) (ownScan ho hsl (.slice a' n' c') (.bool s2.item.bad)) hxl 1 (.int .i64 y.N)) hxl 2 (.int .i64 y.c)) hxl 3 (.int .i64 y.s)) hxl 4 (.int .i64 y.t)) hxl 5 (.bool y.d)) hxl 6 (.slice ta42 yn tc42)) (show W31.heap.size ≤ W42.heap.size by omega))
            have HTY := Lib.hid (And.intro hbb h255)
            clear K hy hb hx hxs hsc e0 e1 ez ho hbb h255 hsl hxl
            go_upto_region 28 with fail
            clear q0 q1 qz hfz d1 d2 d3 d4 d5 d6
            refine (?_ : ∀ W43 : World, Hid (SS w W40 W43 bs bx IT7 s2.item #[.string (strOfM KI), .int .i64 y.N, .int .i64 y.c, .int .i64 y.s, .int .i64 y.t, .bool y.d, .slice ta42 yn tc42]) → Hid (W43.ownsRow W31.heap.size 5 1 (.slice ta42 yn tc42) yn (y.l.map bv)) → Code.wp Tryd.prog _ _ _ W43) _ HS HTX
            clear HS HTX H42 hszW
            intro W43 H43 HTX
            have hK : KeepR (fun q => q = bs ∨ q = bx) wq W43 := (KeepR.of_below HB40.out).trans H43.out.k
            have hmb : bm < wq.heap.size := (Array.getElem?_eq_some_iff.1 HSS2.out.m).1
            have hm43 := (hK.block bm hmb (by rintro (e | e) <;> omega)).trans HSS2.out.m
            have hoi := HOI.out.keepR hK (fun q h1 h2 => by rintro (e | e) <;> omega)
            have HK := Lib.hid hK
            have HM43 := Lib.hid hm43
            have c13 : W43.cell? ⟨bm, 13, none⟩ = some (.slice aw j cw) := cell_of_row _ _ 13 _ _ _ hm43
            have x0 : W43.cell? ⟨bx, 0, none⟩ = some (.string (strOfM KI)) := cell_of_row _ _ 0 _ _ _ H43.out.m
            have x1 : W43.cell? ⟨bx, 1, none⟩ = some (.int .i64 y.N) := cell_of_row _ _ 1 _ _ _ H43.out.m
            have x2 : W43.cell? ⟨bx, 2, none⟩ = some (.int .i64 y.c) := cell_of_row _ _ 2 _ _ _ H43.out.m
            have x3 : W43.cell? ⟨bx, 3, none⟩ = some (.int .i64 y.s) := cell_of_row _ _ 3 _ _ _ H43.out.m
            have x4 : W43.cell? ⟨bx, 4, none⟩ = some (.int .i64 y.t) := cell_of_row _ _ 4 _ _ _ H43.out.m
            have x5 : W43.cell? ⟨bx, 5, none⟩ = some (.bool y.d) := cell_of_row _ _ 5 _ _ _ H43.out.m
            have x6 : W43.cell? ⟨bx, 6, none⟩ = some (.slice ta42 yn tc42) := cell_of_row _ _ 6 _ _ _ H43.out.m
            have hz43 : wq.heap.size ≤ W43.heap.size := hK.size
            have HO6 := Lib.hid (hoi.below (below_alloc W43 (.cells #[.string (strOfM KI), .int .i64 y.N, .int .i64 y.c, .int .i64 y.s, .int .i64 y.t, .bool y.d, .slice ta42 yn tc42] IT7)))
            have HY6 := Lib.hid (HTX.out.alloc (.cells #[.string (strOfM KI), .int .i64 y.N, .int .i64 y.c, .int .i64 y.s, .int .i64 y.t, .bool y.d, .slice ta42 yn tc42] IT7))
            clear hm43 hK hoi
            obtain ⟨i0, hpi, hz0, hz1, hz2⟩ := info_partsM iinfo
            go_wp2_with (first | (at_builtin; refine Hid.out ?_))
            refine Lib.hid ?_
            clear c13 x0 x1 x2 x3 x4 x5 x6
            have h3 := HO6.out.own
            rw [HL2.out] at h3
            refine wpList_append_lies _ rfl (.tmp 132) (.tmp 134) 28 rfl W31.heap.size IT7 i0 (.agg #[.string ⟨#[]⟩, .int .i64 0, .int .i64 0, .int .i64 0, .int .i64 0, .bool false, .slice none 0 0]) 7 80 Tryd.underlying28 hpi hz0 hz1 hz2 rfl (by decide) (.slice aw j cw) j (icells YS) rfl h3 ⟨W43.heap.size, 0, none⟩ 1 1 [.string (strOfM KI), .int .i64 y.N, .int .i64 y.c, .int .i64 y.s, .int .i64 y.t, .bool y.d, SV (ta42, yn, tc42)] rfl rfl (World.news_of_block (heap_alloc_new W43 _)) (by intro u hu; simp at hu; rcases hu with rfl | rfl | rfl | rfl | rfl | rfl | rfl <;> rfl) (by decide) (by simp [maxLen]; omega) (by omega) (by simp; omega) _ rfl ?_
            intro g9 c9 w9 hE9 g9' lie9 _
            have hO := HO6.out.snoc (it := ⟨strOfM KI, y⟩) (y := (ta42, yn, tc42)) (by show _ ; rw [show (ItR.mk (strOfM KI) y).m.l.length = yn from HYN.out.symm]; exact HY6.out) HYN.out ⟨HTY.out.1, by have := HTY.out.2; rw [← HYN.out]; omega⟩ (by rw [HL2.out]; exact hE9) (by rw [HL2.out]; exact g9')
            have hnb : ∀ i, i < W31.heap.size → some i ≠ (Value.slice aw j cw).ownBlock := fun i hi e => by have := (h3.lt i e.symm).1; omega
            have hblk : ∀ i, i < W31.heap.size → w9.heap[i]? = W43.heap[i]? := fun i hi => (g9'.block i (by simp; omega) (hnb i hi)).trans (heap_alloc_old _ _ (by omega))
            have hss9 : SS w W31 (w9.setCell ⟨bm, 13, none⟩ (.slice (some ⟨g9, 0, none⟩) (j + 1) c9)) bs bm MMT s2.item #[.int .i64 (v0 : Nat), .int .i64 (v1 : Nat), .int .i64 (v2 : Nat), .int .i64 (v3 : Nat), .int .i64 (v4 : Nat), .string (strOfM KB), .int .i64 m.N, .int .i64 m.c, .int .i64 m.s, .int .i64 m.t, .bool m.d, .slice ta7 mn tc7, .slice av SN cv, .slice (some ⟨g9, 0, none⟩) (j + 1) c9] := by
              obtain ⟨a', n', c', hy', hs'⟩ := H43.out.s
              have hne := HSS2.out.ne
              exact ⟨⟨g9'.os.trans (HK.out.os.trans HSS2.out.k.os), g9'.tape.trans (HK.out.tape.trans HSS2.out.k.tape), g9'.output.trans (HK.out.output.trans HSS2.out.k.output), by have h1 := g9'.size; simp [World.setCell] at h1 ⊢; omega, fun i hi hn => (heap_setCell_other w9 ⟨bm, 13, none⟩ i _ (fun e => hn (.inr e))).trans ((hblk i hi).trans ((HK.out.block i (by omega) (by rintro (e | e); exact hn (.inl e); omega)).trans (HSS2.out.k.block i hi hn)))⟩,
                ⟨a', n', c', hy', (heap_setCell_other w9 ⟨bm, 13, none⟩ bs _ hne).trans ((hblk bs hs031).trans hs')⟩, heap_setCell_same w9 bm 13 _ _ _ ((hblk bm hm031).trans HM43.out), HSS2.out.us, HSS2.out.um, hne, hs031, hm031, HSS2.out.bu⟩
            have hO9 := hO.grown (grownBy_setCellM w9 ⟨bm, 13, none⟩ (.slice (some ⟨g9, 0, none⟩) (j + 1) c9)) hm031
            have hsv : s2.itemV = ⟨strOfM KI, y⟩ := by rw [HKI.out, HYV.out]; rfl
            have HST9 : Hid (Sd.many Sd.item Sd.itemV N2 (s1.num 1) = ((Sd.many Sd.item Sd.itemV (N2 - (j + 1)) s2.item).1, (YS ++ [((⟨strOfM KI, y⟩ : ItR), ((ta42, yn, tc42) : HdT))]).map Prod.fst ++ (Sd.many Sd.item Sd.itemV (N2 - (j + 1)) s2.item).2)) := Lib.hid (by rw [List.map_append]; show _ = (_, (_ ++ [(⟨strOfM KI, y⟩ : ItR)]) ++ _); rw [← hsv]; exact HST.out)
            have HL9 : Hid ((YS ++ [((⟨strOfM KI, y⟩ : ItR), ((ta42, yn, tc42) : HdT))]).length = j + 1) := Lib.hid (by rw [List.length_append, HL2.out]; rfl)
            have HSS9 := Lib.hid hss9
            have HOI9 := Lib.hid hO9
            have c13 : w9.cell? ⟨bm, 13, none⟩ = some (.slice aw j cw) := cell_of_row _ _ 13 _ _ _ ((hblk bm hm031).trans HM43.out)
            have hfz : w9.frozen? ⟨bm, 13, none⟩ = false := frozen_of_row _ _ _ _ _ ((hblk bm hm031).trans HM43.out)
            clear hss9 hO9 hO hE9 g9' lie9 h3 hnb hblk hsv HST
            go_wp2
            go_roundw
            case rel => exact ⟨j + 1, _, _, _, _, by omega, by go_num, HL9, HST9, HSS9, HOI9⟩
            case measure => simp [intOf] <;> omega
          · have hres : Sd.many Sd.item Sd.itemV N2 (s1.num 1) = (s2, YS.map Prod.fst) := by
              rw [HMA2.out]
              cases B2 with
              | true => rw [Sd.many_bad HB2.out.symm]; simp
              | false =>
                obtain rfl : j = N2 := by
                  by_cases h : j < N2
                  · exact absurd ⟨h, rfl⟩ hgo
                  · omega
                rw [Nat.sub_self]
                simp [Sd.many]
            have hfin : s.fin = s2 := by show (Sd.many Sd.item Sd.itemV (s.h9.val 1) s.h9.h1).1 = _; rw [HH9.out, ← Vv30.out]; show (Sd.many Sd.item Sd.itemV N2 (s1.num 1)).1 = _; rw [hres]
            have hit : (Sd.many Sd.item Sd.itemV (s.h9.val 1) s.h10).2 = YS.map Prod.fst := by show (Sd.many Sd.item Sd.itemV (s.h9.val 1) (s.h9.num 1)).2 = _; rw [HH9.out, ← Vv30.out, hres]
            have hMV : s.msgV = ⟨(v0 : Nat), (v1 : Nat), (v2 : Nat), (v3 : Nat), (v4 : Nat), strOfM KB, m, XS, YS.map Prod.fst⟩ := by
              rw [Vv0.out, Vv1.out, Vv2.out, Vv3.out, Vv4.out, HKB.out, HM.out, ← HSY.out, ← hit]; rfl
            have HFIN := Lib.hid hfin
            have HMV := Lib.hid hMV
            clear hres hfin hit hMV
            have hor : (N2 ≤ j ∧ B2 = false) ∨ (j < N2 ∧ B2 = true) ∨ (N2 ≤ j ∧ B2 = true) := by
              cases B2 with
              | true =>
                by_cases h : j < N2
                · exact .inr (.inl ⟨h, rfl⟩)
                · exact .inr (.inr ⟨by omega, rfl⟩)
              | false => exact .inl ⟨by
                by_cases h : j < N2
                · exact absurd ⟨h, rfl⟩ hgo
                · omega, rfl⟩
            clear hgo
            go_upto_region 22 with fail
            go_cut [113] (fun v wx => v = .bool false ∧ wq = wx)
            case first =>
              rcases hor with ⟨h, rfl⟩ | ⟨h, rfl⟩ | ⟨h, rfl⟩
              · have hn : ¬ j < N2 := by omega
                go_wp2
                go_meet
                exact ⟨rfl, rfl⟩
              · go_wp2
                go_meet
                exact ⟨rfl, rfl⟩
              · have hn : ¬ j < N2 := by omega
                go_wp2
                go_meet
                exact ⟨rfl, rfl⟩
            case rest =>
              obtain ⟨rfl, rfl⟩ := hcut
              clear e0 e1 ez hor
              have hs031 := HSS2.out.s0
              have hm031 := HSS2.out.m0
              have hX : ∀ q, r + 3 ≤ q → q < W31.heap.size → ¬ (q = bs ∨ q = bm) := fun q h1 h2 => by rintro (e | e) <;> omega
              have ho33 := HO31.out.keepR HSS2.out.k hX
              have hos33 := HOS31.out.keepR HSS2.out.k (fun q h1 h2 => hX q (by omega) h2)
              have hr33 := (HSS2.out.k.block r (by omega) (by rintro (e | e) <;> omega)).trans HR31.out
              obtain ⟨M, hM⟩ : ∃ M : MsR, M = ⟨(v0 : Nat), (v1 : Nat), (v2 : Nat), (v3 : Nat), (v4 : Nat), strOfM KB, m, XS, YS.map Prod.fst⟩ := ⟨_, rfl⟩
              have how : OwM wq (r + 3) M (ta7, mn, tc7) av cv aw cw := by
                rw [hM]
                exact ⟨by show wq.ownsRow _ _ _ (.slice ta7 mn tc7) m.l.length (m.l.map bv); rw [← HMN.out]; exact ho33, HMN.out, ⟨HXB.out.1, by show m.l.length ≤ 255; rw [← HMN.out]; exact HXB.out.2⟩, by show OwnS wq _ av XS.length cv XS; rw [HHL.out]; exact hos33.rebase (by omega), YS, rfl, HOI.out.rebase (by omega)⟩
              have hmsc : MsC M (ta7, mn, tc7) av cv aw cw = #[.int .i64 (v0 : Nat), .int .i64 (v1 : Nat), .int .i64 (v2 : Nat), .int .i64 (v3 : Nat), .int .i64 (v4 : Nat), .string (strOfM KB), .int .i64 m.N, .int .i64 m.c, .int .i64 m.s, .int .i64 m.t, .bool m.d, .slice ta7 mn tc7, .slice av SN cv, .slice aw j cw] := by rw [hM]; simp only [MsC, HHL.out, List.length_map, HL2.out]
              have hmc : wq.heap[bm]? = some (.cells (MsC M (ta7, mn, tc7) av cv aw cw) MMT (0, 0)) := by rw [hmsc]; exact HSS2.out.m
              rw [← hM] at HMV
              obtain ⟨a9, n9, c9, -, hsc9⟩ := HSS2.out.s
              have KE := rencode_anyM M (ta7, mn, tc7) av cv aw cw wq how.v
              rw [hmsc] at KE
              unfold GivesM at KE
              have hle := encM_len M
              obtain ⟨⟨L, E⟩, hE⟩ : ∃ p, p = encM M := ⟨_, rfl⟩
              rw [← hE] at KE hle
              simp only at hle
              have HE := Lib.hid hE
              have HOW := Lib.hid how
              have HMC := Lib.hid hmc
              have HR33 := Lib.hid hr33
              have HSC := Lib.hid hsc9
              have HBL := Lib.hid HSS2.out.bel
              have HMSC := Lib.hid hmsc
              have hz33 : W31.heap.size ≤ wq.heap.size := HSS2.out.k.size
              obtain ⟨⟨c0, c1, c2, c3, c4, c5, c6⟩, c7, c8, c9', c10, c11, c12, c13⟩ := cells14 HSS2.out.m
              clear ho33 hos33 hr33 how hmc hsc9 hX hM hE HSS2 HOI HO31 HOS31 HR31 hmsc HMA2 hj HL2 HB2
              go_upto_region 29 with fail
              go_wp2_with fail
              (with_reducible refine KE.mono ?_)
              rintro e w5 ⟨ad5, cap5, rfl, o5, y5, b5⟩
              have R5 := Lib.hid ((b5.block r (by omega)).trans HR33.out)
              have S5 := Lib.hid ((b5.block bs (Array.getElem?_eq_some_iff.1 HSC.out).1).trans HSC.out)
              have M5 := Lib.hid ((b5.block bm (Array.getElem?_eq_some_iff.1 HMC.out).1).trans HMC.out)
              have B5 := Lib.hid (HBL.out.trans (b5.mono HBL.out.size))
              have O5 := Lib.hid (HOW.out.below b5)
              have hby := ownBytes o5 y5 (by omega)
              have KB2 := sameBytes_any ad5 L.length cap5 L ad n c l w5 hby (HH.out.below B5.out)
              clear KE o5 y5 b5 c0 c1 c2 c3 c4 c5 c6 c7 c8 c9' c10 c11 c12 c13 hby
              have c1 : w5.cell? ⟨bs, 1, none⟩ = some (.bool s2.bad) := cell_of_row _ _ 1 _ _ _ S5.out
              obtain ⟨FB, hFB⟩ : ∃ b, b = s2.bad := ⟨_, rfl⟩
              rw [← hFB] at c1
              have HFB := Lib.hid hFB
              clear hFB
              go_upto_region 30 with fail
              go_cut [153] (fun v wx => ∃ x : Bool, v = .bool x ∧ Hid (Below w5.heap.size w5 wx) ∧ Hid (x = true → D = (zeroM, 110)) ∧ Hid (x = false → D = (M, 0)))
              case first =>
                have hno : ¬ (s.fin.bad = false ∧ (encM s.msgV).2 = 0 ∧ (encM s.msgV).1 = l) → D = (zeroM, 110) := fun h => by rw [HDD.out, if_neg h]
                have HNO := Lib.hid hno
                clear hno
                cases FB with
                | true =>
                  have hx := HNO.out (fun h => by rw [HFIN.out, ← HFB.out] at h; cases h.1)
                  have HX := Lib.hid hx
                  clear hx KB2
                  go_wp2
                  go_meet
                  exact ⟨true, rfl, Lib.hid (Below.refl _ _), Lib.hid (fun _ => HX.out), Lib.hid (fun e => by cases e)⟩
                | false =>
                  by_cases hE0 : E = 0
                  · by_cases hLl : L = l
                    · have hyes : D = (M, 0) := by rw [HDD.out, if_pos ⟨by rw [HFIN.out]; exact HFB.out.symm, by rw [HMV.out, ← HE.out]; exact hE0, by rw [HMV.out, ← HE.out]; exact hLl⟩, HMV.out]
                      have HX := Lib.hid hyes
                      rw [decide_eq_true hLl] at KB2
                      clear hyes hLl
                      subst hE0
                      go_wp2_with fail
                      (with_reducible refine KB2.mono ?_)
                      rintro e wz ⟨rfl, bz⟩
                      have BZ := Lib.hid bz
                      clear bz
                      go_wp2
                      go_meet
                      exact ⟨false, rfl, BZ, Lib.hid (fun e => by cases e), Lib.hid (fun _ => HX.out)⟩
                    · have hx := HNO.out (fun h => by have := h.2.2; rw [HMV.out, ← HE.out] at this; exact hLl this)
                      have HX := Lib.hid hx
                      rw [decide_eq_false hLl] at KB2
                      clear hx hLl
                      subst hE0
                      go_wp2_with fail
                      (with_reducible refine KB2.mono ?_)
                      rintro e wz ⟨rfl, bz⟩
                      have BZ := Lib.hid bz
                      clear bz
                      go_wp2
                      go_meet
                      exact ⟨true, rfl, BZ, Lib.hid (fun _ => HX.out), Lib.hid (fun e => by cases e)⟩
                  · have hx := HNO.out (fun h => by have := h.2.1; rw [HMV.out, ← HE.out] at this; exact hE0 this)
                    have HX := Lib.hid hx
                    have hE1 : (E != 0) = true := bne_iff_ne.2 hE0
                    clear hx KB2
                    go_wp2
                    go_meet
                    exact ⟨true, rfl, Lib.hid (Below.refl _ _), Lib.hid (fun _ => HX.out), Lib.hid (fun e => by cases e)⟩
              case rest =>
                clear c1 KB2
                rename World => w6
                obtain ⟨x, rfl, B56, HT, HF⟩ := hcut
                have h5r := (B56.out.block r (Array.getElem?_eq_some_iff.1 R5.out).1).trans R5.out
                have R6 := Lib.hid h5r
                have M6 := Lib.hid ((B56.out.block bm (Array.getElem?_eq_some_iff.1 M5.out).1).trans M5.out)
                have B6 := Lib.hid (B5.out.trans (B56.out.mono B5.out.size))
                have O6 := Lib.hid (O5.out.below B56.out)
                obtain ⟨⟨d0, d1, d2, d3, d4, d5, d6⟩, d7, d8, d9, d10, d11, d12, d13⟩ := cells14 h5r
                have hfz : ∀ j, w6.frozen? ⟨r, j, none⟩ = false := fun _ => frozen_of_row _ _ _ _ _ h5r
                have hlow : ∀ WF : World, w6.grownBy WF (some r) → Below w.heap.size w WF := fun WF hg => B6.out.grown hg B6.out.size (fun q hq => by injection hq with hq; omega)
                have HLOW := Lib.hid hlow
                clear hlow h5r R5 M5 B5 O5 B56 S5
                cases x with
                | true =>
                  have hDZ := HT.out rfl
                  have HDZ := Lib.hid hDZ
                  clear hDZ HT HF
                  go_wp2_with fail
                  have hh := heap_setsFrom 0 Z14.toList R6.out (l' := Z14.toList) rfl
                  have hgr := grown_setsFrom (g := r) Z14.toList 0 w6
                  refine (?_ : ∀ WF : World, WF.heap[r]? = some (.cells Z14 MMT (0, 0)) → w6.grownBy WF (some r) → bodyPost _ _ _ _ _ WF) _ hh hgr
                  clear hh hgr
                  intro WF hh hgr
                  refine bodyPost_ret (results_msg rfl hh rfl _ rfl) (by rfl) ?_
                  rw [HDZ.out]
                  exact ⟨(none, 0, 0), none, 0, none, 0, rfl, zero_ow _ _, HLOW.out _ hgr⟩
                | false =>
                  have hDZ := HF.out rfl
                  have HDZ := Lib.hid hDZ
                  clear hDZ HT HF
                  obtain ⟨⟨c0, c1, c2, c3, c4, c5, c6⟩, c7, c8, c9', c10, c11, c12, c13⟩ := cells14 M6.out
                  have hqr : ¬ bm = r := by omega
                  go_wp2_with fail
                  have hh := heap_setsFrom 0 (MsC M (ta7, mn, tc7) av cv aw cw).toList R6.out (l' := (MsC M (ta7, mn, tc7) av cv aw cw).toList) rfl
                  have hgr := grown_setsFrom (g := r) (MsC M (ta7, mn, tc7) av cv aw cw).toList 0 w6
                  refine (?_ : ∀ WF : World, WF.heap[r]? = some (.cells (MsC M (ta7, mn, tc7) av cv aw cw) MMT (0, 0)) → w6.grownBy WF (some r) → bodyPost _ _ _ _ _ WF) _ hh hgr
                  clear hh hgr
                  intro WF hh hgr
                  refine bodyPost_ret (results_msg rfl hh rfl _ rfl) (by rfl) ?_
                  rw [HDZ.out]
                  exact ⟨(ta7, mn, tc7), av, cv, aw, cw, rfl, (O6.out.grown hgr (by omega)).rebase (by omega), HLOW.out _ hgr⟩
end Go.Proofs.YtopnjjehefaghaaDoor
