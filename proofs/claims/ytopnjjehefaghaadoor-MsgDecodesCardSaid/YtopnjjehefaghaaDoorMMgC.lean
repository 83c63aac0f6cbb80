/-
  msg: the writer's message.
-/
import Derived.Test.YtopnjjehefaghaaDoorMMgB
namespace Go.Proofs.YtopnjjehefaghaaDoor
open Go.RowKit

/-- an item as a value. -/
structure ItR where
  key : ByteArray
  m : MeR
deriving DecidableEq
def itemLE (i : ItR) : List Nat := (numLE i.key.size 1 ++ keyL i.key) ++ metaLE i.m
def symLE (p : Sy) : List Nat := numLE p.1.toNat 2 ++ numLE p.2.1.toNat 3 ++ (numLE p.2.2.length 1 ++ p.2.2)
/-- a message as a value. -/
structure MsR where
  k : Int
  f : Int
  t : Int
  op : Int
  cd : Int
  key : ByteArray
  m : MeR
  sy : List Sy
  it : List ItR
deriving DecidableEq
def headLE (M : MsR) : List Nat := numLE M.k.toNat 1 ++ numLE M.f.toNat 1 ++ numLE M.t.toNat 1 ++ numLE M.op.toNat 4 ++ numLE M.cd.toNat 4 ++ (numLE M.key.size 1 ++ keyL M.key) ++ metaLE M.m ++ numLE M.sy.length 2
def msgLE (M : MsR) : List Nat := headLE M ++ (M.sy.map symLE).flatten ++ numLE M.it.length 1 ++ (M.it.map itemLE).flatten
structure MsFits (M : MsR) : Prop where
  k0 : 0 ≤ M.k
  k1 : M.k ≤ 10
  f0 : 0 ≤ M.f
  f1 : M.f ≤ 11
  t0 : 0 ≤ M.t
  t1 : M.t ≤ 11
  o0 : 0 ≤ M.op
  o1 : M.op ≤ 2147483647
  d0 : 0 ≤ M.cd
  d1 : M.cd ≤ 2147483647
  ks : M.key.size ≤ 32
  mf : MeFits M.m
  sn : M.sy.length ≤ 512
  sf : ∀ p ∈ M.sy, 0 ≤ p.1 ∧ p.1 ≤ 1023 ∧ 0 ≤ p.2.1 ∧ p.2.1 < 16777216 ∧ p.2.2.length ≤ 64
  inn : M.it.length ≤ 100
  jf : ∀ i ∈ M.it, i.key.size ≤ 32 ∧ MeFits i.m
/-- an item in memory: seven cells. -/
structure ItAt (w : World) (b o : Nat) (i : ItR) (x : Option Addr × Nat × Nat) : Prop where
  c0 : w.cell? ⟨b, o, none⟩ = some (.string i.key)
  c1 : w.cell? ⟨b, o + 1, none⟩ = some (.int .i64 i.m.N)
  c2 : w.cell? ⟨b, o + 2, none⟩ = some (.int .i64 i.m.c)
  c3 : w.cell? ⟨b, o + 3, none⟩ = some (.int .i64 i.m.s)
  c4 : w.cell? ⟨b, o + 4, none⟩ = some (.int .i64 i.m.t)
  c5 : w.cell? ⟨b, o + 5, none⟩ = some (.bool i.m.d)
  c6 : w.cell? ⟨b, o + 6, none⟩ = some (.slice x.1 x.2.1 x.2.2)
  by_ : BytesV w x i.m.l
theorem ItAt.below {w w' : World} {b o : Nat} {i : ItR} {x : Option Addr × Nat × Nat} (h : ItAt w b o i x) (hb : Below w.heap.size w w') : ItAt w' b o i x :=
  ⟨cell_below h.c0 hb, cell_below h.c1 hb, cell_below h.c2 hb, cell_below h.c3 hb, cell_below h.c4 hb, cell_below h.c5 hb, cell_below h.c6 hb, h.by_.below hb⟩
structure ItV (w : World) (a : Option Addr) (n : Nat) (its : List ItR) : Prop where
  len : its.length = n
  ex : ∃ X : Nat → Option Addr × Nat × Nat, 0 < n → ∃ b o, a = some ⟨b, o, none⟩ ∧ ∀ i it, its[i]? = some it → ItAt w b (o + i * 7) it (X i)
theorem ItV.below {w w' : World} {a : Option Addr} {n : Nat} {its : List ItR} (h : ItV w a n its) (hb : Below w.heap.size w w') : ItV w' a n its := by
  obtain ⟨h1, X, hx⟩ := h
  refine ⟨h1, X, fun h0 => ?_⟩
  obtain ⟨b, o, e, hc⟩ := hx h0
  exact ⟨b, o, e, fun i it hi => (hc i it hi).below hb⟩
theorem ItV.at {w : World} {a : Option Addr} {n i : Nat} {its : List ItR} (h : ItV w a n its) (hi : i < n) : ∃ b o it x, a = some ⟨b, o, none⟩ ∧ its[i]? = some it ∧ ItAt w b (o + i * 7) it x := by
  obtain ⟨h1, X, hx⟩ := h
  obtain ⟨b, o, e, hc⟩ := hx (by omega)
  have hit : its[i]? = some its[i] := List.getElem?_eq_getElem (by omega)
  exact ⟨b, o, _, X i, e, hit, hc i _ hit⟩
abbrev MMT : TypeId := 30
abbrev IT7 : TypeId := 53
/-- a message's cells. -/
abbrev MsC (M : MsR) (x : Option Addr × Nat × Nat) (sa : Option Addr) (sc : Nat) (ia : Option Addr) (ic : Nat) : Array Value := #[.int .i64 M.k, .int .i64 M.f, .int .i64 M.t, .int .i64 M.op, .int .i64 M.cd, .string M.key, .int .i64 M.m.N, .int .i64 M.m.c, .int .i64 M.m.s, .int .i64 M.m.t, .bool M.m.d, .slice x.1 x.2.1 x.2.2, .slice sa M.sy.length sc, .slice ia M.it.length ic]
structure MsV (w : World) (M : MsR) (x : Option Addr × Nat × Nat) (sa : Option Addr) (ia : Option Addr) : Prop where
  x : BytesV w x M.m.l
  s : SyV w sa M.sy.length M.sy
  i : ItV w ia M.it.length M.it
theorem MsV.below {w w' : World} {M : MsR} {x : Option Addr × Nat × Nat} {sa ia : Option Addr} (h : MsV w M x sa ia) (hb : Below w.heap.size w w') : MsV w' M x sa ia := ⟨h.x.below hb, h.s.below hb, h.i.below hb⟩
theorem cells14 {w : World} {b : Nat} {v0 v1 v2 v3 v4 v5 v6 v7 v8 v9 v10 v11 v12 v13 : Value} {T : TypeId} (h : w.heap[b]? = some (.cells #[v0, v1, v2, v3, v4, v5, v6, v7, v8, v9, v10, v11, v12, v13] T (0, 0))) : (w.cell? ⟨b, 0, none⟩ = some v0 ∧ w.cell? ⟨b, 1, none⟩ = some v1 ∧ w.cell? ⟨b, 2, none⟩ = some v2 ∧ w.cell? ⟨b, 3, none⟩ = some v3 ∧ w.cell? ⟨b, 4, none⟩ = some v4 ∧ w.cell? ⟨b, 5, none⟩ = some v5 ∧ w.cell? ⟨b, 6, none⟩ = some v6) ∧ w.cell? ⟨b, 7, none⟩ = some v7 ∧ w.cell? ⟨b, 8, none⟩ = some v8 ∧ w.cell? ⟨b, 9, none⟩ = some v9 ∧ w.cell? ⟨b, 10, none⟩ = some v10 ∧ w.cell? ⟨b, 11, none⟩ = some v11 ∧ w.cell? ⟨b, 12, none⟩ = some v12 ∧ w.cell? ⟨b, 13, none⟩ = some v13 :=
  ⟨⟨cell_of_row _ _ 0 _ _ _ h, cell_of_row _ _ 1 _ _ _ h, cell_of_row _ _ 2 _ _ _ h, cell_of_row _ _ 3 _ _ _ h, cell_of_row _ _ 4 _ _ _ h, cell_of_row _ _ 5 _ _ _ h, cell_of_row _ _ 6 _ _ _ h⟩, cell_of_row _ _ 7 _ _ _ h, cell_of_row _ _ 8 _ _ _ h, cell_of_row _ _ 9 _ _ _ h, cell_of_row _ _ 10 _ _ _ h, cell_of_row _ _ 11 _ _ _ h, cell_of_row _ _ 12 _ _ _ h, cell_of_row _ _ 13 _ _ _ h⟩
theorem flat_snoc {α : Type} (f : α → List Nat) (l : List α) (k : Nat) (x : α) (h : l[k]? = some x) : ((l.take (k + 1)).map f).flatten = ((l.take k).map f).flatten ++ f x := by
  rw [take_step l k x h, List.map_append, List.flatten_append]
  simp
theorem flat_le {α : Type} (f : α → List Nat) (B : Nat) : ∀ (l : List α), (∀ x ∈ l, (f x).length ≤ B) → ((l.map f).flatten).length ≤ l.length * B
  | [], _ => by simp
  | x :: l, h => by
    have h1 := flat_le f B l (fun y hy => h y (List.mem_cons_of_mem _ hy))
    have h2 := h x List.mem_cons_self
    simp only [List.map_cons, List.flatten_cons, List.length_append, List.length_cons]
    rw [Nat.succ_mul]
    omega
/-- what the message's writer works on. -/
structure MW (wm W : World) (b g : Nat) (cs : Array Value) (L : List Nat) : Prop where
  gr : Gr W b L
  bel : Below wm.heap.size wm W
  hh : W.heap[g]? = some (.cells cs MMT (0, 0))
theorem MW.ku {wm W W' : World} {b g : Nat} {cs : Array Value} {L L' : List Nat} (h : MW wm W b g cs L) (hk : KU W W' b) (hg : Gr W' b L') (hne : g ≠ b) (hlt : wm.heap.size ≤ b) : MW wm W' b g cs L' :=
  ⟨hg, h.bel.trans (hk.below hlt h.bel.size), hk.box h.hh hne (by decide)⟩
theorem MW.below {wm W W' : World} {b g : Nat} {cs : Array Value} {L : List Nat} (h : MW wm W b g cs L) (hb : Below W.heap.size W W') : MW wm W' b g cs L :=
  ⟨h.gr.below hb, h.bel.trans (hb.mono h.bel.size), (hb.block _ (Array.getElem?_eq_some_iff.1 h.hh).1).trans h.hh⟩
set_option maxRecDepth 100000 in
set_option maxHeartbeats 16000000 in
theorem gmsg_any (b : Nat) (M : MsR) (x : Option Addr × Nat × Nat) (sa : Option Addr) (sc : Nat) (ia : Option Addr) (ic : Nat) (wm w : World) (hV : Gr w b []) (hbm : Below wm.heap.size wm w) (hlt : wm.heap.size ≤ b) (hf : MsFits M) (hM : MsV wm M x sa ia) :
    Calls Tryd.prog 29 #[.pointer (some ⟨b, 0, none⟩), .agg (MsC M x sa sc ia ic)] w fun e w' => e = .returned (.tuple #[]) ∧ Gr w' b (msgLE M) ∧ KU w w' b := by
  obtain ⟨k, f, t, op, cd, key, m, sy, it⟩ := M
  obtain ⟨xa, xn, xc⟩ := x
  obtain ⟨k0, k1, f0, f1, t0, t1, o0, o1, d0, d1, ks, mf, sn, sf, inn, jf⟩ := hf
  simp only at k0 k1 f0 f1 t0 t1 o0 o1 d0 d1 ks mf sn sf inn jf
  have hMx : BytesV wm (xa, xn, xc) m.l := hM.x
  have hMs : SyV wm sa sy.length sy := hM.s
  have hMi : ItV wm ia it.length it := hM.i
  obtain ⟨SN, hSN⟩ : ∃ n, n = sy.length := ⟨_, rfl⟩
  obtain ⟨IN, hIN⟩ : ∃ n, n = it.length := ⟨_, rfl⟩
  simp only [← hSN] at hMs sn
  simp only [← hIN] at hMi inn
  have hlx : 0 < xn → ∀ a, xa = some a → a.block < b := fun h0 a ha => Nat.lt_of_lt_of_le (hMx.row.lt h0 ha) hlt
  obtain ⟨cs, hcs⟩ : ∃ cs : Array Value, cs = #[.int .i64 k, .int .i64 f, .int .i64 t, .int .i64 op, .int .i64 cd, .string key, .int .i64 m.N, .int .i64 m.c, .int .i64 m.s, .int .i64 m.t, .bool m.d, .slice xa xn xc, .slice sa SN sc, .slice ia IN ic] := ⟨_, rfl⟩
  have hcs2 : MsC ⟨k, f, t, op, cd, key, m, sy, it⟩ (xa, xn, xc) sa sc ia ic = cs := by rw [hcs, hSN, hIN]
  rw [hcs2]
  have h14 : ∀ V : World, V.heap[w.heap.size]? = some (.cells cs MMT (0, 0)) → _ := fun V hh => cells14 (show V.heap[w.heap.size]? = some (.cells #[.int .i64 k, .int .i64 f, .int .i64 t, .int .i64 op, .int .i64 cd, .string key, .int .i64 m.N, .int .i64 m.c, .int .i64 m.s, .int .i64 m.t, .bool m.d, .slice xa xn xc, .slice sa SN sc, .slice ia IN ic] MMT (0, 0)) by rw [hh, hcs])
  have H14 := Lib.hid h14
  have hgb : w.heap.size ≠ b := by have := hV.lt; omega
  obtain ⟨L0, hL0⟩ : ∃ L : List Nat, L = [] := ⟨_, rfl⟩
  rw [← hL0] at hV
  have hl0 : L0.length ≤ 0 := by rw [hL0]; simp
  have h0 : MW wm (w.alloc (.cells cs MMT)) b w.heap.size cs L0 := ⟨hV.below (below_alloc w _), hbm.trans ((below_alloc w _).mono hbm.size), heap_alloc_new w _⟩
  have k0' : KU w (w.alloc (.cells cs MMT)) b := KU.of_below (below_alloc w _)
  have HMX := Lib.hid hMx
  have HMS := Lib.hid hMs
  have HMI := Lib.hid hMi
  have HSN := Lib.hid hSN
  have HIN := Lib.hid hIN
  have HSF := Lib.hid sf
  have HJF := Lib.hid jf
  have HLX := Lib.hid hlx
  have HMF := Lib.hid mf
  have HL0 := Lib.hid hL0
  have hm12 : (metaLE m).length ≤ 44 := by rw [metaLE_len]; have := mf.l32; omega
  have hxn : xn ≤ 32 := by have := hMx.length; have := mf.l32; simp only at *; omega
  clear hM hMx hMs hMi hcs2 h14 hV hbm sf jf hlx mf hSN hIN hL0
  go_enter Tryd.func29, Tryd.ntmps29
  go_upto_region 1 with fail
  obtain ⟨w0, hw0⟩ : ∃ w0, w0 = w.alloc (.cells cs MMT) := ⟨_, rfl⟩
  rw [← hw0] at h0 k0'
  rw [hcs] at hw0
  rw [← hw0]
  have HK0 := Lib.hid k0'
  have HW0 := Lib.hid h0
  clear k0' h0 hw0 hcs
  obtain ⟨⟨c0, c1, c2, c3, c4, c5, c6⟩, c7, c8, c9, c10, c11, c12, c13⟩ := H14.out _ HW0.out.hh
  have KN := gnum_any b k.toNat 1 L0 w0 HW0.out.gr (by omega) (by omega) (by omega) 1 rfl k (Int.toNat_of_nonneg (by omega))
  go_wp2_with fail
  (with_reducible refine KN.mono ?_)
  rintro e w1 ⟨rfl, hV, hK⟩
  obtain ⟨L1, hL1⟩ : ∃ L, L = L0 ++ numLE k.toNat 1 := ⟨_, rfl⟩
  have hl1 : L1.length ≤ 1 := by rw [hL1]; simp only [List.length_append, numLE_len]; omega
  rw [← hL1] at hV
  have HW1 := Lib.hid (HW0.out.ku hK hV hgb hlt)
  have HK1 := Lib.hid (HK0.out.trans hK)
  have HL1 := Lib.hid hL1
  clear c0 c1 c2 c3 c4 c5 c6 c7 c8 c9 c10 c11 c12 c13 KN hV hK hL1
  obtain ⟨⟨c0, c1, c2, c3, c4, c5, c6⟩, c7, c8, c9, c10, c11, c12, c13⟩ := H14.out _ HW1.out.hh
  have KN := gnum_any b f.toNat 1 L1 w1 HW1.out.gr (by omega) (by omega) (by omega) 1 rfl f (Int.toNat_of_nonneg (by omega))
  go_wp2_with fail
  (with_reducible refine KN.mono ?_)
  rintro e w2 ⟨rfl, hV, hK⟩
  obtain ⟨L2, hL2⟩ : ∃ L, L = L1 ++ numLE f.toNat 1 := ⟨_, rfl⟩
  have hl2 : L2.length ≤ 2 := by rw [hL2]; simp only [List.length_append, numLE_len]; omega
  rw [← hL2] at hV
  have HW2 := Lib.hid (HW1.out.ku hK hV hgb hlt)
  have HK2 := Lib.hid (HK1.out.trans hK)
  have HL2 := Lib.hid hL2
  clear c0 c1 c2 c3 c4 c5 c6 c7 c8 c9 c10 c11 c12 c13 KN hV hK hL2
  obtain ⟨⟨c0, c1, c2, c3, c4, c5, c6⟩, c7, c8, c9, c10, c11, c12, c13⟩ := H14.out _ HW2.out.hh
  have KN := gnum_any b t.toNat 1 L2 w2 HW2.out.gr (by omega) (by omega) (by omega) 1 rfl t (Int.toNat_of_nonneg (by omega))
  go_wp2_with fail
  (with_reducible refine KN.mono ?_)
  rintro e w3 ⟨rfl, hV, hK⟩
  obtain ⟨L3, hL3⟩ : ∃ L, L = L2 ++ numLE t.toNat 1 := ⟨_, rfl⟩
  have hl3 : L3.length ≤ 3 := by rw [hL3]; simp only [List.length_append, numLE_len]; omega
  rw [← hL3] at hV
  have HW3 := Lib.hid (HW2.out.ku hK hV hgb hlt)
  have HK3 := Lib.hid (HK2.out.trans hK)
  have HL3 := Lib.hid hL3
  clear c0 c1 c2 c3 c4 c5 c6 c7 c8 c9 c10 c11 c12 c13 KN hV hK hL3
  obtain ⟨⟨c0, c1, c2, c3, c4, c5, c6⟩, c7, c8, c9, c10, c11, c12, c13⟩ := H14.out _ HW3.out.hh
  have KN := gnum_any b op.toNat 4 L3 w3 HW3.out.gr (by omega) (by omega) (by omega) 4 rfl op (Int.toNat_of_nonneg (by omega))
  go_wp2_with fail
  (with_reducible refine KN.mono ?_)
  rintro e w4 ⟨rfl, hV, hK⟩
  obtain ⟨L4, hL4⟩ : ∃ L, L = L3 ++ numLE op.toNat 4 := ⟨_, rfl⟩
  have hl4 : L4.length ≤ 7 := by rw [hL4]; simp only [List.length_append, numLE_len]; omega
  rw [← hL4] at hV
  have HW4 := Lib.hid (HW3.out.ku hK hV hgb hlt)
  have HK4 := Lib.hid (HK3.out.trans hK)
  have HL4 := Lib.hid hL4
  clear c0 c1 c2 c3 c4 c5 c6 c7 c8 c9 c10 c11 c12 c13 KN hV hK hL4
  obtain ⟨⟨c0, c1, c2, c3, c4, c5, c6⟩, c7, c8, c9, c10, c11, c12, c13⟩ := H14.out _ HW4.out.hh
  have KN := gnum_any b cd.toNat 4 L4 w4 HW4.out.gr (by omega) (by omega) (by omega) 4 rfl cd (Int.toNat_of_nonneg (by omega))
  go_wp2_with fail
  (with_reducible refine KN.mono ?_)
  rintro e w5 ⟨rfl, hV, hK⟩
  obtain ⟨L5, hL5⟩ : ∃ L, L = L4 ++ numLE cd.toNat 4 := ⟨_, rfl⟩
  have hl5 : L5.length ≤ 11 := by rw [hL5]; simp only [List.length_append, numLE_len]; omega
  rw [← hL5] at hV
  have HW5 := Lib.hid (HW4.out.ku hK hV hgb hlt)
  have HK5 := Lib.hid (HK4.out.trans hK)
  have HL5 := Lib.hid hL5
  clear c0 c1 c2 c3 c4 c5 c6 c7 c8 c9 c10 c11 c12 c13 KN hV hK hL5
  obtain ⟨⟨c0, c1, c2, c3, c4, c5, c6⟩, c7, c8, c9, c10, c11, c12, c13⟩ := H14.out _ HW5.out.hh
  have hcv := run_bytes_of_string (P := Tryd.prog) w5 9 24 5 key Tryd.underlying9 Tryd.underlying24 Tryd.underlying5
  obtain ⟨kc, hkc⟩ : ∃ c, c = grownCap w5 key.size 0 5 := ⟨_, rfl⟩
  rw [← hkc] at hcv
  obtain ⟨wk, hwk⟩ : ∃ x, x = w5.drew.alloc (.cells (bytesRow key kc) 5 ((bytesRow key kc).size, (bytesRow key kc).size + 1)) := ⟨_, rfl⟩
  have hbk : Below w5.heap.size w5 wk := by rw [hwk]; exact ((Below.refl w5.heap.size w5).drew).alloc (Nat.le_refl _) _
  have hkc2 : key.size ≤ kc := by rw [hkc]; exact grownCap_leM w5 _ _
  have hhk : wk.heap[w5.heap.size]? = some (.cells (bytesRow key kc) 5 ((bytesRow key kc).size, (bytesRow key kc).size + 1)) := by rw [hwk]; exact heap_alloc_new w5.drew _
  have hbyk : BytesV wk (some ⟨w5.heap.size, 0, none⟩, key.size, kc) (keyL key) := key_bytesV hhk hkc2 (by omega)
  rw [← hwk] at hcv
  have KN := gtext_any b L5 w5 wk HW5.out.gr hbk (by omega) (some ⟨w5.heap.size, 0, none⟩) key.size kc (keyL key) hbyk (by omega) (fun _ a ha => .inr (by injection ha with ha; rw [← ha]; exact Nat.le_refl _))
  have hKk : KU w5 wk b := KU.of_below hbk
  clear hkc hhk hbyk hkc2 hwk
  go_wp2_with fail
  (with_reducible refine KN.mono ?_)
  rintro e w6 ⟨rfl, hV, hK0⟩
  have hK := hKk.trans hK0
  clear hcv hK0 hKk
  obtain ⟨L6, hL6⟩ : ∃ L, L = L5 ++ (numLE key.size 1 ++ keyL key) := ⟨_, rfl⟩
  have hl6 : L6.length ≤ 44 := by rw [hL6]; simp only [List.length_append, numLE_len, keyL_len]; omega
  rw [← hL6] at hV
  have HW6 := Lib.hid (HW5.out.ku hK hV hgb hlt)
  have HK6 := Lib.hid (HK5.out.trans hK)
  have HL6 := Lib.hid hL6
  clear c0 c1 c2 c3 c4 c5 c6 c7 c8 c9 c10 c11 c12 c13 KN hV hK hL6 hbk
  obtain ⟨⟨c0, c1, c2, c3, c4, c5, c6⟩, c7, c8, c9, c10, c11, c12, c13⟩ := H14.out _ HW6.out.hh
  have KN := gmeta_any b L6 m xa xn xc w6 HW6.out.gr (by omega) HMF.out (HMX.out.below HW6.out.bel) HLX.out
  go_wp2_with fail
  (with_reducible refine KN.mono ?_)
  rintro e w7 ⟨rfl, hV, hK⟩
  obtain ⟨L7, hL7⟩ : ∃ L, L = L6 ++ metaLE m := ⟨_, rfl⟩
  have hl7 : L7.length ≤ 88 := by rw [hL7]; simp only [List.length_append]; omega
  rw [← hL7] at hV
  have HW7 := Lib.hid (HW6.out.ku hK hV hgb hlt)
  have HK7 := Lib.hid (HK6.out.trans hK)
  have HL7 := Lib.hid hL7
  clear c0 c1 c2 c3 c4 c5 c6 c7 c8 c9 c10 c11 c12 c13 KN hV hK hL7
  obtain ⟨⟨c0, c1, c2, c3, c4, c5, c6⟩, c7, c8, c9, c10, c11, c12, c13⟩ := H14.out _ HW7.out.hh
  have KN := gnum_any b SN 2 L7 w7 HW7.out.gr (by omega) (by omega) (by omega) 2 rfl _ rfl
  go_wp2_with fail
  (with_reducible refine KN.mono ?_)
  rintro e w8 ⟨rfl, hV, hK⟩
  obtain ⟨L8, hL8⟩ : ∃ L, L = L7 ++ numLE SN 2 := ⟨_, rfl⟩
  have hl8 : L8.length ≤ 90 := by rw [hL8]; simp only [List.length_append, numLE_len]; omega
  rw [← hL8] at hV
  have HW8 := Lib.hid (HW7.out.ku hK hV hgb hlt)
  have HK8 := Lib.hid (HK7.out.trans hK)
  have HL8 := Lib.hid hL8
  clear c0 c1 c2 c3 c4 c5 c6 c7 c8 c9 c10 c11 c12 c13 KN hV hK hL8
  obtain ⟨⟨c0, c1, c2, c3, c4, c5, c6⟩, c7, c8, c9, c10, c11, c12, c13⟩ := H14.out _ HW8.out.hh
  have hsl : sy.length = SN := HSN.out.symm
  have HSL := Lib.hid hsl
  obtain ⟨C8, hC8⟩ : ∃ C, C = L8 := ⟨_, rfl⟩
  have HS8 : Hid (MW wm w8 b w.heap.size cs (L8 ++ ((sy.take 0).map symLE).flatten)) := Lib.hid (by simpa using HW8.out)
  clear HW8 hsl hC8
  go_wp2
  go_loopw [45] (fun v wr => ∃ i : Nat, i ≤ SN ∧ v = .int .i64 (i : Nat) ∧ Hid (MW wm wr b w.heap.size cs (L8 ++ ((sy.take i).map symLE).flatten)) ∧ Hid (KU w wr b)) (fun v _ => SN - (intOf v).toNat)
  case atStart => exact ⟨0, by omega, rfl, HS8, HK8⟩
  case round =>
    clear HS8 HK8 c0 c1 c2 c3 c4 c5 c6 c7 c8 c9 c10 c11 c12 c13
    obtain ⟨i, hi, rfl, HS, HK⟩ := hrel
    by_cases hlt2 : i < SN
    · obtain ⟨q, off, z, e, a2, n2, c2, l2, rfl, s0, s1, s2, hpi, hby⟩ := HMS.out.at hlt2
      have HB := Lib.hid (HS.out.bel)
      have q0 := cell_below s0 HB.out
      have q1 := cell_below s1 HB.out
      have q2 := cell_below s2 HB.out
      obtain ⟨z0, z1, e0, e1, l64⟩ := HSF.out _ (List.mem_of_getElem? hpi)
      simp only at z0 z1 e0 e1 l64
      have hn2 : l2.length = n2 := hby.length
      have hl2 : 0 < n2 → ∀ a, a2 = some a → a.block < b := fun h0 a ha => Nat.lt_of_lt_of_le (hby.row.lt h0 ha) hlt
      obtain ⟨LI, hLI⟩ : ∃ L, L = L8 ++ ((sy.take i).map symLE).flatten := ⟨_, rfl⟩
      have hLIl : LI.length ≤ 100000 := by
        have hfl := flat_le symLE 70 (sy.take i) (fun p hp => by
          have := (HSF.out p (List.mem_of_mem_take hp)).2.2.2.2
          simp only [symLE, List.length_append, numLE_len]; omega)
        have : (sy.take i).length ≤ 512 := by rw [List.length_take]; omega
        rw [hLI, List.length_append]
        omega
      have hstep := flat_snoc symLE sy i _ hpi
      rw [← hLI] at HS
      have HST := Lib.hid (show L8 ++ ((sy.take (i + 1)).map symLE).flatten = LI ++ numLE z.toNat 2 ++ numLE e.toNat 3 ++ (numLE n2 1 ++ l2) by
        rw [hstep, hLI, ← hn2]
        simp [symLE])
      have hb1 := below_alloc wr (.cells #[.int .i64 z, .int .i64 e, .slice a2 n2 c2] ST3)
      have r1 := heap_alloc_new wr (.cells #[.int .i64 z, .int .i64 e, .slice a2 n2 c2] ST3)
      have hW1 := HS.out.below hb1
      have hk1 : KU wr (wr.alloc (.cells #[.int .i64 z, .int .i64 e, .slice a2 n2 c2] ST3)) b := KU.of_below hb1
      obtain ⟨w1, hw1⟩ : ∃ x, x = wr.alloc (.cells #[.int .i64 z, .int .i64 e, .slice a2 n2 c2] ST3) := ⟨_, rfl⟩
      rw [← hw1] at r1 hW1 hk1
      have hgb1 : wr.heap.size ≠ b := by have := HS.out.gr.lt; omega
      have HBY := Lib.hid hby
      have HHW1 := Lib.hid hw1
      have HHW := Lib.hid hW1
      have HHK := Lib.hid hk1
      have i0 : (0 : Int) ≤ (i : Int) := by omega
      clear hpi hby hLI hstep s0 s1 s2 hb1 hw1 hW1 hk1 hn2
      go_upto_region 12 with fail
      rw [← HHW1.out]
      have d0 : w1.cell? ⟨wr.heap.size, 0, none⟩ = some (.int .i64 z) := cell_of_row _ _ 0 _ _ _ r1
      have KN := gnum_any b z.toNat 2 LI w1 HHW.out.gr (by omega) (by omega) (by omega) 2 rfl z (Int.toNat_of_nonneg (by omega))
      go_wp2_with fail
      (with_reducible refine KN.mono ?_)
      rintro e' w2 ⟨rfl, hV, hK⟩
      have r2 := hK.box r1 hgb1 (by decide)
      have HW2 := Lib.hid (HHW.out.ku hK hV hgb hlt)
      have HK2 := Lib.hid (HHK.out.trans hK)
      have d1 : w2.cell? ⟨wr.heap.size, 1, none⟩ = some (.int .i64 e) := cell_of_row _ _ 1 _ _ _ r2
      clear KN hV hK d0 r1
      have KN := gnum_any b e.toNat 3 (LI ++ numLE z.toNat 2) w2 HW2.out.gr (by omega) (by simp only [List.length_append, numLE_len]; omega) (by omega) 3 rfl e (Int.toNat_of_nonneg (by omega))
      go_wp2_with fail
      (with_reducible refine KN.mono ?_)
      rintro e' w3 ⟨rfl, hV, hK⟩
      have r3 := hK.box r2 hgb1 (by decide)
      have HW3 := Lib.hid (HW2.out.ku hK hV hgb hlt)
      have HK3 := Lib.hid (HK2.out.trans hK)
      have d2 : w3.cell? ⟨wr.heap.size, 2, none⟩ = some (.slice a2 n2 c2) := cell_of_row _ _ 2 _ _ _ r3
      clear KN hV hK d1 r2
      have KN := gtext_any b (LI ++ numLE z.toNat 2 ++ numLE e.toNat 3) w3 w3 HW3.out.gr (Below.refl _ _) (by simp only [List.length_append, numLE_len]; omega) a2 n2 c2 l2 (HBY.out.below HW3.out.bel) (by have := HBY.out.length; simp only at this; omega) (fun h0 a ha => .inl (hl2 h0 a ha))
      go_wp2_with fail
      (with_reducible refine KN.mono ?_)
      rintro e' w4 ⟨rfl, hV, hK⟩
      have HW4 := Lib.hid (show MW wm w4 b w.heap.size cs (L8 ++ ((sy.take (i + 1)).map symLE).flatten) by rw [HST.out]; exact HW3.out.ku hK hV hgb hlt)
      have HK4 := Lib.hid (HK.out.trans (HK3.out.trans hK))
      clear KN hV hK d2 r3
      go_wp2
      go_roundw
      case rel => exact ⟨i + 1, by omega, by go_num, HW4, HK4⟩
      case measure => simp [intOf] <;> omega
    · obtain rfl : i = SN := by omega
      rw [List.take_of_length_le (by rw [HSL.out]; exact Nat.le_refl _)] at HS
      obtain ⟨L9, hL9⟩ : ∃ L, L = L8 ++ (sy.map symLE).flatten := ⟨_, rfl⟩
      have hl9 : L9.length ≤ 50000 := by
        have hfl := flat_le symLE 70 sy (fun p hp => by
          have := (HSF.out p hp).2.2.2.2
          simp only [symLE, List.length_append, numLE_len]; omega)
        rw [hL9, List.length_append]
        have := HSL.out
        omega
      rw [← hL9] at HS
      have HL9 := Lib.hid hL9
      clear hL9 hlt2 hi
      obtain ⟨⟨c0, c1, c2, c3, c4, c5, c6⟩, c7, c8, c9, c10, c11, c12, c13⟩ := H14.out _ HS.out.hh
      have KN := gnum_any b IN 1 L9 wr HS.out.gr (by omega) (by omega) (by omega) 1 rfl _ rfl
      go_wp2_with fail
      (with_reducible refine KN.mono ?_)
      rintro e w10 ⟨rfl, hV, hK⟩
      obtain ⟨L10, hL10⟩ : ∃ L, L = L9 ++ numLE IN 1 := ⟨_, rfl⟩
      have hl10 : L10.length ≤ 50001 := by rw [hL10]; simp only [List.length_append, numLE_len]; omega
      rw [← hL10] at hV
      have HW10 := Lib.hid (HS.out.ku hK hV hgb hlt)
      have HK10 := Lib.hid (HK.out.trans hK)
      have HL10 := Lib.hid hL10
      clear c0 c1 c2 c3 c4 c5 c6 c7 c8 c9 c10 c11 c12 c13 KN hV hK hL10 HS HK
      obtain ⟨⟨c0, c1, c2, c3, c4, c5, c6⟩, c7, c8, c9, c10, c11, c12, c13⟩ := H14.out _ HW10.out.hh
      have hil : it.length = IN := HIN.out.symm
      have HIL := Lib.hid hil
      have HS10 : Hid (MW wm w10 b w.heap.size cs (L10 ++ ((it.take 0).map itemLE).flatten)) := Lib.hid (by simpa using HW10.out)
      clear HW10 hil
      go_wp2
      go_loopw [70] (fun v wr => ∃ i : Nat, i ≤ IN ∧ v = .int .i64 (i : Nat) ∧ Hid (MW wm wr b w.heap.size cs (L10 ++ ((it.take i).map itemLE).flatten)) ∧ Hid (KU w wr b)) (fun v _ => IN - (intOf v).toNat)
      case atStart => exact ⟨0, by omega, rfl, HS10, HK10⟩
      case round =>
        clear HS10 HK10 c0 c1 c2 c3 c4 c5 c6 c7 c8 c9 c10 c11 c12 c13
        rename World => wq
        obtain ⟨i, hi, rfl, HS, HK⟩ := hrel
        by_cases hlt3 : i < IN
        · obtain ⟨q, off, y, ⟨ya, yn, yc⟩, rfl, hpi, hat⟩ := HMI.out.at hlt3
          obtain ⟨jk, jm⟩ := HJF.out _ (List.mem_of_getElem? hpi)
          obtain ⟨ykey, ym⟩ := y
          simp only at jk jm
          have hat' := hat.below HS.out.bel
          obtain ⟨p0, p1, p2, p3, p4, p5, p6, hby⟩ := hat'
          simp only at p0 p1 p2 p3 p4 p5 p6 hby
          have hby0 : BytesV wm (ya, yn, yc) ym.l := hat.by_
          have hyn : yn ≤ 32 := by have := hby0.length; have := jm.l32; simp only at *; omega
          have hly : 0 < yn → ∀ a, ya = some a → a.block < b := fun h0 a ha => Nat.lt_of_lt_of_le (hby0.row.lt h0 ha) hlt
          have HLY := Lib.hid hly
          have HJM := Lib.hid jm
          have HBY := Lib.hid hby0
          obtain ⟨LI, hLI⟩ : ∃ L, L = L10 ++ ((it.take i).map itemLE).flatten := ⟨_, rfl⟩
          have hLIl : LI.length ≤ 100000 := by
            have hfl := flat_le itemLE 80 (it.take i) (fun p hp => by
              have h1 := HJF.out p (List.mem_of_mem_take hp)
              have h2 := h1.2.l32
              simp only [itemLE, List.length_append, numLE_len, keyL_len, metaLE_len]; omega)
            have : (it.take i).length ≤ 100 := by rw [List.length_take]; omega
            rw [hLI, List.length_append]
            omega
          have hstep := flat_snoc itemLE it i _ hpi
          rw [← hLI] at HS
          have HST := Lib.hid (show L10 ++ ((it.take (i + 1)).map itemLE).flatten = LI ++ (numLE ykey.size 1 ++ keyL ykey) ++ metaLE ym by
            rw [hstep, hLI]
            simp [itemLE])
          have hb1 := below_alloc wq (.cells #[.string ykey, .int .i64 ym.N, .int .i64 ym.c, .int .i64 ym.s, .int .i64 ym.t, .bool ym.d, .slice ya yn yc] IT7)
          have r1 := heap_alloc_new wq (.cells #[.string ykey, .int .i64 ym.N, .int .i64 ym.c, .int .i64 ym.s, .int .i64 ym.t, .bool ym.d, .slice ya yn yc] IT7)
          have hW1 := HS.out.below hb1
          have hk1 : KU wq (wq.alloc (.cells #[.string ykey, .int .i64 ym.N, .int .i64 ym.c, .int .i64 ym.s, .int .i64 ym.t, .bool ym.d, .slice ya yn yc] IT7)) b := KU.of_below hb1
          obtain ⟨w1, hw1⟩ : ∃ x, x = wq.alloc (.cells #[.string ykey, .int .i64 ym.N, .int .i64 ym.c, .int .i64 ym.s, .int .i64 ym.t, .bool ym.d, .slice ya yn yc] IT7) := ⟨_, rfl⟩
          rw [← hw1] at r1 hW1 hk1
          have hgb1 : wq.heap.size ≠ b := by have := HS.out.gr.lt; omega
          have HHW1 := Lib.hid hw1
          have HHW := Lib.hid hW1
          have HHK := Lib.hid hk1
          have i0 : (0 : Int) ≤ (i : Int) := by omega
          clear hpi hby hby0 hLI hstep hb1 hw1 hW1 hk1 hat jm hly
          go_upto_region 20 with fail
          rw [← HHW1.out]
          have e0 : w1.cell? ⟨wq.heap.size, 0, none⟩ = some (.string ykey) := cell_of_row _ _ 0 _ _ _ r1
          have hcv := run_bytes_of_string (P := Tryd.prog) w1 9 24 5 ykey Tryd.underlying9 Tryd.underlying24 Tryd.underlying5
          obtain ⟨kc, hkc⟩ : ∃ c, c = grownCap w1 ykey.size 0 5 := ⟨_, rfl⟩
          rw [← hkc] at hcv
          obtain ⟨wk, hwk⟩ : ∃ x, x = w1.drew.alloc (.cells (bytesRow ykey kc) 5 ((bytesRow ykey kc).size, (bytesRow ykey kc).size + 1)) := ⟨_, rfl⟩
          have hbk : Below w1.heap.size w1 wk := by rw [hwk]; exact ((Below.refl w1.heap.size w1).drew).alloc (Nat.le_refl _) _
          have hkc2 : ykey.size ≤ kc := by rw [hkc]; exact grownCap_leM w1 _ _
          have hhk : wk.heap[w1.heap.size]? = some (.cells (bytesRow ykey kc) 5 ((bytesRow ykey kc).size, (bytesRow ykey kc).size + 1)) := by rw [hwk]; exact heap_alloc_new w1.drew _
          have hbyk : BytesV wk (some ⟨w1.heap.size, 0, none⟩, ykey.size, kc) (keyL ykey) := key_bytesV hhk hkc2 (by omega)
          rw [← hwk] at hcv
          have KN := gtext_any b LI w1 wk HHW.out.gr hbk (by omega) (some ⟨w1.heap.size, 0, none⟩) ykey.size kc (keyL ykey) hbyk (by omega) (fun _ a ha => .inr (by injection ha with ha; rw [← ha]; exact Nat.le_refl _))
          have hKk : KU w1 wk b := KU.of_below hbk
          clear hkc hhk hbyk hkc2 hwk
          go_wp2_with fail
          (with_reducible refine KN.mono ?_)
          rintro e' w2 ⟨rfl, hV, hK0⟩
          have hK := hKk.trans hK0
          clear hcv hK0 hKk
          have r2 := hK.box r1 hgb1 (by decide)
          have HW2 := Lib.hid (HHW.out.ku hK hV hgb hlt)
          have HK2 := Lib.hid (HHK.out.trans hK)
          clear KN hV hK e0 r1 hbk
          have e1 : w2.cell? ⟨wq.heap.size, 1, none⟩ = some (.int .i64 ym.N) := cell_of_row _ _ 1 _ _ _ r2
          have e2 : w2.cell? ⟨wq.heap.size, 2, none⟩ = some (.int .i64 ym.c) := cell_of_row _ _ 2 _ _ _ r2
          have e3 : w2.cell? ⟨wq.heap.size, 3, none⟩ = some (.int .i64 ym.s) := cell_of_row _ _ 3 _ _ _ r2
          have e4 : w2.cell? ⟨wq.heap.size, 4, none⟩ = some (.int .i64 ym.t) := cell_of_row _ _ 4 _ _ _ r2
          have e5 : w2.cell? ⟨wq.heap.size, 5, none⟩ = some (.bool ym.d) := cell_of_row _ _ 5 _ _ _ r2
          have e6 : w2.cell? ⟨wq.heap.size, 6, none⟩ = some (.slice ya yn yc) := cell_of_row _ _ 6 _ _ _ r2
          have KN := gmeta_any b (LI ++ (numLE ykey.size 1 ++ keyL ykey)) ym ya yn yc w2 HW2.out.gr (by simp only [List.length_append, numLE_len, keyL_len]; omega) HJM.out (HBY.out.below HW2.out.bel) HLY.out
          go_wp2_with fail
          (with_reducible refine KN.mono ?_)
          rintro e' w4 ⟨rfl, hV, hK⟩
          have HW4 := Lib.hid (show MW wm w4 b w.heap.size cs (L10 ++ ((it.take (i + 1)).map itemLE).flatten) by rw [HST.out]; exact HW2.out.ku hK hV hgb hlt)
          have HK4 := Lib.hid (HK.out.trans (HK2.out.trans hK))
          clear KN hV hK e1 e2 e3 e4 e5 e6 r2
          go_wp2
          go_roundw
          case rel => exact ⟨i + 1, by omega, by go_num, HW4, HK4⟩
          case measure => simp [intOf] <;> omega
        · obtain rfl : i = IN := by omega
          rw [List.take_of_length_le (by rw [HIL.out]; exact Nat.le_refl _)] at HS
          go_wp2
          go_end0
          refine ⟨rfl, ?_, HK.out⟩
          have := HS.out.gr
          rw [HL10.out, HL9.out, HL8.out, HL7.out, HL6.out, HL5.out, HL4.out, HL3.out, HL2.out, HL1.out, HL0.out] at this
          simp only [msgLE, headLE, List.append_assoc, List.nil_append, ← HSN.out, ← HIN.out] at this ⊢
          exact this
end Go.Proofs.YtopnjjehefaghaaDoor
