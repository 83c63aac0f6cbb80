/-
  msg's laws: MsgMemory's walk.
-/
import Derived.Test.YtopnjjehefaghaaDoorMMhG
import Derived.Test.YtopnjjehefaghaaDoorMMhH
namespace Go.Proofs.YtopnjjehefaghaaDoor
open Go.RowKit

theorem own_blockT {W : World} {B : Nat} {S : TypeId} {z : Nat} {v : Value} {n : Nat} {xs : List Value} (h : W.ownsRow B S z v n xs) {g : Nat} {cs : Array Value} {T : TypeId} {fr : Nat × Nat} (hg : W.heap[g]? = some (.cells cs T fr)) (hT : T ≠ S) : v.ownBlock ≠ some g := by
  rcases h.2 with ⟨rfl, -⟩ | ⟨g', cap, cur, rfl, -, hg', -⟩
  · simp [Value.ownBlock]
  · simp only [Value.ownBlock]
    intro e
    injection e with e
    rw [e, hg] at hg'
    injection hg' with hg'
    injection hg' with _ hg'
    exact hT hg'
/-- bytes of one's own, whatever they are. -/
def InkB (w : World) (B : Nat) (h : HdT) : Prop := ∃ L : List Nat, L.length = h.2.1 ∧ Bytes L ∧ w.ownsRow B 5 1 (SV h) h.2.1 (L.map bv)
theorem InkB.at {w : World} {B : Nat} {xa : Option Addr} {xn xc k : Nat} (h : InkB w B (xa, xn, xc)) (hk : k < xn) : ∃ g x, xa = some ⟨g, 0, none⟩ ∧ B ≤ g ∧ x < 256 ∧ w.cell? ⟨g, k, none⟩ = some (.int .u8 (x : Nat)) ∧ w.frozen? ⟨g, k, none⟩ = false ∧ ∃ cs fr, w.heap[g]? = some (.cells cs 5 fr) := by
  obtain ⟨L, hl, hB, h⟩ := h
  replace h : w.ownsRow B 5 1 (.slice xa xn xc) xn (L.map bv) := h
  simp only at hl
  have h0 := h
  rcases h.2 with ⟨e, h1⟩ | ⟨g, cap, cur, e, hb, hh, h'⟩
  · omega
  · injection e with e1 e2 e3
    subst e1 e3
    refine ⟨g, L.getD k 0, rfl, hb, hB.getD k, ?_, h0.frozenAt k, _, _, hh⟩
    rw [h0.cellAt k (by omega), bv_getD (by omega)]
theorem InkB.set {w : World} {B : Nat} {h : HdT} (hi : InkB w B h) (g k x : Nat) (hx : x < 256) : InkB (w.setCell ⟨g, k, none⟩ (.int .u8 (x : Nat))) B h := by
  obtain ⟨xa, xn, xc⟩ := h
  obtain ⟨L, hl, hB, h⟩ := hi
  by_cases hg : (SV (xa, xn, xc)).ownBlock = some g
  · refine ⟨L.set k x, by rw [List.length_set]; exact hl, fun y hy => ?_, ?_⟩
    · rcases List.mem_or_eq_of_mem_set hy with h1 | h1
      · exact hB y h1
      · rw [h1]; exact hx
    · rw [List.map_set]
      replace h : w.ownsRow B 5 1 (.slice xa xn xc) xn (L.map bv) := h
      rcases h.2 with ⟨e, h1⟩ | ⟨g', cap, cur, e, hb, hh, h'⟩
      · have hg : (Value.slice xa xn xc).ownBlock = some g := hg
        rw [e] at hg
        cases hg
      · injection e with e1 e2 e3
        subst e1 e3
        have hg : (Value.slice (some ⟨g', 0, none⟩) xn xc).ownBlock = some g := hg
        simp [Value.ownBlock] at hg
        subst hg
        exact own_setM h k (.int .u8 (x : Nat))
  · exact ⟨L, hl, hB, h.kept (grownBy_setCellM w ⟨g, k, none⟩ _) (.inr hg)⟩
/-- what is decoded, some of its bytes turned. -/
structure InkM (w : World) (B q : Nat) (cs : Array Value) (sa : Option Addr) (n sc : Nat) (xs : List SH) (hd : HdT) : Prop where
  box : w.heap[q]? = some (.cells cs MMT (0, 0))
  row : w.ownsRow B ST3 3 (.slice sa n sc) n (scells xs)
  len : xs.length = n
  ink : ∀ (i : Nat) x, xs[i]? = some x → InkB w B x.2.2
  sum : InkB w B hd
theorem InkM.set {w : World} {B q : Nat} {cs : Array Value} {sa : Option Addr} {n sc : Nat} {xs : List SH} {hd : HdT} (h : InkM w B q cs sa n sc xs hd) (g k x : Nat) (hx : x < 256) (hg : ∃ cs fr, w.heap[g]? = some (.cells cs 5 fr)) : InkM (w.setCell ⟨g, k, none⟩ (.int .u8 (x : Nat))) B q cs sa n sc xs hd := by
  have gr := grownBy_setCellM w ⟨g, k, none⟩ (.int .u8 (x : Nat))
  obtain ⟨c2, fr, hg⟩ := hg
  refine ⟨(gr.block q (Array.getElem?_eq_some_iff.1 h.box).1 (fun e => ?_)).trans h.box, h.row.kept gr (.inr (own_blockT h.row hg (by decide))), h.len, fun i y hy => (h.ink i y hy).set g k x hx, h.sum.set g k x hx⟩
  injection e with e
  have e : q = g := e
  rw [← e, h.box] at hg
  injection hg with hg
  injection hg with _ hg _
  exact absurd hg (by decide)
theorem InkM.at {w : World} {B q : Nat} {cs : Array Value} {sa : Option Addr} {n sc : Nat} {xs : List SH} {hd : HdT} (h : InkM w B q cs sa n sc xs hd) {i : Nat} (hi : i < n) : ∃ g o xa xn xc, o = 0 ∧ sa = some ⟨g, o, none⟩ ∧ w.cell? ⟨g, o + i * 3 + 2, none⟩ = some (.slice xa xn xc) ∧ InkB w B (xa, xn, xc) ∧ (∃ x, xs[i]? = some x ∧ x.2.2 = (xa, xn, xc)) := by
  have hr := h.row
  rcases hr.2 with ⟨_, e⟩ | ⟨g, cap, cur, e, -⟩
  · omega
  · injection e with e1 e2 e3
    subst e1
    obtain ⟨⟨z, f, xa, xn, xc⟩, hx⟩ : ∃ x, xs[i]? = some x := ⟨_, List.getElem?_eq_getElem (by rw [h.len]; exact hi)⟩
    have k := scells_get xs i _ hx
    refine ⟨g, 0, xa, xn, xc, rfl, rfl, ?_, h.ink i _ hx, _, hx, rfl⟩
    rw [Nat.zero_add]
    exact (hr.cellAt (i * 3 + 2) (by omega)).trans k.2.2
/-- a message of one's own, as what may be turned. -/
theorem OwM.ink {w : World} {B q : Nat} {M : MsR} {x : HdT} {sa : Option Addr} {sc : Nat} {ia : Option Addr} {ic : Nat} (h : OwM w B M x sa sc ia ic) {cs : Array Value} (hq : w.heap[q]? = some (.cells cs MMT (0, 0))) : ∃ xs, InkM w B q cs sa M.sy.length sc xs x ∧ ∀ (i : Nat) y, xs[i]? = some y → y.2.2.2.1 ≤ 140737488355328 := by
  obtain ⟨h1, xs, h2, h3, h4⟩ := h.s
  refine ⟨xs, ⟨hq, h3, h2, fun i y hy => ?_, ⟨M.m.l, h.xl.symm, h.xb.1, by rw [h.xl]; exact h.sum⟩⟩, fun i y hy => ?_⟩
  · obtain ⟨p, hp⟩ : ∃ p, M.sy[i]? = some p := ⟨_, List.getElem?_eq_getElem (by rw [← h2]; exact (List.getElem?_eq_some_iff.1 hy).1)⟩
    obtain ⟨k0, k1, k2, k3, k4, k5⟩ := h4 i y p hy hp
    exact ⟨p.2.2, k2.symm, k4, by rw [k2]; exact k3⟩
  · obtain ⟨p, hp⟩ : ∃ p, M.sy[i]? = some p := ⟨_, List.getElem?_eq_getElem (by rw [← h2]; exact (List.getElem?_eq_some_iff.1 hy).1)⟩
    obtain ⟨k0, k1, k2, k3, k4, k5⟩ := h4 i y p hy hp
    rw [k2]; exact k5
/-- a message's cells, its symbols counted. -/
abbrev XN (M : MsR) (ns : Nat) (xa : Option Addr) (xn xc : Nat) (sa : Option Addr) (sc : Nat) (ia : Option Addr) (ic : Nat) : Array Value := #[.int .i64 M.k, .int .i64 M.f, .int .i64 M.t, .int .i64 M.op, .int .i64 M.cd, .string M.key, .int .i64 M.m.N, .int .i64 M.m.c, .int .i64 M.m.s, .int .i64 M.m.t, .bool M.m.d, .slice xa xn xc, .slice sa ns sc, .slice ia M.it.length ic]
theorem InkM.row_at {w : World} {B q : Nat} {cs : Array Value} {gs o : Nat} {n sc : Nat} {xs : List SH} {hd : HdT} (h : InkM w B q cs (some ⟨gs, o, none⟩) n sc xs hd) {i : Nat} {x : SH} {ra : Option Addr} {rn rc : Nat} (h1 : xs[i]? = some x) (h2 : x.2.2 = (ra, rn, rc)) : w.cell? ⟨gs, o + i * 3 + 2, none⟩ = some (.slice ra rn rc) := by
  have hi : i < n := by rw [← h.len]; exact (List.getElem?_eq_some_iff.1 h1).1
  obtain ⟨g, o', xa, xn, xc, -, e, hc, -, y, k1, k2⟩ := h.at hi
  injection e with e
  injection e with e1 e2
  subst e1 e2
  rw [h1] at k1
  injection k1 with k1
  rw [← k1, h2] at k2
  injection k2 with k2 k3
  injection k3 with k3 k4
  rw [k2, k3, k4]
  exact hc
set_option maxRecDepth 100000 in
set_option maxHeartbeats 16000000 in
theorem msgMemory_walk (M : MsR) (xa : Option Addr) (xn xc : Nat) (sa : Option Addr) (sc : Nat) (ia : Option Addr) (ic : Nat) (w : World) (hN : NmV w) (hM : MsV w M (xa, xn, xc) sa ia) :
    Calls Tryd.prog 8 #[.agg (MsC M (xa, xn, xc) sa sc ia ic)] w fun e w' => e = .returned (.bool true) ∧ Below w.heap.size w w' := by
  have KG := fun w => great_any11 M (xa, xn, xc) sa sc ia ic w
  obtain ⟨GB, hGB⟩ : ∃ g, g = decide (600 < M.sy.length ∨ 200 < M.it.length) := ⟨_, rfl⟩
  rw [← hGB] at KG
  have HGB := Lib.hid hGB
  have HM := Lib.hid hM
  obtain ⟨b, hb⟩ : ∃ b, b = w.heap.size := ⟨_, rfl⟩
  obtain ⟨w1, hw1⟩ : ∃ x, x = w.alloc (.cells (XC M xa xn xc sa sc ia ic) MMT) := ⟨_, rfl⟩
  have k1 : w1.heap[b]? = some (.cells (XC M xa xn xc sa sc ia ic) MMT (0, 0)) := by rw [hw1, hb]; exact heap_alloc_new w _
  have b1 : Below w.heap.size w w1 := by rw [hw1]; exact below_alloc w _
  have HW1 := Lib.hid hw1
  have HBB := Lib.hid hb
  have K1 := Lib.hid k1
  have B1 := Lib.hid b1
  have KA := alive11_any w1 (hN.below b1)
  clear hM hN hb hw1 k1 b1 hGB
  go_enter Tryd.func8, Tryd.ntmps8
  go_upto_region 1 with fail
  rw [← HBB.out, ← HW1.out]
  go_wp2_with fail
  (with_reducible refine KA.mono ?_)
  rintro e w2 ⟨rfl, b2⟩
  have K2 := Lib.hid ((b2.block b (Array.getElem?_eq_some_iff.1 K1.out).1).trans K1.out)
  have B2 := Lib.hid (B1.out.trans (b2.mono B1.out.size))
  obtain ⟨⟨c0, c1, c2, c3, c4, c5, c6⟩, c7, c8, c9, c10, c11, c12, c13⟩ := cells14 K2.out
  clear KA b2
  go_wp2_with fail
  (with_reducible refine (KG _).mono ?_)
  rintro e w3 ⟨rfl, b3⟩
  have K3 := Lib.hid ((b3.block b (Array.getElem?_eq_some_iff.1 K2.out).1).trans K2.out)
  have B3 := Lib.hid (B2.out.trans (b3.mono B2.out.size))
  clear KG b3 c0 c1 c2 c3 c4 c5 c6 c7 c8 c9 c10 c11 c12 c13
  cases GB with
  | true =>
    go_wp2
    go_ret
    exact ⟨rfl, B3.out⟩
  | false =>
  have hgr := of_decide_eq_false HGB.out.symm
  have HS1 := Lib.hid (show M.sy.length ≤ 10000 by omega)
  have HS2 := Lib.hid (show M.it.length ≤ 10000 by omega)
  have KC := copyMsg_any M (xa, xn, xc) sa sc ia ic w3 (HM.out.below B3.out) HS1.out HS2.out
  clear hgr
  obtain ⟨⟨c0, c1, c2, c3, c4, c5, c6⟩, c7, c8, c9, c10, c11, c12, c13⟩ := cells14 K3.out
  go_wp2_with fail
  (with_reducible refine KC.mono ?_)
  rintro e w4 ⟨⟨ya, yn, yc⟩, ta, tc, ja, jc, rfl, v4, b4⟩
  have K4 := Lib.hid ((b4.block b (Array.getElem?_eq_some_iff.1 K3.out).1).trans K3.out)
  have B4 := Lib.hid (B3.out.trans (b4.mono B3.out.size))
  have KX := encode_anyM M (ya, yn, yc) ta tc ja jc w4 v4
  unfold GivesM at KX
  have hle := encM_len M
  have hca := enc_cases M
  obtain ⟨⟨L, E⟩, hE⟩ : ∃ p, p = encM M := ⟨_, rfl⟩
  rw [← hE] at KX hle hca
  simp only at hle hca
  have HE := Lib.hid hE
  clear hE KC v4 b4 c0 c1 c2 c3 c4 c5 c6 c7 c8 c9 c10 c11 c12 c13
  go_wp2_with fail
  (with_reducible refine KX.mono ?_)
  rintro e w5 ⟨ad5, cap5, rfl, o5, y5, b5⟩
  have K5 := Lib.hid ((b5.block b (Array.getElem?_eq_some_iff.1 K4.out).1).trans K4.out)
  have B5 := Lib.hid (B4.out.trans (b5.mono B4.out.size))
  have hby5 := ownBytes o5 y5 (by omega)
  obtain ⟨n5, hn5⟩ : ∃ n, n = L.length := ⟨_, rfl⟩
  rw [← hn5] at hby5 hle ⊢
  have HBY := Lib.hid hby5
  have HN5 := Lib.hid hn5
  have HYB := Lib.hid y5
  clear KX o5 y5 b5 hby5 hn5
  by_cases hE0 : E = 0
  rotate_left 1
  · have hE1 : E = 110 := by rcases hca with h | h; exact absurd h hE0; exact h.1
    subst hE1
    clear hE0 hca
    go_wp2
    go_ret
    exact ⟨rfl, B5.out⟩
  subst hE0
  have hok : (encM M).2 = 0 := by rw [← HE.out]
  have HOK := Lib.hid hok
  have HLE := Lib.hid (show (encM M).1 = L by rw [← HE.out])
  have KCB := copyBytes_any ad5 n5 cap5 L w5 HBY.out
  clear hok hca
  go_wp2_with fail
  (with_reducible refine KCB.mono ?_)
  rintro e w6 ⟨a6, c6', rfl, o6, b6⟩
  have hby6 := ownBytes o6 HYB.out (by rw [← HN5.out]; omega)
  have hde : decM L = (M, 0) := by have := dec_of_enc HOK.out; rw [HLE.out] at this; exact this
  have HDE := Lib.hid hde
  obtain ⟨n6, hn6⟩ : ∃ n, n = L.length := ⟨_, rfl⟩
  rw [← hn6] at hby6 ⊢
  have K6 := Lib.hid ((b6.block b (Array.getElem?_eq_some_iff.1 K5.out).1).trans K5.out)
  have B6 := Lib.hid (B5.out.trans (b6.mono B5.out.size))
  have HBY6 := Lib.hid (HBY.out.below b6)
  have HOWN := Lib.hid hby6
  have KD := decodeM_any a6 n6 c6' L w6 hby6
  rw [hde] at KD
  unfold GivesD at KD
  have hdl := dec_len L
  rw [hde] at hdl
  simp only at hdl
  have HDL := Lib.hid hdl
  clear KCB o6 b6 hby6 hde hdl hn6
  go_wp2_with fail
  (with_reducible refine KD.mono ?_)
  rintro e w7 ⟨⟨za, zn, zc⟩, ua, uc, va, vc, rfl, ow7, b7⟩
  obtain ⟨B, hB⟩ : ∃ B, B = w6.heap.size := ⟨_, rfl⟩
  obtain ⟨q, hq⟩ : ∃ q, q = w7.heap.size := ⟨_, rfl⟩
  obtain ⟨w8, hw8⟩ : ∃ x, x = w7.alloc (.cells (XC M za zn zc ua uc va vc) MMT) := ⟨_, rfl⟩
  have b8 : Below w7.heap.size w7 w8 := by rw [hw8]; exact below_alloc w7 _
  have j8 : w8.heap[q]? = some (.cells (XC M za zn zc ua uc va vc) MMT (0, 0)) := by rw [hw8, hq]; exact heap_alloc_new w7 _
  have hBB : Below B w6 w8 := by rw [hB]; exact b7.trans (b8.mono b7.size)
  have ow8 := ow7.below b8
  rw [← hB] at ow8
  obtain ⟨xs, hI, hsm⟩ := ow8.ink j8
  have HSM := Lib.hid hsm
  have hqB : B ≤ q := by rw [hB, hq]; exact b7.size
  have hwB : w.heap.size ≤ B := by rw [hB]; exact B6.out.size
  have hzn : zn ≤ 255 := by have h1 := ow8.xl; have h2 := ow8.xb.2; simp only at h1; omega
  have HB6 := Lib.hid (show Below B w6 w6 by rw [hB]; exact Below.refl _ _)
  have HBS := Lib.hid hB
  obtain ⟨ns, hns⟩ : ∃ n, n = M.sy.length := ⟨_, rfl⟩
  have hns5 : ns ≤ 512 := by rw [hns]; exact HDL.out.1
  have HNS := Lib.hid hns
  have HW8 := Lib.hid hw8
  have HQ := Lib.hid hq
  have HI0 : Hid (InkM w8 B q (XN M ns za zn zc ua uc va vc) ua ns uc xs (za, zn, zc)) := Lib.hid (by rw [hns]; exact hI)
  have HL0 := Lib.hid hBB
  clear KD ow7 b7 hq hw8 b8 j8 hBB ow8 hI hsm hB hns
  go_upto_region 10 with fail
  rw [← HW8.out, ← HQ.out, ← HNS.out]
  clear HW8 HQ
  go_wp2_with fail
  go_loopw [8] (fun vi wr => ∃ i : Nat, i ≤ ns ∧ vi = .int .i64 (i : Nat) ∧ Hid (InkM wr B q (XN M ns za zn zc ua uc va vc) ua ns uc xs (za, zn, zc)) ∧ Hid (Below B w6 wr)) (fun vi _ => (ns - intOf vi).toNat)
  case atStart => exact ⟨0, Nat.zero_le _, rfl, HI0, HL0⟩
  case round =>
    clear HI0 HL0
    obtain ⟨i, hi, rfl, HI, HL⟩ := hrel
    have c12 : wr.cell? ⟨q, 12, none⟩ = some (.slice ua ns uc) := cell_of_row _ _ 12 _ _ _ HI.out.box
    by_cases hlt : i < ns
    · obtain ⟨gs, o, ra, rn, rc, ho, hua, hcr, hink, ⟨xx, hx1, hx2⟩⟩ := HI.out.at hlt
      subst hua
      have hrn : rn ≤ 140737488355328 := by have := HSM.out i xx hx1; rw [hx2] at this; exact this
      have HO := Lib.hid ho
      have HX := Lib.hid (And.intro hx1 hx2)
      have hi0 : (0 : Int) ≤ (i : Int) := by omega
      have hi1 : (i : Int) < (ns : Int) := by omega
      have HI0 := HI
      have HL0 := HL
      clear ho hink hx1 hx2 HI HL
      go_wp2_with fail
      go_loopw [9] (fun vj wr => ∃ j : Nat, j ≤ rn ∧ vj = .int .i64 (j : Nat) ∧ Hid (InkM wr B q (XN M ns za zn zc (some ⟨gs, o, none⟩) uc va vc) (some ⟨gs, o, none⟩) ns uc xs (za, zn, zc)) ∧ Hid (Below B w6 wr)) (fun vj _ => (rn - intOf vj).toNat)
      case atStart => exact ⟨0, Nat.zero_le _, rfl, HI0, HL0⟩
      case round =>
        clear HI0 HL0 hcr c12
        obtain ⟨j, hj, rfl, HI, HL⟩ := hrel
        have c12 : wr.cell? ⟨q, 12, none⟩ = some (.slice (some ⟨gs, o, none⟩) ns uc) := cell_of_row _ _ 12 _ _ _ HI.out.box
        have hcr : wr.cell? ⟨gs, o + i * 3 + 2, none⟩ = some (.slice ra rn rc) := HI.out.row_at HX.out.1 HX.out.2
        by_cases hjk : j < rn
        · obtain ⟨hq2, x, rfl, hgB, hx8, hcx, hfz, htp⟩ := (show InkB wr B (ra, rn, rc) by have := HI.out.ink i _ HX.out.1; rw [HX.out.2] at this; exact this).at hjk
          have hq5 : bits .xor .u8 (x : Int) 255 = ((x ^^^ 255 : Nat) : Int) := u8_xor_nat x 255 hx8 (by omega)
          have hy : x ^^^ 255 < 256 := xor_ltM hx8 (by decide)
          obtain ⟨y, hyy⟩ : ∃ y, y = x ^^^ 255 := ⟨_, rfl⟩
          rw [← hyy] at hq5 hy
          have HI2 := Lib.hid (HI.out.set hq2 j y hy htp)
          have HL2 := Lib.hid (HL.out.grown (grownBy_setCellM wr ⟨hq2, j, none⟩ (.int .u8 (y : Nat))) (by rw [HBS.out]; have := HL.out.size; exact this) (fun k hk => by injection hk with hk; rw [← hk]; exact hgB))
          have hj0 : (0 : Int) ≤ (j : Int) := by omega
          have hj1 : (j : Int) < (rn : Int) := by omega
          clear hyy hy htp HI HL
          go_wp2
          go_roundw
          case rel => exact ⟨j + 1, by omega, by go_num, HI2, HL2⟩
          case measure => simp [intOf]; omega
        · obtain rfl : j = rn := by omega
          go_wp2
          go_roundw
          case rel => exact ⟨i + 1, by omega, by go_num, HI, HL⟩
          case measure => simp [intOf]; omega
    · obtain rfl : i = ns := by omega
      obtain ⟨wo, hwo⟩ : ∃ x, x = wr := ⟨_, rfl⟩
      subst hwo
      have HI0 := HI
      have HL0 := HL
      clear HI HL
      go_wp2_with fail
      clear c12
      go_loopw [10] (fun vi wr => ∃ k : Nat, k ≤ zn ∧ vi = .int .i64 (k : Nat) ∧ Hid (InkM wr B q (XN M i za zn zc ua uc va vc) ua i uc xs (za, zn, zc)) ∧ Hid (Below B w6 wr)) (fun vi _ => (zn - intOf vi).toNat)
      case atStart => exact ⟨0, Nat.zero_le _, rfl, HI0, HL0⟩
      case round =>
        clear HI0 HL0
        obtain ⟨k, hk, rfl, HI, HL⟩ := hrel
        have c11 : wr.cell? ⟨q, 11, none⟩ = some (.slice za zn zc) := cell_of_row _ _ 11 _ _ _ HI.out.box
        by_cases hkk : k < zn
        · obtain ⟨hq2, x, rfl, hgB, hx8, hcx, hfz, htp⟩ := HI.out.sum.at hkk
          have hq5 : bits .xor .u8 (x : Int) 255 = ((x ^^^ 255 : Nat) : Int) := u8_xor_nat x 255 hx8 (by omega)
          have hy : x ^^^ 255 < 256 := xor_ltM hx8 (by decide)
          obtain ⟨y, hyy⟩ : ∃ y, y = x ^^^ 255 := ⟨_, rfl⟩
          rw [← hyy] at hq5 hy
          have HI2 := Lib.hid (HI.out.set hq2 k y hy htp)
          have HL2 := Lib.hid (HL.out.grown (grownBy_setCellM wr ⟨hq2, k, none⟩ (.int .u8 (y : Nat))) (by rw [HBS.out]; have := HL.out.size; exact this) (fun k hk => by injection hk with hk; rw [← hk]; exact hgB))
          have hj0 : (0 : Int) ≤ (k : Int) := by omega
          have hj1 : (k : Int) < (zn : Int) := by omega
          clear hyy hy htp HI HL
          go_wp2
          go_roundw
          case rel => exact ⟨k + 1, by omega, by go_num, HI2, HL2⟩
          case measure => simp [intOf]; omega
        · obtain rfl : k = zn := by omega
          obtain ⟨i0, hpi, hz0, hz1, hz2⟩ := info_partsM sinfo
          have c12 : wr.cell? ⟨q, 12, none⟩ = some (.slice ua i uc) := cell_of_row _ _ 12 _ _ _ HI.out.box
          have hsz : B ≤ wr.heap.size := by rw [HBS.out]; exact HL.out.size
          go_wp2_with (first | (at_builtin; refine Hid.out ?_))
          refine Lib.hid ?_
          clear c11 c12
          refine wpList_append_lies _ rfl (.tmp 77) (.tmp 79) 27 rfl B ST3 i0 (.agg #[.int .i64 0, .int .i64 0, .slice none 0 0]) 3 40 Tryd.underlying27 hpi hz0 hz1 hz2 rfl (by decide) (.slice ua i uc) i (scells xs) rfl (HI.out.row.alloc _) ⟨wr.heap.size, 0, none⟩ 1 1 [.int .i64 0, .int .i64 0, .slice none 0 0] rfl rfl (World.news_of_block (heap_alloc_new wr _)) (by intro u hu; simp at hu; rcases hu with rfl | rfl | rfl <;> rfl) (by decide) (by simp [maxLen]; omega) (by omega) (by simp; omega) _ rfl ?_
          intro g9 c9 w9 hE9 g9' lie9 _
          have gg : wr.grownBy w9 (Value.slice ua i uc).ownBlock := grownBy_trans (grownBy_of_below (below_alloc wr _) _) g9'
          have k9 := (gg.block q (Array.getElem?_eq_some_iff.1 HI.out.box).1 (fun e => own_blockT HI.out.row HI.out.box (by decide) e.symm)).trans HI.out.box
          have d12 : w9.cell? ⟨q, 12, none⟩ = some (.slice ua i uc) := cell_of_row _ _ 12 _ _ _ k9
          have hfz := frozen_of_row w9 q 12 _ _ k9
          have L9 : Below B w6 w9 := HL.out.grown gg hsz (fun k hk => (HI.out.row.lt k hk).1)
          have HLZ := Lib.hid (L9.grown (grownBy_setCellM w9 ⟨q, 12, none⟩ (.slice (some ⟨g9, 0, none⟩) (i + 1) c9)) (by rw [HBS.out]; exact L9.size) (fun k hk => by injection hk with hk; rw [← hk]; exact hqB))
          clear gg k9 L9 hE9 g9' lie9 HI HL
          go_upto_region 22 with fail
          refine (?_ : ∀ W : World, Hid (Below B w6 W) → Code.wp Tryd.prog _ _ _ W) _ HLZ
          clear HLZ d12 hfz
          intro W HLZ
          have BW : Below w6.heap.size w6 W := by have := HLZ.out; rw [HBS.out] at this; exact this
          have KD := decodeM_any a6 n6 c6' L W (HOWN.out.below BW)
          rw [HDE.out] at KD
          unfold GivesD at KD
          have hkW := (BW.block b (Array.getElem?_eq_some_iff.1 K6.out).1).trans K6.out
          have HKW := Lib.hid hkW
          have HBW := Lib.hid (B6.out.trans (BW.mono B6.out.size))
          have HOWNW := Lib.hid (HOWN.out.below BW)
          have HBYW := Lib.hid (HBY6.out.below BW)
          clear BW hkW HLZ
          go_wp2_with fail
          (with_reducible refine KD.mono ?_)
          rintro e w10 ⟨⟨ra, rn, rc⟩, pa, pc, ea, ec, rfl, ow10, b10⟩
          obtain ⟨r, hr⟩ : ∃ r, r = w10.heap.size := ⟨_, rfl⟩
          obtain ⟨w11, hw11⟩ : ∃ x, x = w10.alloc (.cells (XC M ra rn rc pa pc ea ec) MMT) := ⟨_, rfl⟩
          have b11 : Below w10.heap.size w10 w11 := by rw [hw11]; exact below_alloc w10 _
          have j11 : w11.heap[r]? = some (.cells (XC M ra rn rc pa pc ea ec) MMT (0, 0)) := by rw [hw11, hr]; exact heap_alloc_new w10 _
          have bWb := b10.trans (b11.mono b10.size)
          have B11 := Lib.hid (HBW.out.trans (bWb.mono HBW.out.size))
          have VN := Lib.hid (ow10.v.below b11)
          have k11 := (bWb.block b (Array.getElem?_eq_some_iff.1 HKW.out).1).trans HKW.out
          have HO11 := Lib.hid (HOWNW.out.below bWb)
          have HB11 := Lib.hid (HBYW.out.below bWb)
          have HW11 := Lib.hid hw11
          have HR := Lib.hid hr
          clear KD ow10 b10 bWb b11 hw11 hr
          go_upto_region 23 with fail
          rw [← HW11.out, ← HR.out]
          clear HW11 HR
          have KS := sameMsg_any M M (ra, rn, rc) pa pc ea ec (xa, xn, xc) sa sc ia ic w11 VN.out (HM.out.below B11.out) (Nat.le_trans HS1.out (by decide)) (Nat.le_trans HS2.out (by decide))
          rw [decide_eq_true rfl] at KS
          obtain ⟨⟨c0, c1, c2, c3, c4, c5, c6⟩, c7, c8, c9', c10, c11, c12, c13⟩ := cells14 k11
          obtain ⟨⟨d0, d1, d2, d3, d4, d5, d6⟩, d7, d8, d9, d10, d11, d12, d13⟩ := cells14 j11
          go_wp2_with fail
          (with_reducible refine KS.mono ?_)
          rintro e w12 ⟨rfl, b12⟩
          have B12 := Lib.hid (B11.out.trans (b12.mono B11.out.size))
          have KB := sameBytes_any a6 n6 c6' L ad5 n5 cap5 L w12 (HO11.out.below b12) (HB11.out.below b12)
          rw [decide_eq_true rfl] at KB
          clear KS b12 c0 c1 c2 c3 c4 c5 c6 c7 c8 c9' c10 c11 c12 c13 d0 d1 d2 d3 d4 d5 d6 d7 d8 d9 d10 d11 d12 d13
          go_wp2_with fail
          (with_reducible refine KB.mono ?_)
          rintro e w13 ⟨rfl, b13⟩
          have B13 := Lib.hid (B12.out.trans (b13.mono B12.out.size))
          clear KB b13
          go_wp2
          go_ret
          exact ⟨rfl, B13.out⟩
end Go.Proofs.YtopnjjehefaghaaDoor
