/-
  msg's reader: a message.
-/
import Derived.Test.YtopnjjehefaghaaDoorMMgY
namespace Go.Proofs.YtopnjjehefaghaaDoor
open Go.RowKit

def Sd.h1 (s : Sd) : Sd := s.num 1
def Sd.h2 (s : Sd) : Sd := s.h1.num 1
def Sd.h3 (s : Sd) : Sd := s.h2.num 1
def Sd.h4 (s : Sd) : Sd := s.h3.num 4
def Sd.h5 (s : Sd) : Sd := s.h4.num 4
def Sd.h6 (s : Sd) : Sd := s.h5.text
def Sd.h7 (s : Sd) : Sd := s.h6.meta
def Sd.h8 (s : Sd) : Sd := s.h7.num 2
def Sd.h9 (s : Sd) : Sd := (Sd.many Sd.sym Sd.symV (s.h7.val 2) s.h8).1
def Sd.h10 (s : Sd) : Sd := s.h9.num 1
def Sd.fin (s : Sd) : Sd := (Sd.many Sd.item Sd.itemV (s.h9.val 1) s.h10).1
/-- the message that is read. -/
def Sd.msgV (s : Sd) : MsR := ⟨(s.val 1 : Nat), (s.h1.val 1 : Nat), (s.h2.val 1 : Nat), (s.h3.val 4 : Nat), (s.h4.val 4 : Nat), strOfM s.h5.bytes, s.h6.metaV, (Sd.many Sd.sym Sd.symV (s.h7.val 2) s.h8).2, (Sd.many Sd.item Sd.itemV (s.h9.val 1) s.h10).2⟩
/-- a message that is the call's own. -/
structure OwM (w : World) (B : Nat) (M : MsR) (x : HdT) (sa : Option Addr) (sc : Nat) (ia : Option Addr) (ic : Nat) : Prop where
  sum : w.ownsRow B 5 1 (SV x) M.m.l.length (M.m.l.map bv)
  xl : x.2.1 = M.m.l.length
  xb : Bytes M.m.l ∧ M.m.l.length ≤ 255
  s : OwnS w B sa M.sy.length sc M.sy
  i : ∃ xs, xs.map Prod.fst = M.it ∧ OwI w B ia ic xs
theorem OwM.v {w : World} {B : Nat} {M : MsR} {x : HdT} {sa : Option Addr} {sc : Nat} {ia : Option Addr} {ic : Nat} (h : OwM w B M x sa sc ia ic) : MsV w M x sa ia := by
  refine ⟨bytesV_own (x := x) h.sum h.xl h.xb.1 (by have := h.xb.2; omega), h.s.sy, ?_⟩
  obtain ⟨xs, h1, h2⟩ := h.i
  have := h2.itv
  rw [h1] at this
  have hl : xs.length = M.it.length := by rw [← h1, List.length_map]
  rw [hl] at this
  exact this
theorem OwM.grown {w w' : World} {B g : Nat} {M : MsR} {x : HdT} {sa : Option Addr} {sc : Nat} {ia : Option Addr} {ic : Nat} (h : OwM w B M x sa sc ia ic) (hg : w.grownBy w' (some g)) (hlt : g < B) : OwM w' B M x sa sc ia ic := by
  refine ⟨h.sum.kept hg (.inr (fun e => by have := (h.sum.lt g e).1; omega)), h.xl, h.xb, h.s.grown hg hlt, ?_⟩
  obtain ⟨xs, h1, h2⟩ := h.i
  exact ⟨xs, h1, h2.grown hg hlt⟩
theorem OwM.below {w w' : World} {B : Nat} {M : MsR} {x : HdT} {sa : Option Addr} {sc : Nat} {ia : Option Addr} {ic : Nat} (h : OwM w B M x sa sc ia ic) (hb : Below w.heap.size w w') : OwM w' B M x sa sc ia ic := by
  refine ⟨own_belowM h.sum hb, h.xl, h.xb, h.s.below hb, ?_⟩
  obtain ⟨xs, h1, h2⟩ := h.i
  exact ⟨xs, h1, h2.below hb⟩
theorem OwM.rebase {w : World} {B B' : Nat} {M : MsR} {x : HdT} {sa : Option Addr} {sc : Nat} {ia : Option Addr} {ic : Nat} (h : OwM w B M x sa sc ia ic) (hB : B' ≤ B) : OwM w B' M x sa sc ia ic := by
  refine ⟨ownsRow_base h.sum hB, h.xl, h.xb, h.s.rebase hB, ?_⟩
  obtain ⟨xs, h1, h2⟩ := h.i
  exact ⟨xs, h1, h2.rebase hB⟩
abbrev Z14 : Array Value := #[.int .i64 0, .int .i64 0, .int .i64 0, .int .i64 0, .int .i64 0, .string ⟨#[]⟩, .int .i64 0, .int .i64 0, .int .i64 0, .int .i64 0, .bool false, .slice none 0 0, .slice none 0 0, .slice none 0 0]
/-- between two parts of a message: what is left to read, and the box that waits for it. -/
structure RdS (u w0 w : World) (b q : Nat) (s : Sd) : Prop where
  g : w0.grownBy w (some b)
  r : RdM u w b s
  c : w.heap[q]? = some (.cells Z14 MMT (0, 0))
theorem RdS.on {u w0 w w1 : World} {b q : Nat} {s s' : Sd} (h : RdS u w0 w b q s) (hq : b < q) (hr : RdM u w1 b s') (hg : w.grownBy w1 (some b)) : RdS u w0 w1 b q s' :=
  ⟨h.g.trans hg, hr, (hg.block q (Array.getElem?_eq_some_iff.1 h.c).1 (fun e => by injection e with e; omega)).trans h.c⟩
set_option maxRecDepth 100000 in
set_option maxHeartbeats 16000000 in
theorem messageM_any (b : Nat) (s : Sd) (u w : World) (hu : Below u.heap.size u w) (hub : u.heap.size ≤ b) (hr : RdM u w b s) :
    Calls Tryd.prog 36 #[.pointer (some ⟨b, 0, none⟩)] w fun e w' => ∃ x sa sc ia ic, e = .returned (.agg (MsC s.msgV x sa sc ia ic)) ∧ OwM w' w.heap.size s.msgV x sa sc ia ic ∧ RdM u w' b s.fin ∧ w.grownBy w' (some b) := by
  have hbw := hr.lt
  obtain ⟨q, hq⟩ : ∃ q, q = w.heap.size := ⟨_, rfl⟩
  obtain ⟨w1, hw1⟩ : ∃ x, x = w.alloc (.cells Z14 MMT) := ⟨_, rfl⟩
  have k1 : w1.heap[q]? = some (.cells Z14 MMT (0, 0)) := by rw [hw1, hq]; exact heap_alloc_new w _
  have b1 : Below w.heap.size w w1 := by rw [hw1]; exact below_alloc w _
  have hb1d : Below w.heap.size w w1.drew := ⟨b1.os, b1.tape, b1.output, b1.size, b1.block⟩
  have h0 : RdS u w w1.drew b q s := ⟨grownBy_of_below hb1d _, hr.of_block (b1.block b hbw), k1⟩
  have H0 := Lib.hid h0
  have HW1 := Lib.hid hw1
  have HQ := Lib.hid hq
  have HU := Lib.hid hu
  have hbq : b < q := by omega
  have hqw1 : w.heap.size ≤ q := Nat.le_of_eq hq.symm
  have hqw2 : q ≤ w.heap.size := Nat.le_of_eq hq
  clear hq hw1 k1 b1 hr hu hb1d h0
  go_enter Tryd.func36, Tryd.ntmps36
  go_upto_region 1 with fail
  rw [← HQ.out, ← HW1.out]
  have K0 := numM_is b 1 s u w1.drew (below_onM HU.out hub H0.out.g) hub H0.out.r (by decide) 1 rfl
  obtain ⟨v0, hv0⟩ : ∃ v, v = s.val 1 := ⟨_, rfl⟩
  rw [← hv0] at K0
  have V0 := Lib.hid hv0
  have HK := Lib.hid K0
  clear K0 hv0
  refine GoX.start 28 (fun w' => True) (by kernel_rfl) ?_
  refine GoX.take 0 rfl (by kernel_rfl) (by kernel_rfl) (by rfl) (fun _ _ _ h => h) (v := ?tv0g1) trivial ?ty0g1 ?tr0g1
  case ty0g1 => (intro w hSw; (try dsimp only at hSw); go_simp; first | done | with_reducible rfl)
  simp only [Act.put, List.setIfInBounds_toArray, List.set_cons_zero, List.set_cons_succ]
  refine GoX.take 2 rfl (by kernel_rfl) (by kernel_rfl) (by rfl) (fun _ _ _ h => h) (v := ?tv2g2) trivial ?ty2g2 ?tr2g2
  case ty2g2 => (intro w hSw; (try dsimp only at hSw); go_simp; first | done | with_reducible rfl)
  simp only [Act.put, List.setIfInBounds_toArray, List.set_cons_zero, List.set_cons_succ]
  refine GoX.take 4 rfl (by kernel_rfl) (by kernel_rfl) (by rfl) (fun _ _ _ h => h) (v := ?tv4g3) trivial ?ty4g3 ?tr4g3
  case ty4g3 => (intro w hSw; (try dsimp only at hSw); go_simp; first | done | with_reducible rfl)
  simp only [Act.put, List.setIfInBounds_toArray, List.set_cons_zero, List.set_cons_succ]
  refine GoX.take 6 rfl (by kernel_rfl) (by kernel_rfl) (by rfl) (fun _ _ _ h => h) (v := ?tv6g4) trivial ?ty6g4 ?tr6g4
  case ty6g4 => (intro w hSw; (try dsimp only at hSw); go_simp; first | done | with_reducible rfl)
  simp only [Act.put, List.setIfInBounds_toArray, List.set_cons_zero, List.set_cons_succ]
  refine GoX.take 8 rfl (by kernel_rfl) (by kernel_rfl) (by rfl) (fun _ _ _ h => h) (v := ?tv8g5) trivial ?ty8g5 ?tr8g5
  case ty8g5 => (intro w hSw; (try dsimp only at hSw); go_simp; first | done | with_reducible rfl)
  simp only [Act.put, List.setIfInBounds_toArray, List.set_cons_zero, List.set_cons_succ]
  refine GoX.take 10 rfl (by kernel_rfl) (by kernel_rfl) (by rfl) (fun _ _ _ h => h) (v := ?tv10g6) trivial ?ty10g6 ?tr10g6
  case ty10g6 => (intro w hSw; (try dsimp only at hSw); go_simp; first | done | with_reducible rfl)
  simp only [Act.put, List.setIfInBounds_toArray, List.set_cons_zero, List.set_cons_succ]
  refine GoX.take 13 rfl (by kernel_rfl) (by kernel_rfl) (by rfl) (fun _ _ _ h => h) (v := ?tv13g7) trivial ?ty13g7 ?tr13g7
  case ty13g7 => (intro w hSw; (try dsimp only at hSw); go_simp; first | done | with_reducible rfl)
  simp only [Act.put, List.setIfInBounds_toArray, List.set_cons_zero, List.set_cons_succ]
  refine GoX.take 15 rfl (by kernel_rfl) (by kernel_rfl) (by rfl) (fun _ _ _ h => h) (v := ?tv15g8) trivial ?ty15g8 ?tr15g8
  case ty15g8 => (intro w hSw; (try dsimp only at hSw); go_simp; first | done | with_reducible rfl)
  simp only [Act.put, List.setIfInBounds_toArray, List.set_cons_zero, List.set_cons_succ]
  refine GoX.take 16 rfl (by kernel_rfl) (by kernel_rfl) (by rfl) (fun _ _ _ h => h) (v := ?tv16g9) trivial ?ty16g9 ?tr16g9
  case ty16g9 => (intro w hSw; (try dsimp only at hSw); go_simp; first | done | with_reducible rfl)
  simp only [Act.put, List.setIfInBounds_toArray, List.set_cons_zero, List.set_cons_succ]
  refine GoX.take 18 rfl (by kernel_rfl) (by kernel_rfl) (by rfl) (fun _ _ _ h => h) (v := ?tv18g10) trivial ?ty18g10 ?tr18g10
  case ty18g10 => (intro w hSw; (try dsimp only at hSw); go_simp; first | done | with_reducible rfl)
  simp only [Act.put, List.setIfInBounds_toArray, List.set_cons_zero, List.set_cons_succ]
  refine GoX.take 19 rfl (by kernel_rfl) (by kernel_rfl) (by rfl) (fun _ _ _ h => h) (v := ?tv19g11) trivial ?ty19g11 ?tr19g11
  case ty19g11 => (intro w hSw; (try dsimp only at hSw); go_simp; first | done | with_reducible rfl)
  simp only [Act.put, List.setIfInBounds_toArray, List.set_cons_zero, List.set_cons_succ]
  refine GoX.take 21 rfl (by kernel_rfl) (by kernel_rfl) (by rfl) (fun _ _ _ h => h) (v := ?tv21g12) trivial ?ty21g12 ?tr21g12
  case ty21g12 => (intro w hSw; (try dsimp only at hSw); go_simp; first | done | with_reducible rfl)
  simp only [Act.put, List.setIfInBounds_toArray, List.set_cons_zero, List.set_cons_succ]
  refine GoX.take 22 rfl (by kernel_rfl) (by kernel_rfl) (by rfl) (fun _ _ _ h => h) (v := ?tv22g13) trivial ?ty22g13 ?tr22g13
  case ty22g13 => (intro w hSw; (try dsimp only at hSw); go_simp; first | done | with_reducible rfl)
  simp only [Act.put, List.setIfInBounds_toArray, List.set_cons_zero, List.set_cons_succ]
  refine GoX.take 24 rfl (by kernel_rfl) (by kernel_rfl) (by rfl) (fun _ _ _ h => h) (v := ?tv24g14) trivial ?ty24g14 ?tr24g14
  case ty24g14 => (intro w hSw; (try dsimp only at hSw); go_simp; first | done | with_reducible rfl)
  simp only [Act.put, List.setIfInBounds_toArray, List.set_cons_zero, List.set_cons_succ]
  refine GoX.take 25 rfl (by kernel_rfl) (by kernel_rfl) (by rfl) (fun _ _ _ h => h) (v := ?tv25g15) trivial ?ty25g15 ?tr25g15
  case ty25g15 => (intro w hSw; (try dsimp only at hSw); go_simp; first | done | with_reducible rfl)
  simp only [Act.put, List.setIfInBounds_toArray, List.set_cons_zero, List.set_cons_succ]
  refine GoX.one 1 rfl (by kernel_rfl) (by decide) (fun K hK => ?_)
  rw [if_pos (by rfl)]
  go_simp
  (with_reducible refine HK.out.mono ?_)
  rintro e W1 ⟨rfl, hr, hg⟩
  have H1 : Hid (RdS u w W1 b q s.h1) := Lib.hid (H0.out.on hbq hr hg)
  clear HK hr hg H0
  have K1 := numM_is b 1 (s.h1) u W1 (below_onM HU.out hub H1.out.g) hub H1.out.r (by decide) 1 rfl
  obtain ⟨v1, hv1⟩ : ∃ v, v = Sd.val (s.h1) 1 := ⟨_, rfl⟩
  rw [← hv1] at K1
  have V1 := Lib.hid hv1
  have HK := Lib.hid K1
  clear K1 hv1
  refine hK.out _ _ trivial (fun _ => ?_)
  clear hK K
  refine GoX.one 3 rfl (by kernel_rfl) (by decide) (fun K hK => ?_)
  rw [if_pos (by rfl)]
  go_simp
  (with_reducible refine HK.out.mono ?_)
  rintro e W2 ⟨rfl, hr, hg⟩
  have H2 : Hid (RdS u w W2 b q s.h2) := Lib.hid (H1.out.on hbq hr hg)
  clear HK hr hg H1
  have K2 := numM_is b 1 (s.h2) u W2 (below_onM HU.out hub H2.out.g) hub H2.out.r (by decide) 1 rfl
  obtain ⟨v2, hv2⟩ : ∃ v, v = Sd.val (s.h2) 1 := ⟨_, rfl⟩
  rw [← hv2] at K2
  have V2 := Lib.hid hv2
  have HK := Lib.hid K2
  clear K2 hv2
  refine hK.out _ _ trivial (fun _ => ?_)
  clear hK K
  refine GoX.one 5 rfl (by kernel_rfl) (by decide) (fun K hK => ?_)
  rw [if_pos (by rfl)]
  go_simp
  (with_reducible refine HK.out.mono ?_)
  rintro e W3 ⟨rfl, hr, hg⟩
  have H3 : Hid (RdS u w W3 b q s.h3) := Lib.hid (H2.out.on hbq hr hg)
  clear HK hr hg H2
  have K3 := numM_is b 4 (s.h3) u W3 (below_onM HU.out hub H3.out.g) hub H3.out.r (by decide) 4 rfl
  obtain ⟨v3, hv3⟩ : ∃ v, v = Sd.val (s.h3) 4 := ⟨_, rfl⟩
  rw [← hv3] at K3
  have V3 := Lib.hid hv3
  have HK := Lib.hid K3
  clear K3 hv3
  refine hK.out _ _ trivial (fun _ => ?_)
  clear hK K
  refine GoX.one 7 rfl (by kernel_rfl) (by decide) (fun K hK => ?_)
  rw [if_pos (by rfl)]
  go_simp
  (with_reducible refine HK.out.mono ?_)
  rintro e W4 ⟨rfl, hr, hg⟩
  have H4 : Hid (RdS u w W4 b q s.h4) := Lib.hid (H3.out.on hbq hr hg)
  clear HK hr hg H3
  have K4 := numM_is b 4 (s.h4) u W4 (below_onM HU.out hub H4.out.g) hub H4.out.r (by decide) 4 rfl
  obtain ⟨v4, hv4⟩ : ∃ v, v = Sd.val (s.h4) 4 := ⟨_, rfl⟩
  rw [← hv4] at K4
  have V4 := Lib.hid hv4
  have HK := Lib.hid K4
  clear K4 hv4
  refine hK.out _ _ trivial (fun _ => ?_)
  clear hK K
  refine GoX.one 9 rfl (by kernel_rfl) (by decide) (fun K hK => ?_)
  rw [if_pos (by rfl)]
  go_simp
  (with_reducible refine HK.out.mono ?_)
  rintro e W5 ⟨rfl, hr, hg⟩
  have H5 : Hid (RdS u w W5 b q s.h5) := Lib.hid (H4.out.on hbq hr hg)
  clear HK hr hg H4
  have K5 := textM_any b s.h5 u W5 (below_onM HU.out hub H5.out.g) hub H5.out.r
  obtain ⟨KB, hKB⟩ : ∃ L, L = s.h5.bytes := ⟨_, rfl⟩
  rw [← hKB] at K5
  obtain ⟨kn, hkn⟩ : ∃ n, n = KB.length := ⟨_, rfl⟩
  rw [← hkn] at K5
  have HKB := Lib.hid hKB
  have HKN := Lib.hid hkn
  have HK := Lib.hid K5
  clear K5 hKB hkn
  refine hK.out _ _ trivial (fun _ => ?_)
  clear hK K
  refine GoX.one 11 rfl (by kernel_rfl) (by decide) (fun K hK => ?_)
  rw [if_pos (by rfl)]
  go_simp
  (with_reducible refine HK.out.mono ?_)
  rintro e W6 ⟨ta, tc, rfl, ho, hby, h255, hr, hg⟩
  have H6 : Hid (RdS u w W6 b q s.h6) := Lib.hid (H5.out.on hbq hr hg)
  have hkb : BytesV W6 (ta, kn, tc) KB := bytesV_own (x := (ta, kn, tc)) (by rw [HKN.out] at ho ⊢; exact ho) HKN.out hby (by rw [← HKN.out]; omega)
  have P6 := conv_anyM W6 ta kn tc KB hkb
  have HKV := Lib.hid hkb
  have hap : Hid (0 < kn → ∀ a, ta = some a → a.block ≠ b) := Lib.hid (own_ne_low ho (by have := H5.out.g.size; omega))
  have K6 := metaM_any b s.h6 u W6 (below_onM HU.out hub H6.out.g) hub H6.out.r
  obtain ⟨m, hm⟩ : ∃ m, m = s.h6.metaV := ⟨_, rfl⟩
  rw [← hm] at K6
  have HM := Lib.hid hm
  obtain ⟨mn, hmn⟩ : ∃ n, n = m.l.length := ⟨_, rfl⟩
  rw [← hmn] at K6
  have HMN := Lib.hid hmn
  simp only [MC] at K6
  clear HK ho hby h255 hr hg hkb H5 hm hmn
  have HK := Lib.hid K6
  clear K6
  refine hK.out _ _ trivial (fun _ => ?_)
  clear hK K
  refine GoX.more (S' := fun w' => (convert 24 9 (.slice ta kn tc)).run Tryd.prog w' = .ok (.string (strOfM KB)) w') (fun _ h => trivial) ?_
  refine GoX.take 12 rfl (by kernel_rfl) (by kernel_rfl) (by rfl) (fun _ _ _ h => h) (v := ?tv12g16) P6 ?ty12g16 ?tr12g16
  case ty12g16 => (intro w hSw; (try dsimp only at hSw); go_simp; first | done | with_reducible rfl)
  simp only [Act.put, List.setIfInBounds_toArray, List.set_cons_zero, List.set_cons_succ]
  refine GoX.one 14 rfl (by kernel_rfl) (by decide) (fun K hK => ?_)
  rw [if_pos (by rfl)]
  go_simp
  (with_reducible refine HK.out.mono ?_)
  rintro e W7 ⟨xa, xc, rfl, ho, hby, h255, hr, hg⟩
  have H7 : Hid (RdS u w W7 b q s.h7) := Lib.hid (H6.out.on hbq hr hg)
  have G67 := Lib.hid hg
  have P7 := conv_anyM W7 ta kn tc KB (HKV.out.keptR (fun h0 a ha => G67.out.block a.block (HKV.out.row.lt h0 ha) (fun e => by injection e with e; exact hap.out h0 a ha e)))
  have hs6 : q < W6.heap.size := (Array.getElem?_eq_some_iff.1 H6.out.c).1
  have HO7 := Lib.hid (ownsRow_base ho (show q + 1 ≤ W6.heap.size by omega))
  have HXB := Lib.hid (And.intro hby h255)
  clear HK ho hby h255 hr hg H6 hs6
  have K7 := numM_is b 2 (s.h7) u W7 (below_onM HU.out hub H7.out.g) hub H7.out.r (by decide) 2 rfl
  obtain ⟨v7, hv7⟩ : ∃ v, v = Sd.val (s.h7) 2 := ⟨_, rfl⟩
  rw [← hv7] at K7
  have V7 := Lib.hid hv7
  have HK := Lib.hid K7
  clear K7 hv7
  refine hK.out _ _ P7 (fun _ => ?_)
  clear hK K
  refine GoX.one 17 rfl (by kernel_rfl) (by decide) (fun K hK => ?_)
  rw [if_pos (by rfl)]
  go_simp
  (with_reducible refine HK.out.mono ?_)
  rintro e W8 ⟨rfl, hr, hg⟩
  have H8 : Hid (RdS u w W8 b q s.h8) := Lib.hid (H7.out.on hbq hr hg)
  have G68 := Lib.hid (G67.out.trans hg)
  have P8 := conv_anyM W8 ta kn tc KB (HKV.out.keptR (fun h0 a ha => G68.out.block a.block (HKV.out.row.lt h0 ha) (fun e => by injection e with e; exact hap.out h0 a ha e)))
  have HO8 := Lib.hid (HO7.out.kept hg (.inr (fun e => by have := (HO7.out.lt b e).1; omega)))
  have hv7 : v7 ≤ 70000 := by have h1 := Sd.val_lt H7.out.r.bytes 2; have h2 : (256 : Nat) ^ 2 = 65536 := rfl; rw [← V7.out] at h1; omega
  have K8 := listS_any b v7 s.h8 u W8 (below_onM HU.out hub H8.out.g) hub H8.out.r hv7
  obtain ⟨RS, hRS⟩ : ∃ R, R = Sd.many Sd.sym Sd.symV v7 s.h8 := ⟨_, rfl⟩
  rw [← hRS] at K8
  have HRS := Lib.hid hRS
  obtain ⟨SN, hSN⟩ : ∃ n, n = RS.2.length := ⟨_, rfl⟩
  rw [← hSN] at K8
  have HSN := Lib.hid hSN
  clear HK hr hg H7 HO7 P7 hRS hSN
  have HK := Lib.hid K8
  clear K8
  refine hK.out _ _ P8 (fun _ => ?_)
  clear hK K
  refine GoX.one 20 rfl (by kernel_rfl) (by decide) (fun K hK => ?_)
  rw [if_pos (by rfl)]
  go_simp
  (with_reducible refine HK.out.mono ?_)
  rintro e W9 ⟨⟨sa, sc, rfl, os⟩, hr, hg⟩
  have hh9 : s.h9 = RS.1 := by show (Sd.many Sd.sym Sd.symV (s.h7.val 2) s.h8).1 = _; rw [HRS.out, V7.out]
  rw [← hh9] at hr
  have H9 : Hid (RdS u w W9 b q s.h9) := Lib.hid (H8.out.on hbq hr hg)
  have G69 := Lib.hid (G68.out.trans hg)
  have P9 := conv_anyM W9 ta kn tc KB (HKV.out.keptR (fun h0 a ha => G69.out.block a.block (HKV.out.row.lt h0 ha) (fun e => by injection e with e; exact hap.out h0 a ha e)))
  have hs8 : q < W8.heap.size := (Array.getElem?_eq_some_iff.1 H8.out.c).1
  have HO9 := Lib.hid (HO8.out.kept hg (.inr (fun e => by have := (HO8.out.lt b e).1; omega)))
  have HS9 := Lib.hid (os.rebase (show q + 1 ≤ W8.heap.size by omega))
  clear HK hr hg H8 HO8 P8 os hs8 hh9
  have K9 := numM_is b 1 (s.h9) u W9 (below_onM HU.out hub H9.out.g) hub H9.out.r (by decide) 1 rfl
  obtain ⟨v9, hv9⟩ : ∃ v, v = Sd.val (s.h9) 1 := ⟨_, rfl⟩
  rw [← hv9] at K9
  have V9 := Lib.hid hv9
  have HK := Lib.hid K9
  clear K9 hv9
  refine hK.out _ _ P9 (fun _ => ?_)
  clear hK K
  refine GoX.one 23 rfl (by kernel_rfl) (by decide) (fun K hK => ?_)
  rw [if_pos (by rfl)]
  go_simp
  (with_reducible refine HK.out.mono ?_)
  rintro e W10 ⟨rfl, hr, hg⟩
  have H10 : Hid (RdS u w W10 b q s.h10) := Lib.hid (H9.out.on hbq hr hg)
  have G610 := Lib.hid (G69.out.trans hg)
  have P10 := conv_anyM W10 ta kn tc KB (HKV.out.keptR (fun h0 a ha => G610.out.block a.block (HKV.out.row.lt h0 ha) (fun e => by injection e with e; exact hap.out h0 a ha e)))
  have HO10 := Lib.hid (HO9.out.kept hg (.inr (fun e => by have := (HO9.out.lt b e).1; omega)))
  have HS10 := Lib.hid (HS9.out.grown hg (show b < q + 1 by omega))
  have hv9 : v9 ≤ 70000 := by have h1 := Sd.val_lt H9.out.r.bytes 1; have h2 : (256 : Nat) ^ 1 = 256 := rfl; rw [← V9.out] at h1; omega
  have K10 := listI_any b v9 s.h10 u W10 (below_onM HU.out hub H10.out.g) hub H10.out.r hv9
  obtain ⟨RI, hRI⟩ : ∃ R, R = Sd.many Sd.item Sd.itemV v9 s.h10 := ⟨_, rfl⟩
  rw [← hRI] at K10
  have HRI := Lib.hid hRI
  obtain ⟨IN, hIN⟩ : ∃ n, n = RI.2.length := ⟨_, rfl⟩
  rw [← hIN] at K10
  have HIN := Lib.hid hIN
  clear HK hr hg H9 HO9 HS9 P9 hRI hIN
  have HK := Lib.hid K10
  clear K10
  refine hK.out _ _ P10 (fun _ => ?_)
  clear hK K
  refine GoX.one 26 rfl (by kernel_rfl) (by decide) (fun K hK => ?_)
  rw [if_pos (by rfl)]
  go_simp
  (with_reducible refine HK.out.mono ?_)
  rintro e W11 ⟨⟨ia, ic, xs, rfl, hxs, oi⟩, hr, hg⟩
  have hh11 : s.fin = RI.1 := by show (Sd.many Sd.item Sd.itemV (s.h9.val 1) s.h10).1 = _; rw [HRI.out, V9.out]
  rw [← hh11] at hr
  have H11 : Hid (RdS u w W11 b q s.fin) := Lib.hid (H10.out.on hbq hr hg)
  have G611 := Lib.hid (G610.out.trans hg)
  have P11 := conv_anyM W11 ta kn tc KB (HKV.out.keptR (fun h0 a ha => G611.out.block a.block (HKV.out.row.lt h0 ha) (fun e => by injection e with e; exact hap.out h0 a ha e)))
  have hs10 : q < W10.heap.size := (Array.getElem?_eq_some_iff.1 H10.out.c).1
  have HO11 := Lib.hid (HO10.out.kept hg (.inr (fun e => by have := (HO10.out.lt b e).1; omega)))
  have HS11 := Lib.hid (HS10.out.grown hg (show b < q + 1 by omega))
  have HI11 := Lib.hid (oi.rebase (show q + 1 ≤ W10.heap.size by omega))
  have HXS := Lib.hid hxs
  clear HK hr hg H10 HO10 HS10 P10 oi hs10 hh11 hxs
  refine hK.out _ _ P11 (fun _ => ?_)
  clear hK K
  refine GoX.take 27 rfl (by kernel_rfl) (by kernel_rfl) (by rfl) (fun _ _ _ h => h) (v := ?tv27g17) P11 ?ty27g17 ?tr27g17
  case ty27g17 => (intro w hSw; (try dsimp only at hSw); go_simp; first | done | with_reducible rfl)
  simp only [Act.put, List.setIfInBounds_toArray, List.set_cons_zero, List.set_cons_succ]
  refine GoX.last 28 rfl (by kernel_rfl) (by kernel_rfl) (by decide) ?_
  clear P11
  rw [if_pos (by rfl)]
  refine wp_store_row MMT (.tmp 2) (.tmp 30) rfl q #[.int .i64 (v0 : Nat), .int .i64 (v1 : Nat), .int .i64 (v2 : Nat), .int .i64 (v3 : Nat), .int .i64 (v4 : Nat), .string (strOfM KB), .int .i64 m.N, .int .i64 m.c, .int .i64 m.s, .int .i64 m.t, .bool m.d, .slice xa mn xc, .slice sa SN sc, .slice ia IN ic] (by rfl) (by rfl) MMT _ H11.out.c (by kernel_rfl) rfl (by simp [Value.oneCell']) ?_
  have hh := setRow_sameM (cs := #[.int .i64 (v0 : Nat), .int .i64 (v1 : Nat), .int .i64 (v2 : Nat), .int .i64 (v3 : Nat), .int .i64 (v4 : Nat), .string (strOfM KB), .int .i64 m.N, .int .i64 m.c, .int .i64 m.s, .int .i64 m.t, .bool m.d, .slice xa mn xc, .slice sa SN sc, .slice ia IN ic]) H11.out.c
  have hgr : W11.grownBy (W11.setRow q #[.int .i64 (v0 : Nat), .int .i64 (v1 : Nat), .int .i64 (v2 : Nat), .int .i64 (v3 : Nat), .int .i64 (v4 : Nat), .string (strOfM KB), .int .i64 m.N, .int .i64 m.c, .int .i64 m.s, .int .i64 m.t, .bool m.d, .slice xa mn xc, .slice sa SN sc, .slice ia IN ic]) (some q) := ⟨rfl, rfl, rfl, by simp, fun k hk hn => _root_.Go.setRow_other W11 q k _ (fun e => hn (by rw [e]))⟩
  go_wp2_with fail
  refine (?_ : ∀ WF : World, WF.heap[q]? = some (.cells #[.int .i64 (v0 : Nat), .int .i64 (v1 : Nat), .int .i64 (v2 : Nat), .int .i64 (v3 : Nat), .int .i64 (v4 : Nat), .string (strOfM KB), .int .i64 m.N, .int .i64 m.c, .int .i64 m.s, .int .i64 m.t, .bool m.d, .slice xa mn xc, .slice sa SN sc, .slice ia IN ic] MMT (0, 0)) → W11.grownBy WF (some q) → bodyPost _ _ _ _ _ WF) _ hh hgr
  clear hh hgr
  intro WF hh hgr
  have HE1 : Hid (s.msgV = ⟨(v0 : Nat), (v1 : Nat), (v2 : Nat), (v3 : Nat), (v4 : Nat), strOfM KB, m, RS.2, RI.2⟩) := Lib.hid (by rw [V0.out, V1.out, V2.out, V3.out, V4.out, HKB.out, HM.out, HRS.out, HRI.out, V7.out, V9.out]; rfl)
  have HGR := Lib.hid hgr
  clear hgr
  refine bodyPost_ret (results_cell_row rfl _ _ q MMT #[.int .i64 (v0 : Nat), .int .i64 (v1 : Nat), .int .i64 (v2 : Nat), .int .i64 (v3 : Nat), .int .i64 (v4 : Nat), .string (strOfM KB), .int .i64 m.N, .int .i64 m.c, .int .i64 m.s, .int .i64 m.t, .bool m.d, .slice xa mn xc, .slice sa SN sc, .slice ia IN ic] (0, 0) _ rfl hh Tryd.underlying30 rfl (by kernel_rfl)) (by rfl) ?_
  rw [HE1.out]
  have hgr := HGR.out
  refine ⟨(xa, mn, xc), sa, sc, ia, ic, by simp only [MsC, ← HSN.out, ← HIN.out], ?_, H11.out.r.of_block (hgr.block b H11.out.r.lt (fun e => by injection e with e; omega)), grown_newM H11.out.g hgr hqw1⟩
  have hOw : OwM W11 (q + 1) ⟨(v0 : Nat), (v1 : Nat), (v2 : Nat), (v3 : Nat), (v4 : Nat), strOfM KB, m, RS.2, RI.2⟩ (xa, mn, xc) sa sc ia ic := ⟨by show W11.ownsRow _ _ _ (.slice xa mn xc) m.l.length (m.l.map bv); rw [← HMN.out]; exact HO11.out, HMN.out, ⟨HXB.out.1, by show m.l.length ≤ 255; rw [← HMN.out]; exact HXB.out.2⟩, by show OwnS W11 _ sa RS.2.length sc RS.2; rw [← HSN.out]; exact HS11.out, xs, HXS.out, HI11.out⟩
  exact (hOw.grown hgr (by omega)).rebase (by omega)
end Go.Proofs.YtopnjjehefaghaaDoor
