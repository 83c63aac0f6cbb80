/-
  msg's reference: a message's bytes.
-/
import Derived.Test.YtopnjjehefaghaaDoorMCh3
import Derived.Test.YtopnjjehefaghaaDoorMMgL
namespace Go.Proofs.YtopnjjehefaghaaDoor
open Go.RowKit

/-- a row has grown from w to w' (in its place, or anew); all else is as it was. -/
structure Mv (w w' : World) (a a' : Option Addr) : Prop where
  k : KA w w' (ob a)
  at_ : ob a' = ob a ∨ ∀ q, ob a' = some q → w.heap.size ≤ q
/-- bytes that lie apart from the row. -/
structure KB (w : World) (a : Option Addr) (x : Option Addr × Nat × Nat) (l : List Nat) : Prop where
  by_ : BytesV w x l
  ap : 0 < x.2.1 → ∀ b, x.1 = some b → some b.block ≠ ob a ∧ b.block < w.heap.size
theorem KB.mv {w w' : World} {a a' : Option Addr} {x : Option Addr × Nat × Nat} {l : List Nat} (h : KB w a x l) (m : Mv w w' a a') : KB w' a' x l :=
  ⟨h.by_.keptM fun h0 b hb => m.k.block b.block (h.ap h0 b hb).2 (h.ap h0 b hb).1, fun h0 b hb => ⟨fun e => by
    rcases m.at_ with e' | e'
    · exact (h.ap h0 b hb).1 (e.trans e')
    · have := e' _ e.symm
      have := (h.ap h0 b hb).2
      omega, Nat.lt_of_lt_of_le (h.ap h0 b hb).2 m.k.size⟩⟩
theorem rput3 {wm W : World} {B g : Nat} {cs : Array Value} {a : Option Addr} {c : Nat} {l : List Nat} (n V : Nat) (h : RW3 wm W B g cs a c l) (hB : B ≤ W.heap.size) (hV : V ≤ 4) (hn : n < 9223372036854775808) (hl : l.length ≤ 100000000) (v : Int) (hv : (V : Int) = v) (x : Int) (hx : (n : Int) = x) :
    Calls Tryd.prog 52 #[.slice a l.length c, .int .i64 x, .int .i64 v] W fun e w' => ∃ a' c', e = .returned (.slice a' (l ++ numLE n V).length c') ∧ RW3 wm w' B g cs a' c' (l ++ numLE n V) ∧ Mv W w' a a' :=
  (rput_is B n V l a c W h.own hB hV hn hl v hv x hx).mono fun _ _ ⟨a', c', he, ho, hk, ha⟩ => ⟨a', c', he, h.go hk ho, hk, ha⟩
theorem rtext3 {wm W : World} {B g : Nat} {cs : Array Value} {a : Option Addr} {c : Nat} {l : List Nat} (xa : Option Addr) (xn xc : Nat) (m : List Nat) (h : RW3 wm W B g cs a c l) (hB : B ≤ W.heap.size) (hl : l.length ≤ 99000000) (hx : KB W a (xa, xn, xc) m) (hn : xn ≤ 255) :
    Calls Tryd.prog 51 #[.slice a l.length c, .slice xa xn xc] W fun e w' => ∃ a' c', e = .returned (.slice a' (l ++ (numLE xn 1 ++ m)).length c') ∧ RW3 wm w' B g cs a' c' (l ++ (numLE xn 1 ++ m)) ∧ KA W w' (ob a) :=
  (rtext_any B l a c xa xn xc m W h.own hB hl hx.by_ hn (fun h0 b hb => (hx.ap h0 b hb).1)).mono fun _ _ ⟨a', c', he, ho, hk⟩ => ⟨a', c', he, h.go hk ho, hk⟩
theorem rmeta3 {wm W : World} {B g : Nat} {cs : Array Value} {a : Option Addr} {c : Nat} {l : List Nat} (m : MeR) (xa : Option Addr) (xn xc : Nat) (h : RW3 wm W B g cs a c l) (hB : B ≤ W.heap.size) (hl : l.length ≤ 90000000) (hf : MeFits m) (hx : KB W a (xa, xn, xc) m.l) :
    Calls Tryd.prog 53 #[.slice a l.length c, .agg (MC m (xa, xn, xc))] W fun e w' => ∃ a' c', e = .returned (.slice a' (l ++ metaLE m).length c') ∧ RW3 wm w' B g cs a' c' (l ++ metaLE m) ∧ KA W w' (ob a) :=
  (rmeta_any B l a c m xa xn xc W h.own hB hl hf hx.by_ (fun h0 b hb => (hx.ap h0 b hb).1)).mono fun _ _ ⟨a', c', he, ho, hk⟩ => ⟨a', c', he, h.go hk ho, hk⟩
/-- what came in is apart from the row. -/
theorem RW3.kb {wm W : World} {B g : Nat} {cs : Array Value} {a : Option Addr} {c : Nat} {l : List Nat} (h : RW3 wm W B g cs a c l) {x : Option Addr × Nat × Nat} {m : List Nat} (hx : BytesV wm x m) : KB W a x m :=
  ⟨hx.below h.bel, fun h0 b hb => ⟨low_ne h.own h.le hx h0 b hb, Nat.lt_of_lt_of_le (hx.row.lt h0 hb) h.bel.size⟩⟩
/-- a string as bytes, in new memory. -/
structure CvK (w w' : World) (key : ByteArray) (c : Nat) : Prop where
  bel : Below w.heap.size w w'
  by_ : BytesV w' (some ⟨w.heap.size, 0, none⟩, key.size, c) (keyL key)
  lt : w.heap.size < w'.heap.size
theorem conv_key (w : World) (key : ByteArray) (hk : key.size ≤ 1000) : ∃ c w', (Go.convert 9 24 (.string key)).run Tryd.prog w = .ok (.slice (some ⟨w.heap.size, 0, none⟩) key.size c) w' ∧ CvK w w' key c := by
  have hcv := run_bytes_of_string (P := Tryd.prog) w 9 24 5 key Tryd.underlying9 Tryd.underlying24 Tryd.underlying5
  obtain ⟨kc, hkc⟩ : ∃ c, c = grownCap w key.size 0 5 := ⟨_, rfl⟩
  rw [← hkc] at hcv
  have hkc2 : key.size ≤ kc := by rw [hkc]; exact grownCap_leM w _ _
  exact ⟨kc, _, hcv, ((Below.refl w.heap.size w).drew).alloc (Nat.le_refl _) _, key_bytesV (heap_alloc_new w.drew _) hkc2 (by omega), by simp⟩
theorem RW3.cv {wm W W' : World} {B g : Nat} {cs : Array Value} {a : Option Addr} {c : Nat} {l : List Nat} (h : RW3 wm W B g cs a c l) {key : ByteArray} {kc : Nat} (k : CvK W W' key kc) : RW3 wm W' B g cs a c l ∧ KB W' a (some ⟨W.heap.size, 0, none⟩, key.size, kc) (keyL key) :=
  ⟨h.below k.bel, k.by_, fun _ b hb => by
    injection hb with hb
    rw [← hb]
    refine ⟨fun e => ?_, k.lt⟩
    have := (h.own.ge e.symm).2
    simp at this⟩

theorem own_lit3M (w : World) (x y z : Int) : (w.alloc (.cells #[.int .u8 x, .int .u8 y, .int .u8 z] 5)).ownsRow w.heap.size 5 1 (.slice (some ⟨w.heap.size, 0, none⟩) 3 3) 3 [.int .u8 x, .int .u8 y, .int .u8 z] :=
  ⟨rfl, .inr ⟨w.heap.size, 3, #[.int .u8 x, .int .u8 y, .int .u8 z], rfl, Nat.le_refl _, heap_alloc_new w _, by decide, by decide, rfl, rfl⟩⟩
set_option maxRecDepth 100000 in
set_option maxHeartbeats 16000000 in
theorem rbytes_any (M : MsR) (x : Option Addr × Nat × Nat) (sa : Option Addr) (sc : Nat) (ia : Option Addr) (ic : Nat) (w : World) (hf : MsFits M) (hM : MsV w M x sa ia) :
    Calls Tryd.prog 30 #[.agg (MsC M x sa sc ia ic)] w fun e w' => ∃ ad cap, e = .returned (.slice ad (msgLE M).length cap) ∧ OwB w' w.heap.size ad cap (msgLE M) ∧ Below w.heap.size w w' := by
  obtain ⟨k, f, t, op, cd, key, m, sy, it⟩ := M
  obtain ⟨xa, xn, xc⟩ := x
  obtain ⟨k0, k1, f0, f1, t0, t1, o0, o1, d0, d1, ks, mf, sn, sf, inn, jf⟩ := hf
  simp only at k0 k1 f0 f1 t0 t1 o0 o1 d0 d1 ks mf sn sf inn jf
  have hMx : BytesV w (xa, xn, xc) m.l := hM.x
  have hMs : SyV w sa sy.length sy := hM.s
  have hMi : ItV w ia it.length it := hM.i
  obtain ⟨SN, hSN⟩ : ∃ n, n = sy.length := ⟨_, rfl⟩
  obtain ⟨IN, hIN⟩ : ∃ n, n = it.length := ⟨_, rfl⟩
  simp only [← hSN] at hMs sn
  simp only [← hIN] at hMi inn
  obtain ⟨k, rfl⟩ := Int.eq_ofNat_of_zero_le k0
  obtain ⟨f, rfl⟩ := Int.eq_ofNat_of_zero_le f0
  obtain ⟨t, rfl⟩ := Int.eq_ofNat_of_zero_le t0
  obtain ⟨op, rfl⟩ := Int.eq_ofNat_of_zero_le o0
  obtain ⟨cd, rfl⟩ := Int.eq_ofNat_of_zero_le d0
  obtain ⟨cs, hcs⟩ : ∃ cs : Array Value, cs = #[.int .i64 (k : Nat), .int .i64 (f : Nat), .int .i64 (t : Nat), .int .i64 (op : Nat), .int .i64 (cd : Nat), .string key, .int .i64 m.N, .int .i64 m.c, .int .i64 m.s, .int .i64 m.t, .bool m.d, .slice xa xn xc, .slice sa SN sc, .slice ia IN ic] := ⟨_, rfl⟩
  have hcs2 : MsC ⟨k, f, t, op, cd, key, m, sy, it⟩ (xa, xn, xc) sa sc ia ic = cs := by rw [hcs, hSN, hIN]
  rw [hcs2]
  have hcv : ∀ V : World, V.heap[w.heap.size]? = some (.cells cs MMT (0, 0)) → V.heap[w.heap.size]? = some (.cells #[.int .i64 (k : Nat), .int .i64 (f : Nat), .int .i64 (t : Nat), .int .i64 (op : Nat), .int .i64 (cd : Nat), .string key, .int .i64 m.N, .int .i64 m.c, .int .i64 m.s, .int .i64 m.t, .bool m.d, .slice xa xn xc, .slice sa SN sc, .slice ia IN ic] MMT (0, 0)) := fun V h => by rw [h, hcs]
  have HCV := Lib.hid hcv
  have hwk : IntKind.u8.wrap (k : Int) = (k : Int) := by simp [IntKind.wrap, IntKind.bits, IntKind.signed]; omega
  have hwf : IntKind.u8.wrap (f : Int) = (f : Int) := by simp [IntKind.wrap, IntKind.bits, IntKind.signed]; omega
  have hwt : IntKind.u8.wrap (t : Int) = (t : Int) := by simp [IntKind.wrap, IntKind.bits, IntKind.signed]; omega
  have HMX := Lib.hid hMx
  have HMS := Lib.hid hMs
  have HMI := Lib.hid hMi
  have HSN := Lib.hid hSN
  have HIN := Lib.hid hIN
  have HSF := Lib.hid sf
  have HJF := Lib.hid jf
  have HMF := Lib.hid mf
  have hm12 : (metaLE m).length ≤ 44 := by rw [metaLE_len]; have := mf.l32; omega
  have hkc := conv_key
  have HKC := Lib.hid hkc
  obtain ⟨w0, hw0⟩ : ∃ w0, w0 = w.alloc (.cells cs MMT) := ⟨_, rfl⟩
  have h0 : w0.heap[w.heap.size]? = some (.cells cs MMT (0, 0)) := by rw [hw0]; exact heap_alloc_new w _
  have b0 : Below w.heap.size w w0 := by rw [hw0]; exact below_alloc w _
  have HS0 := Lib.hid (show w0.heap.size = w.heap.size + 1 by rw [hw0]; simp)
  have HW00 := Lib.hid hw0
  have H00 := Lib.hid h0
  have B00 := Lib.hid b0
  have hd0 := HCV.out _ h0
  clear hM hMx hMs hMi hcs2 sf jf mf hSN hIN hw0 hcs hcv hkc h0 b0
  go_enter Tryd.func30, Tryd.ntmps30
  go_upto_region 1 with fail
  rw [← HW00.out]
  have q0 : w0.cell? ⟨w.heap.size, 0, none⟩ = some (.int .i64 (k : Nat)) := cell_of_row _ _ 0 _ _ _ hd0
  have q1 : w0.cell? ⟨w.heap.size, 1, none⟩ = some (.int .i64 (f : Nat)) := cell_of_row _ _ 1 _ _ _ hd0
  have q2 : w0.cell? ⟨w.heap.size, 2, none⟩ = some (.int .i64 (t : Nat)) := cell_of_row _ _ 2 _ _ _ hd0
  go_upto_region 2 with fail
  obtain ⟨w1, hw1⟩ : ∃ x, x = w0.alloc (.cells #[.int .u8 (k : Nat), .int .u8 (f : Nat), .int .u8 (t : Nat)] 5) := ⟨_, rfl⟩
  obtain ⟨L1, hL1⟩ : ∃ L, L = [k, f, t] := ⟨_, rfl⟩
  have hl1 : L1.length = 3 := by rw [hL1]; rfl
  obtain ⟨a1, ha1⟩ : ∃ a : Option Addr, a = some ⟨w0.heap.size, 0, none⟩ := ⟨_, rfl⟩
  have HW1 : Hid (RW3 w w1 w.heap.size w.heap.size cs a1 3 L1) := Lib.hid ⟨by
    unfold OwB
    rw [hl1, hL1, ha1, hw1]
    exact ownsRow_base (own_lit3M w0 _ _ _) (by have := HS0.out; omega), by rw [hw1]; exact B00.out.trans ((below_alloc w0 _).mono (by have := HS0.out; omega)), by rw [hw1]; exact ((below_alloc w0 _).block _ (by have := HS0.out; omega)).trans H00.out, Nat.le_refl _⟩
  have hs1 : w.heap.size + 2 ≤ w1.heap.size := by rw [hw1]; simp; have := HS0.out; omega
  rw [← hw1, ← ha1]
  have HL1 := Lib.hid hL1
  clear q0 q1 q2 hd0 hw1 hL1 ha1 hwk hwf hwt
  obtain ⟨L6, hL6⟩ : ∃ L, L = L1 ++ numLE op 4 ++ numLE cd 4 ++ (numLE key.size 1 ++ keyL key) := ⟨_, rfl⟩
  have hl6 : L6.length ≤ 44 := by rw [hL6]; simp only [List.length_append, numLE_len, keyL_len]; omega
  have HL6 := Lib.hid hL6
  clear hL6
  go_cut [3] (fun v wx => ∃ a c, v = .slice a L6.length c ∧ Hid (RW3 w wx w.heap.size w.heap.size cs a c L6) ∧ w.heap.size + 2 ≤ wx.heap.size)
  case first =>
    have P0 : w1.drew.cell? ⟨w.heap.size, 3, none⟩ = some (.int .i64 (op : Nat)) ∧ w1.drew.cell? ⟨w.heap.size, 4, none⟩ = some (.int .i64 (cd : Nat)) ∧ w1.drew.cell? ⟨w.heap.size, 5, none⟩ = some (.string key) := ⟨cell_of_row _ _ 3 _ _ _ (HCV.out w1 HW1.out.hh), cell_of_row _ _ 4 _ _ _ (HCV.out w1 HW1.out.hh), cell_of_row _ _ 5 _ _ _ (HCV.out w1 HW1.out.hh)⟩
    have HW1' : Hid (RW3 w w1.drew w.heap.size w.heap.size cs a1 3 L1) := Lib.hid (HW1.out.below (drewBelow w1))
    have hs1d : w1.drew.heap.size = w1.heap.size := rfl
    refine GoX.start 11 (fun w' => w'.cell? ⟨w.heap.size, 3, none⟩ = some (.int .i64 (op : Nat)) ∧ w'.cell? ⟨w.heap.size, 4, none⟩ = some (.int .i64 (cd : Nat)) ∧ w'.cell? ⟨w.heap.size, 5, none⟩ = some (.string key)) (by kernel_rfl) ?_
    refine GoX.take 0 rfl (by kernel_rfl) (by kernel_rfl) (by rfl) (fun _ _ _ h => h) (v := ?tv0g1) P0 ?ty0g1 ?tr0g1
    case ty0g1 => (intro w hSw; (try dsimp only at hSw); go_simp; first | done | with_reducible rfl)
    simp only [Act.put, List.setIfInBounds_toArray, List.set_cons_zero, List.set_cons_succ]
    refine GoX.take 1 rfl (by kernel_rfl) (by kernel_rfl) (by rfl) (fun _ _ _ h => h) (v := ?tv1g2) P0 ?ty1g2 ?tr1g2
    case ty1g2 => (intro w hSw; (try dsimp only at hSw); go_simp; first | done | with_reducible rfl)
    simp only [Act.put, List.setIfInBounds_toArray, List.set_cons_zero, List.set_cons_succ]
    refine GoX.take 2 rfl (by kernel_rfl) (by kernel_rfl) (by rfl) (fun _ _ _ h => h) (v := ?tv2g3) P0 ?ty2g3 ?tr2g3
    case ty2g3 => (intro w hSw; (try dsimp only at hSw); go_simp; first | done | with_reducible rfl)
    simp only [Act.put, List.setIfInBounds_toArray, List.set_cons_zero, List.set_cons_succ]
    refine GoX.take 4 rfl (by kernel_rfl) (by kernel_rfl) (by rfl) (fun _ _ _ h => h) (v := ?tv4g4) P0 ?ty4g4 ?tr4g4
    case ty4g4 => (intro w hSw; (try dsimp only at hSw); go_simp; first | done | with_reducible rfl)
    simp only [Act.put, List.setIfInBounds_toArray, List.set_cons_zero, List.set_cons_succ]
    refine GoX.take 5 rfl (by kernel_rfl) (by kernel_rfl) (by rfl) (fun _ _ _ h => h) (v := ?tv5g5) P0 ?ty5g5 ?tr5g5
    case ty5g5 => (intro w hSw; (try dsimp only at hSw); go_simp; first | done | with_reducible rfl)
    simp only [Act.put, List.setIfInBounds_toArray, List.set_cons_zero, List.set_cons_succ]
    refine GoX.take 7 rfl (by kernel_rfl) (by kernel_rfl) (by rfl) (fun _ _ _ h => h) (v := ?tv7g6) P0 ?ty7g6 ?tr7g6
    case ty7g6 => (intro w hSw; (try dsimp only at hSw); go_simp; first | done | with_reducible rfl)
    simp only [Act.put, List.setIfInBounds_toArray, List.set_cons_zero, List.set_cons_succ]
    refine GoX.take 8 rfl (by kernel_rfl) (by kernel_rfl) (by rfl) (fun _ _ _ h => h) (v := ?tv8g7) P0 ?ty8g7 ?tr8g7
    case ty8g7 => (intro w hSw; (try dsimp only at hSw); go_simp; first | done | with_reducible rfl)
    simp only [Act.put, List.setIfInBounds_toArray, List.set_cons_zero, List.set_cons_succ]
    refine GoX.two 3 9 rfl rfl (by kernel_rfl) (by decide) (by decide) (fun K hK => ?_) (fun K hK => ?_)
    · rw [if_pos (by rfl)]
      go_simp
      have KN := rput3 op 4 HW1'.out (by omega) (by omega) (by omega) (by omega) 4 rfl _ rfl
      obtain ⟨L1x, hL1x⟩ : ∃ X, X = L1 ++ numLE op 4 := ⟨_, rfl⟩
      have hlL1x : L1x.length ≤ 7 := by rw [hL1x]; simp only [List.length_append, numLE_len]; omega
      rw [← hL1x, hl1] at KN
      have HL1x := Lib.hid hL1x
      clear hL1x
      (with_reducible refine KN.mono ?_)
      rintro e w1x ⟨a1, c1, rfl, hr, hm⟩
      have HR1 := Lib.hid hr
      have hsz1 : w.heap.size + 2 ≤ w1x.heap.size := by have := hm.k.size; omega
      clear KN hr hm
      have P1 : w1x.cell? ⟨w.heap.size, 3, none⟩ = some (.int .i64 (op : Nat)) ∧ w1x.cell? ⟨w.heap.size, 4, none⟩ = some (.int .i64 (cd : Nat)) ∧ w1x.cell? ⟨w.heap.size, 5, none⟩ = some (.string key) := ⟨cell_of_row _ _ 3 _ _ _ (HCV.out _ HR1.out.hh), cell_of_row _ _ 4 _ _ _ (HCV.out _ HR1.out.hh), cell_of_row _ _ 5 _ _ _ (HCV.out _ HR1.out.hh)⟩
      refine hK.out _ _ P1 (fun _ => ?_)
      clear hK K
      refine GoX.two 6 9 rfl rfl (by kernel_rfl) (by decide) (by decide) (fun K hK => ?_) (fun K hK => ?_)
      · rw [if_pos (by rfl)]
        go_simp
        have KN := rput3 cd 4 HR1.out (by omega) (by omega) (by omega) (by have := hlL1x; omega) 4 rfl _ rfl
        obtain ⟨L2x, hL2x⟩ : ∃ X, X = L1x ++ numLE cd 4 := ⟨_, rfl⟩
        have hlL2x : L2x.length ≤ 11 := by rw [hL2x]; simp only [List.length_append, numLE_len]; omega
        rw [← hL2x] at KN
        have HL2x := Lib.hid hL2x
        clear hL2x
        (with_reducible refine KN.mono ?_)
        rintro e w2x ⟨a2, c2, rfl, hr, hm⟩
        have HR2 := Lib.hid hr
        have hsz2 : w.heap.size + 2 ≤ w2x.heap.size := by have := hm.k.size; omega
        clear KN hr hm
        have P2 : w2x.cell? ⟨w.heap.size, 3, none⟩ = some (.int .i64 (op : Nat)) ∧ w2x.cell? ⟨w.heap.size, 4, none⟩ = some (.int .i64 (cd : Nat)) ∧ w2x.cell? ⟨w.heap.size, 5, none⟩ = some (.string key) := ⟨cell_of_row _ _ 3 _ _ _ (HCV.out _ HR2.out.hh), cell_of_row _ _ 4 _ _ _ (HCV.out _ HR2.out.hh), cell_of_row _ _ 5 _ _ _ (HCV.out _ HR2.out.hh)⟩
        refine hK.out _ _ P2 (fun _ => ?_)
        clear hK K
        refine GoX.one 9 rfl (by kernel_rfl) (by decide) (fun K hK => ?_)
        rw [if_pos (by rfl)]
        go_simp
        obtain ⟨kc3, w3x, hcv, hk⟩ := HKC.out w2x key (by omega)
        go_simp
        have hr := HR2.out.cv hk
        have HR3 := Lib.hid hr.1
        have HKB3 := Lib.hid hr.2
        have hsz3 : w.heap.size + 2 ≤ w3x.heap.size := by have := hk.bel.size; omega
        clear hcv hk hr
        have P3 : w3x.cell? ⟨w.heap.size, 3, none⟩ = some (.int .i64 (op : Nat)) ∧ w3x.cell? ⟨w.heap.size, 4, none⟩ = some (.int .i64 (cd : Nat)) ∧ w3x.cell? ⟨w.heap.size, 5, none⟩ = some (.string key) := ⟨cell_of_row _ _ 3 _ _ _ (HCV.out _ HR3.out.hh), cell_of_row _ _ 4 _ _ _ (HCV.out _ HR3.out.hh), cell_of_row _ _ 5 _ _ _ (HCV.out _ HR3.out.hh)⟩
        refine hK.out _ _ P3 (fun _ => ?_)
        clear hK K
        refine GoX.one 10 rfl (by kernel_rfl) (by decide) (fun K hK => ?_)
        rw [if_pos (by rfl)]
        go_simp
        have KN := rtext3 _ _ _ _ HR3.out (by omega) (by omega) HKB3.out (by omega)
        rw [show L2x ++ (numLE key.size 1 ++ keyL key) = L6 by rw [HL6.out, HL2x.out, HL1x.out]] at KN
        (with_reducible refine KN.mono ?_)
        rintro e w4x ⟨a4, c4, rfl, hr, hm⟩
        have HR4 := Lib.hid hr
        have hsz4 : w.heap.size + 2 ≤ w4x.heap.size := by have := hm.size; omega
        clear KN hr hm
        have P4 : w4x.cell? ⟨w.heap.size, 3, none⟩ = some (.int .i64 (op : Nat)) ∧ w4x.cell? ⟨w.heap.size, 4, none⟩ = some (.int .i64 (cd : Nat)) ∧ w4x.cell? ⟨w.heap.size, 5, none⟩ = some (.string key) := ⟨cell_of_row _ _ 3 _ _ _ (HCV.out _ HR4.out.hh), cell_of_row _ _ 4 _ _ _ (HCV.out _ HR4.out.hh), cell_of_row _ _ 5 _ _ _ (HCV.out _ HR4.out.hh)⟩
        refine hK.out _ _ P4 (fun _ => ?_)
        clear hK K
        refine GoX.last 11 rfl (by kernel_rfl) (by kernel_rfl) (by decide) ?_
        go_wp2
        go_meet
        exact ⟨_, _, rfl, HR4, by omega⟩
      · rw [if_pos (by rfl)]
        go_simp
        obtain ⟨kc6, w6x, hcv, hk⟩ := HKC.out w1x key (by omega)
        go_simp
        have hr := HR1.out.cv hk
        have HR6 := Lib.hid hr.1
        have HKB6 := Lib.hid hr.2
        have hsz6 : w.heap.size + 2 ≤ w6x.heap.size := by have := hk.bel.size; omega
        clear hcv hk hr
        have P6 : w6x.cell? ⟨w.heap.size, 3, none⟩ = some (.int .i64 (op : Nat)) ∧ w6x.cell? ⟨w.heap.size, 4, none⟩ = some (.int .i64 (cd : Nat)) ∧ w6x.cell? ⟨w.heap.size, 5, none⟩ = some (.string key) := ⟨cell_of_row _ _ 3 _ _ _ (HCV.out _ HR6.out.hh), cell_of_row _ _ 4 _ _ _ (HCV.out _ HR6.out.hh), cell_of_row _ _ 5 _ _ _ (HCV.out _ HR6.out.hh)⟩
        refine hK.out _ _ P6 (fun _ => ?_)
        clear hK K
        refine GoX.one 6 rfl (by kernel_rfl) (by decide) (fun K hK => ?_)
        rw [if_pos (by rfl)]
        go_simp
        have KN := rput3 cd 4 HR6.out (by omega) (by omega) (by omega) (by have := hlL1x; omega) 4 rfl _ rfl
        obtain ⟨L7x, hL7x⟩ : ∃ X, X = L1x ++ numLE cd 4 := ⟨_, rfl⟩
        have hlL7x : L7x.length ≤ 11 := by rw [hL7x]; simp only [List.length_append, numLE_len]; omega
        rw [← hL7x] at KN
        have HL7x := Lib.hid hL7x
        clear hL7x
        (with_reducible refine KN.mono ?_)
        rintro e w7x ⟨a7, c7, rfl, hr, hm⟩
        have HR7 := Lib.hid hr
        have hsz7 : w.heap.size + 2 ≤ w7x.heap.size := by have := hm.k.size; omega
        have HKB7 := Lib.hid (HKB6.out.mv hm)
        clear KN hr hm
        have P7 : w7x.cell? ⟨w.heap.size, 3, none⟩ = some (.int .i64 (op : Nat)) ∧ w7x.cell? ⟨w.heap.size, 4, none⟩ = some (.int .i64 (cd : Nat)) ∧ w7x.cell? ⟨w.heap.size, 5, none⟩ = some (.string key) := ⟨cell_of_row _ _ 3 _ _ _ (HCV.out _ HR7.out.hh), cell_of_row _ _ 4 _ _ _ (HCV.out _ HR7.out.hh), cell_of_row _ _ 5 _ _ _ (HCV.out _ HR7.out.hh)⟩
        refine hK.out _ _ P7 (fun _ => ?_)
        clear hK K
        refine GoX.one 10 rfl (by kernel_rfl) (by decide) (fun K hK => ?_)
        rw [if_pos (by rfl)]
        go_simp
        have KN := rtext3 _ _ _ _ HR7.out (by omega) (by omega) HKB7.out (by omega)
        rw [show L7x ++ (numLE key.size 1 ++ keyL key) = L6 by rw [HL6.out, HL7x.out, HL1x.out]] at KN
        (with_reducible refine KN.mono ?_)
        rintro e w8x ⟨a8, c8, rfl, hr, hm⟩
        have HR8 := Lib.hid hr
        have hsz8 : w.heap.size + 2 ≤ w8x.heap.size := by have := hm.size; omega
        clear KN hr hm
        have P8 : w8x.cell? ⟨w.heap.size, 3, none⟩ = some (.int .i64 (op : Nat)) ∧ w8x.cell? ⟨w.heap.size, 4, none⟩ = some (.int .i64 (cd : Nat)) ∧ w8x.cell? ⟨w.heap.size, 5, none⟩ = some (.string key) := ⟨cell_of_row _ _ 3 _ _ _ (HCV.out _ HR8.out.hh), cell_of_row _ _ 4 _ _ _ (HCV.out _ HR8.out.hh), cell_of_row _ _ 5 _ _ _ (HCV.out _ HR8.out.hh)⟩
        refine hK.out _ _ P8 (fun _ => ?_)
        clear hK K
        refine GoX.last 11 rfl (by kernel_rfl) (by kernel_rfl) (by decide) ?_
        go_wp2
        go_meet
        exact ⟨_, _, rfl, HR8, by omega⟩
    · rw [if_pos (by rfl)]
      go_simp
      obtain ⟨kc10, w10x, hcv, hk⟩ := HKC.out w1.drew key (by omega)
      go_simp
      have hr := HW1'.out.cv hk
      rw [show w1.drew.heap.size = w1.heap.size from rfl] at hr
      have HR10 := Lib.hid hr.1
      have HKB10 := Lib.hid hr.2
      have hsz10 : w.heap.size + 2 ≤ w10x.heap.size := by have := hk.bel.size; omega
      clear hcv hk hr
      have P10 : w10x.cell? ⟨w.heap.size, 3, none⟩ = some (.int .i64 (op : Nat)) ∧ w10x.cell? ⟨w.heap.size, 4, none⟩ = some (.int .i64 (cd : Nat)) ∧ w10x.cell? ⟨w.heap.size, 5, none⟩ = some (.string key) := ⟨cell_of_row _ _ 3 _ _ _ (HCV.out _ HR10.out.hh), cell_of_row _ _ 4 _ _ _ (HCV.out _ HR10.out.hh), cell_of_row _ _ 5 _ _ _ (HCV.out _ HR10.out.hh)⟩
      refine hK.out _ _ P10 (fun _ => ?_)
      clear hK K
      refine GoX.one 3 rfl (by kernel_rfl) (by decide) (fun K hK => ?_)
      rw [if_pos (by rfl)]
      go_simp
      have KN := rput3 op 4 HR10.out (by omega) (by omega) (by omega) (by omega) 4 rfl _ rfl
      obtain ⟨L11x, hL11x⟩ : ∃ X, X = L1 ++ numLE op 4 := ⟨_, rfl⟩
      have hlL11x : L11x.length ≤ 7 := by rw [hL11x]; simp only [List.length_append, numLE_len]; omega
      rw [← hL11x, hl1] at KN
      have HL11x := Lib.hid hL11x
      clear hL11x
      (with_reducible refine KN.mono ?_)
      rintro e w11x ⟨a11, c11, rfl, hr, hm⟩
      have HR11 := Lib.hid hr
      have hsz11 : w.heap.size + 2 ≤ w11x.heap.size := by have := hm.k.size; omega
      have HKB11 := Lib.hid (HKB10.out.mv hm)
      clear KN hr hm
      have P11 : w11x.cell? ⟨w.heap.size, 3, none⟩ = some (.int .i64 (op : Nat)) ∧ w11x.cell? ⟨w.heap.size, 4, none⟩ = some (.int .i64 (cd : Nat)) ∧ w11x.cell? ⟨w.heap.size, 5, none⟩ = some (.string key) := ⟨cell_of_row _ _ 3 _ _ _ (HCV.out _ HR11.out.hh), cell_of_row _ _ 4 _ _ _ (HCV.out _ HR11.out.hh), cell_of_row _ _ 5 _ _ _ (HCV.out _ HR11.out.hh)⟩
      refine hK.out _ _ P11 (fun _ => ?_)
      clear hK K
      refine GoX.one 6 rfl (by kernel_rfl) (by decide) (fun K hK => ?_)
      rw [if_pos (by rfl)]
      go_simp
      have KN := rput3 cd 4 HR11.out (by omega) (by omega) (by omega) (by have := hlL11x; omega) 4 rfl _ rfl
      obtain ⟨L12x, hL12x⟩ : ∃ X, X = L11x ++ numLE cd 4 := ⟨_, rfl⟩
      have hlL12x : L12x.length ≤ 11 := by rw [hL12x]; simp only [List.length_append, numLE_len]; omega
      rw [← hL12x] at KN
      have HL12x := Lib.hid hL12x
      clear hL12x
      (with_reducible refine KN.mono ?_)
      rintro e w12x ⟨a12, c12, rfl, hr, hm⟩
      have HR12 := Lib.hid hr
      have hsz12 : w.heap.size + 2 ≤ w12x.heap.size := by have := hm.k.size; omega
      have HKB12 := Lib.hid (HKB11.out.mv hm)
      clear KN hr hm
      have P12 : w12x.cell? ⟨w.heap.size, 3, none⟩ = some (.int .i64 (op : Nat)) ∧ w12x.cell? ⟨w.heap.size, 4, none⟩ = some (.int .i64 (cd : Nat)) ∧ w12x.cell? ⟨w.heap.size, 5, none⟩ = some (.string key) := ⟨cell_of_row _ _ 3 _ _ _ (HCV.out _ HR12.out.hh), cell_of_row _ _ 4 _ _ _ (HCV.out _ HR12.out.hh), cell_of_row _ _ 5 _ _ _ (HCV.out _ HR12.out.hh)⟩
      refine hK.out _ _ P12 (fun _ => ?_)
      clear hK K
      refine GoX.one 10 rfl (by kernel_rfl) (by decide) (fun K hK => ?_)
      rw [if_pos (by rfl)]
      go_simp
      have KN := rtext3 _ _ _ _ HR12.out (by omega) (by omega) HKB12.out (by omega)
      rw [show L12x ++ (numLE key.size 1 ++ keyL key) = L6 by rw [HL6.out, HL12x.out, HL11x.out]] at KN
      (with_reducible refine KN.mono ?_)
      rintro e w13x ⟨a13, c13, rfl, hr, hm⟩
      have HR13 := Lib.hid hr
      have hsz13 : w.heap.size + 2 ≤ w13x.heap.size := by have := hm.size; omega
      clear KN hr hm
      have P13 : w13x.cell? ⟨w.heap.size, 3, none⟩ = some (.int .i64 (op : Nat)) ∧ w13x.cell? ⟨w.heap.size, 4, none⟩ = some (.int .i64 (cd : Nat)) ∧ w13x.cell? ⟨w.heap.size, 5, none⟩ = some (.string key) := ⟨cell_of_row _ _ 3 _ _ _ (HCV.out _ HR13.out.hh), cell_of_row _ _ 4 _ _ _ (HCV.out _ HR13.out.hh), cell_of_row _ _ 5 _ _ _ (HCV.out _ HR13.out.hh)⟩
      refine hK.out _ _ P13 (fun _ => ?_)
      clear hK K
      refine GoX.last 11 rfl (by kernel_rfl) (by kernel_rfl) (by decide) ?_
      go_wp2
      go_meet
      exact ⟨_, _, rfl, HR13, by omega⟩
  case rest =>
    rename World => w2
    obtain ⟨a2, c2, rfl, HW2, hs2⟩ := hcut
    clear HW1 hs1
    obtain ⟨L7, hL7⟩ : ∃ X, X = L6 ++ metaLE m := ⟨_, rfl⟩
    have hl7 : L7.length ≤ 88 := by rw [hL7]; simp only [List.length_append]; omega
    have HL7 := Lib.hid hL7
    obtain ⟨L8, hL8⟩ : ∃ X, X = L7 ++ numLE SN 2 := ⟨_, rfl⟩
    have hl8 : L8.length ≤ 90 := by rw [hL8]; simp only [List.length_append, numLE_len]; omega
    have HL8 := Lib.hid hL8
    clear hL7 hL8
    have HW2' : Hid (RW3 w w2.drew w.heap.size w.heap.size cs a2 c2 L6) := Lib.hid (HW2.out.below (drewBelow w2))
    have hs2d : w2.drew.heap.size = w2.heap.size := rfl
    go_upto_region 3 with fail
    go_cut [3] (fun v wx => ∃ a c, v = .slice a L8.length c ∧ Hid (RW3 w wx w.heap.size w.heap.size cs a c L8) ∧ w.heap.size + 2 ≤ wx.heap.size)
    case first =>
      have P0 : w2.drew.cell? ⟨w.heap.size, 6, none⟩ = some (.int .i64 m.N) ∧ w2.drew.cell? ⟨w.heap.size, 7, none⟩ = some (.int .i64 m.c) ∧ w2.drew.cell? ⟨w.heap.size, 8, none⟩ = some (.int .i64 m.s) ∧ w2.drew.cell? ⟨w.heap.size, 9, none⟩ = some (.int .i64 m.t) ∧ w2.drew.cell? ⟨w.heap.size, 10, none⟩ = some (.bool m.d) ∧ w2.drew.cell? ⟨w.heap.size, 11, none⟩ = some (.slice xa xn xc) ∧ w2.drew.cell? ⟨w.heap.size, 12, none⟩ = some (.slice sa SN sc) := ⟨cell_of_row _ _ 6 _ _ _ (HCV.out w2 HW2.out.hh), cell_of_row _ _ 7 _ _ _ (HCV.out w2 HW2.out.hh), cell_of_row _ _ 8 _ _ _ (HCV.out w2 HW2.out.hh), cell_of_row _ _ 9 _ _ _ (HCV.out w2 HW2.out.hh), cell_of_row _ _ 10 _ _ _ (HCV.out w2 HW2.out.hh), cell_of_row _ _ 11 _ _ _ (HCV.out w2 HW2.out.hh), cell_of_row _ _ 12 _ _ _ (HCV.out w2 HW2.out.hh)⟩
      refine GoX.start 8 (fun w' => w'.cell? ⟨w.heap.size, 6, none⟩ = some (.int .i64 m.N) ∧ w'.cell? ⟨w.heap.size, 7, none⟩ = some (.int .i64 m.c) ∧ w'.cell? ⟨w.heap.size, 8, none⟩ = some (.int .i64 m.s) ∧ w'.cell? ⟨w.heap.size, 9, none⟩ = some (.int .i64 m.t) ∧ w'.cell? ⟨w.heap.size, 10, none⟩ = some (.bool m.d) ∧ w'.cell? ⟨w.heap.size, 11, none⟩ = some (.slice xa xn xc) ∧ w'.cell? ⟨w.heap.size, 12, none⟩ = some (.slice sa SN sc)) (by kernel_rfl) ?_
      refine GoX.take 0 rfl (by kernel_rfl) (by kernel_rfl) (by rfl) (fun _ _ _ h => h) (v := ?tv0g8) P0 ?ty0g8 ?tr0g8
      case ty0g8 => (intro w hSw; (try dsimp only at hSw); go_simp; first | done | with_reducible rfl)
      simp only [Act.put, List.setIfInBounds_toArray, List.set_cons_zero, List.set_cons_succ]
      refine GoX.take 1 rfl (by kernel_rfl) (by kernel_rfl) (by rfl) (fun _ _ _ h => h) (v := ?tv1g9) P0 ?ty1g9 ?tr1g9
      case ty1g9 => (intro w hSw; (try dsimp only at hSw); go_simp; first | done | with_reducible rfl)
      simp only [Act.put, List.setIfInBounds_toArray, List.set_cons_zero, List.set_cons_succ]
      refine GoX.take 2 rfl (by kernel_rfl) (by kernel_rfl) (by rfl) (fun _ _ _ h => h) (v := ?tv2g10) P0 ?ty2g10 ?tr2g10
      case ty2g10 => (intro w hSw; (try dsimp only at hSw); go_simp; first | done | with_reducible rfl)
      simp only [Act.put, List.setIfInBounds_toArray, List.set_cons_zero, List.set_cons_succ]
      refine GoX.take 4 rfl (by kernel_rfl) (by kernel_rfl) (by rfl) (fun _ _ _ h => h) (v := ?tv4g11) P0 ?ty4g11 ?tr4g11
      case ty4g11 => (intro w hSw; (try dsimp only at hSw); go_simp; first | done | with_reducible rfl)
      simp only [Act.put, List.setIfInBounds_toArray, List.set_cons_zero, List.set_cons_succ]
      refine GoX.take 5 rfl (by kernel_rfl) (by kernel_rfl) (by rfl) (fun _ _ _ h => h) (v := ?tv5g12) P0 ?ty5g12 ?tr5g12
      case ty5g12 => (intro w hSw; (try dsimp only at hSw); go_simp; first | done | with_reducible rfl)
      simp only [Act.put, List.setIfInBounds_toArray, List.set_cons_zero, List.set_cons_succ]
      refine GoX.take 6 rfl (by kernel_rfl) (by kernel_rfl) (by rfl) (fun _ _ _ h => h) (v := ?tv6g13) P0 ?ty6g13 ?tr6g13
      case ty6g13 => (intro w hSw; (try dsimp only at hSw); go_simp; first | done | with_reducible rfl)
      simp only [Act.put, List.setIfInBounds_toArray, List.set_cons_zero, List.set_cons_succ]
      refine GoX.one 3 rfl (by kernel_rfl) (by decide) (fun K hK => ?_)
      rw [if_pos (by rfl)]
      go_simp
      have KN := rmeta3 m xa xn xc HW2'.out (by omega) (by omega) HMF.out (HW2'.out.kb HMX.out)
      rw [← HL7.out] at KN
      (with_reducible refine KN.mono ?_)
      rintro e w21x ⟨a21, c21, rfl, hr, hm⟩
      have HR21 := Lib.hid hr
      have hsz21 : w.heap.size + 2 ≤ w21x.heap.size := by have := hm.size; omega
      clear KN hr hm
      have P21 : w21x.cell? ⟨w.heap.size, 6, none⟩ = some (.int .i64 m.N) ∧ w21x.cell? ⟨w.heap.size, 7, none⟩ = some (.int .i64 m.c) ∧ w21x.cell? ⟨w.heap.size, 8, none⟩ = some (.int .i64 m.s) ∧ w21x.cell? ⟨w.heap.size, 9, none⟩ = some (.int .i64 m.t) ∧ w21x.cell? ⟨w.heap.size, 10, none⟩ = some (.bool m.d) ∧ w21x.cell? ⟨w.heap.size, 11, none⟩ = some (.slice xa xn xc) ∧ w21x.cell? ⟨w.heap.size, 12, none⟩ = some (.slice sa SN sc) := ⟨cell_of_row _ _ 6 _ _ _ (HCV.out _ HR21.out.hh), cell_of_row _ _ 7 _ _ _ (HCV.out _ HR21.out.hh), cell_of_row _ _ 8 _ _ _ (HCV.out _ HR21.out.hh), cell_of_row _ _ 9 _ _ _ (HCV.out _ HR21.out.hh), cell_of_row _ _ 10 _ _ _ (HCV.out _ HR21.out.hh), cell_of_row _ _ 11 _ _ _ (HCV.out _ HR21.out.hh), cell_of_row _ _ 12 _ _ _ (HCV.out _ HR21.out.hh)⟩
      refine hK.out _ _ P21 (fun _ => ?_)
      clear hK K
      refine GoX.one 7 rfl (by kernel_rfl) (by decide) (fun K hK => ?_)
      rw [if_pos (by rfl)]
      go_simp
      have KN := rput3 SN 2 HR21.out (by omega) (by omega) (by omega) (by omega) 2 rfl _ rfl
      rw [← HL8.out] at KN
      (with_reducible refine KN.mono ?_)
      rintro e w22x ⟨a22, c22, rfl, hr, hm⟩
      have HR22 := Lib.hid hr
      have hsz22 : w.heap.size + 2 ≤ w22x.heap.size := by have := hm.k.size; omega
      clear KN hr hm
      have P22 : w22x.cell? ⟨w.heap.size, 6, none⟩ = some (.int .i64 m.N) ∧ w22x.cell? ⟨w.heap.size, 7, none⟩ = some (.int .i64 m.c) ∧ w22x.cell? ⟨w.heap.size, 8, none⟩ = some (.int .i64 m.s) ∧ w22x.cell? ⟨w.heap.size, 9, none⟩ = some (.int .i64 m.t) ∧ w22x.cell? ⟨w.heap.size, 10, none⟩ = some (.bool m.d) ∧ w22x.cell? ⟨w.heap.size, 11, none⟩ = some (.slice xa xn xc) ∧ w22x.cell? ⟨w.heap.size, 12, none⟩ = some (.slice sa SN sc) := ⟨cell_of_row _ _ 6 _ _ _ (HCV.out _ HR22.out.hh), cell_of_row _ _ 7 _ _ _ (HCV.out _ HR22.out.hh), cell_of_row _ _ 8 _ _ _ (HCV.out _ HR22.out.hh), cell_of_row _ _ 9 _ _ _ (HCV.out _ HR22.out.hh), cell_of_row _ _ 10 _ _ _ (HCV.out _ HR22.out.hh), cell_of_row _ _ 11 _ _ _ (HCV.out _ HR22.out.hh), cell_of_row _ _ 12 _ _ _ (HCV.out _ HR22.out.hh)⟩
      refine hK.out _ _ P22 (fun _ => ?_)
      clear hK K
      refine GoX.last 8 rfl (by kernel_rfl) (by kernel_rfl) (by decide) ?_
      go_wp2
      go_meet
      exact ⟨_, _, rfl, HR22, by omega⟩
    case rest =>
    clear HW2 HW2' hs2 hs2d
    rename World => w3
    obtain ⟨a3, c3, rfl, HW3, hs3⟩ := hcut
    have HL0 : Hid (L8 = L8 ++ ((sy.take 0).map symLE).flatten) := Lib.hid (by simp)
    go_wp2
    go_loopw [3, 4] (fun vo vi wr => ∃ (i : Nat) (a : Option Addr) (c : Nat) (LI : List Nat), i ≤ SN ∧ vi = .int .i64 (i : Nat) ∧ vo = .slice a LI.length c ∧ Hid (LI = L8 ++ ((sy.take i).map symLE).flatten) ∧ Hid (RW3 w wr w.heap.size w.heap.size cs a c LI) ∧ w.heap.size + 2 ≤ wr.heap.size) (fun _ vi _ => SN - (intOf vi).toNat)
    case atStart => exact ⟨0, a3, c3, L8, by omega, rfl, rfl, HL0, HW3, hs3⟩
    case round =>
      clear HW3 HL0 hs3
      obtain ⟨i, aa, cc, LI, hi, rfl, rfl, HLI, HS, hs4⟩ := hrel
      obtain ⟨⟨c0, c1, c2, c3, c4, c5, c6⟩, c7, c8, c9, c10, c11, c12, c13⟩ := cells14 (HCV.out _ HS.out.hh)
      by_cases hlt2 : i < SN
      · obtain ⟨q, off, z, e, xa2, n2, xc2, l2, rfl, s0, s1, s2, hpi, hby⟩ := HMS.out.at hlt2
        have q0 := cell_below s0 HS.out.bel
        have q1 := cell_below s1 HS.out.bel
        have q2 := cell_below s2 HS.out.bel
        obtain ⟨z0, z1, e0, e1, l64⟩ := HSF.out _ (List.mem_of_getElem? hpi)
        simp only at z0 z1 e0 e1 l64
        obtain ⟨z, rfl⟩ := Int.eq_ofNat_of_zero_le z0
        obtain ⟨e, rfl⟩ := Int.eq_ofNat_of_zero_le e0
        have hn2 : l2.length = n2 := hby.length
        have hLIl : LI.length ≤ 100000 := by
          have hfl := flat_le symLE 70 (sy.take i) (fun p hp => by
            have := (HSF.out p (List.mem_of_mem_take hp)).2.2.2.2
            simp only [symLE, List.length_append, numLE_len]; omega)
          have : (sy.take i).length ≤ 512 := by rw [List.length_take]; omega
          rw [HLI.out, List.length_append]
          omega
        have hstep := flat_snoc symLE sy i _ hpi
        have HST := Lib.hid (show LI ++ numLE z 2 ++ numLE e 3 ++ (numLE n2 1 ++ l2) = L8 ++ ((sy.take (i + 1)).map symLE).flatten by
          rw [hstep, HLI.out, ← hn2]
          simp [symLE])
        have hb1 := below_alloc wr (.cells #[.int .i64 (z : Nat), .int .i64 (e : Nat), .slice xa2 n2 xc2] ST3)
        have r1 := heap_alloc_new wr (.cells #[.int .i64 (z : Nat), .int .i64 (e : Nat), .slice xa2 n2 xc2] ST3)
        obtain ⟨w1, hw1⟩ : ∃ x, x = wr.alloc (.cells #[.int .i64 (z : Nat), .int .i64 (e : Nat), .slice xa2 n2 xc2] ST3) := ⟨_, rfl⟩
        rw [← hw1] at r1 hb1
        have HW4 : Hid (RW3 w w1.drew w.heap.size w.heap.size cs aa cc LI) := Lib.hid ((HS.out.below hb1).below (drewBelow w1))
        have hs4' : w.heap.size + 2 ≤ w1.drew.heap.size := by have : w1.drew.heap.size = w1.heap.size := rfl; have := hb1.size; omega
        have HBY := Lib.hid hby
        have HHW1 := Lib.hid hw1
        have R1 := Lib.hid r1
        have i0 : (0 : Int) ≤ (i : Int) := by omega
        clear hpi hby hstep s0 s1 s2 hb1 hw1 hn2 r1 HS
        go_upto_region 8 with fail
        rw [← HHW1.out]
        clear c0 c1 c2 c3 c4 c5 c6 c7 c8 c9 c10 c11 c12 c13 q0 q1 q2
        have P0 : w1.drew.cell? ⟨wr.heap.size, 0, none⟩ = some (.int .i64 (z : Nat)) ∧ w1.drew.cell? ⟨wr.heap.size, 1, none⟩ = some (.int .i64 (e : Nat)) ∧ w1.drew.cell? ⟨wr.heap.size, 2, none⟩ = some (.slice xa2 n2 xc2) := ⟨cell_of_row _ _ 0 _ _ _ (show w1.drew.heap[wr.heap.size]? = _ from R1.out), cell_of_row _ _ 1 _ _ _ (show w1.drew.heap[wr.heap.size]? = _ from R1.out), cell_of_row _ _ 2 _ _ _ (show w1.drew.heap[wr.heap.size]? = _ from R1.out)⟩
        have R1d : Hid (w1.drew.heap[wr.heap.size]? = some (.cells #[.int .i64 (z : Nat), .int .i64 (e : Nat), .slice xa2 n2 xc2] ST3 (0, 0))) := Lib.hid R1.out
        refine GoX.start 10 (fun w' => w'.cell? ⟨wr.heap.size, 0, none⟩ = some (.int .i64 (z : Nat)) ∧ w'.cell? ⟨wr.heap.size, 1, none⟩ = some (.int .i64 (e : Nat)) ∧ w'.cell? ⟨wr.heap.size, 2, none⟩ = some (.slice xa2 n2 xc2)) (by kernel_rfl) ?_
        refine GoX.take 0 rfl (by kernel_rfl) (by kernel_rfl) (by rfl) (fun _ _ _ h => h) (v := ?tv0g14) P0 ?ty0g14 ?tr0g14
        case ty0g14 => (intro w hSw; (try dsimp only at hSw); go_simp; first | done | with_reducible rfl)
        simp only [Act.put, List.setIfInBounds_toArray, List.set_cons_zero, List.set_cons_succ]
        refine GoX.take 1 rfl (by kernel_rfl) (by kernel_rfl) (by rfl) (fun _ _ _ h => h) (v := ?tv1g15) P0 ?ty1g15 ?tr1g15
        case ty1g15 => (intro w hSw; (try dsimp only at hSw); go_simp; first | done | with_reducible rfl)
        simp only [Act.put, List.setIfInBounds_toArray, List.set_cons_zero, List.set_cons_succ]
        refine GoX.take 2 rfl (by kernel_rfl) (by kernel_rfl) (by rfl) (fun _ _ _ h => h) (v := ?tv2g16) P0 ?ty2g16 ?tr2g16
        case ty2g16 => (intro w hSw; (try dsimp only at hSw); go_simp; first | done | with_reducible rfl)
        simp only [Act.put, List.setIfInBounds_toArray, List.set_cons_zero, List.set_cons_succ]
        refine GoX.take 4 rfl (by kernel_rfl) (by kernel_rfl) (by rfl) (fun _ _ _ h => h) (v := ?tv4g17) P0 ?ty4g17 ?tr4g17
        case ty4g17 => (intro w hSw; (try dsimp only at hSw); go_simp; first | done | with_reducible rfl)
        simp only [Act.put, List.setIfInBounds_toArray, List.set_cons_zero, List.set_cons_succ]
        refine GoX.take 5 rfl (by kernel_rfl) (by kernel_rfl) (by rfl) (fun _ _ _ h => h) (v := ?tv5g18) P0 ?ty5g18 ?tr5g18
        case ty5g18 => (intro w hSw; (try dsimp only at hSw); go_simp; first | done | with_reducible rfl)
        simp only [Act.put, List.setIfInBounds_toArray, List.set_cons_zero, List.set_cons_succ]
        refine GoX.take 7 rfl (by kernel_rfl) (by kernel_rfl) (by rfl) (fun _ _ _ h => h) (v := ?tv7g19) P0 ?ty7g19 ?tr7g19
        case ty7g19 => (intro w hSw; (try dsimp only at hSw); go_simp; first | done | with_reducible rfl)
        simp only [Act.put, List.setIfInBounds_toArray, List.set_cons_zero, List.set_cons_succ]
        refine GoX.take 8 rfl (by kernel_rfl) (by kernel_rfl) (by rfl) (fun _ _ _ h => h) (v := ?tv8g20) P0 ?ty8g20 ?tr8g20
        case ty8g20 => (intro w hSw; (try dsimp only at hSw); go_simp; first | done | with_reducible rfl)
        simp only [Act.put, List.setIfInBounds_toArray, List.set_cons_zero, List.set_cons_succ]
        refine GoX.one 3 rfl (by kernel_rfl) (by decide) (fun K hK => ?_)
        rw [if_pos (by rfl)]
        go_simp
        have KN := rput3 z 2 HW4.out (by omega) (by omega) (by omega) (by omega) 2 rfl _ rfl
        obtain ⟨L41x, hL41x⟩ : ∃ X, X = LI ++ numLE z 2 := ⟨_, rfl⟩
        have hlL41x : L41x.length ≤ 100002 := by rw [hL41x]; simp only [List.length_append, numLE_len]; omega
        rw [← hL41x] at KN
        have HL41x := Lib.hid hL41x
        clear hL41x
        (with_reducible refine KN.mono ?_)
        rintro e' w41x ⟨a41, c41, rfl, hr, hm⟩
        have HR41 := Lib.hid hr
        have hsz41 : w.heap.size + 2 ≤ w41x.heap.size := by have := hm.k.size; omega
        have R41x := Lib.hid (hm.k.box HW4.out.own R1d.out (by decide))
        clear KN hr hm
        have P41 : w41x.cell? ⟨wr.heap.size, 0, none⟩ = some (.int .i64 (z : Nat)) ∧ w41x.cell? ⟨wr.heap.size, 1, none⟩ = some (.int .i64 (e : Nat)) ∧ w41x.cell? ⟨wr.heap.size, 2, none⟩ = some (.slice xa2 n2 xc2) := ⟨cell_of_row _ _ 0 _ _ _ R41x.out, cell_of_row _ _ 1 _ _ _ R41x.out, cell_of_row _ _ 2 _ _ _ R41x.out⟩
        refine hK.out _ _ P41 (fun _ => ?_)
        clear hK K
        refine GoX.one 6 rfl (by kernel_rfl) (by decide) (fun K hK => ?_)
        rw [if_pos (by rfl)]
        go_simp
        have KN := rput3 e 3 HR41.out (by omega) (by omega) (by omega) (by omega) 3 rfl _ rfl
        obtain ⟨L42x, hL42x⟩ : ∃ X, X = L41x ++ numLE e 3 := ⟨_, rfl⟩
        have hlL42x : L42x.length ≤ 100005 := by rw [hL42x]; simp only [List.length_append, numLE_len]; omega
        rw [← hL42x] at KN
        have HL42x := Lib.hid hL42x
        clear hL42x
        (with_reducible refine KN.mono ?_)
        rintro e' w42x ⟨a42, c42, rfl, hr, hm⟩
        have HR42 := Lib.hid hr
        have hsz42 : w.heap.size + 2 ≤ w42x.heap.size := by have := hm.k.size; omega
        have R42x := Lib.hid (hm.k.box HR41.out.own R41x.out (by decide))
        clear KN hr hm
        have P42 : w42x.cell? ⟨wr.heap.size, 0, none⟩ = some (.int .i64 (z : Nat)) ∧ w42x.cell? ⟨wr.heap.size, 1, none⟩ = some (.int .i64 (e : Nat)) ∧ w42x.cell? ⟨wr.heap.size, 2, none⟩ = some (.slice xa2 n2 xc2) := ⟨cell_of_row _ _ 0 _ _ _ R42x.out, cell_of_row _ _ 1 _ _ _ R42x.out, cell_of_row _ _ 2 _ _ _ R42x.out⟩
        refine hK.out _ _ P42 (fun _ => ?_)
        clear hK K
        refine GoX.one 9 rfl (by kernel_rfl) (by decide) (fun K hK => ?_)
        rw [if_pos (by rfl)]
        go_simp
        have KN := rtext3 _ _ _ _ HR42.out (by omega) (by omega) (HR42.out.kb HBY.out) (by have := HBY.out.length; simp only at this; omega)
        obtain ⟨L43x, hL43x⟩ : ∃ X, X = L42x ++ (numLE n2 1 ++ l2) := ⟨_, rfl⟩
        rw [← hL43x] at KN
        have HL43x := Lib.hid hL43x
        clear hL43x
        (with_reducible refine KN.mono ?_)
        rintro e' w43x ⟨a43, c43, rfl, hr, hm⟩
        have HR43 := Lib.hid hr
        have hsz43 : w.heap.size + 2 ≤ w43x.heap.size := by have := hm.size; omega
        have R43x := Lib.hid (hm.box HR42.out.own R42x.out (by decide))
        clear KN hr hm
        have P43 : w43x.cell? ⟨wr.heap.size, 0, none⟩ = some (.int .i64 (z : Nat)) ∧ w43x.cell? ⟨wr.heap.size, 1, none⟩ = some (.int .i64 (e : Nat)) ∧ w43x.cell? ⟨wr.heap.size, 2, none⟩ = some (.slice xa2 n2 xc2) := ⟨cell_of_row _ _ 0 _ _ _ R43x.out, cell_of_row _ _ 1 _ _ _ R43x.out, cell_of_row _ _ 2 _ _ _ R43x.out⟩
        refine hK.out _ _ P43 (fun _ => ?_)
        clear hK K
        refine GoX.last 10 rfl (by kernel_rfl) (by kernel_rfl) (by decide) ?_
        have HN : Hid (L43x = L8 ++ ((sy.take (i + 1)).map symLE).flatten) := Lib.hid (by rw [← HST.out, HL43x.out, HL42x.out, HL41x.out])
        clear P43 R1 HHW1 HBY HLI HST
        rw [if_pos (by rfl)]
        go_simp
        go_wp2
        go_roundw
        case rel => exact ⟨i + 1, _, _, L43x, by omega, by go_num, rfl, HN, HR43, by omega⟩
        case measure => simp [intOf] <;> omega
      · obtain rfl : i = SN := by omega
        have HX9 : Hid (LI = L8 ++ (sy.map symLE).flatten) := Lib.hid (by rw [HLI.out, List.take_of_length_le (by rw [HSN.out]; exact Nat.le_refl _)])
        have hl9 : LI.length ≤ 50000 := by
          have hfl := flat_le symLE 70 sy (fun p hp => by
            have := (HSF.out p hp).2.2.2.2
            simp only [symLE, List.length_append, numLE_len]; omega)
          rw [HX9.out, List.length_append]
          have := HSN.out
          omega
        clear HLI hlt2 hi
        obtain ⟨i0, hi0, hz0, hz1, hz2⟩ := info_partsM Tryd.infoU8
        have hwi : IntKind.u8.wrap (IN : Int) = (IN : Int) := by simp [IntKind.wrap, IntKind.bits, IntKind.signed]; omega
        have hIN0 : (0 : Int) ≤ (IN : Int) := by omega
        go_wp2_with (first | (at_builtin; refine Hid.out ?_))
        refine Lib.hid ?_
        refine wpList_append_lies _ rfl (.tmp 58) (.tmp 63) 24 rfl w.heap.size 5 i0 (.int .u8 0) 1 1 Tryd.underlying24 hi0 hz0 hz1 hz2 rfl (by decide) (.slice aa LI.length cc) LI.length (LI.map bv) rfl (show (wr.alloc (.cells #[.int .u8 (IN : Nat)] 5)).ownsRow w.heap.size 5 1 (.slice aa LI.length cc) LI.length (LI.map bv) from World.ownsRow.alloc HS.out.own _) ⟨wr.heap.size, 0, none⟩ 1 1 [bv IN] rfl rfl (World.news_of_block (heap_alloc_new wr _)) (bv_one [IN]) (by decide) (by simp [maxLen]; omega) (by omega) (by simp; omega) _ rfl ?_
        intro g4 cap4 w4 hown4 hgrow4 hat _
        have hk4 : KA wr w4 (ob aa) := (KA.of_below (below_alloc wr (.cells #[.int .u8 (IN : Nat)] 5))).trans (KA.of_grown (by rw [← ob_eq aa LI.length cc]; exact hgrow4)) (.inl rfl)
        obtain ⟨L10, hL10⟩ : ∃ X, X = LI ++ numLE IN 1 := ⟨_, rfl⟩
        have hl10 : L10.length = LI.length + 1 := by rw [hL10]; simp [numLE_len]
        have hO4 : OwB w4 w.heap.size (some ⟨g4, 0, none⟩) cap4 L10 := by
          unfold OwB
          rw [hl10, hL10, numLE_one, Nat.mod_eq_of_lt (by omega), List.map_append]
          exact hown4
        have HW4 := Lib.hid (HS.out.go hk4 hO4)
        have hs5 : w.heap.size + 2 ≤ w4.heap.size := by have := hk4.size; omega
        have hr4 : ∀ z : Nat, z = LI.length + 1 → Value.slice (some ⟨g4, 0, none⟩) z cap4 = Value.slice (some ⟨g4, 0, none⟩) L10.length cap4 := fun z e => by rw [e, hl10]
        have HR4 := Lib.hid hr4
        have HL10 : Hid (L10 = LI ++ numLE IN 1) := Lib.hid hL10
        have hl10' : L10.length ≤ 50001 := by omega
        have HLA := Lib.hid hl10
        have HL0 : Hid (L10 = L10 ++ ((it.take 0).map itemLE).flatten) := Lib.hid (by simp)
        clear hown4 hgrow4 hat hk4 hO4 hL10 hr4 hl10 c0 c1 c2 c3 c4 c5 c6 c7 c8 c9 c10 c11 c12 c13 HS hwi hIN0
        rw [HR4.out _ rfl]
        go_wp2
        go_loopw [3, 6] (fun vo vi wr => ∃ (i : Nat) (a : Option Addr) (c : Nat) (LI : List Nat), i ≤ IN ∧ vi = .int .i64 (i : Nat) ∧ vo = .slice a LI.length c ∧ Hid (LI = L10 ++ ((it.take i).map itemLE).flatten) ∧ Hid (RW3 w wr w.heap.size w.heap.size cs a c LI) ∧ w.heap.size + 2 ≤ wr.heap.size) (fun _ vi _ => IN - (intOf vi).toNat)
        case atStart => exact ⟨0, _, cap4, L10, by omega, rfl, rfl, HL0, HW4, hs5⟩
        case round =>
          clear HW4 HL0 hs5
          rename World => wq
          obtain ⟨i, ab, cb, LJ, hi, rfl, rfl, HLI, HS, hs6⟩ := hrel
          obtain ⟨⟨c0, c1, c2, c3, c4, c5, c6⟩, c7, c8, c9, c10, c11, c12, c13⟩ := cells14 (HCV.out _ HS.out.hh)
          by_cases hlt3 : i < IN
          · obtain ⟨q, off, y, ⟨ya, yn, yc⟩, rfl, hpi, hat⟩ := HMI.out.at hlt3
            obtain ⟨jk, jm⟩ := HJF.out _ (List.mem_of_getElem? hpi)
            obtain ⟨ykey, ym⟩ := y
            simp only at jk jm
            have HAT := Lib.hid hat
            have hby0 : BytesV w (ya, yn, yc) ym.l := hat.by_
            have HBY := Lib.hid hby0
            have HJM := Lib.hid jm
            have hm13 : (metaLE ym).length ≤ 44 := by rw [metaLE_len]; have := jm.l32; omega
            have hLIl : LJ.length ≤ 100000 := by
              have hfl := flat_le itemLE 80 (it.take i) (fun p hp => by
                have h1 := HJF.out p (List.mem_of_mem_take hp)
                have h2 := h1.2.l32
                simp only [itemLE, List.length_append, numLE_len, keyL_len, metaLE_len]; omega)
              have : (it.take i).length ≤ 100 := by rw [List.length_take]; omega
              rw [HLI.out, List.length_append]
              omega
            have hstep := flat_snoc itemLE it i _ hpi
            have HST := Lib.hid (show LJ ++ (numLE ykey.size 1 ++ keyL ykey) ++ metaLE ym = L10 ++ ((it.take (i + 1)).map itemLE).flatten by
              rw [hstep, HLI.out]
              simp [itemLE])
            have HWQ : Hid (RW3 w wq.drew w.heap.size w.heap.size cs ab cb LJ) := Lib.hid (HS.out.below (drewBelow wq))
            have hs6' : w.heap.size + 2 ≤ wq.drew.heap.size := hs6
            have i0' : (0 : Int) ≤ (i : Int) := by omega
            clear hpi hby0 hstep hat jm c0 c1 c2 c3 c4 c5 c6 c7 c8 c9 c10 c11 c12
            have hc13 := c13
            go_upto_region 13 with fail
            clear c13 hc13
            have P0 : wq.drew.cell? ⟨w.heap.size, 13, none⟩ = some (.slice (some ⟨q, off, none⟩) IN ic) ∧ wq.drew.cell? ⟨q, off + i * 7, none⟩ = some (.string ykey) ∧ wq.drew.cell? ⟨q, off + i * 7 + 1, none⟩ = some (.int .i64 ym.N) ∧ wq.drew.cell? ⟨q, off + i * 7 + 2, none⟩ = some (.int .i64 ym.c) ∧ wq.drew.cell? ⟨q, off + i * 7 + 3, none⟩ = some (.int .i64 ym.s) ∧ wq.drew.cell? ⟨q, off + i * 7 + 4, none⟩ = some (.int .i64 ym.t) ∧ wq.drew.cell? ⟨q, off + i * 7 + 5, none⟩ = some (.bool ym.d) ∧ wq.drew.cell? ⟨q, off + i * 7 + 6, none⟩ = some (.slice ya yn yc) := ⟨cell_of_row _ _ 13 _ _ _ (HCV.out _ HWQ.out.hh), (HAT.out.below HWQ.out.bel).c0, (HAT.out.below HWQ.out.bel).c1, (HAT.out.below HWQ.out.bel).c2, (HAT.out.below HWQ.out.bel).c3, (HAT.out.below HWQ.out.bel).c4, (HAT.out.below HWQ.out.bel).c5, (HAT.out.below HWQ.out.bel).c6⟩
            refine GoX.start 16 (fun w' => w'.cell? ⟨w.heap.size, 13, none⟩ = some (.slice (some ⟨q, off, none⟩) IN ic) ∧ w'.cell? ⟨q, off + i * 7, none⟩ = some (.string ykey) ∧ w'.cell? ⟨q, off + i * 7 + 1, none⟩ = some (.int .i64 ym.N) ∧ w'.cell? ⟨q, off + i * 7 + 2, none⟩ = some (.int .i64 ym.c) ∧ w'.cell? ⟨q, off + i * 7 + 3, none⟩ = some (.int .i64 ym.s) ∧ w'.cell? ⟨q, off + i * 7 + 4, none⟩ = some (.int .i64 ym.t) ∧ w'.cell? ⟨q, off + i * 7 + 5, none⟩ = some (.bool ym.d) ∧ w'.cell? ⟨q, off + i * 7 + 6, none⟩ = some (.slice ya yn yc)) (by kernel_rfl) ?_
            refine GoX.take 0 rfl (by kernel_rfl) (by kernel_rfl) (by rfl) (fun _ _ _ h => h) (v := ?tv0g21) P0 ?ty0g21 ?tr0g21
            case ty0g21 => (intro w hSw; (try dsimp only at hSw); go_simp; first | done | with_reducible rfl)
            simp only [Act.put, List.setIfInBounds_toArray, List.set_cons_zero, List.set_cons_succ]
            refine GoX.take 1 rfl (by kernel_rfl) (by kernel_rfl) (by rfl) (fun _ _ _ h => h) (v := ?tv1g22) P0 ?ty1g22 ?tr1g22
            case ty1g22 => (intro w hSw; (try dsimp only at hSw); go_simp; first | done | with_reducible rfl)
            simp only [Act.put, List.setIfInBounds_toArray, List.set_cons_zero, List.set_cons_succ]
            refine GoX.take 2 rfl (by kernel_rfl) (by kernel_rfl) (by rfl) (fun _ _ _ h => h) (v := ?tv2g23) P0 ?ty2g23 ?tr2g23
            case ty2g23 => (intro w hSw; (try dsimp only at hSw); go_simp; first | done | with_reducible rfl)
            simp only [Act.put, List.setIfInBounds_toArray, List.set_cons_zero, List.set_cons_succ]
            refine GoX.take 3 rfl (by kernel_rfl) (by kernel_rfl) (by rfl) (fun _ _ _ h => h) (v := ?tv3g24) P0 ?ty3g24 ?tr3g24
            case ty3g24 => (intro w hSw; (try dsimp only at hSw); go_simp; first | done | with_reducible rfl)
            simp only [Act.put, List.setIfInBounds_toArray, List.set_cons_zero, List.set_cons_succ]
            refine GoX.take 4 rfl (by kernel_rfl) (by kernel_rfl) (by rfl) (fun _ _ _ h => h) (v := ?tv4g25) P0 ?ty4g25 ?tr4g25
            case ty4g25 => (intro w hSw; (try dsimp only at hSw); go_simp; first | done | with_reducible rfl)
            simp only [Act.put, List.setIfInBounds_toArray, List.set_cons_zero, List.set_cons_succ]
            refine GoX.take 5 rfl (by kernel_rfl) (by kernel_rfl) (by rfl) (fun _ _ _ h => h) (v := ?tv5g26) P0 ?ty5g26 ?tr5g26
            case ty5g26 => (intro w hSw; (try dsimp only at hSw); go_simp; first | done | with_reducible rfl)
            simp only [Act.put, List.setIfInBounds_toArray, List.set_cons_zero, List.set_cons_succ]
            refine GoX.take 6 rfl (by kernel_rfl) (by kernel_rfl) (by rfl) (fun _ _ _ h => h) (v := ?tv6g27) P0 ?ty6g27 ?tr6g27
            case ty6g27 => (intro w hSw; (try dsimp only at hSw); go_simp; first | done | with_reducible rfl)
            simp only [Act.put, List.setIfInBounds_toArray, List.set_cons_zero, List.set_cons_succ]
            refine GoX.take 9 rfl (by kernel_rfl) (by kernel_rfl) (by rfl) (fun _ _ _ h => h) (v := ?tv9g28) P0 ?ty9g28 ?tr9g28
            case ty9g28 => (intro w hSw; (try dsimp only at hSw); go_simp; first | done | with_reducible rfl)
            simp only [Act.put, List.setIfInBounds_toArray, List.set_cons_zero, List.set_cons_succ]
            refine GoX.take 10 rfl (by kernel_rfl) (by kernel_rfl) (by rfl) (fun _ _ _ h => h) (v := ?tv10g29) P0 ?ty10g29 ?tr10g29
            case ty10g29 => (intro w hSw; (try dsimp only at hSw); go_simp; first | done | with_reducible rfl)
            simp only [Act.put, List.setIfInBounds_toArray, List.set_cons_zero, List.set_cons_succ]
            refine GoX.take 11 rfl (by kernel_rfl) (by kernel_rfl) (by rfl) (fun _ _ _ h => h) (v := ?tv11g30) P0 ?ty11g30 ?tr11g30
            case ty11g30 => (intro w hSw; (try dsimp only at hSw); go_simp; first | done | with_reducible rfl)
            simp only [Act.put, List.setIfInBounds_toArray, List.set_cons_zero, List.set_cons_succ]
            refine GoX.take 12 rfl (by kernel_rfl) (by kernel_rfl) (by rfl) (fun _ _ _ h => h) (v := ?tv12g31) P0 ?ty12g31 ?tr12g31
            case ty12g31 => (intro w hSw; (try dsimp only at hSw); go_simp; first | done | with_reducible rfl)
            simp only [Act.put, List.setIfInBounds_toArray, List.set_cons_zero, List.set_cons_succ]
            refine GoX.take 13 rfl (by kernel_rfl) (by kernel_rfl) (by rfl) (fun _ _ _ h => h) (v := ?tv13g32) P0 ?ty13g32 ?tr13g32
            case ty13g32 => (intro w hSw; (try dsimp only at hSw); go_simp; first | done | with_reducible rfl)
            simp only [Act.put, List.setIfInBounds_toArray, List.set_cons_zero, List.set_cons_succ]
            refine GoX.take 14 rfl (by kernel_rfl) (by kernel_rfl) (by rfl) (fun _ _ _ h => h) (v := ?tv14g33) P0 ?ty14g33 ?tr14g33
            case ty14g33 => (intro w hSw; (try dsimp only at hSw); go_simp; first | done | with_reducible rfl)
            simp only [Act.put, List.setIfInBounds_toArray, List.set_cons_zero, List.set_cons_succ]
            refine GoX.one 7 rfl (by kernel_rfl) (by decide) (fun K hK => ?_)
            rw [if_pos (by rfl)]
            go_simp
            obtain ⟨kc61, w61x, hcv, hk⟩ := HKC.out wq.drew ykey (by omega)
            go_simp
            have hr := HWQ.out.cv hk
            rw [show wq.drew.heap.size = wq.heap.size from rfl] at hr
            have HR61 := Lib.hid hr.1
            have HKB61 := Lib.hid hr.2
            have hsz61 : w.heap.size + 2 ≤ w61x.heap.size := by have := hk.bel.size; omega
            clear hcv hk hr
            have P61 : w61x.cell? ⟨w.heap.size, 13, none⟩ = some (.slice (some ⟨q, off, none⟩) IN ic) ∧ w61x.cell? ⟨q, off + i * 7, none⟩ = some (.string ykey) ∧ w61x.cell? ⟨q, off + i * 7 + 1, none⟩ = some (.int .i64 ym.N) ∧ w61x.cell? ⟨q, off + i * 7 + 2, none⟩ = some (.int .i64 ym.c) ∧ w61x.cell? ⟨q, off + i * 7 + 3, none⟩ = some (.int .i64 ym.s) ∧ w61x.cell? ⟨q, off + i * 7 + 4, none⟩ = some (.int .i64 ym.t) ∧ w61x.cell? ⟨q, off + i * 7 + 5, none⟩ = some (.bool ym.d) ∧ w61x.cell? ⟨q, off + i * 7 + 6, none⟩ = some (.slice ya yn yc) := ⟨cell_of_row _ _ 13 _ _ _ (HCV.out _ HR61.out.hh), (HAT.out.below HR61.out.bel).c0, (HAT.out.below HR61.out.bel).c1, (HAT.out.below HR61.out.bel).c2, (HAT.out.below HR61.out.bel).c3, (HAT.out.below HR61.out.bel).c4, (HAT.out.below HR61.out.bel).c5, (HAT.out.below HR61.out.bel).c6⟩
            refine hK.out _ _ P61 (fun _ => ?_)
            clear hK K
            refine GoX.one 8 rfl (by kernel_rfl) (by decide) (fun K hK => ?_)
            rw [if_pos (by rfl)]
            go_simp
            have KN := rtext3 _ _ _ _ HR61.out (by omega) (by omega) HKB61.out (by omega)
            obtain ⟨L62x, hL62x⟩ : ∃ X, X = LJ ++ (numLE ykey.size 1 ++ keyL ykey) := ⟨_, rfl⟩
            have hlL62x : L62x.length ≤ 101000 := by rw [hL62x]; simp only [List.length_append, numLE_len, keyL_len]; omega
            rw [← hL62x] at KN
            have HL62x := Lib.hid hL62x
            clear hL62x
            (with_reducible refine KN.mono ?_)
            rintro e' w62x ⟨a62, c62, rfl, hr, hm⟩
            have HR62 := Lib.hid hr
            have hsz62 : w.heap.size + 2 ≤ w62x.heap.size := by have := hm.size; omega
            clear KN hr hm
            have P62 : w62x.cell? ⟨w.heap.size, 13, none⟩ = some (.slice (some ⟨q, off, none⟩) IN ic) ∧ w62x.cell? ⟨q, off + i * 7, none⟩ = some (.string ykey) ∧ w62x.cell? ⟨q, off + i * 7 + 1, none⟩ = some (.int .i64 ym.N) ∧ w62x.cell? ⟨q, off + i * 7 + 2, none⟩ = some (.int .i64 ym.c) ∧ w62x.cell? ⟨q, off + i * 7 + 3, none⟩ = some (.int .i64 ym.s) ∧ w62x.cell? ⟨q, off + i * 7 + 4, none⟩ = some (.int .i64 ym.t) ∧ w62x.cell? ⟨q, off + i * 7 + 5, none⟩ = some (.bool ym.d) ∧ w62x.cell? ⟨q, off + i * 7 + 6, none⟩ = some (.slice ya yn yc) := ⟨cell_of_row _ _ 13 _ _ _ (HCV.out _ HR62.out.hh), (HAT.out.below HR62.out.bel).c0, (HAT.out.below HR62.out.bel).c1, (HAT.out.below HR62.out.bel).c2, (HAT.out.below HR62.out.bel).c3, (HAT.out.below HR62.out.bel).c4, (HAT.out.below HR62.out.bel).c5, (HAT.out.below HR62.out.bel).c6⟩
            refine hK.out _ _ P62 (fun _ => ?_)
            clear hK K
            refine GoX.one 15 rfl (by kernel_rfl) (by decide) (fun K hK => ?_)
            rw [if_pos (by rfl)]
            go_simp
            have KN := rmeta3 ym ya yn yc HR62.out (by omega) (by omega) HJM.out (HR62.out.kb HBY.out)
            obtain ⟨L63x, hL63x⟩ : ∃ X, X = L62x ++ metaLE ym := ⟨_, rfl⟩
            rw [← hL63x] at KN
            have HL63x := Lib.hid hL63x
            clear hL63x
            (with_reducible refine KN.mono ?_)
            rintro e' w63x ⟨a63, c63, rfl, hr, hm⟩
            have HR63 := Lib.hid hr
            have hsz63 : w.heap.size + 2 ≤ w63x.heap.size := by have := hm.size; omega
            clear KN hr hm
            have P63 : w63x.cell? ⟨w.heap.size, 13, none⟩ = some (.slice (some ⟨q, off, none⟩) IN ic) ∧ w63x.cell? ⟨q, off + i * 7, none⟩ = some (.string ykey) ∧ w63x.cell? ⟨q, off + i * 7 + 1, none⟩ = some (.int .i64 ym.N) ∧ w63x.cell? ⟨q, off + i * 7 + 2, none⟩ = some (.int .i64 ym.c) ∧ w63x.cell? ⟨q, off + i * 7 + 3, none⟩ = some (.int .i64 ym.s) ∧ w63x.cell? ⟨q, off + i * 7 + 4, none⟩ = some (.int .i64 ym.t) ∧ w63x.cell? ⟨q, off + i * 7 + 5, none⟩ = some (.bool ym.d) ∧ w63x.cell? ⟨q, off + i * 7 + 6, none⟩ = some (.slice ya yn yc) := ⟨cell_of_row _ _ 13 _ _ _ (HCV.out _ HR63.out.hh), (HAT.out.below HR63.out.bel).c0, (HAT.out.below HR63.out.bel).c1, (HAT.out.below HR63.out.bel).c2, (HAT.out.below HR63.out.bel).c3, (HAT.out.below HR63.out.bel).c4, (HAT.out.below HR63.out.bel).c5, (HAT.out.below HR63.out.bel).c6⟩
            refine hK.out _ _ P63 (fun _ => ?_)
            clear hK K
            refine GoX.last 16 rfl (by kernel_rfl) (by kernel_rfl) (by decide) ?_
            have HN : Hid (L63x = L10 ++ ((it.take (i + 1)).map itemLE).flatten) := Lib.hid (by rw [← HST.out, HL63x.out, HL62x.out])
            clear P63 HBY HLI HST
            rw [if_pos (by rfl)]
            go_simp
            go_wp2
            go_roundw
            case rel => exact ⟨i + 1, _, _, L63x, by omega, by go_num, rfl, HN, HR63, by omega⟩
            case measure => simp [intOf] <;> omega
          · obtain rfl : i = IN := by omega
            have HXA : Hid (LJ = msgLE ⟨(k : Nat), (f : Nat), (t : Nat), (op : Nat), (cd : Nat), key, m, sy, it⟩) := Lib.hid (by
              rw [HLI.out, List.take_of_length_le (by rw [HIN.out]; exact Nat.le_refl _), HL10.out, HX9.out, HL8.out, HL7.out, HL6.out, HL1.out]
              simp only [msgLE, headLE, List.append_assoc, ← HSN.out, ← HIN.out, Int.toNat_natCast, numLE_one]
              rw [Nat.mod_eq_of_lt (show k < 256 by omega), Nat.mod_eq_of_lt (show f < 256 by omega), Nat.mod_eq_of_lt (show t < 256 by omega)]
              simp)
            clear HLI hlt3 hi
            go_wp2
            go_ret
            rw [← HXA.out]
            exact ⟨_, _, rfl, HS.out.own, HS.out.bel⟩
end Go.Proofs.YtopnjjehefaghaaDoor
