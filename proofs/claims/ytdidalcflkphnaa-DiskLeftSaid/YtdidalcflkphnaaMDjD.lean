/-
  disk: Left, the walk.
-/
import Derived.Test.YtdidalcflkphnaaMDjC
namespace Go.Proofs.Ytdidalcflkphnaa
open Go.RowKit

theorem wrap_i64_in (n : Int) (h0 : -9223372036854775808 ≤ n) (h1 : n < 9223372036854775808) : IntKind.i64.wrap n = n := by
  simp [IntKind.wrap, IntKind.bits, IntKind.signed]; omega
theorem heap_drewN (w : World) (n : Nat) : (w.drewN n).heap = w.heap := by
  induction n with
  | zero => rfl
  | succ n ih => exact ih
theorem left_log {w : World} {B c : Nat} {a : Option Addr} {L : List Nat} (o : w.ownsRow B 5 1 (.slice a L.length c) L.length (L.map bv)) (hL : Bytes L) (hs : L.length ≤ 1000000000) : LogM w (fun b => (SV (a, L.length, c)).ownBlock = some b) (a, L.length, L.length) (a, L.length, c) L L :=
  LogM.secure (safe := []) (sa := (none, 0, 0)) ⟨⟨own_zero o, rfl, hL, hs, fun _ hb => hb⟩, bytesV_nil _, fun _ hb => (sv_none hb).elim, fun _ ha => (nomatch ha), fun _ hb => (sv_none hb).elim⟩
theorem DiskM.slots_at {w : World} {F : Nat → Prop} {g : Nat} {d : DV} (h : DiskM w F g d) : ∃ s1 s3, w.cell? ⟨g, 5, none⟩ = some (.slice s1 d.sl.length s3) ∧ ∀ k s, d.sl[k]? = some s → ∃ (b : Nat) (x : SlH), s1 = some ⟨b, 0, none⟩ ∧ d.sl.length ≤ s3 ∧ w.cell? ⟨b, k * 3, none⟩ = some (SV x.1) ∧ w.cell? ⟨b, k * 3 + 1, none⟩ = some (SV x.2.1) ∧ w.cell? ⟨b, k * 3 + 2, none⟩ = some (.bool s.2.2) ∧ b < w.heap.size ∧ ByF w F x.1 s.1 ∧ ByF w F x.2.1 s.2.1 := by
  obtain ⟨s1, s3, c5, -⟩ := h.cell5
  refine ⟨s1, s3, c5, fun k s hs => ?_⟩
  obtain ⟨b, c, x, e, hcap, hcm, x0, x1, x2, xF, hne, bS, bR, hap, hbl, hgl, hfin⟩ := h.slot c5 hs
  injection e with e1 e2 e3
  subst e1 e3
  rw [Nat.zero_add] at x0 x1 x2
  exact ⟨b, x, rfl, hcap, x0, x1, x2, hbl, bS, bR⟩
/-- the cells that 'remains' reads. -/
theorem DiskM.logs {w : World} {F : Nat → Prop} {g : Nat} {d : DV} (h : DiskM w F g d) : ∃ sa rd : HdT, w.cell? ⟨g, 1, none⟩ = some (.slice sa.1 sa.2.1 sa.2.2) ∧ w.cell? ⟨g, 2, none⟩ = some (.slice rd.1 rd.2.1 rd.2.2) ∧ w.cell? ⟨g, 3, none⟩ = some (.int .i64 (d.base : Nat)) ∧ w.cell? ⟨g, 4, none⟩ = some (.bool d.laid) ∧ BytesV w (sa.1, sa.2.1, sa.2.2) d.safe ∧ BytesV w (rd.1, rd.2.1, rd.2.2) d.read ∧ rd.2.1 ≤ 1000000000 ∧ d.base ≤ rd.2.1 := by
  obtain ⟨FL, FS, sa, rd, sh, hs, h1, h2, h3, h4, h5, h6, h7, h8, h9⟩ := h
  obtain ⟨-, c1, c2, c3, c4, -, -⟩ := cells6D h1
  have hl := h2.now.len
  have hs := h2.now.small
  exact ⟨sa, rd, c1, c2, c3, c4, h2.sv, h2.now.bv_, by omega, by omega⟩
set_option maxRecDepth 100000 in
set_option maxHeartbeats 8000000 in
theorem left_any (F : Nat → Prop) (g : Nat) (d : DV) (keep : Int) (reset : Bool) (fa : Option Addr) (fn fc : Nat) (fs : List Int) (p : Int) (w : World) (hD : DiskM w F g d) (hf : IntsV w (fa, fn, fc) fs) (hp : p ≤ 9223372036854775807) (hn : d.sl.length ≤ 1000000) (hsafe : d.safe.length ≤ 1000000000) (hwf : ∀ z ∈ fs, -9223372036854775808 ≤ z ∧ z ≤ 9223372036854775807) :
    Calls Try.prog 17 #[.pointer (some ⟨g, 0, none⟩), .agg #[.int .i64 keep, .bool reset, .slice fa fn fc], .int .i64 p] w fun e w' => ∃ gl, e = .returned (.pointer (some ⟨gl, 0, none⟩)) ∧ DiskM w' (Fresh w w') gl (leftV d keep reset fs p) ∧ Below w.heap.size w w' := by
  obtain ⟨i0, hi, hz0, hz1, hz2⟩ := info_parts Try.info80
  have bt := below_alloc w (.cells #[.int .i64 keep, .bool reset, .slice fa fn fc] FT)
  have HD := Lib.hid hD
  obtain ⟨s1, s3, c5, hat⟩ := hD.slots_at
  obtain ⟨sa, rd, k1, k2, k3, k4, hsv, hrd, krd, hbase⟩ := hD.logs
  have hgl0 := World.block_lt_of_cell? w ⟨g, 5, none⟩ c5
  have c5' := (bt.cell (p := ⟨g, 5, none⟩) hgl0).trans c5
  obtain ⟨N, hN⟩ : ∃ N, N = d.sl.length := ⟨_, rfl⟩
  rw [← hN] at c5 c5' hat hn
  have HN := Lib.hid hN
  have HAT := Lib.hid hat
  have HSV := Lib.hid hsv
  have HRD := Lib.hid hrd
  have HF := Lib.hid hf
  clear hN hD hat hsv hrd hf
  go_enter Try.func17, Try.ntmps17
  go_wp2_with (first | (at_make; refine Hid.out ?_))
  refine Lib.hid ?_
  refine wpList_make_full _ rfl _ _ 68 rfl w.heap.size KT i0 (.agg #[.slice none 0 0, .slice none 0 0, .bool false]) 3 Try.underlying68 hi hz0 hz1 _ _ _ _ N rfl rfl rfl rfl (by rw [hz2]; omega) (by unfold maxLen; omega) (by simp) ?_
  intro w3 hown3 hgrow3
  rw [show (Value.agg #[.slice none 0 0, .slice none 0 0, .bool false]).cells = #[.slice none 0 0, .slice none 0 0, .bool false] from rfl, madeK] at hown3
  have hw1 : (w.alloc (.cells #[.int .i64 keep, .bool reset, .slice fa fn fc] FT)).heap.size = w.heap.size + 1 := alloc_sz w _
  have b13 : Below (w.alloc (.cells #[.int .i64 keep, .bool reset, .slice fa fn fc] FT)).heap.size (w.alloc (.cells #[.int .i64 keep, .bool reset, .slice fa fn fc] FT)) w3 := ⟨hgrow3.os, hgrow3.tape, hgrow3.output, hgrow3.size, fun i hi => hgrow3.block i hi (by simp)⟩
  have e0 := heap_alloc_self w (.cells #[.int .i64 keep, .bool reset, .slice fa fn fc] FT)
  rw [← b13.block w.heap.size (by rw [hw1]; omega)] at e0
  obtain ⟨t, ht⟩ : ∃ t, t = w.heap.size := ⟨_, rfl⟩
  rw [hw1, ← ht] at hown3 ⊢
  have hs3 : t + 1 < w3.heap.size := (hown3.lt (t + 1) rfl).2
  have b03 := below_trans' bt b13
  rw [← ht] at e0
  obtain ⟨w4, hw4⟩ : ∃ x, x = w3.alloc (.cells #[.int .i64 p, .slice none 0 0, .slice none 0 0, .int .i64 0, .bool false, .slice (some ⟨t + 1, 0, none⟩) N N] DT) := ⟨_, rfl⟩
  have b34 : Below w3.heap.size w3 w4 := by rw [hw4]; exact below_alloc w3 _
  have b04 := below_trans' b03 b34
  have g0 : w4.heap[w3.heap.size]? = some (.cells #[.int .i64 p, .slice none 0 0, .slice none 0 0, .int .i64 0, .bool false, .slice (some ⟨t + 1, 0, none⟩) N N] DT (0, 0)) := by rw [hw4]; exact heap_alloc_self w3 _
  have hs4 : w4.heap.size = w3.heap.size + 1 := by rw [hw4]; exact alloc_sz w3 _
  obtain ⟨gl, hgl⟩ : ∃ x, x = w3.heap.size := ⟨_, rfl⟩
  rw [← hgl] at g0 hs4
  have et4 : w4.heap[t]? = _ := (b34.block t (by omega)).trans e0
  have HO3 := Lib.hid (own_ChF (own_zero hown3) (ChF.of_below (F := fun _ => False) b34) (fun _ _ e => e))
  have HW4 := Lib.hid hw4
  have HGL := Lib.hid hgl
  have HT := Lib.hid ht
  clear hown3 hgrow3 hi hw4 hgl ht
  go_wp2
  rw [← HW4.out, ← HGL.out]
  obtain ⟨sa1, sa2, sa3⟩ := sa
  obtain ⟨rd1, rd2, rd3⟩ := rd
  simp only at k1 k2 k3 k4 krd hbase
  have hg4 : g < w.heap.size := hgl0
  have KR := logRem_any g sa1 sa2 sa3 rd1 rd2 rd3 d.base d.laid d.safe d.read keep reset fa fn fc w4.drew ((b04.drew.cell (p := ⟨g, 1, none⟩) hg4).trans k1) ((b04.drew.cell (p := ⟨g, 2, none⟩) hg4).trans k2) ((b04.drew.cell (p := ⟨g, 3, none⟩) hg4).trans k3) ((b04.drew.cell (p := ⟨g, 4, none⟩) hg4).trans k4) (HSV.out.below b04.drew) (HRD.out.below b04.drew) krd hbase
  have t0 : w4.cell? ⟨t, 0, none⟩ = some (.int .i64 keep) := cell_of_row _ _ 0 _ _ _ et4
  have t1 : w4.cell? ⟨t, 1, none⟩ = some (.bool reset) := cell_of_row _ _ 1 _ _ _ et4
  have t2 : w4.cell? ⟨t, 2, none⟩ = some (.slice fa fn fc) := cell_of_row _ _ 2 _ _ _ et4
  obtain ⟨L, hL⟩ : ∃ L, L = logS d.safe d.read d.base d.laid keep reset := ⟨_, rfl⟩
  rw [← hL] at KR
  have hLb : Bytes L := by rw [hL]; exact logS_bytes HSV.out.bytes HRD.out.bytes _ _ _ _
  have hLs : L.length ≤ 1000000000 := by
    have q1 := logS_len d.safe d.read d.base d.laid keep reset
    have q2 : d.read.length = rd2 := HRD.out.length
    rw [hL]; omega
  have HLL := Lib.hid hL
  have HET := Lib.hid et4
  have HG0 := Lib.hid g0
  have htgl : t < gl := by rw [HGL.out]; omega
  have HK := Lib.hid (show ∀ w5, Below w4.heap.size w4 w5 → (w5.cell? ⟨t, 0, none⟩ = some (.int .i64 keep) ∧ w5.cell? ⟨t, 1, none⟩ = some (.bool reset) ∧ w5.cell? ⟨t, 2, none⟩ = some (.slice fa fn fc)) ∧ w5.heap[gl]? = w4.heap[gl]? from fun w5 b5 => ⟨⟨(b5.cell (p := ⟨t, 0, none⟩) (by show t < _; omega)).trans t0, (b5.cell (p := ⟨t, 1, none⟩) (by show t < _; omega)).trans t1, (b5.cell (p := ⟨t, 2, none⟩) (by show t < _; omega)).trans t2⟩, b5.block gl (by omega)⟩)
  have P4 : w4.cell? ⟨t, 0, none⟩ = some (.int .i64 keep) ∧ w4.cell? ⟨t, 1, none⟩ = some (.bool reset) ∧ w4.cell? ⟨t, 2, none⟩ = some (.slice fa fn fc) := ⟨t0, t1, t2⟩
  have KL := Lib.hid (fun (w5 : World) (b5 : Below w4.heap.size w4 w5) a5 c5 (o5 : w5.ownsRow w4.heap.size 5 1 (.slice a5 L.length c5) L.length (L.map bv)) => jlay_any gl a5 L.length c5 L _ _ _ w5 (bytesV_of_owns o5 hLb (by omega)) (cell_of_row _ _ 2 _ _ _ ((b5.block gl (by omega)).trans HG0.out)) (cell_of_row _ _ 3 _ _ _ ((b5.block gl (by omega)).trans HG0.out)) (cell_of_row _ _ 4 _ _ _ ((b5.block gl (by omega)).trans HG0.out)) (fun j => frozen_of_row _ _ _ _ _ ((b5.block gl (by omega)).trans HG0.out)))
  have HC5 := Lib.hid c5
  clear k1 k2 k3 k4 c5 c5' hL et4 e0 g0 hgl0 bt b13
  go_region_held3 (fun w' => w'.cell? ⟨t, 0, none⟩ = some (.int .i64 keep) ∧ w'.cell? ⟨t, 1, none⟩ = some (.bool reset) ∧ w'.cell? ⟨t, 2, none⟩ = some (.slice fa fn fc)) (first | exact P4 | exact P5 | exact P7 | go_keep)
    (first
      | (go_at_call 41; (with_reducible refine KR.mono ?_); rintro e w5 ⟨a5, c5, rfl, o5, b5e⟩; have b5 : Below w4.heap.size w4 w5 := ⟨b5e.os, b5e.tape, b5e.output, b5e.size, b5e.block⟩; have o5' : w5.ownsRow w4.heap.size 5 1 (.slice a5 L.length c5) L.length (L.map bv) := o5; have P5 := (HK.out w5 b5).1; have KL5 := Lib.hid (KL.out w5 b5 a5 c5 o5'); have HB5 := Lib.hid b5; clear b5e b5 o5 o5')
      | (go_at_call 40; (with_reducible refine KL5.out.mono ?_); rintro e w7 ⟨rfl, a6, c6, w6, o6, b6, e7⟩; have HO6 := Lib.hid o6; have HB6 := Lib.hid b6; have HE7 := Lib.hid e7; have P7 : w7.cell? ⟨t, 0, none⟩ = some (.int .i64 keep) ∧ w7.cell? ⟨t, 1, none⟩ = some (.bool reset) ∧ w7.cell? ⟨t, 2, none⟩ = some (.slice fa fn fc) := (by have q := (HK.out w6 (below_trans' HB5.out b6)).1; rw [e7]; exact ⟨cell_set_ne (by omega) (cell_set_ne (by omega) (cell_set_ne (by omega) q.1)), cell_set_ne (by omega) (cell_set_ne (by omega) (cell_set_ne (by omega) q.2.1)), cell_set_ne (by omega) (cell_set_ne (by omega) (cell_set_ne (by omega) q.2.2))⟩); clear o6 b6 e7))
  have g6 : w6.heap[gl]? = some (.cells #[.int .i64 p, .slice none 0 0, .slice none 0 0, .int .i64 0, .bool false, .slice (some ⟨t + 1, 0, none⟩) N N] DT (0, 0)) := ((HB6.out.block gl (by have := HB5.out.size; omega)).trans (HB5.out.block gl (by omega))).trans HG0.out
  have g7 : w7.heap[gl]? = some (.cells #[.int .i64 p, .slice none 0 0, .slice a6 L.length c6, .int .i64 (L.length : Nat), .bool true, .slice (some ⟨t + 1, 0, none⟩) N N] DT (0, 0)) := by rw [HE7.out]; exact lay_set _ _ _ g6
  have hlog := left_log HO6.out hLb hLs
  have hLc : L.length ≤ c6 := by obtain ⟨_, _, e, -, q, -⟩ := ownsRow_parts HO6.out; injection e with _ _ e; rw [e]; exact q
  have KS := secure_any gl a6 L.length c6 _ _ _ w7 hLc hLs (cell_of_row _ _ 1 _ _ _ g7) (cell_of_row _ _ 2 _ _ _ g7) (cell_of_row _ _ 3 _ _ _ g7) (cell_of_row _ _ 4 _ _ _ g7) (fun j => frozen_of_row _ _ _ _ _ g7)
  have HG7 := Lib.hid g7
  have HLG := Lib.hid hlog
  clear g6 g7 hlog KR P4 P5 t0 t1 t2
  go_wp2_with fail
  (with_reducible refine KS.mono ?_)
  rintro e w8 ⟨rfl, hw8⟩
  clear KS
  have s45 := HB5.out.size
  have s56 := HB6.out.size
  have e87 : ChF (fun q => q = gl) w7 w8 := by rw [hw8]; exact ((((ChF.refl (fun q => q = gl) w7).set (g := gl) (.inl (show gl = gl from rfl))).set (g := gl) (.inl (show gl = gl from rfl))).set (g := gl) (.inl (show gl = gl from rfl))).drew
  have e76 : ChF (fun q => q = gl) w6 w7 := by rw [HE7.out]; exact (((ChF.refl (fun q => q = gl) w6).set (g := gl) (.inl (show gl = gl from rfl))).set (g := gl) (.inl (show gl = gl from rfl))).set (g := gl) (.inl (show gl = gl from rfl))
  have e86 := e76.trans e87 (fun _ e => .inl e)
  have s78 : w8.heap.size = w7.heap.size := by rw [hw8]; simp [World.setCell, World.drew]
  have s67 : w7.heap.size = w6.heap.size := by rw [HE7.out]; simp [World.setCell]
  have g8 : w8.heap[gl]? = some (.cells #[.int .i64 p, .slice a6 L.length L.length, .slice a6 L.length c6, .int .i64 (L.length : Nat), .bool false, .slice (some ⟨t + 1, 0, none⟩) N N] DT (0, 0)) := by rw [hw8]; exact sync_set _ _ _ HG7.out
  have b48 : Below w.heap.size w w8 := by
    have q1 := below_trans' b04 (below_trans' HB5.out HB6.out)
    exact ⟨e86.os.trans q1.os, e86.tape.trans q1.tape, e86.output.trans q1.output, Nat.le_trans q1.size e86.size, fun b hb => (e86.block b (Nat.lt_of_lt_of_le hb q1.size) (by have := HT.out; omega)).trans (q1.block b hb)⟩
  have hD8 : DiskM w8 (fun q => t < q ∧ q < w8.heap.size) gl { pow := p, safe := L, read := L, base := L.length, laid := false, sl := noSl N } := by
    refine ⟨fun q => (SV (a6, L.length, c6)).ownBlock = some q, fun q => q = t + 1, (a6, L.length, L.length), (a6, L.length, c6), (some ⟨t + 1, 0, none⟩, N, N), noHs N, g8, HLG.out.keep e86 (fun q hq e => ?_), ?_, fun q hq => ?_, fun q hq => ?_, ⟨htgl, ?_⟩, fun q hq => hq.2, Nat.le_refl _, hp⟩
    · have := (HO6.out.lt q hq).1; omega
    · have h1 := SlM.fresh (F := fun q => q = t + 1) (b := t + 1) HO3.out rfl
      have h2 := h1.keep (G := fun _ => False) (.of_below (below_trans' HB5.out HB6.out)) (fun _ _ e => e)
      exact h2.keep e86 (fun q hq e => by have := HGL.out; omega)
    · have := HO6.out.lt q hq
      refine ⟨⟨by omega, by omega⟩, by omega, by omega⟩
    · have := HGL.out
      refine ⟨⟨by omega, by omega⟩, by omega⟩
    · omega
  have et8 : w8.heap[t]? = some (.cells #[.int .i64 keep, .bool reset, .slice fa fn fc] FT) := (e86.block t (by omega) (by omega)).trans (((HB6.out.block t (by omega)).trans (HB5.out.block t (by omega))).trans HET.out)
  have hD8' := Lib.hid (hD8.wide (F' := Gr (fun q => t < q ∧ q < w8.heap.size) w8 w8) (fun q hq => .inl hq) (fun q hq => by rcases hq with h | h <;> exact h.2))
  have hC8 := Lib.hid (ChF.refl (fun q => t < q ∧ q < w8.heap.size) w8)
  have g85 : w8.cell? ⟨gl, 5, none⟩ = some (.slice (some ⟨t + 1, 0, none⟩) N N) := cell_of_row _ _ 5 _ _ _ g8
  have HB8 := Lib.hid b48
  have HE8 := Lib.hid et8
  have hs8 : t + 1 < w8.heap.size := by omega
  have hg8 : gl < w8.heap.size := by omega
  have hc5 := (b48.cell (p := ⟨g, 5, none⟩) hg4).trans HC5.out
  clear s45 s56 e87 e76 e86 s78 s67 g8 b48 hD8 et8 hw8 HLG HG7 HE7 HO6 HB6 KL5 HB5 KL HK HET HG0 HSV HRD HW4 HO3 b34 b04 b03 hs3 hw1 hs4 P7
  go_wp2_with fail
  go_loopw [8, 40] (fun u vi wr => ∃ k : Nat, k ≤ N ∧ vi = .int .i64 (k : Nat) ∧ u = .int .i64 (cntW d.sl k : Nat) ∧ Hid (DiskM wr (Gr (fun q => t < q ∧ q < w8.heap.size) w8 wr) gl { pow := p, safe := L, read := L, base := L.length, laid := false, sl := leftTo d.sl fs k }) ∧ Hid (ChF (fun q => t < q ∧ q < w8.heap.size) w8 wr) ∧ wr.cell? ⟨gl, 5, none⟩ = some (.slice (some ⟨t + 1, 0, none⟩) N N)) (fun _ vi _ => (N - intOf vi).toNat)
  case atStart =>
    refine ⟨0, Nat.zero_le _, rfl, rfl, ?_, hC8, g85⟩
    have : leftTo d.sl fs 0 = noSl N := by unfold leftTo; rw [HN.out]
    rw [this]
    exact hD8'
  case round =>
    clear hD8' hC8 g85 hc5
    obtain ⟨k, hk, rfl, rfl, hd, hc, g5⟩ := hrel
    by_cases hlt : k < N
    · obtain ⟨s, hs⟩ : ∃ s, d.sl[k]? = some s := ⟨_, List.getElem?_eq_getElem (by have := HN.out; omega)⟩
      obtain ⟨b0, ⟨⟨xs1, xs2, xs3⟩, ⟨xr1, xr2, xr3⟩, xw⟩, rfl, hcap, x0, x1, x2, hb0, bS, bR⟩ := HAT.out k s hs
      have bW : Below w.heap.size w wr := ⟨hc.out.os.trans HB8.out.os, hc.out.tape.trans HB8.out.tape, hc.out.output.trans HB8.out.output, Nat.le_trans HB8.out.size hc.out.size, fun q hq => (hc.out.block q (Nat.lt_of_lt_of_le hq HB8.out.size) (by have := HT.out; omega)).trans (HB8.out.block q hq)⟩
      have hblk : wr.heap[b0]? = w.heap[b0]? := bW.block b0 hb0
      simp only [SV] at x0 x1
      have y0 := (World.cell?_of_block (w := w) (w' := wr) (a := ⟨b0, k * 3, none⟩) hblk).trans x0
      have y1 := (World.cell?_of_block (w := w) (w' := wr) (a := ⟨b0, k * 3 + 1, none⟩) hblk).trans x1
      have y2 := (World.cell?_of_block (w := w) (w' := wr) (a := ⟨b0, k * 3 + 2, none⟩) hblk).trans x2
      have et : wr.heap[t]? = some (.cells #[.int .i64 keep, .bool reset, .slice fa fn fc] FT) := (hc.out.block t (by omega) (by omega)).trans HE8.out
      have bc := below_alloc wr (.cells #[.slice xs1 xs2 xs3, .slice xr1 xr2 xr3, .bool s.2.2] KT)
      have hwl := hc.out.size
      have ft2 := (bc.cell (p := ⟨t, 2, none⟩) (by show t < _; omega)).trans (cell_of_row _ _ 2 _ _ _ et)
      have hkI : (k : Int) < (N : Int) := by omega
      have hcnt := cntW_le d.sl k
      clear x0 x1 x2 hblk
      by_cases hw : s.2.2 = true
      · rw [hw] at y2 bc ft2
        have hfl : fs.length = fn := HF.out.length
        by_cases hfn : 0 < fn
        · obtain ⟨fb, fo, efa, hcl⟩ := HF.out.row.2 (by show 0 < fn; exact hfn)
          simp only at efa
          subst efa
          obtain ⟨m, hm⟩ : ∃ m, m = cntW d.sl k % fn := ⟨_, rfl⟩
          have hmf : m < fn := by rw [hm]; exact Nat.mod_lt _ hfn
          have hzc := hcl m hmf
          obtain ⟨z, hz⟩ : ∃ z, z = fs.getD m 0 := ⟨_, rfl⟩
          rw [iv_getD (by omega), ← hz] at hzc
          have hzm := hwf z (by rw [hz, List.getD_eq_getElem?_getD, List.getElem?_eq_getElem (by omega)]; exact List.getElem_mem _)
          have hzl := World.block_lt_of_cell? w ⟨fb, fo + m, none⟩ hzc
          have hz4 := ((below_trans' bW bc).cell (p := ⟨fb, fo + m, none⟩) hzl).trans hzc
          obtain ⟨y, hy⟩ : ∃ y, y = z.tmod 3 := ⟨_, rfl⟩
          obtain ⟨f, hf⟩ : ∃ f, f = (y + 3).tmod 3 := ⟨_, rfl⟩
          have hy1 : -3 < y := by rw [hy]; have := Int.lt_tmod_of_pos z (b := 3) (by decide); omega
          have hy2 : y < 3 := by rw [hy]; exact Int.tmod_lt_of_pos z (by decide)
          have hwy : IntKind.i64.wrap y = y := wrap_i64_in y (by omega) (by omega)
          have hwy3 : IntKind.i64.wrap (y + 3) = y + 3 := wrap_i64_in _ (by omega) (by omega)
          have hf1 : 0 ≤ f := by rw [hf, Int.tmod_eq_emod_of_nonneg (by omega)]; omega
          have hf2 : f < 3 := by rw [hf, Int.tmod_eq_emod_of_nonneg (by omega)]; omega
          have hwf2 : IntKind.i64.wrap f = f := wrap_i64_in _ (by omega) (by omega)
          have hf' := hf.symm
          have hy' := hy.symm
          have hfate : fateOf fs (cntW d.sl k) s.2.2 = f := by unfold fateOf; rw [hw, if_pos ⟨rfl, by omega⟩, hfl, ← hm, ← hz, hf, hy]
          have hcf : fn ≤ fc := HF.out.cap
          have hmod : ((cntW d.sl k : Nat) : Int).tmod ((fn : Nat) : Int) = (m : Nat) := by rw [Int.tmod_eq_emod_of_nonneg (by omega), hm]; exact (Int.natCast_emod _ _).symm
          have hfI : ((fn : Nat) : Int) ≠ 0 := by omega
          have hmod2 : ((cntW d.sl k : Nat) : Int) % ((fn : Nat) : Int) = (m : Nat) := by rw [hm]; exact (Int.natCast_emod _ _).symm
          have hb1 : (((fn : Nat) : Int) == 0) = false := beq_eq_false_iff_ne.2 hfI
          have hb2 : (((fn : Nat) : Int) = 0) = False := eq_false hfI
          have hb3 : (fn = 0) = False := eq_false (by omega)
          have hmI : ((m : Nat) : Int) < ((fn : Nat) : Int) := by omega
          have hfpos : (0 : Int) < ((fn : Nat) : Int) := by omega
          have hmc : m ≤ cntW d.sl k := by rw [hm]; exact Nat.mod_le _ _
          have hmw : IntKind.i64.wrap ((m : Nat) : Int) = (m : Nat) := wrap_i64_id _ (by omega) (by omega)
          have HFE := Lib.hid hf
          have HYE := Lib.hid hy
          have HM2 := Lib.hid hm
          have HZ2 := Lib.hid hz
          clear hf hy hm hz
          clear hzc hcl
          go_wp2
          obtain ⟨wc, hwc⟩ : ∃ x, x = wr.alloc (.cells #[.slice xs1 xs2 xs3, .slice xr1 xr2 xr3, .bool true] KT) := ⟨_, rfl⟩
          have q0 : wc.cell? ⟨wr.heap.size, 0, none⟩ = some (.slice xs1 xs2 xs3) := by rw [hwc]; exact cell_of_row _ _ 0 _ _ _ (heap_alloc_self wr _)
          have q1 : wc.cell? ⟨wr.heap.size, 1, none⟩ = some (.slice xr1 xr2 xr3) := by rw [hwc]; exact cell_of_row _ _ 1 _ _ _ (heap_alloc_self wr _)
          have q2 : wc.cell? ⟨wr.heap.size, 2, none⟩ = some (.bool true) := by rw [hwc]; exact cell_of_row _ _ 2 _ _ _ (heap_alloc_self wr _)
          have hsc : wc.heap.size = wr.heap.size + 1 := by rw [hwc]; exact alloc_sz wr _
          rw [← hwc] at bc ft2 hz4 ⊢
          clear hwc
          obtain ⟨cc, hcc⟩ : ∃ c, c = wr.heap.size := ⟨_, rfl⟩
          rw [← hcc] at q0 q1 q2 ⊢
          have HCC := Lib.hid hcc
          clear hcc
          go_quiet (fail)
          obtain ⟨wd, hwd⟩ : ∃ x, x = wc.drewN nq := ⟨_, rfl⟩
          have hbd : Below wc.heap.size wc wd := by rw [hwd]; exact below_drewN (Below.refl _ _) nq
          rw [← hwd]
          have hed : ∀ j, wd.cell? ⟨cc, j, none⟩ = wc.cell? ⟨cc, j, none⟩ := fun j => hbd.cell (p := ⟨cc, j, none⟩) (by have := HCC.out; show cc < _; omega)
          rw [← hed] at q0 q1 q2
          have hsd : wd.heap.size = wr.heap.size + 1 := by rw [hwd, heap_drewN]; exact hsc
          have bd := below_trans' bc hbd
          clear hwd hed bc ft2 hz4
          obtain ⟨bc⟩ : Nonempty (Below wr.heap.size wr wd) := ⟨bd⟩
          obtain ⟨hsc'⟩ : Nonempty (wd.heap.size = wr.heap.size + 1) := ⟨hsd⟩
          clear bd hsd hbd hsc
          have hsc := hsc'
          clear hsc'
          go_wp2
          have BS := bS.bv_.below (below_trans' bW bc)
          have BR := bR.bv_.below (below_trans' bW bc)
          have hsl : (leftTo d.sl fs k)[k]? = some ((leftTo d.sl fs k).getD k ([], [], false)) := by rw [List.getD_eq_getElem?_getD, List.getElem?_eq_getElem (by rw [leftTo_length, ← HN.out]; exact hlt)]; rfl
          obtain ⟨bb, cs, xx, e, -, hcm, z0, z1, z2, zF, hne, -, -, -, hbb, hgl', hfin⟩ := hd.out.slot g5 hsl
          have hln : (leftTo d.sl fs k).length = N := by rw [leftTo_length]; exact HN.out.symm
          simp only at e hfin
          rw [hln] at e hfin
          injection e with e1 e2 e3
          injection e1 with e1
          injection e1 with e1
          subst e1 e3
          rw [Nat.zero_add] at z0 z1 z2
          obtain ⟨R, hR⟩ : ∃ R, R = remS s.1 s.2.1 f := ⟨_, rfl⟩
          have KR := Lib.hid (show ∀ w2, Below wd.heap.size wd w2 → Calls Try.prog 43 #[.agg #[.slice xs1 xs2 xs3, .slice xr1 xr2 xr3, .bool true], .int .i64 f] w2 (GivesBytes 5 w2 R) from fun w2 b2 => by rw [hR]; exact slotRem_any xs1 xs2 xs3 xr1 xr2 xr3 true s.1 s.2.1 f w2 (BS.below b2) (BR.below b2) (by have := bS.len; have := bS.small; simp only at *; omega) (by have := bR.len; have := bR.small; simp only at *; omega))
          have HK := Lib.hid (show ∀ w2, Below wd.heap.size wd w2 → (w2.cell? ⟨gl, 5, none⟩ = some (.slice (some ⟨t + 1, 0, none⟩) N N) ∧ w2.cell? ⟨cc, 0, none⟩ = some (.slice xs1 xs2 xs3) ∧ w2.cell? ⟨cc, 1, none⟩ = some (.slice xr1 xr2 xr3) ∧ w2.cell? ⟨cc, 2, none⟩ = some (.bool true)) ∧ (w2.cell? ⟨t + 1, k * 3, none⟩ = some (SV xx.1) ∧ w2.cell? ⟨t + 1, k * 3 + 1, none⟩ = some (SV xx.2.1) ∧ w2.cell? ⟨t + 1, k * 3 + 2, none⟩ = some (.bool ((leftTo d.sl fs k).getD k ([], [], false)).2.2)) ∧ ∀ j, w2.frozen? ⟨t + 1, j, none⟩ = false from fun w2 b2 => by
            have h1 := b2.block (t + 1) (by omega)
            have h2 := bc.block (t + 1) hbb
            have h3 := h1.trans h2
            exact ⟨⟨(b2.cell (p := ⟨gl, 5, none⟩) (by show gl < _; omega)).trans ((bc.cell (p := ⟨gl, 5, none⟩) (by show gl < _; omega)).trans g5), (b2.cell (p := ⟨cc, 0, none⟩) (by have := HCC.out; show cc < _; omega)).trans q0, (b2.cell (p := ⟨cc, 1, none⟩) (by have := HCC.out; show cc < _; omega)).trans q1, (b2.cell (p := ⟨cc, 2, none⟩) (by have := HCC.out; show cc < _; omega)).trans q2⟩, ⟨(World.cell?_of_block (w := wr) (w' := w2) (a := ⟨t + 1, k * 3, none⟩) h3).trans z0, (World.cell?_of_block (w := wr) (w' := w2) (a := ⟨t + 1, k * 3 + 1, none⟩) h3).trans z1, (World.cell?_of_block (w := wr) (w' := w2) (a := ⟨t + 1, k * 3 + 2, none⟩) h3).trans z2⟩, fun j => (World.frozen?_of_block (w := wr) (w' := w2) (a := ⟨t + 1, j, none⟩) h3).trans (zF j)⟩)
          have P4 := (HK.out wd (Below.refl _ _)).1
          have bcd : Below wd.heap.size wd wd.drew := ⟨rfl, rfl, rfl, Nat.le_refl _, fun _ _ => rfl⟩
          have hRb : Bytes R := by rw [hR]; exact remS_bytes bS.bytes bR.bytes _
          have hRs : R.length ≤ 1000000000 := by
            have h1 := remS_len s.1 s.2.1 f
            have h2 := bS.small
            have h3 := bR.small
            rw [hR]; omega
          have HR := Lib.hid hR
          have HFIN := Lib.hid hfin
          have HBC := Lib.hid bc
          have PS : ∀ (w2 : World) i v, (w2.cell? ⟨gl, 5, none⟩ = some (.slice (some ⟨t + 1, 0, none⟩) N N) ∧ w2.cell? ⟨cc, 0, none⟩ = some (.slice xs1 xs2 xs3) ∧ w2.cell? ⟨cc, 1, none⟩ = some (.slice xr1 xr2 xr3) ∧ w2.cell? ⟨cc, 2, none⟩ = some (.bool true)) → ((w2.setCell ⟨t + 1, i, none⟩ v).cell? ⟨gl, 5, none⟩ = some (.slice (some ⟨t + 1, 0, none⟩) N N) ∧ (w2.setCell ⟨t + 1, i, none⟩ v).cell? ⟨cc, 0, none⟩ = some (.slice xs1 xs2 xs3) ∧ (w2.setCell ⟨t + 1, i, none⟩ v).cell? ⟨cc, 1, none⟩ = some (.slice xr1 xr2 xr3) ∧ (w2.setCell ⟨t + 1, i, none⟩ v).cell? ⟨cc, 2, none⟩ = some (.bool true)) := fun w2 i v q => ⟨cell_set_ne hne q.1, cell_set_ne (by have := HCC.out; omega) q.2.1, cell_set_ne (by have := HCC.out; omega) q.2.2.1, cell_set_ne (by have := HCC.out; omega) q.2.2.2⟩
          clear hR hfin z0 z1 z2 zF BS BR y0 y1 y2 et hd bc q0 q1 q2 g5 hsl
          go_region_held3 (fun w' => w'.cell? ⟨gl, 5, none⟩ = some (.slice (some ⟨t + 1, 0, none⟩) N N) ∧ w'.cell? ⟨cc, 0, none⟩ = some (.slice xs1 xs2 xs3) ∧ w'.cell? ⟨cc, 1, none⟩ = some (.slice xr1 xr2 xr3) ∧ w'.cell? ⟨cc, 2, none⟩ = some (.bool true)) (first | exact P4 | exact P5 | exact P6 | exact PS _ _ _ (PS _ _ _ (PS _ _ _ P6)) | go_keep)
            (first
              | (go_at_call 43; (with_reducible refine (KR.out wd.drew bcd).mono ?_); rintro e w5 ⟨ay, cy, rfl, oy, by_⟩; have b5 : Below wd.heap.size wd w5 := below_trans' bcd by_; have P5 := (HK.out w5 b5).1; have KR5 := Lib.hid (KR.out w5 b5); have HO5 := Lib.hid oy; have HB5 := Lib.hid b5; clear oy by_ b5)
              | (go_at_call 43; (with_reducible refine KR5.out.mono ?_); rintro e w6 ⟨az, cz, rfl, oz, bz⟩; obtain ⟨P6, ⟨z0, z1, z2⟩, zF⟩ := HK.out w6 (below_trans' HB5.out bz); have f0 := zF (k * 3); have f1 := zF (k * 3 + 1); have f2 := zF (k * 3 + 2); have HO6 := Lib.hid oz; have HB6 := Lib.hid bz; clear oz bz zF))
          go_wp2
          rw [show ((k : Int) + 1) = ((k + 1 : Nat) : Int) by omega, show ((cntW d.sl k : Nat) : Int) + 1 = ((cntW d.sl k + 1 : Nat) : Int) by omega]
          obtain ⟨w7, hw7⟩ : ∃ x, x = ((w6.setCell ⟨t + 1, k * 3, none⟩ (.slice ay R.length cy)).setCell ⟨t + 1, k * 3 + 1, none⟩ (.slice az R.length cz)).setCell ⟨t + 1, k * 3 + 2, none⟩ (.bool false) := ⟨_, rfl⟩
          rw [← hw7]
          have e76 : ChF (fun q => q = t + 1) w6 w7 := by rw [hw7]; exact (((ChF.refl (fun q => q = t + 1) w6).set (g := t + 1) (.inl (show t + 1 = t + 1 from rfl))).set (g := t + 1) (.inl (show t + 1 = t + 1 from rfl))).set (g := t + 1) (.inl (show t + 1 = t + 1 from rfl))
          have bww := below_trans' HBC.out (below_trans' HB5.out HB6.out)
          have fin := HFIN.out (fun q => q = t + 1) w6 w7 (leftTo d.sl fs (k + 1)) bww e76 (by rw [hw7]; simp [World.setCell]) (fun FS hs' h3 hx => ⟨fun q hq => by rw [hq]; exact h3.inF (t + 1) rfl, _, by
            have e1 : d.sl.getD k ([], [], false) = s := by rw [List.getD_eq_getElem?_getD, hs]; rfl
            rw [hw7, show leftTo d.sl fs (k + 1) = (leftTo d.sl fs k).set k (R, R, false) by rw [leftTo_succ, e1]; unfold leftS; rw [hfate, ← HR.out]]
            exact h3.fill hx (by rw [leftTo_length, ← HN.out]; exact hlt) (own_ChF (ownsRow_base HO5.out (by show wr.heap.size ≤ wd.heap.size; omega)) (ChF.of_below (F := fun _ => False) HB6.out) (fun _ _ e => e)) HO6.out (fun q hq => (HO5.out.lt q hq).2) (Nat.le_trans HBC.out.size HB5.out.size) bww hRb hRb hRs hRs false⟩)
          refine ⟨⟨k + 1, hlt, rfl, ?_, ?_, ?_, fin.2.2⟩, by simp only [intOf]; omega⟩
          · rw [cntW_step hs, hw]; rfl
          · exact Lib.hid (.gr2 (fun q hq => hq.2) hwl fin.2.1.size fin.1)
          · exact Lib.hid (hc.out.gr2 fin.2.1)
        · obtain rfl : fn = 0 := by omega
          have hfate : fateOf fs (cntW d.sl k) s.2.2 = 0 := by unfold fateOf; rw [if_neg (by omega)]
          go_wp2
          obtain ⟨wc, hwc⟩ : ∃ x, x = wr.alloc (.cells #[.slice xs1 xs2 xs3, .slice xr1 xr2 xr3, .bool true] KT) := ⟨_, rfl⟩
          have q0 : wc.cell? ⟨wr.heap.size, 0, none⟩ = some (.slice xs1 xs2 xs3) := by rw [hwc]; exact cell_of_row _ _ 0 _ _ _ (heap_alloc_self wr _)
          have q1 : wc.cell? ⟨wr.heap.size, 1, none⟩ = some (.slice xr1 xr2 xr3) := by rw [hwc]; exact cell_of_row _ _ 1 _ _ _ (heap_alloc_self wr _)
          have q2 : wc.cell? ⟨wr.heap.size, 2, none⟩ = some (.bool true) := by rw [hwc]; exact cell_of_row _ _ 2 _ _ _ (heap_alloc_self wr _)
          have hsc : wc.heap.size = wr.heap.size + 1 := by rw [hwc]; exact alloc_sz wr _
          rw [← hwc] at bc ⊢
          clear hwc
          obtain ⟨cc, hcc⟩ : ∃ c, c = wr.heap.size := ⟨_, rfl⟩
          rw [← hcc] at q0 q1 q2 ⊢
          have HCC := Lib.hid hcc
          clear hcc
          have BS := bS.bv_.below (below_trans' bW bc)
          have BR := bR.bv_.below (below_trans' bW bc)
          have hsl : (leftTo d.sl fs k)[k]? = some ((leftTo d.sl fs k).getD k ([], [], false)) := by rw [List.getD_eq_getElem?_getD, List.getElem?_eq_getElem (by rw [leftTo_length, ← HN.out]; exact hlt)]; rfl
          obtain ⟨bb, cs, xx, e, -, hcm, z0, z1, z2, zF, hne, -, -, -, hbb, hgl', hfin⟩ := hd.out.slot g5 hsl
          have hln : (leftTo d.sl fs k).length = N := by rw [leftTo_length]; exact HN.out.symm
          simp only at e hfin
          rw [hln] at e hfin
          injection e with e1 e2 e3
          injection e1 with e1
          injection e1 with e1
          subst e1 e3
          rw [Nat.zero_add] at z0 z1 z2
          obtain ⟨R, hR⟩ : ∃ R, R = remS s.1 s.2.1 0 := ⟨_, rfl⟩
          have KR := Lib.hid (show ∀ w2, Below wc.heap.size wc w2 → Calls Try.prog 43 #[.agg #[.slice xs1 xs2 xs3, .slice xr1 xr2 xr3, .bool true], .int .i64 0] w2 (GivesBytes 5 w2 R) from fun w2 b2 => by rw [hR]; exact slotRem_any xs1 xs2 xs3 xr1 xr2 xr3 true s.1 s.2.1 0 w2 (BS.below b2) (BR.below b2) (by have := bS.len; have := bS.small; simp only at *; omega) (by have := bR.len; have := bR.small; simp only at *; omega))
          have HK := Lib.hid (show ∀ w2, Below wc.heap.size wc w2 → (w2.cell? ⟨gl, 5, none⟩ = some (.slice (some ⟨t + 1, 0, none⟩) N N) ∧ w2.cell? ⟨cc, 0, none⟩ = some (.slice xs1 xs2 xs3) ∧ w2.cell? ⟨cc, 1, none⟩ = some (.slice xr1 xr2 xr3) ∧ w2.cell? ⟨cc, 2, none⟩ = some (.bool true)) ∧ (w2.cell? ⟨t + 1, k * 3, none⟩ = some (SV xx.1) ∧ w2.cell? ⟨t + 1, k * 3 + 1, none⟩ = some (SV xx.2.1) ∧ w2.cell? ⟨t + 1, k * 3 + 2, none⟩ = some (.bool ((leftTo d.sl fs k).getD k ([], [], false)).2.2)) ∧ ∀ j, w2.frozen? ⟨t + 1, j, none⟩ = false from fun w2 b2 => by
            have h1 := b2.block (t + 1) (by omega)
            have h2 := bc.block (t + 1) hbb
            have h3 := h1.trans h2
            exact ⟨⟨(b2.cell (p := ⟨gl, 5, none⟩) (by show gl < _; omega)).trans ((bc.cell (p := ⟨gl, 5, none⟩) (by show gl < _; omega)).trans g5), (b2.cell (p := ⟨cc, 0, none⟩) (by have := HCC.out; show cc < _; omega)).trans q0, (b2.cell (p := ⟨cc, 1, none⟩) (by have := HCC.out; show cc < _; omega)).trans q1, (b2.cell (p := ⟨cc, 2, none⟩) (by have := HCC.out; show cc < _; omega)).trans q2⟩, ⟨(World.cell?_of_block (w := wr) (w' := w2) (a := ⟨t + 1, k * 3, none⟩) h3).trans z0, (World.cell?_of_block (w := wr) (w' := w2) (a := ⟨t + 1, k * 3 + 1, none⟩) h3).trans z1, (World.cell?_of_block (w := wr) (w' := w2) (a := ⟨t + 1, k * 3 + 2, none⟩) h3).trans z2⟩, fun j => (World.frozen?_of_block (w := wr) (w' := w2) (a := ⟨t + 1, j, none⟩) h3).trans (zF j)⟩)
          have P4 := (HK.out wc (Below.refl _ _)).1
          have bcd : Below wc.heap.size wc wc.drew := ⟨rfl, rfl, rfl, Nat.le_refl _, fun _ _ => rfl⟩
          have hRb : Bytes R := by rw [hR]; exact remS_bytes bS.bytes bR.bytes _
          have hRs : R.length ≤ 1000000000 := by
            have h1 := remS_len s.1 s.2.1 0
            have h2 := bS.small
            have h3 := bR.small
            rw [hR]; omega
          have HR := Lib.hid hR
          have HFIN := Lib.hid hfin
          have HBC := Lib.hid bc
          have PS : ∀ (w2 : World) i v, (w2.cell? ⟨gl, 5, none⟩ = some (.slice (some ⟨t + 1, 0, none⟩) N N) ∧ w2.cell? ⟨cc, 0, none⟩ = some (.slice xs1 xs2 xs3) ∧ w2.cell? ⟨cc, 1, none⟩ = some (.slice xr1 xr2 xr3) ∧ w2.cell? ⟨cc, 2, none⟩ = some (.bool true)) → ((w2.setCell ⟨t + 1, i, none⟩ v).cell? ⟨gl, 5, none⟩ = some (.slice (some ⟨t + 1, 0, none⟩) N N) ∧ (w2.setCell ⟨t + 1, i, none⟩ v).cell? ⟨cc, 0, none⟩ = some (.slice xs1 xs2 xs3) ∧ (w2.setCell ⟨t + 1, i, none⟩ v).cell? ⟨cc, 1, none⟩ = some (.slice xr1 xr2 xr3) ∧ (w2.setCell ⟨t + 1, i, none⟩ v).cell? ⟨cc, 2, none⟩ = some (.bool true)) := fun w2 i v q => ⟨cell_set_ne hne q.1, cell_set_ne (by have := HCC.out; omega) q.2.1, cell_set_ne (by have := HCC.out; omega) q.2.2.1, cell_set_ne (by have := HCC.out; omega) q.2.2.2⟩
          clear hR hfin z0 z1 z2 zF BS BR y0 y1 y2 ft2 et hd bc q0 q1 q2 g5 hsl
          go_region_held3 (fun w' => w'.cell? ⟨gl, 5, none⟩ = some (.slice (some ⟨t + 1, 0, none⟩) N N) ∧ w'.cell? ⟨cc, 0, none⟩ = some (.slice xs1 xs2 xs3) ∧ w'.cell? ⟨cc, 1, none⟩ = some (.slice xr1 xr2 xr3) ∧ w'.cell? ⟨cc, 2, none⟩ = some (.bool true)) (first | exact P4 | exact P5 | exact P6 | exact PS _ _ _ (PS _ _ _ (PS _ _ _ P6)) | go_keep)
            (first
              | (go_at_call 43; (with_reducible refine (KR.out wc.drew bcd).mono ?_); rintro e w5 ⟨ay, cy, rfl, oy, by_⟩; have b5 : Below wc.heap.size wc w5 := below_trans' bcd by_; have P5 := (HK.out w5 b5).1; have KR5 := Lib.hid (KR.out w5 b5); have HO5 := Lib.hid oy; have HB5 := Lib.hid b5; clear oy by_ b5)
              | (go_at_call 43; (with_reducible refine KR5.out.mono ?_); rintro e w6 ⟨az, cz, rfl, oz, bz⟩; obtain ⟨P6, ⟨z0, z1, z2⟩, zF⟩ := HK.out w6 (below_trans' HB5.out bz); have f0 := zF (k * 3); have f1 := zF (k * 3 + 1); have f2 := zF (k * 3 + 2); have HO6 := Lib.hid oz; have HB6 := Lib.hid bz; clear oz bz zF))
          go_wp2
          rw [show ((k : Int) + 1) = ((k + 1 : Nat) : Int) by omega, show ((cntW d.sl k : Nat) : Int) + 1 = ((cntW d.sl k + 1 : Nat) : Int) by omega]
          obtain ⟨w7, hw7⟩ : ∃ x, x = ((w6.setCell ⟨t + 1, k * 3, none⟩ (.slice ay R.length cy)).setCell ⟨t + 1, k * 3 + 1, none⟩ (.slice az R.length cz)).setCell ⟨t + 1, k * 3 + 2, none⟩ (.bool false) := ⟨_, rfl⟩
          rw [← hw7]
          have e76 : ChF (fun q => q = t + 1) w6 w7 := by rw [hw7]; exact (((ChF.refl (fun q => q = t + 1) w6).set (g := t + 1) (.inl (show t + 1 = t + 1 from rfl))).set (g := t + 1) (.inl (show t + 1 = t + 1 from rfl))).set (g := t + 1) (.inl (show t + 1 = t + 1 from rfl))
          have bww := below_trans' HBC.out (below_trans' HB5.out HB6.out)
          have fin := HFIN.out (fun q => q = t + 1) w6 w7 (leftTo d.sl fs (k + 1)) bww e76 (by rw [hw7]; simp [World.setCell]) (fun FS hs' h3 hx => ⟨fun q hq => by rw [hq]; exact h3.inF (t + 1) rfl, _, by
            have e1 : d.sl.getD k ([], [], false) = s := by rw [List.getD_eq_getElem?_getD, hs]; rfl
            rw [hw7, show leftTo d.sl fs (k + 1) = (leftTo d.sl fs k).set k (R, R, false) by rw [leftTo_succ, e1]; unfold leftS; rw [hfate, ← HR.out]]
            exact h3.fill hx (by rw [leftTo_length, ← HN.out]; exact hlt) (own_ChF (ownsRow_base HO5.out (by show wr.heap.size ≤ wc.heap.size; omega)) (ChF.of_below (F := fun _ => False) HB6.out) (fun _ _ e => e)) HO6.out (fun q hq => (HO5.out.lt q hq).2) (Nat.le_trans HBC.out.size HB5.out.size) bww hRb hRb hRs hRs false⟩)
          refine ⟨⟨k + 1, hlt, rfl, ?_, ?_, ?_, fin.2.2⟩, by simp only [intOf]; omega⟩
          · rw [cntW_step hs, hw]; rfl
          · exact Lib.hid (.gr2 (fun q hq => hq.2) hwl fin.2.1.size fin.1)
          · exact Lib.hid (hc.out.gr2 fin.2.1)
      · rw [Bool.not_eq_true] at hw
        rw [hw] at y2 bc ft2
        have hfate : fateOf fs (cntW d.sl k) s.2.2 = 0 := by unfold fateOf; rw [hw, if_neg (by simp)]
        go_wp2
        obtain ⟨wc, hwc⟩ : ∃ x, x = wr.alloc (.cells #[.slice xs1 xs2 xs3, .slice xr1 xr2 xr3, .bool false] KT) := ⟨_, rfl⟩
        have q0 : wc.cell? ⟨wr.heap.size, 0, none⟩ = some (.slice xs1 xs2 xs3) := by rw [hwc]; exact cell_of_row _ _ 0 _ _ _ (heap_alloc_self wr _)
        have q1 : wc.cell? ⟨wr.heap.size, 1, none⟩ = some (.slice xr1 xr2 xr3) := by rw [hwc]; exact cell_of_row _ _ 1 _ _ _ (heap_alloc_self wr _)
        have q2 : wc.cell? ⟨wr.heap.size, 2, none⟩ = some (.bool false) := by rw [hwc]; exact cell_of_row _ _ 2 _ _ _ (heap_alloc_self wr _)
        have hsc : wc.heap.size = wr.heap.size + 1 := by rw [hwc]; exact alloc_sz wr _
        rw [← hwc] at bc ⊢
        clear hwc
        obtain ⟨cc, hcc⟩ : ∃ c, c = wr.heap.size := ⟨_, rfl⟩
        rw [← hcc] at q0 q1 q2 ⊢
        have HCC := Lib.hid hcc
        clear hcc
        have BS := bS.bv_.below (below_trans' bW bc)
        have BR := bR.bv_.below (below_trans' bW bc)
        have hsl : (leftTo d.sl fs k)[k]? = some ((leftTo d.sl fs k).getD k ([], [], false)) := by rw [List.getD_eq_getElem?_getD, List.getElem?_eq_getElem (by rw [leftTo_length, ← HN.out]; exact hlt)]; rfl
        obtain ⟨bb, cs, xx, e, -, hcm, z0, z1, z2, zF, hne, -, -, -, hbb, hgl', hfin⟩ := hd.out.slot g5 hsl
        have hln : (leftTo d.sl fs k).length = N := by rw [leftTo_length]; exact HN.out.symm
        simp only at e hfin
        rw [hln] at e hfin
        injection e with e1 e2 e3
        injection e1 with e1
        injection e1 with e1
        subst e1 e3
        rw [Nat.zero_add] at z0 z1 z2
        obtain ⟨R, hR⟩ : ∃ R, R = remS s.1 s.2.1 0 := ⟨_, rfl⟩
        have KR := Lib.hid (show ∀ w2, Below wc.heap.size wc w2 → Calls Try.prog 43 #[.agg #[.slice xs1 xs2 xs3, .slice xr1 xr2 xr3, .bool false], .int .i64 0] w2 (GivesBytes 5 w2 R) from fun w2 b2 => by rw [hR]; exact slotRem_any xs1 xs2 xs3 xr1 xr2 xr3 false s.1 s.2.1 0 w2 (BS.below b2) (BR.below b2) (by have := bS.len; have := bS.small; simp only at *; omega) (by have := bR.len; have := bR.small; simp only at *; omega))
        have HK := Lib.hid (show ∀ w2, Below wc.heap.size wc w2 → (w2.cell? ⟨gl, 5, none⟩ = some (.slice (some ⟨t + 1, 0, none⟩) N N) ∧ w2.cell? ⟨cc, 0, none⟩ = some (.slice xs1 xs2 xs3) ∧ w2.cell? ⟨cc, 1, none⟩ = some (.slice xr1 xr2 xr3) ∧ w2.cell? ⟨cc, 2, none⟩ = some (.bool false)) ∧ (w2.cell? ⟨t + 1, k * 3, none⟩ = some (SV xx.1) ∧ w2.cell? ⟨t + 1, k * 3 + 1, none⟩ = some (SV xx.2.1) ∧ w2.cell? ⟨t + 1, k * 3 + 2, none⟩ = some (.bool ((leftTo d.sl fs k).getD k ([], [], false)).2.2)) ∧ ∀ j, w2.frozen? ⟨t + 1, j, none⟩ = false from fun w2 b2 => by
          have h1 := b2.block (t + 1) (by omega)
          have h2 := bc.block (t + 1) hbb
          have h3 := h1.trans h2
          exact ⟨⟨(b2.cell (p := ⟨gl, 5, none⟩) (by show gl < _; omega)).trans ((bc.cell (p := ⟨gl, 5, none⟩) (by show gl < _; omega)).trans g5), (b2.cell (p := ⟨cc, 0, none⟩) (by have := HCC.out; show cc < _; omega)).trans q0, (b2.cell (p := ⟨cc, 1, none⟩) (by have := HCC.out; show cc < _; omega)).trans q1, (b2.cell (p := ⟨cc, 2, none⟩) (by have := HCC.out; show cc < _; omega)).trans q2⟩, ⟨(World.cell?_of_block (w := wr) (w' := w2) (a := ⟨t + 1, k * 3, none⟩) h3).trans z0, (World.cell?_of_block (w := wr) (w' := w2) (a := ⟨t + 1, k * 3 + 1, none⟩) h3).trans z1, (World.cell?_of_block (w := wr) (w' := w2) (a := ⟨t + 1, k * 3 + 2, none⟩) h3).trans z2⟩, fun j => (World.frozen?_of_block (w := wr) (w' := w2) (a := ⟨t + 1, j, none⟩) h3).trans (zF j)⟩)
        have P4 := (HK.out wc (Below.refl _ _)).1
        have bcd : Below wc.heap.size wc wc.drew := ⟨rfl, rfl, rfl, Nat.le_refl _, fun _ _ => rfl⟩
        have hRb : Bytes R := by rw [hR]; exact remS_bytes bS.bytes bR.bytes _
        have hRs : R.length ≤ 1000000000 := by
          have h1 := remS_len s.1 s.2.1 0
          have h2 := bS.small
          have h3 := bR.small
          rw [hR]; omega
        have HR := Lib.hid hR
        have HFIN := Lib.hid hfin
        have HBC := Lib.hid bc
        have PS : ∀ (w2 : World) i v, (w2.cell? ⟨gl, 5, none⟩ = some (.slice (some ⟨t + 1, 0, none⟩) N N) ∧ w2.cell? ⟨cc, 0, none⟩ = some (.slice xs1 xs2 xs3) ∧ w2.cell? ⟨cc, 1, none⟩ = some (.slice xr1 xr2 xr3) ∧ w2.cell? ⟨cc, 2, none⟩ = some (.bool false)) → ((w2.setCell ⟨t + 1, i, none⟩ v).cell? ⟨gl, 5, none⟩ = some (.slice (some ⟨t + 1, 0, none⟩) N N) ∧ (w2.setCell ⟨t + 1, i, none⟩ v).cell? ⟨cc, 0, none⟩ = some (.slice xs1 xs2 xs3) ∧ (w2.setCell ⟨t + 1, i, none⟩ v).cell? ⟨cc, 1, none⟩ = some (.slice xr1 xr2 xr3) ∧ (w2.setCell ⟨t + 1, i, none⟩ v).cell? ⟨cc, 2, none⟩ = some (.bool false)) := fun w2 i v q => ⟨cell_set_ne hne q.1, cell_set_ne (by have := HCC.out; omega) q.2.1, cell_set_ne (by have := HCC.out; omega) q.2.2.1, cell_set_ne (by have := HCC.out; omega) q.2.2.2⟩
        clear hR hfin z0 z1 z2 zF BS BR y0 y1 y2 ft2 et hd bc q0 q1 q2 g5 hsl
        go_region_held3 (fun w' => w'.cell? ⟨gl, 5, none⟩ = some (.slice (some ⟨t + 1, 0, none⟩) N N) ∧ w'.cell? ⟨cc, 0, none⟩ = some (.slice xs1 xs2 xs3) ∧ w'.cell? ⟨cc, 1, none⟩ = some (.slice xr1 xr2 xr3) ∧ w'.cell? ⟨cc, 2, none⟩ = some (.bool false)) (first | exact P4 | exact P5 | exact P6 | exact PS _ _ _ (PS _ _ _ (PS _ _ _ P6)) | go_keep)
          (first
            | (go_at_call 43; (with_reducible refine (KR.out wc.drew bcd).mono ?_); rintro e w5 ⟨ay, cy, rfl, oy, by_⟩; have b5 : Below wc.heap.size wc w5 := below_trans' bcd by_; have P5 := (HK.out w5 b5).1; have KR5 := Lib.hid (KR.out w5 b5); have HO5 := Lib.hid oy; have HB5 := Lib.hid b5; clear oy by_ b5)
            | (go_at_call 43; (with_reducible refine KR5.out.mono ?_); rintro e w6 ⟨az, cz, rfl, oz, bz⟩; obtain ⟨P6, ⟨z0, z1, z2⟩, zF⟩ := HK.out w6 (below_trans' HB5.out bz); have f0 := zF (k * 3); have f1 := zF (k * 3 + 1); have f2 := zF (k * 3 + 2); have HO6 := Lib.hid oz; have HB6 := Lib.hid bz; clear oz bz zF))
        go_wp2
        rw [show ((k : Int) + 1) = ((k + 1 : Nat) : Int) by omega]
        obtain ⟨w7, hw7⟩ : ∃ x, x = ((w6.setCell ⟨t + 1, k * 3, none⟩ (.slice ay R.length cy)).setCell ⟨t + 1, k * 3 + 1, none⟩ (.slice az R.length cz)).setCell ⟨t + 1, k * 3 + 2, none⟩ (.bool false) := ⟨_, rfl⟩
        rw [← hw7]
        have e76 : ChF (fun q => q = t + 1) w6 w7 := by rw [hw7]; exact (((ChF.refl (fun q => q = t + 1) w6).set (g := t + 1) (.inl (show t + 1 = t + 1 from rfl))).set (g := t + 1) (.inl (show t + 1 = t + 1 from rfl))).set (g := t + 1) (.inl (show t + 1 = t + 1 from rfl))
        have bww := below_trans' HBC.out (below_trans' HB5.out HB6.out)
        have fin := HFIN.out (fun q => q = t + 1) w6 w7 (leftTo d.sl fs (k + 1)) bww e76 (by rw [hw7]; simp [World.setCell]) (fun FS hs' h3 hx => ⟨fun q hq => by rw [hq]; exact h3.inF (t + 1) rfl, _, by
          have e1 : d.sl.getD k ([], [], false) = s := by rw [List.getD_eq_getElem?_getD, hs]; rfl
          rw [hw7, show leftTo d.sl fs (k + 1) = (leftTo d.sl fs k).set k (R, R, false) by rw [leftTo_succ, e1]; unfold leftS; rw [hfate, ← HR.out]]
          exact h3.fill hx (by rw [leftTo_length, ← HN.out]; exact hlt) (own_ChF (ownsRow_base HO5.out (by show wr.heap.size ≤ wc.heap.size; omega)) (ChF.of_below (F := fun _ => False) HB6.out) (fun _ _ e => e)) HO6.out (fun q hq => (HO5.out.lt q hq).2) (Nat.le_trans HBC.out.size HB5.out.size) bww hRb hRb hRs hRs false⟩)
        refine ⟨⟨k + 1, hlt, rfl, ?_, ?_, ?_, fin.2.2⟩, by simp only [intOf]; omega⟩
        · rw [cntW_step hs, hw]; rfl
        · exact Lib.hid (.gr2 (fun q hq => hq.2) hwl fin.2.1.size fin.1)
        · exact Lib.hid (hc.out.gr2 fin.2.1)
    · go_wp2
      have hkN : k = N := by omega
      subst hkN
      have q := hd.out
      rw [HN.out] at q
      go_ret
      have bW : Below w.heap.size w wr := ⟨hc.out.os.trans HB8.out.os, hc.out.tape.trans HB8.out.tape, hc.out.output.trans HB8.out.output, Nat.le_trans HB8.out.size hc.out.size, fun q hq => (hc.out.block q (Nat.lt_of_lt_of_le hq HB8.out.size) (by have := HT.out; omega)).trans (HB8.out.block q hq)⟩
      refine ⟨gl, rfl, ?_, bW⟩
      unfold leftV
      rw [← HLL.out]
      have hc8 := hc.out.size
      exact q.wide (fun b hb => by
        have := HT.out
        rcases hb with h | h
        · exact ⟨by omega, by omega⟩
        · exact ⟨by omega, h.2⟩) (fun b hb => hb.2)
end Go.Proofs.Ytdidalcflkphnaa
