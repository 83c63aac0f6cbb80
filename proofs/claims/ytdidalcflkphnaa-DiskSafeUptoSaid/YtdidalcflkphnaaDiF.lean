/-
  disk: Log; SyncLog.
-/
import Derived.Test.YtdidalcflkphnaaDiE
import Derived.StillTailTactics
namespace Go.Proofs.Ytdidalcflkphnaa
open Go.RowKit

set_option maxRecDepth 100000 in
set_option maxHeartbeats 4000000 in
theorem log_any (F : Nat → Prop) (g : Nat) (d : DV) (w : World) (hD : DiskM w F g d) :
    Calls Try.prog 26 #[.pointer (some ⟨g, 0, none⟩)] w (GivesBytes 5 w d.read) := by
  obtain ⟨FL, FS, sa, rd, sh, hs, h1, h2, h3, h4, h5, h6, h7, h8, h9⟩ := hD
  obtain ⟨-, -, c2, -, -, -, cF⟩ := cells6D h1
  have hb : BytesV w (rd.1, rd.2.1, rd.2.2) d.read := by
    have k := h2.now.bytesV
    rw [← h2.now.len] at k
    exact k
  clear h1 h2 h3 h4 h5 h6 h7 h8 h9
  obtain ⟨r1, r2, r3⟩ := rd
  replace c2 : w.cell? ⟨g, 2, none⟩ = some (.slice r1 r2 r3) := c2
  have KC := clone_any r1 r2 r3 d.read w hb
  clear hb
  go_enter Try.func26, Try.ntmps26
  go_wp2_with fail
  (with_reducible refine KC.mono ?_)
  rintro e w' ⟨a, c, rfl, o, b⟩
  clear KC
  go_wp2
  go_ret
  exact ⟨a, c, rfl, o, b⟩
set_option maxRecDepth 100000 in
set_option maxHeartbeats 4000000 in
theorem secure_any (g : Nat) (r1 : Option Addr) (n c : Nat) (v1 v3 v4 : Value) (w : World) (hn : n ≤ c) (hs : n ≤ 1000000000)
    (k1 : w.cell? ⟨g, 1, none⟩ = some v1) (k2 : w.cell? ⟨g, 2, none⟩ = some (.slice r1 n c)) (k3 : w.cell? ⟨g, 3, none⟩ = some v3) (k4 : w.cell? ⟨g, 4, none⟩ = some v4) (hf : ∀ j, w.frozen? ⟨g, j, none⟩ = false) :
    Calls Try.prog 42 #[.pointer (some ⟨g, 1, none⟩)] w fun e w' => e = .returned (.tuple #[]) ∧ w' = (((w.setCell ⟨g, 1, none⟩ (.slice r1 n n)).setCell ⟨g, 3, none⟩ (.int .i64 (n : Nat))).setCell ⟨g, 4, none⟩ (.bool false)).drew := by
  have f1 := hf 1
  have f2 := hf 2
  have f3 := hf 3
  have f4 := hf 4
  have hq1 : (0 : Int) ≤ (n : Int) := by omega
  have hq2 : (n : Int) ≤ (c : Int) := by omega
  clear hf
  go_enter Try.func42, Try.ntmps42
  go_wp2
  go_still_tail 16, (by kernel_rfl)
  go_wp2
  exact bodyPost_end (v := .tuple #[]) (results_none rfl _ _ _) rfl ⟨rfl, rfl⟩
theorem LogM.secure {w : World} {F : Nat → Prop} {sa : HdT} {r1 : Option Addr} {n c : Nat} {safe read : List Nat} (h : LogM w F sa (r1, n, c) safe read) : LogM w F (r1, n, n) (r1, n, c) read read := by
  have hl : n = read.length := h.now.len
  have hb := h.now.bytesV
  rw [← hl] at hb
  obtain ⟨ad, cap, e, hcs, -⟩ := ownsRow_parts h.now.own
  refine ⟨h.now, ⟨hb.row, hb.bytes, hb.small, Nat.le_refl _, fun e => ?_⟩, fun b hb => ⟨h.now.inF b (by cases r1 <;> exact hb), (h.now.own.lt b (by cases r1 <;> exact hb)).2⟩, fun a ha => ?_, fun b _ _ => ⟨by rw [List.take_length], Nat.le_refl _⟩⟩
  · have h1 := hb.nil e
    have h2 := hb.cap
    simp only at h1 h2 ⊢
    omega
  · injection e with e1 e2 e3
    subst e1
    rcases hcs with ⟨e4, -⟩ | ⟨k, e4, -⟩
    · rw [e4] at ha; cases ha
    · rw [e4] at ha; injection ha with ha; rw [← ha]
def syncV (d : DV) : DV × Int := if d.pow = 0 then (d, 81) else ({ d with pow := (spendV d.pow).1, safe := d.read, base := d.read.length, laid := false }, 0)
theorem sync_set {w : World} {g : Nat} {v0 v1 v2 v3 v4 v5 : Value} {T : TypeId} (p q r : Value) (h : w.heap[g]? = some (.cells #[v0, v1, v2, v3, v4, v5] T (0, 0))) : (((w.setCell ⟨g, 1, none⟩ p).setCell ⟨g, 3, none⟩ q).setCell ⟨g, 4, none⟩ r).drew.heap[g]? = some (.cells #[v0, p, v2, q, r, v5] T (0, 0)) :=
  heap_setCell_same _ _ 4 _ _ _ (heap_setCell_same _ _ 3 _ _ _ (heap_setCell_same _ _ 1 _ _ _ h))
theorem ChF.drew {F : Nat → Prop} {w w' : World} (h : ChF F w w') : ChF F w w'.drew := ⟨h.os, h.tape, h.output, h.size, h.block⟩
set_option maxRecDepth 100000 in
set_option maxHeartbeats 4000000 in
theorem sync_any (F : Nat → Prop) (g : Nat) (d : DV) (w : World) (hD : DiskM w F g d) :
    Calls Try.prog 24 #[.pointer (some ⟨g, 0, none⟩)] w fun e w' => e = .returned (.int .i64 (syncV d).2) ∧ DiskM w' F g (syncV d).1 ∧ ChF F w w' := by
  have HD := Lib.hid hD
  obtain ⟨FL, FS, sa, rd, sh, hs', h1, h2, h3, h4, h5, h6, h7, h8, h9⟩ := hD
  obtain ⟨c0, -, -, -, -, -, cF⟩ := cells6D h1
  have KS := spend_any g d.pow w c0 (cF 0) h9
  clear h1 h2 h3 h4 h5 h6 h7 h8 c0 cF
  unfold syncV
  by_cases h0 : d.pow = 0
  · rw [h0, spend_none] at KS
    rw [if_pos h0]
    go_enter Try.func24, Try.ntmps24
    go_wp2_with fail
    (with_reducible refine KS.mono ?_)
    rintro e w1 ⟨rfl, hw⟩
    rw [if_neg (by decide)] at hw
    subst hw
    clear KS
    go_wp2
    go_ret
    exact ⟨rfl, HD.out, .refl _ _⟩
  · rw [spend_ok h0] at KS
    rw [if_neg h0]
    go_enter Try.func24, Try.ntmps24
    go_wp2_with fail
    (with_reducible refine KS.mono ?_)
    rintro e w1 ⟨rfl, hw⟩
    obtain ⟨hd1, hc1, hsz⟩ := spent HD.out h0 w1 hw
    clear KS hw
    obtain ⟨FL, FS, sa, rd, sh, hs, h1, h2, h3, h4, h5, h6, h7, h8, h9⟩ := hd1
    simp only at h1 h2 h3 h8 h9
    obtain ⟨c0, c1, c2, c3, c4, c5, cF⟩ := cells6D h1
    obtain ⟨r1, n, c⟩ := rd
    have hb := h2.now.bytesV
    have hl : n = d.read.length := h2.now.len
    have KA := secure_any g r1 n c _ _ _ w1 (by have := hb.cap; simp only at this; omega) (by have := h2.now.small; omega) c1 c2 c3 c4 cF
    have HFIN := Lib.hid (show ∀ w2, w2 = (((w1.setCell ⟨g, 1, none⟩ (.slice r1 n n)).setCell ⟨g, 3, none⟩ (.int .i64 (n : Nat))).setCell ⟨g, 4, none⟩ (.bool false)).drew → DiskM w2 F g { d with pow := (spendV d.pow).1, safe := d.read, base := d.read.length, laid := false } ∧ ChF F w w2 from fun w2 e => by
      subst e
      have hset : ChF (fun b => b = g) w1 (((w1.setCell ⟨g, 1, none⟩ (.slice r1 n n)).setCell ⟨g, 3, none⟩ (.int .i64 (n : Nat))).setCell ⟨g, 4, none⟩ (.bool false)).drew := ((((ChF.refl (fun b => b = g) w1).set (g := g) (.inl (show g = g from rfl))).set (g := g) (.inl (show g = g from rfl))).set (g := g) (.inl (show g = g from rfl))).drew
      refine ⟨⟨FL, FS, (r1, n, n), (r1, n, c), sh, hs, ?_, h2.secure.keep hset (fun b hb e => (h4 b hb).2.2 e), h3.keep hset (fun b hb e => (h5 b hb).2 e), h4, h5, h6, fun b hb => by simpa [World.setCell] using h7 b hb, Nat.le_refl _, h9⟩, (((hc1.set (.inl h6)).set (.inl h6)).set (.inl h6)).drew⟩
      have := sync_set (.slice r1 n n) (.int .i64 (n : Nat)) (.bool false) h1
      rw [this, hl]; rfl)
    clear h1 h2 h3 h4 h5 h6 h7 h8 h9 c0 c1 c2 c3 c4 c5 cF hc1 hb
    go_wp2_with fail
    (with_reducible refine KA.mono ?_)
    rintro e w2 ⟨rfl, hw2⟩
    have HF2 := Lib.hid (HFIN.out w2 hw2)
    clear KA HFIN hw2
    go_wp2
    go_ret
    exact ⟨rfl, HF2.out.1, HF2.out.2⟩
end Go.Proofs.Ytdidalcflkphnaa
