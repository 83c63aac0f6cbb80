/-
  Ds3: DiN DiO DiP DiQ
-/
import Derived.StillTailTactics
import Derived.Test.YtdidalcflkphnaaMDs2
namespace Go.Proofs.Ytdidalcflkphnaa
open Go.RowKit

def syncS (s : Slot) : Slot := if s.2.2 = true then (s.2.1, s.2.1, false) else s
def syncTo (sl : List Slot) (k : Nat) : List Slot := (sl.take k).map syncS ++ sl.drop k
theorem syncTo_length (sl : List Slot) (k : Nat) : (syncTo sl k).length = sl.length := by simp [syncTo]; omega
theorem syncTo_at {sl : List Slot} {k : Nat} {s : Slot} (h : sl[k]? = some s) : (syncTo sl k)[k]? = some s := by
  have hk := (List.getElem?_eq_some_iff.1 h).1
  unfold syncTo
  rw [List.getElem?_append_right (by simp; omega), List.getElem?_drop]
  rw [← h]
  congr 1
  simp; omega
theorem syncTo_step {sl : List Slot} {k : Nat} {s : Slot} (h : sl[k]? = some s) : syncTo sl (k + 1) = (syncTo sl k).set k (syncS s) := by
  have hk := (List.getElem?_eq_some_iff.1 h).1
  unfold syncTo
  rw [take_step sl k s h, List.map_append, List.append_assoc]
  rw [List.set_append_right _ _ (by simp; omega)]
  congr 1
  have : sl.drop k = s :: sl.drop (k + 1) := by
    rw [List.drop_eq_getElem_cons hk]
    congr 1
    rw [List.getElem?_eq_getElem hk] at h
    injection h
  rw [this]
  have e : k - ((sl.take k).map syncS).length = 0 := by simp; omega
  rw [e]
  rfl
theorem syncTo_keep {sl : List Slot} {k : Nat} {s : Slot} (h : sl[k]? = some s) (hw : s.2.2 = false) : syncTo sl (k + 1) = syncTo sl k := by
  rw [syncTo_step h]
  have : syncS s = s := by unfold syncS; rw [hw]; rfl
  rw [this]
  exact set_sameD _ _ _ (syncTo_at h)
theorem syncTo_all (sl : List Slot) : syncTo sl sl.length = sl.map syncS := by simp [syncTo]
theorem syncTo_none (sl : List Slot) : syncTo sl 0 = sl := by simp [syncTo]
theorem SlM.sync {w1 w2 : World} {F : Nat → Prop} {b c k n : Nat} {hs : List SlH} {sl : List Slot} (h : SlM w1 F (some ⟨b, 0, none⟩, n, c) hs sl) {x : SlH} (hx : hs[k]? = some x) {s : Slot} (hs' : sl[k]? = some s)
    {a : Option Addr} {cap : Nat} {l : List Nat} (o : w2.ownsRow w1.heap.size 5 1 (.slice a l.length cap) l.length (l.map bv)) (bl : Below w1.heap.size w1 w2) (hl : Bytes l) (hsm : l.length ≤ 1000000000) :
    SlM ((w2.setCell ⟨b, k * 3, none⟩ (.slice a l.length cap)).setCell ⟨b, k * 3 + 2, none⟩ (.bool false)) (Gr F w1 w2) (some ⟨b, 0, none⟩, n, c) (hs.set k ((a, l.length, cap), x.2.1, false)) (sl.set k (l, s.2.1, false)) := by
  have hc0 : ChF (fun _ => False) w1 w2 := .of_below bl
  obtain ⟨cur, hb1⟩ := h.block
  have hbF : F b := h.inF b rfl
  have hb2 : w2.heap[b]? = some (.cells cur KT (0, 0)) := (hc0.block b (Array.getElem?_eq_some_iff.1 hb1).1 (fun e => e)).trans hb1
  have hset : ChF (fun q => q = b) w2 ((w2.setCell ⟨b, k * 3, none⟩ (.slice a l.length cap)).setCell ⟨b, k * 3 + 2, none⟩ (.bool false)) := (((ChF.refl (fun q => q = b) w2).set (g := b) (.inl (show b = b from rfl))).set (g := b) (.inl (show b = b from rfl)))
  have hnew : ByF w2 (Gr F w1 w2) (a, l.length, cap) l := ⟨own_zero o, rfl, hl, hsm, fun q hq => .inr (o.lt q hq)⟩
  have hk2 := h.keep hc0 (fun _ _ e => e)
  have hkeep : ∀ y t, ByF w2 F y t → ByF ((w2.setCell ⟨b, k * 3, none⟩ (.slice a l.length cap)).setCell ⟨b, k * 3 + 2, none⟩ (.bool false)) (Gr F w1 w2) y t := fun y t hy => (hy.keep hset (fun q hq e => hy.ne hb2 q hq e)).mono (fun q hq => .inl hq)
  have hln := h.len
  simp only at hln
  refine ⟨?_, by simpa using h.len, by simpa using h.hl, fun q hq => .inl (h.inF q hq), fun i u t hu ht => ?_, ?_⟩
  · rw [kcells_safe hs k x _ _ hx, List.length_set]
    have ho := hk2.own
    simp only [SV] at ho ⊢
    rw [hln] at ho ⊢
    exact own_setS (own_setS ho _ _) _ _
  · by_cases e : i = k
    · subst e
      rw [List.getElem?_set_self (List.getElem?_eq_some_iff.1 hx).1] at hu
      rw [List.getElem?_set_self (List.getElem?_eq_some_iff.1 hs').1] at ht
      injection hu with hu
      injection ht with ht
      subst hu ht
      obtain ⟨-, -, q1⟩ := hk2.each i x s hx hs'
      exact ⟨rfl, hnew.keep hset (fun q hq e => hnew.ne hb2 q hq e), hkeep _ _ q1⟩
    · rw [List.getElem?_set_ne (fun q => e q.symm)] at hu ht
      obtain ⟨q0, q1, q2⟩ := hk2.each i u t hu ht
      exact ⟨q0, hkeep _ _ q1, hkeep _ _ q2⟩
  · obtain ⟨p1, p2⟩ := hdr_safe hs k x (a, l.length, cap) false hx
    exact apart_put (m := w1.heap.size) h.apart (fun j u q h1 h2 => (h.hdr_lt j u q h1 h2).1) p1 p2 (fun q hq => (o.lt q hq).1)
theorem DiskM.wide {w : World} {F F' : Nat → Prop} {g : Nat} {d : DV} (h : DiskM w F g d) (hF : ∀ b, F b → F' b) (hl : ∀ b, F' b → b < w.heap.size) : DiskM w F' g d := by
  obtain ⟨FL, FS, sa, rd, sh, hs, h1, h2, h3, h4, h5, h6, h7, h8, h9⟩ := h
  exact ⟨FL, FS, sa, rd, sh, hs, h1, h2, h3, fun b hb => ⟨hF b (h4 b hb).1, (h4 b hb).2⟩, fun b hb => ⟨hF b (h5 b hb).1, (h5 b hb).2⟩, hF g h6, hl, h8, h9⟩
/-- a slot's headers and bytes, and what a change of them gives. -/
theorem DiskM.slot {w : World} {F : Nat → Prop} {g : Nat} {d : DV} (h : DiskM w F g d) {v : Value} (k5 : w.cell? ⟨g, 5, none⟩ = some v) {k : Nat} {s : Slot} (hs : d.sl[k]? = some s) :
    ∃ b c x, v = .slice (some ⟨b, 0, none⟩) d.sl.length c ∧ d.sl.length ≤ c ∧ c ≤ maxLen ∧ w.cell? ⟨b, 0 + k * 3, none⟩ = some (SV x.1) ∧ w.cell? ⟨b, 0 + k * 3 + 1, none⟩ = some (SV x.2.1) ∧ w.cell? ⟨b, 0 + k * 3 + 2, none⟩ = some (.bool s.2.2) ∧ (∀ j, w.frozen? ⟨b, j, none⟩ = false) ∧ b ≠ g ∧ ByF w F x.1 s.1 ∧ ByF w F x.2.1 s.2.1 ∧ ((SV x.1).ownBlock = none ∨ (SV x.1).ownBlock ≠ (SV x.2.1).ownBlock) ∧ b < w.heap.size ∧ g < w.heap.size ∧
      (∀ (G : Nat → Prop) w2 w3 s', Below w.heap.size w w2 → ChF G w2 w3 → w3.heap.size = w2.heap.size → (∀ FS hs, SlM w FS (some ⟨b, 0, none⟩, d.sl.length, c) hs d.sl → hs[k]? = some x → (∀ q, G q → FS q) ∧ ∃ hs', SlM w3 (Gr FS w w2) (some ⟨b, 0, none⟩, d.sl.length, c) hs' s') →
        DiskM w3 (Gr F w w3) g { d with sl := s' } ∧ ChF F w w3 ∧ w3.cell? ⟨g, 5, none⟩ = some (.slice (some ⟨b, 0, none⟩) d.sl.length c)) := by
  obtain ⟨FL, FS, sa, rd, sh, hs0, h1, h2, h3, h4, h5, h6, h7, h8, h9⟩ := h
  obtain ⟨-, -, -, -, -, c5, -⟩ := cells6D h1
  rw [k5] at c5
  have hk := (List.getElem?_eq_some_iff.1 hs).1
  obtain ⟨b, c, x, e, hc, hx, x0, x1, x2, xF⟩ := h3.at hk
  obtain ⟨q0, q1, q2⟩ := h3.each k x s hx hs
  subst e
  have hbF : FS b := h3.inF b rfl
  have hgl := h7 g h6
  have hne : b ≠ g := (h5 b hbF).2
  obtain ⟨cur, hblk⟩ := h3.block
  have hcm : c ≤ maxLen := by
    rcases h3.own.2 with ⟨e, -⟩ | ⟨g', cap', cur', e, -, -, -, q, -⟩
    · cases e
    · simp only [SV, Value.slice.injEq] at e
      rw [e.2.2]; exact q
  refine ⟨b, c, x, by simpa [SV] using c5, hc, hcm, x0, x1, by rw [← q0]; exact x2, xF, hne, q1.mono (fun q hq => (h5 q hq).1), q2.mono (fun q hq => (h5 q hq).1), h3.apart (2 * k) (2 * k + 1) x.1 x.2.1 (by unfold hdr; rw [show (2 * k) / 2 = k by omega, hx]; simp [show (2 * k) % 2 = 0 by omega]) (by unfold hdr; rw [show (2 * k + 1) / 2 = k by omega, hx]; simp [show (2 * k + 1) % 2 = 1 by omega]) (by omega), (Array.getElem?_eq_some_iff.1 hblk).1, hgl, fun G w2 w3 s' bl hset hz3 hS => ?_⟩
  obtain ⟨hG, hs', q⟩ := hS FS hs0 h3 hx
  have hz : w.heap.size ≤ w2.heap.size := bl.size
  have hcN : ChF (fun _ => False) w w2 := .of_below bl
  have hgb : w3.heap[g]? = w.heap[g]? := (hset.block g (by omega) (fun e => (h5 g (hG g e)).2 rfl)).trans (bl.block g hgl)
  refine ⟨⟨FL, Gr FS w w2, sa, rd, _, hs', hgb.trans h1, (h2.keep hcN (fun _ _ e => e)).keep hset (fun q hq e => (h4 q hq).2.1 (hG q e)), q, fun q hq => ⟨.inl (h4 q hq).1, fun e => ?_, (h4 q hq).2.2⟩, fun q hq => ?_, .inl h6, fun q hq => ?_, h8, h9⟩, (ChF.of_below (F := F) bl).trans (hset.widen (F' := F) (fun q hq => (h5 q (hG q hq)).1)) (fun q hq => .inl hq), ?_⟩
  · rcases e with q1 | q1
    · exact (h4 q hq).2.1 q1
    · have := h7 q (h4 q hq).1; omega
  · rcases hq with q1 | q1
    · exact ⟨.inl (h5 q q1).1, (h5 q q1).2⟩
    · exact ⟨.inr ⟨q1.1, by rw [hz3]; exact q1.2⟩, fun e => by subst e; omega⟩
  · rcases hq with q1 | q1
    · have := h7 q q1; omega
    · exact q1.2
  · rw [(World.cell?_of_block (w := w) (w' := w3) (a := ⟨g, 5, none⟩) hgb), k5, c5]; rfl
theorem DiskM.lt {w : World} {F : Nat → Prop} {g : Nat} {d : DV} (h : DiskM w F g d) : (∀ b, F b → b < w.heap.size) ∧ F g := by
  obtain ⟨_, _, _, _, _, _, _, _, _, _, _, h6, h7, _⟩ := h
  exact ⟨h7, h6⟩
theorem DiskM.cell5 {w : World} {F : Nat → Prop} {g : Nat} {d : DV} (h : DiskM w F g d) : ∃ s1 s3, w.cell? ⟨g, 5, none⟩ = some (.slice s1 d.sl.length s3) ∧ w.frozen? ⟨g, 5, none⟩ = false := by
  obtain ⟨_, _, _, _, ⟨s1, s2, s3⟩, _, h1, _, h3, _, _, _, _⟩ := h
  obtain ⟨-, -, -, -, -, c5, cF⟩ := cells6D h1
  have := h3.len
  simp only at this
  subst this
  exact ⟨s1, s3, c5, cF 5⟩
theorem ByF.bv_ {w : World} {F : Nat → Prop} {x : HdT} {l : List Nat} (h : ByF w F x l) : BytesV w (x.1, x.2.1, x.2.2) l := by
  have q := h.bytesV
  rw [← h.len] at q
  exact q
theorem below_trans {a b c : World} (h : Below a.heap.size a b) (k : Below b.heap.size b c) : Below a.heap.size a c :=
  ⟨k.os.trans h.os, k.tape.trans h.tape, k.output.trans h.output, Nat.le_trans h.size k.size, fun x hx => (k.block x (Nat.lt_of_lt_of_le hx h.size)).trans (h.block x hx)⟩
theorem DiskM.gr2 {w wr w3 : World} {F : Nat → Prop} {g : Nat} {d : DV} (hF : ∀ b, F b → b < w.heap.size) (h1 : w.heap.size ≤ wr.heap.size) (h2 : wr.heap.size ≤ w3.heap.size) (h : DiskM w3 (Gr (Gr F w wr) wr w3) g d) : DiskM w3 (Gr F w w3) g d :=
  h.wide (fun b hb => by
    rcases hb with (q | q) | q
    · exact .inl q
    · exact .inr ⟨q.1, by omega⟩
    · exact .inr ⟨by omega, q.2⟩) (fun b hb => by
    rcases hb with q | q
    · have := hF b q; omega
    · exact q.2)
theorem DiskM.below {w wr w3 : World} {F : Nat → Prop} {g : Nat} {d : DV} (hF : ∀ b, F b → b < w.heap.size) (h1 : w.heap.size ≤ wr.heap.size) (hb : Below wr.heap.size wr w3) (h : DiskM wr (Gr F w wr) g d) : DiskM w3 (Gr F w w3) g d :=
  (h.keep (G := fun _ => False) (.of_below hb) (fun _ _ e => e)).wide (fun b q => by
    have := hb.size
    rcases q with q | q
    · exact .inl q
    · exact .inr ⟨q.1, by omega⟩) (fun b q => by
    have := hb.size
    rcases q with q | q
    · have := hF b q; omega
    · exact q.2)
theorem ChF.gr2 {w wr w3 : World} {F : Nat → Prop} (h : ChF F w wr) (k : ChF (Gr F w wr) wr w3) : ChF F w w3 := h.trans k (fun x hx => by
  rcases hx with q | q
  · exact .inl q
  · exact .inr q.1)
def slotsV (d : DV) : DV × Int := if d.pow = 0 then (d, 81) else ({ d with pow := (spendV d.pow).1, sl := d.sl.map syncS }, 0)
end Go.Proofs.Ytdidalcflkphnaa
namespace Go.Proofs.Ytdidalcflkphnaa
open Go.RowKit

set_option maxRecDepth 100000 in
set_option maxHeartbeats 4000000 in
theorem slotsync_any (F : Nat → Prop) (g : Nat) (d : DV) (w : World) (hD : DiskM w F g d) :
    Calls Try.prog 25 #[.pointer (some ⟨g, 0, none⟩)] w fun e w' => e = .returned (.int .i64 (slotsV d).2) ∧ DiskM w' (Gr F w w') g (slotsV d).1 ∧ ChF F w w' := by
  have HD := Lib.hid hD
  obtain ⟨FL, FS, sa, rd, sh, hs', h1, h2, h3, h4, h5, h6, h7, h8, h9⟩ := hD
  obtain ⟨c0, -, -, -, -, -, cF⟩ := cells6D h1
  have KS := spend_any g d.pow w c0 (cF 0) h9
  clear h1 h2 h3 h4 h5 h6 h7 h8 c0 cF
  unfold slotsV
  by_cases h0 : d.pow = 0
  · rw [h0, spend_none] at KS
    rw [if_pos h0]
    go_enter Try.func25, Try.ntmps25
    go_wp2_with fail
    (with_reducible refine KS.mono ?_)
    rintro e w1 ⟨rfl, hw⟩
    rw [if_neg (by decide)] at hw
    subst hw
    clear KS
    go_wp2
    go_ret
    exact ⟨rfl, HD.out.gr, .refl _ _⟩
  · rw [spend_ok h0] at KS
    rw [if_neg h0]
    obtain ⟨P, hP⟩ : ∃ P, P = (spendV d.pow).1 := ⟨_, rfl⟩
    rw [← hP]
    have HP := Lib.hid hP
    clear hP
    go_enter Try.func25, Try.ntmps25
    go_wp2_with fail
    (with_reducible refine KS.mono ?_)
    rintro e w1 ⟨rfl, hw⟩
    obtain ⟨hd1, hc1, hsz⟩ := spent HD.out h0 w1 hw
    clear KS hw
    rw [← HP.out] at hd1
    obtain ⟨s1, s3, c5, f5⟩ := hd1.cell5
    obtain ⟨N, hN⟩ : ∃ N, N = d.sl.length := ⟨_, rfl⟩
    rw [show ({ pow := P, safe := d.safe, read := d.read, base := d.base, laid := d.laid, sl := d.sl } : DV).sl.length = N from hN.symm] at c5
    have HD1 := Lib.hid (show DiskM w1 (Gr F w w1) g { d with pow := P, sl := syncTo d.sl 0 } from by
      rw [syncTo_none]
      exact hd1.wide (fun b hb => .inl hb) (fun b hb => by
        rcases hb with q | q
        · exact hd1.lt.1 b q
        · exact q.2))
    have HC1 := Lib.hid hc1
    have HN := Lib.hid hN
    clear hd1 hc1 hsz hN h9 f5
    go_wp2_with fail
    go_loopw [18] (fun vi wr => ∃ k : Nat, k ≤ N ∧ vi = .int .i64 (k : Nat) ∧ Hid (DiskM wr (Gr F w wr) g { d with pow := P, sl := syncTo d.sl k }) ∧ Hid (ChF F w wr) ∧ wr.cell? ⟨g, 5, none⟩ = some (.slice s1 N s3)) (fun vi _ => (N - intOf vi).toNat)
    case atStart => exact ⟨0, Nat.zero_le _, rfl, HD1, HC1, c5⟩
    case round =>
      clear HD1 HC1 c5
      obtain ⟨k, hk, rfl, hd, hc, c5⟩ := hrel
      by_cases hlt : k < N
      · obtain ⟨s, hs⟩ : ∃ s, d.sl[k]? = some s := ⟨_, List.getElem?_eq_getElem (by have := HN.out; omega)⟩
        obtain ⟨b, c, x, e, hcap, hcm, x0, x1, x2, xF, hne, bS, bR, -, hbl, hgl, hfin⟩ := hd.out.slot c5 (syncTo_at hs)
        have hlen : (syncTo d.sl k).length = N := by rw [syncTo_length]; exact HN.out.symm
        simp only at e hcap hfin
        unfold maxLen at hcm
        rw [hlen] at e hcap hfin
        injection e with e1 e2 e3
        subst e1 e3

        obtain ⟨⟨ys1, ys2, ys3⟩, ⟨yr1, yr2, yr3⟩, xw⟩ := x
        simp only [SV] at x0 x1
        rw [Nat.zero_add] at x0 x1 x2
        have fx0 := xF (k * 3)
        have fx1 := xF (k * 3 + 1)
        have fx2 := xF (k * 3 + 2)
        have HFIN := Lib.hid hfin
        have HS := Lib.hid hs
        have hlt2 : (k : Int) < (N : Int) := by omega
        have hF := HD.out.lt.1
        have hwl := hc.out.size
        have b4 := below_alloc wr (.cells #[.slice ys1 ys2 ys3, .slice yr1 yr2 yr3, .bool s.2.2] KT)
        have k5 := (b4.cell (p := ⟨g, 5, none⟩) hgl).trans c5
        clear hlen bS hfin xF e2
        by_cases hw : s.2.2 = true
        · rw [hw] at x2 b4 k5
          have k1 : (wr.alloc (.cells #[.slice ys1 ys2 ys3, .slice yr1 yr2 yr3, .bool true] KT)).cell? ⟨wr.heap.size, 1, none⟩ = some (.slice yr1 yr2 yr3) := cell_of_row _ _ 1 _ _ _ (alloc_at wr _)
          have HBR := Lib.hid bR
          clear bR hs hd
          go_wp2
          obtain ⟨w4, hw4⟩ : ∃ x, x = wr.alloc (.cells #[.slice ys1 ys2 ys3, .slice yr1 yr2 yr3, .bool true] KT) := ⟨_, rfl⟩
          rw [← hw4] at b4 k5 k1 ⊢
          have h4s : w4.heap.size = wr.heap.size + 1 := by rw [hw4, alloc_sz]
          clear hw4
          have hgl4 : g < w4.heap.size := by omega
          have hbl4 : b < w4.heap.size := by omega
          obtain ⟨t, ht⟩ : ∃ t, t = wr.heap.size := ⟨_, rfl⟩
          have htl : t < w4.heap.size := by omega
          have hbt : b ≠ t := by omega
          have HK := Lib.hid (show ∀ w2 : World, Below w4.heap.size w4 w2 → (w2.cell? ⟨g, 5, none⟩ = some (.slice (some ⟨b, 0, none⟩) N s3) ∧ w2.cell? ⟨t, 1, none⟩ = some (.slice yr1 yr2 yr3)) ∧ w2.cell? ⟨b, k * 3, none⟩ = some (.slice ys1 ys2 ys3) ∧ w2.cell? ⟨b, k * 3 + 2, none⟩ = some (.bool true) ∧ w2.frozen? ⟨b, k * 3, none⟩ = false ∧ w2.frozen? ⟨b, k * 3 + 2, none⟩ = false from fun w2 bl => by
            rw [ht]
            rw [ht] at htl
            have e1 : w2.heap[b]? = wr.heap[b]? := (bl.block b hbl4).trans (b4.block b hbl)
            exact ⟨⟨(bl.cell (p := ⟨g, 5, none⟩) hgl4).trans k5, (bl.cell (p := ⟨wr.heap.size, 1, none⟩) htl).trans k1⟩, (World.cell?_of_block (w := wr) (w' := w2) (a := ⟨b, k * 3, none⟩) e1).trans x0, (World.cell?_of_block (w := wr) (w' := w2) (a := ⟨b, k * 3 + 2, none⟩) e1).trans x2, (World.frozen?_of_block (w := wr) (w' := w2) (a := ⟨b, k * 3, none⟩) e1).trans fx0, (World.frozen?_of_block (w := wr) (w' := w2) (a := ⟨b, k * 3 + 2, none⟩) e1).trans fx2⟩)
          rw [← ht] at k1 ⊢
          have P0 : w4.cell? ⟨g, 5, none⟩ = some (.slice (some ⟨b, 0, none⟩) N s3) ∧ w4.cell? ⟨t, 1, none⟩ = some (.slice yr1 yr2 yr3) := ⟨k5, k1⟩
          have PS : ∀ (w2 : World) i v, (w2.cell? ⟨g, 5, none⟩ = some (.slice (some ⟨b, 0, none⟩) N s3) ∧ w2.cell? ⟨t, 1, none⟩ = some (.slice yr1 yr2 yr3)) → ((w2.setCell ⟨b, i, none⟩ v).cell? ⟨g, 5, none⟩ = some (.slice (some ⟨b, 0, none⟩) N s3) ∧ (w2.setCell ⟨b, i, none⟩ v).cell? ⟨t, 1, none⟩ = some (.slice yr1 yr2 yr3)) := fun w2 i v q => ⟨cell_set_ne hne q.1, cell_set_ne hbt q.2⟩
          have HBC := Lib.hid ((HBR.out.bv_.below b4))
          have HT := Lib.hid ht
          clear ht x0 x1 x2 fx0 fx1 fx2 c5
          go_region_held3 (fun w' => w'.cell? ⟨g, 5, none⟩ = some (.slice (some ⟨b, 0, none⟩) N s3) ∧ w'.cell? ⟨t, 1, none⟩ = some (.slice yr1 yr2 yr3)) (first | exact P0 | exact P2 | exact PS _ _ _ P2 | exact PS _ _ _ (PS _ _ _ P2) | go_keep)
            (first | (go_at_call 47; (with_reducible refine (clone_any yr1 yr2 yr3 s.2.1 _ ?hh).mono ?_); (case hh => exact HBC.out.of_block (fun _ _ => rfl)); rintro e w2 ⟨a2, cap2, rfl, o2, d2e⟩; have d2 : Below w4.heap.size w4 w2 := ⟨d2e.os, d2e.tape, d2e.output, d2e.size, d2e.block⟩; clear d2e; obtain ⟨P2, r1, r2, rf1, rf2⟩ := HK.out w2 d2; obtain ⟨p5, p1⟩ := id P2; have HO2 := Lib.hid o2; have HD2 := Lib.hid d2; clear o2 d2))
          all_goals go_wp2
          all_goals rw [show ((k : Int) + 1) = ((k + 1 : Nat) : Int) by omega]
          all_goals have fin := HFIN.out (fun q => q = b) w2 ((w2.setCell ⟨b, k * 3, none⟩ (.slice a2 s.2.1.length cap2)).setCell ⟨b, k * 3 + 2, none⟩ (.bool false)) (syncTo d.sl (k + 1)) (below_trans b4 HD2.out) (((ChF.refl (fun q => q = b) w2).set (g := b) (.inl (show b = b from rfl))).set (g := b) (.inl (show b = b from rfl))) (by simp [World.setCell]) (fun FS hs h3 hx => ⟨fun q hq => by rw [hq]; exact h3.inF b rfl, _, by
            rw [syncTo_step HS.out, show syncS s = (s.2.1, s.2.1, false) by unfold syncS; rw [hw]; rfl]
            exact h3.sync hx (syncTo_at HS.out) (ownsRow_base HO2.out (by show wr.heap.size ≤ w4.heap.size; omega)) (below_trans b4 HD2.out) HBR.out.bytes HBR.out.small⟩)
          all_goals refine ⟨⟨k + 1, hlt, rfl, ?_, ?_, fin.2.2⟩, by simp only [intOf]; omega⟩
          · exact Lib.hid (.gr2 hF hwl fin.2.1.size fin.1)
          · exact Lib.hid (hc.out.gr2 fin.2.1)
        · rw [Bool.not_eq_true] at hw
          rw [hw] at x2 b4 k5
          go_wp2
          rw [show ((k : Int) + 1) = ((k + 1 : Nat) : Int) by omega]
          refine ⟨⟨k + 1, hlt, rfl, ?_, ?_, k5⟩, by simp only [intOf]; omega⟩
          · rw [syncTo_keep hs hw]
            exact Lib.hid (hd.out.below hF hwl b4)
          · exact Lib.hid (hc.out.trans (.of_below (F := F) b4) (fun _ q => .inl q))
      · go_wp2
        have hkN : k = N := by omega
        subst hkN
        have q := hd.out
        rw [HN.out, syncTo_all] at q
        go_ret
        exact ⟨rfl, q, hc.out⟩
end Go.Proofs.Ytdidalcflkphnaa
namespace Go.Proofs.Ytdidalcflkphnaa
open Go.RowKit

/-- a bit turned, if the bytes have it. -/
def flip (l : List Nat) (j r : Nat) : List Nat := if j < l.length then l.set j (l.getD j 0 ^^^ 2 ^ r) else l
theorem flip_bytes {l : List Nat} (h : Bytes l) (j r : Nat) (hr : r < 8) : Bytes (flip l j r) := by
  unfold flip
  split
  · intro x hx
    rcases List.mem_or_eq_of_mem_set hx with q | q
    · exact h x q
    · rw [q]
      exact Nat.xor_lt_two_pow (n := 8) (h.getD j) (Nat.pow_lt_pow_right (by omega) hr)
  · exact h
theorem flip_length (l : List Nat) (j r : Nat) : (flip l j r).length = l.length := by unfold flip; split <;> simp
theorem xor_one (y r : Nat) (hy : y < 256) (hr : r < 8) : bits .xor .u8 (y : Int) ((2 : Int) ^ r % 256) = ((y ^^^ 2 ^ r : Nat) : Int) := by
  have e : (2 : Int) ^ r % 256 = ((2 ^ r : Nat) : Int) := by
    have : r = 0 ∨ r = 1 ∨ r = 2 ∨ r = 3 ∨ r = 4 ∨ r = 5 ∨ r = 6 ∨ r = 7 := by omega
    rcases this with rfl | rfl | rfl | rfl | rfl | rfl | rfl | rfl <;> decide
  rw [e]
  exact u8_xor_nat y (2 ^ r) hy (Nat.pow_lt_pow_right (a := 2) (m := r) (n := 8) (by decide) hr)
theorem SlM.mono {w : World} {F F' : Nat → Prop} {sh : HdT} {hs : List SlH} {sl : List Slot} (h : SlM w F sh hs sl) (hF : ∀ b, F b → F' b) : SlM w F' sh hs sl :=
  ⟨h.own, h.len, h.hl, fun b hb => hF b (h.inF b hb), fun i x s a b => by
    obtain ⟨q1, q2, q3⟩ := h.each i x s a b
    exact ⟨q1, q2.mono hF, q3.mono hF⟩, h.apart⟩
theorem SlM.drew {w : World} {F : Nat → Prop} {sh : HdT} {hs : List SlH} {sl : List Slot} (h : SlM w F sh hs sl) : SlM w.drew F sh hs sl := h.keep (G := fun _ => False) (ChF.drew (.refl _ _)) (fun _ _ e => e)
def rotV (d : DV) (i bit : Int) : DV × Int :=
  if 0 ≤ i ∧ i < (d.sl.length : Int) then
    let s := d.sl.getD i.toNat ([], [], false)
    if bit < 0 ∨ 8 * (s.2.1.length : Int) ≤ bit then (d, 41)
    else ({ d with sl := d.sl.set i.toNat (flip s.1 (bit.toNat / 8) (bit.toNat % 8), flip s.2.1 (bit.toNat / 8) (bit.toNat % 8), s.2.2) }, 0)
  else (d, 80)
theorem ByF.poke {w : World} {F : Nat → Prop} {a : Option Addr} {n c yb j : Nat} {l : List Nat} (h : ByF w F (a, n, c) l) (ha : a = some ⟨yb, 0, none⟩) {v : Nat} (hv : v < 256) : ByF (w.setCell ⟨yb, j, none⟩ (bv v)) F (a, n, c) (l.set j v) := by
  subst ha
  have hl := h.len
  simp only at hl
  subst hl
  refine ⟨?_, by simp, fun x hx => ?_, by simpa using h.small, h.inF⟩
  · rw [List.length_set, List.map_set]
    exact own_setS h.own j _
  · rcases List.mem_or_eq_of_mem_set hx with q | q
    · exact h.bytes x q
    · rw [q]; exact hv
theorem ByF.cell {w : World} {F : Nat → Prop} {x : HdT} {l : List Nat} (h : ByF w F x l) {j : Nat} (hj : j < l.length) : ∃ yb, x.1 = some ⟨yb, 0, none⟩ ∧ l.length ≤ x.2.2 ∧ x.2.2 ≤ maxLen ∧ w.cell? ⟨yb, j, none⟩ = some (.int .u8 (l.getD j 0 : Nat)) ∧ (∀ i, w.frozen? ⟨yb, i, none⟩ = false) ∧ yb < w.heap.size ∧ F yb := by
  obtain ⟨x1, x2, x3⟩ := x
  have hl := h.len
  simp only at hl
  subst hl
  rcases h.own.2 with ⟨-, e⟩ | ⟨g, cap, cur, e, -, hh, hnc, hcm, hcs, ht⟩
  · omega
  · simp only [SV, Value.slice.injEq] at e
    obtain ⟨e1, -, e3⟩ := e
    subst e1 e3
    refine ⟨g, rfl, hnc, hcm, ?_, fun i => frozen_of_row _ _ _ _ _ hh, (Array.getElem?_eq_some_iff.1 hh).1, h.inF g rfl⟩
    rw [h.own.cellAt j (by show j < l.length * 1; omega)]
    exact bv_getD hj
/-- the bytes that are read, one of them another. -/
theorem SlM.pokeR {w : World} {F : Nat → Prop} {sh : HdT} {hs : List SlH} {sl : List Slot} (h : SlM w F sh hs sl) {k : Nat} {x : SlH} (hx : hs[k]? = some x) {s : Slot} (hs' : sl[k]? = some s) {yb j v : Nat} (hy : x.2.1.1 = some ⟨yb, 0, none⟩) (hv : v < 256) :
    SlM (w.setCell ⟨yb, j, none⟩ (bv v)) F sh hs (sl.set k (s.1, s.2.1.set j v, s.2.2)) ∧ F yb := by
  have hc : ChF (fun q => q = yb) w (w.setCell ⟨yb, j, none⟩ (bv v)) := (ChF.refl (fun q => q = yb) w).set (g := yb) (.inl (show yb = yb from rfl))
  obtain ⟨-, b1, b2⟩ := h.each k x s hx hs'
  have hk : k < hs.length := (List.getElem?_eq_some_iff.1 hx).1
  have hob : (SV x.2.1).ownBlock = some yb := by simp [SV, Value.ownBlock, hy]
  have hR : hdr hs (2 * k + 1) = some x.2.1 := by unfold hdr; rw [show (2 * k + 1) / 2 = k by omega, hx]; simp [show (2 * k + 1) % 2 = 1 by omega]
  have hoth : ∀ m u, hdr hs m = some u → m ≠ 2 * k + 1 → ∀ q, (SV u).ownBlock = some q → q ≠ yb := fun m u hu hm q hq e => by
    subst e
    rcases h.apart m (2 * k + 1) u _ hu hR hm with z | z
    · rw [hq] at z; cases z
    · exact z (by rw [hq, hob])
  refine ⟨⟨?_, by simpa using h.len, by simpa using h.hl, h.inF, fun i u t hu ht => ?_, h.apart⟩, b2.inF yb hob⟩
  · rw [List.length_set]
    refine own_ChF h.own hc (fun q hq e => ?_)
    subst e
    rcases own_ne h.own b2.own (by decide) with z | z
    · rw [hq] at z; cases z
    · exact z (by rw [hq, hob])
  · have hi : i < hs.length := (List.getElem?_eq_some_iff.1 hu).1
    have hS : hdr hs (2 * i) = some u.1 := by unfold hdr; rw [show (2 * i) / 2 = i by omega, hu]; simp [show (2 * i) % 2 = 0 by omega]
    have hR' : hdr hs (2 * i + 1) = some u.2.1 := by unfold hdr; rw [show (2 * i + 1) / 2 = i by omega, hu]; simp [show (2 * i + 1) % 2 = 1 by omega]
    by_cases e : i = k
    · subst e
      rw [List.getElem?_set_self (List.getElem?_eq_some_iff.1 hs').1] at ht
      injection ht with ht
      rw [hx] at hu
      injection hu with hu
      subst hu ht
      obtain ⟨q0, q1, q2⟩ := h.each i x s hx hs'
      obtain ⟨xs, ⟨r1, r2, r3⟩, xw⟩ := x
      exact ⟨q0, q1.keep hc (fun q hq e => hoth (2 * i) _ hS (by omega) q hq e), q2.poke hy hv⟩
    · rw [List.getElem?_set_ne (fun q => e q.symm)] at ht
      obtain ⟨q0, q1, q2⟩ := h.each i u t hu ht
      exact ⟨q0, q1.keep hc (fun q hq e => hoth (2 * i) _ hS (by omega) q hq e), q2.keep hc (fun q hq e => hoth (2 * i + 1) _ hR' (by omega) q hq e)⟩
/-- the bytes that are safe, one of them another. -/
theorem SlM.pokeS {w : World} {F : Nat → Prop} {sh : HdT} {hs : List SlH} {sl : List Slot} (h : SlM w F sh hs sl) {k : Nat} {x : SlH} (hx : hs[k]? = some x) {s : Slot} (hs' : sl[k]? = some s) {yb j v : Nat} (hy : x.1.1 = some ⟨yb, 0, none⟩) (hv : v < 256) :
    SlM (w.setCell ⟨yb, j, none⟩ (bv v)) F sh hs (sl.set k (s.1.set j v, s.2.1, s.2.2)) ∧ F yb := by
  have hc : ChF (fun q => q = yb) w (w.setCell ⟨yb, j, none⟩ (bv v)) := (ChF.refl (fun q => q = yb) w).set (g := yb) (.inl (show yb = yb from rfl))
  obtain ⟨-, b2, b1⟩ := h.each k x s hx hs'
  have hk : k < hs.length := (List.getElem?_eq_some_iff.1 hx).1
  have hob : (SV x.1).ownBlock = some yb := by simp [SV, Value.ownBlock, hy]
  have hR : hdr hs (2 * k) = some x.1 := by unfold hdr; rw [show (2 * k) / 2 = k by omega, hx]; simp [show (2 * k) % 2 = 0 by omega]
  have hoth : ∀ m u, hdr hs m = some u → m ≠ 2 * k → ∀ q, (SV u).ownBlock = some q → q ≠ yb := fun m u hu hm q hq e => by
    subst e
    rcases h.apart m (2 * k) u _ hu hR hm with z | z
    · rw [hq] at z; cases z
    · exact z (by rw [hq, hob])
  refine ⟨⟨?_, by simpa using h.len, by simpa using h.hl, h.inF, fun i u t hu ht => ?_, h.apart⟩, b2.inF yb hob⟩
  · rw [List.length_set]
    refine own_ChF h.own hc (fun q hq e => ?_)
    subst e
    rcases own_ne h.own b2.own (by decide) with z | z
    · rw [hq] at z; cases z
    · exact z (by rw [hq, hob])
  · have hi : i < hs.length := (List.getElem?_eq_some_iff.1 hu).1
    have hS : hdr hs (2 * i) = some u.1 := by unfold hdr; rw [show (2 * i) / 2 = i by omega, hu]; simp [show (2 * i) % 2 = 0 by omega]
    have hR' : hdr hs (2 * i + 1) = some u.2.1 := by unfold hdr; rw [show (2 * i + 1) / 2 = i by omega, hu]; simp [show (2 * i + 1) % 2 = 1 by omega]
    by_cases e : i = k
    · subst e
      rw [List.getElem?_set_self (List.getElem?_eq_some_iff.1 hs').1] at ht
      injection ht with ht
      rw [hx] at hu
      injection hu with hu
      subst hu ht
      obtain ⟨q0, q1, q2⟩ := h.each i x s hx hs'
      obtain ⟨⟨r1, r2, r3⟩, xs, xw⟩ := x
      exact ⟨q0, q1.poke hy hv, q2.keep hc (fun q hq e => hoth (2 * i + 1) _ hR' (by omega) q hq e)⟩
    · rw [List.getElem?_set_ne (fun q => e q.symm)] at ht
      obtain ⟨q0, q1, q2⟩ := h.each i u t hu ht
      exact ⟨q0, q1.keep hc (fun q hq e => hoth (2 * i) _ hS (by omega) q hq e), q2.keep hc (fun q hq e => hoth (2 * i + 1) _ hR' (by omega) q hq e)⟩
end Go.Proofs.Ytdidalcflkphnaa
namespace Go.Proofs.Ytdidalcflkphnaa
open Go.RowKit

set_option maxRecDepth 100000 in
set_option maxHeartbeats 4000000 in
theorem rot_any (F : Nat → Prop) (g : Nat) (d : DV) (i bit : Int) (w : World) (hD : DiskM w F g d) (hbit : bit ≤ 9223372036854775807) :
    Calls Try.prog 29 #[.pointer (some ⟨g, 0, none⟩), .int .i64 i, .int .i64 bit] w fun e w' => e = .returned (.int .i64 (rotV d i bit).2) ∧ DiskM w' (Gr F w w') g (rotV d i bit).1 ∧ ChF F w w' := by
  obtain ⟨s1, s3, c5, f5⟩ := hD.cell5
  have KH := has_any g i s1 d.sl.length s3 w c5
  unfold rotV
  by_cases hi : 0 ≤ i ∧ i < (d.sl.length : Int)
  · rw [if_pos hi]
    rw [decide_eq_true hi] at KH
    obtain ⟨hi0, hi1⟩ := hi
    obtain ⟨k, rfl⟩ : ∃ k : Nat, i = k := ⟨i.toNat, by omega⟩
    have hk : k < d.sl.length := by omega
    rw [Int.toNat_natCast]
    obtain ⟨s, hs⟩ : ∃ s, d.sl[k]? = some s := ⟨_, List.getElem?_eq_getElem hk⟩
    have hsd : d.sl.getD k ([], [], false) = s := by rw [List.getD_eq_getElem?_getD, hs]; rfl
    rw [hsd]
    dsimp only
    obtain ⟨b, c, x, e, hcap, hcm, x0, x1, x2, xF, hne, bS, bR, hap, hbl, hgl, hfin⟩ := hD.slot c5 hs
    injection e with e1 e2 e3
    subst e1 e3
    obtain ⟨⟨ys1, ys2, ys3⟩, ⟨yr1, yr2, yr3⟩, xw⟩ := x
    simp only [SV] at x0 x1
    have hyl : yr2 = s.2.1.length := bR.len
    have hysl : ys2 = s.1.length := bS.len
    subst hyl hysl
    rw [Nat.zero_add] at x0 x1 x2
    have fx0 := xF (k * 3)
    have fx1 := xF (k * 3 + 1)
    have fx2 := xF (k * 3 + 2)
    have hsm := bR.small
    have hF := hD.lt.1
    obtain ⟨N, hN⟩ : ∃ N, N = d.sl.length := ⟨_, rfl⟩
    rw [← hN] at c5 hk hi1 hcap
    unfold maxLen at hcm
    obtain ⟨LR, hLR⟩ : ∃ L, L = s.2.1.length := ⟨_, rfl⟩
    obtain ⟨LS, hLS⟩ : ∃ L, L = s.1.length := ⟨_, rfl⟩
    rw [← hLR] at x1 hsm ⊢
    rw [← hLS] at x0
    have HLR := Lib.hid hLR
    have HLS := Lib.hid hLS
    have HD := Lib.hid hD
    have HFIN := Lib.hid hfin
    have HS := Lib.hid hs
    have HBS := Lib.hid bS
    have HBR := Lib.hid bR
    clear hfin hs bS bR hsd xF hD hN hLR hLS e2 f5
    by_cases hb0 : bit < 0
    · rw [if_pos (.inl hb0)]
      go_enter Try.func29, Try.ntmps29
      go_wp2_with fail
      (with_reducible refine KH.mono ?_)
      rintro e w1 ⟨rfl, hw⟩
      subst hw
      clear KH
      go_wp2
      go_ret
      have b4 := below_alloc w1 (.cells #[.slice ys1 LS ys3, .slice yr1 LR yr3, .bool s.2.2] KT)
      exact ⟨rfl, HD.out.gr.below hF (Nat.le_refl _) b4, .of_below b4⟩
    by_cases hb1 : 8 * (LR : Int) ≤ bit
    · rw [if_pos (.inr hb1)]
      go_enter Try.func29, Try.ntmps29
      go_wp2_with fail
      (with_reducible refine KH.mono ?_)
      rintro e w1 ⟨rfl, hw⟩
      subst hw
      clear KH
      go_wp2
      go_ret
      have b4 := below_alloc w1 (.cells #[.slice ys1 LS ys3, .slice yr1 LR yr3, .bool s.2.2] KT)
      exact ⟨rfl, HD.out.gr.below hF (Nat.le_refl _) b4, .of_below b4⟩
    rw [if_neg (by omega)]
    obtain ⟨B, rfl⟩ : ∃ B : Nat, bit = B := ⟨bit.toNat, by omega⟩
    rw [Int.toNat_natCast]
    obtain ⟨j, hj⟩ : ∃ j, j = B / 8 := ⟨_, rfl⟩
    obtain ⟨r, hr⟩ : ∃ r, r = B % 8 := ⟨_, rfl⟩
    rw [← hj, ← hr]
    have hjl : j < LR := by omega
    have hr8 : r < 8 := by omega
    obtain ⟨yb, e4, q1, q2, q3, q4, q5, q6⟩ := HBR.out.cell (j := j) (by rw [← HLR.out]; exact hjl)
    simp only at e4 q1 q2
    subst e4
    rw [← HLR.out] at q1
    have f3 := q4 j
    go_enter Try.func29, Try.ntmps29
    go_wp2_with fail
    (with_reducible refine KH.mono ?_)
    rintro e w1 ⟨rfl, hw⟩
    subst hw
    clear KH
    have hBi : (B : Int) < 8 * (LR : Int) := by omega
    have hB0 : (0 : Int) ≤ (B : Int) := by omega
    have k1 : (w1.alloc (.cells #[.slice ys1 LS ys3, .slice (some ⟨yb, 0, none⟩) LR yr3, .bool s.2.2] KT)).cell? ⟨w1.heap.size, 1, none⟩ = some (.slice (some ⟨yb, 0, none⟩) LR yr3) := cell_of_row _ _ 1 _ _ _ (alloc_at w1 _)
    have k0 : (w1.alloc (.cells #[.slice ys1 LS ys3, .slice (some ⟨yb, 0, none⟩) LR yr3, .bool s.2.2] KT)).cell? ⟨w1.heap.size, 0, none⟩ = some (.slice ys1 LS ys3) := cell_of_row _ _ 0 _ _ _ (alloc_at w1 _)
    have b4 := below_alloc w1 (.cells #[.slice ys1 LS ys3, .slice (some ⟨yb, 0, none⟩) LR yr3, .bool s.2.2] KT)
    have q3' := (b4.cell (p := ⟨yb, j, none⟩) q5).trans q3
    have HJ := Lib.hid hj
    have HR := Lib.hid hr
    clear hj hr hb0 hb1
    go_wp2
    obtain ⟨w4, hw4⟩ : ∃ x, x = w1.alloc (.cells #[.slice ys1 LS ys3, .slice (some ⟨yb, 0, none⟩) LR yr3, .bool s.2.2] KT) := ⟨_, rfl⟩
    rw [← hw4] at b4 k1 k0 q3' ⊢
    have h4s : w4.heap.size = w1.heap.size + 1 := by rw [hw4, alloc_sz]
    have HW4 := Lib.hid hw4
    have f3' : w4.frozen? ⟨yb, j, none⟩ = false := (World.frozen?_of_block (w := w1) (w' := w4) (a := ⟨yb, j, none⟩) (b4.block yb q5)).trans f3
    obtain ⟨t, ht⟩ : ∃ t, t = w1.heap.size := ⟨_, rfl⟩
    rw [← ht] at k1 k0 ⊢
    obtain ⟨y, hy⟩ : ∃ y, y = s.2.1.getD j 0 := ⟨_, rfl⟩
    rw [← hy] at q3'
    have hy8 : y < 256 := by rw [hy]; exact HBR.out.bytes.getD j
    have HY := Lib.hid hy
    have HT := Lib.hid ht
    clear hw4 ht hy q3 c5 x0 x1 x2 fx0 fx1 fx2 f3
    have hqB : (B : Int) / 8 = (j : Nat) := by rw [HJ.out]; omega
    have hrB : (B : Int).tmod 8 = (r : Nat) := by rw [HR.out, Int.tmod_eq_emod_of_nonneg hB0]; exact (Int.natCast_emod B 8).symm
    have hwj : IntKind.i64.wrap ((j : Nat) : Int) = (j : Nat) := wrap_i64_id _ (by omega) (by omega)
    have hwr : IntKind.i64.wrap ((r : Nat) : Int) = (r : Nat) := wrap_i64_id _ (by omega) (by omega)
    have hjI : ((j : Nat) : Int) < (LR : Nat) := by omega
    obtain ⟨z, hz⟩ : ∃ z, z = y ^^^ 2 ^ r := ⟨_, rfl⟩
    have HXR := Lib.hid (show bits .xor .u8 (y : Int) ((2 : Int) ^ r % 256) = (z : Nat) by rw [hz]; exact xor_one y r hy8 hr8)
    have hz8 : z < 256 := by rw [hz]; exact Nat.xor_lt_two_pow (n := 8) hy8 (Nat.pow_lt_pow_right (by omega) hr8)
    have HZ := Lib.hid hz
    have hyt : yb ≠ t := by rw [HT.out]; omega
    have hk0 : ∀ v, (w4.setCell ⟨yb, j, none⟩ v).drew.cell? ⟨t, 0, none⟩ = some (.slice ys1 LS ys3) := fun v => cell_set_ne hyt k0
    clear hz
    by_cases hjs : j < LS
    · have hjsI : ((j : Nat) : Int) < (LS : Nat) := by omega
      obtain ⟨sb, e5, p1, p2, p3, p4, p5, p6⟩ := HBS.out.cell (j := j) (by rw [← HLS.out]; exact hjs)
      simp only at e5 p1 p2
      subst e5
      rw [← HLS.out] at p1
      have hsy : sb ≠ yb := fun e => by
        rcases hap with q | q
        · simp [SV, Value.ownBlock] at q
        · exact q (by simp [SV, Value.ownBlock, e])
      obtain ⟨y2, hy2⟩ : ∃ y2, y2 = s.1.getD j 0 := ⟨_, rfl⟩
      rw [← hy2] at p3
      have hy28 : y2 < 256 := by rw [hy2]; exact HBS.out.bytes.getD j
      have HY2 := Lib.hid hy2
      have p3' : ∀ v, (w4.setCell ⟨yb, j, none⟩ v).drew.cell? ⟨sb, j, none⟩ = some (.int .u8 (y2 : Nat)) := fun v => cell_set_ne (fun e => hsy e.symm) ((b4.cell (p := ⟨sb, j, none⟩) p5).trans p3)
      have p4' : ∀ v, (w4.setCell ⟨yb, j, none⟩ v).drew.frozen? ⟨sb, j, none⟩ = false := fun v => (World.frozen?_of_block (w := w4) (w' := (w4.setCell ⟨yb, j, none⟩ v).drew) (a := ⟨sb, j, none⟩) (heap_setCell_other _ ⟨yb, j, none⟩ sb _ hsy)).trans ((World.frozen?_of_block (w := w1) (w' := w4) (a := ⟨sb, j, none⟩) (b4.block sb p5)).trans (p4 j))
      obtain ⟨z2, hz2⟩ : ∃ z, z = y2 ^^^ 2 ^ r := ⟨_, rfl⟩
      have HXR2 := Lib.hid (show bits .xor .u8 (y2 : Int) ((2 : Int) ^ r % 256) = (z2 : Nat) by rw [hz2]; exact xor_one y2 r hy28 hr8)
      have hz28 : z2 < 256 := by rw [hz2]; exact Nat.xor_lt_two_pow (n := 8) hy28 (Nat.pow_lt_pow_right (by omega) hr8)
      have HZ2 := Lib.hid hz2
      clear hy2 p3 p4 hz2
      go_still_tail 10, (by kernel_rfl)
      go_wp2
      rw [HXR.out]
      have k0' := hk0 (.int .u8 (z : Nat))
      have p3'' := p3' (.int .u8 (z : Nat))
      have p4'' := p4' (.int .u8 (z : Nat))
      obtain ⟨w5, hw5⟩ : ∃ x, x = (w4.setCell ⟨yb, j, none⟩ (.int .u8 (z : Nat))).drew := ⟨_, rfl⟩
      rw [← hw5] at k0' p3'' p4'' ⊢
      have HW5 := Lib.hid hw5
      clear hw5 hk0 p3' p4' k0 k1 q3' f3'
      go_still_tail 10, (by kernel_rfl)
      go_wp2
      rw [HXR2.out]
      have fin := HFIN.out (fun q => q = yb ∨ q = sb) w4 (w5.setCell ⟨sb, j, none⟩ (.int .u8 (z2 : Nat))).drew (d.sl.set k (flip s.1 j r, flip s.2.1 j r, s.2.2)) b4 (by
        rw [HW5.out]
        exact (((ChF.refl (fun q => q = yb ∨ q = sb) w4).set (g := yb) (.inl (.inl rfl))).drew.set (g := sb) (.inl (.inr rfl))).drew) (by rw [HW5.out]; simp [World.setCell, World.drew]) (fun FS hs h3 hx => by
        have m0 := h3.keep (G := fun _ => False) (.of_below b4) (fun _ _ e => e)
        obtain ⟨m1, f1⟩ := m0.pokeR hx HS.out (yb := yb) (j := j) (v := z) rfl hz8
        have m1' := m1.drew
        have hk' : k < d.sl.length := (List.getElem?_eq_some_iff.1 HS.out).1
        obtain ⟨m2, f2⟩ := m1'.pokeS hx (List.getElem?_set_self hk') (yb := sb) (j := j) (v := z2) rfl hz28
        have m2' := m2.drew
        refine ⟨fun q hq => ?_, hs, ?_⟩
        · rcases hq with e | e
          · rw [e]; exact f1
          · rw [e]; exact f2
        · rw [HW5.out]
          have e1 : flip s.1 j r = s.1.set j z2 := by unfold flip; rw [if_pos (by rw [← HLS.out]; exact hjs), ← HY2.out, ← HZ2.out]
          have e2 : flip s.2.1 j r = s.2.1.set j z := by unfold flip; rw [if_pos (by rw [← HLR.out]; exact hjl), ← HY.out, ← HZ.out]
          rw [e1, e2]
          rw [List.set_set] at m2'
          exact m2'.mono (fun q hq => .inl hq))
      go_ret
      exact ⟨rfl, fin.1, fin.2.1⟩
    · have hjsI : ¬ ((j : Nat) : Int) < (LS : Nat) := by omega
      go_still_tail 10, (by kernel_rfl)
      go_wp2
      rw [HXR.out]
      have fin := HFIN.out (fun q => q = yb) w4 (w4.setCell ⟨yb, j, none⟩ (.int .u8 (z : Nat))).drew (d.sl.set k (flip s.1 j r, flip s.2.1 j r, s.2.2)) b4 ((ChF.refl (fun q => q = yb) w4).set (g := yb) (.inl rfl)).drew (by simp [World.setCell, World.drew]) (fun FS hs h3 hx => by
        have m0 := h3.keep (G := fun _ => False) (.of_below b4) (fun _ _ e => e)
        obtain ⟨m1, f1⟩ := m0.pokeR hx HS.out (yb := yb) (j := j) (v := z) rfl hz8
        have m1' := m1.drew
        refine ⟨fun q hq => by rw [hq]; exact f1, hs, ?_⟩
        have e1 : flip s.1 j r = s.1 := by unfold flip; rw [if_neg (by rw [← HLS.out]; exact hjs)]
        have e2 : flip s.2.1 j r = s.2.1.set j z := by unfold flip; rw [if_pos (by rw [← HLR.out]; exact hjl), ← HY.out, ← HZ.out]
        rw [e1, e2]
        exact m1'.mono (fun q hq => .inl hq))
      go_ret
      exact ⟨rfl, fin.1, fin.2.1⟩
  · rw [if_neg hi]
    rw [decide_eq_false hi] at KH
    go_enter Try.func29, Try.ntmps29
    go_wp2_with fail
    (with_reducible refine KH.mono ?_)
    rintro e w1 ⟨rfl, hw⟩
    subst hw
    clear KH
    go_wp2
    go_ret
    exact ⟨rfl, hD.gr, .refl _ _⟩
end Go.Proofs.Ytdidalcflkphnaa
