/-
  Li2: LiT LiU LiV LiW LiX LiY LiZ
-/
import Derived.Deep.AppendLies
import Derived.Deep.RegionLaw
import Derived.IntWalk
import Derived.Test.YtfjcbgfgiidogaaDoorMBase
import Derived.Test.YtfjcbgfgiidogaaDoorMLi1
namespace Go.Proofs.YtfjcbgfgiidogaaDoor
open Go.RowKit

set_option maxRecDepth 10000 in
theorem sys_add {cols L : Nat} {f : Wk} (h : Sys cols L f) {eq : List Nat} (hb : Bytes eq) (hl : eq.length = L) (hc : cols ≤ L) (cl : Bool) : Sys cols L (addEq cols (f, cl) eq).1 := by
  have h1 : Says cols L ((List.range cols).filterMap f) (f, false) := by
    refine ⟨h, fun y _ k c r hr => k r ?_, fun y _ _ k r hr => ?_, fun e => (by cases e)⟩
    · exact List.mem_filterMap.2 ⟨c, by simpa using h.lt hr, hr⟩
    · obtain ⟨c, _, hr⟩ := List.mem_filterMap.1 hr
      exact k c r hr
  have h2 := (h1.add hb hl hc).sys
  unfold addEq at h2 ⊢
  simp only at h2 ⊢
  split at h2
  · rename_i e; rw [if_pos e]; exact h2
  · rename_i e; rw [if_neg e]; exact h2
set_option maxRecDepth 10000 in
theorem f2_start (f : Wk) (l : Nat) (e : List Nat) (left : Nat → Bool) (h : ∀ c r, f c = some r → left c = true) : f2 f l e left = f := by
  funext c
  unfold f2
  cases hc : f c with
  | none => rfl
  | some r => simp [h c r hc]
set_option maxRecDepth 10000 in
theorem f2_end (f : Wk) (l : Nat) (e : List Nat) (left : Nat → Bool) (h : ∀ c, left c = false) (c : Nat) : f2 f l e left c = (f c).map fun r => addTo r (r.getD l 0) e := by
  unfold f2
  simp [h]
set_option maxRecDepth 10000 in
theorem f2_at {f : Wk} {l : Nat} {e : List Nat} {left : Nat → Bool} {z : Nat} {r : List Nat} (h : f2 f l e left z = some r) (hl : left z = true) : f z = some r := by
  unfold f2 at h
  obtain ⟨r0, h1, h2⟩ := Option.map_eq_some_iff.1 h
  rw [hl] at h2
  simp only [if_true] at h2
  rw [← h2]; exact h1
set_option maxRecDepth 10000 in
theorem rows_step {w : World} {f : Wk} {l L z : Nat} {e r : List Nat} {left : Nat → Bool} {hd : Nat → Option HdT} {x : HdT} (h : RowsOK w (f2 f l e left) hd L) (hz : f z = some r) (hx : BytesV w x (addTo r (r.getD l 0) e)) (hL : x.2.1 = L) :
    RowsOK w (f2 f l e (fun y => left y && !(y == z))) (fun y => if y = z then some x else hd y) L := by
  have same : ∀ c, c ≠ z → f2 f l e (fun y => left y && !(y == z)) c = f2 f l e left c := fun c hc => by
    have : (c == z) = false := by simpa using hc
    unfold f2
    simp [this]
  refine ⟨fun c r' hc => ?_, fun c hc => ?_⟩
  · by_cases e1 : c = z
    · subst e1
      refine ⟨x, if_pos rfl, hL, ?_⟩
      unfold f2 at hc
      rw [hz] at hc
      simp at hc
      rw [← hc]
      exact hx
    · rw [same c e1] at hc
      obtain ⟨y, h1, h2, h3⟩ := h.1 c r' hc
      exact ⟨y, by simp only [if_neg e1]; exact h1, h2, h3⟩
  · by_cases e1 : c = z
    · subst e1
      unfold f2 at hc
      rw [hz] at hc
      simp at hc
    · rw [same c e1] at hc
      simp only [if_neg e1]
      exact h.2 c hc
set_option maxRecDepth 10000 in
theorem rows_new {w : World} {f : Wk} {l L : Nat} {e : List Nat} {left : Nat → Bool} {hd : Nat → Option HdT} {x : HdT} (h : RowsOK w (f2 f l e left) hd L) (hl : ∀ c, left c = false) (hx : BytesV w x e) (hL : x.2.1 = L) :
    RowsOK w (fun c => if c = l then some e else (f c).map fun r => addTo r (r.getD l 0) e) (fun y => if y = l then some x else hd y) L := by
  refine ⟨fun c r' hc => ?_, fun c hc => ?_⟩
  · by_cases e1 : c = l
    · subst e1
      simp only [if_true] at hc
      injection hc with hc
      subst hc
      exact ⟨x, if_pos rfl, hL, hx⟩
    · simp only [if_neg e1] at hc
      rw [← f2_end f l e left hl] at hc
      obtain ⟨y, h1, h2, h3⟩ := h.1 c r' hc
      exact ⟨y, by simp only [if_neg e1]; exact h1, h2, h3⟩
  · by_cases e1 : c = l
    · simp [e1] at hc
    · simp only [if_neg e1] at hc ⊢
      rw [← f2_end f l e left hl] at hc
      exact h.2 c hc
set_option maxRecDepth 10000 in
theorem invL (k : Nat) (w : World) (h0 : 0 < k) (h1 : k < 256) : Calls Tryd.prog 118 #[.int .u8 (k : Int)] w fun e w' => e = .returned (.tuple #[.int .u8 (inv k : Nat), .int .i64 0]) ∧ w = w' := inv_pos k w (by omega) (by omega)

set_option maxRecDepth 10000 in
theorem BytesV.keptBox {w w' : World} {x : HdT} {l : List Nat} {g : Nat} {v0 v1 : Int} {m : Option Nat} {t : Bool} {T : TypeId} (h : BytesV w x l) (hb : w.heap[g]? = some (.cells #[.int .i64 v0, .int .i64 v1, .map m, .bool t] T (0, 0))) (hg : w.grownBy w' (some g)) : BytesV w' x l := by
  refine ⟨h.row.kept' fun hl a ha => ?_, h.bytes, h.small, h.cap, h.nil⟩
  obtain ⟨b, off, e, hc⟩ := h.row.2 hl
  have h0 := hc 0 hl
  rw [bv_getD (by rw [h.length]; exact hl)] at h0
  rw [e] at ha
  cases ha
  refine hg.block b (block_lt_of_cell h0) (fun e2 => ?_)
  injection e2 with e2
  subst e2
  unfold World.cell? at h0
  rw [hb] at h0
  simp only at h0
  match off, h0 with
  | 0, h0 => simp at h0
  | 1, h0 => simp at h0
  | 2, h0 => simp at h0
  | 3, h0 => simp at h0
  | k + 4, h0 => simp at h0
set_option maxRecDepth 10000 in
theorem RowsOK.keptBox {w w' : World} {f : Wk} {hd : Nat → Option HdT} {L g : Nat} {v0 v1 : Int} {m : Option Nat} {t : Bool} {T : TypeId} (h : RowsOK w f hd L) (hb : w.heap[g]? = some (.cells #[.int .i64 v0, .int .i64 v1, .map m, .bool t] T (0, 0))) (hg : w.grownBy w' (some g)) : RowsOK w' f hd L :=
  ⟨fun c r hc => by obtain ⟨x, h1, h2, h3⟩ := h.1 c r hc; exact ⟨x, h1, h2, h3.keptBox hb hg⟩, h.2⟩
set_option maxRecDepth 10000 in
theorem grown_set4 (w : World) (g i : Nat) (v : Value) : w.grownBy (w.setCell ⟨g, i, none⟩ v) (some g) :=
  ⟨rfl, rfl, rfl, by simp [World.setCell], fun k _ hn => heap_setCell_other _ ⟨g, i, none⟩ k _ (fun e => hn (by rw [e]))⟩
set_option maxRecDepth 10000 in
theorem sys_clash {w0 w : World} {g gm cols wid L : Nat} {f : Wk} {cl : Bool} {hd : Nat → Option HdT} {cnt : Nat} (hL : L = cols + wid) (hM : MapH w gm hd cnt) (hc : cnt = count f cols) (hR : RowsOK w f hd L) (hB : w.heap[g]? = some (.cells #[.int .i64 (cols : Int), .int .i64 (wid : Int), .map (some gm), .bool cl] ST (0, 0))) (hBs : Below w0.heap.size w0 w) (hg : w0.heap.size ≤ g) (hm : w0.heap.size ≤ gm) (hS : Sys cols L f) (t : Bool) :
    SysV w0 (w.setCell ⟨g, 3, none⟩ (.bool t)) g gm cols wid (f, t) hd := by
  subst hL hc
  have hk := grown_set4 w g 3 (.bool t)
  have hR' := hR.keptBox hB hk
  exact ⟨heap_setCell_same _ _ 3 _ _ _ hB, hM.kept hk (fun e => by injection e with e; subst e; exact hM.noCells _ _ _ hB), hR'.1, hR'.2, hS, hBs.setCell (p := ⟨g, 3, none⟩) hg _, hg, hm⟩

/-- the store of a round. -/
theorem put_here_run {w : World} {b r : Nat} {f : Nat → Option HdT} {left : Nat → Bool} {cnt k : Nat} (h : RangeH w b r f left cnt k) (c : Nat) (old hd : HdT) (hc : c < 1000000) (hold : f c = some old) :
    ∃ w', (Instr.mapUpdate 138 (.map (some b)) (.int .i64 (c : Int)) (.slice hd.1 hd.2.1 hd.2.2)).run Tryd.prog w = .ok () w' ∧ RangeH w' b r (fun z => if z = c then some hd else f z) left cnt k ∧ w.grownBy w' (some b) ∧ w'.heap.size = w.heap.size := by
  obtain ⟨D, lf, hr, hs, hR, hl1, hl2⟩ := h
  obtain ⟨w', hrun, r1, r2, r3⟩ := ranges_put hr klaw Tryd.underlying138 (key := .int .i64 (c : Int)) (val := .slice hd.1 hd.2.1 hd.2.2) (d := .held hd) (ps := []) (key_of hc) rfl (hR.has hold)
  refine ⟨w', hrun, ⟨_, lf, r1, ?_, hR.put hr.owns.isMap c hd, hl1, fun z hz => ?_⟩, r2, r3⟩
  · rw [Maps.size_put (hr.owns.tidy klaw), hR.has hold]
    simpa using hs
  · by_cases e : z = c
    · exact ⟨hd, by simp [e]⟩
    · obtain ⟨x, hx'⟩ := hl2 z hz
      exact ⟨x, by simp only [if_neg e]; exact hx'⟩

set_option maxRecDepth 100000 in
set_option maxHeartbeats 8000000 in
theorem sysAdd_any (w0 : World) (g gm cols wid : Nat) (f : Wk) (cl : Bool) (hd : Nat → Option HdT) (a : Option Addr) (c : Nat) (eq : List Nat) (w : World) (h : SysV w0 w g gm cols wid (f, cl) hd) (hx : BytesV w (a, cols + wid, c) eq) (hc0 : 0 < cols) (hc1 : cols ≤ 128) (hw : wid ≤ 1000000) :
    Calls Tryd.prog 97 #[.pointer (some ⟨g, 0, none⟩), .slice a (cols + wid) c] w fun e w' => e = .returned (.tuple #[]) ∧ ∃ hd', SysV w0 w' g gm cols wid (addEq cols (f, cl) eq) hd' := by
  have hS := h.sys
  have hM := h.map
  have hrows : RowsOK w f hd (cols + wid) := ⟨h.rows, h.free⟩
  have hbox := h.box
  have hbase := h.base
  have hgb := h.gb
  have hmb := h.mb
  have hle : eq.length = cols + wid := hx.length
  have hcnt := count_le f cols
  simp only at hS hM hbox
  unfold ST at hbox
  clear h
  obtain ⟨L, hL⟩ : ∃ L, L = cols + wid := ⟨_, rfl⟩
  rw [← hL] at hS hrows hx hle ⊢
  have hcL : cols ≤ L := by omega
  have hLm : L ≤ 1000128 := by omega
  have HLL := Lib.hid hL
  have HLE := Lib.hid hle
  have HS := Lib.hid hS
  have HEB := Lib.hid hx.bytes
  clear hL hle hS
  obtain ⟨cnt, hcn⟩ : ∃ cnt, cnt = count f cols := ⟨_, rfl⟩
  rw [← hcn] at hM hcnt
  have HCN := Lib.hid hcn
  clear hcn
  obtain ⟨p0, p1, p2, p3, pF⟩ := box4_cells hbox
  go_enter Tryd.func97, Tryd.ntmps97
  go_wp2_with (first | (at_range; refine Hid.out ?_))
  refine Lib.hid ?_
  refine wpList_range_h _ rfl _ rfl gm hd cnt rfl hM ?_
  intro w1 hr1 hg1 hs1
  have hb1 := grown_none hg1
  have hx1 := hx.below hb1
  have hrows1 := hrows.below hb1
  have hbox1 := box_below' hbox hb1
  have hbase1 := hbase.trans (hb1.mono hbase.size)
  have hst := seenP_start f eq hd hrows.isSome cols
  obtain ⟨r, hr⟩ : ∃ r, r = w.heap.size := ⟨_, rfl⟩
  rw [← hr] at hr1 ⊢
  have hrb : w0.heap.size ≤ r := by rw [hr]; exact hbase.size
  have HX1 : Hid (BytesV w1 (a, L, c) (clr f eq (seenP f (fun c => (hd c).isSome)) cols)) := by rw [hst]; exact hx1
  clear hr hs1 hg1 hb1 hx hrows hbox hbase hst hM hx1 p0 p1 p2 p3 pF
  go_frame
  go_wp2_with fail
  go_loopw [1] (fun v wr => ∃ (left : Nat → Bool) (m : Nat) (a' : Option Addr) (c' : Nat), v = .slice a' L c' ∧ RangeH wr gm r hd left cnt m ∧ BytesV wr (a', L, c') (clr f eq (seenP f left) cols) ∧ RowsOK wr f hd L ∧ wr.heap[g]? = some (.cells #[.int .i64 (cols : Int), .int .i64 (wid : Int), .map (some gm), .bool cl] 140 (0, 0)) ∧ Below w0.heap.size w0 wr) (fun _ wr => wr.rangeLeft gm r)
  case atStart => exact ⟨_, _, a, c, rfl, hr1, HX1.out, hrows1, hbox1, hbase1⟩
  case round =>
    clear hr1 HX1 hrows1 hbox1 hbase1
    obtain ⟨left, m, a', c', rfl, hr, hX, hR, hB, hBs⟩ := hrel
    have HRQ := Lib.hid hr
    go_wp2_with (first | (at_next; refine Hid.out ?_))
    refine Lib.hid ?_
    refine wpList_next_h _ rfl _ rfl gm r hd left cnt m rfl hr (fun h0 hl => ?_) (fun z x w2 m2 hfz hlz hr2 hlt hg2 hsz2 hen => ?_)
    · have hX0 : BytesV wr (a', L, c') (clrAll f eq cols) := by rw [← seenP_end f eq left hl]; exact hX
      have hM := hr.map
      have hz0 : ∀ z rz, f z = some rz → (clrAll f eq cols).getD z 0 = 0 := fun z rz hz => clrAll_zero HS.out HEB.out hz (by rw [HLE.out]; exact hcL)
      have hlen0 : (clrAll f eq cols).length = L := by unfold clrAll; rw [clr_length]; exact HLE.out
      have hadd : addEq cols (f, cl) eq = addEq cols (f, cl) eq := rfl
      conv at hadd => rhs; unfold addEq
      simp only at hadd
      have hsys := sys_add HS.out HEB.out HLE.out hcL cl
      obtain ⟨e0, he0⟩ : ∃ e0, e0 = clrAll f eq cols := ⟨_, rfl⟩
      rw [← he0] at hX0 hz0 hlen0 hadd
      have HADD := Lib.hid hadd
      have HSY := Lib.hid hsys
      have HZ := Lib.hid hz0
      have HL0 := Lib.hid hlen0
      clear hadd hsys hz0 hlen0 he0 hX hl h0 hr HRQ
      obtain ⟨p0, p1, p2, p3, pF⟩ := box4_cells hB
      have hll := lead_le (cols := cols) (e := e0) (by rw [HL0.out]; exact hcL)
      have hlne := fun h => lead_ne (cols := cols) (e := e0) (by rw [HL0.out]; exact hcL) h
      have KL := lead_any cols wid a' L c' e0 wr hX0 hc0 hcL (by omega)
      obtain ⟨l, hl⟩ : ∃ l, l = lead cols e0 := ⟨_, rfl⟩
      rw [← hl] at KL hll hlne HADD
      have HLN := Lib.hid hlne
      clear hl hlne
      go_wp2_with fail
      (with_reducible refine KL.mono ?_)
      rintro e w2 ⟨rfl, b2⟩
      have hX2 := hX0.below b2
      have hM2 := hM.below b2
      have hR2 := hR.below b2
      have hB2 := box_below' hB b2
      have hBs2 := hBs.trans (b2.mono hBs.size)
      clear KL hX0 hM hR hB hBs b2 p0 p1 p2 p3 pF
      obtain ⟨p0, p1, p2, p3, pF⟩ := box4_cells hB2
      by_cases hlc : l = cols
      · subst hlc
        have hA := HADD.out
        rw [if_pos rfl] at hA
        have hend := fun t => sys_clash HLL.out hM2 HCN.out hR2 hB2 hBs2 hgb hmb HS.out t
        have HA := Lib.hid hA
        have HEND := Lib.hid hend
        clear hA HADD hend
        have KC := containsMore_any a' L c' e0 w2 hX2
        generalize e0.any (· != 0) = t at KC HA
        cases cl with
        | true =>
          go_wp2
          exact bodyPost_ret (v := .tuple #[]) (results_none rfl _ _ _) rfl ⟨rfl, hd, by rw [HA.out]; exact HEND.out true⟩
        | false =>
          go_wp2_with fail
          (with_reducible refine KC.mono ?_)
          rintro e w3 ⟨rfl, rfl⟩
          go_wp2
          exact bodyPost_ret (v := .tuple #[]) (results_none rfl _ _ _) rfl ⟨rfl, hd, by rw [HA.out]; exact HEND.out t⟩
      · have hlt : l < cols := by omega
        have hA := HADD.out
        rw [if_neg hlc] at hA
        have HA := Lib.hid hA
        clear hA HADD
        have hk0 := HLN.out hlt
        have hkb := hX2.bytes.getD l
        obtain ⟨b, off, rfl, hcl⟩ := hX2.row.2 (show 0 < L by omega)
        have hce := hcl l (show l < L by omega)
        rw [bv_getD (by rw [HL0.out]; omega)] at hce
        have hfl : f l = none := by
          cases hf : f l with
          | none => rfl
          | some r => exact absurd (HZ.out l r hf) hk0
        obtain ⟨k, hk⟩ : ∃ k, k = e0.getD l 0 := ⟨_, rfl⟩
        rw [← hk] at hk0 hkb hce HA
        have HFL := Lib.hid hfl
        have KS := scale_any (inv k) _ L c' e0 w2 (inv_lt k) hX2
        have hsl : (scaleB (inv k) e0).length = L := by rw [scaleB_length]; exact HL0.out
        have hsb : Bytes (scaleB (inv k) e0) := scaleB_bytes (inv_lt k)
        have hse : e0.map (mul (inv k)) = scaleB (inv k) e0 := rfl
        rw [hse] at HA
        obtain ⟨e, he⟩ : ∃ e, e = scaleB (inv k) e0 := ⟨_, rfl⟩
        rw [← he] at KS hsl hsb HA
        have HSL := Lib.hid hsl
        have HSB := Lib.hid hsb
        clear hcl hk hfl hsl hsb he hse hll hlc
        have KI := fun w => invL k w (by omega) hkb
        go_wp2_with fail
        (with_reducible refine (KI _).mono ?_)
        rintro x w3 ⟨rfl, rfl⟩
        go_wp2_with fail
        (with_reducible refine KS.mono ?_)
        rintro x w4 ⟨ae, ce, rfl, o4, b4⟩
        rw [HSL.out] at o4 ⊢
        have hE4 := bytesV_of_owns o4 HSB.out (by omega)
        have hM4 := hM2.below b4
        have hR4 := hR2.below b4
        have hB4 := box_below' hB2 b4
        have hBs4 := hBs2.trans (b4.mono hBs2.size)
        clear KI KS hX2 hM2 hR2 hB2 hBs2 o4 b4 hce p0 p1 p2 p3 pF
        obtain ⟨p0, p1, p2, p3, pF⟩ := box4_cells hB4
        go_wp2_with (first | (at_range; refine Hid.out ?_))
        refine Lib.hid ?_
        refine wpList_range_h _ rfl _ rfl gm hd cnt rfl hM4 ?_
        intro w5 hr5 hg5 hs5
        have hb5 := grown_none hg5
        have hE5 := hE4.below hb5
        have hR5 := hR4.below hb5
        have hB5 := box_below' hB4 hb5
        have hBs5 := hBs4.trans (hb5.mono hBs4.size)
        obtain ⟨r2, hr2⟩ : ∃ r, r = w4.heap.size := ⟨_, rfl⟩
        rw [← hr2] at hr5 ⊢
        have hrb2 : w0.heap.size ≤ r2 := by rw [hr2]; exact hBs4.size
        have hR5' : RowsOK w5 (f2 f l e (fun c => (hd c).isSome)) hd L := by
          rw [f2_start f l e _ (fun c r hc => by rw [hR5.isSome, hc]; rfl)]
          exact hR5
        clear hr2 hs5 hg5 hb5 hE4 hM4 hR4 hB4 hBs4 hR5 p0 p1 p2 p3 pF
        go_frame
        go_wp2_with fail
        go_loopw [9] (fun _ wr => ∃ (left : Nat → Bool) (m : Nat) (hd2 : Nat → Option HdT), RangeH wr gm r2 hd2 left cnt m ∧ BytesV wr (ae, L, ce) e ∧ RowsOK wr (f2 f l e left) hd2 L ∧ wr.heap[g]? = some (.cells #[.int .i64 (cols : Int), .int .i64 (wid : Int), .map (some gm), .bool cl] 140 (0, 0)) ∧ Below w0.heap.size w0 wr) (fun _ wr => wr.rangeLeft gm r2)
        case atStart => exact ⟨_, _, hd, hr5, hE5, hR5', hB5, hBs5⟩
        case round =>
          clear hr5 hE5 hR5' hB5 hBs5
          obtain ⟨left, m, hd2, hr, hE, hR, hB, hBs⟩ := hrel
          have HRQ := Lib.hid hr
          go_wp2_with (first | (at_next; refine Hid.out ?_))
          refine Lib.hid ?_
          refine wpList_next_h _ rfl _ rfl gm r2 hd2 left cnt m rfl hr (fun h0 hl => ?_) (fun z x w6 m6 hfz hlz hr6 hlt6 hg6 hsz6 hen => ?_)
          · have hM := hr.map
            have hln : hd2 l = none := hR.2 l (by unfold f2; rw [HFL.out]; rfl)
            have hRn := fun w' (hg : wr.grownBy w' (some gm)) => rows_new (x := (ae, L, ce)) (hR.keptQ hg hM.noCells) hl (hE.keptQ hg hM.noCells) rfl
            have HRN := Lib.hid hRn
            obtain ⟨p0, p1, p2, p3, pF⟩ := box4_cells hB
            clear hl h0 HRQ hr hR
            go_wp2_with (first | (at_mapUpdate; refine Hid.out ?_))
            refine Lib.hid ?_
            refine wpList_put_new_h _ rfl _ _ _ rfl gm hd2 cnt rfl hM l (ae, L, ce) rfl rfl (by omega) (by omega) hln ?_
            intro w7 hM7 hg7
            have hB7 := box_keptQ hB hg7 hM.noCells
            have hBs7 := below_grown hBs hg7 (fun k hk => by injection hk with hk; omega)
            have hR7 := HRN.out w7 hg7
            have hfin : SysV w0 w7 g gm cols wid (fun c => if c = l then some e else (f c).map fun r => addTo r (r.getD l 0) e, cl) (fun z => if z = l then some (ae, L, ce) else hd2 z) := by
              have hcn : count (fun c => if c = l then some e else (f c).map fun r => addTo r (r.getD l 0) e) cols = cnt + 1 := by
                rw [count_new (f := f) HFL.out (by simp) (fun c hc => by simp [hc]) hlt, HCN.out]
              refine ⟨hB7, by rw [hcn]; exact hM7, by rw [← HLL.out]; exact hR7.1, hR7.2, ?_, hBs7, hgb, hmb⟩
              have := HSY.out
              rw [HA.out] at this
              rw [← HLL.out]
              exact this
            have HFIN := Lib.hid hfin
            clear hfin hR7 hM7 hg7 hM hE hB hBs HRN hln p0 p1 p2 p3 pF
            go_wp2
            exact bodyPost_end (results_none rfl _ _ _) rfl ⟨rfl, _, by rw [HA.out]; exact HFIN.out⟩
          · have hq := hr.noCells
            have hE6 := hE.keptQ hg6 hq
            have hR6 := hR.keptQ hg6 hq
            have hB6 := box_keptQ hB hg6 hq
            have hBs6 := below_grown hBs hg6 (fun k hk => by injection hk with hk; omega)
            obtain ⟨rz, hrz, hxL, hXz⟩ := hR6.at hfz
            have hfz' := f2_at hrz hlz
            have hzc := HS.out.lt hfz'
            obtain ⟨xa, xn, xc⟩ := x
            simp only at hxL hen
            subst hxL
            obtain ⟨p0, p1, p2, p3, pF⟩ := box4_cells hB6
            have HFZ := Lib.hid hfz'
            have HFZ2 := Lib.hid hfz
            have KW := fun w' h1 h2 => without_any l xa xc ae ce xn rz e w' h1 h2 (by omega)
            clear hr hE hR hB hBs hg6 hq hrz hfz hfz'
            simp only
            go_wp2
            go_region_held3 (fun w' => w'.cell? ⟨g, 2, none⟩ = some (.map (some gm))) (first | exact t2 | exact q2 | exact p2)
              (first
                | (go_at_call 114; (with_reducible refine (KW _ ?hh1 ?hh2).mono ?_); (case hh1 => exact hXz.below ⟨rfl, rfl, rfl, Nat.le_refl _, fun _ _ => rfl⟩); (case hh2 => exact hE6.below ⟨rfl, rfl, rfl, Nat.le_refl _, fun _ _ => rfl⟩); rintro x w20 ⟨a20, c20, rfl, hW20, b20⟩; have b20' : Below w6.heap.size w6 w20 := ⟨b20.os, b20.tape, b20.output, b20.size, b20.block⟩; have hr20 := hr6.below b20'; have hE20 := hE6.below b20'; have hR20 := hR6.below b20'; have hB20 := box_below' hB6 b20'; have hBs20 := hBs6.trans (b20'.mono hBs6.size); obtain ⟨q0, q1, q2, q3, qF⟩ := box4_cells hB20; obtain ⟨w21, hrun21, hr21, hg21, hs21⟩ := put_here_run hr20 z (xa, xn, xc) (a20, xn, c20) (by omega) HFZ2.out; simp only at hrun21; have hB21 := box_keptQ hB20 hg21 hr20.map.noCells; obtain ⟨t0, t1, t2, t3, tF⟩ := box4_cells hB21))
            all_goals
              have hE21 := hE20.keptQ hg21 hr20.map.noCells
              have hR21 := rows_step hR20 HFZ.out hW20 rfl
              have hR22 := hR21.keptQ hg21 hr20.map.noCells
              have hBs21 := below_grown hBs20 hg21 (fun k hk => by injection hk with hk; omega)
              clear hE20 hR20 hr20 hB20 hBs20 hR21 hW20 b20 b20' hrun21 hg21 hs21 hXz hE6 hR6 hB6 hBs6
              go_wp2
              go_roundw
              case rel => exact ⟨_, m6, _, hr21, hE21, hR22, hB21, hBs21⟩
              case measure => rw [hr21.left_eq, HRQ.out.left_eq]; exact hlt6
    · have hq := hr.noCells
      have hX2 := hX.keptQ hg2 hq
      have hR2 := hR.keptQ hg2 hq
      have hB2 := box_keptQ hB hg2 hq
      have hBs2 := below_grown hBs hg2 (fun k hk => by injection hk with hk; omega)
      obtain ⟨rz, hrz, hxL, hXz⟩ := hR2.at hfz
      have hzc := HS.out.lt hrz
      obtain ⟨xa, xn, xc⟩ := x
      simp only at hxL hen
      subst hxL
      have hstep := seenP_step (eq := eq) HS.out hrz hlz (by rw [HLE.out]; exact hcL)
      have HST := Lib.hid hstep
      clear hr hX hR hB hBs hg2 hq hstep
      simp only
      go_wp2_with fail
      (with_reducible refine (without_any z _ _ _ _ xn _ _ _ hX2 hXz (by omega)).mono ?_)
      rw [HST.out]
      rintro e w3 ⟨a3, c3, rfl, hE3, b3⟩
      go_wp2
      go_roundw
      case rel => exact ⟨_, m2, a3, c3, rfl, hr2.below b3, hE3, hR2.below b3, box_below' hB2 b3, hBs2.trans (b3.mono hBs2.size)⟩
      case measure => rw [(hr2.below b3).left_eq, HRQ.out.left_eq]; exact hlt
end Go.Proofs.YtfjcbgfgiidogaaDoor
namespace Go.Proofs.YtfjcbgfgiidogaaDoor
open Go.RowKit

/-- the system behind the first k equations. -/
def sysTo (cols : Nat) (eqs : List (List Nat)) (k : Nat) : Wk × Bool := (eqs.take k).foldl (addEq cols) (fun _ => none, false)
set_option maxRecDepth 10000 in
theorem sysTo_zero (cols : Nat) (eqs : List (List Nat)) : sysTo cols eqs 0 = (fun _ => none, false) := rfl
set_option maxRecDepth 10000 in
theorem sysTo_succ (cols : Nat) (eqs : List (List Nat)) (k : Nat) (e : List Nat) (h : eqs[k]? = some e) : sysTo cols eqs (k + 1) = addEq cols (sysTo cols eqs k) e := by
  unfold sysTo
  rw [take_step eqs k e h, List.foldl_append]
  rfl
set_option maxRecDepth 10000 in
theorem says_to (cols L : Nat) (eqs : List (List Nat)) (hc : cols ≤ L) (h : ∀ e ∈ eqs, Bytes e ∧ e.length = L) : ∀ k, Says cols L (eqs.take k) (sysTo cols eqs k)
  | 0 => by rw [List.take_zero]; exact says_none cols L
  | k + 1 => by
    have ih := says_to cols L eqs hc h k
    by_cases hk : k < eqs.length
    · have he : eqs[k]? = some eqs[k] := List.getElem?_eq_getElem hk
      have h1 := h eqs[k] (List.getElem_mem hk)
      rw [sysTo_succ cols eqs k _ he, take_step eqs k _ he]
      exact ih.add h1.1 h1.2 hc
    · have : eqs.take (k + 1) = eqs.take k := by rw [List.take_of_length_le (by omega), List.take_of_length_le (by omega)]
      unfold sysTo at ih ⊢
      rw [this]
      exact ih
set_option maxRecDepth 10000 in
theorem addEq_isSome (cols : Nat) (s : Wk × Bool) (e : List Nat) (c : Nat) (h : (s.1 c).isSome = true) : ((addEq cols s e).1 c).isSome = true := by
  unfold addEq
  simp only
  split
  · exact h
  · simp only
    split
    · rfl
    · simpa using h
set_option maxRecDepth 10000 in
theorem count_mono {f g : Wk} (h : ∀ c, (f c).isSome = true → (g c).isSome = true) : ∀ n, count f n ≤ count g n
  | 0 => Nat.le_refl _
  | k + 1 => by
    simp only [count]
    have := count_mono h k
    by_cases e : (f k).isSome = true
    · rw [if_pos e, if_pos (h k e)]; omega
    · rw [if_neg e]; omega
set_option maxRecDepth 10000 in
theorem count_to_mono (cols : Nat) (eqs : List (List Nat)) (k : Nat) : count (sysTo cols eqs k).1 cols ≤ count (sysTo cols eqs (k + 1)).1 cols := by
  by_cases hk : k < eqs.length
  · rw [sysTo_succ cols eqs k _ (List.getElem?_eq_getElem hk)]
    exact count_mono (addEq_isSome cols _ _) cols
  · unfold sysTo
    rw [List.take_of_length_le (by omega : eqs.length ≤ k), List.take_of_length_le (by omega)]
    exact Nat.le_refl _
set_option maxRecDepth 10000 in
theorem count_to_le (cols : Nat) (eqs : List (List Nat)) (k : Nat) : ∀ d, count (sysTo cols eqs k).1 cols ≤ count (sysTo cols eqs (k + d)).1 cols
  | 0 => Nat.le_refl _
  | d + 1 => Nat.le_trans (count_to_le cols eqs k d) (count_to_mono cols eqs (k + d))
set_option maxRecDepth 10000 in
theorem SysV.rebase {w w0 w' : World} {g gm cols wid : Nat} {s : Wk × Bool} {hd : Nat → Option HdT} (h : SysV w0 w' g gm cols wid s hd) (hb : Below w.heap.size w w0) : SysV w w' g gm cols wid s hd :=
  ⟨h.box, h.map, h.rows, h.free, h.sys, hb.trans (h.base.mono hb.size), Nat.le_trans hb.size h.gb, Nat.le_trans hb.size h.mb⟩
set_option maxRecDepth 10000 in
theorem rightB_iff {cols : Int} {ls : List (List Nat)} : rightB cols ls = true ↔ 1 ≤ cols ∧ cols ≤ 128 ∧ ls.length ≤ 256 ∧ ∀ l ∈ ls, (l.length : Int) = cols := by
  unfold rightB
  simp only [Bool.and_eq_true, decide_eq_true_iff, evenB_iff]

/-- the rank, and its error. -/
def rankOf (cols : Nat) (rows : List (List Nat)) : Nat := count (sysTo cols rows rows.length).1 cols
set_option maxRecDepth 100000 in
set_option maxHeartbeats 4000000 in
theorem rank_bad (cols : Int) (adv : Option Addr) (n cv : Nat) (hs : List (Option Addr × Nat × Nat)) (ls : List (List Nat)) (w : World) (hv : RowV w adv n (hs.map SV)) (hn : n ≤ 140737488355328) (hr : RowsV w hs ls) (hB : rightB cols ls = false) :
    Calls Tryd.prog 72 #[.int .i64 cols, .slice adv n cv] w fun x w' => x = .returned (.tuple #[.int .i64 0, .int .i64 20]) ∧ Below w.heap.size w w' := by
  have KR := right_any cols adv n cv hs ls w hv hn hr
  rw [hB] at KR
  clear hB hv hr
  go_enter Tryd.func72, Tryd.ntmps72
  go_wp2_with fail
  (with_reducible refine KR.mono ?_)
  rintro x w1 ⟨rfl, hb⟩
  go_wp2
  go_ret2
  exact ⟨rfl, hb⟩

set_option maxRecDepth 100000 in
set_option maxHeartbeats 4000000 in
theorem rank_any (cols : Nat) (adv : Option Addr) (n cv : Nat) (hs : List (Option Addr × Nat × Nat)) (ls : List (List Nat)) (w : World) (hv : RowV w adv n (hs.map SV)) (hr : RowsV w hs ls) (hB : rightB (cols : Int) ls = true) :
    Calls Tryd.prog 72 #[.int .i64 (cols : Int), .slice adv n cv] w fun x w' => x = .returned (.tuple #[.int .i64 ((rankOf cols ls : Nat) : Int), .int .i64 0]) ∧ Below w.heap.size w w' := by
  have hhs : hs.length = n := by have := hv.1; simpa using this
  have hls : ls.length = n := by rw [← hr.1, hhs]
  obtain ⟨c1, c2, c3, c4⟩ := rightB_iff.1 hB
  have KR := right_any cols adv n cv hs ls w hv (by omega) hr
  rw [hB] at KR
  have HV := Lib.hid hv
  have HR := Lib.hid hr
  have HHS := Lib.hid hhs
  have HLS := Lib.hid hls
  have HC4 := Lib.hid c4
  have hn : n ≤ 256 := by omega
  have c1' : 0 < cols := by omega
  have c2' : cols ≤ 128 := by omega
  clear hv hr hB hhs hls c3 c4 c1 c2
  have h0 : sysTo cols ls 0 = (fun _ => none, false) := rfl
  have H0 := Lib.hid h0
  clear h0
  go_enter Tryd.func72, Tryd.ntmps72
  go_wp2_with fail
  (with_reducible refine KR.mono ?_)
  rintro x w1 ⟨rfl, hb⟩
  go_wp2_with fail
  have KN := newSystem_any cols 0 w1
  rw [show ((0 : Nat) : Int) = 0 from rfl] at KN
  (with_reducible refine KN.mono ?_)
  rintro x w2 ⟨rfl, hS2⟩
  have hS := hS2.rebase hb
  obtain ⟨g, hg⟩ : ∃ g, g = w1.heap.size + 1 := ⟨_, rfl⟩
  obtain ⟨gm, hgm⟩ : ∃ gm, gm = w1.heap.size := ⟨_, rfl⟩
  rw [← hg, ← hgm] at hS
  rw [← hg]
  rw [← H0.out] at hS
  have HS := Lib.hid hS
  clear hS2 hg hgm hb KR hS KN
  go_wp2
  go_loopw [17] (fun i wr => ∃ (k : Nat) (hd : Nat → Option HdT), k ≤ n ∧ i = .int .i64 k ∧ SysV w wr g gm cols 0 (sysTo cols ls k) hd) (fun i _ => n - (intOf i).toNat)
  case atStart => exact ⟨0, _, Nat.zero_le _, rfl, HS.out⟩
  case round =>
    clear HS
    obtain ⟨k, hd, hk, rfl, hS⟩ := hrel
    by_cases hlt : k < n
    · obtain ⟨b, off, rfl, hcl⟩ := (HV.out.below hS.base).2 (by omega)
      obtain ⟨⟨a2, n2, c2⟩, hx⟩ : ∃ x, hs[k]? = some x := ⟨_, List.getElem?_eq_getElem (by rw [HHS.out]; exact hlt)⟩
      obtain ⟨l, hl⟩ : ∃ l, ls[k]? = some l := ⟨_, List.getElem?_eq_getElem (by rw [HLS.out]; exact hlt)⟩
      have hBy := HR.out.2 k _ l hx hl
      have hc := hcl k hlt
      rw [List.getElem?_map, hx] at hc
      unfold SV at hc
      simp only [Option.map_some] at hc
      have hln : n2 = cols := by
        have h1 := hBy.length
        have h2 := HC4.out l (List.mem_of_getElem? hl)
        simp only at h1
        omega
      subst hln
      have HL := Lib.hid hl
      have HBY := Lib.hid hBy
      clear hcl hx hl hBy
      have KF := full_any w wr g gm n2 0 _ hd hS
      by_cases hf : count (sysTo n2 ls k).1 n2 = n2
      · rw [decide_eq_true hf] at KF
        have HF := Lib.hid hf
        clear hf
        go_wp2_with fail
        (with_reducible refine KF.mono ?_)
        rintro x w3 ⟨rfl, b3⟩
        have hS3 := hS.below b3
        have hbx := hS3.box
        unfold ST at hbx
        obtain ⟨p0, p1, p2, p3, pF⟩ := box4_cells hbx
        have hM3 := hS3.map
        have hB3 := hS3.base
        rw [HF.out] at hM3
        clear KF hS b3 hS3 hbx hc
        go_wp2_with (first | (at_len; refine wpList_len_h _ rfl _ rfl gm hd n2 rfl hM3 ?_))
        go_ret2
        refine ⟨?_, hB3⟩
        have := count_to_le n2 ls k (n - k)
        have h3 := count_le (sysTo n2 ls n).1 n2
        rw [HF.out, show k + (n - k) = n by omega] at this
        have hrk : rankOf n2 ls = n2 := by unfold rankOf; rw [HLS.out]; omega
        rw [hrk]
        rfl
      · rw [decide_eq_false hf] at KF
        clear hf
        go_wp2_with fail
        (with_reducible refine KF.mono ?_)
        rintro x w3 ⟨rfl, b3⟩
        have hS3 := hS.below b3
        have hX3 := HBY.out.below hS3.base
        have KA := sysAdd_any w g gm n2 0 (sysTo n2 ls k).1 (sysTo n2 ls k).2 hd a2 c2 l w3 hS3 hX3 c1' c2' (by omega)
        rw [Nat.add_zero] at KA
        have HST := Lib.hid (sysTo_succ n2 ls k l HL.out)
        clear KF hS b3 hc hS3 hX3
        go_wp2_with fail
        (with_reducible refine KA.mono ?_)
        rintro x w4 ⟨rfl, hd4, hS4⟩
        go_wp2
        go_roundw
        case rel => exact ⟨k + 1, hd4, by omega, by go_num, by rw [HST.out]; exact hS4⟩
        case measure => simp [intOf]; omega
    · obtain rfl : k = n := by omega
      have hbx := hS.box
      unfold ST at hbx
      obtain ⟨p0, p1, p2, p3, pF⟩ := box4_cells hbx
      have hM := hS.map
      have hB := hS.base
      have hrk : rankOf cols ls = count (sysTo cols ls k).1 cols := by unfold rankOf; rw [HLS.out]
      rw [← hrk] at hM
      clear hrk hS hbx
      obtain ⟨rk, hrk⟩ : ∃ rk, rk = rankOf cols ls := ⟨_, rfl⟩
      rw [← hrk] at hM
      have HRK := Lib.hid hrk
      clear hrk
      go_wp2_with (first | (at_len; refine wpList_len_h _ rfl _ rfl gm hd rk rfl hM ?_))
      go_ret2
      exact ⟨by rw [← HRK.out]; rfl, hB⟩
end Go.Proofs.YtfjcbgfgiidogaaDoor
namespace Go.Proofs.YtfjcbgfgiidogaaDoor
open Go.RowKit

def NilS : Value := .slice none 0 0
/-- rows and an error. -/
def GivesE (w : World) (out : List (List Nat)) (code : Int) (x : Ending) (w' : World) : Prop := ∃ a c hs, x = .returned (.tuple #[.slice a out.length c, .int .i64 code]) ∧ RowV w' a out.length (hs.map SV) ∧ RowsV w' hs out ∧ Below w.heap.size w w'
theorem givesE_nil {w w' : World} {code : Int} (hb : Below w.heap.size w w') : GivesE w [] code (.returned (.tuple #[.slice none 0 0, .int .i64 code])) w' :=
  ⟨none, 0, [], rfl, ⟨rfl, fun h => absurd h (by simp)⟩, rowsV_nil _, hb⟩
theorem own_set' {w : World} {B : Nat} {T : TypeId} {g n cap : Nat} {xs : List Value} (h : w.ownsRow B T 1 (.slice (some ⟨g, 0, none⟩) n cap) n xs) (i : Nat) (v : Value) :
    (w.setCell ⟨g, i, none⟩ v).ownsRow B T 1 (.slice (some ⟨g, 0, none⟩) n cap) n (xs.set i v) := by
  refine ⟨by simpa using h.1, .inr ?_⟩
  rcases h.2 with ⟨e, _⟩ | ⟨g', cap', cur, e, hB, hh, h1, h2, h3, h4⟩
  · cases e
  · cases e
    refine ⟨g, cap, _, rfl, hB, heap_setCell_same _ _ i _ _ _ hh, h1, h2, by simpa using h3, ?_⟩
    rw [← h4]
    simp [List.take_set]
theorem set_fill {hx : List HdT} {n k : Nat} (x : HdT) (hk : hx.length = k) (hn : k < n) : (hx.map SV ++ List.replicate (n - k) NilS).set k (SV x) = (hx ++ [x]).map SV ++ List.replicate (n - (k + 1)) NilS := by
  rw [show n - k = (n - (k + 1)) + 1 by omega, List.replicate_succ, List.map_append, List.append_assoc]
  rw [List.set_append_right _ _ (by simp [hk])]
  simp [hk]
theorem owns_keptLow {w w' : World} {B q : Nat} {T : TypeId} {hs : List HdT} {ls : List (List Nat)} (h : OwnsRows w B T hs ls) (hg : w.grownBy w' (some q)) (hq : q < B) : OwnsRows w' B T hs ls :=
  h.kept hg fun i x l h1 h2 => by
    cases e : (SV x).ownBlock with
    | none => exact .inl rfl
    | some b => exact .inr (fun e2 => by have := ((h.2 i x l h1 h2).2.lt b e).1; injection e2 with e2; omega)
/-- the rows that were laid so far. -/
structure Filled (w0 w : World) (B gx n k : Nat) (hx : List HdT) (outs : List (List Nat)) : Prop where
  row : w.ownsRow B 22 1 (.slice (some ⟨gx, 0, none⟩) n n) n (hx.map SV ++ List.replicate (n - k) NilS)
  own : OwnsRows w (gx + 1) 5 hx (outs.take k)
  base : Below w0.heap.size w0 w
  gx : w0.heap.size ≤ gx
theorem Filled.below {w0 w w' : World} {B gx n k : Nat} {hx : List HdT} {outs : List (List Nat)} (h : Filled w0 w B gx n k hx outs) (hb : Below w.heap.size w w') : Filled w0 w' B gx n k hx outs :=
  ⟨h.row.kept (grownBy_of_below hb none) (.inr (by simp [Value.ownBlock])), h.own.below hb, h.base.trans (hb.mono h.base.size), h.gx⟩
theorem Filled.lt {w0 w : World} {B gx n k : Nat} {hx : List HdT} {outs : List (List Nat)} (h : Filled w0 w B gx n k hx outs) : gx < w.heap.size := (h.row.lt gx rfl).2
theorem Filled.len {w0 w : World} {B gx n k : Nat} {hx : List HdT} {outs : List (List Nat)} (h : Filled w0 w B gx n k hx outs) (hk : k ≤ outs.length) : hx.length = k := by rw [h.own.1, List.length_take]; omega
theorem Filled.cell {w0 w : World} {B gx n k : Nat} {hx : List HdT} {outs : List (List Nat)} (h : Filled w0 w B gx n k hx outs) (i : Nat) (hi : i < n) : ∃ v, w.cell? ⟨gx, i, none⟩ = some v ∧ w.frozen? ⟨gx, i, none⟩ = false := by
  have h1 := h.row.cellAt i (by omega)
  rw [List.getElem?_eq_getElem (by rw [h.row.1]; omega)] at h1
  exact ⟨_, h1, h.row.frozenAt i⟩
theorem Filled.step {w0 w : World} {B gx n k : Nat} {hx : List HdT} {outs : List (List Nat)} (h : Filled w0 w B gx n k hx outs) (hk : k < outs.length) (hn : k < n) {x : HdT} {l : List Nat} (hl : outs[k]? = some l) (ho : w.ownsRow (gx + 1) 5 1 (SV x) l.length (l.map bv)) (hx' : x.2.1 = l.length) :
    Filled w0 (w.setCell ⟨gx, k, none⟩ (SV x)) B gx n (k + 1) (hx ++ [x]) outs := by
  have hlen := h.len (by omega)
  have hg := grown_set4 w gx k (SV x)
  refine ⟨?_, ?_, h.base.setCell (p := ⟨gx, k, none⟩) h.gx _, h.gx⟩
  · have := own_set' h.row k (SV x)
    rwa [set_fill x hlen hn] at this
  · rw [take_step outs k l hl]
    exact owns_keptLow (h.own.snoc hx' ho) hg (by omega)
theorem Filled.done {w0 w : World} {B gx n : Nat} {hx : List HdT} {outs : List (List Nat)} (h : Filled w0 w B gx n n hx outs) (hn : outs.length = n) (hb : ∀ l ∈ outs, Bytes l ∧ l.length ≤ 140737488355328) : GivesE w0 outs 0 (.returned (.tuple #[.slice (some ⟨gx, 0, none⟩) n n, .int .i64 0])) w := by
  have h1 := h.row
  rw [Nat.sub_self, List.replicate_zero, List.append_nil] at h1
  have h2 := h.own
  rw [List.take_of_length_le (by omega)] at h2
  refine ⟨_, n, hx, by rw [hn], ?_, h2.rowsV hb, h.base⟩
  rw [hn]
  obtain ⟨_, _, e, _, _, _, k⟩ := ownsRow_parts h1
  cases e
  exact k
/-- rows of the call's own, and an error. -/
def GivesO (w : World) (out : List (List Nat)) (code : Int) (x : Ending) (w' : World) : Prop := ∃ a c, x = .returned (.tuple #[.slice a out.length c, .int .i64 code]) ∧ (∃ hs : List HdT, w'.ownsRow w.heap.size 22 1 (.slice a out.length c) out.length (hs.map SV) ∧ OwnsRows w' w.heap.size 5 hs out) ∧ (∀ l ∈ out, Bytes l ∧ l.length ≤ 140737488355328) ∧ Below w.heap.size w w'
theorem GivesO.E {w w' : World} {out : List (List Nat)} {code : Int} {x : Ending} (h : GivesO w out code x w') : GivesE w out code x w' := by
  obtain ⟨a, c, rfl, ⟨hs, h1, h2⟩, hb, b⟩ := h
  refine ⟨a, c, hs, rfl, ?_, h2.rowsV hb, b⟩
  obtain ⟨_, _, e, _, _, _, k⟩ := ownsRow_parts h1
  cases e
  exact k
theorem Filled.doneO {w0 w : World} {B gx n : Nat} {hx : List HdT} {outs : List (List Nat)} (h : Filled w0 w B gx n n hx outs) (hn : outs.length = n) (hb : ∀ l ∈ outs, Bytes l ∧ l.length ≤ 140737488355328) : GivesO w0 outs 0 (.returned (.tuple #[.slice (some ⟨gx, 0, none⟩) n n, .int .i64 0])) w := by
  have h1 := h.row
  rw [Nat.sub_self, List.replicate_zero, List.append_nil] at h1
  have h2 := h.own
  rw [List.take_of_length_le (by omega)] at h2
  have hgx := h.gx
  refine ⟨_, n, by rw [hn], ⟨hx, ?_, h2.1, fun i x l a b => ⟨(h2.2 i x l a b).1, ownsRow_base (h2.2 i x l a b).2 (by omega)⟩⟩, hb, h.base⟩
  rw [hn]
  refine ⟨h1.1, .inr ?_⟩
  rcases h1.2 with ⟨e, _⟩ | ⟨g, cap, cur, e, hB, rest⟩
  · cases e
  · cases e
    exact ⟨gx, _, cur, rfl, hgx, rest⟩
theorem filled_start {w0 w1 w : World} {n : Nat} {outs : List (List Nat)} (hb : Below w0.heap.size w0 w1) (ho : w.ownsRow w1.heap.size 22 1 (.slice (some ⟨w1.heap.size, 0, none⟩) n n) n (List.replicate n NilS)) (hg : w1.grownBy w none) : Filled w0 w w1.heap.size w1.heap.size n 0 [] outs :=
  ⟨by simpa using ho, ⟨rfl, fun i x l h => by simp at h⟩, hb.trans ((grown_none hg).mono hb.size), hb.size⟩

def applyOK (cols : Int) (rows xs : List (List Nat)) : Bool := rightB cols rows && (decide ((xs.length : Int) = cols) && evenB xs (widthB xs : Nat))
def applyOf (rows xs : List (List Nat)) : List (List Nat) := rows.map fun r => mixTo r xs (longest xs xs.length) xs.length

set_option maxRecDepth 100000 in
set_option maxHeartbeats 4000000 in
theorem apply_bad (cols : Int) (ar : Option Addr) (nr cr : Nat) (hr : List HdT) (rows : List (List Nat)) (ax : Option Addr) (nx cx : Nat) (hx : List HdT) (xs : List (List Nat)) (w : World) (vr : RowV w ar nr (hr.map SV)) (rr : RowsV w hr rows) (vx : RowV w ax nx (hx.map SV)) (rx : RowsV w hx xs)
    (sr : nr ≤ 140737488355328) (sx : nx ≤ 140737488355328) (hB : applyOK cols rows xs = false) :
    Calls Tryd.prog 68 #[.int .i64 cols, .slice ar nr cr, .slice ax nx cx] w (GivesE w [] 20) := by
  have hxs : xs.length = nx := by rw [← rx.1]; have := vx.1; simpa using this
  have KR := right_any cols ar nr cr hr rows w vr sr rr
  have HVX := Lib.hid vx
  have HRX := Lib.hid rx
  unfold applyOK at hB
  rw [hxs] at hB
  clear vr rr vx rx hxs
  by_cases h1 : rightB cols rows = true
  rotate_left 1
  · have h1' : rightB cols rows = false := by simpa using h1
    rw [h1'] at KR
    clear h1 h1' hB
    go_enter Tryd.func68, Tryd.ntmps68
    go_wp2_with fail
    (with_reducible refine KR.mono ?_)
    rintro x w1 ⟨rfl, hb⟩
    go_wp2
    go_ret2
    exact givesE_nil hb
  rw [h1] at KR hB
  by_cases h2 : (nx : Int) = cols
  rotate_left 1
  · have h2' : ((nx : Int) != cols) = true := by rw [bne_iff_ne]; exact h2
    clear h1 h2 hB
    go_enter Tryd.func68, Tryd.ntmps68
    go_wp2_with fail
    (with_reducible refine KR.mono ?_)
    rintro x w1 ⟨rfl, hb⟩
    go_wp2
    go_ret2
    exact givesE_nil hb
  have h3 : evenB xs (widthB xs : Nat) = false := by simpa [h2] using hB
  have H3 := Lib.hid h3
  subst h2
  clear h1 hB h3
  go_enter Tryd.func68, Tryd.ntmps68
  go_wp2_with fail
  (with_reducible refine KR.mono ?_)
  rintro x w1 ⟨rfl, hb⟩
  clear KR
  go_wp2_with fail
  (with_reducible refine (width_any _ _ _ hx xs _ (HVX.out.below hb) (HRX.out.below hb)).mono ?_)
  rintro x w2 ⟨rfl, rfl⟩
  go_wp2_with fail
  (with_reducible refine (even_any _ _ _ _ hx xs _ (HVX.out.below hb) sx (HRX.out.below hb)).mono ?_)
  rw [H3.out]
  rintro x w3 ⟨rfl, b3⟩
  go_wp2
  go_ret2
  exact givesE_nil (hb.trans (b3.mono hb.size))

theorem mixTo_len_le (r : List Nat) (xs : List (List Nat)) (hs : List HdT) (w : World) (hr : RowsV w hs xs) : (mixTo r xs (longest xs xs.length) xs.length).length ≤ 140737488355328 := by rw [mixTo_length]; exact longest_le hr _

set_option maxRecDepth 100000 in
set_option maxHeartbeats 8000000 in
theorem apply_own (cols : Nat) (ar : Option Addr) (nr cr : Nat) (hr : List HdT) (rows : List (List Nat)) (ax : Option Addr) (nx cx : Nat) (hx : List HdT) (xs : List (List Nat)) (w : World) (vr : RowV w ar nr (hr.map SV)) (rr : RowsV w hr rows) (vx : RowV w ax nx (hx.map SV)) (rx : RowsV w hx xs)
    (hB : applyOK (cols : Int) rows xs = true) :
    Calls Tryd.prog 68 #[.int .i64 (cols : Int), .slice ar nr cr, .slice ax nx cx] w (GivesO w (applyOf rows xs) 0) := by
  have hxs : xs.length = nx := by rw [← rx.1]; have := vx.1; simpa using this
  have hhr : hr.length = nr := by have := vr.1; simpa using this
  have hrs : rows.length = nr := by rw [← rr.1, hhr]
  unfold applyOK at hB
  simp only [Bool.and_eq_true, decide_eq_true_iff] at hB
  obtain ⟨b1, b2, b3⟩ := hB
  obtain ⟨c1, c2, c3, c4⟩ := rightB_iff.1 b1
  have KR := right_any cols ar nr cr hr rows w vr (by omega) rr
  rw [b1] at KR
  obtain rfl : nx = cols := by omega
  obtain ⟨i0, hi, hz0, hz1, hz2⟩ := info_parts Tryd.info22
  have hout : (applyOf rows xs).length = nr := by unfold applyOf; simp [hrs]
  have hby : ∀ l ∈ applyOf rows xs, Bytes l ∧ l.length ≤ 140737488355328 := by
    intro l hl
    obtain ⟨r, hrm, rfl⟩ := List.mem_map.1 hl
    exact ⟨mixTo_bytes (rr.mem r hrm).1 _ _ _, mixTo_len_le r xs hx w rx⟩
  have HB3 := Lib.hid b3
  have HVX := Lib.hid vx
  have HRX := Lib.hid rx
  have HVR := Lib.hid vr
  have HRR := Lib.hid rr
  have HHR := Lib.hid hhr
  have HRS := Lib.hid hrs
  have HXS := Lib.hid hxs
  have HOUT := Lib.hid hout
  have HBY := Lib.hid hby
  have hnr : nr ≤ 256 := by omega
  have hnx : nx ≤ 128 := by omega
  clear vr rr vx rx hhr hrs b1 b2 b3 c1 c2 c3 c4 hout hby hxs
  go_enter Tryd.func68, Tryd.ntmps68
  go_wp2_with fail
  (with_reducible refine KR.mono ?_)
  rintro x w1 ⟨rfl, hb⟩
  clear KR
  go_wp2_with fail
  (with_reducible refine (width_any _ _ _ hx xs _ (HVX.out.below hb) (HRX.out.below hb)).mono ?_)
  rintro x w2 ⟨rfl, rfl⟩
  go_wp2_with fail
  (with_reducible refine (even_any _ _ _ _ hx xs _ (HVX.out.below hb) (by omega) (HRX.out.below hb)).mono ?_)
  rw [HB3.out]
  rintro x w3 ⟨rfl, b3⟩
  have hb3 := hb.trans (b3.mono hb.size)
  clear hb b3
  go_wp2_with (first | (at_make; refine wpList_make_full _ rfl _ _ 35 rfl w3.heap.size 22 i0 (.slice none 0 0) 1 Tryd.underlying35 hi hz0 hz1 _ _ _ _ nr rfl rfl rfl rfl (by rw [hz2]; omega) (by unfold maxLen; omega) (Nat.le_refl _) ?_; intro w4 hown4 hgrow4))
  rw [show (Value.slice none 0 0).cells = #[.slice none 0 0] from rfl, Nat.mul_one, toList_madeCells_one] at hown4
  have hF := filled_start (outs := applyOf rows xs) hb3 hown4 hgrow4
  obtain ⟨gx, hgx⟩ : ∃ gx, gx = w3.heap.size := ⟨_, rfl⟩
  rw [← hgx] at hF ⊢
  have HF := Lib.hid hF
  clear hgx hown4 hgrow4 hb3 hF
  go_loopw [33] (fun i wr => ∃ (k : Nat) (hz : List HdT), k ≤ nr ∧ i = .int .i64 k ∧ Filled w wr gx gx nr k hz (applyOf rows xs)) (fun i _ => nr - (intOf i).toNat)
  case atStart => exact ⟨0, [], Nat.zero_le _, rfl, HF.out⟩
  case round =>
    clear HF
    obtain ⟨k, hz, hk, rfl, hF⟩ := hrel
    have hbr := hF.base
    by_cases hlt : k < nr
    · obtain ⟨b, off, rfl, hcl⟩ := (HVR.out.below hbr).2 (by omega)
      obtain ⟨⟨a2, n2, c2⟩, hxk⟩ : ∃ x, hr[k]? = some x := ⟨_, List.getElem?_eq_getElem (by rw [HHR.out]; exact hlt)⟩
      obtain ⟨l, hl⟩ : ∃ l, rows[k]? = some l := ⟨_, List.getElem?_eq_getElem (by rw [HRS.out]; exact hlt)⟩
      have hBy := (HRR.out.2 k _ l hxk hl).below hbr
      have hc := hcl k hlt
      rw [List.getElem?_map, hxk] at hc
      unfold SV at hc
      simp only [Option.map_some] at hc
      have KM := mix_any a2 n2 c2 l ax nx cx hx xs wr hBy.row hBy.bytes hBy.small (HVX.out.below hbr) (by omega) (HRX.out.below hbr)
      have hol : (applyOf rows xs)[k]? = some (mixTo l xs (longest xs nx) nx) := by unfold applyOf; rw [List.getElem?_map, hl, HXS.out]; rfl
      have HOL := Lib.hid hol
      have hlm := mixTo_length l xs (longest xs nx) nx
      have hlg := longest_le HRX.out nx
      obtain ⟨M, hM⟩ : ∃ M, M = mixTo l xs (longest xs nx) nx := ⟨_, rfl⟩
      obtain ⟨G, hG⟩ : ∃ G, G = longest xs nx := ⟨_, rfl⟩
      rw [← hG] at hlg hlm HOL KM hM
      rw [← hM] at hlm HOL KM
      have HLM := Lib.hid hlm
      clear hcl hxk hl hBy hol hlm hM hG
      go_wp2_with fail
      (with_reducible refine KM.mono ?_)
      rintro x w5 ⟨rfl, o5, b5⟩
      have hF5 := hF.below b5
      have hgx := hF.lt
      obtain ⟨v, hv, hfz⟩ := hF5.cell k hlt
      have o5' := ownsRow_base (base' := gx + 1) o5 (by omega)
      have hst := hF5.step (x := (some (⟨wr.heap.size, 0, none⟩ : Addr), G, G)) (l := M) (by rw [HOUT.out]; exact hlt) hlt HOL.out (by rw [HLM.out]; exact o5') (HLM.out.symm)
      unfold SV at hst
      simp only at hst
      have HST := Lib.hid hst
      clear KM hF hbr hc o5 b5 hF5 o5' hst
      go_wp2
      go_roundw
      case rel => exact ⟨k + 1, _, by omega, by go_num, HST.out⟩
      case measure => simp [intOf]; omega
    · obtain rfl : k = nr := by omega
      go_wp2
      go_ret2
      exact hF.doneO HOUT.out HBY.out
theorem apply_any (cols : Nat) (ar : Option Addr) (nr cr : Nat) (hr : List HdT) (rows : List (List Nat)) (ax : Option Addr) (nx cx : Nat) (hx : List HdT) (xs : List (List Nat)) (w : World) (vr : RowV w ar nr (hr.map SV)) (rr : RowsV w hr rows) (vx : RowV w ax nx (hx.map SV)) (rx : RowsV w hx xs)
    (hB : applyOK (cols : Int) rows xs = true) :
    Calls Tryd.prog 68 #[.int .i64 (cols : Int), .slice ar nr cr, .slice ax nx cx] w (GivesE w (applyOf rows xs) 0) :=
  (apply_own cols ar nr cr hr rows ax nx cx hx xs w vr rr vx rx hB).mono fun _ _ h => h.E
end Go.Proofs.YtfjcbgfgiidogaaDoor
namespace Go.Proofs.YtfjcbgfgiidogaaDoor
open Go.RowKit

def solveOK (cols : Int) (rows vs : List (List Nat)) : Bool := rightB cols rows && (decide (vs.length = rows.length) && evenB vs (widthB vs : Nat))
def augs (rows vs : List (List Nat)) : List (List Nat) := List.zipWith (· ++ ·) rows vs
def solvedBy (cols : Nat) (f : Wk) : List (List Nat) := (List.range cols).map fun c => (rowOf f c).drop cols
/-- what Solve answers, where the system is right. -/
def solveOut (cols : Nat) (rows vs : List (List Nat)) : List (List Nat) × Int :=
  if count (sysTo cols (augs rows vs) rows.length).1 cols ≠ cols then ([], 21)
  else if (sysTo cols (augs rows vs) rows.length).2 = true then ([], 22)
  else (solvedBy cols (sysTo cols (augs rows vs) rows.length).1, 0)

set_option maxRecDepth 10000 in
theorem GivesE.rebase {w w1 w' : World} {out : List (List Nat)} {code : Int} {x : Ending} (h : GivesE w1 out code x w') (hb : Below w.heap.size w w1) : GivesE w out code x w' := by
  obtain ⟨a, c, hs, e, h1, h2, h3⟩ := h
  exact ⟨a, c, hs, e, h1, h2, hb.trans (h3.mono hb.size)⟩
set_option maxRecDepth 10000 in
theorem MapH.heapEq {w w' : World} {b : Nat} {f : Nat → Option HdT} {cnt : Nat} (h : MapH w b f cnt) (e : w'.heap = w.heap) : MapH w' b f cnt := by
  obtain ⟨D, ⟨es, clock, h1, h2⟩, h3⟩ := h
  exact ⟨D, ⟨es, clock, by rw [e]; exact h1, h2⟩, h3⟩
set_option maxRecDepth 10000 in
theorem look_run {w : World} {b : Nat} {f : Nat → Option HdT} {cnt : Nat} (h : MapH w b f cnt) (c : Nat) (hd : HdT) (hc : c < 1000000) (hold : f c = some hd) :
    (Instr.lookup 138 (.map (some b)) (.int .i64 (c : Int)) false).run Tryd.prog w = .ok (.slice hd.1 hd.2.1 hd.2.2) w := by
  obtain ⟨D, hown, hs, hR⟩ := h
  obtain ⟨v, ps, hrun, hv⟩ := hown.lookup klaw Tryd.underlying138 (zeroHd w) (zd := .held (none, 0, 0)) (zp := []) rfl (key := .int .i64 (c : Int)) (key_of hc)
  rw [(hR.2 c).2 hd hold] at hv
  obtain ⟨x', rfl, e⟩ := hdElem_inv hv
  injection e with e _
  injection e with e
  subst e
  exact hrun

set_option maxRecDepth 100000 in
set_option maxHeartbeats 4000000 in
theorem solve_bad (cols : Int) (ar : Option Addr) (nr cr : Nat) (hr : List HdT) (rows : List (List Nat)) (ax : Option Addr) (nx cx : Nat) (hx : List HdT) (xs : List (List Nat)) (w : World) (vr : RowV w ar nr (hr.map SV)) (rr : RowsV w hr rows) (vx : RowV w ax nx (hx.map SV)) (rx : RowsV w hx xs)
    (sr : nr ≤ 140737488355328) (sx : nx ≤ 140737488355328) (hB : solveOK cols rows xs = false) :
    Calls Tryd.prog 86 #[.int .i64 cols, .slice ar nr cr, .slice ax nx cx] w (GivesE w [] 20) := by
  have hxs : xs.length = nx := by rw [← rx.1]; have := vx.1; simpa using this
  have hrs : rows.length = nr := by rw [← rr.1]; have := vr.1; simpa using this
  have KR := right_any cols ar nr cr hr rows w vr sr rr
  have HVX := Lib.hid vx
  have HRX := Lib.hid rx
  unfold solveOK at hB
  rw [hxs, hrs] at hB
  clear vr rr vx rx hxs hrs
  by_cases h1 : rightB cols rows = true
  rotate_left 1
  · have h1' : rightB cols rows = false := by simpa using h1
    rw [h1'] at KR
    clear h1 h1' hB
    go_enter Tryd.func86, Tryd.ntmps86
    go_wp2_with fail
    (with_reducible refine KR.mono ?_)
    rintro x w1 ⟨rfl, hb⟩
    go_wp2
    go_ret2
    exact givesE_nil hb
  rw [h1] at KR hB
  by_cases h2 : nx = nr
  rotate_left 1
  · have h2' : ((nx : Int) != (nr : Int)) = true := by rw [bne_iff_ne]; omega
    clear h1 h2 hB
    go_enter Tryd.func86, Tryd.ntmps86
    go_wp2_with fail
    (with_reducible refine KR.mono ?_)
    rintro x w1 ⟨rfl, hb⟩
    go_wp2
    go_ret2
    exact givesE_nil hb
  have h3 : evenB xs (widthB xs : Nat) = false := by simpa [h2] using hB
  have H3 := Lib.hid h3
  subst h2
  clear h1 hB h3
  go_enter Tryd.func86, Tryd.ntmps86
  go_wp2_with fail
  (with_reducible refine KR.mono ?_)
  rintro x w1 ⟨rfl, hb⟩
  clear KR
  go_wp2_with fail
  (with_reducible refine (width_any _ _ _ hx xs _ (HVX.out.below hb) (HRX.out.below hb)).mono ?_)
  rintro x w2 ⟨rfl, rfl⟩
  go_wp2_with fail
  (with_reducible refine (even_any _ _ _ _ hx xs _ (HVX.out.below hb) sx (HRX.out.below hb)).mono ?_)
  rw [H3.out]
  rintro x w3 ⟨rfl, b3⟩
  go_wp2
  go_ret2
  exact givesE_nil (hb.trans (b3.mono hb.size))

set_option maxRecDepth 10000 in
theorem zip_at {rows vs : List (List Nat)} {k : Nat} {r v : List Nat} (hr : rows[k]? = some r) (hv : vs[k]? = some v) : (augs rows vs)[k]? = some (r ++ v) := by
  unfold augs
  rw [List.getElem?_zipWith, hr, hv]

set_option maxRecDepth 100000 in
set_option maxHeartbeats 8000000 in
theorem solve_any (cols : Nat) (ar : Option Addr) (nr cr : Nat) (hr : List HdT) (rows : List (List Nat)) (ax : Option Addr) (nx cx : Nat) (hx : List HdT) (xs : List (List Nat)) (w : World) (vr : RowV w ar nr (hr.map SV)) (rr : RowsV w hr rows) (vx : RowV w ax nx (hx.map SV)) (rx : RowsV w hx xs)
    (hB : solveOK (cols : Int) rows xs = true) (hw : widthB xs ≤ 100000) :
    Calls Tryd.prog 86 #[.int .i64 (cols : Int), .slice ar nr cr, .slice ax nx cx] w (GivesE w (solveOut cols rows xs).1 (solveOut cols rows xs).2) := by
  have hhx : hx.length = nx := by have := vx.1; simpa using this
  have hxs : xs.length = nx := by rw [← rx.1, hhx]
  have hhr : hr.length = nr := by have := vr.1; simpa using this
  have hrs : rows.length = nr := by rw [← rr.1, hhr]
  unfold solveOK at hB
  simp only [Bool.and_eq_true, decide_eq_true_iff] at hB
  obtain ⟨b1, b2, b3⟩ := hB
  obtain ⟨c1, c2, c3, c4⟩ := rightB_iff.1 b1
  have b4 := evenB_iff.1 b3
  have KR := right_any cols ar nr cr hr rows w vr (by omega) rr
  rw [b1] at KR
  obtain rfl : nx = nr := by omega
  obtain ⟨i0, hi, hz0, hz1, hz2⟩ := info_parts Tryd.info22
  obtain ⟨wid, hwid⟩ : ∃ wid, wid = widthB xs := ⟨_, rfl⟩
  rw [← hwid] at hw b3 b4
  have HWID := Lib.hid hwid
  have HB3 := Lib.hid b3
  have HB4 := Lib.hid b4
  have HC4 := Lib.hid c4
  have HVX := Lib.hid vx
  have HRX := Lib.hid rx
  have HVR := Lib.hid vr
  have HRR := Lib.hid rr
  have HHR := Lib.hid hhr
  have HRS := Lib.hid hrs
  have HXS := Lib.hid hxs
  have HHX := Lib.hid hhx
  have hnx : nx ≤ 256 := by omega
  have c1' : 0 < cols := by omega
  have c2' : cols ≤ 128 := by omega
  have H0 := Lib.hid (show sysTo cols (augs rows xs) 0 = (fun _ => none, false) from rfl)
  clear vr rr vx rx hhr hrs b1 b2 b3 b4 c1 c2 c3 c4 hxs hhx hwid
  go_enter Tryd.func86, Tryd.ntmps86
  go_wp2_with fail
  (with_reducible refine KR.mono ?_)
  rintro x w1 ⟨rfl, hb⟩
  clear KR
  have KW := fun w' h1 h2 => width_any ax nx cx hx xs w' h1 h2
  rw [← HWID.out] at KW
  go_wp2_with fail
  (with_reducible refine (KW _ (HVX.out.below hb) (HRX.out.below hb)).mono ?_)
  rintro x w2 ⟨rfl, rfl⟩
  go_wp2_with fail
  (with_reducible refine (even_any _ _ _ _ hx xs _ (HVX.out.below hb) (by omega) (HRX.out.below hb)).mono ?_)
  rw [HB3.out]
  rintro x w3 ⟨rfl, b3⟩
  have hb3 := hb.trans (b3.mono hb.size)
  clear hb b3
  go_wp2_with fail
  (with_reducible refine (KW _ (HVX.out.below hb3) (HRX.out.below hb3)).mono ?_)
  rintro x w4 ⟨rfl, rfl⟩
  go_wp2_with fail
  (with_reducible refine (newSystem_any cols wid w3).mono ?_)
  rintro x w5 ⟨rfl, hS5⟩
  have hS := hS5.rebase hb3
  obtain ⟨g, hg⟩ : ∃ g, g = w3.heap.size + 1 := ⟨_, rfl⟩
  obtain ⟨gm, hgm⟩ : ∃ gm, gm = w3.heap.size := ⟨_, rfl⟩
  rw [← hg, ← hgm] at hS
  rw [← hg]
  rw [← H0.out] at hS
  have HS := Lib.hid hS
  clear hS5 hg hgm hb3 KW hS
  go_wp2
  go_loopw [37] (fun i wr => ∃ (k : Nat) (hd : Nat → Option HdT), k ≤ nx ∧ i = .int .i64 k ∧ SysV w wr g gm cols wid (sysTo cols (augs rows xs) k) hd) (fun i _ => nx - (intOf i).toNat)
  case atStart => exact ⟨0, _, Nat.zero_le _, rfl, HS.out⟩
  case round =>
    clear HS
    obtain ⟨k, hd, hk, rfl, hS⟩ := hrel
    by_cases hlt : k < nx
    · obtain ⟨b, off, rfl, hcl⟩ := (HVR.out.below hS.base).2 (by omega)
      obtain ⟨bx, offx, rfl, hclx⟩ := (HVX.out.below hS.base).2 (by omega)
      obtain ⟨⟨a2, n2, c2⟩, hxk⟩ : ∃ x, hr[k]? = some x := ⟨_, List.getElem?_eq_getElem (by rw [HHR.out]; exact hlt)⟩
      obtain ⟨⟨a3, n3, c3⟩, hyk⟩ : ∃ x, hx[k]? = some x := ⟨_, List.getElem?_eq_getElem (by rw [HHX.out]; exact hlt)⟩
      obtain ⟨l, hl⟩ : ∃ l, rows[k]? = some l := ⟨_, List.getElem?_eq_getElem (by rw [HRS.out]; exact hlt)⟩
      obtain ⟨v, hv⟩ : ∃ v, xs[k]? = some v := ⟨_, List.getElem?_eq_getElem (by rw [HXS.out]; exact hlt)⟩
      have hBl := HRR.out.2 k _ l hxk hl
      have hBv := HRX.out.2 k _ v hyk hv
      have hc := hcl k hlt
      rw [List.getElem?_map, hxk] at hc
      unfold SV at hc
      simp only [Option.map_some] at hc
      have hcx := hclx k hlt
      rw [List.getElem?_map, hyk] at hcx
      unfold SV at hcx
      simp only [Option.map_some] at hcx
      have hlc := HC4.out l (List.mem_of_getElem? hl)
      have hvw := HB4.out v (List.mem_of_getElem? hv)
      have hzip := zip_at hl hv
      have hlen : (l ++ v).length = cols + wid := by rw [List.length_append]; omega
      have hfl : [l, v].flatten = l ++ v := by simp
      have hby : Bytes (l ++ v) := fun x hx => by
        rcases List.mem_append.1 hx with h | h
        · exact hBl.bytes x h
        · exact hBv.bytes x h
      have hb1 := below_alloc wr (.cells #[.slice a2 n2 c2, .slice a3 n3 c3] 22)
      have hbw := hS.base.trans (hb1.mono hS.base.size)
      have hrow := rowV_lit wr #[.slice a2 n2 c2, .slice a3 n3 c3] 22 wr.heap.size 2 ([(a2, n2, c2), (a3, n3, c3)].map SV) rfl rfl rfl
      have hrws : RowsV (wr.alloc (.cells #[.slice a2 n2 c2, .slice a3 n3 c3] 22)) [(a2, n2, c2), (a3, n3, c3)] [l, v] := rowsV_cons (hBl.below hbw) (rowsV_cons (hBv.below hbw) (rowsV_nil _))
      have KC := concat_any (some ⟨wr.heap.size, 0, none⟩) 2 2 _ _ (by omega) _ hrow hrws (by rw [hfl, hlen]; omega)
      rw [hfl] at KC
      have hS1 := hS.below hb1
      have HST := Lib.hid (sysTo_succ cols (augs rows xs) k _ hzip)
      have HLEN := Lib.hid hlen
      have HBYY := Lib.hid hby
      obtain ⟨eq, heq⟩ : ∃ eq, eq = l ++ v := ⟨_, rfl⟩
      rw [← heq] at KC HST HLEN HBYY
      clear hcl hclx hxk hyk hl hv hBl hBv hlc hvw hzip hlen hfl hby hb1 hbw hrow hrws hS heq
      go_wp2_with fail
      (with_reducible refine KC.mono ?_)
      rintro x w6 ⟨a6, c6, rfl, o6, b6⟩
      rw [HLEN.out] at o6 ⊢
      have hX6 := bytesV_of_owns o6 HBYY.out (by omega)
      have hS6 := hS1.below b6
      have KA := sysAdd_any w g gm cols wid _ _ hd a6 c6 eq w6 hS6 hX6 c1' c2' (by omega)
      clear KC hS1 hc hcx o6 b6 hX6 hS6
      go_wp2_with fail
      (with_reducible refine KA.mono ?_)
      rintro x w7 ⟨rfl, hd7, hS7⟩
      go_wp2
      go_roundw
      case rel => exact ⟨k + 1, hd7, by omega, by go_num, by rw [HST.out]; exact hS7⟩
      case measure => simp [intOf]; omega
    · obtain rfl : k = nx := by omega
      clear hlt hk
      have KF := full_any w wr g gm cols wid _ hd hS
      have hso : solveOut cols rows xs = if count (sysTo cols (augs rows xs) k).1 cols ≠ cols then ([], 21) else if (sysTo cols (augs rows xs) k).2 = true then ([], 22) else (solvedBy cols (sysTo cols (augs rows xs) k).1, 0) := by
        unfold solveOut; rw [HRS.out]
      obtain ⟨s, hs⟩ : ∃ s, s = sysTo cols (augs rows xs) k := ⟨_, rfl⟩
      rw [← hs] at hso hS KF
      clear hs
      by_cases hf : count s.1 cols = cols
      rotate_left 1
      · rw [if_pos hf] at hso
        rw [decide_eq_false hf] at KF
        have HSO := Lib.hid hso
        have hbS := hS.base
        clear hso hf hS
        go_wp2_with fail
        (with_reducible refine KF.mono ?_)
        rintro x w8 ⟨rfl, b8⟩
        go_wp2
        go_ret2
        rw [HSO.out]
        exact givesE_nil (hbS.trans (b8.mono hbS.size))
      · rw [if_neg (fun h => h hf)] at hso
        rw [decide_eq_true hf] at KF
        have HF := Lib.hid hf
        have HSX := Lib.hid hso
        clear hf hso
        go_wp2_with fail
        (with_reducible refine KF.mono ?_)
        rintro x w8 ⟨rfl, b8⟩
        have hS8 := hS.below b8
        clear KF hS b8
        have hbS := hS8.base
        have hbx := hS8.box
        unfold ST at hbx
        obtain ⟨p0, p1, p2, p3, pF⟩ := box4_cells hbx
        by_cases hcl : s.2 = true
        · have hso := HSX.out
          rw [if_pos hcl] at hso
          rw [hcl] at p3
          have HSO := Lib.hid hso
          clear hso hcl hS8 hbx
          go_wp2
          go_ret2
          rw [HSO.out]
          exact givesE_nil hbS
        · have hso := HSX.out
          rw [if_neg hcl] at hso
          have hcl' : s.2 = false := by simpa using hcl
          rw [hcl'] at p3
          have HSO := Lib.hid hso
          have HCL := Lib.hid hcl'
          clear hso hcl hcl'
          obtain ⟨outs, houts⟩ : ∃ outs, outs = solvedBy cols s.1 := ⟨_, rfl⟩
          have hol : outs.length = cols := by rw [houts]; unfold solvedBy; simp
          have hat : ∀ c, c < cols → ∃ r x, s.1 c = some r ∧ hd c = some x ∧ x.2.1 = cols + wid ∧ BytesV w8 x r ∧ outs[c]? = some (r.drop cols) := fun c hc => by
            obtain ⟨r, hr⟩ := count_full.1 HF.out c hc
            obtain ⟨x, h1, h2, h3⟩ := hS8.rows c r hr
            refine ⟨r, x, hr, h1, h2, h3, ?_⟩
            rw [houts]; unfold solvedBy
            rw [List.getElem?_map, List.getElem?_range hc]
            simp only [Option.map_some, rowOf_some hr]
          have hob : ∀ l ∈ outs, Bytes l ∧ l.length ≤ 140737488355328 := fun l hl => by
            obtain ⟨c, hc⟩ := List.getElem?_of_mem hl
            obtain ⟨r, x, h1, h2, h3, h4, h5⟩ := hat c (by have := (List.getElem?_eq_some_iff.1 hc).1; omega)
            rw [hc] at h5
            injection h5 with h5
            subst h5
            exact ⟨fun y hy => h4.bytes y (List.mem_of_mem_drop hy), by have := h4.length; rw [List.length_drop]; omega⟩
          rw [← houts] at HSO
          have HAT := Lib.hid hat
          have HOB := Lib.hid hob
          have HOL := Lib.hid hol
          clear houts hat hob hol
          go_wp2_with (first | (at_make; refine wpList_make_full _ rfl _ _ 35 rfl w8.heap.size 22 i0 (.slice none 0 0) 1 Tryd.underlying35 hi hz0 hz1 _ _ _ _ cols rfl rfl rfl rfl (by rw [hz2]; omega) (by unfold maxLen; omega) (Nat.le_refl _) ?_; intro w9 hown9 hgrow9))
          rw [show (Value.slice none 0 0).cells = #[.slice none 0 0] from rfl, Nat.mul_one, toList_madeCells_one] at hown9
          have hF := filled_start (w0 := w8) (outs := outs) (Below.refl _ _) hown9 hgrow9
          obtain ⟨gx, hgx⟩ : ∃ gx, gx = w8.heap.size := ⟨_, rfl⟩
          rw [← hgx] at hF ⊢
          have hggx : g < gx := by rw [hgx]; exact (Array.getElem?_eq_some_iff.1 hbx).1
          have HFI := Lib.hid hF
          clear hgx hown9 hgrow9 hF p0 p1 p2 p3 pF hbx
          go_wp2
          go_loopw [67] (fun i wr => ∃ (z : Nat) (hz : List HdT), z ≤ cols ∧ i = .int .i64 z ∧ Filled w8 wr gx gx cols z hz outs) (fun i _ => cols - (intOf i).toNat)
          case atStart => exact ⟨0, [], Nat.zero_le _, rfl, HFI.out⟩
          case round =>
            clear HFI
            obtain ⟨z, hz, hzk, rfl, hF⟩ := hrel
            by_cases hlt : z < cols
            · obtain ⟨r, ⟨xa, xn, xc⟩, hsr, hdz, hxL, hXr, hoz⟩ := HAT.out z hlt
              simp only at hxL
              have hSr := hS8.below hF.base
              have hbx := hSr.box
              unfold ST at hbx
              obtain ⟨p0, p1, p2, p3, pF⟩ := box4_cells hbx
              have hXr' := hXr.below hF.base
              have KV := fun w' h => value_any cols wid xa xn xc r w' h hxL (by omega) (by omega)
              have hlook : ∀ w', w'.heap = wr.heap → (Instr.lookup 138 (.map (some gm)) (.int .i64 (z : Int)) false).run Tryd.prog w' = .ok (.slice xa xn xc) w' := fun w' e => look_run (hSr.map.heapEq e) z (xa, xn, xc) (by omega) hdz
              have hlook0 := hlook wr rfl
              have hlook1 := hlook wr.drew rfl
              have hlook2 := hlook wr.drew.drew rfl
              have HOZ := Lib.hid hoz
              have hrl : (r.drop cols).length = wid := by have := hXr.length; simp only at this; rw [List.length_drop]; omega
              have HRL := Lib.hid hrl
              have hgx := hF.lt
              clear hsr hdz hxL hXr hoz hSr hrl hlook
              go_wp2
              go_region_held3 (fun w' => w'.cell? ⟨g, 0, none⟩ = some (.int .i64 (cols : Int)) ∧ w'.cell? ⟨g, 1, none⟩ = some (.int .i64 (wid : Int)) ∧ w'.cell? ⟨g, 2, none⟩ = some (.map (some gm))) (first | exact ⟨t0, t1, t2⟩ | exact ⟨q0, q1, q2⟩ | exact ⟨p0, p1, p2⟩)
                (first
                  | (go_at_call 109; (with_reducible refine (KV _ ?hh1).mono ?_); (case hh1 => exact hXr'.below ⟨rfl, rfl, rfl, Nat.le_refl _, fun _ _ => rfl⟩); rintro x w20 ⟨a20, c20, rfl, hW20, o20, b20⟩; have b20' : Below wr.heap.size wr w20 := ⟨b20.os, b20.tape, b20.output, b20.size, b20.block⟩; have hF20 := hF.below b20'; have hB20 := box_below' hbx b20'; obtain ⟨q0, q1, q2, q3, qF⟩ := box4_cells hB20; obtain ⟨v, hv, hfz⟩ := hF20.cell z hlt; have o20' : w20.ownsRow (gx + 1) 5 1 (.slice a20 wid c20) wid ((r.drop cols).map bv) := ownsRow_base o20 (by show gx + 1 ≤ wr.heap.size; omega); have hst := hF20.step (x := (a20, wid, c20)) (l := r.drop cols) (by rw [HOL.out]; exact hlt) hlt HOZ.out (by rw [HRL.out]; exact o20') (HRL.out.symm); have HST := Lib.hid hst; have hB21 : (w20.setCell ⟨gx, z, none⟩ (.slice a20 wid c20)).heap[g]? = _ := (heap_setCell_other _ ⟨gx, z, none⟩ g _ (show g ≠ gx by omega)).trans hB20; obtain ⟨t0, t1, t2, t3, tF⟩ := box4_cells hB21; clear hst o20' o20 hW20))
              all_goals go_wp2
              all_goals
                go_roundw
                case rel => exact ⟨z + 1, _, by omega, by go_num, HST.out⟩
                case measure => simp [intOf]; omega
            · obtain rfl : z = cols := by omega
              go_wp2
              go_ret2
              rw [HSO.out]
              exact (hF.done HOL.out HOB.out).rebase hbS
end Go.Proofs.YtfjcbgfgiidogaaDoor
namespace Go.Proofs.YtfjcbgfgiidogaaDoor

theorem xsum_add (f : Nat → Nat) (n : Nat) : ∀ m, xsum f (n + m) = xsum f n ^^^ xsum (fun u => f (n + u)) m
  | 0 => by simp [xsum]
  | m + 1 => by rw [← Nat.add_assoc]; simp only [xsum]; rw [xsum_add f n m, Nat.xor_assoc]
theorem xsum_two {f : Nat → Nat} {i k n : Nat} (hi : i < n) (hk : k < n) (hne : i ≠ k) (h : ∀ j, j < n → j ≠ i → j ≠ k → f j = 0) : xsum f n = f i ^^^ f k := by
  have e : xsum f n = xsum (fun j => (if j = i then f i else 0) ^^^ (if j = k then f k else 0)) n := by
    apply xsum_congr
    intro j hj
    by_cases h1 : j = i
    · subst h1
      rw [if_pos rfl, if_neg hne, Nat.xor_zero]
    · by_cases h2 : j = k
      · subst h2
        rw [if_neg h1, if_pos rfl, Nat.zero_xor]
      · rw [if_neg h1, if_neg h2, h j hj h1 h2]; rfl
  rw [e, xsum_xor, xsum_one hi (fun j _ hj => if_neg hj), xsum_one hk (fun j _ hj => if_neg hj), if_pos rfl, if_pos rfl]
theorem dot_split (y : Nat → Nat) (r : List Nat) (cols wid : Nat) : dot y r (cols + wid) = dot y r cols ^^^ xsum (fun u => mul (y (cols + u)) (r.getD (cols + u) 0)) wid := xsum_add _ _ _
theorem dot_aug (y : Nat → Nat) {r v : List Nat} {cols : Nat} (wid : Nat) (hr : r.length = cols) : dot y (r ++ v) (cols + wid) = dot y r cols ^^^ xsum (fun u => mul (y (cols + u)) (v.getD u 0)) wid := by
  rw [dot_split]
  congr 1
  · exact dot_congr fun j hj => by rw [List.getD_eq_getElem?_getD, List.getElem?_append_left (by omega), ← List.getD_eq_getElem?_getD]
  · apply xsum_congr
    intro u _
    rw [List.getD_eq_getElem?_getD, List.getElem?_append_right (by omega), hr, Nat.add_sub_cancel_left, ← List.getD_eq_getElem?_getD]
theorem tail_one {y : Nat → Nat} {g : Nat → Nat} {cols wid t : Nat} (ht : t < wid) (h1 : y (cols + t) = 1) (h0 : ∀ u, u < wid → u ≠ t → y (cols + u) = 0) (hg : g t < 256) : xsum (fun u => mul (y (cols + u)) (g u)) wid = g t := by
  rw [xsum_one ht (fun u hu hne => by rw [h0 u hu hne, zero_mul]), h1, one_mul hg]
theorem tail_zero {y : Nat → Nat} {g : Nat → Nat} {cols : Nat} (wid : Nat) (h0 : ∀ j, cols ≤ j → y j = 0) : xsum (fun u => mul (y (cols + u)) (g u)) wid = 0 := xsum_zero fun u _ => by rw [h0 _ (by omega), zero_mul]

def SolT (cols wid : Nat) (A : List (List Nat)) (t : Nat) (y : Nat → Nat) : Prop := (∀ j, y j < 256) ∧ (∀ a ∈ A, dot y a (cols + wid) = 0) ∧ y (cols + t) = 1 ∧ ∀ u, u < wid → u ≠ t → y (cols + u) = 0
def KerT (cols wid : Nat) (A : List (List Nat)) (y : Nat → Nat) : Prop := (∀ j, y j < 256) ∧ (∀ j, cols ≤ j → y j = 0) ∧ ∀ a ∈ A, dot y a (cols + wid) = 0

theorem dot_full {cols L : Nat} {f : Wk} (h : Sys cols L f) (hf : count f cols = cols) {c : Nat} {r : List Nat} (hc : f c = some r) {y : Nat → Nat} (hy : ∀ j, y j < 256) : dot y r cols = y c := by
  have hcl := h.lt hc
  unfold dot
  rw [xsum_one hcl (fun j hj hne => ?_), h.one hc, mul_one (hy c)]
  obtain ⟨r', hr'⟩ := count_full.1 hf j hj
  rw [h.zero hc hr' hne, mul_zero]
theorem full_ker {cols wid : Nat} {A : List (List Nat)} {s : Wk × Bool} (h : Says cols (cols + wid) A s) : count s.1 cols = cols ↔ ∀ y, KerT cols wid A y → ∀ j, j < cols → y j = 0 := by
  constructor
  · intro hf y ⟨h1, h2, h3⟩ c hc
    obtain ⟨r, hr⟩ := count_full.1 hf c hc
    have := h.down y h1 h3 c r hr
    rw [dot_split, tail_zero wid h2, Nat.xor_zero, dot_full h.sys hf hr h1] at this
    exact this
  · intro hk
    rw [count_full]
    intro c0 hc0
    cases hn : s.1 c0 with
    | some r => exact ⟨r, rfl⟩
    | none =>
      exfalso
      obtain ⟨y, hy⟩ : ∃ y : Nat → Nat, y = fun j => if j = c0 then 1 else (rowOf s.1 j).getD c0 0 := ⟨_, rfl⟩
      have ye : ∀ j, y j = if j = c0 then 1 else (rowOf s.1 j).getD c0 0 := fun j => by rw [hy]
      have yn : ∀ j, j ≠ c0 → s.1 j = none → y j = 0 := fun j h1 h2 => by rw [ye, if_neg h1]; unfold rowOf; rw [h2]; rfl
      have y1 : ∀ j, y j < 256 := fun j => by
        rw [ye]
        split
        · decide
        · cases hj : s.1 j with
          | none => unfold rowOf; rw [hj]; simp
          | some r => rw [rowOf_some hj]; exact (h.sys.bytes hj).getD c0
      have y2 : ∀ j, cols ≤ j → y j = 0 := fun j hj => yn j (by omega) (by
        cases e : s.1 j with
        | none => rfl
        | some r => have := h.sys.lt e; omega)
      have y3 : ∀ c r, s.1 c = some r → dot y r (cols + wid) = 0 := fun c r hc => by
        have hcl := h.sys.lt hc
        have hne : c ≠ c0 := fun e => by rw [e, hn] at hc; cases hc
        unfold dot
        rw [xsum_two (i := c) (k := c0) (by omega) (by omega) hne (fun j _ h1 h2 => ?_)]
        · rw [ye c, if_neg hne, rowOf_some hc, h.sys.one hc, mul_one ((h.sys.bytes hc).getD c0), ye c0, if_pos rfl, one_mul ((h.sys.bytes hc).getD c0), Nat.xor_self]
        · cases e : s.1 j with
          | none => rw [yn j h2 e, zero_mul]
          | some r' => rw [h.sys.zero hc e h1, mul_zero]
      have := hk y ⟨y1, y2, h.up y y1 (.inr y2) y3⟩ c0 hc0
      rw [ye, if_pos rfl] at this
      cases this
theorem sol_of {cols wid : Nat} {A : List (List Nat)} {s : Wk × Bool} (h : Says cols (cols + wid) A s) (hf : count s.1 cols = cols) (hcl : s.2 = false) {t : Nat} (ht : t < wid) :
    SolT cols wid A t (fun j => if j < cols then (rowOf s.1 j).getD (cols + t) 0 else if j = cols + t then 1 else 0) := by
  obtain ⟨y, hy⟩ : ∃ y : Nat → Nat, y = fun j => if j < cols then (rowOf s.1 j).getD (cols + t) 0 else if j = cols + t then 1 else 0 := ⟨_, rfl⟩
  rw [← hy]
  have y1 : ∀ j, y j < 256 := fun j => by
    rw [hy]; simp only
    split
    · cases hj : s.1 j with
      | none => unfold rowOf; rw [hj]; simp
      | some r => rw [rowOf_some hj]; exact (h.sys.bytes hj).getD _
    · split <;> decide
  have y2 : y (cols + t) = 1 := by rw [hy]; show (if cols + t < cols then _ else if cols + t = cols + t then 1 else 0) = 1; rw [if_neg (by omega), if_pos rfl]
  have y3 : ∀ u, u < wid → u ≠ t → y (cols + u) = 0 := fun u _ hu => by rw [hy]; simp only; rw [if_neg (by omega), if_neg (by omega)]
  refine ⟨y1, h.up y y1 (.inl hcl) (fun c r hc => ?_), y2, y3⟩
  have hcc := h.sys.lt hc
  rw [dot_split, dot_full h.sys hf hc y1, tail_one ht y2 y3 ((h.sys.bytes hc).getD _)]
  have : y c = r.getD (cols + t) 0 := by rw [hy]; simp only; rw [if_pos hcc, rowOf_some hc]
  rw [this, Nat.xor_self]
theorem sol_only {cols wid : Nat} {A : List (List Nat)} {s : Wk × Bool} (h : Says cols (cols + wid) A s) (hf : count s.1 cols = cols) {t : Nat} (ht : t < wid) {y : Nat → Nat} (hy : SolT cols wid A t y) {c : Nat} {r : List Nat} (hc : s.1 c = some r) : y c = r.getD (cols + t) 0 := by
  obtain ⟨h1, h2, h3, h4⟩ := hy
  have := h.down y h1 h2 c r hc
  rw [dot_split, dot_full h.sys hf hc h1, tail_one ht h3 h4 ((h.sys.bytes hc).getD _)] at this
  exact xor_eq_zero this
theorem no_sol {cols wid : Nat} {A : List (List Nat)} {s : Wk × Bool} (h : Says cols (cols + wid) A s) (hcl : s.2 = true) : ∃ t, t < wid ∧ ∀ y, ¬ SolT cols wid A t y := by
  obtain ⟨v, v1, v2, v3, ⟨j, hj, hjn⟩, v5⟩ := h.clash hcl
  have hjc : cols ≤ j := by
    by_cases e : cols ≤ j
    · exact e
    · exact absurd (v3 j (by omega)) hjn
  refine ⟨j - cols, by omega, fun y ⟨h1, h2, h3, h4⟩ => ?_⟩
  have := v5 y h1 h2
  rw [dot_split, tail_one (t := j - cols) (by omega) h3 h4 (v2.getD _)] at this
  rw [show dot y v cols = 0 from xsum_zero fun i hi => by rw [v3 i hi, mul_zero], Nat.zero_xor, show cols + (j - cols) = j by omega] at this
  exact hjn this

/-- what a system tells at the end. -/
def solveEnd (cols : Nat) (s : Wk × Bool) : List (List Nat) × Int := if count s.1 cols ≠ cols then ([], 21) else if s.2 = true then ([], 22) else (solvedBy cols s.1, 0)
theorem solveOut_end (cols : Nat) (rows vs : List (List Nat)) : solveOut cols rows vs = solveEnd cols (sysTo cols (augs rows vs) rows.length) := rfl
theorem solved_at {cols : Nat} {f : Wk} {c : Nat} (hc : c < cols) : (solvedBy cols f)[c]? = some ((rowOf f c).drop cols) := by
  unfold solvedBy
  rw [List.getElem?_map, List.getElem?_range hc]
  rfl
theorem solved_len (cols : Nat) (f : Wk) : (solvedBy cols f).length = cols := by unfold solvedBy; simp
theorem solved_ext {cols wid : Nat} {f : Wk} (hS : Sys cols (cols + wid) f) (hf : count f cols = cols) {X : List (List Nat)} (hX : X.length = cols) (hl : ∀ x ∈ X, x.length = wid) (h : ∀ c t r x, f c = some r → X[c]? = some x → t < wid → r.getD (cols + t) 0 = x.getD t 0) : solvedBy cols f = X := by
  apply List.ext_getElem?
  intro c
  by_cases hc : c < cols
  · obtain ⟨r, hr⟩ := count_full.1 hf c hc
    obtain ⟨x, hx⟩ : ∃ x, X[c]? = some x := ⟨_, List.getElem?_eq_getElem (by omega)⟩
    rw [solved_at hc, hx, rowOf_some hr]
    congr 1
    have hxl := hl x (List.mem_of_getElem? hx)
    have hrl := hS.len hr
    apply ext_getD
    · rw [List.length_drop]; omega
    · intro t ht
      rw [List.length_drop] at ht
      rw [List.getD_eq_getElem?_getD, List.getElem?_drop, ← List.getD_eq_getElem?_getD]
      exact h c t r x hr hx (by omega)
  · rw [List.getElem?_eq_none (by rw [solved_len]; omega), List.getElem?_eq_none (by omega)]
/-- the end hangs on what the equations say alone. -/
theorem end_congr {cols wid : Nat} {A A' : List (List Nat)} {s s' : Wk × Bool} (h : Says cols (cols + wid) A s) (h' : Says cols (cols + wid) A' s')
    (he : ∀ y : Nat → Nat, (∀ j, y j < 256) → ((∀ a ∈ A, dot y a (cols + wid) = 0) ↔ ∀ a ∈ A', dot y a (cols + wid) = 0)) : solveEnd cols s = solveEnd cols s' := by
  have hk : count s.1 cols = cols ↔ count s'.1 cols = cols := by
    rw [full_ker h, full_ker h']
    constructor
    · intro k y ⟨h1, h2, h3⟩; exact k y ⟨h1, h2, (he y h1).2 h3⟩
    · intro k y ⟨h1, h2, h3⟩; exact k y ⟨h1, h2, (he y h1).1 h3⟩
  have hs : ∀ t y, SolT cols wid A t y ↔ SolT cols wid A' t y := fun t y => ⟨fun ⟨h1, h2, h3⟩ => ⟨h1, (he y h1).1 h2, h3⟩, fun ⟨h1, h2, h3⟩ => ⟨h1, (he y h1).2 h2, h3⟩⟩
  unfold solveEnd
  by_cases hf : count s.1 cols = cols
  · have hf' := hk.1 hf
    rw [if_neg (show ¬ count s.1 cols ≠ cols from fun e => e hf), if_neg (show ¬ count s'.1 cols ≠ cols from fun e => e hf')]
    by_cases hc : s.2 = true
    · have hc' : s'.2 = true := by
        cases e : s'.2 with
        | true => rfl
        | false =>
          obtain ⟨t, ht, hn⟩ := no_sol h hc
          exact absurd ((hs t _).2 (sol_of h' hf' e ht)) (hn _)
      rw [if_pos hc, if_pos hc']
    · have hc2 : s.2 = false := by simpa using hc
      have hc' : ¬ s'.2 = true := fun e => by
        obtain ⟨t, ht, hn⟩ := no_sol h' e
        exact hn _ ((hs t _).1 (sol_of h hf hc2 ht))
      have hc2' : s'.2 = false := by simpa using hc'
      rw [if_neg hc, if_neg hc']
      congr 1
      refine solved_ext h.sys hf (solved_len _ _) (fun x hx => ?_) (fun c t r x hr hx ht => ?_)
      · obtain ⟨c, hc⟩ := List.getElem?_of_mem hx
        have hcl : c < cols := by have := (List.getElem?_eq_some_iff.1 hc).1; rw [solved_len] at this; exact this
        obtain ⟨r, hr⟩ := count_full.1 hf' c hcl
        rw [solved_at hcl, rowOf_some hr] at hc
        injection hc with hc
        rw [← hc, List.length_drop, h'.sys.len hr]; omega
      · have hcl := h.sys.lt hr
        obtain ⟨r', hr'⟩ := count_full.1 hf' c hcl
        rw [solved_at hcl, rowOf_some hr'] at hx
        injection hx with hx
        have hsl := sol_of h' hf' hc2' ht
        have e1 := sol_only h hf ht ((hs t _).2 hsl) hr
        simp only [if_pos hcl, rowOf_some hr'] at e1
        rw [← e1, ← hx, List.getD_eq_getElem?_getD, List.getD_eq_getElem?_getD, List.getElem?_drop]
  · rw [if_pos (show count s.1 cols ≠ cols from hf), if_pos (show count s'.1 cols ≠ cols from fun e => hf (hk.2 e))]

/-! rows and values -/
theorem mixAt_xsum (ks : List Nat) (ls : List (List Nat)) (j : Nat) : ∀ k, mixAt ks ls j k = xsum (fun i => mul (ks.getD i 0) ((ls.getD i []).getD j 0)) k
  | 0 => rfl
  | k + 1 => by simp only [mixAt, xsum]; rw [mixAt_xsum ks ls j k]
theorem mem_augs {rows vs : List (List Nat)} {a : List Nat} : a ∈ augs rows vs ↔ ∃ (i : Nat) (r v : List Nat), rows[i]? = some r ∧ vs[i]? = some v ∧ a = r ++ v := by
  unfold augs
  constructor
  · intro h
    obtain ⟨i, hi⟩ := List.getElem?_of_mem h
    rw [List.getElem?_zipWith] at hi
    cases hr : rows[i]? with
    | none => rw [hr] at hi; simp at hi
    | some r =>
      cases hv : vs[i]? with
      | none => rw [hr, hv] at hi; simp at hi
      | some v => rw [hr, hv] at hi; simp at hi; exact ⟨i, r, v, hr, hv, hi.symm⟩
  · rintro ⟨i, r, v, hr, hv, rfl⟩
    exact List.mem_of_getElem? (i := i) (by rw [List.getElem?_zipWith, hr, hv])
/-- rows of a length, bytes. -/
def Rws (rows : List (List Nat)) (n : Nat) : Prop := ∀ r ∈ rows, Bytes r ∧ r.length = n
theorem says_augs {cols wid : Nat} {rows vs : List (List Nat)} (hl : vs.length = rows.length) (hr : Rws rows cols) (hv : Rws vs wid) : Says cols (cols + wid) (augs rows vs) (sysTo cols (augs rows vs) rows.length) := by
  have h := says_to cols (cols + wid) (augs rows vs) (by omega) (fun a ha => by
    obtain ⟨i, r, v, h1, h2, rfl⟩ := mem_augs.1 ha
    have k1 := hr r (List.mem_of_getElem? h1)
    have k2 := hv v (List.mem_of_getElem? h2)
    exact ⟨fun x hx => by
      rcases List.mem_append.1 hx with h | h
      · exact k1.1 x h
      · exact k2.1 x h, by rw [List.length_append, k1.2, k2.2]⟩) rows.length
  rwa [List.take_of_length_le (by unfold augs; rw [List.length_zipWith]; omega)] at h
theorem says_rows {cols : Nat} {rows : List (List Nat)} (hr : Rws rows cols) : Says cols (cols + 0) rows (sysTo cols rows rows.length) := by
  have h := says_to cols (cols + 0) rows (by omega) hr rows.length
  rwa [List.take_of_length_le (Nat.le_refl _)] at h
theorem count_step (cols L : Nat) (s : Wk × Bool) (hS : Sys cols L s.1) {e : List Nat} (hb : Bytes e) (hl : e.length = L) (hc : cols ≤ L) : count (addEq cols s e).1 cols ≤ count s.1 cols + 1 := by
  unfold addEq
  simp only
  split
  · exact Nat.le_succ _
  · rename_i hne
    have hle := lead_le (cols := cols) (e := clrAll s.1 e cols) (by unfold clrAll; rw [clr_length]; omega)
    have hlt : lead cols (clrAll s.1 e cols) < cols := by omega
    have hn := lead_ne (cols := cols) (e := clrAll s.1 e cols) (by unfold clrAll; rw [clr_length]; omega) hlt
    have hfl : s.1 (lead cols (clrAll s.1 e cols)) = none := by
      cases hf : s.1 (lead cols (clrAll s.1 e cols)) with
      | none => rfl
      | some r => exact absurd (clrAll_zero hS hb hf (by omega)) hn
    rw [count_new (f := s.1) hfl (by simp) (fun c hc => by simp [hc]) hlt]
    exact Nat.le_refl _
theorem count_to_step (cols : Nat) {rows : List (List Nat)} (hr : Rws rows cols) (k : Nat) : count (sysTo cols rows (k + 1)).1 cols ≤ count (sysTo cols rows k).1 cols + 1 := by
  by_cases hk : k < rows.length
  · rw [sysTo_succ cols rows k _ (List.getElem?_eq_getElem hk)]
    have h1 := hr rows[k] (List.getElem_mem hk)
    exact count_step cols cols _ (says_to cols cols rows (Nat.le_refl _) hr k).sys h1.1 h1.2 (Nat.le_refl _)
  · unfold sysTo
    rw [List.take_of_length_le (by omega : rows.length ≤ k), List.take_of_length_le (by omega)]
    omega
theorem count_to_n (cols : Nat) {rows : List (List Nat)} (hr : Rws rows cols) : ∀ k, count (sysTo cols rows k).1 cols ≤ k
  | 0 => by rw [sysTo_zero, count_none]; exact Nat.le_refl _
  | k + 1 => Nat.le_trans (count_to_step cols hr k) (by have := count_to_n cols hr k; omega)
/-- is the system full? the values don't matter. -/
theorem full_augs {cols wid : Nat} {rows vs : List (List Nat)} (hl : vs.length = rows.length) (hr : Rws rows cols) (hv : Rws vs wid) : count (sysTo cols (augs rows vs) rows.length).1 cols = cols ↔ rankOf cols rows = cols := by
  unfold rankOf
  rw [full_ker (says_augs hl hr hv), full_ker (says_rows hr)]
  have key : ∀ y, KerT cols wid (augs rows vs) y ↔ KerT cols 0 rows y := fun y => by
    constructor
    · rintro ⟨h1, h2, h3⟩
      refine ⟨h1, h2, fun r hrm => ?_⟩
      obtain ⟨i, hi⟩ := List.getElem?_of_mem hrm
      obtain ⟨v, hv'⟩ : ∃ v, vs[i]? = some v := ⟨_, List.getElem?_eq_getElem (by have := (List.getElem?_eq_some_iff.1 hi).1; omega)⟩
      have := h3 (r ++ v) (mem_augs.2 ⟨i, r, v, hi, hv', rfl⟩)
      rw [dot_aug y wid (hr r hrm).2, tail_zero wid h2, Nat.xor_zero] at this
      exact this
    · rintro ⟨h1, h2, h3⟩
      refine ⟨h1, h2, fun a ha => ?_⟩
      obtain ⟨i, r, v, hi, hv', rfl⟩ := mem_augs.1 ha
      have hrm := List.mem_of_getElem? hi
      rw [dot_aug y wid (hr r hrm).2, tail_zero wid h2, Nat.xor_zero]
      exact h3 r hrm
  constructor
  · intro k y hy; exact k y ((key y).2 hy)
  · intro k y hy; exact k y ((key y).1 hy)
theorem longest_even {xs : List (List Nat)} {wid : Nat} (h : ∀ x ∈ xs, x.length = wid) : ∀ {k}, 0 < k → k ≤ xs.length → longest xs k = wid
  | 0, h0, _ => absurd h0 (by omega)
  | k + 1, _, hk => by
    simp only [longest]
    have h1 : (xs.getD k []).length = wid := by
      rw [List.getD_eq_getElem?_getD, List.getElem?_eq_getElem (by omega)]
      exact h _ (List.getElem_mem _)
    rw [h1]
    by_cases e : k = 0
    · subst e; simp [longest]
    · rw [longest_even h (by omega) (by omega)]; omega
theorem apply_at {rows xs : List (List Nat)} {cols wid : Nat} (hx : xs.length = cols) (h0 : 0 < cols) (hw : ∀ x ∈ xs, x.length = wid) {i : Nat} {r : List Nat} (hr : rows[i]? = some r) : (applyOf rows xs)[i]? = some (mixTo r xs wid cols) := by
  unfold applyOf
  rw [List.getElem?_map, hr, hx, longest_even hw h0 (by omega)]
  rfl
theorem solT_apply {cols wid : Nat} {rows xs : List (List Nat)} (h0 : 0 < cols) (hx : xs.length = cols) (hr : Rws rows cols) (hw : Rws xs wid) {t : Nat} (ht : t < wid) :
    ∃ y, SolT cols wid (augs rows (applyOf rows xs)) t y ∧ ∀ j, j < cols → y j = (xs.getD j []).getD t 0 := by
  have hb : ∀ j, (xs.getD j []).getD t 0 < 256 := fun j => by
    by_cases hj : j < xs.length
    · have e : xs.getD j [] = xs[j] := by rw [List.getD_eq_getElem?_getD, List.getElem?_eq_getElem hj]; rfl
      rw [e]
      exact (hw _ (List.getElem_mem hj)).1.getD t
    · have e : xs.getD j [] = [] := by rw [List.getD_eq_getElem?_getD, List.getElem?_eq_none (by omega)]; rfl
      rw [e]; simp
  obtain ⟨y, hy⟩ : ∃ y : Nat → Nat, y = fun j => if j < cols then (xs.getD j []).getD t 0 else if j = cols + t then 1 else 0 := ⟨_, rfl⟩
  have y0 : ∀ j, j < cols → y j = (xs.getD j []).getD t 0 := fun j hj => by rw [hy]; simp only [if_pos hj]
  have y1 : ∀ j, y j < 256 := fun j => by
    rw [hy]; simp only
    split
    · exact hb j
    · split <;> decide
  have y2 : y (cols + t) = 1 := by rw [hy]; show (if cols + t < cols then _ else if cols + t = cols + t then 1 else 0) = 1; rw [if_neg (by omega), if_pos rfl]
  have y3 : ∀ u, u < wid → u ≠ t → y (cols + u) = 0 := fun u _ hu => by rw [hy]; simp only; rw [if_neg (by omega), if_neg (by omega)]
  clear hy
  refine ⟨y, ⟨y1, fun a ha => ?_, y2, y3⟩, y0⟩
  obtain ⟨i, r, v, hi, hv, rfl⟩ := mem_augs.1 ha
  have hrm := hr r (List.mem_of_getElem? hi)
  rw [apply_at hx h0 (fun x hx => (hw x hx).2) hi] at hv
  injection hv with hv
  have hvb : v.getD t 0 < 256 := by rw [← hv]; exact (mixTo_bytes hrm.1 _ _ _).getD t
  rw [dot_aug y wid hrm.2, tail_one ht y2 y3 hvb, ← hv, mixTo_getD _ _ _ _ ht, mixAt_xsum]
  have : dot y r cols = xsum (fun i => mul (r.getD i 0) ((xs.getD i []).getD t 0)) cols := by
    unfold dot
    apply xsum_congr
    intro j hj
    rw [y0 j hj]
    exact mul_comm (hb j) (hrm.1.getD j)
  rw [this, Nat.xor_self]
theorem apply_rws {cols wid : Nat} {rows xs : List (List Nat)} (h0 : 0 < cols) (hx : xs.length = cols) (hr : Rws rows cols) (hw : Rws xs wid) : Rws (applyOf rows xs) wid := by
  intro v hv
  obtain ⟨i, hi⟩ := List.getElem?_of_mem hv
  obtain ⟨r, hri⟩ : ∃ r, rows[i]? = some r := ⟨_, List.getElem?_eq_getElem (by have := (List.getElem?_eq_some_iff.1 hi).1; unfold applyOf at this; simpa using this)⟩
  rw [apply_at hx h0 (fun x hx => (hw x hx).2) hri] at hi
  injection hi with hi
  rw [← hi]
  exact ⟨mixTo_bytes (hr r (List.mem_of_getElem? hri)).1 _ _ _, mixTo_length _ _ _ _⟩
/-- what was applied is solved again, if the rank is full. -/
theorem solve_applied {cols wid : Nat} {rows xs : List (List Nat)} (h0 : 0 < cols) (hx : xs.length = cols) (hr : Rws rows cols) (hw : Rws xs wid) :
    solveOut cols rows (applyOf rows xs) = if rankOf cols rows = cols then (xs, 0) else ([], 21) := by
  have hl : (applyOf rows xs).length = rows.length := by unfold applyOf; simp
  have hv := apply_rws h0 hx hr hw
  have hS := says_augs hl hr hv
  have hfa := full_augs hl hr hv
  rw [solveOut_end]
  unfold solveEnd
  by_cases hf : rankOf cols rows = cols
  · have hf' := hfa.2 hf
    rw [if_neg (show ¬ count (sysTo cols (augs rows (applyOf rows xs)) rows.length).1 cols ≠ cols from fun e => e hf'), if_pos hf]
    have hc : ¬ (sysTo cols (augs rows (applyOf rows xs)) rows.length).2 = true := fun e => by
      obtain ⟨t, ht, hn⟩ := no_sol hS e
      obtain ⟨y, hy, _⟩ := solT_apply h0 hx hr hw ht
      exact hn y hy
    rw [if_neg hc]
    congr 1
    refine solved_ext hS.sys hf' hx (fun x hx => (hw x hx).2) (fun c t r x hr' hx' ht => ?_)
    obtain ⟨y, hy, hy0⟩ := solT_apply h0 hx hr hw ht
    have := sol_only hS hf' ht hy hr'
    rw [hy0 c (hS.sys.lt hr')] at this
    have e : xs.getD c [] = x := by rw [List.getD_eq_getElem?_getD, hx']; rfl
    rw [← this, e]
  · rw [if_pos (show count (sysTo cols (augs rows (applyOf rows xs)) rows.length).1 cols ≠ cols from fun e => hf (hfa.1 e)), if_neg hf]
/-- what is solved has the values that were given. -/
theorem solve_told {cols wid : Nat} {rows vs X : List (List Nat)} (h0 : 0 < cols) (hl : vs.length = rows.length) (hr : Rws rows cols) (hv : Rws vs wid) {code : Int} (h : solveOut cols rows vs = (X, code)) (hc : code = 0) :
    X.length = cols ∧ Rws X wid ∧ applyOf rows X = vs := by
  subst hc
  have hS := says_augs hl hr hv
  rw [solveOut_end] at h
  unfold solveEnd at h
  by_cases hf : count (sysTo cols (augs rows vs) rows.length).1 cols = cols
  · rw [if_neg (show ¬ count (sysTo cols (augs rows vs) rows.length).1 cols ≠ cols from fun e => e hf)] at h
    by_cases hcl : (sysTo cols (augs rows vs) rows.length).2 = true
    · rw [if_pos hcl] at h; injection h with _ h; cases h
    · rw [if_neg hcl] at h
      have hcl' : (sysTo cols (augs rows vs) rows.length).2 = false := by simpa using hcl
      injection h with h _
      subst h
      have hX : Rws (solvedBy cols (sysTo cols (augs rows vs) rows.length).1) wid := by
        intro x hx
        obtain ⟨c, hc⟩ := List.getElem?_of_mem hx
        have hcl : c < cols := by have := (List.getElem?_eq_some_iff.1 hc).1; rw [solved_len] at this; exact this
        obtain ⟨r, hr'⟩ := count_full.1 hf c hcl
        rw [solved_at hcl, rowOf_some hr'] at hc
        injection hc with hc
        rw [← hc]
        exact ⟨fun y hy => hS.sys.bytes hr' y (List.mem_of_mem_drop hy), by rw [List.length_drop, hS.sys.len hr']; omega⟩
      refine ⟨solved_len _ _, hX, ?_⟩
      apply List.ext_getElem?
      intro i
      by_cases hi : i < rows.length
      · have hri : rows[i]? = some rows[i] := List.getElem?_eq_getElem hi
        have hvi : vs[i]? = some (vs[i]'(by omega)) := List.getElem?_eq_getElem (by omega)
        have hrm := hr _ (List.getElem_mem hi)
        have hvm := hv _ (List.getElem_mem (show i < vs.length by omega))
        rw [apply_at (solved_len _ _) h0 (fun x hx => (hX x hx).2) hri, hvi]
        congr 1
        apply ext_getD
        · rw [mixTo_length, hvm.2]
        · intro t ht
          rw [mixTo_length] at ht
          rw [mixTo_getD _ _ _ _ ht, mixAt_xsum]
          obtain ⟨y, hsl, hy0⟩ : ∃ y, SolT cols wid (augs rows vs) t y ∧ ∀ j, j < cols → y j = (rowOf (sysTo cols (augs rows vs) rows.length).1 j).getD (cols + t) 0 := ⟨_, sol_of hS hf hcl' ht, fun j hj => by simp only [if_pos hj]⟩
          have := hsl.2.1 _ (mem_augs.2 ⟨i, _, _, hri, hvi, rfl⟩)
          rw [dot_aug _ wid hrm.2, tail_one ht hsl.2.2.1 hsl.2.2.2 (hvm.1.getD t)] at this
          rw [← xor_eq_zero this]
          unfold dot
          apply xsum_congr
          intro j hj
          rw [hy0 j hj]
          obtain ⟨r', hr'⟩ := count_full.1 hf j hj
          rw [List.getD_eq_getElem?_getD (l := solvedBy _ _), solved_at hj, rowOf_some hr']
          simp only [Option.getD_some]
          rw [List.getD_eq_getElem?_getD (l := List.drop _ _), List.getElem?_drop, ← List.getD_eq_getElem?_getD]
          exact mul_comm (hrm.1.getD j) ((hS.sys.bytes hr').getD _)
      · rw [List.getElem?_eq_none (by unfold applyOf; simp; omega), List.getElem?_eq_none (by omega)]
  · rw [if_pos hf] at h; injection h with _ h; cases h
end Go.Proofs.YtfjcbgfgiidogaaDoor
namespace Go.Proofs.YtfjcbgfgiidogaaDoor
open Go.RowKit

theorem solve2_any (ar ax : Option Addr) (hr hx : List HdT) (w : World) (h1 : RowV w ar 2 (hr.map SV)) (h2 : RowsV w hr [[1, 1], [0, 2]]) (h3 : RowV w ax 2 (hx.map SV)) (h4 : RowsV w hx [[3], [4]]) :
    Calls Tryd.prog 86 #[.int .i64 2, .slice ar 2 2, .slice ax 2 2] w (GivesE w [[1], [2]] 0) := by
  have e1 : solveOut 2 [[1, 1], [0, 2]] [[3], [4]] = ([[1], [2]], 0) := by decide +kernel
  have := solve_any 2 ar 2 2 hr [[1, 1], [0, 2]] ax 2 2 hx [[3], [4]] w h1 h2 h3 h4 (by decide) (by decide)
  rw [e1] at this
  exact this
theorem rank2_any (ar : Option Addr) (hr : List HdT) (w : World) (h1 : RowV w ar 2 (hr.map SV)) (h2 : RowsV w hr [[1, 1], [2, 2]]) :
    Calls Tryd.prog 72 #[.int .i64 2, .slice ar 2 2] w fun x w' => x = .returned (.tuple #[.int .i64 1, .int .i64 0]) ∧ Below w.heap.size w w' := by
  have e1 : rankOf 2 [[1, 1], [2, 2]] = 1 := by decide +kernel
  have := rank_any 2 ar 2 2 hr [[1, 1], [2, 2]] w h1 h2 (by decide)
  rw [e1] at this
  exact this
theorem two_lit (w : World) (l1 l2 : List Nat) (n1 n2 : Nat) (h1 : l1.length = n1) (h2 : l2.length = n2) (b1 : Bytes l1) (b2 : Bytes l2) (s1 : n1 ≤ 1000) (s2 : n2 ≤ 1000) (c1 c2 : Array Value) (e1 : c1.toList = l1.map bv) (e2 : c2.toList = l2.map bv) :
    RowV (((w.alloc (.cells c1 5)).alloc (.cells c2 5)).alloc (.cells #[.slice (some ⟨w.heap.size, 0, none⟩) n1 n1, .slice (some ⟨w.heap.size + 1, 0, none⟩) n2 n2] 22)) (some ⟨w.heap.size + 1 + 1, 0, none⟩) 2 ([((some ⟨w.heap.size, 0, none⟩ : Option Addr), n1, n1), ((some ⟨w.heap.size + 1, 0, none⟩ : Option Addr), n2, n2)].map SV) ∧
    RowsV (((w.alloc (.cells c1 5)).alloc (.cells c2 5)).alloc (.cells #[.slice (some ⟨w.heap.size, 0, none⟩) n1 n1, .slice (some ⟨w.heap.size + 1, 0, none⟩) n2 n2] 22)) [((some ⟨w.heap.size, 0, none⟩ : Option Addr), n1, n1), ((some ⟨w.heap.size + 1, 0, none⟩ : Option Addr), n2, n2)] [l1, l2] := by
  refine ⟨rowV_lit _ _ _ _ _ _ (by simp) rfl rfl, rowsV_cons ?_ (rowsV_cons ?_ (rowsV_nil _))⟩
  · exact BytesV.alloc (BytesV.alloc (bytesV_lit w c1 _ _ _ _ rfl e1 h1 b1 (by omega)))
  · exact BytesV.alloc (bytesV_lit _ c2 _ _ _ _ (by simp) e2 h2 b2 (by omega))


/-- what is known where a system isn't too great. -/
def GreatR (rows xs : List (List Nat)) (w : World) (e : Ending) (w' : World) : Prop :=
  ∃ t : Bool, e = .returned (.bool t) ∧ Below w.heap.size w w' ∧ (t = false → rows.length ≤ 300 ∧ xs.length ≤ 300 ∧ ((∀ r ∈ rows, r.length ≤ 128) → ∀ x ∈ xs, x.length ≤ 60000))
def lenSum (ls : List (List Nat)) : Nat → Nat
  | 0 => 0
  | k + 1 => lenSum ls k + (ls.getD k []).length
theorem len_le_sum (ls : List (List Nat)) (i : Nat) : ∀ k, i < k → (ls.getD i []).length ≤ lenSum ls k
  | 0, h => absurd h (Nat.not_lt_zero _)
  | k + 1, h => by
    simp only [lenSum]
    by_cases e : i = k
    · subst e; omega
    · have := len_le_sum ls i k (by omega); omega
theorem lenSum_le (ls : List (List Nat)) (B : Nat) (h : ∀ l ∈ ls, l.length ≤ B) : ∀ k, lenSum ls k ≤ k * B
  | 0 => by simp [lenSum]
  | k + 1 => by
    simp only [lenSum]
    have := lenSum_le ls B h k
    have h2 : (ls.getD k []).length ≤ B := by
      rw [List.getD_eq_getElem?_getD]
      by_cases e : k < ls.length
      · rw [List.getElem?_eq_getElem e]; exact h _ (List.getElem_mem e)
      · rw [List.getElem?_eq_none (by omega)]; simp
    rw [Nat.succ_mul]; omega

end Go.Proofs.YtfjcbgfgiidogaaDoor
namespace Go.Proofs.YtfjcbgfgiidogaaDoor
open Go.RowKit

/-- a slice of rows reads as these lists. -/
def RD (w : World) (a : Option Addr) (n : Nat) (ls : List (List Nat)) : Prop := ls.length = n ∧ ∃ hs, RowV w a n (hs.map SV) ∧ RowsV w hs ls
set_option maxRecDepth 10000 in
theorem RD.below {w w' : World} {a : Option Addr} {n : Nat} {ls : List (List Nat)} (h : RD w a n ls) (hb : Below w.heap.size w w') : RD w' a n ls := by
  obtain ⟨h1, hs, h2, h3⟩ := h
  exact ⟨h1, hs, h2.below hb, h3.below hb⟩
set_option maxRecDepth 10000 in
theorem RD.mem {w : World} {a : Option Addr} {n : Nat} {ls : List (List Nat)} (h : RD w a n ls) : ∀ l ∈ ls, Bytes l ∧ l.length ≤ 140737488355328 := by
  obtain ⟨h1, hs, h2, h3⟩ := h
  exact h3.mem
set_option maxRecDepth 10000 in
theorem RD.nil (w : World) (a : Option Addr) : RD w a 0 [] := ⟨rfl, [], ⟨rfl, fun h => absurd h (by omega)⟩, rowsV_nil _⟩
set_option maxRecDepth 10000 in
theorem rd_of_owns {w : World} {B B' n : Nat} {a : Option Addr} {c : Nat} {hs : List HdT} {ls : List (List Nat)} (h1 : w.ownsRow B 22 1 (.slice a n c) n (hs.map SV)) (h2 : OwnsRows w B' 5 hs ls) (hb : ∀ l ∈ ls, Bytes l ∧ l.length ≤ 140737488355328) : RD w a n ls := by
  have hn : ls.length = n := by rw [← h2.1]; have := h1.1; simpa using this
  refine ⟨hn, hs, ?_, h2.rowsV hb⟩
  obtain ⟨_, _, e, _, _, _, k⟩ := ownsRow_parts h1
  cases e
  exact k
set_option maxRecDepth 10000 in
theorem copyRows_rd (a : Option Addr) (n c : Nat) (ls : List (List Nat)) (w : World) (h : RD w a n ls) (hn : n ≤ 1000) :
    Calls Tryd.prog 120 #[.slice a n c] w fun e w' => ∃ a' c', e = .returned (.slice a' n c') ∧ RD w' a' n ls ∧ Below w.heap.size w w' := by
  have hb := h.mem
  obtain ⟨h1, hs, h2, h3⟩ := h
  subst h1
  exact (copyRows_any a _ c hs ls w h2 (by omega) h3).mono fun e w' ⟨ad, cap, hs', he, ho, hO, hbl⟩ => ⟨ad, cap, he, rd_of_owns ho hO hb, hbl⟩
set_option maxRecDepth 10000 in
theorem sameRows_rd (a1 : Option Addr) (n1 c1 : Nat) (l1 : List (List Nat)) (a2 : Option Addr) (n2 c2 : Nat) (l2 : List (List Nat)) (w : World) (h1 : RD w a1 n1 l1) (h2 : RD w a2 n2 l2) (hn : n1 ≤ 1000) :
    Calls Tryd.prog 22 #[.slice a1 n1 c1, .slice a2 n2 c2] w fun e w' => e = .returned (.bool (decide (l1 = l2))) ∧ Below w.heap.size w w' := by
  obtain ⟨_, hs1, v1, r1⟩ := h1
  obtain ⟨_, hs2, v2, r2⟩ := h2
  exact sameRows_any a1 n1 c1 hs1 l1 a2 n2 c2 hs2 l2 w v1 r1 v2 r2 (by omega)
/-- what Rank, Apply and Solve answer. -/
def rankR (cols : Int) (rows : List (List Nat)) : Nat × Int := if rightB cols rows = true then (rankOf cols.toNat rows, 0) else (0, 20)
def applyR (cols : Int) (rows xs : List (List Nat)) : List (List Nat) × Int := if applyOK cols rows xs = true then (applyOf rows xs, 0) else ([], 20)
def solveR (cols : Int) (rows vs : List (List Nat)) : List (List Nat) × Int := if solveOK cols rows vs = true then solveOut cols.toNat rows vs else ([], 20)
set_option maxRecDepth 10000 in
theorem right_pos {cols : Int} {rows : List (List Nat)} (h : rightB cols rows = true) : cols = (cols.toNat : Int) := by
  obtain ⟨h1, _⟩ := rightB_iff.1 h
  omega
set_option maxRecDepth 10000 in
theorem rank_rd (cols : Int) (a : Option Addr) (n c : Nat) (rows : List (List Nat)) (w : World) (h : RD w a n rows) (hn : n ≤ 1000) :
    Calls Tryd.prog 72 #[.int .i64 cols, .slice a n c] w fun e w' => e = .returned (.tuple #[.int .i64 ((rankR cols rows).1 : Int), .int .i64 (rankR cols rows).2]) ∧ Below w.heap.size w w' := by
  obtain ⟨h1, hs, h2, h3⟩ := h
  unfold rankR
  by_cases hB : rightB cols rows = true
  · rw [if_pos hB]
    have hc := right_pos hB
    generalize cols.toNat = k at hc ⊢
    subst hc
    exact rank_any k a n c hs rows w h2 h3 hB
  · rw [if_neg hB]
    exact rank_bad cols a n c hs rows w h2 (by omega) h3 (by simpa using hB)
/-- rows and an error, as the laws use them. -/
def GivesR (w : World) (o : List (List Nat) × Int) (e : Ending) (w' : World) : Prop := ∃ a c, e = .returned (.tuple #[.slice a o.1.length c, .int .i64 o.2]) ∧ RD w' a o.1.length o.1 ∧ Below w.heap.size w w'
set_option maxRecDepth 10000 in
theorem GivesE.R {w w' : World} {out : List (List Nat)} {code : Int} {e : Ending} (h : GivesE w out code e w') : GivesR w (out, code) e w' := by
  obtain ⟨a, c, hs, he, h1, h2, h3⟩ := h
  exact ⟨a, c, he, ⟨rfl, hs, h1, h2⟩, h3⟩
set_option maxRecDepth 10000 in
theorem apply_rd (cols : Int) (ar : Option Addr) (nr cr : Nat) (rows : List (List Nat)) (ax : Option Addr) (nx cx : Nat) (xs : List (List Nat)) (w : World) (h : RD w ar nr rows) (k : RD w ax nx xs) (hn : nr ≤ 1000) (hx : nx ≤ 1000) :
    Calls Tryd.prog 68 #[.int .i64 cols, .slice ar nr cr, .slice ax nx cx] w (GivesR w (applyR cols rows xs)) := by
  obtain ⟨_, hs, h2, h3⟩ := h
  obtain ⟨_, ks, k2, k3⟩ := k
  unfold applyR
  by_cases hB : applyOK cols rows xs = true
  · rw [if_pos hB]
    have hR : rightB cols rows = true := by unfold applyOK at hB; simp only [Bool.and_eq_true] at hB; exact hB.1
    have hc := right_pos hR
    generalize cols.toNat = m at hc
    subst hc
    exact (apply_any m ar nr cr hs rows ax nx cx ks xs w h2 h3 k2 k3 hB).mono fun _ _ h => h.R
  · rw [if_neg hB]
    exact (apply_bad cols ar nr cr hs rows ax nx cx ks xs w h2 h3 k2 k3 (by omega) (by omega) (by simpa using hB)).mono fun _ _ h => h.R
set_option maxRecDepth 10000 in
theorem solve_rd (cols : Int) (ar : Option Addr) (nr cr : Nat) (rows : List (List Nat)) (ax : Option Addr) (nx cx : Nat) (xs : List (List Nat)) (w : World) (h : RD w ar nr rows) (k : RD w ax nx xs) (hn : nr ≤ 1000) (hx : nx ≤ 1000) (hw : rightB cols rows = true → widthB xs ≤ 100000) :
    Calls Tryd.prog 86 #[.int .i64 cols, .slice ar nr cr, .slice ax nx cx] w (GivesR w (solveR cols rows xs)) := by
  obtain ⟨_, hs, h2, h3⟩ := h
  obtain ⟨_, ks, k2, k3⟩ := k
  unfold solveR
  by_cases hB : solveOK cols rows xs = true
  · rw [if_pos hB]
    have hR : rightB cols rows = true := by unfold solveOK at hB; simp only [Bool.and_eq_true] at hB; exact hB.1
    have hw' := hw hR
    have hc := right_pos hR
    generalize cols.toNat = m at hc ⊢
    subst hc
    exact (solve_any m ar nr cr hs rows ax nx cx ks xs w h2 h3 k2 k3 hB hw').mono fun _ _ h => h.R
  · rw [if_neg hB]
    exact (solve_bad cols ar nr cr hs rows ax nx cx ks xs w h2 h3 k2 k3 (by omega) (by omega) (by simpa using hB)).mono fun _ _ h => h.R
/-! what the shapes say -/
theorem right_rws {cols : Int} {rows : List (List Nat)} (h : rightB cols rows = true) (hb : ∀ l ∈ rows, Bytes l ∧ l.length ≤ 140737488355328) : Rws rows cols.toNat ∧ 0 < cols.toNat ∧ cols.toNat ≤ 128 ∧ rows.length ≤ 256 ∧ ∀ r ∈ rows, r.length ≤ 128 := by
  obtain ⟨h1, h2, h3, h4⟩ := rightB_iff.1 h
  exact ⟨fun r hr => ⟨(hb r hr).1, by have := h4 r hr; omega⟩, by omega, by omega, h3, fun r hr => by have := h4 r hr; omega⟩
set_option maxRecDepth 10000 in
theorem even_rws {xs : List (List Nat)} (h : evenB xs (widthB xs : Nat) = true) (hb : ∀ l ∈ xs, Bytes l ∧ l.length ≤ 140737488355328) : Rws xs (widthB xs) := fun x hx => ⟨(hb x hx).1, by have := evenB_iff.1 h x hx; omega⟩
set_option maxRecDepth 10000 in
theorem width_rws {xs : List (List Nat)} {n : Nat} (h : Rws xs n) (h0 : 0 < xs.length) : widthB xs = n := by
  unfold widthB
  rw [List.getD_eq_getElem?_getD, List.getElem?_eq_getElem h0]
  exact (h _ (List.getElem_mem h0)).2
set_option maxRecDepth 10000 in
theorem width_le {xs : List (List Nat)} {B : Nat} (h : ∀ x ∈ xs, x.length ≤ B) : widthB xs ≤ B := by
  unfold widthB
  by_cases h0 : 0 < xs.length
  · rw [List.getD_eq_getElem?_getD, List.getElem?_eq_getElem h0]
    exact h _ (List.getElem_mem h0)
  · rw [List.getD_eq_getElem?_getD, List.getElem?_eq_none (by omega)]; simp
set_option maxRecDepth 10000 in
theorem even_of_rws {xs : List (List Nat)} {n : Nat} (h : Rws xs n) : evenB xs (widthB xs : Nat) = true := evenB_iff.2 fun x hx => by
  have h1 := (h x hx).2
  have h2 := width_rws h (by have := List.length_pos_of_mem hx; exact this)
  omega
set_option maxRecDepth 10000 in
theorem applyOK_iff {cols : Int} {rows xs : List (List Nat)} : applyOK cols rows xs = true ↔ rightB cols rows = true ∧ (xs.length : Int) = cols ∧ evenB xs (widthB xs : Nat) = true := by
  unfold applyOK
  simp only [Bool.and_eq_true, decide_eq_true_iff]
set_option maxRecDepth 10000 in
theorem solveOK_iff {cols : Int} {rows xs : List (List Nat)} : solveOK cols rows xs = true ↔ rightB cols rows = true ∧ xs.length = rows.length ∧ evenB xs (widthB xs : Nat) = true := by
  unfold solveOK
  simp only [Bool.and_eq_true, decide_eq_true_iff]
set_option maxRecDepth 10000 in
theorem rank_le {cols : Nat} {rows : List (List Nat)} (h : Rws rows cols) : rankOf cols rows ≤ cols ∧ rankOf cols rows ≤ rows.length := ⟨count_le _ _, count_to_n cols h _⟩
set_option maxRecDepth 10000 in
theorem solve_kinds (cols : Int) (rows vs : List (List Nat)) : (solveR cols rows vs).2 = 0 ∨ ((solveR cols rows vs).1 = [] ∧ ((solveR cols rows vs).2 = 20 ∨ (solveR cols rows vs).2 = 21 ∨ (solveR cols rows vs).2 = 22)) := by
  unfold solveR
  split
  · rw [solveOut_end]
    unfold solveEnd
    split
    · exact .inr ⟨rfl, .inr (.inl rfl)⟩
    · split
      · exact .inr ⟨rfl, .inr (.inr rfl)⟩
      · exact .inl rfl
  · exact .inr ⟨rfl, .inl rfl⟩
end Go.Proofs.YtfjcbgfgiidogaaDoor
