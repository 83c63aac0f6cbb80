/-
  lin: an equation worked off.
-/
import Derived.Test.YtgnnfpnkhemimaaLiS
import Derived.Deep.AppendLies
import Derived.Deep.RegionLaw
namespace Go.Proofs.Ytgnnfpnkhemimaa
open Go.RowKit

theorem sys_add {cols L : Nat} {f : Wk} (h : Sys cols L f) {eq : List Nat} (hb : Bytes eq) (hl : eq.length = L) (hc : cols ≤ L) (cl : Bool) : Sys cols L (addEq cols (f, cl) eq).1 := by
  have h1 : Says cols L ((List.range cols).filterMap f) (f, false) := by
    refine ⟨h, fun y _ k c r hr => k r ?_, fun y _ _ k r hr => ?_, fun e => (by cases e)⟩
    · exact List.mem_filterMap.2 ⟨c, by simpa using h.lt hr, hr⟩
    · obtain ⟨c, _, hr⟩ := List.mem_filterMap.1 hr
      exact k c r hr
  have h2 := (h1.add hb hl hc).sys
  unfold addEq at h2 ⊢
  simp only at h2 ⊢
  split at h2
  · rename_i e; rw [if_pos e]; exact h2
  · rename_i e; rw [if_neg e]; exact h2
theorem f2_start (f : Wk) (l : Nat) (e : List Nat) (left : Nat → Bool) (h : ∀ c r, f c = some r → left c = true) : f2 f l e left = f := by
  funext c
  unfold f2
  cases hc : f c with
  | none => rfl
  | some r => simp [h c r hc]
theorem f2_end (f : Wk) (l : Nat) (e : List Nat) (left : Nat → Bool) (h : ∀ c, left c = false) (c : Nat) : f2 f l e left c = (f c).map fun r => addTo r (r.getD l 0) e := by
  unfold f2
  simp [h]
theorem f2_at {f : Wk} {l : Nat} {e : List Nat} {left : Nat → Bool} {z : Nat} {r : List Nat} (h : f2 f l e left z = some r) (hl : left z = true) : f z = some r := by
  unfold f2 at h
  obtain ⟨r0, h1, h2⟩ := Option.map_eq_some_iff.1 h
  rw [hl] at h2
  simp only [if_true] at h2
  rw [← h2]; exact h1
theorem rows_step {w : World} {f : Wk} {l L z : Nat} {e r : List Nat} {left : Nat → Bool} {hd : Nat → Option HdT} {x : HdT} (h : RowsOK w (f2 f l e left) hd L) (hz : f z = some r) (hx : BytesV w x (addTo r (r.getD l 0) e)) (hL : x.2.1 = L) :
    RowsOK w (f2 f l e (fun y => left y && !(y == z))) (fun y => if y = z then some x else hd y) L := by
  have same : ∀ c, c ≠ z → f2 f l e (fun y => left y && !(y == z)) c = f2 f l e left c := fun c hc => by
    have : (c == z) = false := by simpa using hc
    unfold f2
    simp [this]
  refine ⟨fun c r' hc => ?_, fun c hc => ?_⟩
  · by_cases e1 : c = z
    · subst e1
      refine ⟨x, if_pos rfl, hL, ?_⟩
      unfold f2 at hc
      rw [hz] at hc
      simp at hc
      rw [← hc]
      exact hx
    · rw [same c e1] at hc
      obtain ⟨y, h1, h2, h3⟩ := h.1 c r' hc
      exact ⟨y, by simp only [if_neg e1]; exact h1, h2, h3⟩
  · by_cases e1 : c = z
    · subst e1
      unfold f2 at hc
      rw [hz] at hc
      simp at hc
    · rw [same c e1] at hc
      simp only [if_neg e1]
      exact h.2 c hc
theorem rows_new {w : World} {f : Wk} {l L : Nat} {e : List Nat} {left : Nat → Bool} {hd : Nat → Option HdT} {x : HdT} (h : RowsOK w (f2 f l e left) hd L) (hl : ∀ c, left c = false) (hx : BytesV w x e) (hL : x.2.1 = L) :
    RowsOK w (fun c => if c = l then some e else (f c).map fun r => addTo r (r.getD l 0) e) (fun y => if y = l then some x else hd y) L := by
  refine ⟨fun c r' hc => ?_, fun c hc => ?_⟩
  · by_cases e1 : c = l
    · subst e1
      simp only [if_true] at hc
      injection hc with hc
      subst hc
      exact ⟨x, if_pos rfl, hL, hx⟩
    · simp only [if_neg e1] at hc
      rw [← f2_end f l e left hl] at hc
      obtain ⟨y, h1, h2, h3⟩ := h.1 c r' hc
      exact ⟨y, by simp only [if_neg e1]; exact h1, h2, h3⟩
  · by_cases e1 : c = l
    · simp [e1] at hc
    · simp only [if_neg e1] at hc ⊢
      rw [← f2_end f l e left hl] at hc
      exact h.2 c hc
theorem invL (k : Nat) (w : World) (h0 : 0 < k) (h1 : k < 256) : Calls Try.prog 43 #[.int .u8 (k : Int)] w fun e w' => e = .returned (.tuple #[.int .u8 (inv k : Nat), .int .i64 0]) ∧ w = w' := inv_pos k w (by omega) (by omega)

theorem BytesV.keptBox {w w' : World} {x : HdT} {l : List Nat} {g : Nat} {v0 v1 : Int} {m : Option Nat} {t : Bool} {T : TypeId} (h : BytesV w x l) (hb : w.heap[g]? = some (.cells #[.int .i64 v0, .int .i64 v1, .map m, .bool t] T (0, 0))) (hg : w.grownBy w' (some g)) : BytesV w' x l := by
  refine ⟨h.row.kept' fun hl a ha => ?_, h.bytes, h.small, h.cap, h.nil⟩
  obtain ⟨b, off, e, hc⟩ := h.row.2 hl
  have h0 := hc 0 hl
  rw [bv_getD (by rw [h.length]; exact hl)] at h0
  rw [e] at ha
  cases ha
  refine hg.block b (block_lt_of_cell h0) (fun e2 => ?_)
  injection e2 with e2
  subst e2
  unfold World.cell? at h0
  rw [hb] at h0
  simp only at h0
  match off, h0 with
  | 0, h0 => simp at h0
  | 1, h0 => simp at h0
  | 2, h0 => simp at h0
  | 3, h0 => simp at h0
  | k + 4, h0 => simp at h0
theorem RowsOK.keptBox {w w' : World} {f : Wk} {hd : Nat → Option HdT} {L g : Nat} {v0 v1 : Int} {m : Option Nat} {t : Bool} {T : TypeId} (h : RowsOK w f hd L) (hb : w.heap[g]? = some (.cells #[.int .i64 v0, .int .i64 v1, .map m, .bool t] T (0, 0))) (hg : w.grownBy w' (some g)) : RowsOK w' f hd L :=
  ⟨fun c r hc => by obtain ⟨x, h1, h2, h3⟩ := h.1 c r hc; exact ⟨x, h1, h2, h3.keptBox hb hg⟩, h.2⟩
theorem grown_set4 (w : World) (g i : Nat) (v : Value) : w.grownBy (w.setCell ⟨g, i, none⟩ v) (some g) :=
  ⟨rfl, rfl, rfl, by simp [World.setCell], fun k _ hn => heap_setCell_other _ ⟨g, i, none⟩ k _ (fun e => hn (by rw [e]))⟩
theorem sys_clash {w0 w : World} {g gm cols wid L : Nat} {f : Wk} {cl : Bool} {hd : Nat → Option HdT} {cnt : Nat} (hL : L = cols + wid) (hM : MapH w gm hd cnt) (hc : cnt = count f cols) (hR : RowsOK w f hd L) (hB : w.heap[g]? = some (.cells #[.int .i64 (cols : Int), .int .i64 (wid : Int), .map (some gm), .bool cl] ST (0, 0))) (hBs : Below w0.heap.size w0 w) (hg : w0.heap.size ≤ g) (hm : w0.heap.size ≤ gm) (hS : Sys cols L f) (t : Bool) :
    SysV w0 (w.setCell ⟨g, 3, none⟩ (.bool t)) g gm cols wid (f, t) hd := by
  subst hL hc
  have hk := grown_set4 w g 3 (.bool t)
  have hR' := hR.keptBox hB hk
  exact ⟨heap_setCell_same _ _ 3 _ _ _ hB, hM.kept hk (fun e => by injection e with e; subst e; exact hM.noCells _ _ _ hB), hR'.1, hR'.2, hS, hBs.setCell (p := ⟨g, 3, none⟩) hg _, hg, hm⟩

/-- the store of a round. -/
theorem put_here_run {w : World} {b r : Nat} {f : Nat → Option HdT} {left : Nat → Bool} {cnt k : Nat} (h : RangeH w b r f left cnt k) (c : Nat) (old hd : HdT) (hc : c < 1000000) (hold : f c = some old) :
    ∃ w', (Instr.mapUpdate 48 (.map (some b)) (.int .i64 (c : Int)) (.slice hd.1 hd.2.1 hd.2.2)).run Try.prog w = .ok () w' ∧ RangeH w' b r (fun z => if z = c then some hd else f z) left cnt k ∧ w.grownBy w' (some b) ∧ w'.heap.size = w.heap.size := by
  obtain ⟨D, lf, hr, hs, hR, hl1, hl2⟩ := h
  obtain ⟨w', hrun, r1, r2, r3⟩ := ranges_put hr klaw Try.underlying48 (key := .int .i64 (c : Int)) (val := .slice hd.1 hd.2.1 hd.2.2) (d := .held hd) (ps := []) (key_of hc) rfl (hR.has hold)
  refine ⟨w', hrun, ⟨_, lf, r1, ?_, hR.put hr.owns.isMap c hd, hl1, fun z hz => ?_⟩, r2, r3⟩
  · rw [Maps.size_put (hr.owns.tidy klaw), hR.has hold]
    simpa using hs
  · by_cases e : z = c
    · exact ⟨hd, by simp [e]⟩
    · obtain ⟨x, hx'⟩ := hl2 z hz
      exact ⟨x, by simp only [if_neg e]; exact hx'⟩

set_option maxRecDepth 100000 in
set_option maxHeartbeats 8000000 in
theorem sysAdd_any (w0 : World) (g gm cols wid : Nat) (f : Wk) (cl : Bool) (hd : Nat → Option HdT) (a : Option Addr) (c : Nat) (eq : List Nat) (w : World) (h : SysV w0 w g gm cols wid (f, cl) hd) (hx : BytesV w (a, cols + wid, c) eq) (hc0 : 0 < cols) (hc1 : cols ≤ 128) (hw : wid ≤ 1000000) :
    Calls Try.prog 29 #[.pointer (some ⟨g, 0, none⟩), .slice a (cols + wid) c] w fun e w' => e = .returned (.tuple #[]) ∧ ∃ hd', SysV w0 w' g gm cols wid (addEq cols (f, cl) eq) hd' := by
  have hS := h.sys
  have hM := h.map
  have hrows : RowsOK w f hd (cols + wid) := ⟨h.rows, h.free⟩
  have hbox := h.box
  have hbase := h.base
  have hgb := h.gb
  have hmb := h.mb
  have hle : eq.length = cols + wid := hx.length
  have hcnt := count_le f cols
  simp only at hS hM hbox
  unfold ST at hbox
  clear h
  obtain ⟨L, hL⟩ : ∃ L, L = cols + wid := ⟨_, rfl⟩
  rw [← hL] at hS hrows hx hle ⊢
  have hcL : cols ≤ L := by omega
  have hLm : L ≤ 1000128 := by omega
  have HLL := Lib.hid hL
  have HLE := Lib.hid hle
  have HS := Lib.hid hS
  have HEB := Lib.hid hx.bytes
  clear hL hle hS
  obtain ⟨cnt, hcn⟩ : ∃ cnt, cnt = count f cols := ⟨_, rfl⟩
  rw [← hcn] at hM hcnt
  have HCN := Lib.hid hcn
  clear hcn
  obtain ⟨p0, p1, p2, p3, pF⟩ := box4_cells hbox
  go_enter Try.func29, Try.ntmps29
  go_wp2_with (first | (at_range; refine Hid.out ?_))
  refine Lib.hid ?_
  refine wpList_range_h _ rfl _ rfl gm hd cnt rfl hM ?_
  intro w1 hr1 hg1 hs1
  have hb1 := grown_none hg1
  have hx1 := hx.below hb1
  have hrows1 := hrows.below hb1
  have hbox1 := box_below' hbox hb1
  have hbase1 := hbase.trans (hb1.mono hbase.size)
  have hst := seenP_start f eq hd hrows.isSome cols
  obtain ⟨r, hr⟩ : ∃ r, r = w.heap.size := ⟨_, rfl⟩
  rw [← hr] at hr1 ⊢
  have hrb : w0.heap.size ≤ r := by rw [hr]; exact hbase.size
  have HX1 : Hid (BytesV w1 (a, L, c) (clr f eq (seenP f (fun c => (hd c).isSome)) cols)) := by rw [hst]; exact hx1
  clear hr hs1 hg1 hb1 hx hrows hbox hbase hst hM hx1 p0 p1 p2 p3 pF
  go_frame
  go_wp2_with fail
  go_loopw [1] (fun v wr => ∃ (left : Nat → Bool) (m : Nat) (a' : Option Addr) (c' : Nat), v = .slice a' L c' ∧ RangeH wr gm r hd left cnt m ∧ BytesV wr (a', L, c') (clr f eq (seenP f left) cols) ∧ RowsOK wr f hd L ∧ wr.heap[g]? = some (.cells #[.int .i64 (cols : Int), .int .i64 (wid : Int), .map (some gm), .bool cl] 50 (0, 0)) ∧ Below w0.heap.size w0 wr) (fun _ wr => wr.rangeLeft gm r)
  case atStart => exact ⟨_, _, a, c, rfl, hr1, HX1.out, hrows1, hbox1, hbase1⟩
  case round =>
    clear hr1 HX1 hrows1 hbox1 hbase1
    obtain ⟨left, m, a', c', rfl, hr, hX, hR, hB, hBs⟩ := hrel
    have HRQ := Lib.hid hr
    go_wp2_with (first | (at_next; refine Hid.out ?_))
    refine Lib.hid ?_
    refine wpList_next_h _ rfl _ rfl gm r hd left cnt m rfl hr (fun h0 hl => ?_) (fun z x w2 m2 hfz hlz hr2 hlt hg2 hsz2 hen => ?_)
    · have hX0 : BytesV wr (a', L, c') (clrAll f eq cols) := by rw [← seenP_end f eq left hl]; exact hX
      have hM := hr.map
      have hz0 : ∀ z rz, f z = some rz → (clrAll f eq cols).getD z 0 = 0 := fun z rz hz => clrAll_zero HS.out HEB.out hz (by rw [HLE.out]; exact hcL)
      have hlen0 : (clrAll f eq cols).length = L := by unfold clrAll; rw [clr_length]; exact HLE.out
      have hadd : addEq cols (f, cl) eq = addEq cols (f, cl) eq := rfl
      conv at hadd => rhs; unfold addEq
      simp only at hadd
      have hsys := sys_add HS.out HEB.out HLE.out hcL cl
      obtain ⟨e0, he0⟩ : ∃ e0, e0 = clrAll f eq cols := ⟨_, rfl⟩
      rw [← he0] at hX0 hz0 hlen0 hadd
      have HADD := Lib.hid hadd
      have HSY := Lib.hid hsys
      have HZ := Lib.hid hz0
      have HL0 := Lib.hid hlen0
      clear hadd hsys hz0 hlen0 he0 hX hl h0 hr HRQ
      obtain ⟨p0, p1, p2, p3, pF⟩ := box4_cells hB
      have hll := lead_le (cols := cols) (e := e0) (by rw [HL0.out]; exact hcL)
      have hlne := fun h => lead_ne (cols := cols) (e := e0) (by rw [HL0.out]; exact hcL) h
      have KL := lead_any cols wid a' L c' e0 wr hX0 hc0 hcL (by omega)
      obtain ⟨l, hl⟩ : ∃ l, l = lead cols e0 := ⟨_, rfl⟩
      rw [← hl] at KL hll hlne HADD
      have HLN := Lib.hid hlne
      clear hl hlne
      go_wp2_with fail
      (with_reducible refine KL.mono ?_)
      rintro e w2 ⟨rfl, b2⟩
      have hX2 := hX0.below b2
      have hM2 := hM.below b2
      have hR2 := hR.below b2
      have hB2 := box_below' hB b2
      have hBs2 := hBs.trans (b2.mono hBs.size)
      clear KL hX0 hM hR hB hBs b2 p0 p1 p2 p3 pF
      obtain ⟨p0, p1, p2, p3, pF⟩ := box4_cells hB2
      by_cases hlc : l = cols
      · subst hlc
        have hA := HADD.out
        rw [if_pos rfl] at hA
        have hend := fun t => sys_clash HLL.out hM2 HCN.out hR2 hB2 hBs2 hgb hmb HS.out t
        have HA := Lib.hid hA
        have HEND := Lib.hid hend
        clear hA HADD hend
        have KC := containsMore_any a' L c' e0 w2 hX2
        generalize e0.any (· != 0) = t at KC HA
        cases cl with
        | true =>
          go_wp2
          exact bodyPost_ret (v := .tuple #[]) (results_none rfl _ _ _) rfl ⟨rfl, hd, by rw [HA.out]; exact HEND.out true⟩
        | false =>
          go_wp2_with fail
          (with_reducible refine KC.mono ?_)
          rintro e w3 ⟨rfl, rfl⟩
          go_wp2
          exact bodyPost_ret (v := .tuple #[]) (results_none rfl _ _ _) rfl ⟨rfl, hd, by rw [HA.out]; exact HEND.out t⟩
      · have hlt : l < cols := by omega
        have hA := HADD.out
        rw [if_neg hlc] at hA
        have HA := Lib.hid hA
        clear hA HADD
        have hk0 := HLN.out hlt
        have hkb := hX2.bytes.getD l
        obtain ⟨b, off, rfl, hcl⟩ := hX2.row.2 (show 0 < L by omega)
        have hce := hcl l (show l < L by omega)
        rw [bv_getD (by rw [HL0.out]; omega)] at hce
        have hfl : f l = none := by
          cases hf : f l with
          | none => rfl
          | some r => exact absurd (HZ.out l r hf) hk0
        obtain ⟨k, hk⟩ : ∃ k, k = e0.getD l 0 := ⟨_, rfl⟩
        rw [← hk] at hk0 hkb hce HA
        have HFL := Lib.hid hfl
        have KS := scale_any (inv k) _ L c' e0 w2 (inv_lt k) hX2
        have hsl : (scaleB (inv k) e0).length = L := by rw [scaleB_length]; exact HL0.out
        have hsb : Bytes (scaleB (inv k) e0) := scaleB_bytes (inv_lt k)
        have hse : e0.map (mul (inv k)) = scaleB (inv k) e0 := rfl
        rw [hse] at HA
        obtain ⟨e, he⟩ : ∃ e, e = scaleB (inv k) e0 := ⟨_, rfl⟩
        rw [← he] at KS hsl hsb HA
        have HSL := Lib.hid hsl
        have HSB := Lib.hid hsb
        clear hcl hk hfl hsl hsb he hse hll hlc
        have KI := fun w => invL k w (by omega) hkb
        go_wp2_with fail
        (with_reducible refine (KI _).mono ?_)
        rintro x w3 ⟨rfl, rfl⟩
        go_wp2_with fail
        (with_reducible refine KS.mono ?_)
        rintro x w4 ⟨ae, ce, rfl, o4, b4⟩
        rw [HSL.out] at o4 ⊢
        have hE4 := bytesV_of_owns o4 HSB.out (by omega)
        have hM4 := hM2.below b4
        have hR4 := hR2.below b4
        have hB4 := box_below' hB2 b4
        have hBs4 := hBs2.trans (b4.mono hBs2.size)
        clear KI KS hX2 hM2 hR2 hB2 hBs2 o4 b4 hce p0 p1 p2 p3 pF
        obtain ⟨p0, p1, p2, p3, pF⟩ := box4_cells hB4
        go_wp2_with (first | (at_range; refine Hid.out ?_))
        refine Lib.hid ?_
        refine wpList_range_h _ rfl _ rfl gm hd cnt rfl hM4 ?_
        intro w5 hr5 hg5 hs5
        have hb5 := grown_none hg5
        have hE5 := hE4.below hb5
        have hR5 := hR4.below hb5
        have hB5 := box_below' hB4 hb5
        have hBs5 := hBs4.trans (hb5.mono hBs4.size)
        obtain ⟨r2, hr2⟩ : ∃ r, r = w4.heap.size := ⟨_, rfl⟩
        rw [← hr2] at hr5 ⊢
        have hrb2 : w0.heap.size ≤ r2 := by rw [hr2]; exact hBs4.size
        have hR5' : RowsOK w5 (f2 f l e (fun c => (hd c).isSome)) hd L := by
          rw [f2_start f l e _ (fun c r hc => by rw [hR5.isSome, hc]; rfl)]
          exact hR5
        clear hr2 hs5 hg5 hb5 hE4 hM4 hR4 hB4 hBs4 hR5 p0 p1 p2 p3 pF
        go_frame
        go_wp2_with fail
        go_loopw [9] (fun _ wr => ∃ (left : Nat → Bool) (m : Nat) (hd2 : Nat → Option HdT), RangeH wr gm r2 hd2 left cnt m ∧ BytesV wr (ae, L, ce) e ∧ RowsOK wr (f2 f l e left) hd2 L ∧ wr.heap[g]? = some (.cells #[.int .i64 (cols : Int), .int .i64 (wid : Int), .map (some gm), .bool cl] 50 (0, 0)) ∧ Below w0.heap.size w0 wr) (fun _ wr => wr.rangeLeft gm r2)
        case atStart => exact ⟨_, _, hd, hr5, hE5, hR5', hB5, hBs5⟩
        case round =>
          clear hr5 hE5 hR5' hB5 hBs5
          obtain ⟨left, m, hd2, hr, hE, hR, hB, hBs⟩ := hrel
          have HRQ := Lib.hid hr
          go_wp2_with (first | (at_next; refine Hid.out ?_))
          refine Lib.hid ?_
          refine wpList_next_h _ rfl _ rfl gm r2 hd2 left cnt m rfl hr (fun h0 hl => ?_) (fun z x w6 m6 hfz hlz hr6 hlt6 hg6 hsz6 hen => ?_)
          · have hM := hr.map
            have hln : hd2 l = none := hR.2 l (by unfold f2; rw [HFL.out]; rfl)
            have hRn := fun w' (hg : wr.grownBy w' (some gm)) => rows_new (x := (ae, L, ce)) (hR.keptQ hg hM.noCells) hl (hE.keptQ hg hM.noCells) rfl
            have HRN := Lib.hid hRn
            obtain ⟨p0, p1, p2, p3, pF⟩ := box4_cells hB
            clear hl h0 HRQ hr hR
            go_wp2_with (first | (at_mapUpdate; refine Hid.out ?_))
            refine Lib.hid ?_
            refine wpList_put_new_h _ rfl _ _ _ rfl gm hd2 cnt rfl hM l (ae, L, ce) rfl rfl (by omega) (by omega) hln ?_
            intro w7 hM7 hg7
            have hB7 := box_keptQ hB hg7 hM.noCells
            have hBs7 := below_grown hBs hg7 (fun k hk => by injection hk with hk; omega)
            have hR7 := HRN.out w7 hg7
            have hfin : SysV w0 w7 g gm cols wid (fun c => if c = l then some e else (f c).map fun r => addTo r (r.getD l 0) e, cl) (fun z => if z = l then some (ae, L, ce) else hd2 z) := by
              have hcn : count (fun c => if c = l then some e else (f c).map fun r => addTo r (r.getD l 0) e) cols = cnt + 1 := by
                rw [count_new (f := f) HFL.out (by simp) (fun c hc => by simp [hc]) hlt, HCN.out]
              refine ⟨hB7, by rw [hcn]; exact hM7, by rw [← HLL.out]; exact hR7.1, hR7.2, ?_, hBs7, hgb, hmb⟩
              have := HSY.out
              rw [HA.out] at this
              rw [← HLL.out]
              exact this
            have HFIN := Lib.hid hfin
            clear hfin hR7 hM7 hg7 hM hE hB hBs HRN hln p0 p1 p2 p3 pF
            go_wp2
            exact bodyPost_end (results_none rfl _ _ _) rfl ⟨rfl, _, by rw [HA.out]; exact HFIN.out⟩
          · have hq := hr.noCells
            have hE6 := hE.keptQ hg6 hq
            have hR6 := hR.keptQ hg6 hq
            have hB6 := box_keptQ hB hg6 hq
            have hBs6 := below_grown hBs hg6 (fun k hk => by injection hk with hk; omega)
            obtain ⟨rz, hrz, hxL, hXz⟩ := hR6.at hfz
            have hfz' := f2_at hrz hlz
            have hzc := HS.out.lt hfz'
            obtain ⟨xa, xn, xc⟩ := x
            simp only at hxL hen
            subst hxL
            obtain ⟨p0, p1, p2, p3, pF⟩ := box4_cells hB6
            have HFZ := Lib.hid hfz'
            have HFZ2 := Lib.hid hfz
            have KW := fun w' h1 h2 => without_any l xa xc ae ce xn rz e w' h1 h2 (by omega)
            clear hr hE hR hB hBs hg6 hq hrz hfz hfz'
            simp only
            go_wp2
            go_region_held3 (fun w' => w'.cell? ⟨g, 2, none⟩ = some (.map (some gm))) (first | exact t2 | exact q2 | exact p2)
              (first
                | (go_at_call 39; (with_reducible refine (KW _ ?hh1 ?hh2).mono ?_); (case hh1 => exact hXz.below ⟨rfl, rfl, rfl, Nat.le_refl _, fun _ _ => rfl⟩); (case hh2 => exact hE6.below ⟨rfl, rfl, rfl, Nat.le_refl _, fun _ _ => rfl⟩); rintro x w20 ⟨a20, c20, rfl, hW20, b20⟩; have b20' : Below w6.heap.size w6 w20 := ⟨b20.os, b20.tape, b20.output, b20.size, b20.block⟩; have hr20 := hr6.below b20'; have hE20 := hE6.below b20'; have hR20 := hR6.below b20'; have hB20 := box_below' hB6 b20'; have hBs20 := hBs6.trans (b20'.mono hBs6.size); obtain ⟨q0, q1, q2, q3, qF⟩ := box4_cells hB20; obtain ⟨w21, hrun21, hr21, hg21, hs21⟩ := put_here_run hr20 z (xa, xn, xc) (a20, xn, c20) (by omega) HFZ2.out; simp only at hrun21; have hB21 := box_keptQ hB20 hg21 hr20.map.noCells; obtain ⟨t0, t1, t2, t3, tF⟩ := box4_cells hB21))
            all_goals
              have hE21 := hE20.keptQ hg21 hr20.map.noCells
              have hR21 := rows_step hR20 HFZ.out hW20 rfl
              have hR22 := hR21.keptQ hg21 hr20.map.noCells
              have hBs21 := below_grown hBs20 hg21 (fun k hk => by injection hk with hk; omega)
              clear hE20 hR20 hr20 hB20 hBs20 hR21 hW20 b20 b20' hrun21 hg21 hs21 hXz hE6 hR6 hB6 hBs6
              go_wp2
              go_roundw
              case rel => exact ⟨_, m6, _, hr21, hE21, hR22, hB21, hBs21⟩
              case measure => rw [hr21.left_eq, HRQ.out.left_eq]; exact hlt6
    · have hq := hr.noCells
      have hX2 := hX.keptQ hg2 hq
      have hR2 := hR.keptQ hg2 hq
      have hB2 := box_keptQ hB hg2 hq
      have hBs2 := below_grown hBs hg2 (fun k hk => by injection hk with hk; omega)
      obtain ⟨rz, hrz, hxL, hXz⟩ := hR2.at hfz
      have hzc := HS.out.lt hrz
      obtain ⟨xa, xn, xc⟩ := x
      simp only at hxL hen
      subst hxL
      have hstep := seenP_step (eq := eq) HS.out hrz hlz (by rw [HLE.out]; exact hcL)
      have HST := Lib.hid hstep
      clear hr hX hR hB hBs hg2 hq hstep
      simp only
      go_wp2_with fail
      (with_reducible refine (without_any z _ _ _ _ xn _ _ _ hX2 hXz (by omega)).mono ?_)
      rw [HST.out]
      rintro e w3 ⟨a3, c3, rfl, hE3, b3⟩
      go_wp2
      go_roundw
      case rel => exact ⟨_, m2, a3, c3, rfl, hr2.below b3, hE3, hR2.below b3, box_below' hB2 b3, hBs2.trans (b3.mono hBs2.size)⟩
      case measure => rw [(hr2.below b3).left_eq, HRQ.out.left_eq]; exact hlt
end Go.Proofs.Ytgnnfpnkhemimaa
