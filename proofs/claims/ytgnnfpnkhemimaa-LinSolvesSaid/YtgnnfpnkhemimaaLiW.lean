/-
  lin: Solve.
-/
import Derived.Test.YtgnnfpnkhemimaaLiV
namespace Go.Proofs.Ytgnnfpnkhemimaa
open Go.RowKit

def solveOK (cols : Int) (rows vs : List (List Nat)) : Bool := rightB cols rows && (decide (vs.length = rows.length) && evenB vs (widthB vs : Nat))
def augs (rows vs : List (List Nat)) : List (List Nat) := List.zipWith (· ++ ·) rows vs
def solvedBy (cols : Nat) (f : Wk) : List (List Nat) := (List.range cols).map fun c => (rowOf f c).drop cols
/-- what Solve answers, where the system is right. -/
def solveOut (cols : Nat) (rows vs : List (List Nat)) : List (List Nat) × Int :=
  if count (sysTo cols (augs rows vs) rows.length).1 cols ≠ cols then ([], 21)
  else if (sysTo cols (augs rows vs) rows.length).2 = true then ([], 22)
  else (solvedBy cols (sysTo cols (augs rows vs) rows.length).1, 0)

theorem GivesE.rebase {w w1 w' : World} {out : List (List Nat)} {code : Int} {x : Ending} (h : GivesE w1 out code x w') (hb : Below w.heap.size w w1) : GivesE w out code x w' := by
  obtain ⟨a, c, hs, e, h1, h2, h3⟩ := h
  exact ⟨a, c, hs, e, h1, h2, hb.trans (h3.mono hb.size)⟩
theorem MapH.heapEq {w w' : World} {b : Nat} {f : Nat → Option HdT} {cnt : Nat} (h : MapH w b f cnt) (e : w'.heap = w.heap) : MapH w' b f cnt := by
  obtain ⟨D, ⟨es, clock, h1, h2⟩, h3⟩ := h
  exact ⟨D, ⟨es, clock, by rw [e]; exact h1, h2⟩, h3⟩
theorem look_run {w : World} {b : Nat} {f : Nat → Option HdT} {cnt : Nat} (h : MapH w b f cnt) (c : Nat) (hd : HdT) (hc : c < 1000000) (hold : f c = some hd) :
    (Instr.lookup 48 (.map (some b)) (.int .i64 (c : Int)) false).run Try.prog w = .ok (.slice hd.1 hd.2.1 hd.2.2) w := by
  obtain ⟨D, hown, hs, hR⟩ := h
  obtain ⟨v, ps, hrun, hv⟩ := hown.lookup klaw Try.underlying48 (zeroHd w) (zd := .held (none, 0, 0)) (zp := []) rfl (key := .int .i64 (c : Int)) (key_of hc)
  rw [(hR.2 c).2 hd hold] at hv
  obtain ⟨x', rfl, e⟩ := hdElem_inv hv
  injection e with e _
  injection e with e
  subst e
  exact hrun

set_option maxRecDepth 100000 in
set_option maxHeartbeats 4000000 in
theorem solve_bad (cols : Int) (ar : Option Addr) (nr cr : Nat) (hr : List HdT) (rows : List (List Nat)) (ax : Option Addr) (nx cx : Nat) (hx : List HdT) (xs : List (List Nat)) (w : World) (vr : RowV w ar nr (hr.map SV)) (rr : RowsV w hr rows) (vx : RowV w ax nx (hx.map SV)) (rx : RowsV w hx xs)
    (sr : nr ≤ 140737488355328) (sx : nx ≤ 140737488355328) (hB : solveOK cols rows xs = false) :
    Calls Try.prog 18 #[.int .i64 cols, .slice ar nr cr, .slice ax nx cx] w (GivesE w [] 20) := by
  have hxs : xs.length = nx := by rw [← rx.1]; have := vx.1; simpa using this
  have hrs : rows.length = nr := by rw [← rr.1]; have := vr.1; simpa using this
  have KR := right_any cols ar nr cr hr rows w vr sr rr
  have HVX := Lib.hid vx
  have HRX := Lib.hid rx
  unfold solveOK at hB
  rw [hxs, hrs] at hB
  clear vr rr vx rx hxs hrs
  by_cases h1 : rightB cols rows = true
  rotate_left 1
  · have h1' : rightB cols rows = false := by simpa using h1
    rw [h1'] at KR
    clear h1 h1' hB
    go_enter Try.func18, Try.ntmps18
    go_wp2_with fail
    (with_reducible refine KR.mono ?_)
    rintro x w1 ⟨rfl, hb⟩
    go_wp2
    go_ret2
    exact givesE_nil hb
  rw [h1] at KR hB
  by_cases h2 : nx = nr
  rotate_left 1
  · have h2' : ((nx : Int) != (nr : Int)) = true := by rw [bne_iff_ne]; omega
    clear h1 h2 hB
    go_enter Try.func18, Try.ntmps18
    go_wp2_with fail
    (with_reducible refine KR.mono ?_)
    rintro x w1 ⟨rfl, hb⟩
    go_wp2
    go_ret2
    exact givesE_nil hb
  have h3 : evenB xs (widthB xs : Nat) = false := by simpa [h2] using hB
  have H3 := Lib.hid h3
  subst h2
  clear h1 hB h3
  go_enter Try.func18, Try.ntmps18
  go_wp2_with fail
  (with_reducible refine KR.mono ?_)
  rintro x w1 ⟨rfl, hb⟩
  clear KR
  go_wp2_with fail
  (with_reducible refine (width_any _ _ _ hx xs _ (HVX.out.below hb) (HRX.out.below hb)).mono ?_)
  rintro x w2 ⟨rfl, rfl⟩
  go_wp2_with fail
  (with_reducible refine (even_any _ _ _ _ hx xs _ (HVX.out.below hb) sx (HRX.out.below hb)).mono ?_)
  rw [H3.out]
  rintro x w3 ⟨rfl, b3⟩
  go_wp2
  go_ret2
  exact givesE_nil (hb.trans (b3.mono hb.size))

theorem zip_at {rows vs : List (List Nat)} {k : Nat} {r v : List Nat} (hr : rows[k]? = some r) (hv : vs[k]? = some v) : (augs rows vs)[k]? = some (r ++ v) := by
  unfold augs
  rw [List.getElem?_zipWith, hr, hv]

set_option maxRecDepth 100000 in
set_option maxHeartbeats 8000000 in
theorem solve_any (cols : Nat) (ar : Option Addr) (nr cr : Nat) (hr : List HdT) (rows : List (List Nat)) (ax : Option Addr) (nx cx : Nat) (hx : List HdT) (xs : List (List Nat)) (w : World) (vr : RowV w ar nr (hr.map SV)) (rr : RowsV w hr rows) (vx : RowV w ax nx (hx.map SV)) (rx : RowsV w hx xs)
    (hB : solveOK (cols : Int) rows xs = true) (hw : widthB xs ≤ 100000) :
    Calls Try.prog 18 #[.int .i64 (cols : Int), .slice ar nr cr, .slice ax nx cx] w (GivesE w (solveOut cols rows xs).1 (solveOut cols rows xs).2) := by
  have hhx : hx.length = nx := by have := vx.1; simpa using this
  have hxs : xs.length = nx := by rw [← rx.1, hhx]
  have hhr : hr.length = nr := by have := vr.1; simpa using this
  have hrs : rows.length = nr := by rw [← rr.1, hhr]
  unfold solveOK at hB
  simp only [Bool.and_eq_true, decide_eq_true_iff] at hB
  obtain ⟨b1, b2, b3⟩ := hB
  obtain ⟨c1, c2, c3, c4⟩ := rightB_iff.1 b1
  have b4 := evenB_iff.1 b3
  have KR := right_any cols ar nr cr hr rows w vr (by omega) rr
  rw [b1] at KR
  obtain rfl : nx = nr := by omega
  obtain ⟨i0, hi, hz0, hz1, hz2⟩ := info_parts Try.info34
  obtain ⟨wid, hwid⟩ : ∃ wid, wid = widthB xs := ⟨_, rfl⟩
  rw [← hwid] at hw b3 b4
  have HWID := Lib.hid hwid
  have HB3 := Lib.hid b3
  have HB4 := Lib.hid b4
  have HC4 := Lib.hid c4
  have HVX := Lib.hid vx
  have HRX := Lib.hid rx
  have HVR := Lib.hid vr
  have HRR := Lib.hid rr
  have HHR := Lib.hid hhr
  have HRS := Lib.hid hrs
  have HXS := Lib.hid hxs
  have HHX := Lib.hid hhx
  have hnx : nx ≤ 256 := by omega
  have c1' : 0 < cols := by omega
  have c2' : cols ≤ 128 := by omega
  have H0 := Lib.hid (show sysTo cols (augs rows xs) 0 = (fun _ => none, false) from rfl)
  clear vr rr vx rx hhr hrs b1 b2 b3 b4 c1 c2 c3 c4 hxs hhx hwid
  go_enter Try.func18, Try.ntmps18
  go_wp2_with fail
  (with_reducible refine KR.mono ?_)
  rintro x w1 ⟨rfl, hb⟩
  clear KR
  have KW := fun w' h1 h2 => width_any ax nx cx hx xs w' h1 h2
  rw [← HWID.out] at KW
  go_wp2_with fail
  (with_reducible refine (KW _ (HVX.out.below hb) (HRX.out.below hb)).mono ?_)
  rintro x w2 ⟨rfl, rfl⟩
  go_wp2_with fail
  (with_reducible refine (even_any _ _ _ _ hx xs _ (HVX.out.below hb) (by omega) (HRX.out.below hb)).mono ?_)
  rw [HB3.out]
  rintro x w3 ⟨rfl, b3⟩
  have hb3 := hb.trans (b3.mono hb.size)
  clear hb b3
  go_wp2_with fail
  (with_reducible refine (KW _ (HVX.out.below hb3) (HRX.out.below hb3)).mono ?_)
  rintro x w4 ⟨rfl, rfl⟩
  go_wp2_with fail
  (with_reducible refine (newSystem_any cols wid w3).mono ?_)
  rintro x w5 ⟨rfl, hS5⟩
  have hS := hS5.rebase hb3
  obtain ⟨g, hg⟩ : ∃ g, g = w3.heap.size + 1 := ⟨_, rfl⟩
  obtain ⟨gm, hgm⟩ : ∃ gm, gm = w3.heap.size := ⟨_, rfl⟩
  rw [← hg, ← hgm] at hS
  rw [← hg]
  rw [← H0.out] at hS
  have HS := Lib.hid hS
  clear hS5 hg hgm hb3 KW hS
  go_wp2
  go_loopw [37] (fun i wr => ∃ (k : Nat) (hd : Nat → Option HdT), k ≤ nx ∧ i = .int .i64 k ∧ SysV w wr g gm cols wid (sysTo cols (augs rows xs) k) hd) (fun i _ => nx - (intOf i).toNat)
  case atStart => exact ⟨0, _, Nat.zero_le _, rfl, HS.out⟩
  case round =>
    clear HS
    obtain ⟨k, hd, hk, rfl, hS⟩ := hrel
    by_cases hlt : k < nx
    · obtain ⟨b, off, rfl, hcl⟩ := (HVR.out.below hS.base).2 (by omega)
      obtain ⟨bx, offx, rfl, hclx⟩ := (HVX.out.below hS.base).2 (by omega)
      obtain ⟨⟨a2, n2, c2⟩, hxk⟩ : ∃ x, hr[k]? = some x := ⟨_, List.getElem?_eq_getElem (by rw [HHR.out]; exact hlt)⟩
      obtain ⟨⟨a3, n3, c3⟩, hyk⟩ : ∃ x, hx[k]? = some x := ⟨_, List.getElem?_eq_getElem (by rw [HHX.out]; exact hlt)⟩
      obtain ⟨l, hl⟩ : ∃ l, rows[k]? = some l := ⟨_, List.getElem?_eq_getElem (by rw [HRS.out]; exact hlt)⟩
      obtain ⟨v, hv⟩ : ∃ v, xs[k]? = some v := ⟨_, List.getElem?_eq_getElem (by rw [HXS.out]; exact hlt)⟩
      have hBl := HRR.out.2 k _ l hxk hl
      have hBv := HRX.out.2 k _ v hyk hv
      have hc := hcl k hlt
      rw [List.getElem?_map, hxk] at hc
      unfold SV at hc
      simp only [Option.map_some] at hc
      have hcx := hclx k hlt
      rw [List.getElem?_map, hyk] at hcx
      unfold SV at hcx
      simp only [Option.map_some] at hcx
      have hlc := HC4.out l (List.mem_of_getElem? hl)
      have hvw := HB4.out v (List.mem_of_getElem? hv)
      have hzip := zip_at hl hv
      have hlen : (l ++ v).length = cols + wid := by rw [List.length_append]; omega
      have hfl : [l, v].flatten = l ++ v := by simp
      have hby : Bytes (l ++ v) := fun x hx => by
        rcases List.mem_append.1 hx with h | h
        · exact hBl.bytes x h
        · exact hBv.bytes x h
      have hb1 := below_alloc wr (.cells #[.slice a2 n2 c2, .slice a3 n3 c3] 34)
      have hbw := hS.base.trans (hb1.mono hS.base.size)
      have hrow := rowV_lit wr #[.slice a2 n2 c2, .slice a3 n3 c3] 34 wr.heap.size 2 ([(a2, n2, c2), (a3, n3, c3)].map SV) rfl rfl rfl
      have hrws : RowsV (wr.alloc (.cells #[.slice a2 n2 c2, .slice a3 n3 c3] 34)) [(a2, n2, c2), (a3, n3, c3)] [l, v] := rowsV_cons (hBl.below hbw) (rowsV_cons (hBv.below hbw) (rowsV_nil _))
      have KC := concat_any (some ⟨wr.heap.size, 0, none⟩) 2 2 _ _ (by omega) _ hrow hrws (by rw [hfl, hlen]; omega)
      rw [hfl] at KC
      have hS1 := hS.below hb1
      have HST := Lib.hid (sysTo_succ cols (augs rows xs) k _ hzip)
      have HLEN := Lib.hid hlen
      have HBYY := Lib.hid hby
      obtain ⟨eq, heq⟩ : ∃ eq, eq = l ++ v := ⟨_, rfl⟩
      rw [← heq] at KC HST HLEN HBYY
      clear hcl hclx hxk hyk hl hv hBl hBv hlc hvw hzip hlen hfl hby hb1 hbw hrow hrws hS heq
      go_wp2_with fail
      (with_reducible refine KC.mono ?_)
      rintro x w6 ⟨a6, c6, rfl, o6, b6⟩
      rw [HLEN.out] at o6 ⊢
      have hX6 := bytesV_of_owns o6 HBYY.out (by omega)
      have hS6 := hS1.below b6
      have KA := sysAdd_any w g gm cols wid _ _ hd a6 c6 eq w6 hS6 hX6 c1' c2' (by omega)
      clear KC hS1 hc hcx o6 b6 hX6 hS6
      go_wp2_with fail
      (with_reducible refine KA.mono ?_)
      rintro x w7 ⟨rfl, hd7, hS7⟩
      go_wp2
      go_roundw
      case rel => exact ⟨k + 1, hd7, by omega, by go_num, by rw [HST.out]; exact hS7⟩
      case measure => simp [intOf]; omega
    · obtain rfl : k = nx := by omega
      clear hlt hk
      have KF := full_any w wr g gm cols wid _ hd hS
      have hso : solveOut cols rows xs = if count (sysTo cols (augs rows xs) k).1 cols ≠ cols then ([], 21) else if (sysTo cols (augs rows xs) k).2 = true then ([], 22) else (solvedBy cols (sysTo cols (augs rows xs) k).1, 0) := by
        unfold solveOut; rw [HRS.out]
      obtain ⟨s, hs⟩ : ∃ s, s = sysTo cols (augs rows xs) k := ⟨_, rfl⟩
      rw [← hs] at hso hS KF
      clear hs
      by_cases hf : count s.1 cols = cols
      rotate_left 1
      · rw [if_pos hf] at hso
        rw [decide_eq_false hf] at KF
        have HSO := Lib.hid hso
        have hbS := hS.base
        clear hso hf hS
        go_wp2_with fail
        (with_reducible refine KF.mono ?_)
        rintro x w8 ⟨rfl, b8⟩
        go_wp2
        go_ret2
        rw [HSO.out]
        exact givesE_nil (hbS.trans (b8.mono hbS.size))
      · rw [if_neg (fun h => h hf)] at hso
        rw [decide_eq_true hf] at KF
        have HF := Lib.hid hf
        have HSX := Lib.hid hso
        clear hf hso
        go_wp2_with fail
        (with_reducible refine KF.mono ?_)
        rintro x w8 ⟨rfl, b8⟩
        have hS8 := hS.below b8
        clear KF hS b8
        have hbS := hS8.base
        have hbx := hS8.box
        unfold ST at hbx
        obtain ⟨p0, p1, p2, p3, pF⟩ := box4_cells hbx
        by_cases hcl : s.2 = true
        · have hso := HSX.out
          rw [if_pos hcl] at hso
          rw [hcl] at p3
          have HSO := Lib.hid hso
          clear hso hcl hS8 hbx
          go_wp2
          go_ret2
          rw [HSO.out]
          exact givesE_nil hbS
        · have hso := HSX.out
          rw [if_neg hcl] at hso
          have hcl' : s.2 = false := by simpa using hcl
          rw [hcl'] at p3
          have HSO := Lib.hid hso
          have HCL := Lib.hid hcl'
          clear hso hcl hcl'
          obtain ⟨outs, houts⟩ : ∃ outs, outs = solvedBy cols s.1 := ⟨_, rfl⟩
          have hol : outs.length = cols := by rw [houts]; unfold solvedBy; simp
          have hat : ∀ c, c < cols → ∃ r x, s.1 c = some r ∧ hd c = some x ∧ x.2.1 = cols + wid ∧ BytesV w8 x r ∧ outs[c]? = some (r.drop cols) := fun c hc => by
            obtain ⟨r, hr⟩ := count_full.1 HF.out c hc
            obtain ⟨x, h1, h2, h3⟩ := hS8.rows c r hr
            refine ⟨r, x, hr, h1, h2, h3, ?_⟩
            rw [houts]; unfold solvedBy
            rw [List.getElem?_map, List.getElem?_range hc]
            simp only [Option.map_some, rowOf_some hr]
          have hob : ∀ l ∈ outs, Bytes l ∧ l.length ≤ 140737488355328 := fun l hl => by
            obtain ⟨c, hc⟩ := List.getElem?_of_mem hl
            obtain ⟨r, x, h1, h2, h3, h4, h5⟩ := hat c (by have := (List.getElem?_eq_some_iff.1 hc).1; omega)
            rw [hc] at h5
            injection h5 with h5
            subst h5
            exact ⟨fun y hy => h4.bytes y (List.mem_of_mem_drop hy), by have := h4.length; rw [List.length_drop]; omega⟩
          rw [← houts] at HSO
          have HAT := Lib.hid hat
          have HOB := Lib.hid hob
          have HOL := Lib.hid hol
          clear houts hat hob hol
          go_wp2_with (first | (at_make; refine wpList_make_full _ rfl _ _ 22 rfl w8.heap.size 34 i0 (.slice none 0 0) 1 Try.underlying22 hi hz0 hz1 _ _ _ _ cols rfl rfl rfl rfl (by rw [hz2]; omega) (by unfold maxLen; omega) (Nat.le_refl _) ?_; intro w9 hown9 hgrow9))
          rw [show (Value.slice none 0 0).cells = #[.slice none 0 0] from rfl, Nat.mul_one, toList_madeCells_one] at hown9
          have hF := filled_start (w0 := w8) (outs := outs) (Below.refl _ _) hown9 hgrow9
          obtain ⟨gx, hgx⟩ : ∃ gx, gx = w8.heap.size := ⟨_, rfl⟩
          rw [← hgx] at hF ⊢
          have hggx : g < gx := by rw [hgx]; exact (Array.getElem?_eq_some_iff.1 hbx).1
          have HFI := Lib.hid hF
          clear hgx hown9 hgrow9 hF p0 p1 p2 p3 pF hbx
          go_wp2
          go_loopw [67] (fun i wr => ∃ (z : Nat) (hz : List HdT), z ≤ cols ∧ i = .int .i64 z ∧ Filled w8 wr gx gx cols z hz outs) (fun i _ => cols - (intOf i).toNat)
          case atStart => exact ⟨0, [], Nat.zero_le _, rfl, HFI.out⟩
          case round =>
            clear HFI
            obtain ⟨z, hz, hzk, rfl, hF⟩ := hrel
            by_cases hlt : z < cols
            · obtain ⟨r, ⟨xa, xn, xc⟩, hsr, hdz, hxL, hXr, hoz⟩ := HAT.out z hlt
              simp only at hxL
              have hSr := hS8.below hF.base
              have hbx := hSr.box
              unfold ST at hbx
              obtain ⟨p0, p1, p2, p3, pF⟩ := box4_cells hbx
              have hXr' := hXr.below hF.base
              have KV := fun w' h => value_any cols wid xa xn xc r w' h hxL (by omega) (by omega)
              have hlook : ∀ w', w'.heap = wr.heap → (Instr.lookup 48 (.map (some gm)) (.int .i64 (z : Int)) false).run Try.prog w' = .ok (.slice xa xn xc) w' := fun w' e => look_run (hSr.map.heapEq e) z (xa, xn, xc) (by omega) hdz
              have hlook0 := hlook wr rfl
              have hlook1 := hlook wr.drew rfl
              have hlook2 := hlook wr.drew.drew rfl
              have HOZ := Lib.hid hoz
              have hrl : (r.drop cols).length = wid := by have := hXr.length; simp only at this; rw [List.length_drop]; omega
              have HRL := Lib.hid hrl
              have hgx := hF.lt
              clear hsr hdz hxL hXr hoz hSr hrl hlook
              go_wp2
              go_region_held3 (fun w' => w'.cell? ⟨g, 0, none⟩ = some (.int .i64 (cols : Int)) ∧ w'.cell? ⟨g, 1, none⟩ = some (.int .i64 (wid : Int)) ∧ w'.cell? ⟨g, 2, none⟩ = some (.map (some gm))) (first | exact ⟨t0, t1, t2⟩ | exact ⟨q0, q1, q2⟩ | exact ⟨p0, p1, p2⟩)
                (first
                  | (go_at_call 35; (with_reducible refine (KV _ ?hh1).mono ?_); (case hh1 => exact hXr'.below ⟨rfl, rfl, rfl, Nat.le_refl _, fun _ _ => rfl⟩); rintro x w20 ⟨a20, c20, rfl, hW20, o20, b20⟩; have b20' : Below wr.heap.size wr w20 := ⟨b20.os, b20.tape, b20.output, b20.size, b20.block⟩; have hF20 := hF.below b20'; have hB20 := box_below' hbx b20'; obtain ⟨q0, q1, q2, q3, qF⟩ := box4_cells hB20; obtain ⟨v, hv, hfz⟩ := hF20.cell z hlt; have o20' : w20.ownsRow (gx + 1) 5 1 (.slice a20 wid c20) wid ((r.drop cols).map bv) := ownsRow_base o20 (by show gx + 1 ≤ wr.heap.size; omega); have hst := hF20.step (x := (a20, wid, c20)) (l := r.drop cols) (by rw [HOL.out]; exact hlt) hlt HOZ.out (by rw [HRL.out]; exact o20') (HRL.out.symm); have HST := Lib.hid hst; have hB21 : (w20.setCell ⟨gx, z, none⟩ (.slice a20 wid c20)).heap[g]? = _ := (heap_setCell_other _ ⟨gx, z, none⟩ g _ (show g ≠ gx by omega)).trans hB20; obtain ⟨t0, t1, t2, t3, tF⟩ := box4_cells hB21; clear hst o20' o20 hW20))
              all_goals go_wp2
              all_goals
                go_roundw
                case rel => exact ⟨z + 1, _, by omega, by go_num, HST.out⟩
                case measure => simp [intOf]; omega
            · obtain rfl : z = cols := by omega
              go_wp2
              go_ret2
              rw [HSO.out]
              exact (hF.done HOL.out HOB.out).rebase hbS
end Go.Proofs.Ytgnnfpnkhemimaa
