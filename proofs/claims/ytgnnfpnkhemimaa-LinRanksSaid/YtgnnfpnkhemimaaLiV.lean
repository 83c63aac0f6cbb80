/-
  lin: Apply.
-/
import Derived.Test.YtgnnfpnkhemimaaLiU
namespace Go.Proofs.Ytgnnfpnkhemimaa
open Go.RowKit

def NilS : Value := .slice none 0 0
/-- rows and an error. -/
def GivesE (w : World) (out : List (List Nat)) (code : Int) (x : Ending) (w' : World) : Prop := ∃ a c hs, x = .returned (.tuple #[.slice a out.length c, .int .i64 code]) ∧ RowV w' a out.length (hs.map SV) ∧ RowsV w' hs out ∧ Below w.heap.size w w'
theorem givesE_nil {w w' : World} {code : Int} (hb : Below w.heap.size w w') : GivesE w [] code (.returned (.tuple #[.slice none 0 0, .int .i64 code])) w' :=
  ⟨none, 0, [], rfl, ⟨rfl, fun h => absurd h (by simp)⟩, rowsV_nil _, hb⟩
theorem own_set' {w : World} {B : Nat} {T : TypeId} {g n cap : Nat} {xs : List Value} (h : w.ownsRow B T 1 (.slice (some ⟨g, 0, none⟩) n cap) n xs) (i : Nat) (v : Value) :
    (w.setCell ⟨g, i, none⟩ v).ownsRow B T 1 (.slice (some ⟨g, 0, none⟩) n cap) n (xs.set i v) := by
  refine ⟨by simpa using h.1, .inr ?_⟩
  rcases h.2 with ⟨e, _⟩ | ⟨g', cap', cur, e, hB, hh, h1, h2, h3, h4⟩
  · cases e
  · cases e
    refine ⟨g, cap, _, rfl, hB, heap_setCell_same _ _ i _ _ _ hh, h1, h2, by simpa using h3, ?_⟩
    rw [← h4]
    simp [List.take_set]
theorem set_fill {hx : List HdT} {n k : Nat} (x : HdT) (hk : hx.length = k) (hn : k < n) : (hx.map SV ++ List.replicate (n - k) NilS).set k (SV x) = (hx ++ [x]).map SV ++ List.replicate (n - (k + 1)) NilS := by
  rw [show n - k = (n - (k + 1)) + 1 by omega, List.replicate_succ, List.map_append, List.append_assoc]
  rw [List.set_append_right _ _ (by simp [hk])]
  simp [hk]
theorem owns_keptLow {w w' : World} {B q : Nat} {T : TypeId} {hs : List HdT} {ls : List (List Nat)} (h : OwnsRows w B T hs ls) (hg : w.grownBy w' (some q)) (hq : q < B) : OwnsRows w' B T hs ls :=
  h.kept hg fun i x l h1 h2 => by
    cases e : (SV x).ownBlock with
    | none => exact .inl rfl
    | some b => exact .inr (fun e2 => by have := ((h.2 i x l h1 h2).2.lt b e).1; injection e2 with e2; omega)
/-- the rows that were laid so far. -/
structure Filled (w0 w : World) (B gx n k : Nat) (hx : List HdT) (outs : List (List Nat)) : Prop where
  row : w.ownsRow B 34 1 (.slice (some ⟨gx, 0, none⟩) n n) n (hx.map SV ++ List.replicate (n - k) NilS)
  own : OwnsRows w (gx + 1) 5 hx (outs.take k)
  base : Below w0.heap.size w0 w
  gx : w0.heap.size ≤ gx
theorem Filled.below {w0 w w' : World} {B gx n k : Nat} {hx : List HdT} {outs : List (List Nat)} (h : Filled w0 w B gx n k hx outs) (hb : Below w.heap.size w w') : Filled w0 w' B gx n k hx outs :=
  ⟨h.row.kept (grownBy_of_below hb none) (.inr (by simp [Value.ownBlock])), h.own.below hb, h.base.trans (hb.mono h.base.size), h.gx⟩
theorem Filled.lt {w0 w : World} {B gx n k : Nat} {hx : List HdT} {outs : List (List Nat)} (h : Filled w0 w B gx n k hx outs) : gx < w.heap.size := (h.row.lt gx rfl).2
theorem Filled.len {w0 w : World} {B gx n k : Nat} {hx : List HdT} {outs : List (List Nat)} (h : Filled w0 w B gx n k hx outs) (hk : k ≤ outs.length) : hx.length = k := by rw [h.own.1, List.length_take]; omega
theorem Filled.cell {w0 w : World} {B gx n k : Nat} {hx : List HdT} {outs : List (List Nat)} (h : Filled w0 w B gx n k hx outs) (i : Nat) (hi : i < n) : ∃ v, w.cell? ⟨gx, i, none⟩ = some v ∧ w.frozen? ⟨gx, i, none⟩ = false := by
  have h1 := h.row.cellAt i (by omega)
  rw [List.getElem?_eq_getElem (by rw [h.row.1]; omega)] at h1
  exact ⟨_, h1, h.row.frozenAt i⟩
theorem Filled.step {w0 w : World} {B gx n k : Nat} {hx : List HdT} {outs : List (List Nat)} (h : Filled w0 w B gx n k hx outs) (hk : k < outs.length) (hn : k < n) {x : HdT} {l : List Nat} (hl : outs[k]? = some l) (ho : w.ownsRow (gx + 1) 5 1 (SV x) l.length (l.map bv)) (hx' : x.2.1 = l.length) :
    Filled w0 (w.setCell ⟨gx, k, none⟩ (SV x)) B gx n (k + 1) (hx ++ [x]) outs := by
  have hlen := h.len (by omega)
  have hg := grown_set4 w gx k (SV x)
  refine ⟨?_, ?_, h.base.setCell (p := ⟨gx, k, none⟩) h.gx _, h.gx⟩
  · have := own_set' h.row k (SV x)
    rwa [set_fill x hlen hn] at this
  · rw [take_step outs k l hl]
    exact owns_keptLow (h.own.snoc hx' ho) hg (by omega)
theorem Filled.done {w0 w : World} {B gx n : Nat} {hx : List HdT} {outs : List (List Nat)} (h : Filled w0 w B gx n n hx outs) (hn : outs.length = n) (hb : ∀ l ∈ outs, Bytes l ∧ l.length ≤ 140737488355328) : GivesE w0 outs 0 (.returned (.tuple #[.slice (some ⟨gx, 0, none⟩) n n, .int .i64 0])) w := by
  have h1 := h.row
  rw [Nat.sub_self, List.replicate_zero, List.append_nil] at h1
  have h2 := h.own
  rw [List.take_of_length_le (by omega)] at h2
  refine ⟨_, n, hx, by rw [hn], ?_, h2.rowsV hb, h.base⟩
  rw [hn]
  obtain ⟨_, _, e, _, _, _, k⟩ := ownsRow_parts h1
  cases e
  exact k
theorem filled_start {w0 w1 w : World} {n : Nat} {outs : List (List Nat)} (hb : Below w0.heap.size w0 w1) (ho : w.ownsRow w1.heap.size 34 1 (.slice (some ⟨w1.heap.size, 0, none⟩) n n) n (List.replicate n NilS)) (hg : w1.grownBy w none) : Filled w0 w w1.heap.size w1.heap.size n 0 [] outs :=
  ⟨by simpa using ho, ⟨rfl, fun i x l h => by simp at h⟩, hb.trans ((grown_none hg).mono hb.size), hb.size⟩

def applyOK (cols : Int) (rows xs : List (List Nat)) : Bool := rightB cols rows && (decide ((xs.length : Int) = cols) && evenB xs (widthB xs : Nat))
def applyOf (rows xs : List (List Nat)) : List (List Nat) := rows.map fun r => mixTo r xs (longest xs xs.length) xs.length

set_option maxRecDepth 100000 in
set_option maxHeartbeats 4000000 in
theorem apply_bad (cols : Int) (ar : Option Addr) (nr cr : Nat) (hr : List HdT) (rows : List (List Nat)) (ax : Option Addr) (nx cx : Nat) (hx : List HdT) (xs : List (List Nat)) (w : World) (vr : RowV w ar nr (hr.map SV)) (rr : RowsV w hr rows) (vx : RowV w ax nx (hx.map SV)) (rx : RowsV w hx xs)
    (sr : nr ≤ 140737488355328) (sx : nx ≤ 140737488355328) (hB : applyOK cols rows xs = false) :
    Calls Try.prog 20 #[.int .i64 cols, .slice ar nr cr, .slice ax nx cx] w (GivesE w [] 20) := by
  have hxs : xs.length = nx := by rw [← rx.1]; have := vx.1; simpa using this
  have KR := right_any cols ar nr cr hr rows w vr sr rr
  have HVX := Lib.hid vx
  have HRX := Lib.hid rx
  unfold applyOK at hB
  rw [hxs] at hB
  clear vr rr vx rx hxs
  by_cases h1 : rightB cols rows = true
  rotate_left 1
  · have h1' : rightB cols rows = false := by simpa using h1
    rw [h1'] at KR
    clear h1 h1' hB
    go_enter Try.func20, Try.ntmps20
    go_wp2_with fail
    (with_reducible refine KR.mono ?_)
    rintro x w1 ⟨rfl, hb⟩
    go_wp2
    go_ret2
    exact givesE_nil hb
  rw [h1] at KR hB
  by_cases h2 : (nx : Int) = cols
  rotate_left 1
  · have h2' : ((nx : Int) != cols) = true := by rw [bne_iff_ne]; exact h2
    clear h1 h2 hB
    go_enter Try.func20, Try.ntmps20
    go_wp2_with fail
    (with_reducible refine KR.mono ?_)
    rintro x w1 ⟨rfl, hb⟩
    go_wp2
    go_ret2
    exact givesE_nil hb
  have h3 : evenB xs (widthB xs : Nat) = false := by simpa [h2] using hB
  have H3 := Lib.hid h3
  subst h2
  clear h1 hB h3
  go_enter Try.func20, Try.ntmps20
  go_wp2_with fail
  (with_reducible refine KR.mono ?_)
  rintro x w1 ⟨rfl, hb⟩
  clear KR
  go_wp2_with fail
  (with_reducible refine (width_any _ _ _ hx xs _ (HVX.out.below hb) (HRX.out.below hb)).mono ?_)
  rintro x w2 ⟨rfl, rfl⟩
  go_wp2_with fail
  (with_reducible refine (even_any _ _ _ _ hx xs _ (HVX.out.below hb) sx (HRX.out.below hb)).mono ?_)
  rw [H3.out]
  rintro x w3 ⟨rfl, b3⟩
  go_wp2
  go_ret2
  exact givesE_nil (hb.trans (b3.mono hb.size))

theorem mixTo_len_le (r : List Nat) (xs : List (List Nat)) (hs : List HdT) (w : World) (hr : RowsV w hs xs) : (mixTo r xs (longest xs xs.length) xs.length).length ≤ 140737488355328 := by rw [mixTo_length]; exact longest_le hr _

set_option maxRecDepth 100000 in
set_option maxHeartbeats 8000000 in
theorem apply_any (cols : Nat) (ar : Option Addr) (nr cr : Nat) (hr : List HdT) (rows : List (List Nat)) (ax : Option Addr) (nx cx : Nat) (hx : List HdT) (xs : List (List Nat)) (w : World) (vr : RowV w ar nr (hr.map SV)) (rr : RowsV w hr rows) (vx : RowV w ax nx (hx.map SV)) (rx : RowsV w hx xs)
    (hB : applyOK (cols : Int) rows xs = true) :
    Calls Try.prog 20 #[.int .i64 (cols : Int), .slice ar nr cr, .slice ax nx cx] w (GivesE w (applyOf rows xs) 0) := by
  have hxs : xs.length = nx := by rw [← rx.1]; have := vx.1; simpa using this
  have hhr : hr.length = nr := by have := vr.1; simpa using this
  have hrs : rows.length = nr := by rw [← rr.1, hhr]
  unfold applyOK at hB
  simp only [Bool.and_eq_true, decide_eq_true_iff] at hB
  obtain ⟨b1, b2, b3⟩ := hB
  obtain ⟨c1, c2, c3, c4⟩ := rightB_iff.1 b1
  have KR := right_any cols ar nr cr hr rows w vr (by omega) rr
  rw [b1] at KR
  obtain rfl : nx = cols := by omega
  obtain ⟨i0, hi, hz0, hz1, hz2⟩ := info_parts Try.info34
  have hout : (applyOf rows xs).length = nr := by unfold applyOf; simp [hrs]
  have hby : ∀ l ∈ applyOf rows xs, Bytes l ∧ l.length ≤ 140737488355328 := by
    intro l hl
    obtain ⟨r, hrm, rfl⟩ := List.mem_map.1 hl
    exact ⟨mixTo_bytes (rr.mem r hrm).1 _ _ _, mixTo_len_le r xs hx w rx⟩
  have HB3 := Lib.hid b3
  have HVX := Lib.hid vx
  have HRX := Lib.hid rx
  have HVR := Lib.hid vr
  have HRR := Lib.hid rr
  have HHR := Lib.hid hhr
  have HRS := Lib.hid hrs
  have HXS := Lib.hid hxs
  have HOUT := Lib.hid hout
  have HBY := Lib.hid hby
  have hnr : nr ≤ 256 := by omega
  have hnx : nx ≤ 128 := by omega
  clear vr rr vx rx hhr hrs b1 b2 b3 c1 c2 c3 c4 hout hby hxs
  go_enter Try.func20, Try.ntmps20
  go_wp2_with fail
  (with_reducible refine KR.mono ?_)
  rintro x w1 ⟨rfl, hb⟩
  clear KR
  go_wp2_with fail
  (with_reducible refine (width_any _ _ _ hx xs _ (HVX.out.below hb) (HRX.out.below hb)).mono ?_)
  rintro x w2 ⟨rfl, rfl⟩
  go_wp2_with fail
  (with_reducible refine (even_any _ _ _ _ hx xs _ (HVX.out.below hb) (by omega) (HRX.out.below hb)).mono ?_)
  rw [HB3.out]
  rintro x w3 ⟨rfl, b3⟩
  have hb3 := hb.trans (b3.mono hb.size)
  clear hb b3
  go_wp2_with (first | (at_make; refine wpList_make_full _ rfl _ _ 22 rfl w3.heap.size 34 i0 (.slice none 0 0) 1 Try.underlying22 hi hz0 hz1 _ _ _ _ nr rfl rfl rfl rfl (by rw [hz2]; omega) (by unfold maxLen; omega) (Nat.le_refl _) ?_; intro w4 hown4 hgrow4))
  rw [show (Value.slice none 0 0).cells = #[.slice none 0 0] from rfl, Nat.mul_one, toList_madeCells_one] at hown4
  have hF := filled_start (outs := applyOf rows xs) hb3 hown4 hgrow4
  obtain ⟨gx, hgx⟩ : ∃ gx, gx = w3.heap.size := ⟨_, rfl⟩
  rw [← hgx] at hF ⊢
  have HF := Lib.hid hF
  clear hgx hown4 hgrow4 hb3 hF
  go_loopw [33] (fun i wr => ∃ (k : Nat) (hz : List HdT), k ≤ nr ∧ i = .int .i64 k ∧ Filled w wr gx gx nr k hz (applyOf rows xs)) (fun i _ => nr - (intOf i).toNat)
  case atStart => exact ⟨0, [], Nat.zero_le _, rfl, HF.out⟩
  case round =>
    clear HF
    obtain ⟨k, hz, hk, rfl, hF⟩ := hrel
    have hbr := hF.base
    by_cases hlt : k < nr
    · obtain ⟨b, off, rfl, hcl⟩ := (HVR.out.below hbr).2 (by omega)
      obtain ⟨⟨a2, n2, c2⟩, hxk⟩ : ∃ x, hr[k]? = some x := ⟨_, List.getElem?_eq_getElem (by rw [HHR.out]; exact hlt)⟩
      obtain ⟨l, hl⟩ : ∃ l, rows[k]? = some l := ⟨_, List.getElem?_eq_getElem (by rw [HRS.out]; exact hlt)⟩
      have hBy := (HRR.out.2 k _ l hxk hl).below hbr
      have hc := hcl k hlt
      rw [List.getElem?_map, hxk] at hc
      unfold SV at hc
      simp only [Option.map_some] at hc
      have KM := mix_any a2 n2 c2 l ax nx cx hx xs wr hBy.row hBy.bytes hBy.small (HVX.out.below hbr) (by omega) (HRX.out.below hbr)
      have hol : (applyOf rows xs)[k]? = some (mixTo l xs (longest xs nx) nx) := by unfold applyOf; rw [List.getElem?_map, hl, HXS.out]; rfl
      have HOL := Lib.hid hol
      have hlm := mixTo_length l xs (longest xs nx) nx
      have hlg := longest_le HRX.out nx
      obtain ⟨M, hM⟩ : ∃ M, M = mixTo l xs (longest xs nx) nx := ⟨_, rfl⟩
      obtain ⟨G, hG⟩ : ∃ G, G = longest xs nx := ⟨_, rfl⟩
      rw [← hG] at hlg hlm HOL KM hM
      rw [← hM] at hlm HOL KM
      have HLM := Lib.hid hlm
      clear hcl hxk hl hBy hol hlm hM hG
      go_wp2_with fail
      (with_reducible refine KM.mono ?_)
      rintro x w5 ⟨rfl, o5, b5⟩
      have hF5 := hF.below b5
      have hgx := hF.lt
      obtain ⟨v, hv, hfz⟩ := hF5.cell k hlt
      have o5' := ownsRow_base (base' := gx + 1) o5 (by omega)
      have hst := hF5.step (x := (some (⟨wr.heap.size, 0, none⟩ : Addr), G, G)) (l := M) (by rw [HOUT.out]; exact hlt) hlt HOL.out (by rw [HLM.out]; exact o5') (HLM.out.symm)
      unfold SV at hst
      simp only at hst
      have HST := Lib.hid hst
      clear KM hF hbr hc o5 b5 hF5 o5' hst
      go_wp2
      go_roundw
      case rel => exact ⟨k + 1, _, by omega, by go_num, HST.out⟩
      case measure => simp [intOf]; omega
    · obtain rfl : k = nr := by omega
      go_wp2
      go_ret2
      exact hF.done HOUT.out HBY.out
end Go.Proofs.Ytgnnfpnkhemimaa
