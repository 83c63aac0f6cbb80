/-
  msg: the writer, with what it has written.
-/
import Derived.Laws.IdiomStrings
import Derived.Test.YtopnjjehefaghaaDoorMMe2
import Derived.Test.YtopnjjehefaghaaDoorMSyA
namespace Go.Proofs.YtopnjjehefaghaaDoor
open Go.RowKit

/-- the first W bytes of a number, the least weight first. -/
def numLE (n W : Nat) : List Nat := (List.range W).map fun t => n / 256 ^ t % 256
theorem numLE_succ (n W : Nat) : numLE n (W + 1) = numLE n W ++ [n / 256 ^ W % 256] := by
  unfold numLE
  rw [List.range_succ, List.map_append]
  rfl
theorem numLE_len (n W : Nat) : (numLE n W).length = W := by simp [numLE]
theorem numLE_bytes (n W : Nat) : Bytes (numLE n W) := by
  intro x hx
  simp only [numLE, List.mem_map] at hx
  obtain ⟨t, -, rfl⟩ := hx
  exact Nat.mod_lt _ (by decide)
theorem numLE_one (n : Nat) : numLE n 1 = [n % 256] := by simp [numLE]
abbrev GT : TypeId := 56
/-- block b is a writer that has the bytes l, in a block of its own behind b. -/
structure GrH (w : World) (b : Nat) (l : List Nat) (ad : Option Addr) (cap : Nat) : Prop where
  hh : w.heap[b]? = some (.cells #[.slice ad l.length cap] GT (0, 0))
  own : w.ownsRow (b + 1) 5 1 (.slice ad l.length cap) l.length (l.map bv)
  by_ : Bytes l
def Gr (w : World) (b : Nat) (l : List Nat) : Prop := ∃ ad cap, GrH w b l ad cap
/-- what stays while a writer writes: all below it, and every other block that holds no bytes. -/
structure KU (w w' : World) (b : Nat) : Prop where
  os : w'.os = w.os
  tape : w'.tape = w.tape
  output : w'.output = w.output
  size : w.heap.size ≤ w'.heap.size
  low : ∀ q, q < b → q < w.heap.size → w'.heap[q]? = w.heap[q]?
  typ : ∀ q cs t fr, q ≠ b → t ≠ 5 → w.heap[q]? = some (.cells cs t fr) → w'.heap[q]? = some (.cells cs t fr)
theorem KU.refl (w : World) (b : Nat) : KU w w b := ⟨rfl, rfl, rfl, Nat.le_refl _, fun _ _ _ => rfl, fun _ _ _ _ _ _ h => h⟩
theorem KU.trans {w w1 w2 : World} {b : Nat} (h : KU w w1 b) (k : KU w1 w2 b) : KU w w2 b :=
  ⟨k.os.trans h.os, k.tape.trans h.tape, k.output.trans h.output, Nat.le_trans h.size k.size, fun q h1 h2 => (k.low q h1 (Nat.lt_of_lt_of_le h2 h.size)).trans (h.low q h1 h2), fun q cs t fr h1 h2 h3 => k.typ q cs t fr h1 h2 (h.typ q cs t fr h1 h2 h3)⟩
theorem KU.of_below {w w' : World} {b : Nat} (h : Below w.heap.size w w') : KU w w' b :=
  ⟨h.os, h.tape, h.output, h.size, fun q _ h2 => h.block q h2, fun q _ _ _ _ _ h3 => (h.block q (Array.getElem?_eq_some_iff.1 h3).1).trans h3⟩
theorem KU.below {w w' : World} {b B : Nat} (h : KU w w' b) (hB : B ≤ b) (hs : B ≤ w.heap.size) : Below B w w' := ⟨h.os, h.tape, h.output, h.size, fun q hq => h.low q (by omega) (by omega)⟩
theorem Gr.lt {w : World} {b : Nat} {l : List Nat} (h : Gr w b l) : b < w.heap.size := by
  obtain ⟨ad, cap, h⟩ := h
  exact (Array.getElem?_eq_some_iff.1 h.hh).1
theorem GrH.below {w w' : World} {b : Nat} {l : List Nat} {ad : Option Addr} {cap : Nat} (h : GrH w b l ad cap) (hb : Below w.heap.size w w') : GrH w' b l ad cap := by
  refine ⟨(hb.block b (Array.getElem?_eq_some_iff.1 h.hh).1).trans h.hh, ⟨h.own.1, ?_⟩, h.by_⟩
  rcases h.own.2 with e | ⟨g, cp, cur, e, hg, hh, rest⟩
  · exact .inl e
  · exact .inr ⟨g, cp, cur, e, hg, (hb.block g (Array.getElem?_eq_some_iff.1 hh).1).trans hh, rest⟩
theorem Gr.below {w w' : World} {b : Nat} {l : List Nat} (h : Gr w b l) (hb : Below w.heap.size w w') : Gr w' b l := by
  obtain ⟨ad, cap, h⟩ := h
  exact ⟨ad, cap, h.below hb⟩
def ob (ad : Option Addr) : Option Nat := (Value.slice ad 0 0).ownBlock
theorem ob_eq (ad : Option Addr) (n c : Nat) : (Value.slice ad n c).ownBlock = ob ad := by cases ad <;> rfl
/-- what stays, to the block: all but the writer and its bytes' own block. -/
structure KX (w w' : World) (b : Nat) (o : Option Nat) : Prop where
  os : w'.os = w.os
  tape : w'.tape = w.tape
  output : w'.output = w.output
  size : w.heap.size ≤ w'.heap.size
  block : ∀ q, q < w.heap.size → q ≠ b → some q ≠ o → w'.heap[q]? = w.heap[q]?
theorem KX.refl (w : World) (b : Nat) (o : Option Nat) : KX w w b o := ⟨rfl, rfl, rfl, Nat.le_refl _, fun _ _ _ _ => rfl⟩
theorem KX.trans {w w1 w2 : World} {b : Nat} {o o1 : Option Nat} (h : KX w w1 b o) (k : KX w1 w2 b o1) (ho : o1 = o ∨ ∀ q, o1 = some q → w.heap.size ≤ q) : KX w w2 b o :=
  ⟨k.os.trans h.os, k.tape.trans h.tape, k.output.trans h.output, Nat.le_trans h.size k.size, fun q h1 h2 h3 => (k.block q (Nat.lt_of_lt_of_le h1 h.size) h2 (fun e => by
    rcases ho with ho | ho
    · exact h3 (e.trans ho)
    · have := ho q e.symm; omega)).trans (h.block q h1 h2 h3)⟩
theorem GrH.ob_ge {w : World} {b : Nat} {l : List Nat} {ad : Option Addr} {cap : Nat} (h : GrH w b l ad cap) {q : Nat} (e : ob ad = some q) : b < q ∧ q < w.heap.size := by
  rw [← ob_eq ad l.length cap] at e
  have := h.own.lt q e
  omega
theorem KX.ku {w w' : World} {b : Nat} {l : List Nat} {ad : Option Addr} {cap : Nat} (k : KX w w' b (ob ad)) (h : GrH w b l ad cap) : KU w w' b := by
  refine ⟨k.os, k.tape, k.output, k.size, fun q h1 h2 => k.block q h2 (by omega) (fun e => by have := h.ob_ge e.symm; omega), fun q cs t fr h1 h2 h3 => (k.block q (Array.getElem?_eq_some_iff.1 h3).1 h1 (fun e => ?_)).trans h3⟩
  rcases h.own.2 with ⟨e2, -⟩ | ⟨g, cp, cur, e2, -, hgh, -⟩
  · rw [← ob_eq ad l.length cap, e2] at e; simp [Value.ownBlock] at e
  · rw [← ob_eq ad l.length cap, e2] at e
    simp only [Value.ownBlock] at e
    injection e with e
    subst e
    rw [h3] at hgh
    injection hgh with hgh
    injection hgh with _ ht _
    exact h2 ht
/-- what was appended is stored. -/
theorem GrH.put {w w1 w4 : World} {b : Nat} {l m : List Nat} {ad ad4 : Option Addr} {cap cap4 n : Nat} (h : GrH w b l ad cap) (hb : Below w.heap.size w w1) (hg : w1.grownBy w4 (Value.slice ad l.length cap).ownBlock) (hm : m.length = n) (hmb : Bytes m)
    (ho : w4.ownsRow (b + 1) 5 1 (.slice ad4 (l.length + n) cap4) (l.length + n) (l.map bv ++ m.map bv)) : GrH (w4.setCell ⟨b, 0, none⟩ (.slice ad4 (l.length + n) cap4)) b (l ++ m) ad4 cap4 ∧ KX w (w4.setCell ⟨b, 0, none⟩ (.slice ad4 (l.length + n) cap4)) b (ob ad) := by
  have h1 := h.below hb
  have hlt := (Array.getElem?_eq_some_iff.1 h1.hh).1
  have hne : some b ≠ (Value.slice ad l.length cap).ownBlock := ne_ownM (g := b) h1.own (Nat.lt_succ_self b)
  have hh4 := (hg.block b hlt hne).trans h1.hh
  have hel : (l ++ m).length = l.length + n := by rw [List.length_append, hm]
  have hg6 := grownBy_setCellM w4 ⟨b, 0, none⟩ (.slice ad4 (l.length + n) cap4)
  refine ⟨⟨?_, ?_, ?_⟩, ⟨hg.os.trans hb.os, hg.tape.trans hb.tape, hg.output.trans hb.output, by have := hg.size; have := hb.size; simp [World.setCell] at *; omega, fun q h1' h2 h3 => ?_⟩⟩
  · rw [hel]; exact heap_setCell_same w4 b 0 _ _ _ hh4
  · rw [hel, List.map_append]
    exact ho.kept hg6 (.inr (fun e => ne_ownM (g := b) ho (Nat.lt_succ_self b) e.symm))
  · intro z hz
    rcases List.mem_append.1 hz with q | q
    · exact h.by_ z q
    · exact hmb z q
  · rw [heap_setCell_other w4 ⟨b, 0, none⟩ q _ (by simp only; exact h2), hg.block q (Nat.lt_of_lt_of_le h1' hb.size) (by rw [ob_eq]; exact h3), hb.block q h1']
theorem after_grow {w w4 : World} {b : Nat} {l : List Nat} {ad : Option Addr} {cap : Nat} (hg : w.grownBy w4 (Value.slice ad l.length cap).ownBlock) (h : GrH w b l ad cap) : w4.cell? ⟨b, 0, none⟩ = some (.slice ad l.length cap) ∧ w4.frozen? ⟨b, 0, none⟩ = false := by
  have hh4 := (hg.block b (Array.getElem?_eq_some_iff.1 h.hh).1 (ne_ownM (g := b) h.own (Nat.lt_succ_self b))).trans h.hh
  exact ⟨cell_of_row _ _ 0 _ _ _ hh4, frozen_of_row _ _ _ _ _ hh4⟩
set_option maxRecDepth 10000 in
set_option maxHeartbeats 4000000 in
theorem gnumX_any (b n W : Nat) (l : List Nat) (ad0 : Option Addr) (cap0 : Nat) (w : World) (hV : GrH w b l ad0 cap0) (hW : W ≤ 4) (hn : n < 9223372036854775808) (hl : l.length ≤ 100000000) :
    Calls Tryd.prog 48 #[.pointer (some ⟨b, 0, none⟩), .int .i64 n, .int .i64 W] w fun e w' => e = .returned (.tuple #[]) ∧ ∃ ad cap, GrH w' b (l ++ numLE n W) ad cap ∧ KX w w' b (ob ad0) ∧ (ob ad = ob ad0 ∨ ∀ q, ob ad = some q → w.heap.size ≤ q) := by
  obtain ⟨i0, hi, hz0, hz1, hz2⟩ := info_partsM Tryd.infoU8
  go_enter Tryd.func48, Tryd.ntmps48
  go_wp2
  go_loopw [1, 7] (fun v i wr => ∃ (j x : Nat) (ad : Option Addr) (cap : Nat), j ≤ W ∧ i = .int .i64 (j : Nat) ∧ v = .int .i64 (x : Nat) ∧ Hid (x = n / 256 ^ j) ∧ Hid (GrH wr b (l ++ numLE n j) ad cap) ∧ Hid (KX w wr b (ob ad0)) ∧ Hid (ob ad = ob ad0 ∨ ∀ q, ob ad = some q → w.heap.size ≤ q)) (fun _ i _ => W - (intOf i).toNat)
  case atStart => exact ⟨0, n, ad0, cap0, Nat.zero_le _, rfl, rfl, Lib.hid (by simp), Lib.hid (by rw [show numLE n 0 = [] from rfl, List.append_nil]; exact hV), Lib.hid (KX.refl _ _ _), Lib.hid (.inl rfl)⟩
  case round =>
    clear hV
    obtain ⟨j, x, ad, cap, hj, rfl, rfl, HX, HV, HK, HO⟩ := hrel
    by_cases hlt : j < W
    · obtain ⟨L, hL⟩ : ∃ L, L = l ++ numLE n j := ⟨_, rfl⟩
      have hLl : L.length ≤ 100000004 := by rw [hL, List.length_append, numLE_len]; omega
      rw [← hL] at HV
      have HLL := Lib.hid hL
      have c0 : wr.cell? ⟨b, 0, none⟩ = some (.slice ad L.length cap) := cell_of_row _ _ 0 _ _ _ HV.out.hh
      obtain ⟨y, hy⟩ : ∃ y, y = x % 256 := ⟨_, rfl⟩
      have hwr : IntKind.u8.wrap (x : Int) = (y : Int) := by rw [hy]; simp [IntKind.wrap, IntKind.bits, IntKind.signed]
      have hx63 : x < 9223372036854775808 := by rw [HX.out]; exact Nat.lt_of_le_of_lt (Nat.div_le_self _ _) hn
      have HY := Lib.hid hy
      have hbl : b < wr.heap.size := (Array.getElem?_eq_some_iff.1 HV.out.hh).1
      clear hL hy
      go_wp2_with (first | (at_builtin; refine Hid.out ?_))
      refine Lib.hid ?_
      refine wpList_append_lies _ rfl (.tmp 13) (.tmp 16) 24 rfl (b + 1) 5 i0 (.int .u8 0) 1 1 Tryd.underlying24 hi hz0 hz1 hz2 rfl (by decide) (.slice ad L.length cap) L.length (L.map bv) rfl (HV.out.own.alloc _) ⟨wr.heap.size, 0, none⟩ 1 1 [bv y] rfl rfl (World.news_of_block (heap_alloc_new wr _)) (bv_one [y]) (by decide) (by simp [maxLen]; omega) (by omega) (by simp; omega) _ rfl ?_
      intro g4 cap4 w4 hown4 hgrow4 hat _
      obtain ⟨c4, f4⟩ := after_grow hgrow4 (HV.out.below (below_alloc wr _))
      have hput := HV.out.put (below_alloc wr _) hgrow4 (m := [y]) rfl (by intro z hz; simp at hz; rw [hz, HY.out]; exact Nat.mod_lt _ (by decide)) hown4
      have hx8 : (x : Int) / 256 = ((n / 256 ^ (j + 1) : Nat) : Int) := by rw [Nat.pow_succ, ← Nat.div_div_eq_div_mul, ← HX.out]; simp
      have HP := Lib.hid (show GrH (w4.setCell ⟨b, 0, none⟩ (.slice (some ⟨g4, 0, none⟩) (L.length + 1) cap4)) b (l ++ numLE n (j + 1)) (some ⟨g4, 0, none⟩) cap4 from by
        have := hput.1
        rw [HY.out, HX.out] at this
        rw [numLE_succ, ← List.append_assoc, ← HLL.out]
        exact this)
      have HK2 := Lib.hid (HK.out.trans hput.2 HO.out)
      have HO2 : Hid (ob (some ⟨g4, 0, none⟩) = ob ad0 ∨ ∀ q, ob (some ⟨g4, 0, none⟩) = some q → w.heap.size ≤ q) := Lib.hid (by
        have hsz := HK.out.size
        rcases hat with h | h
        · rw [ob_eq] at h
          rw [show ob (some ⟨g4, 0, none⟩) = ob ad from h.symm]
          exact HO.out
        · refine .inr fun q hq => ?_
          have e : g4 = q := by simpa [ob, Value.ownBlock] using hq
          simp at h
          omega)
      have HX8 := Lib.hid hx8
      clear hput hgrow4 hown4 hx8 hat
      go_wp2
      go_roundw
      case rel => exact ⟨j + 1, n / 256 ^ (j + 1), some ⟨g4, 0, none⟩, cap4, by omega, by go_num, by rw [HX8.out], Lib.hid rfl, HP, HK2, HO2⟩
      case measure => simp [intOf] <;> omega
    · obtain rfl : j = W := by omega
      go_wp2
      go_end0
      exact ⟨rfl, ad, cap, HV.out, HK.out, HO.out⟩
set_option maxRecDepth 10000 in
set_option maxHeartbeats 4000000 in
theorem gtextX_any (b : Nat) (l : List Nat) (ad0 : Option Addr) (cap0 : Nat) (xa : Option Addr) (xn xc : Nat) (m : List Nat) (w : World) (hV : GrH w b l ad0 cap0) (hl : l.length ≤ 99000000) (hx : BytesV w (xa, xn, xc) m) (hn : xn ≤ 900000)
    (hap : 0 < xn → ∀ a, xa = some a → a.block ≠ b ∧ some a.block ≠ ob ad0) :
    Calls Tryd.prog 49 #[.pointer (some ⟨b, 0, none⟩), .slice xa xn xc] w fun e w' => e = .returned (.tuple #[]) ∧ Gr w' b (l ++ (numLE xn 1 ++ m)) ∧ KX w w' b (ob ad0) := by
  obtain ⟨i0, hi, hz0, hz1, hz2⟩ := info_partsM Tryd.infoU8
  have hml : m.length = xn := hx.length
  have KN := gnumX_any b xn 1 l ad0 cap0 w hV (by omega) (by omega) (by omega)
  rw [show ((1 : Nat) : Int) = 1 from rfl] at KN
  have HX := Lib.hid hx
  have HAP := Lib.hid hap
  have HML := Lib.hid hml
  clear hml hx hap
  go_enter Tryd.func49, Tryd.ntmps49
  go_wp2_with fail
  (with_reducible refine KN.mono ?_)
  rintro e w1 ⟨rfl, ad, cap, hV1, hK1, hO1⟩
  obtain ⟨L, hL⟩ : ∃ L, L = l ++ numLE xn 1 := ⟨_, rfl⟩
  rw [← hL] at hV1
  have hLl : L.length ≤ 99000001 := by rw [hL, List.length_append, numLE_len]; omega
  have c0 : w1.cell? ⟨b, 0, none⟩ = some (.slice ad L.length cap) := cell_of_row _ _ 0 _ _ _ hV1.hh
  have hr1 : RowV w1 xa xn (m.map bv) := HX.out.row.kept' fun h0 a ha => hK1.block a.block (HX.out.row.lt h0 ha) (HAP.out h0 a ha).1 (HAP.out h0 a ha).2
  have HV1 := Lib.hid hV1
  have HK1 := Lib.hid hK1
  have HO1 := Lib.hid hO1
  have HR1 := Lib.hid hr1
  have HL := Lib.hid hL
  have hs1 : b < w1.heap.size := (Array.getElem?_eq_some_iff.1 hV1.hh).1
  clear hV1 hK1 hO1 hr1 hL KN
  go_wp2_with (first | (at_builtin; refine Hid.out ?_))
  refine Lib.hid ?_
  refine wpList_append_row rfl (.tmp 12) (.tmp 13) 24 rfl (b + 1) 5 i0 (.int .u8 0) 1 Tryd.underlying24 hi hz0 hz1 hz2 rfl _ _ _ rfl HV1.out.own xa xn xc (m.map bv) rfl HR1.out HX.out.nil (bv_one m) (by unfold maxLen; omega) (by omega) (by omega) ?_
  intro v4 w4 hown4 hgrow4 _
  obtain ⟨ad4, cap4, rfl, -⟩ := ownsRow_parts hown4
  obtain ⟨c4, f4⟩ := after_grow hgrow4 HV1.out
  have hput := HV1.out.put (Below.refl _ _) hgrow4 (m := m) HML.out HX.out.bytes hown4
  have HP := Lib.hid hput.1
  have HK2 := Lib.hid (HK1.out.trans hput.2 HO1.out)
  clear hput hgrow4 hown4
  go_wp2
  go_end0
  refine ⟨rfl, ⟨ad4, cap4, ?_⟩, HK2.out⟩
  rw [← List.append_assoc, ← HL.out]
  exact HP.out
theorem gnum_any (b n W : Nat) (l : List Nat) (w : World) (hV : Gr w b l) (hW : W ≤ 4) (hl : l.length ≤ 100000000) (hn : n < 9223372036854775808) (v : Int) (hv : (W : Int) = v) (x : Int) (hx : (n : Int) = x) :
    Calls Tryd.prog 48 #[.pointer (some ⟨b, 0, none⟩), .int .i64 x, .int .i64 v] w fun e w' => e = .returned (.tuple #[]) ∧ Gr w' b (l ++ numLE n W) ∧ KU w w' b := by
  subst hv hx
  obtain ⟨ad, cap, h⟩ := hV
  refine (gnumX_any b n W l ad cap w h hW hn hl).mono ?_
  rintro e w' ⟨rfl, ad', cap', h', k, -⟩
  exact ⟨rfl, ⟨ad', cap', h'⟩, k.ku h⟩
/-- a text that lies below the writer, or behind all that was there when the writer stood so. -/
theorem gtext_any (b : Nat) (l : List Nat) (w0 w : World) (hV : Gr w0 b l) (hb : Below w0.heap.size w0 w) (hl : l.length ≤ 99000000) (xa : Option Addr) (xn xc : Nat) (m : List Nat) (hx : BytesV w (xa, xn, xc) m) (hn : xn ≤ 900000)
    (hap : 0 < xn → ∀ a, xa = some a → a.block < b ∨ w0.heap.size ≤ a.block) :
    Calls Tryd.prog 49 #[.pointer (some ⟨b, 0, none⟩), .slice xa xn xc] w fun e w' => e = .returned (.tuple #[]) ∧ Gr w' b (l ++ (numLE xn 1 ++ m)) ∧ KU w w' b := by
  obtain ⟨ad, cap, h⟩ := hV
  have hlt := (Array.getElem?_eq_some_iff.1 h.hh).1
  refine (gtextX_any b l ad cap xa xn xc m w (h.below hb) hl hx hn (fun h0 a ha => ?_)).mono ?_
  · rcases hap h0 a ha with k | k
    · exact ⟨by omega, fun e => by have := h.ob_ge e.symm; omega⟩
    · exact ⟨by omega, fun e => by have := h.ob_ge e.symm; omega⟩
  · rintro e w' ⟨rfl, h', k⟩
    exact ⟨rfl, h', k.ku (h.below hb)⟩
end Go.Proofs.YtopnjjehefaghaaDoor
