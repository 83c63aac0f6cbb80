/-
  msg's reference: put, text, meta: onto a row of the caller's own.
-/
import Derived.Test.YtopnjjehefaghaaDoorMMgE
namespace Go.Proofs.YtopnjjehefaghaaDoor
open Go.RowKit

/-- a row of bytes of one's own, as a value. -/
def OwB (w : World) (B : Nat) (a : Option Addr) (c : Nat) (l : List Nat) : Prop := w.ownsRow B 5 1 (.slice a l.length c) l.length (l.map bv)
/-- what stays while one appends to it. -/
structure KA (w w' : World) (o : Option Nat) : Prop where
  os : w'.os = w.os
  tape : w'.tape = w.tape
  output : w'.output = w.output
  size : w.heap.size ≤ w'.heap.size
  block : ∀ q, q < w.heap.size → some q ≠ o → w'.heap[q]? = w.heap[q]?
theorem KA.refl (w : World) (o : Option Nat) : KA w w o := ⟨rfl, rfl, rfl, Nat.le_refl _, fun _ _ _ => rfl⟩
theorem KA.trans {w w1 w2 : World} {o o1 : Option Nat} (h : KA w w1 o) (k : KA w1 w2 o1) (ho : o1 = o ∨ ∀ q, o1 = some q → w.heap.size ≤ q) : KA w w2 o :=
  ⟨k.os.trans h.os, k.tape.trans h.tape, k.output.trans h.output, Nat.le_trans h.size k.size, fun q h1 h3 => (k.block q (Nat.lt_of_lt_of_le h1 h.size) (fun e => by
    rcases ho with ho | ho
    · exact h3 (e.trans ho)
    · have := ho q e.symm; omega)).trans (h.block q h1 h3)⟩
theorem KA.of_below {w w' : World} {o : Option Nat} (h : Below w.heap.size w w') : KA w w' o := ⟨h.os, h.tape, h.output, h.size, fun q hq _ => h.block q hq⟩
theorem KA.of_grown {w w' : World} {o : Option Nat} (h : w.grownBy w' o) : KA w w' o := ⟨h.os, h.tape, h.output, h.size, fun q h1 h3 => h.block q h1 h3⟩
theorem OwB.ge {w : World} {B : Nat} {a : Option Addr} {c : Nat} {l : List Nat} (h : OwB w B a c l) {q : Nat} (e : ob a = some q) : B ≤ q ∧ q < w.heap.size := by
  rw [← ob_eq a l.length c] at e
  exact World.ownsRow.lt h q e
theorem KA.below {w w' : World} {B : Nat} {a : Option Addr} {c : Nat} {l : List Nat} (h : KA w w' (ob a)) (ho : OwB w B a c l) (hs : B ≤ w.heap.size) : Below B w w' :=
  ⟨h.os, h.tape, h.output, h.size, fun q hq => h.block q (by omega) (fun e => by have := ho.ge e.symm; omega)⟩
theorem own_ne_boxM {W : World} {B : Nat} {v : Value} {n : Nat} {xs : List Value} (h : W.ownsRow B 5 1 v n xs) {g : Nat} {cs : Array Value} {T : TypeId} {fr : Nat × Nat} (hg : W.heap[g]? = some (.cells cs T fr)) (hT : T ≠ 5) : v.ownBlock ≠ some g := by
  rcases h.2 with ⟨rfl, -⟩ | ⟨g', cap, cur, rfl, -, hg', -⟩
  · simp [Value.ownBlock]
  · simp only [Value.ownBlock]
    intro e
    injection e with e
    subst e
    rw [hg] at hg'
    injection hg' with hg'
    injection hg' with _ h2 _
    exact hT h2
theorem KA.box {w w' : World} {B g : Nat} {a : Option Addr} {c : Nat} {l : List Nat} {cs : Array Value} {T : TypeId} (h : KA w w' (ob a)) (ho : OwB w B a c l) (hg : w.heap[g]? = some (.cells cs T (0, 0))) (hT : T ≠ 5) : w'.heap[g]? = some (.cells cs T (0, 0)) :=
  (h.block g (Array.getElem?_eq_some_iff.1 hg).1 (fun e => own_ne_boxM ho hg hT (by rw [ob_eq]; exact e.symm))).trans hg
/-- one's own row, longer. -/
def GrowB (w : World) (B : Nat) (a0 : Option Addr) (l : List Nat) (e : Ending) (w' : World) : Prop := ∃ ad cap, e = .returned (.slice ad l.length cap) ∧ OwB w' B ad cap l ∧ KA w w' (ob a0) ∧ (ob ad = ob a0 ∨ ∀ q, ob ad = some q → w.heap.size ≤ q)
set_option maxRecDepth 10000 in
set_option maxHeartbeats 4000000 in
theorem rput_any (B n W : Nat) (l : List Nat) (a0 : Option Addr) (c0 : Nat) (w : World) (hO : OwB w B a0 c0 l) (hB : B ≤ w.heap.size) (hW : W ≤ 4) (_hn : n < 9223372036854775808) (hl : l.length ≤ 100000000) :
    Calls Tryd.prog 52 #[.slice a0 l.length c0, .int .i64 n, .int .i64 W] w (GrowB w B a0 (l ++ numLE n W)) := by
  obtain ⟨i0, hi, hz0, hz1, hz2⟩ := info_partsM Tryd.infoU8
  have HO0 := Lib.hid hO
  clear hO
  go_enter Tryd.func52, Tryd.ntmps52
  go_wp2
  go_loopw [0, 7] (fun v i wr => ∃ (j : Nat) (L : List Nat) (ad : Option Addr) (cap : Nat), j ≤ W ∧ i = .int .i64 (j : Nat) ∧ v = .slice ad L.length cap ∧ L.length ≤ 100000000 + j ∧ Hid (L = l ++ numLE n j) ∧ Hid (OwB wr B ad cap L) ∧ Hid (KA w wr (ob a0)) ∧ Hid (ob ad = ob a0 ∨ ∀ q, ob ad = some q → w.heap.size ≤ q)) (fun _ i _ => W - (intOf i).toNat)
  case atStart => exact ⟨0, l, a0, c0, Nat.zero_le _, rfl, rfl, by omega, Lib.hid (by rw [show numLE n 0 = [] from rfl, List.append_nil]), HO0, Lib.hid (KA.refl _ _), Lib.hid (.inl rfl)⟩
  case round =>
    clear HO0
    obtain ⟨j, L, ad, cap, hj, rfl, rfl, hLl, HL, HO, HK, HOB⟩ := hrel
    by_cases hlt : j < W
    · obtain ⟨y, hy⟩ : ∃ y, y = n / 256 ^ j % 256 := ⟨_, rfl⟩
      have hp : (2 : Int) ^ (8 * j) = ((256 ^ j : Nat) : Int) := by
        rw [show (256 : Nat) = 2 ^ 8 from rfl, ← Nat.pow_mul]
        simp
      have hwr : IntKind.u8.wrap ((n : Int) / 2 ^ (8 * j)) = (y : Int) := by
        rw [hp, hy]
        simp [IntKind.wrap, IntKind.bits, IntKind.signed]
      have HY := Lib.hid hy
      have hsz : B ≤ wr.heap.size := Nat.le_trans hB HK.out.size
      clear hy hp
      go_wp2_with (first | (at_builtin; refine Hid.out ?_))
      refine Lib.hid ?_
      refine wpList_append_lies _ rfl (.tmp 13) (.tmp 20) 24 rfl B 5 i0 (.int .u8 0) 1 1 Tryd.underlying24 hi hz0 hz1 hz2 rfl (by decide) (.slice ad L.length cap) L.length (L.map bv) rfl (show (wr.alloc (.cells #[.int .u8 (y : Nat)] 5)).ownsRow B 5 1 (.slice ad L.length cap) L.length (L.map bv) from World.ownsRow.alloc HO.out _) ⟨wr.heap.size, 0, none⟩ 1 1 [bv y] rfl rfl (World.news_of_block (heap_alloc_new wr _)) (bv_one [y]) (by decide) (by simp [maxLen]; omega) (by omega) (by simp; omega) _ rfl ?_
      intro g4 cap4 w4 hown4 hgrow4 hat _
      have hel : (L ++ [y]).length = L.length + 1 := by simp
      have HO4 : Hid (OwB w4 B (some ⟨g4, 0, none⟩) cap4 (L ++ [y])) := Lib.hid (by unfold OwB; rw [hel, List.map_append]; exact hown4)
      have hk4 : KA wr w4 (ob ad) := (KA.of_below (below_alloc wr (.cells #[.int .u8 (y : Nat)] 5))).trans (KA.of_grown (by rw [← ob_eq ad L.length cap]; exact hgrow4)) (.inl rfl)
      have HK4 := Lib.hid (HK.out.trans hk4 HOB.out)
      have HOB4 : Hid (ob (some ⟨g4, 0, none⟩) = ob a0 ∨ ∀ q, ob (some ⟨g4, 0, none⟩) = some q → w.heap.size ≤ q) := Lib.hid (by
        have hsz := HK.out.size
        rcases hat with h | h
        · rw [ob_eq] at h
          rw [show ob (some ⟨g4, 0, none⟩) = ob ad from h.symm]
          exact HOB.out
        · refine .inr fun q hq => ?_
          have e : g4 = q := by simpa [ob, Value.ownBlock] using hq
          simp at h
          omega)
      have HL4 := Lib.hid (show L ++ [y] = l ++ numLE n (j + 1) by rw [numLE_succ, ← List.append_assoc, ← HL.out, ← HY.out])
      clear hown4 hgrow4 hat hk4
      go_wp2
      go_roundw
      case rel => exact ⟨j + 1, L ++ [y], some ⟨g4, 0, none⟩, cap4, by omega, by go_num, by rw [hel], by rw [hel]; omega, HL4, HO4, HK4, HOB4⟩
      case measure => simp [intOf] <;> omega
    · obtain rfl : j = W := by omega
      go_wp2
      go_ret
      rw [← HL.out]
      exact ⟨ad, cap, rfl, HO.out, HK.out, HOB.out⟩
theorem rput_is (B n W : Nat) (l : List Nat) (a0 : Option Addr) (c0 : Nat) (w : World) (hO : OwB w B a0 c0 l) (hB : B ≤ w.heap.size) (hW : W ≤ 4) (hn : n < 9223372036854775808) (hl : l.length ≤ 100000000) (v : Int) (hv : (W : Int) = v) (x : Int) (hx : (n : Int) = x) :
    Calls Tryd.prog 52 #[.slice a0 l.length c0, .int .i64 x, .int .i64 v] w (GrowB w B a0 (l ++ numLE n W)) := by
  subst hv hx
  exact rput_any B n W l a0 c0 w hO hB hW hn hl
set_option maxRecDepth 10000 in
set_option maxHeartbeats 4000000 in
theorem rtext_any (B : Nat) (l : List Nat) (a0 : Option Addr) (c0 : Nat) (xa : Option Addr) (xn xc : Nat) (m : List Nat) (w : World) (hO : OwB w B a0 c0 l) (hB : B ≤ w.heap.size) (hl : l.length ≤ 99000000) (hx : BytesV w (xa, xn, xc) m) (hn : xn ≤ 255) (hap : 0 < xn → ∀ a, xa = some a → some a.block ≠ ob a0) :
    Calls Tryd.prog 51 #[.slice a0 l.length c0, .slice xa xn xc] w fun e w' => ∃ ad cap, e = .returned (.slice ad (l ++ (numLE xn 1 ++ m)).length cap) ∧ OwB w' B ad cap (l ++ (numLE xn 1 ++ m)) ∧ KA w w' (ob a0) := by
  obtain ⟨i0, hi, hz0, hz1, hz2⟩ := info_partsM Tryd.infoU8
  have hml : m.length = xn := hx.length
  have HX := Lib.hid hx
  have HAP := Lib.hid hap
  have HML := Lib.hid hml
  have HO := Lib.hid hO
  have hwr : IntKind.u8.wrap (xn : Int) = (xn : Int) := by simp [IntKind.wrap, IntKind.bits, IntKind.signed]; omega
  clear hml hx hap hO
  go_enter Tryd.func51, Tryd.ntmps51
  go_wp2_with (first | (at_builtin; refine Hid.out ?_))
  refine Lib.hid ?_
  refine wpList_append_lies _ rfl (.tmp 5) (.tmp 9) 24 rfl B 5 i0 (.int .u8 0) 1 1 Tryd.underlying24 hi hz0 hz1 hz2 rfl (by decide) (.slice a0 l.length c0) l.length (l.map bv) rfl (show (w.alloc (.cells #[.int .u8 (xn : Nat)] 5)).ownsRow B 5 1 (.slice a0 l.length c0) l.length (l.map bv) from World.ownsRow.alloc HO.out _) ⟨w.heap.size, 0, none⟩ 1 1 [bv xn] rfl rfl (World.news_of_block (heap_alloc_new w _)) (bv_one [xn]) (by decide) (by simp [maxLen]; omega) (by omega) (by simp; omega) _ rfl ?_
  intro g4 cap4 w4 hown4 hgrow4 hat _
  have hk4 : KA w w4 (ob a0) := (KA.of_below (below_alloc w (.cells #[.int .u8 (xn : Nat)] 5))).trans (KA.of_grown (by rw [← ob_eq a0 l.length c0]; exact hgrow4)) (.inl rfl)
  have hob4 : ob (some ⟨g4, 0, none⟩) = ob a0 ∨ ∀ q, ob (some ⟨g4, 0, none⟩) = some q → w.heap.size ≤ q := by
    rcases hat with h | h
    · rw [ob_eq] at h
      exact .inl h.symm
    · refine .inr fun q hq => ?_
      have e : g4 = q := by simpa [ob, Value.ownBlock] using hq
      simp at h
      omega
  have hr4 : RowV w4 xa xn (m.map bv) := HX.out.row.kept' fun h0 a ha => hk4.block a.block (HX.out.row.lt h0 ha) (HAP.out h0 a ha)
  have HK4 := Lib.hid hk4
  have HOB4 := Lib.hid hob4
  have HR4 := Lib.hid hr4
  have HO4 := Lib.hid hown4
  have hs4 := hk4.size
  clear hown4 hgrow4 hat hk4 hob4 hr4
  go_wp2_with (first | (at_builtin; refine Hid.out ?_))
  refine Lib.hid ?_
  refine wpList_append_row rfl (.tmp 11) (.tmp 12) 24 rfl B 5 i0 (.int .u8 0) 1 Tryd.underlying24 hi hz0 hz1 hz2 rfl _ _ _ rfl HO4.out xa xn xc (m.map bv) rfl HR4.out HX.out.nil (bv_one m) (by unfold maxLen; omega) (by omega) (by omega) ?_
  intro v5 w5 hown5 hgrow5 _
  obtain ⟨ad5, cap5, rfl, -⟩ := ownsRow_parts hown5
  have hel : (l ++ (numLE xn 1 ++ m)).length = l.length + 1 + xn := by simp only [List.length_append, numLE_len, HML.out]; omega
  have HO5 : Hid (OwB w5 B ad5 cap5 (l ++ (numLE xn 1 ++ m))) := Lib.hid (by
    unfold OwB
    rw [hel, numLE_one, Nat.mod_eq_of_lt (by omega)]
    have e : (l ++ ([xn] ++ m)).map bv = l.map bv ++ [bv xn] ++ m.map bv := by simp
    rw [e]
    exact hown5)
  have HK5 := Lib.hid (HK4.out.trans (KA.of_grown (o := ob (some ⟨g4, 0, none⟩)) (by rw [← ob_eq (some ⟨g4, 0, none⟩) (l.length + 1) cap4]; exact hgrow5)) HOB4.out)
  clear hown5 hgrow5
  go_wp2
  go_ret
  exact ⟨ad5, cap5, by rw [hel]; rfl, HO5.out, HK5.out⟩
end Go.Proofs.YtopnjjehefaghaaDoor
