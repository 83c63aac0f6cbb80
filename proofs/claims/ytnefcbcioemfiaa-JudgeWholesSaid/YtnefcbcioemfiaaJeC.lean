/-
  The reference of the judge: Keys.
-/
import Derived.Test.YtnefcbcioemfiaaJeB
import Derived.Test.YtnefcbcioemfiaaJeL
namespace Go.Proofs.Ytnefcbcioemfiaa
open Go Go.RowKit

abbrev STR : TypeId := 9
theorem keyList_succ {xs : List ActR} {i : Nat} {A : ActR} (hA : xs[i]? = some A) : keyList (xs.take (i + 1)) = keyList (xs.take i) ++ (if keyedB A then [A.key] else []) := by
  obtain ⟨hl, e⟩ := List.getElem?_eq_some_iff.1 hA
  unfold keyList
  rw [List.take_succ_eq_append_getElem hl, List.filter_append, List.map_append, e]
  cases h : keyedB A <;> simp [h]
theorem keyed_range (A : ActR) : keyedB A = decide (1 ≤ A.d ∧ A.d ≤ 3) := by
  rw [Bool.eq_iff_iff, decide_eq_true_eq]
  unfold keyedB
  simp only [Bool.or_eq_true, decide_eq_true_eq]
  omega
/-- the keys so far. -/
structure KeyI (W w : World) (xs : List ActR) (i : Nat) (ka : Option Addr) (kn : Nat) (L : List ByteArray) : Prop where
  row : RowV W ka kn (L.map Value.string)
  mem : ∀ k, k ∈ L ↔ k ∈ keyList (xs.take i)
  up : UpK L
  le : kn ≤ i
  low : Below w.heap.size w W
theorem KeyI.below {W W' w : World} {xs : List ActR} {i : Nat} {ka : Option Addr} {kn : Nat} {L : List ByteArray} (h : KeyI W w xs i ka kn L) (hb : Below W.heap.size W W') : KeyI W' w xs i ka kn L := ⟨h.row.below hb, h.mem, h.up, h.le, h.low.trans (hb.mono h.low.size)⟩
theorem KeyI.skip {W w : World} {xs : List ActR} {i : Nat} {ka : Option Addr} {kn : Nat} {L : List ByteArray} (h : KeyI W w xs i ka kn L) {A : ActR} (hA : xs[i]? = some A) (hk : keyedB A = false) : KeyI W w xs (i + 1) ka kn L :=
  ⟨h.row, fun k => by rw [h.mem, keyList_succ hA, hk]; simp, h.up, Nat.le_succ_of_le h.le, h.low⟩
/-- the new list. -/
structure OutI (W wr : World) (L : List ByteArray) (key : ByteArray) (j : Nat) (ad : Option Addr) (n c : Nat) (out : List ByteArray) (put there : Bool) : Prop where
  own : W.ownsRow wr.heap.size STR 1 (.slice ad n c) n (out.map Value.string)
  mem : ∀ k, k ∈ out ↔ (k ∈ L.take j ∨ (put = true ∧ k = key))
  th : there = true ↔ key ∈ L.take j
  srt : SrtO L key j out put
  le : n ≤ j + put.toNat
  low : Below wr.heap.size wr W
theorem OutI.below {W W' wr : World} {L : List ByteArray} {key : ByteArray} {j : Nat} {ad : Option Addr} {n c : Nat} {out : List ByteArray} {put there : Bool} (h : OutI W wr L key j ad n c out put there) (hb : Below W.heap.size W W') : OutI W' wr L key j ad n c out put there := ⟨own_belowJ h.own hb, h.mem, h.th, h.srt, h.le, h.low.trans (hb.mono h.low.size)⟩
theorem OutI.start {wr : World} (L : List ByteArray) (key : ByteArray) : OutI (wr.alloc (.cells #[] STR)) wr L key 0 (some ⟨wr.heap.size, 0, none⟩) 0 0 [] false false :=
  ⟨World.ownsRow_made (base := wr.heap.size) (e := STR) (size := 1) wr #[] 0 (Nat.le_refl _) (by simp [maxLen]) rfl, fun k => by simp, by simp, SrtO.start L key, Nat.le_refl _, below_alloc wr _⟩
theorem OutI.push {W W' wr : World} {L : List ByteArray} {key : ByteArray} {j : Nat} {ad : Option Addr} {n c : Nat} {out : List ByteArray} {there : Bool} (h : OutI W wr L key j ad n c out false there) {ad' : Option Addr} {c' : Nat} (ho : W'.ownsRow wr.heap.size STR 1 (.slice ad' (n + 1) c') (n + 1) (out.map Value.string ++ [.string key])) (hl : Below wr.heap.size wr W') (hup : ∀ x ∈ L.drop j, ltK key x = true) : OutI W' wr L key j ad' (n + 1) c' (out ++ [key]) true there :=
  ⟨by rw [List.map_append]; exact ho, fun k => by rw [List.mem_append, h.mem]; simp, h.th, h.srt.push h.mem hup, by have := h.le; simp at this ⊢; omega, hl⟩
theorem OutI.next {W W' wr : World} {L : List ByteArray} {key : ByteArray} {j : Nat} {ad : Option Addr} {n c : Nat} {out : List ByteArray} {put there th2 : Bool} (h : OutI W wr L key j ad n c out put there) {q : ByteArray} (hq : L[j]? = some q) (ht : th2 = (there || decide (q = key))) (hL : UpK L) (hd : put = false → ltK key q = false) {ad' : Option Addr} {c' : Nat} (ho : W'.ownsRow wr.heap.size STR 1 (.slice ad' (n + 1) c') (n + 1) (out.map Value.string ++ [.string q])) (hl : Below wr.heap.size wr W') : OutI W' wr L key (j + 1) ad' (n + 1) c' (out ++ [q]) put th2 := by
  obtain ⟨hjl, e⟩ := List.getElem?_eq_some_iff.1 hq
  have ht2 : L.take (j + 1) = L.take j ++ [q] := by rw [List.take_succ_eq_append_getElem hjl, e]
  refine ⟨by rw [List.map_append]; exact ho, fun k => ?_, ?_, h.srt.next hL hq h.mem hd, by have := h.le; omega, hl⟩
  · rw [List.mem_append, h.mem, ht2, List.mem_append, List.mem_singleton]
    constructor
    · rintro ((h1 | h1) | h1)
      · exact .inl (.inl h1)
      · exact .inr h1
      · exact .inl (.inr h1)
    · rintro ((h1 | h1) | h1)
      · exact .inl (.inl h1)
      · exact .inr h1
      · exact .inl (.inr h1)
  · rw [ht, Bool.or_eq_true, h.th, ht2, List.mem_append, List.mem_singleton, decide_eq_true_eq]
    constructor
    · rintro (h1 | h1)
      · exact .inl h1
      · exact .inr h1.symm
    · rintro (h1 | h1)
      · exact .inl h1
      · exact .inr h1.symm
theorem KeyI.newer {W wr w : World} {xs : List ActR} {i : Nat} {ka : Option Addr} {kn : Nat} {L : List ByteArray} (h : KeyI wr w xs i ka kn L) {A : ActR} (hA : xs[i]? = some A) (hk : keyedB A = true) {ad : Option Addr} {n c : Nat} {out : List ByteArray} (ho : OutI W wr L A.key kn ad n c out true false) : KeyI W w xs (i + 1) ad n out := by
  have hL : L.length = kn := by have := h.row.1; simpa using this
  obtain ⟨ad', cap', e, -, -, -, hrow⟩ := ownsRow_parts ho.own
  cases e
  refine ⟨hrow, fun k => ?_, ho.srt.s (fun hin => nomatch (ho.th.2 (by rw [List.take_of_length_le (by omega)]; exact hin))), by have := ho.le; have := h.le; simp at *; omega, h.low.trans (ho.low.mono h.low.size)⟩
  rw [ho.mem, List.take_of_length_le (by omega), h.mem, keyList_succ hA, hk, List.mem_append]
  simp
theorem KeyI.same {W wr w : World} {xs : List ActR} {i : Nat} {ka : Option Addr} {kn : Nat} {L : List ByteArray} (h : KeyI wr w xs i ka kn L) {A : ActR} (hA : xs[i]? = some A) (hk : keyedB A = true) {ad : Option Addr} {n c : Nat} {out : List ByteArray} {put : Bool} (ho : OutI W wr L A.key kn ad n c out put true) : KeyI W w xs (i + 1) ka kn L := by
  have hL : L.length = kn := by have := h.row.1; simpa using this
  have hin : A.key ∈ L := by have := ho.th.1 rfl; rwa [List.take_of_length_le (by omega)] at this
  refine ⟨h.row.below ho.low, fun k => ?_, h.up, Nat.le_succ_of_le h.le, h.low.trans (ho.low.mono h.low.size)⟩
  rw [keyList_succ hA, hk, List.mem_append, ← h.mem]
  constructor
  · exact .inl
  · rintro (h1 | h1)
    · exact h1
    · simp at h1; rw [h1]; exact hin
theorem rowOne (W : World) (v : Value) (T : TypeId) : RowV (W.alloc (.cells #[v] T)) (some ⟨W.heap.size, 0, none⟩) 1 [v] := ⟨rfl, fun _ => ⟨W.heap.size, 0, rfl, fun i hi => by
  obtain rfl : i = 0 := by omega
  exact cell_of_row _ _ 0 _ _ _ (heap_alloc_new W _)⟩⟩

set_option maxRecDepth 100000 in
set_option maxHeartbeats 16000000 in
theorem refKeys_up (aa : Option Addr) (an ac : Nat) (xs : List ActR) (w : World) (h : ActsV w aa an xs) (hac : an ≤ ac) (hn : an ≤ 1000000) :
    Calls Try.prog 15 #[.slice aa an ac] w (GivesKeysU xs w) := by
  obtain ⟨i0, hi, hz0, hz1, hz2⟩ := info_parts infoStrJ
  have H := Lib.hid h
  have hxl : xs.length = an := h.len
  have HXL := Lib.hid hxl
  have I1 : Hid (KeyI (w.alloc (.cells #[] STR)) w xs 0 (some ⟨w.heap.size, 0, none⟩) 0 []) := Lib.hid ⟨⟨rfl, fun h => absurd h (Nat.lt_irrefl _)⟩, fun k => by simp [keyList], List.Pairwise.nil, Nat.le_refl _, below_alloc w _⟩
  clear h hxl
  go_enter Try.func15, Try.ntmps15
  go_wp2_with fail
  go_loopw [3, 4] (fun vk vi wr => ∃ (i : Nat) (ka : Option Addr) (kn kc : Nat) (L : List ByteArray), i ≤ an ∧ vi = .int .i64 (i : Nat) ∧ vk = .slice ka kn kc ∧ Hid (KeyI wr w xs i ka kn L)) (fun _ vi _ => an - (intOf vi).toNat)
  case atStart => exact ⟨0, _, 0, 0, [], Nat.zero_le _, rfl, rfl, I1⟩
  case round =>
    clear I1
    obtain ⟨i, ka, kn, kc, L, hin, rfl, rfl, HK⟩ := hrel
    by_cases hlt : i < an
    · have hi0 : (0 : Int) ≤ (i : Int) := by omega
      have hi1 : (i : Int) < (an : Int) := by omega
      have hkn : kn ≤ i := HK.out.le
      obtain ⟨b, o, A, x, y, z, eaa, hA1, hA, at0⟩ := H.out.at hlt
      have at1 := at0.below HK.out.low
      have HAT := Lib.hid at0
      have c1 := at1.c1
      have HA := Lib.hid hA1
      subst eaa
      clear hA1 hA at0 at1
      by_cases hd1 : A.d < 1
      · have HN := Lib.hid (HK.out.skip HA.out (by rw [keyed_range]; exact decide_eq_false (by omega)))
        go_wp2
        go_roundw
        case rel => exact ⟨i + 1, ka, kn, kc, L, by omega, by go_num, rfl, HN⟩
        case measure => simp [intOf]; omega
      by_cases hd3 : 3 < A.d
      · have HN := Lib.hid (HK.out.skip HA.out (by rw [keyed_range]; exact decide_eq_false (by omega)))
        go_wp2
        go_roundw
        case rel => exact ⟨i + 1, ka, kn, kc, L, by omega, by go_num, rfl, HN⟩
        case measure => simp [intOf]; omega
      have HKD : Hid (keyedB A = true) := Lib.hid (by rw [keyed_range]; exact decide_eq_true (by omega))
      have I2 : Hid (OutI (wr.alloc (.cells #[] STR)) wr L A.key 0 (some ⟨wr.heap.size, 0, none⟩) 0 0 [] false false) := Lib.hid (OutI.start L A.key)
      obtain ⟨key, hkey⟩ : ∃ q, q = A.key := ⟨_, rfl⟩
      rw [← hkey] at I2
      have HKEY := Lib.hid hkey
      have HC : Hid (∀ W, Below wr.heap.size wr W → W.cell? ⟨b, o + i * 15 + 4, none⟩ = some (.string key)) := Lib.hid fun W hW => by
        rw [hkey]; exact (HAT.out.below (HK.out.low.trans (hW.mono HK.out.low.size))).c4
      clear hkey
      go_wp2_with fail
      go_loopw [5, 6, 7, 8] (fun vo vp vt vj wi => ∃ (j : Nat) (ad : Option Addr) (n c : Nat) (out : List ByteArray) (put there : Bool), j ≤ kn ∧ vj = .int .i64 (j : Nat) ∧ vo = .slice ad n c ∧ vp = .bool put ∧ vt = .bool there ∧ Hid (OutI wi wr L key j ad n c out put there)) (fun _ _ _ vj _ => kn - (intOf vj).toNat)
      case atStart => exact ⟨0, _, 0, 0, [], false, false, Nat.zero_le _, rfl, rfl, rfl, rfl, I2⟩
      case round =>
        clear I2
        rename World => wi
        obtain ⟨j, ad, n, c, out, put, there, hjn, rfl, rfl, rfl, rfl, HO⟩ := hrel
        by_cases hjl : j < kn
        · have hj0 : (0 : Int) ≤ (j : Int) := by omega
          have hj1 : (j : Int) < (kn : Int) := by omega
          have hnl : n ≤ j + 1 := by have := HO.out.le; have : put.toNat ≤ 1 := Bool.toNat_le _; omega
          obtain ⟨kb, ko, ekk, hkc⟩ := HK.out.row.2 (by omega)
          subst ekk
          have hkl : L.length = kn := by have := HK.out.row.1; simpa using this
          obtain ⟨q, hq⟩ : ∃ q, L[j]? = some q := ⟨_, List.getElem?_eq_getElem (by omega)⟩
          have HCQ : Hid (∀ W, Below wr.heap.size wr W → W.cell? ⟨kb, ko + j, none⟩ = some (.string q)) := Lib.hid fun W hW => by
            have h1 := hkc j hjl
            rw [List.getElem?_map, hq, Option.map_some] at h1
            exact cellBelow h1 hW
          have HQ := Lib.hid hq
          clear hkc hkl hq
          have P0 : wi.drew.cell? ⟨b, o + i * 15 + 4, none⟩ = some (.string key) ∧ wi.drew.cell? ⟨kb, ko + j, none⟩ = some (.string q) := ⟨HC.out wi.drew HO.out.low.drew, HCQ.out wi.drew HO.out.low.drew⟩
          go_upto_region 12 with fail
          go_cut [7] (fun v wx => ∃ th2, v = .bool th2 ∧ Hid (th2 = (there || decide (q = key))) ∧ Hid (Below wi.heap.size wi wx))
          case first =>
            cases there with
            | true =>
              refine GoX.start 13 (fun w' => w'.cell? ⟨b, o + i * 15 + 4, none⟩ = some (.string key) ∧ w'.cell? ⟨kb, ko + j, none⟩ = some (.string q)) (by kernel_rfl) ?_
              refine GoX.take 0 rfl (by kernel_rfl) (by kernel_rfl) (by rfl) (fun _ _ _ h => h) (v := ?tv0g1) P0 ?ty0g1 ?tr0g1
              case ty0g1 => (intro w hSw; (try dsimp only at hSw); go_simp; first | done | with_reducible rfl)
              simp only [Act.put, List.setIfInBounds_toArray, List.set_cons_zero, List.set_cons_succ]
              refine GoX.take 1 rfl (by kernel_rfl) (by kernel_rfl) (by rfl) (fun _ _ _ h => h) (v := ?tv1g2) P0 ?ty1g2 ?tr1g2
              case ty1g2 => (intro w hSw; (try dsimp only at hSw); go_simp; first | done | with_reducible rfl)
              simp only [Act.put, List.setIfInBounds_toArray, List.set_cons_zero, List.set_cons_succ]
              refine GoX.skip 2 rfl (by kernel_rfl) (by kernel_rfl) (by rfl) (fun _ _ _ h => h) P0 ?_
              simp only [Act.put, List.setIfInBounds_toArray, List.set_cons_zero, List.set_cons_succ]
              refine GoX.skip 3 rfl (by kernel_rfl) (by kernel_rfl) (by rfl) (fun _ _ _ h => h) P0 ?_
              simp only [Act.put, List.setIfInBounds_toArray, List.set_cons_zero, List.set_cons_succ]
              refine GoX.skip 4 rfl (by kernel_rfl) (by kernel_rfl) (by rfl) (fun _ _ _ h => h) P0 ?_
              simp only [Act.put, List.setIfInBounds_toArray, List.set_cons_zero, List.set_cons_succ]
              refine GoX.skip 5 rfl (by kernel_rfl) (by kernel_rfl) (by rfl) (fun _ _ _ h => h) P0 ?_
              simp only [Act.put, List.setIfInBounds_toArray, List.set_cons_zero, List.set_cons_succ]
              refine GoX.skip 6 rfl (by kernel_rfl) (by kernel_rfl) (by rfl) (fun _ _ _ h => h) P0 ?_
              simp only [Act.put, List.setIfInBounds_toArray, List.set_cons_zero, List.set_cons_succ]
              refine GoX.skip 7 rfl (by kernel_rfl) (by kernel_rfl) (by rfl) (fun _ _ _ h => h) P0 ?_
              simp only [Act.put, List.setIfInBounds_toArray, List.set_cons_zero, List.set_cons_succ]
              refine GoX.skip 8 rfl (by kernel_rfl) (by kernel_rfl) (by rfl) (fun _ _ _ h => h) P0 ?_
              simp only [Act.put, List.setIfInBounds_toArray, List.set_cons_zero, List.set_cons_succ]
              refine GoX.skip 9 rfl (by kernel_rfl) (by kernel_rfl) (by rfl) (fun _ _ _ h => h) P0 ?_
              simp only [Act.put, List.setIfInBounds_toArray, List.set_cons_zero, List.set_cons_succ]
              refine GoX.skip 10 rfl (by kernel_rfl) (by kernel_rfl) (by rfl) (fun _ _ _ h => h) P0 ?_
              simp only [Act.put, List.setIfInBounds_toArray, List.set_cons_zero, List.set_cons_succ]
              refine GoX.skip 11 rfl (by kernel_rfl) (by kernel_rfl) (by rfl) (fun _ _ _ h => h) P0 ?_
              simp only [Act.put, List.setIfInBounds_toArray, List.set_cons_zero, List.set_cons_succ]
              refine GoX.take 12 rfl (by kernel_rfl) (by kernel_rfl) (by rfl) (fun _ _ _ h => h) (v := ?tv12g3) P0 ?ty12g3 ?tr12g3
              case ty12g3 => (intro w hSw; (try dsimp only at hSw); go_simp; first | done | with_reducible rfl)
              simp only [Act.put, List.setIfInBounds_toArray, List.set_cons_zero, List.set_cons_succ]
              refine GoX.last 13 rfl (by kernel_rfl) (by kernel_rfl) (by decide) ?_
              go_wp2_with fail
              go_meet
              exact ⟨true, rfl, Lib.hid rfl, Lib.hid (Below.refl _ _).drew⟩
            | false =>
              refine GoX.start 13 (fun w' => w'.cell? ⟨b, o + i * 15 + 4, none⟩ = some (.string key) ∧ w'.cell? ⟨kb, ko + j, none⟩ = some (.string q)) (by kernel_rfl) ?_
              refine GoX.take 0 rfl (by kernel_rfl) (by kernel_rfl) (by rfl) (fun _ _ _ h => h) (v := ?tv0g4) P0 ?ty0g4 ?tr0g4
              case ty0g4 => (intro w hSw; (try dsimp only at hSw); go_simp; first | done | with_reducible rfl)
              simp only [Act.put, List.setIfInBounds_toArray, List.set_cons_zero, List.set_cons_succ]
              refine GoX.take 1 rfl (by kernel_rfl) (by kernel_rfl) (by rfl) (fun _ _ _ h => h) (v := ?tv1g5) P0 ?ty1g5 ?tr1g5
              case ty1g5 => (intro w hSw; (try dsimp only at hSw); go_simp; first | done | with_reducible rfl)
              simp only [Act.put, List.setIfInBounds_toArray, List.set_cons_zero, List.set_cons_succ]
              refine GoX.take 2 rfl (by kernel_rfl) (by kernel_rfl) (by rfl) (fun _ _ _ h => h) (v := ?tv2g6) P0 ?ty2g6 ?tr2g6
              case ty2g6 => (intro w hSw; (try dsimp only at hSw); go_simp; first | done | with_reducible rfl)
              simp only [Act.put, List.setIfInBounds_toArray, List.set_cons_zero, List.set_cons_succ]
              refine GoX.take 3 rfl (by kernel_rfl) (by kernel_rfl) (by rfl) (fun _ _ _ h => h) (v := ?tv3g7) P0 ?ty3g7 ?tr3g7
              case ty3g7 => (intro w hSw; (try dsimp only at hSw); go_simp; first | done | with_reducible rfl)
              simp only [Act.put, List.setIfInBounds_toArray, List.set_cons_zero, List.set_cons_succ]
              refine GoX.take 4 rfl (by kernel_rfl) (by kernel_rfl) (by rfl) (fun _ _ _ h => h) (v := ?tv4g8) P0 ?ty4g8 ?tr4g8
              case ty4g8 => (intro w hSw; (try dsimp only at hSw); go_simp; first | done | with_reducible rfl)
              simp only [Act.put, List.setIfInBounds_toArray, List.set_cons_zero, List.set_cons_succ]
              refine GoX.take 5 rfl (by kernel_rfl) (by kernel_rfl) (by rfl) (fun _ _ _ h => h) (v := ?tv5g9) P0 ?ty5g9 ?tr5g9
              case ty5g9 => (intro w hSw; (try dsimp only at hSw); go_simp; first | done | with_reducible rfl)
              simp only [Act.put, List.setIfInBounds_toArray, List.set_cons_zero, List.set_cons_succ]
              refine GoX.take 6 rfl (by kernel_rfl) (by kernel_rfl) (by rfl) (fun _ _ _ h => h) (v := ?tv6g10) P0 ?ty6g10 ?tr6g10
              case ty6g10 => (intro w hSw; (try dsimp only at hSw); go_simp; first | done | with_reducible rfl)
              simp only [Act.put, List.setIfInBounds_toArray, List.set_cons_zero, List.set_cons_succ]
              refine GoX.take 7 rfl (by kernel_rfl) (by kernel_rfl) (by rfl) (fun _ _ _ h => h) (v := ?tv7g11) P0 ?ty7g11 ?tr7g11
              case ty7g11 => (intro w hSw; (try dsimp only at hSw); go_simp; first | done | with_reducible rfl)
              simp only [Act.put, List.setIfInBounds_toArray, List.set_cons_zero, List.set_cons_succ]
              refine GoX.take 8 rfl (by kernel_rfl) (by kernel_rfl) (by rfl) (fun _ _ _ h => h) (v := ?tv8g12) P0 ?ty8g12 ?tr8g12
              case ty8g12 => (intro w hSw; (try dsimp only at hSw); go_simp; first | done | with_reducible rfl)
              simp only [Act.put, List.setIfInBounds_toArray, List.set_cons_zero, List.set_cons_succ]
              refine GoX.take 9 rfl (by kernel_rfl) (by kernel_rfl) (by rfl) (fun _ _ _ h => h) (v := ?tv9g13) P0 ?ty9g13 ?tr9g13
              case ty9g13 => (intro w hSw; (try dsimp only at hSw); go_simp; first | done | with_reducible rfl)
              simp only [Act.put, List.setIfInBounds_toArray, List.set_cons_zero, List.set_cons_succ]
              refine GoX.take 10 rfl (by kernel_rfl) (by kernel_rfl) (by rfl) (fun _ _ _ h => h) (v := ?tv10g14) P0 ?ty10g14 ?tr10g14
              case ty10g14 => (intro w hSw; (try dsimp only at hSw); go_simp; first | done | with_reducible rfl)
              simp only [Act.put, List.setIfInBounds_toArray, List.set_cons_zero, List.set_cons_succ]
              refine GoX.take 11 rfl (by kernel_rfl) (by kernel_rfl) (by rfl) (fun _ _ _ h => h) (v := ?tv11g15) P0 ?ty11g15 ?tr11g15
              case ty11g15 => (intro w hSw; (try dsimp only at hSw); go_simp; first | done | with_reducible rfl)
              simp only [Act.put, List.setIfInBounds_toArray, List.set_cons_zero, List.set_cons_succ]
              refine GoX.take 12 rfl (by kernel_rfl) (by kernel_rfl) (by rfl) (fun _ _ _ h => h) (v := ?tv12g16) P0 ?ty12g16 ?tr12g16
              case ty12g16 => (intro w hSw; (try dsimp only at hSw); go_simp; first | done | with_reducible rfl)
              simp only [Act.put, List.setIfInBounds_toArray, List.set_cons_zero, List.set_cons_succ]
              refine GoX.last 13 rfl (by kernel_rfl) (by kernel_rfl) (by decide) ?_
              clear P0
              go_wp2_with fail
              go_meet
              exact ⟨decide (q = key), by rw [← str_beqJ], Lib.hid (by simp), Lib.hid (Below.refl _ _).drew⟩
          case rest =>
          obtain ⟨th2, rfl, HTH, BX⟩ := hcut
          rename World => wA
          have O1 := Lib.hid (HO.out.below BX.out)
          clear HO BX P0
          have P0 : wA.drew.cell? ⟨b, o + i * 15 + 4, none⟩ = some (.string key) ∧ wA.drew.cell? ⟨kb, ko + j, none⟩ = some (.string q) := ⟨HC.out wA.drew O1.out.low.drew, HCQ.out wA.drew O1.out.low.drew⟩
          go_upto_region 13 with fail
          go_cut [63] (fun v wx => ∃ pq, v = .bool pq ∧ Hid (pq = (!put && ltK key q)) ∧ Hid (Below wA.heap.size wA wx))
          case first =>
            cases put with
            | true =>
              refine GoX.start 13 (fun w' => w'.cell? ⟨b, o + i * 15 + 4, none⟩ = some (.string key) ∧ w'.cell? ⟨kb, ko + j, none⟩ = some (.string q)) (by kernel_rfl) ?_
              refine GoX.take 0 rfl (by kernel_rfl) (by kernel_rfl) (by rfl) (fun _ _ _ h => h) (v := ?tv0g17) P0 ?ty0g17 ?tr0g17
              case ty0g17 => (intro w hSw; (try dsimp only at hSw); go_simp; first | done | with_reducible rfl)
              simp only [Act.put, List.setIfInBounds_toArray, List.set_cons_zero, List.set_cons_succ]
              refine GoX.take 1 rfl (by kernel_rfl) (by kernel_rfl) (by rfl) (fun _ _ _ h => h) (v := ?tv1g18) P0 ?ty1g18 ?tr1g18
              case ty1g18 => (intro w hSw; (try dsimp only at hSw); go_simp; first | done | with_reducible rfl)
              simp only [Act.put, List.setIfInBounds_toArray, List.set_cons_zero, List.set_cons_succ]
              refine GoX.take 2 rfl (by kernel_rfl) (by kernel_rfl) (by rfl) (fun _ _ _ h => h) (v := ?tv2g19) P0 ?ty2g19 ?tr2g19
              case ty2g19 => (intro w hSw; (try dsimp only at hSw); go_simp; first | done | with_reducible rfl)
              simp only [Act.put, List.setIfInBounds_toArray, List.set_cons_zero, List.set_cons_succ]
              refine GoX.skip 3 rfl (by kernel_rfl) (by kernel_rfl) (by rfl) (fun _ _ _ h => h) P0 ?_
              simp only [Act.put, List.setIfInBounds_toArray, List.set_cons_zero, List.set_cons_succ]
              refine GoX.skip 4 rfl (by kernel_rfl) (by kernel_rfl) (by rfl) (fun _ _ _ h => h) P0 ?_
              simp only [Act.put, List.setIfInBounds_toArray, List.set_cons_zero, List.set_cons_succ]
              refine GoX.skip 5 rfl (by kernel_rfl) (by kernel_rfl) (by rfl) (fun _ _ _ h => h) P0 ?_
              simp only [Act.put, List.setIfInBounds_toArray, List.set_cons_zero, List.set_cons_succ]
              refine GoX.skip 6 rfl (by kernel_rfl) (by kernel_rfl) (by rfl) (fun _ _ _ h => h) P0 ?_
              simp only [Act.put, List.setIfInBounds_toArray, List.set_cons_zero, List.set_cons_succ]
              refine GoX.skip 7 rfl (by kernel_rfl) (by kernel_rfl) (by rfl) (fun _ _ _ h => h) P0 ?_
              simp only [Act.put, List.setIfInBounds_toArray, List.set_cons_zero, List.set_cons_succ]
              refine GoX.skip 8 rfl (by kernel_rfl) (by kernel_rfl) (by rfl) (fun _ _ _ h => h) P0 ?_
              simp only [Act.put, List.setIfInBounds_toArray, List.set_cons_zero, List.set_cons_succ]
              refine GoX.skip 9 rfl (by kernel_rfl) (by kernel_rfl) (by rfl) (fun _ _ _ h => h) P0 ?_
              simp only [Act.put, List.setIfInBounds_toArray, List.set_cons_zero, List.set_cons_succ]
              refine GoX.skip 10 rfl (by kernel_rfl) (by kernel_rfl) (by rfl) (fun _ _ _ h => h) P0 ?_
              simp only [Act.put, List.setIfInBounds_toArray, List.set_cons_zero, List.set_cons_succ]
              refine GoX.skip 11 rfl (by kernel_rfl) (by kernel_rfl) (by rfl) (fun _ _ _ h => h) P0 ?_
              simp only [Act.put, List.setIfInBounds_toArray, List.set_cons_zero, List.set_cons_succ]
              refine GoX.skip 12 rfl (by kernel_rfl) (by kernel_rfl) (by rfl) (fun _ _ _ h => h) P0 ?_
              simp only [Act.put, List.setIfInBounds_toArray, List.set_cons_zero, List.set_cons_succ]
              refine GoX.last 13 rfl (by kernel_rfl) (by kernel_rfl) (by decide) ?_
              go_wp2_with fail
              go_meet
              exact ⟨false, rfl, Lib.hid rfl, Lib.hid (Below.refl _ _).drew⟩
            | false =>
              refine GoX.start 13 (fun w' => w'.cell? ⟨b, o + i * 15 + 4, none⟩ = some (.string key) ∧ w'.cell? ⟨kb, ko + j, none⟩ = some (.string q)) (by kernel_rfl) ?_
              refine GoX.take 0 rfl (by kernel_rfl) (by kernel_rfl) (by rfl) (fun _ _ _ h => h) (v := ?tv0g20) P0 ?ty0g20 ?tr0g20
              case ty0g20 => (intro w hSw; (try dsimp only at hSw); go_simp; first | done | with_reducible rfl)
              simp only [Act.put, List.setIfInBounds_toArray, List.set_cons_zero, List.set_cons_succ]
              refine GoX.take 1 rfl (by kernel_rfl) (by kernel_rfl) (by rfl) (fun _ _ _ h => h) (v := ?tv1g21) P0 ?ty1g21 ?tr1g21
              case ty1g21 => (intro w hSw; (try dsimp only at hSw); go_simp; first | done | with_reducible rfl)
              simp only [Act.put, List.setIfInBounds_toArray, List.set_cons_zero, List.set_cons_succ]
              refine GoX.take 2 rfl (by kernel_rfl) (by kernel_rfl) (by rfl) (fun _ _ _ h => h) (v := ?tv2g22) P0 ?ty2g22 ?tr2g22
              case ty2g22 => (intro w hSw; (try dsimp only at hSw); go_simp; first | done | with_reducible rfl)
              simp only [Act.put, List.setIfInBounds_toArray, List.set_cons_zero, List.set_cons_succ]
              refine GoX.take 3 rfl (by kernel_rfl) (by kernel_rfl) (by rfl) (fun _ _ _ h => h) (v := ?tv3g23) P0 ?ty3g23 ?tr3g23
              case ty3g23 => (intro w hSw; (try dsimp only at hSw); go_simp; first | done | with_reducible rfl)
              simp only [Act.put, List.setIfInBounds_toArray, List.set_cons_zero, List.set_cons_succ]
              refine GoX.take 4 rfl (by kernel_rfl) (by kernel_rfl) (by rfl) (fun _ _ _ h => h) (v := ?tv4g24) P0 ?ty4g24 ?tr4g24
              case ty4g24 => (intro w hSw; (try dsimp only at hSw); go_simp; first | done | with_reducible rfl)
              simp only [Act.put, List.setIfInBounds_toArray, List.set_cons_zero, List.set_cons_succ]
              refine GoX.take 5 rfl (by kernel_rfl) (by kernel_rfl) (by rfl) (fun _ _ _ h => h) (v := ?tv5g25) P0 ?ty5g25 ?tr5g25
              case ty5g25 => (intro w hSw; (try dsimp only at hSw); go_simp; first | done | with_reducible rfl)
              simp only [Act.put, List.setIfInBounds_toArray, List.set_cons_zero, List.set_cons_succ]
              refine GoX.take 6 rfl (by kernel_rfl) (by kernel_rfl) (by rfl) (fun _ _ _ h => h) (v := ?tv6g26) P0 ?ty6g26 ?tr6g26
              case ty6g26 => (intro w hSw; (try dsimp only at hSw); go_simp; first | done | with_reducible rfl)
              simp only [Act.put, List.setIfInBounds_toArray, List.set_cons_zero, List.set_cons_succ]
              refine GoX.take 7 rfl (by kernel_rfl) (by kernel_rfl) (by rfl) (fun _ _ _ h => h) (v := ?tv7g27) P0 ?ty7g27 ?tr7g27
              case ty7g27 => (intro w hSw; (try dsimp only at hSw); go_simp; first | done | with_reducible rfl)
              simp only [Act.put, List.setIfInBounds_toArray, List.set_cons_zero, List.set_cons_succ]
              refine GoX.take 8 rfl (by kernel_rfl) (by kernel_rfl) (by rfl) (fun _ _ _ h => h) (v := ?tv8g28) P0 ?ty8g28 ?tr8g28
              case ty8g28 => (intro w hSw; (try dsimp only at hSw); go_simp; first | done | with_reducible rfl)
              simp only [Act.put, List.setIfInBounds_toArray, List.set_cons_zero, List.set_cons_succ]
              refine GoX.take 9 rfl (by kernel_rfl) (by kernel_rfl) (by rfl) (fun _ _ _ h => h) (v := ?tv9g29) P0 ?ty9g29 ?tr9g29
              case ty9g29 => (intro w hSw; (try dsimp only at hSw); go_simp; first | done | with_reducible rfl)
              simp only [Act.put, List.setIfInBounds_toArray, List.set_cons_zero, List.set_cons_succ]
              refine GoX.take 10 rfl (by kernel_rfl) (by kernel_rfl) (by rfl) (fun _ _ _ h => h) (v := ?tv10g30) P0 ?ty10g30 ?tr10g30
              case ty10g30 => (intro w hSw; (try dsimp only at hSw); go_simp; first | done | with_reducible rfl)
              simp only [Act.put, List.setIfInBounds_toArray, List.set_cons_zero, List.set_cons_succ]
              refine GoX.take 11 rfl (by kernel_rfl) (by kernel_rfl) (by rfl) (fun _ _ _ h => h) (v := ?tv11g31) P0 ?ty11g31 ?tr11g31
              case ty11g31 => (intro w hSw; (try dsimp only at hSw); go_simp; first | done | with_reducible rfl)
              simp only [Act.put, List.setIfInBounds_toArray, List.set_cons_zero, List.set_cons_succ]
              refine GoX.take 12 rfl (by kernel_rfl) (by kernel_rfl) (by rfl) (fun _ _ _ h => h) (v := ?tv12g32) P0 ?ty12g32 ?tr12g32
              case ty12g32 => (intro w hSw; (try dsimp only at hSw); go_simp; first | done | with_reducible rfl)
              simp only [Act.put, List.setIfInBounds_toArray, List.set_cons_zero, List.set_cons_succ]
              refine GoX.last 13 rfl (by kernel_rfl) (by kernel_rfl) (by decide) ?_
              clear P0
              go_wp2_with fail
              go_meet
              exact ⟨ltK key q, by unfold ltK; first | rfl | go_simp, Lib.hid (by simp), Lib.hid (Below.refl _ _).drew⟩
          case rest =>
          obtain ⟨pq, rfl, HPQ, BX⟩ := hcut
          rename World => wB
          have O2 := Lib.hid (O1.out.below BX.out)
          clear O1 BX P0
          have ck := HC.out wB O2.out.low
          go_upto_if 63 with fail
          go_cut [5, 6] (fun vo vp wx => ∃ (ad : Option Addr) (n c : Nat) (out : List ByteArray) (put : Bool), vo = .slice ad n c ∧ vp = .bool put ∧ n ≤ j + 1 ∧ Hid (put = false → ltK key q = false) ∧ Hid (OutI wx wr L key j ad n c out put there))
          case first =>
            cases pq with
            | false =>
              clear ck
              go_wp2_with fail
              go_meet
              exact ⟨ad, n, c, out, put, rfl, rfl, hnl, Lib.hid (fun hp => by have := HPQ.out; rw [hp] at this; simpa using this.symm), O2⟩
            | true =>
              have hp : put = false := by have := HPQ.out; cases put; rfl; cases this
              have hlt2 : ltK key q = true := by have := HPQ.out; rw [hp] at this; simpa using this.symm
              have HUP : Hid (∀ x ∈ L.drop j, ltK key x = true) := Lib.hid fun x hx => by
                rcases HK.out.up.drop_lt HQ.out x hx with e | e
                · rw [e]; exact hlt2
                · exact ltK_trans hlt2 e
              subst hp
              clear hlt2
              have hn2 := O2.out.le
              simp only [Bool.toNat_false] at hn2
              have o8 := own_belowJ O2.out.own (below_alloc wB (.cells #[.string key] STR))
              have r8 := rowOne wB (.string key) STR
              have hz8 : wr.heap.size ≤ (wB.alloc (.cells #[.string key] STR)).heap.size := Nat.le_trans O2.out.low.size (below_alloc wB (.cells #[.string key] STR)).size
              go_wp2_with (first | (at_builtin; refine wpList_append_row rfl _ _ 27 rfl wr.heap.size 9 i0 (.string ⟨#[]⟩) 16 Try.underlying27 hi hz0 hz1 hz2 rfl _ _ _ rfl o8 (some ⟨wB.heap.size, 0, none⟩) 1 1 [.string key] rfl r8 (fun h => nomatch h) (by intro u hu; simp at hu; subst hu; rfl) (by simp [maxLen]; omega) (by omega) hz8 ?_; intro v' w1 hown1 hgrow1 hnil1))
              obtain ⟨ad', cap', rfl, _⟩ := ownsRow_parts hown1
              have hlow := below_grown (O2.out.low.trans ((below_alloc wB (.cells #[.string key] STR)).mono O2.out.low.size)) hgrow1 (ownBlock_ge o8)
              have O4 := Lib.hid (O2.out.push hown1 hlow HUP.out)
              clear o8 r8 hz8 hown1 hgrow1 hnil1 hlow ck
              go_wp2_with fail
              go_meet
              exact ⟨ad', n + 1, cap', _, true, rfl, (by first | rfl | trivial), by omega, Lib.hid (fun h => nomatch h), O4⟩
          case rest =>
          clear ck hnl O2 HPQ
          obtain ⟨ad1, n1, cc1, out1, put1, rfl, rfl, hnl, HDN, O3⟩ := hcut
          rename World => wD
          have cq := HCQ.out wD O3.out.low
          have o8 := own_belowJ O3.out.own (below_alloc wD (.cells #[.string q] STR))
          have r8 := rowOne wD (.string q) STR
          have hz8 : wr.heap.size ≤ (wD.alloc (.cells #[.string q] STR)).heap.size := Nat.le_trans O3.out.low.size (below_alloc wD (.cells #[.string q] STR)).size
          go_wp2_with (first | (at_builtin; refine wpList_append_row rfl _ _ 27 rfl wr.heap.size 9 i0 (.string ⟨#[]⟩) 16 Try.underlying27 hi hz0 hz1 hz2 rfl _ _ _ rfl o8 (some ⟨wD.heap.size, 0, none⟩) 1 1 [.string q] rfl r8 (fun h => nomatch h) (by intro u hu; simp at hu; subst hu; rfl) (by simp [maxLen]; omega) (by omega) hz8 ?_; intro v' w1 hown1 hgrow1 hnil1))
          obtain ⟨ad', cap', rfl, _⟩ := ownsRow_parts hown1
          have hlow := below_grown (O3.out.low.trans ((below_alloc wD (.cells #[.string q] STR)).mono O3.out.low.size)) hgrow1 (ownBlock_ge o8)
          have O4 := Lib.hid (O3.out.next HQ.out HTH.out HK.out.up HDN.out hown1 hlow)
          clear o8 r8 hz8 hown1 hgrow1 hnil1 hlow cq
          go_wp2
          go_roundw
          case rel => exact ⟨j + 1, ad', n1 + 1, cap', _, put1, th2, by omega, by go_num, rfl, rfl, rfl, O4⟩
          case measure => simp [intOf]; omega
        · obtain rfl : j = kn := by omega
          have hnl : n ≤ j + 1 := by have := HO.out.le; have : put.toNat ≤ 1 := Bool.toNat_le _; omega
          have ck := HC.out wi HO.out.low
          go_upto_if 80 with fail
          go_cut [5] (fun vo wx => ∃ (ad : Option Addr) (n c : Nat) (out : List ByteArray), vo = .slice ad n c ∧ Hid (OutI wx wr L key j ad n c out true there))
          case first =>
            cases put with
            | true =>
              clear ck
              go_wp2_with fail
              go_meet
              exact ⟨ad, n, c, out, rfl, HO⟩
            | false =>
              have hn2 := HO.out.le
              simp only [Bool.toNat_false] at hn2
              have o8 := own_belowJ HO.out.own (below_alloc wi (.cells #[.string key] STR))
              have r8 := rowOne wi (.string key) STR
              have hz8 : wr.heap.size ≤ (wi.alloc (.cells #[.string key] STR)).heap.size := Nat.le_trans HO.out.low.size (below_alloc wi (.cells #[.string key] STR)).size
              go_wp2_with (first | (at_builtin; refine wpList_append_row rfl _ _ 27 rfl wr.heap.size 9 i0 (.string ⟨#[]⟩) 16 Try.underlying27 hi hz0 hz1 hz2 rfl _ _ _ rfl o8 (some ⟨wi.heap.size, 0, none⟩) 1 1 [.string key] rfl r8 (fun h => nomatch h) (by intro u hu; simp at hu; subst hu; rfl) (by simp [maxLen]; omega) (by omega) hz8 ?_; intro v' w1 hown1 hgrow1 hnil1))
              obtain ⟨ad', cap', rfl, _⟩ := ownsRow_parts hown1
              have hlow := below_grown (HO.out.low.trans ((below_alloc wi (.cells #[.string key] STR)).mono HO.out.low.size)) hgrow1 (ownBlock_ge o8)
              have O4 := Lib.hid (HO.out.push hown1 hlow (by rw [List.drop_eq_nil_of_le (by have := HK.out.row.1; simp at this; omega)]; simp))
              clear o8 r8 hz8 hown1 hgrow1 hnil1 hlow ck
              go_wp2_with fail
              go_meet
              exact ⟨ad', n + 1, cap', _, rfl, O4⟩
          case rest =>
          clear ck hnl HO
          obtain ⟨ad1, n1, cc1, out1, rfl, O3⟩ := hcut
          rename World => wD
          rw [HKEY.out] at O3
          cases there with
          | false =>
            have HN := Lib.hid (HK.out.newer HA.out HKD.out O3.out)
            clear HC
            go_wp2
            go_roundw
            case rel => exact ⟨i + 1, ad1, n1, cc1, out1, by omega, by go_num, rfl, HN⟩
            case measure => simp [intOf]; omega
          | true =>
            have HN := Lib.hid (HK.out.same HA.out HKD.out O3.out)
            clear HC
            go_wp2
            go_roundw
            case rel => exact ⟨i + 1, ka, j, kc, L, by omega, by go_num, rfl, HN⟩
            case measure => simp [intOf]; omega
    · obtain rfl : i = an := by omega
      have HP : Hid (GivesKeysU xs w (.returned (.slice ka kn kc)) wr) := Lib.hid ⟨ka, kn, kc, L, rfl, HK.out.row, fun k => by rw [HK.out.mem, List.take_of_length_le (by rw [HXL.out]; exact Nat.le_refl _)], HK.out.up, by have := HK.out.le; omega, HK.out.low⟩
      go_wp2
      go_ret
      exact HP.out
theorem refKeys_any (aa : Option Addr) (an ac : Nat) (xs : List ActR) (w : World) (h : ActsV w aa an xs) (hac : an ≤ ac) (hn : an ≤ 1000000) :
    Calls Try.prog 15 #[.slice aa an ac] w (GivesKeys xs w) := (refKeys_up aa an ac xs w h hac hn).mono fun _ _ h => h.gives
end Go.Proofs.Ytnefcbcioemfiaa
