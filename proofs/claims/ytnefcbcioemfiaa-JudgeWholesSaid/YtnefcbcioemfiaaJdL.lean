/-
  judge: byKey.
-/
import Derived.Test.YtnefcbcioemfiaaJdK
namespace Go.Proofs.Ytnefcbcioemfiaa
open Go Go.RowKit Go.ChangeMaps Go.MapKept Go.WideShapes
open Go.Maps (Keyed)

abbrev IMap : TypeId := 59
def KOk (xs : List ActR) : Prop := ∀ A ∈ xs, A.key.size ≤ 140737488355328
theorem KOk.at {xs : List ActR} (h : KOk xs) {i : Nat} {A : ActR} (hi : xs[i]? = some A) : A.key.size ≤ 140737488355328 := h A (List.mem_of_getElem? hi)
def seenB (xs : List ActR) (m : Nat) (k : ByteArray) : Prop := ∃ i A, i < m ∧ xs[i]? = some A ∧ keyedB A = true ∧ A.key = k
theorem seen_list (xs : List ActR) (k : ByteArray) : seenB xs xs.length k ↔ k ∈ keyList xs := by
  unfold seenB keyList
  rw [List.mem_map]
  constructor
  · rintro ⟨i, A, _, hA, hk, rfl⟩
    exact ⟨A, List.mem_filter.2 ⟨List.mem_of_getElem? hA, hk⟩, rfl⟩
  · rintro ⟨A, hA, rfl⟩
    obtain ⟨h1, h2⟩ := List.mem_filter.1 hA
    obtain ⟨i, hi⟩ := List.getElem?_of_mem h1
    exact ⟨i, A, (List.getElem?_eq_some_iff.1 hi).1, hi, h2, rfl⟩
theorem counts_keyed {A : ActR} (h : countsB A = true) : keyedB A = true := by
  simp only [countsB, Bool.and_eq_true] at h
  exact h.1
theorem places_other {xs : List ActR} {i : Nat} {A : ActR} (hA : xs.getD i dAct = A) {z : ByteArray} (h : A.key ≠ z ∨ countsB A = false) : placesTo xs z (i + 1) = placesTo xs z i := by
  rw [placesTo_succ, hA, if_neg, List.append_nil]
  rcases h with h | h
  · simp [h]
  · simp [h]
theorem places_here {xs : List ActR} {i : Nat} {A : ActR} (hA : xs.getD i dAct = A) (h : countsB A = true) : placesTo xs A.key (i + 1) = placesTo xs A.key i ++ [i] := by
  rw [placesTo_succ, hA, if_pos]
  simp [h]
/-- the places of the first m acts, by their keys. -/
structure PlF (B : Nat) (W : World) (xs : List ActR) (m : Nat) (f : ByteArray → Option SH3) : Prop where
  rows : ∀ k hd, f k = some hd → W.ownsRow B 3 1 (SV hd) (placesTo xs k m).length ((cnL (placesTo xs k m)).map iv)
  seen : ∀ k, (f k).isSome = true ↔ seenB xs m k
  apart : ∀ k k' hd hd', k ≠ k' → f k = some hd → f k' = some hd' → ∀ b, (SV hd).ownBlock = some b → (SV hd').ownBlock ≠ some b
theorem PlF.below {B : Nat} {W W' : World} {xs : List ActR} {m : Nat} {f : ByteArray → Option SH3} (h : PlF B W xs m f) (hb : Below W.heap.size W W') : PlF B W' xs m f :=
  ⟨fun k hd hk => own_belowJ (h.rows k hd hk) hb, h.seen, h.apart⟩
theorem PlF.getD {B : Nat} {W : World} {xs : List ActR} {m : Nat} {f : ByteArray → Option SH3} (h : PlF B W xs m f) (k : ByteArray) {hd : SH3} (e : (f k).getD (none, 0, 0) = hd) : W.ownsRow B 3 1 (SV hd) (placesTo xs k m).length ((cnL (placesTo xs k m)).map iv) := by
  cases hf : f k with
  | some x => rw [hf] at e; subst e; exact h.rows k x hf
  | none =>
    rw [hf] at e; subst e
    have : placesTo xs k m = [] := by
      apply List.filter_eq_nil_iff.2
      intro i hi hc
      simp only [Bool.and_eq_true, decide_eq_true_eq] at hc
      have hi : i < m := by simpa using hi
      have hs : seenB xs m k := by
        cases hx : xs[i]? with
        | none => rw [List.getD_eq_getElem?_getD, hx] at hc; exact absurd (show keyedB dAct = true from counts_keyed hc.2) (by decide)
        | some A =>
          rw [List.getD_eq_getElem?_getD, hx] at hc
          exact ⟨i, A, hi, hx, counts_keyed hc.2, hc.1⟩
      have := (h.seen k).2 hs
      rw [hf] at this; cases this
    rw [this]
    exact World.ownsRow_nil _ _ _ _
/-- the store of a key's row. -/
theorem PlF.put {B mb : Nat} {W W' W2 : World} {xs : List ActR} {m : Nat} {f : ByteArray → Option SH3} (h : PlF B W xs m f) (hmb : mb < B) {A : ActR} (hA : xs[m]? = some A) (hkd : keyedB A = true) {row : Option Nat}
    (hg : W.grownBy W' row) (hrow : ∀ z hd, z ≠ A.key → f z = some hd → ∀ b, (SV hd).ownBlock = some b → row ≠ some b) {hd' : SH3} (hn : W'.ownsRow B 3 1 (SV hd') (placesTo xs A.key (m + 1)).length ((cnL (placesTo xs A.key (m + 1))).map iv))
    (hap : ∀ z hd, z ≠ A.key → f z = some hd → ∀ b, (SV hd').ownBlock = some b → (SV hd).ownBlock ≠ some b) (hg2 : W'.grownBy W2 (some mb)) : PlF B W2 xs (m + 1) (fun z => if z = A.key then some hd' else f z) := by
  have hAD : xs.getD m dAct = A := by rw [List.getD_eq_getElem?_getD, hA]; rfl
  have keep : ∀ {v : Value} {n : Nat} {vs : List Value}, W'.ownsRow B 3 1 v n vs → W2.ownsRow B 3 1 v n vs := fun k => k.kept hg2 (.inr (fun e => by have := (k.lt mb e).1; omega))
  refine ⟨fun k hd hk => ?_, fun k => ?_, fun k k' hd hd2 hne hk hk' b hb => ?_⟩
  · by_cases e : k = A.key
    · subst e
      simp only at hk
      injection hk with hk
      subst hk
      exact keep hn
    · simp only [if_neg e] at hk
      rw [places_other hAD (.inl fun e' => e e'.symm)]
      refine keep ?_
      have h1 := h.rows k hd hk
      refine h1.kept hg ?_
      cases hob : (SV hd).ownBlock with
      | none => left; rfl
      | some g => right; intro e2; exact hrow k hd e hk g hob e2.symm
  · by_cases e : k = A.key
    · simp only [if_pos e, Option.isSome_some, true_iff]
      exact ⟨m, A, Nat.lt_succ_self _, hA, hkd, e.symm⟩
    · simp only [if_neg e]
      rw [h.seen]
      constructor
      · rintro ⟨i, C, hi, r⟩; exact ⟨i, C, by omega, r⟩
      · rintro ⟨i, C, hi, hC, hk1, hk2⟩
        by_cases e2 : i = m
        · rw [e2, hA] at hC
          injection hC with hC
          subst hC
          exact absurd hk2.symm e
        · exact ⟨i, C, by omega, hC, hk1, hk2⟩
  · by_cases e : k = A.key
    · by_cases e' : k' = A.key
      · exact absurd (e.trans e'.symm) hne
      · simp only [if_pos e] at hk
        simp only [if_neg e'] at hk'
        injection hk with hk
        subst hk
        exact hap k' hd2 e' hk' b hb
    · by_cases e' : k' = A.key
      · simp only [if_neg e] at hk
        simp only [if_pos e'] at hk'
        injection hk' with hk'
        subst hk'
        intro h2
        exact hap k hd e hk b h2 hb
      · simp only [if_neg e] at hk
        simp only [if_neg e'] at hk'
        exact h.apart k k' hd hd2 hne hk hk' b hb
theorem PlF.skip {B : Nat} {W : World} {xs : List ActR} {m : Nat} {f : ByteArray → Option SH3} (h : PlF B W xs m f) {A : ActR} (hA : xs[m]? = some A) (hkd : keyedB A = false) : PlF B W xs (m + 1) f := by
  have hAD : xs.getD m dAct = A := by rw [List.getD_eq_getElem?_getD, hA]; rfl
  have hc : countsB A = false := by
    cases hcc : countsB A with
    | false => rfl
    | true => rw [counts_keyed hcc] at hkd; cases hkd
  refine ⟨fun k hd hk => ?_, fun k => ?_, h.apart⟩
  · rw [places_other hAD (.inr hc)]; exact h.rows k hd hk
  · rw [h.seen]
    constructor
    · rintro ⟨i, C, hi, r⟩; exact ⟨i, C, by omega, r⟩
    · rintro ⟨i, C, hi, hC, hk1, hk2⟩
      by_cases e2 : i = m
      · rw [e2, hA] at hC
        injection hC with hC
        subst hC
        rw [hkd] at hk1; cases hk1
      · exact ⟨i, C, by omega, hC, hk1, hk2⟩
/-- the map of places, to be read. -/
structure ByK (W : World) (mb : Nat) (xs : List ActR) (f : ByteArray → Option SH3) (cnt : Nat) : Prop where
  map : MapP W mb f cnt
  rows : ∀ k hd, f k = some hd → IntsV W hd (cnL (placesOf xs k))
  seen : ∀ k, (f k).isSome = true ↔ k ∈ keyList xs
theorem ByK.below {W W' : World} {mb : Nat} {xs : List ActR} {f : ByteArray → Option SH3} {cnt : Nat} (h : ByK W mb xs f cnt) (hb : Below W.heap.size W W') : ByK W' mb xs f cnt := ⟨h.map.below hb, fun k hd hk => (h.rows k hd hk).below hb, h.seen⟩
theorem placesTo_len60 (xs : List ActR) (k : ByteArray) (m : Nat) : (placesTo xs k m).length ≤ m := placesTo_len xs k m
set_option maxRecDepth 100000 in
set_option maxHeartbeats 8000000 in
theorem byKey_any (aa : Option Addr) (an ac : Nat) (xs : List ActR) (w : World) (h : ActsV w aa an xs) (hac : an ≤ ac) (hn : an ≤ 1000000) (hkk : KOk xs) :
    Calls Try.prog 35 #[.slice aa an ac] w fun e w' => ∃ mb f cnt, e = .returned (.map (some mb)) ∧ ByK w' mb xs f cnt ∧ Below w.heap.size w w' ∧ w.heap.size ≤ mb := by
  obtain ⟨i0, hi, hz0, hz1, hz2⟩ := info_parts infoIntJ
  have hlen := h.len
  have hmm := @run_makeMap Try.prog
  have HKK := Lib.hid hkk
  have H := Lib.hid h
  have HLEN := Lib.hid hlen
  have M1 : Hid (MapP (w.alloc (.map #[] 0)) w.heap.size (fun _ => none) 0) := Lib.hid (mapP_made w)
  have B1 : Hid (Below w.heap.size w (w.alloc (.map #[] 0))) := Lib.hid (below_alloc w _)
  have Z1 : Hid (w.heap.size + 1 ≤ (w.alloc (.map #[] 0)).heap.size) := Lib.hid (by simp)
  clear h hlen hkk
  go_enter Try.func35, Try.ntmps35
  go_upto_region 2 with fail
  refine (?_ : ∀ W : World, Hid (MapP W w.heap.size (fun _ => none) 0) → Hid (Below w.heap.size w W) → Hid (w.heap.size + 1 ≤ W.heap.size) → Code.wp Try.prog _ _ _ W) _ M1 B1 Z1
  clear M1 B1 Z1 hmm
  intro W M1 B1 Z1
  go_wp2
  go_loopw [10] (fun v wr => ∃ (m : Nat) (f : ByteArray → Option SH3) (cnt : Nat), m ≤ an ∧ v = .int .i64 (m : Nat) ∧ Hid (cnt ≤ m) ∧ Hid (MapP wr w.heap.size f cnt) ∧ Hid (PlF (w.heap.size + 1) wr xs m f) ∧ Hid (Below w.heap.size w wr) ∧ Hid (w.heap.size + 1 ≤ wr.heap.size)) (fun v _ => an - (intOf v).toNat)
  case atStart => exact ⟨0, fun _ => none, 0, Nat.zero_le _, rfl, Lib.hid (Nat.le_refl _), M1, Lib.hid ⟨fun k hd hk => (nomatch hk), fun k => ⟨fun hk => (by cases hk), fun ⟨i, A, hi, _⟩ => absurd hi (Nat.not_lt_zero _)⟩, fun k k' hd hd' hne hk => (nomatch hk)⟩, B1, Z1⟩
  case round =>
    clear M1 B1 Z1
    obtain ⟨m, f, cnt, hm, rfl, HC, HM, HF, HB, HZ⟩ := hrel
    by_cases hlt : m < an
    · obtain ⟨b, o, A, x, y, z, rfl, hA1, hA, at0⟩ := (H.out.below HB.out).at hlt
      obtain ⟨e0, e1, e2, e3, e4, e5, e6, e7, e8, e9, ea, eb, ec, ed, ee, -⟩ := at0
      have hks : A.key.size ≤ 140737488355328 := HKK.out.at hA1
      have HA1 := Lib.hid hA1
      have KK := keyed_any A x y z
      have KC := counts_any A x y z
      unfold ActC at KK KC
      obtain ⟨kd, hkd⟩ : ∃ kd, kd = keyedB A := ⟨_, rfl⟩
      obtain ⟨ct, hct⟩ : ∃ ct, ct = countsB A := ⟨_, rfl⟩
      rw [← hkd] at KK
      rw [← hct] at KC
      have HKD := Lib.hid hkd
      have HCT := Lib.hid hct
      have HAD := Lib.hid hA
      have HKS := Lib.hid hks
      clear hA1 hkd hct hA hks
      cases kd
      · go_wp2_with fail
        (with_reducible refine (KK _).mono ?_)
        rintro e w5 ⟨rfl, b5⟩
        have bb : Below wr.heap.size wr w5 := (below_alloc wr _).trans (b5.mono (by simp))
        have M5 := Lib.hid (HM.out.below bb)
        have F5 := Lib.hid ((HF.out.below bb).skip HA1.out HKD.out.symm)
        have B5 := Lib.hid (HB.out.trans (bb.mono HB.out.size))
        have Z5 := Lib.hid (Nat.le_trans HZ.out bb.size)
        clear bb b5 KK KC
        go_wp2
        go_roundw
        case rel => exact ⟨m + 1, f, cnt, by omega, by go_num, Lib.hid (by have := HC.out; omega), M5, F5, B5, Z5⟩
        case measure => simp [intOf]; omega
      · go_wp2_with fail
        (with_reducible refine (KK _).mono ?_)
        rintro e w5 ⟨rfl, b5⟩
        have bb : Below wr.heap.size wr w5 := (below_alloc wr _).trans (b5.mono (by simp))
        have X5 := Lib.hid ((b5.block wr.heap.size (by simp)).trans (heap_alloc_new wr _))
        clear e0 e1 e2 e3 e4 e5 e6 e7 e8 e9 ea eb ec ed ee
        obtain ⟨e0, e1, e2, e3, e4, e5, e6, e7, e8, e9, ea, eb, ec, ed, ee, -⟩ := cells15 X5.out
        have hz5 : wr.heap.size < w5.heap.size := Nat.lt_of_lt_of_le (by simp) b5.size
        have M5 := Lib.hid (HM.out.below bb)
        have F5 := Lib.hid (HF.out.below bb)
        have B5 := Lib.hid (HB.out.trans (bb.mono HB.out.size))
        have Z5 := Lib.hid (Nat.le_trans HZ.out bb.size)
        have HK5 := Lib.hid hz5
        obtain ⟨⟨ha, hnn, hcc⟩, hhd⟩ : ∃ hd, (f A.key).getD (none, 0, 0) = hd := ⟨_, rfl⟩
        have HHD := Lib.hid hhd
        have HOB : Hid (∀ q, (SV (ha, hnn, hcc)).ownBlock = some q → q < wr.heap.size) := Lib.hid (fun q hq => ((HF.out.getD A.key hhd).lt q hq).2)
        clear bb b5 KK hhd hz5
        go_wp2_with (first | (at_lookup; refine wpList_lookup_p _ rfl _ _ rfl w.heap.size f cnt rfl M5.out A.key (ha, hnn, hcc) rfl HKS.out HHD.out ?_))
        (with_reducible refine (KC _).mono ?_)
        rintro e w6 ⟨rfl, b6⟩
        have X6 := Lib.hid ((b6.block wr.heap.size HK5.out).trans X5.out)
        have HK6 := Lib.hid (Nat.lt_of_lt_of_le HK5.out b6.size)
        clear e0 e1 e2 e3 e4 e5 e6 e7 e8 e9 ea eb ec ed ee X5
        obtain ⟨e0, e1, e2, e3, e4, e5, e6, e7, e8, e9, ea, eb, ec, ed, ee, -⟩ := cells15 X6.out
        have M6 := Lib.hid (M5.out.below b6)
        have F6 := Lib.hid (F5.out.below b6)
        have B6 := Lib.hid (B5.out.trans (b6.mono B5.out.size))
        have Z6 := Lib.hid (Nat.le_trans Z5.out b6.size)
        clear M5 F5 B5 Z5 b6 KC
        have hown := F6.out.getD A.key HHD.out
        cases ct
        · have hown2 : w6.ownsRow (w.heap.size + 1) 3 1 (SV (ha, hnn, hcc)) (placesTo xs A.key (m + 1)).length ((cnL (placesTo xs A.key (m + 1))).map iv) := by
            rw [places_other HAD.out (.inr HCT.out.symm)]; exact hown
          have HO2 := Lib.hid hown2
          clear hown hown2
          go_wp2_with (first | (at_mapUpdate; refine wpList_put_new_p _ rfl _ _ _ rfl w.heap.size f cnt rfl M6.out A.key (ha, hnn, hcc) rfl rfl HKS.out (by have := HC.out; omega) ?_; intro w7 hm7 hg7))
          have M7 := Lib.hid hm7
          have F7 := Lib.hid (F6.out.put (Nat.lt_succ_self _) HA1.out HKD.out.symm (World.grownBy_refl w6 none) (fun _ _ _ _ _ _ => by simp) HO2.out (fun z hd hz hzf b hb => by
            cases hfk : f A.key with
            | none => have := HHD.out; rw [hfk] at this; injection this with e1 e2; subst e1; cases hb
            | some hd0 =>
              have := HHD.out
              rw [hfk] at this
              simp only [Option.getD_some] at this
              subst this
              exact F6.out.apart A.key z _ hd (fun e => hz e.symm) hfk hzf b hb) hg7)
          have B7 := Lib.hid (B6.out.grown hg7 B6.out.size (fun q hq => by injection hq with hq; omega))
          have Z7 := Lib.hid (Nat.le_trans Z6.out hg7.size)
          clear hm7 hg7 M6 F6 B6 Z6 HO2
          go_roundw
          case rel => exact ⟨m + 1, _, cnt + 1, by omega, by go_num, Lib.hid (by have := HC.out; omega), M7, F7, B7, Z7⟩
          case measure => simp [intOf]; omega
        · have hpl := placesTo_len xs A.key m
          obtain ⟨ad', cap', e1, hcs, hc1, hc2, -⟩ := ownsRow_parts hown
          unfold SV at e1 hown
          injection e1 with e1 e2 e3
          simp only at e1 e2 e3 hown
          have HE2 := Lib.hid e2
          rw [← e2] at hown hpl
          have HOWN := Lib.hid hown
          clear e1 e2 e3 hcs hc1 hc2 hown
          go_wp2_with (first | (at_builtin; refine Hid.out ?_))
          refine Lib.hid ?_
          have bb8 := below_alloc w6 (.cells #[.int .i64 (m : Nat)] 3)
          have M8 := M6.out.below bb8
          have F8 := F6.out.below bb8
          have B8 := B6.out.trans (bb8.mono B6.out.size)
          have Z8 := Nat.le_trans Z6.out bb8.size
          have hown8 := own_belowJ HOWN.out bb8
          refine wpList_append_lies _ rfl (.tmp 24) (.tmp 26) 31 rfl (w.heap.size + 1) 3 i0 (.int .i64 0) 1 8 Try.underlying31 hi hz0 hz1 hz2 rfl (by decide) (.slice ha hnn hcc) hnn _ rfl hown8 ⟨w6.heap.size, 0, none⟩ 1 1 [.int .i64 (m : Nat)] rfl rfl (World.news_of_block (heap_alloc_new w6 _)) (by intro u hu; simp at hu; subst hu; rfl) (by decide) (by simp [maxLen]; omega) (by omega) Z8 _ rfl ?_
          intro g9 c9 w9 hE9 g9' lie9 _
          have M9 : MapP w9 w.heap.size f cnt := M8.kept g9' (fun e => by have := (hown8.lt _ e.symm).1; omega)
          have B9 : Below w.heap.size w w9 := B8.grown g9' B8.size (fun q hq => by have := (hown8.lt q hq).1; omega)
          have Z9 := Nat.le_trans Z8 g9'.size
          have hhd2 := HHD.out
          have R9 : ∀ zz hd, zz ≠ A.key → f zz = some hd → ∀ b, (SV hd).ownBlock = some b → (Value.slice ha hnn hcc).ownBlock ≠ some b := by
            intro zz hd hz hzf b hb e
            cases hfk : f A.key with
            | none => rw [hfk] at hhd2; injection hhd2 with e1 e2; subst e1; cases e
            | some hd0 =>
              rw [hfk] at hhd2
              simp only [Option.getD_some] at hhd2
              subst hhd2
              exact F8.apart A.key zz _ hd (fun e => hz e.symm) hfk hzf b e hb
          have A9 : ∀ zz hd, zz ≠ A.key → f zz = some hd → ∀ b, (SV (some ⟨g9, 0, none⟩, hnn + 1, c9)).ownBlock = some b → (SV hd).ownBlock ≠ some b := by
            intro zz hd hz hzf b hb e
            have hb : g9 = b := by simpa [SV, Value.ownBlock] using hb
            rcases lie9 with h1 | h1
            · exact R9 zz hd hz hzf b e (by rw [h1, hb])
            · have := ((F8.rows zz hd hzf).lt b e).2
              omega
          have O9 : w9.ownsRow (w.heap.size + 1) 3 1 (SV (some ⟨g9, 0, none⟩, hnn + 1, c9)) (placesTo xs A.key (m + 1)).length ((cnL (placesTo xs A.key (m + 1))).map iv) := by
            rw [places_here HAD.out HCT.out.symm, List.length_append, ← HE2.out]
            simp only [cnL, List.map_append, List.map_cons, List.map_nil]
            exact hE9
          have HP9 := fun (w10 : World) (hg : w9.grownBy w10 (some w.heap.size)) => F8.put (Nat.lt_succ_self _) HA1.out HKD.out.symm g9' (fun z hd hz hzf b hb => R9 z hd hz hzf b hb) O9 A9 hg
          have M9' := Lib.hid M9
          have B9' := Lib.hid B9
          have Z9' := Lib.hid Z9
          have P9 := Lib.hid HP9
          have X9 := Lib.hid ((g9'.block wr.heap.size (by simp; have := HK6.out; omega) (fun e => by have := HOB.out _ e.symm; omega)).trans ((bb8.block wr.heap.size HK6.out).trans X6.out))
          clear e0 e1 e2 e3 e4 e5 e6 e7 e8 e9 ea eb ec ed ee X6
          obtain ⟨e0, e1, e2, e3, e4, e5, e6, e7, e8, e9, ea, eb, ec, ed, ee, -⟩ := cells15 X9.out
          clear M8 F8 B8 Z8 bb8 hE9 g9' lie9 M9 B9 Z9 hhd2 R9 A9 O9 HP9 hown8
          go_wp2_with (first | (at_mapUpdate; refine wpList_put_new_p _ rfl _ _ _ rfl w.heap.size f cnt rfl M9'.out A.key (some ⟨g9, 0, none⟩, hnn + 1, c9) rfl rfl HKS.out (by have := HC.out; omega) ?_; intro w10 hm10 hg10))
          have M10 := Lib.hid hm10
          have F10 := Lib.hid (P9.out w10 hg10)
          have B10 := Lib.hid (B9'.out.grown hg10 B9'.out.size (fun q hq => by injection hq with hq; omega))
          have Z10 := Lib.hid (Nat.le_trans Z9'.out hg10.size)
          clear hm10 hg10
          go_roundw
          case rel => exact ⟨m + 1, _, cnt + 1, by omega, by go_num, Lib.hid (by have := HC.out; omega), M10, F10, B10, Z10⟩
          case measure => simp [intOf]; omega
    · obtain rfl : m = an := by omega
      go_wp2
      go_ret
      refine ⟨_, f, cnt, rfl, ⟨HM.out, fun k hd hk => ?_, fun k => ?_⟩, HB.out, Nat.le_refl _⟩
      · have h1 := HF.out.rows k hd hk
        rw [← HLEN.out] at h1
        obtain ⟨a, n, c⟩ := hd
        have hpl := placesTo_len xs k xs.length
        obtain ⟨ad', cap', e1, -, hc1, hc2, hrow⟩ := ownsRow_parts h1
        unfold SV at e1
        injection e1 with e1 e2 e3
        simp only at e1 e2 e3
        subst e1 e2 e3
        exact intsV_own h1 (by have := HLEN.out; omega)
      · rw [HF.out.seen, ← HLEN.out, seen_list]
end Go.Proofs.Ytnefcbcioemfiaa
