/-
  rilllaw09: MetaEncodes.
-/
import Derived.Test.YtikjcmijmhmilaaMeY
namespace Go.Proofs.Ytikjcmijmhmilaa
open Go.RowKit

theorem wrongB_ext {S U : Int} {p q : PlR} (h : SameP p q) : wrongB S U p = wrongB S U q := by
  unfold wrongB
  rw [h.b, h.e, h.s, h.n]
theorem someWrong_ext {S U : Int} {P Q : Nat → PlR} {n : Nat} (h : ∀ i, i < n → SameP (P i) (Q i)) : someWrong S U P n = someWrong S U Q n := by
  have e : someWrong S U P n = false ↔ someWrong S U Q n = false := by
    rw [someWrong_false, someWrong_false]
    exact ⟨fun k i hi => (wrongB_ext (h i hi)).symm.trans (k i hi), fun k i hi => (wrongB_ext (h i hi)).trans (k i hi)⟩
  cases h1 : someWrong S U P n <;> cases h2 : someWrong S U Q n <;> simp_all
theorem rightB_ext {k : Int} {key : ByteArray} {N c s t : Int} {d : Bool} {sn pn : Nat} {P Q : Nat → PlR} (h : ∀ i, i < pn → SameP (P i) (Q i)) : rightB k key N c s t d sn P pn = rightB k key N c s t d sn Q pn := by
  unfold rightB
  rw [someWrong_ext h]
theorem placesL_ext {P Q : Nat → PlR} : ∀ n, (∀ i, i < n → SameP (P i) (Q i)) → placesL P n = placesL Q n
  | 0, _ => rfl
  | m + 1, h => by
    have k := h m (by omega)
    simp only [placesL, placeL]
    rw [placesL_ext m (fun i hi => h i (by omega)), k.b, k.e, k.s, k.l]
theorem encL_ext {k : Int} {key : ByteArray} {N c s t : Int} {d : Bool} {sum : List Nat} {pn : Nat} {P Q : Nat → PlR} (h : ∀ i, i < pn → SameP (P i) (Q i)) : encL k key N c s t d sum P pn = encL k key N c s t d sum Q pn := by
  unfold encL
  rw [placesL_ext pn h]
theorem placesL_le {P : Nat → PlR} : ∀ n, (∀ i, i < n → (P i).l.length ≤ 32) → (placesL P n).length ≤ n * 40
  | 0, _ => Nat.zero_le _
  | m + 1, h => by
    have k := h m (by omega)
    have r := placesL_le (P := P) m (fun i hi => h i (by omega))
    simp only [placesL, placeL, List.length_append, numL, numTo_len]
    omega
theorem encL_le {k : Int} {key : ByteArray} {N c s t : Int} {d : Bool} {sum : List Nat} {sn pn : Nat} {P : Nat → PlR} (hs : sum.length = sn) (hl : ∀ i, i < pn → (P i).l.length = (P i).x.2.1) (hR : rightB k key N c s t d sn P pn = true) : (encL k key N c s t d sum P pn).length ≤ 140737488355328 := by
  have F := right_facts hR
  have r := placesL_le (P := P) pn (fun i hi => by rw [hl i hi]; exact (F.pl i hi).2.2.2.2.2.2)
  have h1 := F.ks
  have h2 := F.sn32
  have h3 := F.pn512
  unfold encL headL
  simp only [List.length_append, numL, numTo_len, keyL_len, List.length_nil]
  omega
/-- what an Encode gives. -/
def GivesE (w : World) (O : List Nat) (code : Int) (e : Ending) (w' : World) : Prop := ∃ ad n cap, e = .returned (.tuple #[.slice ad n cap, .int .i64 code]) ∧ BytesV w' (ad, n, cap) O ∧ Below w.heap.size w w'
theorem givesE_no {w w' : World} {e : Ending} (h : e = .returned (.tuple #[.slice none 0 0, .int .i64 90]) ∧ Below w.heap.size w w') : GivesE w [] 90 e w' :=
  ⟨none, 0, 0, h.1, ⟨⟨rfl, fun h => absurd h (Nat.lt_irrefl _)⟩, fun x hx => (by cases hx), by simp, Nat.le_refl _, fun _ => rfl⟩, h.2⟩
theorem encodes_any (k : Int) (key : ByteArray) (N c s t : Int) (d : Bool) (sn : Nat) (sum : List Nat) (pn : Nat) (P Q : Nat → PlR) (hs : sum.length = sn) (hl : ∀ i, i < pn → (P i).l.length = (P i).x.2.1) (hb : Bytes (encL k key N c s t d sum P pn) ∨ rightB k key N c s t d sn P pn = false) (hpn : pn ≤ 100000) (hS : ∀ i, i < pn → SameP (Q i) (P i)) : ∃ O code,
    (∀ sa sc pa pc w, BytesV w (sa, sn, sc) sum → PlacesV w pa pn pc Q → Calls Try.prog 16 #[.agg #[.int .i64 k, .string key, .int .i64 N, .int .i64 c, .int .i64 s, .int .i64 t, .bool d, .slice sa sn sc, .slice pa pn pc]] w (GivesE w O code)) ∧
    (∀ sa sc pa pc w, BytesV w (sa, sn, sc) sum → PlacesV w pa pn pc P → Calls Try.prog 17 #[.agg #[.int .i64 k, .string key, .int .i64 N, .int .i64 c, .int .i64 s, .int .i64 t, .bool d, .slice sa sn sc, .slice pa pn pc]] w (GivesE w O code)) := by
  cases hR : rightB k key N c s t d sn P pn with
  | true =>
    have hR' : rightB k key N c s t d sn Q pn = true := (rightB_ext hS).trans hR
    have hle := encL_le hs hl hR
    refine ⟨encL k key N c s t d sum P pn, 0, fun sa sc pa pc w h1 h2 => ?_, fun sa sc pa pc w h1 h2 => ?_⟩
    · refine (encode_yes k key N c s t d sa sn sc sum pa pn pc Q w h1 h2 hR').mono ?_
      rintro e w' ⟨ad, cap, rfl, ho, hby, hbe⟩
      rw [encL_ext hS] at ho hby ⊢
      exact ⟨ad, _, cap, rfl, bytesV_of_owns ho hby hle, hbe⟩
    · refine (refEncode_yes k key N c s t d sa sn sc sum pa pn pc P w h1 h2 hR).mono ?_
      rintro e w' ⟨ad, cap, rfl, ho, hbe⟩
      exact ⟨ad, _, cap, rfl, bytesV_of_owns ho (hb.resolve_right (by rw [hR]; decide)) hle, hbe⟩
  | false =>
    have hR' : rightB k key N c s t d sn Q pn = false := (rightB_ext hS).trans hR
    refine ⟨[], 90, fun sa sc pa pc w h1 h2 => ?_, fun sa sc pa pc w h1 h2 => ?_⟩
    · exact (encode_no k key N c s t d sa sn sc pa pn pc Q w h2 hpn hR').mono fun e w' h => givesE_no h
    · exact (refEncode_no k key N c s t d sa sn sc pa pn pc P w h2 hpn hR).mono fun e w' h => givesE_no h
theorem numL_bytes (n W : Nat) : Bytes (numL n W) := numTo_bytes n W W
theorem bytes_app {a b : List Nat} (h : Bytes a) (k : Bytes b) : Bytes (a ++ b) := fun x hx => (List.mem_append.1 hx).elim (h x) (k x)
theorem bytes_nil : Bytes [] := fun x hx => by cases hx
theorem keyL_bytes (key : ByteArray) : Bytes (keyL key) := fun x hx => by
  simp only [keyL, List.mem_map] at hx
  obtain ⟨y, -, rfl⟩ := hx
  exact y.toNat_lt
theorem placesL_bytes {P : Nat → PlR} : ∀ n, (∀ i, i < n → Bytes (P i).l) → Bytes (placesL P n)
  | 0, _ => bytes_nil
  | m + 1, h => bytes_app (placesL_bytes m (fun i hi => h i (by omega))) (bytes_app (bytes_app (bytes_app (numL_bytes _ _) (numL_bytes _ _)) (numL_bytes _ _)) (bytes_app (numL_bytes _ _) (h m (by omega))))
theorem encL_bytes {k : Int} {key : ByteArray} {N c s t : Int} {d : Bool} {sum : List Nat} {pn : Nat} {P : Nat → PlR} (hs : Bytes sum) (h : ∀ i, i < pn → Bytes (P i).l) : Bytes (encL k key N c s t d sum P pn) := by
  unfold encL headL
  exact bytes_app (bytes_app (bytes_app (bytes_app (bytes_app (bytes_app (bytes_app (bytes_app (bytes_app (bytes_app (bytes_app bytes_nil (numL_bytes _ _)) (numL_bytes _ _)) (keyL_bytes _)) (numL_bytes _ _)) (numL_bytes _ _)) (numL_bytes _ _)) (numL_bytes _ _)) (numL_bytes _ _)) (bytes_app (numL_bytes _ _) hs)) (numL_bytes _ _)) (placesL_bytes pn h)
set_option maxRecDepth 100000 in
set_option maxHeartbeats 8000000 in
theorem metaEncodes_walk (k : Int) (key : ByteArray) (N c s t : Int) (d : Bool) (sa : Option Addr) (sn sc : Nat) (sum : List Nat) (pa : Option Addr) (pn pc : Nat) (P : Nat → PlR) (w : World) (hS : BytesV w (sa, sn, sc) sum) (hP : PlacesV w pa pn pc P) :
    Calls Try.prog 5 #[.agg #[.int .i64 k, .string key, .int .i64 N, .int .i64 c, .int .i64 s, .int .i64 t, .bool d, .slice sa sn sc, .slice pa pn pc]] w fun e w' => e = .returned (.bool true) ∧ Below w.heap.size w w' := by
  have KA := alive_any
  have hl : ∀ i, i < pn → (P i).l.length = (P i).x.2.1 ∧ Bytes (P i).l := fun i hi => by
    obtain ⟨g, o, -, -, hat⟩ := hP.row (by omega)
    exact ⟨(hat i hi).by_.length, (hat i hi).by_.bytes⟩
  have HL := Lib.hid hl
  have HS := Lib.hid hS
  have HP := Lib.hid hP
  obtain ⟨b, hb⟩ : ∃ b, b = w.heap.size := ⟨_, rfl⟩
  obtain ⟨w1, hw1⟩ : ∃ x, x = w.alloc (.cells #[.int .i64 k, .string key, .int .i64 N, .int .i64 c, .int .i64 s, .int .i64 t, .bool d, .slice sa sn sc, .slice pa pn pc] RT9) := ⟨_, rfl⟩
  have k1 : w1.heap[b]? = some (.cells #[.int .i64 k, .string key, .int .i64 N, .int .i64 c, .int .i64 s, .int .i64 t, .bool d, .slice sa sn sc, .slice pa pn pc] RT9 (0, 0)) := by rw [hw1, hb]; exact heap_alloc_new w _
  have b1 : Below w.heap.size w w1 := by rw [hw1]; exact below_alloc w _
  have HW1 := Lib.hid hw1
  have HBB := Lib.hid hb
  have K1 := Lib.hid k1
  have B1 := Lib.hid b1
  clear hl hS hP hb hw1 k1 b1
  go_enter Try.func5, Try.ntmps5
  go_upto_region 1 with fail
  rw [← HBB.out, ← HW1.out]
  go_wp2_with fail
  (with_reducible refine (KA _).mono ?_)
  rintro e w2 ⟨rfl, b2⟩
  have K2 := Lib.hid ((b2.block b (Array.getElem?_eq_some_iff.1 K1.out).1).trans K1.out)
  have B2 := Lib.hid (B1.out.trans (b2.mono B1.out.size))
  obtain ⟨c0, c1, c2, c3, c4, c5, c6, c7, c8⟩ := cells9M K2.out
  clear KA b2
  by_cases hp7 : (700 : Int) < (pn : Int)
  · go_wp2
    go_ret
    exact ⟨rfl, B2.out⟩
  by_cases hk7 : (1000 : Int) < (key.size : Int)
  · go_wp2
    go_ret
    exact ⟨rfl, B2.out⟩
  have hpn : pn ≤ 100000 := by omega
  have KC := copyRecord_any k key N c s t d sa sn sc sum pa pn pc P w2 (HS.out.below B2.out) (HP.out.below B2.out) hpn
  go_wp2_with fail
  (with_reducible refine KC.mono ?_)
  rintro e w3 ⟨a, cp, a', c', P', rfl, s3, p3, hSame, b3⟩
  obtain ⟨O, code, KE, KR⟩ := encodes_any k key N c s t d sn sum pn P P' HS.out.length (fun i hi => (HL.out i hi).1) (.inl (encL_bytes HS.out.bytes (fun i hi => (HL.out i hi).2))) hpn hSame
  have HKE := Lib.hid KE
  have HKR := Lib.hid KR
  have HSM := Lib.hid hSame
  have K3 := (b3.block b (Array.getElem?_eq_some_iff.1 K2.out).1).trans K2.out
  have B3 := B2.out.trans (b3.mono B2.out.size)
  obtain ⟨q, hq⟩ : ∃ q, q = w3.heap.size := ⟨_, rfl⟩
  obtain ⟨w4, hw4⟩ : ∃ x, x = w3.alloc (.cells #[.int .i64 k, .string key, .int .i64 N, .int .i64 c, .int .i64 s, .int .i64 t, .bool d, .slice a sn cp, .slice a' pn c'] RT9) := ⟨_, rfl⟩
  have b4 : Below w3.heap.size w3 w4 := by rw [hw4]; exact below_alloc w3 _
  have k4 : w4.heap[q]? = some (.cells #[.int .i64 k, .string key, .int .i64 N, .int .i64 c, .int .i64 s, .int .i64 t, .bool d, .slice a sn cp, .slice a' pn c'] RT9 (0, 0)) := by rw [hw4, hq]; exact heap_alloc_new w3 _
  have K4 := Lib.hid k4
  have J4 := Lib.hid ((b4.block b (Array.getElem?_eq_some_iff.1 K3).1).trans K3)
  have B4 := Lib.hid (B3.trans (b4.mono B3.size))
  have S4 := Lib.hid (s3.below b4)
  have P4 := Lib.hid (p3.below b4)
  have HW4 := Lib.hid hw4
  have HQ := Lib.hid hq
  clear c0 c1 c2 c3 c4 c5 c6 c7 c8 KC KE KR hSame s3 p3 b3 K3 B3 hq hw4 b4 k4
  go_upto_region 6 with fail
  rw [← HW4.out, ← HQ.out]
  obtain ⟨c0, c1, c2, c3, c4, c5, c6, c7, c8⟩ := cells9M K4.out
  have KX := HKE.out a cp a' c' w4 S4.out P4.out
  go_wp2_with fail
  (with_reducible refine KX.mono ?_)
  rintro e w5 ⟨ad5, n5, cap5, rfl, o5, b5⟩
  have K5 := Lib.hid ((b5.block q (Array.getElem?_eq_some_iff.1 K4.out).1).trans K4.out)
  have J5 := Lib.hid ((b5.block b (Array.getElem?_eq_some_iff.1 J4.out).1).trans J4.out)
  have B5 := Lib.hid (B4.out.trans (b5.mono B4.out.size))
  have S5 := Lib.hid (S4.out.below b5)
  have P5 := Lib.hid (P4.out.below b5)
  have O5 := Lib.hid o5
  clear c0 c1 c2 c3 c4 c5 c6 c7 c8 KX b5 o5
  obtain ⟨c0, c1, c2, c3, c4, c5, c6, c7, c8⟩ := cells9M J5.out
  have KX := HKR.out sa sc pa pc w5 (HS.out.below B5.out) (HP.out.below B5.out)
  go_wp2_with fail
  (with_reducible refine KX.mono ?_)
  rintro e w6 ⟨ad6, n6, cap6, rfl, o6, b6⟩
  have K6 := Lib.hid ((b6.block q (Array.getElem?_eq_some_iff.1 K5.out).1).trans K5.out)
  have J6 := Lib.hid ((b6.block b (Array.getElem?_eq_some_iff.1 J5.out).1).trans J5.out)
  have B6 := Lib.hid (B5.out.trans (b6.mono B5.out.size))
  have S6 := Lib.hid (S5.out.below b6)
  have P6 := Lib.hid (P5.out.below b6)
  have O6 := Lib.hid (O5.out.below b6)
  have KX2 := sameBytes_any ad5 n5 cap5 O ad6 n6 cap6 O w6 O6.out o6
  rw [decide_eq_true rfl] at KX2
  clear c0 c1 c2 c3 c4 c5 c6 c7 c8 KX b6 o6
  go_wp2_with fail
  (with_reducible refine KX2.mono ?_)
  rintro e w7 ⟨rfl, b7⟩
  have hcc : (code == code) = true := by simp
  have K7 := Lib.hid ((b7.block q (Array.getElem?_eq_some_iff.1 K6.out).1).trans K6.out)
  have J7 := Lib.hid ((b7.block b (Array.getElem?_eq_some_iff.1 J6.out).1).trans J6.out)
  have B7 := Lib.hid (B6.out.trans (b7.mono B6.out.size))
  obtain ⟨c0, c1, c2, c3, c4, c5, c6, c7, c8⟩ := cells9M K7.out
  obtain ⟨d0, d1, d2, d3, d4, d5, d6, d7, d8⟩ := cells9M J7.out
  have KY := sameRecord_self k key N c s t d a cp sa sn sc sum a' pn c' P' pa pc P w7 (S6.out.below b7) (HS.out.below B7.out) (P6.out.below b7) (HP.out.below B7.out) HSM.out hpn
  clear KX2 b7
  go_wp2_with fail
  (with_reducible refine KY.mono ?_)
  rintro e w8 ⟨rfl, b8⟩
  have B8 := Lib.hid (B7.out.trans (b8.mono B7.out.size))
  clear KY b8 c0 c1 c2 c3 c4 c5 c6 c7 c8 d0 d1 d2 d3 d4 d5 d6 d7 d8
  go_wp2
  go_ret
  exact ⟨rfl, B8.out⟩
end Go.Proofs.Ytikjcmijmhmilaa
