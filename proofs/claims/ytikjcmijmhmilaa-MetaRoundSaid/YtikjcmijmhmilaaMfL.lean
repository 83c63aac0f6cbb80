/-
  What was encoded is read again; what follows isn't read; plain.
-/
import Derived.Test.YtikjcmijmhmilaaMfK
namespace Go.Proofs.Ytikjcmijmhmilaa
open Go.RowKit

theorem nOf_app (l x : List Nat) : ∀ m, m ≤ l.length → nOf (l ++ x) m = nOf l m
  | 0, _ => rfl
  | m + 1, h => by
    simp only [nOf]
    rw [nOf_app l x m (by omega), List.getD_eq_getElem?_getD, List.getD_eq_getElem?_getD, List.getElem?_append_left (by omega)]
theorem nOf_num (n W : Nat) (hW : W ≤ 4) (h0 : 1 ≤ W) (hn : n < 256 ^ W) : nOf (numL n W) W = n := by
  have h4 : W = 1 ∨ W = 2 ∨ W = 3 ∨ W = 4 := by omega
  rcases h4 with rfl | rfl | rfl | rfl
  · simp [numL, numTo, nOf, List.range_succ] at hn ⊢; omega
  · simp [numL, numTo, nOf, List.range_succ] at hn ⊢; omega
  · simp [numL, numTo, nOf, List.range_succ] at hn ⊢; omega
  · simp [numL, numTo, nOf, List.range_succ] at hn ⊢; omega
def Sc.app (s : Sc) (x : List Nat) : Sc := ⟨s.bad, s.l ++ x⟩
theorem Sc.app_bad (s : Sc) (x : List Nat) : (s.app x).bad = s.bad := rfl
theorem Sc.num_ok {s : Sc} {m : Nat} (h : (s.num m).bad = false) : s.bad = false ∧ m ≤ s.l.length := by
  simp only [Sc.num, Bool.or_eq_false_iff, decide_eq_false_iff_not] at h
  exact ⟨h.1, by omega⟩
theorem Sc.text_ok {s : Sc} (h : s.text.bad = false) : s.bad = false ∧ 1 ≤ s.l.length ∧ tLen s.l ≤ (s.l.drop 1).length := by
  simp only [Sc.text, tBad, Bool.or_eq_false_iff, decide_eq_false_iff_not] at h
  exact ⟨h.1, by omega, by omega⟩
theorem Sc.num_app {s : Sc} {m : Nat} (h : (s.num m).bad = false) (x : List Nat) : (s.app x).num m = (s.num m).app x ∧ (s.app x).val m = s.val m := by
  obtain ⟨h1, h2⟩ := Sc.num_ok h
  constructor
  · simp only [Sc.app, Sc.num, List.length_append, List.drop_append_of_le_length h2]
    rw [decide_eq_false (by omega), decide_eq_false (by omega)]
  · simp only [Sc.app, Sc.val, List.length_append]
    rw [if_neg (by omega), if_neg (by omega), nOf_app _ _ _ h2]
theorem Sc.text_app {s : Sc} (h : s.text.bad = false) (x : List Nat) : (s.app x).text = s.text.app x ∧ (s.app x).bytes = s.bytes := by
  obtain ⟨h1, h2, h3⟩ := Sc.text_ok h
  have e1 : (s.l ++ x).drop 1 = s.l.drop 1 ++ x := List.drop_append_of_le_length h2
  have L1 : ¬ (s.l ++ x).length < 1 := by rw [List.length_append]; omega
  have L2 : ¬ (s.l.drop 1 ++ x).length < tLen s.l := by rw [List.length_append]; omega
  have L3 : ¬ s.l.length < 1 := by omega
  have L4 : ¬ (s.l.drop 1).length < tLen s.l := by omega
  have e2 : tLen (s.l ++ x) = tLen s.l := by
    unfold tLen
    rw [if_neg L1, if_neg L3, nOf_app _ _ _ h2]
  constructor
  · show (⟨s.bad || (decide ((s.l ++ x).length < 1) || decide (((s.l ++ x).drop 1).length < tLen (s.l ++ x))), if ((s.l ++ x).drop 1).length < tLen (s.l ++ x) then (s.l ++ x).drop 1 else ((s.l ++ x).drop 1).drop (tLen (s.l ++ x))⟩ : Sc) = ⟨s.bad || (decide (s.l.length < 1) || decide ((s.l.drop 1).length < tLen s.l)), (if (s.l.drop 1).length < tLen s.l then s.l.drop 1 else (s.l.drop 1).drop (tLen s.l)) ++ x⟩
    rw [e1, e2, if_neg L2, if_neg L4, decide_eq_false L1, decide_eq_false L2, decide_eq_false L3, decide_eq_false L4, List.drop_append_of_le_length h3]
  · show (if ((s.l ++ x).drop 1).length < tLen (s.l ++ x) then [] else ((s.l ++ x).drop 1).take (tLen (s.l ++ x))) = (if (s.l.drop 1).length < tLen s.l then [] else (s.l.drop 1).take (tLen s.l))
    rw [e1, e2, if_neg L2, if_neg L4, List.take_append_of_le_length h3]
theorem Sc.ok_of_place {s : Sc} (h : s.place.bad = false) : (s.num 2).bad = false ∧ ((s.num 2).num 3).bad = false ∧ (((s.num 2).num 3).num 2).bad = false := by
  have h3 := (Sc.text_ok h).1
  have h2 := (Sc.num_ok h3).1
  exact ⟨(Sc.num_ok h2).1, h2, h3⟩
theorem Sc.place_app {s : Sc} (h : s.place.bad = false) (x : List Nat) : (s.app x).place = s.place.app x ∧ (s.app x).pl = s.pl := by
  obtain ⟨h1, h2, h3⟩ := Sc.ok_of_place h
  have a1 := Sc.num_app h1 x
  have a2 := Sc.num_app h2 x
  have a3 := Sc.num_app h3 x
  have a4 := Sc.text_app h x
  constructor
  · unfold Sc.place
    rw [a1.1, a2.1, a3.1, a4.1]
  · unfold Sc.pl
    rw [a1.1, a1.2, a2.1, a2.2, a3.1, a3.2, a4.2]
theorem Sc.pls_ok {s : Sc} {n i : Nat} (h : (s.pls n).bad = false) (hi : i ≤ n) : (s.pls i).bad = false := by
  cases hb : (s.pls i).bad with
  | false => rfl
  | true => rw [Sc.pls_bad_up hb hi] at h; cases h
theorem Sc.pls_app {s : Sc} (x : List Nat) : ∀ {n : Nat}, (s.pls n).bad = false → (s.app x).pls n = (s.pls n).app x
  | 0, _ => rfl
  | n + 1, h => by
    have h0 := Sc.pls_ok h (Nat.le_succ n)
    show ((s.app x).pls n).place = (s.pls n).place.app x
    rw [Sc.pls_app x h0]
    exact (Sc.place_app h x).1
/-- all that was read is read alike with something behind it. -/
structure Alike (a b : Sc) : Prop where
  k : a.k = b.k
  key : a.key = b.key
  N : a.N = b.N
  s : a.s = b.s
  c : a.c = b.c
  t : a.t = b.t
  d : a.d = b.d
  sum : a.sum = b.sum
  pn : a.pn = b.pn
  P : ∀ i, i < b.pn → a.P i = b.P i
  bad : a.fin.bad = false
theorem Sc.fin_app {s : Sc} (h : s.fin.bad = false) (x : List Nat) : Alike (s.app x) s := by
  have h9 : s.a9.bad = false := Sc.pls_ok (i := 0) h (Nat.zero_le _)
  have h8 : s.a8.bad = false := (Sc.num_ok h9).1
  have h7 : s.a7.bad = false := (Sc.text_ok h8).1
  have h6 := (Sc.num_ok h7).1
  have h5 := (Sc.num_ok h6).1
  have h4 := (Sc.num_ok h5).1
  have h3 := (Sc.num_ok h4).1
  have h2 : s.a2.bad = false := (Sc.num_ok h3).1
  have h1 := (Sc.text_ok h2).1
  have a1 := Sc.num_app h1 x
  have a2 := Sc.text_app h2 x
  have e2 : (s.app x).a2 = s.a2.app x := by unfold Sc.a2; rw [a1.1]; exact a2.1
  have a3 := Sc.num_app h3 x
  have a4 := Sc.num_app h4 x
  have a5 := Sc.num_app h5 x
  have a6 := Sc.num_app h6 x
  have a7 := Sc.num_app h7 x
  have e7 : (s.app x).a7 = s.a7.app x := by unfold Sc.a7; rw [e2, a3.1, a4.1, a5.1, a6.1]; exact a7.1
  have a8 := Sc.text_app h8 x
  have e8 : (s.app x).a8 = s.a8.app x := by unfold Sc.a8; rw [e7]; exact a8.1
  have a9 := Sc.num_app h9 x
  have e9 : (s.app x).a9 = s.a9.app x := by unfold Sc.a9; rw [e8]; exact a9.1
  have en : (s.app x).pn = s.pn := by unfold Sc.pn; rw [e8]; exact a9.2
  refine ⟨?_, ?_, ?_, ?_, ?_, ?_, ?_, ?_, en, ?_, ?_⟩
  · unfold Sc.k; rw [a1.2]
  · unfold Sc.key; rw [a1.1, a2.2]
  · unfold Sc.N; rw [e2, a3.2]
  · unfold Sc.s; rw [e2, a3.1, a4.2]
  · unfold Sc.c; rw [e2, a3.1, a4.1, a5.2]
  · unfold Sc.t; rw [e2, a3.1, a4.1, a5.1, a6.2]
  · unfold Sc.d; rw [e2, a3.1, a4.1, a5.1, a6.1, a7.2]
  · unfold Sc.sum; rw [e7, a8.2]
  · intro i hi
    unfold Sc.P
    rw [e9, Sc.pls_app x (Sc.pls_ok h (Nat.le_of_lt hi))]
    exact (Sc.place_app (Sc.pls_ok (i := i + 1) h hi) x).2
  · have h' : (s.a9.pls s.pn).bad = false := h
    have hp := Sc.pls_app x (s := s.a9) (n := s.pn) h'
    have e10 : (s.app x).a8.val 2 = s.pn := en
    unfold Sc.fin
    rw [e9, e10, hp, Sc.app_bad]
    exact h'
theorem Alike.enc {a b : Sc} (h : Alike a b) : encL a.k a.key a.N a.c a.s a.t a.d a.sum a.P a.pn = encL b.k b.key b.N b.c b.s b.t b.d b.sum b.P b.pn := by
  rw [h.k, h.key, h.N, h.c, h.s, h.t, h.d, h.sum, h.pn]
  exact encL_ext (P := a.P) (Q := b.P) (fun i hi => by rw [h.P i hi]; exact ⟨rfl, rfl, rfl, rfl, rfl⟩)
theorem num_back (n W : Nat) (hW : W ≤ 4) (h0 : 1 ≤ W) (hn : n < 256 ^ W) (r : List Nat) : (Sc.mk false (numL n W ++ r)).num W = ⟨false, r⟩ ∧ (Sc.mk false (numL n W ++ r)).val W = n := by
  have hl : (numL n W).length = W := numTo_len _ _ _
  constructor
  · simp only [Sc.num, List.length_append, hl, Bool.false_or]
    rw [decide_eq_false (by omega), List.drop_append_of_le_length (by omega), List.drop_of_length_le (by omega)]
    rfl
  · simp only [Sc.val, List.length_append, hl]
    rw [if_neg (by omega), nOf_app _ _ _ (by omega), nOf_num n W hW h0 hn]
theorem text_back (k : List Nat) (hk : k.length < 256) (r : List Nat) : (Sc.mk false (numL k.length 1 ++ (k ++ r))).text = ⟨false, r⟩ ∧ (Sc.mk false (numL k.length 1 ++ (k ++ r))).bytes = k := by
  have hl : (numL k.length 1).length = 1 := numTo_len _ _ _
  have e1 : (numL k.length 1 ++ (k ++ r)).drop 1 = k ++ r := by rw [List.drop_append_of_le_length (by omega), List.drop_of_length_le (by omega)]; rfl
  have hn : k.length < 256 ^ 1 := hk
  have L1 : ¬ (numL k.length 1 ++ (k ++ r)).length < 1 := by rw [List.length_append]; omega
  have L2 : ¬ (k ++ r).length < k.length := by rw [List.length_append]; omega
  have e2 : tLen (numL k.length 1 ++ (k ++ r)) = k.length := by
    unfold tLen
    rw [if_neg L1, nOf_app _ _ _ (Nat.le_of_eq hl.symm), nOf_num _ 1 (by decide) (by decide) hn]
  constructor
  · show (⟨false || (decide ((numL k.length 1 ++ (k ++ r)).length < 1) || decide (((numL k.length 1 ++ (k ++ r)).drop 1).length < tLen (numL k.length 1 ++ (k ++ r)))), if ((numL k.length 1 ++ (k ++ r)).drop 1).length < tLen (numL k.length 1 ++ (k ++ r)) then (numL k.length 1 ++ (k ++ r)).drop 1 else ((numL k.length 1 ++ (k ++ r)).drop 1).drop (tLen (numL k.length 1 ++ (k ++ r)))⟩ : Sc) = ⟨false, r⟩
    rw [e1, e2, if_neg L2, decide_eq_false L1, decide_eq_false L2, List.drop_left]
    rfl
  · show (if ((numL k.length 1 ++ (k ++ r)).drop 1).length < tLen (numL k.length 1 ++ (k ++ r)) then [] else ((numL k.length 1 ++ (k ++ r)).drop 1).take (tLen (numL k.length 1 ++ (k ++ r)))) = k
    rw [e1, e2, if_neg L2, List.take_left]
theorem place_back (p : PlR) (hb : 0 ≤ p.b ∧ p.b < 1024 ∧ 0 ≤ p.e ∧ p.e < 16777216 ∧ 0 ≤ p.s ∧ p.s < 512 ∧ p.x.2.1 ≤ 32) (hl : p.l.length = p.x.2.1) (r : List Nat) : (Sc.mk false (placeL p ++ r)).place = ⟨false, r⟩ ∧ SameP (Sc.mk false (placeL p ++ r)).pl p := by
  obtain ⟨h1, h2, h3, h4, h5, h6, h7⟩ := hb
  have e : placeL p ++ r = numL p.b.toNat 2 ++ (numL p.e.toNat 3 ++ (numL p.s.toNat 2 ++ (numL p.l.length 1 ++ (p.l ++ r)))) := by unfold placeL; simp only [List.append_assoc]
  have a1 := num_back p.b.toNat 2 (by decide) (by decide) (by have : (256 : Nat) ^ 2 = 65536 := rfl; omega) (numL p.e.toNat 3 ++ (numL p.s.toNat 2 ++ (numL p.l.length 1 ++ (p.l ++ r))))
  have a2 := num_back p.e.toNat 3 (by decide) (by decide) (by have : (256 : Nat) ^ 3 = 16777216 := rfl; omega) (numL p.s.toNat 2 ++ (numL p.l.length 1 ++ (p.l ++ r)))
  have a3 := num_back p.s.toNat 2 (by decide) (by decide) (by have : (256 : Nat) ^ 2 = 65536 := rfl; omega) (numL p.l.length 1 ++ (p.l ++ r))
  have a4 := text_back p.l (by omega) r
  rw [e]
  constructor
  · unfold Sc.place
    rw [a1.1, a2.1, a3.1, a4.1]
  · unfold Sc.pl
    rw [a1.2, a1.1, a2.2, a2.1, a3.2, a3.1, a4.2]
    exact ⟨by simp only; omega, by simp only; omega, by simp only; omega, rfl, hl⟩
theorem places_back (P : Nat → PlR) : ∀ (n : Nat) (r : List Nat), (∀ i, i < n → (0 ≤ (P i).b ∧ (P i).b < 1024 ∧ 0 ≤ (P i).e ∧ (P i).e < 16777216 ∧ 0 ≤ (P i).s ∧ (P i).s < 512 ∧ (P i).x.2.1 ≤ 32) ∧ (P i).l.length = (P i).x.2.1) → (Sc.mk false (placesL P n ++ r)).pls n = ⟨false, r⟩ ∧ ∀ i, i < n → SameP ((Sc.mk false (placesL P n ++ r)).pls i).pl (P i)
  | 0, r, _ => ⟨rfl, fun i hi => absurd hi (Nat.not_lt_zero _)⟩
  | n + 1, r, h => by
    have ih := places_back P n (placeL (P n) ++ r) (fun i hi => h i (by omega))
    have e : placesL P (n + 1) ++ r = placesL P n ++ (placeL (P n) ++ r) := by simp only [placesL, List.append_assoc]
    have hp := place_back (P n) (h n (by omega)).1 (h n (by omega)).2 r
    rw [e]
    constructor
    · show ((Sc.mk false (placesL P n ++ (placeL (P n) ++ r))).pls n).place = _
      rw [ih.1]
      exact hp.1
    · intro i hi
      by_cases hin : i = n
      · subst hin
        rw [ih.1]
        exact hp.2
      · exact ih.2 i (by omega)
/-- a right record's bytes are read as that record. -/
theorem rec_back (k : Int) (key : ByteArray) (N c s t : Int) (d : Bool) (sum : List Nat) (P : Nat → PlR) (pn : Nat) (hR : rightB k key N c s t d sum.length P pn = true) (hl : ∀ i, i < pn → (P i).l.length = (P i).x.2.1) (S : Sc) (hS : S = ⟨false, encL k key N c s t d sum P pn⟩) :
    S.fin.bad = false ∧ S.k = k ∧ S.key = key ∧ S.N = N ∧ S.c = c ∧ S.s = s ∧ S.t = t ∧ S.d = d ∧ S.sum = sum ∧ S.pn = pn ∧ ∀ i, i < pn → SameP (S.P i) (P i) := by
  obtain ⟨k1, k4, ks, N0, N1, e0, e1, s0, s1, t0, t1, sn32, pn512, hpl⟩ := right_facts hR
  have p1 : (256 : Nat) ^ 1 = 256 := rfl
  have p2 : (256 : Nat) ^ 2 = 65536 := rfl
  have p4 : (256 : Nat) ^ 4 = 4294967296 := rfl
  obtain ⟨R9, hR9⟩ : ∃ R, R = placesL P pn ++ [] := ⟨_, rfl⟩
  obtain ⟨D, hD⟩ : ∃ D : Nat, D = if d = true then 1 else 0 := ⟨_, rfl⟩
  have hD2 : D < 2 := by rw [hD]; split <;> decide
  have e : encL k key N c s t d sum P pn = numL k.toNat 1 ++ (numL (keyL key).length 1 ++ (keyL key ++ (numL N.toNat 4 ++ (numL s.toNat 4 ++ (numL c.toNat 1 ++ (numL t.toNat 1 ++ (numL D 1 ++ (numL sum.length 1 ++ (sum ++ (numL pn 2 ++ R9)))))))))) := by
    unfold encL headL
    rw [hR9, keyL_len, hD]
    simp only [List.append_assoc, List.nil_append, List.append_nil]
  rw [e] at hS
  have kl := keyL_len key
  have b1 := num_back k.toNat 1 (by decide) (by decide) (by omega) (numL (keyL key).length 1 ++ (keyL key ++ (numL N.toNat 4 ++ (numL s.toNat 4 ++ (numL c.toNat 1 ++ (numL t.toNat 1 ++ (numL D 1 ++ (numL sum.length 1 ++ (sum ++ (numL pn 2 ++ R9))))))))))
  have b2 := text_back (keyL key) (by omega) (numL N.toNat 4 ++ (numL s.toNat 4 ++ (numL c.toNat 1 ++ (numL t.toNat 1 ++ (numL D 1 ++ (numL sum.length 1 ++ (sum ++ (numL pn 2 ++ R9))))))))
  have b3 := num_back N.toNat 4 (by decide) (by decide) (by omega) (numL s.toNat 4 ++ (numL c.toNat 1 ++ (numL t.toNat 1 ++ (numL D 1 ++ (numL sum.length 1 ++ (sum ++ (numL pn 2 ++ R9)))))))
  have b4 := num_back s.toNat 4 (by decide) (by decide) (by omega) (numL c.toNat 1 ++ (numL t.toNat 1 ++ (numL D 1 ++ (numL sum.length 1 ++ (sum ++ (numL pn 2 ++ R9))))))
  have b5 := num_back c.toNat 1 (by decide) (by decide) (by omega) (numL t.toNat 1 ++ (numL D 1 ++ (numL sum.length 1 ++ (sum ++ (numL pn 2 ++ R9)))))
  have b6 := num_back t.toNat 1 (by decide) (by decide) (by omega) (numL D 1 ++ (numL sum.length 1 ++ (sum ++ (numL pn 2 ++ R9))))
  have b7 := num_back D 1 (by decide) (by decide) (by omega) (numL sum.length 1 ++ (sum ++ (numL pn 2 ++ R9)))
  have b8 := text_back sum (by omega) (numL pn 2 ++ R9)
  have b9 := num_back pn 2 (by decide) (by decide) (by omega) R9
  have b10 := places_back P pn [] (fun i hi => ⟨hpl i hi, hl i hi⟩)
  rw [← hR9] at b10
  have f2 : S.a2 = ⟨false, numL N.toNat 4 ++ (numL s.toNat 4 ++ (numL c.toNat 1 ++ (numL t.toNat 1 ++ (numL D 1 ++ (numL sum.length 1 ++ (sum ++ (numL pn 2 ++ R9)))))))⟩ := by unfold Sc.a2; rw [hS, b1.1, b2.1]
  have f7 : S.a7 = ⟨false, numL sum.length 1 ++ (sum ++ (numL pn 2 ++ R9))⟩ := by unfold Sc.a7; rw [f2, b3.1, b4.1, b5.1, b6.1, b7.1]
  have f8 : S.a8 = ⟨false, numL pn 2 ++ R9⟩ := by unfold Sc.a8; rw [f7, b8.1]
  have f9 : S.a9 = ⟨false, R9⟩ := by unfold Sc.a9; rw [f8, b9.1]
  have fn : S.pn = pn := by unfold Sc.pn; rw [f8, b9.2]
  refine ⟨?_, ?_, ?_, ?_, ?_, ?_, ?_, ?_, ?_, fn, ?_⟩
  · show (S.a9.pls S.pn).bad = false
    rw [f9, fn, b10.1]
  · unfold Sc.k; rw [hS, b1.2]; omega
  · unfold Sc.key; rw [hS, b1.1, b2.2]; exact strOf_keyL key
  · unfold Sc.N; rw [f2, b3.2]; omega
  · unfold Sc.c; rw [f2, b3.1, b4.1, b5.2]; omega
  · unfold Sc.s; rw [f2, b3.1, b4.2]; omega
  · unfold Sc.t; rw [f2, b3.1, b4.1, b5.1, b6.2]; omega
  · unfold Sc.d; rw [f2, b3.1, b4.1, b5.1, b6.1, b7.2, hD]; cases d <;> rfl
  · unfold Sc.sum; rw [f7, b8.2]
  · intro i hi
    unfold Sc.P
    rw [f9]
    exact b10.2 i hi
theorem dec_yes {k : Int} {key : ByteArray} {N c s t : Int} {d : Bool} {sum : List Nat} {P : Nat → PlR} {pn : Nat} (hR : rightB k key N c s t d sum.length P pn = true) (hl : ∀ i, i < pn → (P i).l.length = (P i).x.2.1) : decOk (encL k key N c s t d sum P pn) = true := by
  obtain ⟨h0, h1, h2, h3, h4, h5, h6, h7, h8, h9, h10⟩ := rec_back k key N c s t d sum P pn hR hl _ rfl
  rw [decOk_good h0 true (by rw [h1, h2, h3, h4, h5, h6, h7, h8, h9, rightB_ext h10, hR]) true (by rw [h1, h2, h3, h4, h5, h6, h7, h8, h9, encL_ext h10]; exact (decide_eq_true rfl).symm)]
  rfl
theorem dec_parts {l : List Nat} (h : decOk l = true) : (Sc.mk false l).fin.bad = false ∧ encL (Sc.mk false l).k (Sc.mk false l).key (Sc.mk false l).N (Sc.mk false l).c (Sc.mk false l).s (Sc.mk false l).t (Sc.mk false l).d (Sc.mk false l).sum (Sc.mk false l).P (Sc.mk false l).pn = l := by
  cases hb : (Sc.mk false l).fin.bad with
  | true => rw [decOk_bad hb] at h; cases h
  | false =>
    rw [decOk_good hb _ rfl _ rfl, Bool.and_eq_true] at h
    exact ⟨rfl, of_decide_eq_true h.2⟩
/-- of bytes that are a record's neither a part nor a longer text is one's. -/
theorem dec_only {l x : List Nat} (h : decOk l = true) : decOk (l ++ x) = true ↔ x = [] := by
  constructor
  · intro h2
    have a := dec_parts h
    have b := dec_parts h2
    have e := (Sc.fin_app a.1 x).enc
    have e2 : (Sc.mk false l).app x = ⟨false, l ++ x⟩ := rfl
    rw [e2, b.2, a.2] at e
    exact List.append_right_eq_self.1 e
  · rintro rfl
    rw [List.append_nil]; exact h
theorem dec_cut {l : List Nat} (h : decOk l = true) {n : Nat} (hn : n < l.length) : decOk (l.take n) = false := by
  cases hk : decOk (l.take n) with
  | false => rfl
  | true =>
    have := (dec_only (x := l.drop n) hk).1 (by rw [List.take_append_drop]; exact h)
    have h2 := congrArg List.length this
    simp at h2
    omega
end Go.Proofs.Ytikjcmijmhmilaa
