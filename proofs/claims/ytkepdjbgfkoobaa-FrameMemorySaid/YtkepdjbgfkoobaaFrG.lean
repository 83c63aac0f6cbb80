/-
  frame.Scan.
-/
import Derived.Test.YtkepdjbgfkoobaaFrF
namespace Go.Proofs.Ytkepdjbgfkoobaa
open Go.RowKit

theorem own_none (v : Value) : v.ownBlock = none ∨ v.ownBlock ≠ none := by cases v.ownBlock <;> simp
def ScanGives (w : World) (q : List (List Nat) × Nat) (e : Ending) (w' : World) : Prop :=
  ∃ ad cap hs, e = .returned (.tuple #[.slice ad q.1.length cap, .int .i64 q.2]) ∧ w'.ownsRow w.heap.size 22 1 (.slice ad q.1.length cap) q.1.length (hs.map SV) ∧ OwnsRows w' w.heap.size 5 hs q.1 ∧ Below w.heap.size w w'

set_option maxRecDepth 100000 in
set_option maxHeartbeats 4000000 in
theorem scan_zero (ad : Option Addr) (c : Nat) (w : World) (h : BytesV w (ad, 0, c) []) :
    Calls Try.prog 20 #[.slice ad 0 c] w (ScanGives w ([], 0)) := by
  go_enter Try.func20, Try.ntmps20
  go_wp2
  go_loopw [4, 5] (fun v i wr => v = .slice none 0 0 ∧ i = .int .i64 0 ∧ wr = w) (fun _ _ _ => 0)
  case atStart => exact ⟨rfl, rfl, rfl⟩
  case round =>
    obtain ⟨rfl, rfl, rfl⟩ := hrel
    go_wp2_with (go_at_call 18; (with_reducible refine (next_any _ _ _ _ _ h).mono ?_); rintro e w1 ⟨ad1, cap1, rfl, hown1, hb1⟩)
    have e : nextN [] = ([], 0, 0) := by decide
    rw [e] at hown1 ⊢
    clear e
    go_wp2
    go_ret2
    exact ⟨none, 0, [], rfl, World.ownsRow_nil _ _ _ _, ⟨rfl, fun i x l h => by simp at h⟩, hb1⟩

theorem bytesV_empty {w : World} {a : Option Addr} {c : Nat} (h : a = none → c = 0) : BytesV w (a, 0, c) [] := ⟨⟨rfl, fun h => absurd h (by simp)⟩, fun x hx => (by cases hx), by simp, by simp, h⟩

/-- what the frames up to 'at' leave to say. -/
def ScanTo (l : List Nat) (ps : List (List Nat)) (k : Nat) : Prop := scanN l = (ps ++ (scanN (l.drop k)).1, k + (scanN (l.drop k)).2)
theorem scanTo_zero (l : List Nat) : ScanTo l [] 0 := by simp [ScanTo]
theorem scanTo_end {l : List Nat} {ps : List (List Nat)} {k : Nat} (h : ScanTo l ps k) (h0 : (nextN (l.drop k)).2.1 = 0) : scanN l = (ps, k) := by
  unfold ScanTo at h; rw [h, scanN_stop h0]; simp
theorem scanTo_step {l : List Nat} {ps : List (List Nat)} {k m : Nat} {p : List Nat} {er : Int} (h : ScanTo l ps k) (hn : nextN (l.drop k) = (p, m, er)) (h0 : m ≠ 0) : ScanTo l (ps ++ [p]) (k + m) := by
  unfold ScanTo at h ⊢
  have h1 : (nextN (l.drop k)).2.1 ≠ 0 := by rw [hn]; exact h0
  rw [h, scanN_step h1, hn, List.drop_drop]
  simp [Nat.add_assoc]

theorem scan_over {w w1 : World} {l : List Nat} {ps : List (List Nat)} {k r cap : Nat} {ad : Option Addr} {js : List (Option Addr × Nat × Nat)} (h : scanN l = (ps, k)) (hr : ps.length = r) (hown : w1.ownsRow w.heap.size 22 1 (.slice ad r cap) r (js.map SV)) (hins : OwnsRows w1 w.heap.size 5 js ps) (hb : Below w.heap.size w w1) :
    ScanGives w (scanN l) (.returned (.tuple #[.slice ad r cap, .int .i64 (k : Nat)])) w1 := by
  rw [h]
  subst hr
  exact ⟨ad, cap, js, rfl, hown, hins, hb⟩

set_option maxRecDepth 100000 in
set_option maxHeartbeats 4000000 in
theorem scan_any (ad : Option Addr) (n c : Nat) (l : List Nat) (hn : n ≤ 10000000) (w : World) (h : BytesV w (ad, n, c) l) :
    Calls Try.prog 20 #[.slice ad n c] w (ScanGives w (scanN l)) := by
  have hl : l.length = n := h.length
  by_cases h0 : n = 0
  · subst h0
    have e : l = [] := List.eq_nil_of_length_eq_zero hl
    subst e
    exact scan_zero ad c w h
  have hc : n ≤ c := h.cap
  obtain ⟨b, o, e, hcell⟩ := h.row.2 (by simp; omega)
  simp only at e
  subst e
  clear hcell
  obtain ⟨i0, hi, hz0, hz1, hz2⟩ := info_parts Try.info22
  have HL := Lib.hid hl
  clear hl
  go_enter Try.func20, Try.ntmps20
  go_wp2
  go_loopw [4, 5] (fun v i wr => ∃ (k r : Nat) (ps : List (List Nat)) (js : List (Option Addr × Nat × Nat)) (ad cap : _), k ≤ n ∧ i = .int .i64 k ∧ v = .slice ad r cap ∧ Hid (ps.length = r) ∧ r * 8 ≤ k ∧ wr.ownsRow w.heap.size 22 1 (.slice ad r cap) r (js.map SV) ∧ OwnsRows wr w.heap.size 5 js ps ∧ ScanTo l ps k ∧ Below w.heap.size w wr) (fun _ i _ => n - (intOf i).toNat)
  case atStart => exact ⟨0, 0, [], [], none, 0, Nat.zero_le _, rfl, rfl, rfl, Nat.le_refl _, World.ownsRow_nil _ _ _ _, ⟨rfl, fun i x l h => by simp at h⟩, scanTo_zero l, Below.refl _ _⟩
  case round =>
    obtain ⟨k, r, ps, js, ad, cap, hk, rfl, rfl, HR, hr8, hown, hins, hst, hb⟩ := hrel
    have hbs := hb.size
    have hck : k ≤ c := by omega
    obtain ⟨q, hq⟩ : ∃ q, q = nextN (l.drop k) := ⟨_, rfl⟩
    obtain ⟨p, m, er⟩ := q
    have hcs := nextN_cases (l.drop k)
    rw [← hq] at hcs
    simp only at hcs
    obtain ⟨a, hA⟩ : ∃ a, a = (if c = k then (some ⟨b, o, none⟩ : Option Addr) else some ⟨b, o + k, none⟩) := ⟨_, rfl⟩
    have hsub : BytesV wr (a, n - k, c - k) (l.drop k) := by
      rw [hA]
      by_cases e : c = k
      · have e1 : n - k = 0 := by omega
        rw [if_pos e, e1, List.drop_of_length_le (by rw [HL.out]; omega)]
        exact bytesV_empty (fun e => by cases e)
      · rw [if_neg e]
        have := (bytesV_sub (h.below hb) k (n - k) (by omega))
        rwa [List.take_of_length_le (by rw [List.length_drop, HL.out]; exact Nat.le_refl _)] at this
    have KN := next_any a (n - k) (c - k) (l.drop k) wr hsub
    rw [← hq] at KN
    have HQ := Lib.hid hq
    have HC := Lib.hid hcs
    have hml : m ≤ n - k := by
      have := nextN_le (l.drop k)
      rw [← hq, List.length_drop, HL.out] at this
      exact this
    replace hA := hA.symm
    clear hq hcs hsub
    by_cases hm : m = 0
    · subst hm
      have HE : Hid (scanN l = (ps, k)) := scanTo_end hst (by rw [← HQ.out])
      clear hst
      by_cases he : er = 0
      · subst he
        go_wp2_with (go_at_call 18; (with_reducible refine KN.mono ?_); rintro e w1 ⟨ad1, cap1, rfl, hown1, hb1⟩)
        go_ret2
        exact scan_over HE.out HR.out (hown.kept (grownBy_of_below hb1 none) (own_none _)) (hins.below hb1) (hb.trans (hb1.mono hbs))
      · have he' : (er != 0) = true := by rw [bne_iff_ne]; exact he
        go_wp2_with (go_at_call 18; (with_reducible refine KN.mono ?_); rintro e w1 ⟨ad1, cap1, rfl, hown1, hb1⟩)
        go_ret2
        exact scan_over HE.out HR.out (hown.kept (grownBy_of_below hb1 none) (own_none _)) (hins.below hb1) (hb.trans (hb1.mono hbs))
    · have hm' : ((m : Int) == 0) = false := by simpa using hm
      have hc2 : er = 0 ∧ m = p.length + 8 ∧ m ≤ (l.drop k).length ∧ p = ((l.drop k).drop 4).take p.length ∧ p.length ≤ 32768 := by
        rcases HC.out with h1 | h1
        · exact absurd h1.1 hm
        · exact h1
      obtain ⟨he, hm8, -, -, -⟩ := hc2
      subst he
      have HST : Hid (ScanTo l (ps ++ [p]) (k + m)) := scanTo_step hst HQ.out.symm hm
      have hm8' : 8 ≤ m := by omega
      rw [if_neg (by omega)] at hA
      subst hA
      have hkm : k + m ≤ n := by omega
      have hck' : (c = k) = False := eq_false (by omega)
      have HM8 := Lib.hid hm8'
      have HKM := Lib.hid hkm
      clear hml hck hm hm8' hkm
      clear hst hm8 HC
      go_wp2_with fail
      (with_reducible refine KN.mono ?_)
      rintro e w1 ⟨ad1, cap1, rfl, hown1, hb1⟩
      dsimp only at hown1
      have hownw := hown.kept (grownBy_of_below hb1 none) (own_none _)
      have hinsw := hins.below hb1
      have hbb := hb.trans (hb1.mono hbs)
      have hbbs := hbb.size
      have hownin := ownsRow_base hown1 hbs
      clear hb1 hown hins hb
      go_wp2_with (first
        | (at_builtin; have h1 := HM8.out; have h2 := HKM.out; refine wpList_append_row rfl _ _ 34 rfl w.heap.size 22 i0 (.slice none 0 0) 24 Try.underlying34 hi hz0 hz1 hz2 rfl _ _ _ rfl (hownw.alloc _) (some ⟨w1.heap.size, 0, none⟩) 1 1 [SV (ad1, p.length, cap1)] rfl (rowV_lit _ _ _ _ _ _ rfl rfl rfl) (by intro h; cases h) (SV_one [(ad1, p.length, cap1)]) (by simp [maxLen]; omega) (by omega) (by simp; omega) ?_; intro v' w2 hown2 hgrow2 _; have hb2 := grow_step hbb _ hownw hgrow2; have hins2 := (hinsw.below (below_alloc w1 (.cells #[SV (ad1, p.length, cap1)] 22))).kept hgrow2 (fun i x l h1 h2 => own_ne (hinsw.2 i x l h1 h2).2 hownw (by decide)); have hin2 := (hownin.alloc (.cells #[SV (ad1, p.length, cap1)] 22)).kept hgrow2 (own_ne hownin hownw (by decide)); clear hgrow2 h1; obtain ⟨ad2, cap2, rfl, _⟩ := ownsRow_parts hown2))
      go_roundw
      case rel =>
        have h3 := HM8.out
        refine ⟨k + m, r + 1, ps ++ [p], js ++ [(ad1, p.length, cap1)], ad2, cap2, by omega, by go_num, rfl, ?_, by omega, ?_, hins2.snoc rfl hin2, HST.out, hb2⟩
        · show (ps ++ [p]).length = r + 1
          rw [List.length_append, HR.out]; rfl
        · rw [List.map_append]; exact hown2
      case measure =>
        have h3 := HM8.out
        simp [intOf]
        omega
end Go.Proofs.Ytkepdjbgfkoobaa
