/-
  msg: Decode.
-/
import Derived.Test.YtopnjjehefaghaaDoorMMgR
import Derived.Test.YtopnjjehefaghaaDoorMMgZ
namespace Go.Proofs.YtopnjjehefaghaaDoor
open Go.RowKit

def zeroM : MsR := ⟨0, 0, 0, 0, 0, ⟨#[]⟩, ⟨0, 0, 0, 0, false, []⟩, [], []⟩
def readM (l : List Nat) : MsR := (⟨false, l⟩ : Sd).msgV
def badM (l : List Nat) : Bool := (⟨false, l⟩ : Sd).fin.bad
def decM (l : List Nat) : MsR × Int := if badM l = false ∧ (encM (readM l)).2 = 0 ∧ (encM (readM l)).1 = l then (readM l, 0) else (zeroM, 110)
def GivesD (w : World) (o : MsR × Int) (e : Ending) (w' : World) : Prop := ∃ x sa sc ia ic, e = .returned (.tuple #[.agg (MsC o.1 x sa sc ia ic), .int .i64 o.2]) ∧ OwM w' w.heap.size o.1 x sa sc ia ic ∧ Below w.heap.size w w'
theorem zero_ow (w : World) (B : Nat) : OwM w B zeroM (none, 0, 0) none 0 none 0 :=
  ⟨⟨rfl, .inl ⟨rfl, rfl⟩⟩, rfl, ⟨fun x hx => (nomatch hx), by decide⟩, OwnS.nil _ _, [], rfl, OwI.nil _ _⟩
theorem results_msg {fn : Func} {p u : Tmp} (hf : fn.results = #[.cell p MMT, .tmp u]) {w : World} {g : Nat} {cs : Array Value} (k : w.heap[g]? = some (.cells cs MMT (0, 0))) (hs : cs.size = 14) (tmps : Array Value) (hp : tmps.getD p undef = .pointer (some ⟨g, 0, none⟩)) : (results fn tmps).run Tryd.prog w = .ok (.tuple #[.agg cs, tmps.getD u undef]) w := by
  rw [results_cell_tmp hf, hp]
  simp only [asAddr, Sem.run_pure, Result.andThen_ok]
  rw [run_loadVar_row w g MMT MMT cs (0, 0) _ k Tryd.underlying30 rfl (by rw [hs]; kernel_rfl)]
  rfl
set_option maxRecDepth 100000 in
set_option maxHeartbeats 8000000 in
theorem decodeM_any (ad : Option Addr) (n c : Nat) (l : List Nat) (w : World) (h : BytesV w (ad, n, c) l) :
    Calls Tryd.prog 19 #[.slice ad n c] w (GivesD w (decM l)) := by
  obtain ⟨s, hs⟩ : ∃ s : Sd, s = ⟨false, l⟩ := ⟨_, rfl⟩
  obtain ⟨D, hD⟩ : ∃ D, D = decM l := ⟨_, rfl⟩
  rw [← hD]
  have hd2 : D = if s.fin.bad = false ∧ (encM s.msgV).2 = 0 ∧ (encM s.msgV).1 = l then (s.msgV, 0) else (zeroM, 110) := by rw [hD, hs]; rfl
  obtain ⟨r, hr⟩ : ∃ q, q = w.heap.size := ⟨_, rfl⟩
  obtain ⟨w1, hw1⟩ : ∃ x, x = w.alloc (.cells Z14 MMT) := ⟨_, rfl⟩
  have k1 : w1.heap[r]? = some (.cells Z14 MMT (0, 0)) := by rw [hw1, hr]; exact heap_alloc_new w _
  have b1 : Below w.heap.size w w1 := by rw [hw1]; exact below_alloc w _
  have hs1 : w1.heap.size = r + 1 := by rw [hw1, hr]; simp
  obtain ⟨w2, hw2⟩ : ∃ x, x = w1.alloc (.cells #[.slice ad n c, .bool false] RT2) := ⟨_, rfl⟩
  have k2 : w2.heap[r + 1]? = some (.cells #[.slice ad n c, .bool false] RT2 (0, 0)) := by rw [hw2, ← hs1]; exact heap_alloc_new w1 _
  have b2 : Below w1.heap.size w1 w2 := by rw [hw2]; exact below_alloc w1 _
  have j2 := (b2.block r (by omega)).trans k1
  have b02 := b1.trans (b2.mono b1.size)
  have hrd : RdM w w2 (r + 1) s := by rw [hs]; exact ⟨ad, n, c, h, k2⟩
  have KM := messageM_any (r + 1) s w w2 b02 (by omega) hrd
  have HW1 := Lib.hid hw1
  have HW2 := Lib.hid hw2
  have HR := Lib.hid hr
  have HD := Lib.hid hd2
  have HH := Lib.hid h
  have J2 := Lib.hid j2
  have B02 := Lib.hid b02
  have hr1 : w.heap.size ≤ r := Nat.le_of_eq hr.symm
  have hr2 : r ≤ w.heap.size := Nat.le_of_eq hr
  have hlt2 : r + 1 < w2.heap.size := hrd.lt
  clear hw1 hw2 hr hd2 h j2 b02 hrd hs1 k1 b1 k2 b2 hs hD
  go_enter Tryd.func19, Tryd.ntmps19
  go_upto_region 2 with fail
  rw [← HR.out, ← HW1.out, ← HW2.out]
  go_wp2_with fail
  (with_reducible refine KM.mono ?_)
  rintro e w3 ⟨⟨xa, xn, xc⟩, sa, sc, ia, ic, rfl, ow3, hr3, hg3⟩
  obtain ⟨M, hM⟩ : ∃ M, M = s.msgV := ⟨_, rfl⟩
  rw [← hM] at ow3 ⊢
  have j3 := (hg3.block r (by omega) (fun e => by injection e with e; omega)).trans J2.out
  obtain ⟨ra, rn, rc, hrb, hrh⟩ := hr3
  have hsz3 := hg3.size
  have b03 : Below w.heap.size w w3 := below_onM B02.out (by omega) hg3
  obtain ⟨q, hq⟩ : ∃ q, q = w3.heap.size := ⟨_, rfl⟩
  obtain ⟨w4, hw4⟩ : ∃ x, x = w3.alloc (.cells (MsC M (xa, xn, xc) sa sc ia ic) MMT) := ⟨_, rfl⟩
  have k4 : w4.heap[q]? = some (.cells (MsC M (xa, xn, xc) sa sc ia ic) MMT (0, 0)) := by rw [hw4, hq]; exact heap_alloc_new w3 _
  have b4 : Below w3.heap.size w3 w4 := by rw [hw4]; exact below_alloc w3 _
  have J4 := Lib.hid ((b4.block r (Array.getElem?_eq_some_iff.1 j3).1).trans j3)
  have R4 := Lib.hid ((b4.block (r + 1) (Array.getElem?_eq_some_iff.1 hrh).1).trans hrh)
  have B4 := Lib.hid (b03.trans (b4.mono b03.size))
  have O4 := Lib.hid (ow3.below b4)
  have K4 := Lib.hid k4
  have HW4 := Lib.hid hw4
  have HQ := Lib.hid hq
  have HM := Lib.hid hM
  have hsz := B02.out.size
  have KE := encode_anyM M (xa, xn, xc) sa sc ia ic w4 O4.out.v
  unfold GivesM at KE
  have hle := encM_len M
  obtain ⟨⟨L, E⟩, hE⟩ : ∃ p, p = encM M := ⟨_, rfl⟩
  rw [← hE] at KE hle
  simp only at hle
  have HE := Lib.hid hE
  clear KM ow3 hrb hrh hg3 j3 b03 hq hw4 k4 b4 hM hE
  go_upto_region 3 with fail
  rw [← HW4.out, ← HQ.out]
  obtain ⟨⟨c0, c1, c2, c3, c4, c5, c6⟩, c7, c8, c9, c10, c11, c12, c13⟩ := cells14 K4.out
  go_wp2_with fail
  (with_reducible refine KE.mono ?_)
  rintro e w5 ⟨ad5, cap5, rfl, o5, y5, b5⟩
  have J5 := Lib.hid ((b5.block r (Array.getElem?_eq_some_iff.1 J4.out).1).trans J4.out)
  have R5 := Lib.hid ((b5.block (r + 1) (Array.getElem?_eq_some_iff.1 R4.out).1).trans R4.out)
  have K5 := Lib.hid ((b5.block q (Array.getElem?_eq_some_iff.1 K4.out).1).trans K4.out)
  have B5 := Lib.hid (B4.out.trans (b5.mono B4.out.size))
  have O5 := Lib.hid (O4.out.below b5)
  have hby := ownBytes o5 y5 (by omega)
  have KB := bytesEqual_anyM ad5 L.length cap5 L ad n c l w5 hby (HH.out.below B5.out)
  clear KE o5 y5 b5 c0 c1 c2 c3 c4 c5 c6 c7 c8 c9 c10 c11 c12 c13 hby
  have c1 : w5.cell? ⟨r + 1, 1, none⟩ = some (.bool s.fin.bad) := cell_of_row _ _ 1 _ _ _ R5.out
  obtain ⟨FB, hFB⟩ : ∃ b, b = s.fin.bad := ⟨_, rfl⟩
  rw [← hFB] at c1
  have HFB := Lib.hid hFB
  clear hFB
  go_upto_region 4 with fail
  go_cut [31] (fun v wx => ∃ x : Bool, v = .bool x ∧ w5 = wx ∧ Hid (x = true → D = (zeroM, 110)) ∧ Hid (x = false → D = (M, 0)))
  case first =>
    have hno : ¬ (s.fin.bad = false ∧ (encM s.msgV).2 = 0 ∧ (encM s.msgV).1 = l) → D = (zeroM, 110) := fun h => by rw [HD.out, if_neg h]
    have HNO := Lib.hid hno
    clear hno
    cases FB with
    | true =>
      have hx := HNO.out (fun h => by rw [← HFB.out] at h; cases h.1)
      have HX := Lib.hid hx
      clear hx KB
      go_wp2
      go_meet
      exact ⟨true, rfl, rfl, Lib.hid (fun _ => HX.out), Lib.hid (fun e => by cases e)⟩
    | false =>
      by_cases hE0 : E = 0
      · by_cases hLl : L = l
        · have hyes : D = (M, 0) := by rw [HD.out, if_pos ⟨HFB.out.symm, by rw [← HM.out, ← HE.out]; exact hE0, by rw [← HM.out, ← HE.out]; exact hLl⟩, HM.out]
          have HX := Lib.hid hyes
          rw [decide_eq_true hLl] at KB
          clear hyes hLl
          subst hE0
          go_wp2_with fail
          (with_reducible refine KB.mono ?_)
          rintro e wz ⟨rfl, rfl⟩
          go_wp2
          go_meet
          exact ⟨false, rfl, rfl, Lib.hid (fun e => by cases e), Lib.hid (fun _ => HX.out)⟩
        · have hx := HNO.out (fun h => by have := h.2.2; rw [← HM.out, ← HE.out] at this; exact hLl this)
          have HX := Lib.hid hx
          rw [decide_eq_false hLl] at KB
          clear hx hLl
          subst hE0
          go_wp2_with fail
          (with_reducible refine KB.mono ?_)
          rintro e wz ⟨rfl, rfl⟩
          go_wp2
          go_meet
          exact ⟨true, rfl, rfl, Lib.hid (fun _ => HX.out), Lib.hid (fun e => by cases e)⟩
      · have hx := HNO.out (fun h => by have := h.2.1; rw [← HM.out, ← HE.out] at this; exact hE0 this)
        have HX := Lib.hid hx
        have hE1 : (E != 0) = true := bne_iff_ne.2 hE0
        clear hx KB
        go_wp2
        go_meet
        exact ⟨true, rfl, rfl, Lib.hid (fun _ => HX.out), Lib.hid (fun e => by cases e)⟩
  case rest =>
    obtain ⟨x, rfl, rfl, HT, HF⟩ := hcut
    clear c1 KB
    obtain ⟨⟨d0, d1, d2, d3, d4, d5, d6⟩, d7, d8, d9, d10, d11, d12, d13⟩ := cells14 J5.out
    have hfz : ∀ j, w5.frozen? ⟨r, j, none⟩ = false := fun _ => frozen_of_row _ _ _ _ _ J5.out
    have hlow : ∀ WF : World, w5.grownBy WF (some r) → Below w.heap.size w WF := fun WF hg => B5.out.grown hg B5.out.size (fun q hq => by injection hq with hq; omega)
    have HLOW := Lib.hid hlow
    clear hlow
    cases x with
    | true =>
      have hDZ := HT.out rfl
      have HDZ := Lib.hid hDZ
      clear hDZ HT HF
      go_wp2_with fail
      have hh := heap_setsFrom 0 Z14.toList J5.out (l' := Z14.toList) rfl
      have hgr := grown_setsFrom (g := r) Z14.toList 0 w5
      refine (?_ : ∀ WF : World, WF.heap[r]? = some (.cells Z14 MMT (0, 0)) → w5.grownBy WF (some r) → bodyPost _ _ _ _ _ WF) _ hh hgr
      clear hh hgr
      intro WF hh hgr
      refine bodyPost_ret (results_msg rfl hh rfl _ rfl) (by rfl) ?_
      rw [HDZ.out]
      exact ⟨(none, 0, 0), none, 0, none, 0, rfl, zero_ow _ _, HLOW.out _ hgr⟩
    | false =>
      have hDZ := HF.out rfl
      have HDZ := Lib.hid hDZ
      clear hDZ HT HF
      obtain ⟨⟨c0, c1, c2, c3, c4, c5, c6⟩, c7, c8, c9, c10, c11, c12, c13⟩ := cells14 K5.out
      have hqr : ¬ q = r := by have := HQ.out; omega
      go_wp2_with fail
      have hh := heap_setsFrom 0 (MsC M (xa, xn, xc) sa sc ia ic).toList J5.out (l' := (MsC M (xa, xn, xc) sa sc ia ic).toList) rfl
      have hgr := grown_setsFrom (g := r) (MsC M (xa, xn, xc) sa sc ia ic).toList 0 w5
      refine (?_ : ∀ WF : World, WF.heap[r]? = some (.cells (MsC M (xa, xn, xc) sa sc ia ic) MMT (0, 0)) → w5.grownBy WF (some r) → bodyPost _ _ _ _ _ WF) _ hh hgr
      clear hh hgr
      intro WF hh hgr
      refine bodyPost_ret (results_msg rfl hh rfl _ rfl) (by rfl) ?_
      rw [HDZ.out]
      exact ⟨(xa, xn, xc), sa, sc, ia, ic, rfl, (O5.out.grown hgr (by omega)).rebase (by omega), HLOW.out _ hgr⟩
end Go.Proofs.YtopnjjehefaghaaDoor
