/-
  msg's laws: alive; the reference's Encode; MsgEncodes' walk.
-/
import Derived.Test.YtopnjjehefaghaaDoorMMgQ
namespace Go.Proofs.YtopnjjehefaghaaDoor
open Go.RowKit

theorem bytes_appM {a b : List Nat} (h : Bytes a) (k : Bytes b) : Bytes (a ++ b) := fun x hx => (List.mem_append.1 hx).elim (h x) (k x)
theorem keyL_bytesM (key : ByteArray) : Bytes (keyL key) := fun x hx => by
  simp only [keyL, List.mem_map] at hx
  obtain ⟨y, -, rfl⟩ := hx
  exact y.toNat_lt
theorem flat_bytes {α : Type} (f : α → List Nat) : ∀ (l : List α), (∀ x ∈ l, Bytes (f x)) → Bytes ((l.map f).flatten)
  | [], _ => fun x hx => (nomatch hx)
  | x :: l, h => by
    rw [List.map_cons, List.flatten_cons]
    exact bytes_appM (h x (List.mem_cons_self ..)) (flat_bytes f l (fun y hy => h y (List.mem_cons_of_mem _ hy)))
theorem metaLE_bytes (m : MeR) (h : Bytes m.l) : Bytes (metaLE m) := by
  unfold metaLE
  exact bytes_appM (bytes_appM (bytes_appM (bytes_appM (bytes_appM (numLE_bytes _ _) (numLE_bytes _ _)) (numLE_bytes _ _)) (numLE_bytes _ _)) (numLE_bytes _ _)) (bytes_appM (numLE_bytes _ _) h)
theorem msgLE_bytes {w : World} {M : MsR} {x : Option Addr × Nat × Nat} {sa ia : Option Addr} (hM : MsV w M x sa ia) : Bytes (msgLE M) := by
  have hs : ∀ p ∈ M.sy, Bytes (symLE p) := fun p hp => by
    obtain ⟨i, hi, rfl⟩ := List.mem_iff_getElem.1 hp
    obtain ⟨b, off, z, e, xa, n, xc, l, -, -, -, -, hpi, hby⟩ := hM.s.at hi
    rw [List.getElem?_eq_getElem hi] at hpi
    injection hpi with hpi
    rw [hpi]
    exact bytes_appM (bytes_appM (numLE_bytes _ _) (numLE_bytes _ _)) (bytes_appM (numLE_bytes _ _) hby.bytes)
  have hi : ∀ p ∈ M.it, Bytes (itemLE p) := fun p hp => by
    obtain ⟨i, hi, rfl⟩ := List.mem_iff_getElem.1 hp
    obtain ⟨b, off, it, y, -, hpi, hat⟩ := hM.i.at hi
    rw [List.getElem?_eq_getElem hi] at hpi
    injection hpi with hpi
    rw [hpi]
    exact bytes_appM (bytes_appM (numLE_bytes _ _) (keyL_bytesM _)) (metaLE_bytes _ hat.by_.bytes)
  unfold msgLE headLE
  exact bytes_appM (bytes_appM (bytes_appM (bytes_appM (bytes_appM (bytes_appM (bytes_appM (bytes_appM (bytes_appM (bytes_appM (numLE_bytes _ _) (numLE_bytes _ _)) (numLE_bytes _ _)) (numLE_bytes _ _)) (numLE_bytes _ _)) (bytes_appM (numLE_bytes _ _) (keyL_bytesM _))) (metaLE_bytes _ hM.x.bytes)) (numLE_bytes _ _)) (flat_bytes _ _ hs)) (numLE_bytes _ _)) (flat_bytes _ _ hi)
theorem ownBytes {w : World} {B : Nat} {ad : Option Addr} {cap : Nat} {L : List Nat} (h : w.ownsRow B 5 1 (.slice ad L.length cap) L.length (L.map bv)) (hb : Bytes L) (hl : L.length ≤ 140737488355328) : BytesV w (ad, L.length, cap) L := by
  obtain ⟨ad', cap', e', -, hcap, hmax, -⟩ := ownsRow_parts h
  injection e' with e1 e2 e3
  subst e1 e3
  exact bytesV_own (x := (ad, L.length, cap)) h rfl hb hl
theorem encM_len (M : MsR) : (encM M).1.length ≤ 65536 := by
  unfold encM
  split
  · rename_i h
    rw [Bool.and_eq_true] at h
    exact of_decide_eq_true h.2
  · exact Nat.zero_le _
theorem enc_code (M : MsR) : decide ((encM M).2 = 0) = (rightM M && decide ((msgLE M).length ≤ 65536)) := by
  unfold encM
  cases (rightM M && decide ((msgLE M).length ≤ 65536)) <;> rfl
set_option maxRecDepth 100000 in
set_option maxHeartbeats 8000000 in
theorem rencode_anyM (M : MsR) (x : Option Addr × Nat × Nat) (sa : Option Addr) (sc : Nat) (ia : Option Addr) (ic : Nat) (w : World) (hM : MsV w M x sa ia) :
    Calls Tryd.prog 13 #[.agg (MsC M x sa sc ia ic)] w (GivesM M w) := by
  have KR := rcheck_any M x sa sc ia ic
  have HM := Lib.hid hM
  obtain ⟨RB, hRB⟩ : ∃ B, B = (rightM M && decide ((msgLE M).length ≤ 65536)) := ⟨_, rfl⟩
  rw [← hRB] at KR
  have HRB := Lib.hid hRB
  have hb0 := below_alloc w (.cells (MsC M x sa sc ia ic) MMT)
  have hh0 := heap_alloc_new w (.cells (MsC M x sa sc ia ic) MMT)
  have K1 := KR (w.alloc (.cells (MsC M x sa sc ia ic) MMT)) (hM.below hb0)
  have HB0 := Lib.hid hb0
  obtain ⟨⟨c0, c1, c2, c3, c4, c5, c6⟩, c7, c8, c9, c10, c11, c12, c13⟩ := cells14 hh0
  clear hM KR hRB hb0
  go_enter Tryd.func13, Tryd.ntmps13
  go_wp2_with fail
  (with_reducible refine K1.mono ?_)
  rintro e w2 ⟨rfl, b2⟩
  have hh2 := (b2.block _ (Array.getElem?_eq_some_iff.1 hh0).1).trans hh0
  have hb2 := HB0.out.trans (b2.mono HB0.out.size)
  have HB2 := Lib.hid hb2
  clear K1 b2 hh0 hb2 c0 c1 c2 c3 c4 c5 c6 c7 c8 c9 c10 c11 c12 c13
  obtain ⟨⟨c0, c1, c2, c3, c4, c5, c6⟩, c7, c8, c9, c10, c11, c12, c13⟩ := cells14 hh2
  cases RB with
  | false =>
    go_wp2
    go_ret2
    exact givesM_no (by unfold encM; rw [← HRB.out]; rfl) HB2.out
  | true =>
    have hr : rightM M = true := by
      have := HRB.out.symm
      rw [Bool.and_eq_true] at this
      exact this.1
    have KB := rbytes_any M x sa sc ia ic w2 (right_fits hr) (HM.out.below HB2.out)
    have he : encM M = (msgLE M, 0) := by unfold encM; rw [← HRB.out]; rfl
    obtain ⟨L, hL⟩ : ∃ L, L = msgLE M := ⟨_, rfl⟩
    have hLb : Bytes (msgLE M) := msgLE_bytes HM.out
    rw [← hL] at KB he hLb
    have HE := Lib.hid he
    have HLb := Lib.hid hLb
    clear hr he hL hLb hh2
    go_wp2_with fail
    (with_reducible refine KB.mono ?_)
    rintro e w4 ⟨ad, cap, rfl, o4, b4⟩
    have HO4 := Lib.hid o4
    have HB4 := Lib.hid (HB2.out.trans (b4.mono HB2.out.size))
    have hle := HB2.out.size
    clear KB o4 b4 c0 c1 c2 c3 c4 c5 c6 c7 c8 c9 c10 c11 c12 c13
    go_wp2
    go_ret2
    unfold GivesM
    rw [HE.out]
    exact ⟨ad, cap, rfl, ownsRow_base HO4.out hle, HLb.out, HB4.out⟩
set_option maxRecDepth 100000 in
set_option maxHeartbeats 8000000 in
theorem great_any11 (M : MsR) (x : Option Addr × Nat × Nat) (sa : Option Addr) (sc : Nat) (ia : Option Addr) (ic : Nat) (w : World) :
    Calls Tryd.prog 10 #[.agg (MsC M x sa sc ia ic)] w fun e w' => e = .returned (.bool (decide (600 < M.sy.length ∨ 200 < M.it.length))) ∧ Below w.heap.size w w' := by
  obtain ⟨SN, hSN⟩ : ∃ n, n = M.sy.length := ⟨_, rfl⟩
  obtain ⟨IN, hIN⟩ : ∃ n, n = M.it.length := ⟨_, rfl⟩
  obtain ⟨xa, xn, xc⟩ := x
  simp only [MsC, ← hSN, ← hIN]
  obtain ⟨GB, hGB⟩ : ∃ g, g = decide (600 < SN ∨ 200 < IN) := ⟨_, rfl⟩
  rw [← hGB]
  have HGB := Lib.hid hGB
  obtain ⟨w1, hw1⟩ : ∃ x', x' = w.alloc (.cells #[.int .i64 M.k, .int .i64 M.f, .int .i64 M.t, .int .i64 M.op, .int .i64 M.cd, .string M.key, .int .i64 M.m.N, .int .i64 M.m.c, .int .i64 M.m.s, .int .i64 M.m.t, .bool M.m.d, .slice xa xn xc, .slice sa SN sc, .slice ia IN ic] MMT) := ⟨_, rfl⟩
  have hh1 : w1.heap[w.heap.size]? = some (.cells #[.int .i64 M.k, .int .i64 M.f, .int .i64 M.t, .int .i64 M.op, .int .i64 M.cd, .string M.key, .int .i64 M.m.N, .int .i64 M.m.c, .int .i64 M.m.s, .int .i64 M.m.t, .bool M.m.d, .slice xa xn xc, .slice sa SN sc, .slice ia IN ic] MMT (0, 0)) := by rw [hw1]; exact heap_alloc_new w _
  have hb1 : Below w.heap.size w w1 := by rw [hw1]; exact below_alloc w _
  have HW1 := Lib.hid hw1
  have HB1 := Lib.hid hb1
  have c12 : w1.cell? ⟨w.heap.size, 12, none⟩ = some (.slice sa SN sc) := cell_of_row _ _ 12 _ _ _ hh1
  have c13 : w1.cell? ⟨w.heap.size, 13, none⟩ = some (.slice ia IN ic) := cell_of_row _ _ 13 _ _ _ hh1
  clear hw1 hb1 hh1 hSN hIN hGB
  by_cases h1 : (600 : Int) < SN
  · have hd : decide (600 < SN ∨ 200 < IN) = true := decide_eq_true (by omega)
    have HD := Lib.hid hd
    clear hd
    go_enter Tryd.func10, Tryd.ntmps10
    go_upto_region 1 with fail
    rw [← HW1.out]
    go_wp2
    go_ret
    exact ⟨by rw [HGB.out, HD.out]; rfl, HB1.out⟩
  by_cases h2 : (200 : Int) < IN
  · have hd : decide (600 < SN ∨ 200 < IN) = true := decide_eq_true (by omega)
    have HD := Lib.hid hd
    clear hd
    go_enter Tryd.func10, Tryd.ntmps10
    go_upto_region 1 with fail
    rw [← HW1.out]
    go_wp2
    go_ret
    exact ⟨by rw [HGB.out, HD.out]; rfl, HB1.out⟩
  · have hd : decide (600 < SN ∨ 200 < IN) = false := decide_eq_false (by omega)
    have HD := Lib.hid hd
    clear hd
    go_enter Tryd.func10, Tryd.ntmps10
    go_upto_region 1 with fail
    rw [← HW1.out]
    go_wp2
    go_ret
    exact ⟨by rw [HGB.out, HD.out]; rfl, HB1.out⟩
theorem lit5M (w : World) : BytesV (w.alloc (.cells #[.int .u8 1, .int .u8 8, .int .u8 0, .int .u8 1, .int .u8 0] 5)) (some ⟨w.heap.size, 0, none⟩, 5, 5) [1, 8, 0, 1, 0] := by
  refine ⟨⟨rfl, fun _ => ⟨w.heap.size, 0, rfl, fun i hi => ?_⟩⟩, by intro x hx; simp at hx; omega, (show 5 ≤ 140737488355328 by decide), Nat.le_refl _, fun h => (nomatch h)⟩
  have hh := heap_alloc_new w (.cells #[.int .u8 1, .int .u8 8, .int .u8 0, .int .u8 1, .int .u8 0] 5)
  simp only at hi
  have : i = 0 ∨ i = 1 ∨ i = 2 ∨ i = 3 ∨ i = 4 := by omega
  rcases this with rfl | rfl | rfl | rfl | rfl <;> exact cell_of_row _ _ _ _ _ _ hh
def A11 : MsR := ⟨1, 8, 0, 1, 0, ⟨#[107]⟩, ⟨0, 0, 0, 0, false, []⟩, [], []⟩
theorem a11_enc : encM A11 = ([1, 8, 0, 1, 0, 0, 0, 0, 0, 0, 0, 1, 107, 0, 0, 0, 0, 0, 0, 0, 0, 0, 0, 0, 0, 0, 0, 0], 0) := by decide +kernel
theorem a11_v (w : World) : MsV w A11 (none, 0, 0) none none :=
  ⟨bytesV_nil w, ⟨by simp [A11], [], by simp [A11], fun h => absurd h (by simp [A11]), fun i x p h => by simp at h⟩, ⟨rfl, fun _ => (none, 0, 0), fun h => absurd h (by simp [A11])⟩⟩
theorem bytesV_take {w : World} {a : Option Addr} {n c m : Nat} {l : List Nat} (h : BytesV w (a, n, c) l) (hm : m ≤ n) : BytesV w (a, m, c) (l.take m) := by
  refine ⟨⟨?_, fun h0 => ?_⟩, fun x hx => h.bytes x (List.mem_of_mem_take hx), Nat.le_trans hm h.small, Nat.le_trans hm h.cap, h.nil⟩
  · have := h.length
    simp at this ⊢
    omega
  · obtain ⟨b, off, e, hc⟩ := h.row.2 (by simp only; simp only at h0; omega)
    refine ⟨b, off, e, fun i hi => ?_⟩
    simp only at hi
    rw [hc i (by simp only; omega), List.map_take, List.getElem?_take, if_pos hi]
theorem nameR_two : nameR 2 = ⟨#[116, 111, 108, 100]⟩ := by decide +kernel
set_option maxRecDepth 100000 in
set_option maxHeartbeats 8000000 in
theorem alive11_any (w : World) (hn : NmV w) : Calls Tryd.prog 9 #[] w fun e w' => e = .returned (.bool true) ∧ Below w.heap.size w w' := by
  have KE : Calls Tryd.prog 12 #[.agg #[.int .i64 1, .int .i64 8, .int .i64 0, .int .i64 1, .int .i64 0, .string ⟨#[107]⟩, .int .i64 0, .int .i64 0, .int .i64 0, .int .i64 0, .bool false, .slice none 0 0, .slice none 0 0, .slice none 0 0]] w _ := encode_anyM A11 (none, 0, 0) none 0 none 0 w (a11_v w)
  have HN := Lib.hid hn
  clear hn
  go_enter Tryd.func9, Tryd.ntmps9
  go_wp2_with fail
  (with_reducible refine KE.mono ?_)
  unfold GivesM
  rw [a11_enc]
  rintro e w2 ⟨ad, cap, rfl, o2, hby, b2⟩
  obtain ⟨L, hL⟩ : ∃ L : List Nat, L = [1, 8, 0, 1, 0, 0, 0, 0, 0, 0, 0, 1, 107, 0, 0, 0, 0, 0, 0, 0, 0, 0, 0, 0, 0, 0, 0, 0] := ⟨_, rfl⟩
  have hL5 : L.take 5 = [1, 8, 0, 1, 0] := by rw [hL]; rfl
  have hLl : L.length = 28 := by rw [hL]; rfl
  simp only [← hL] at o2 hby
  rw [show ([1, 8, 0, 1, 0, 0, 0, 0, 0, 0, 0, 1, 107, 0, 0, 0, 0, 0, 0, 0, 0, 0, 0, 0, 0, 0, 0, 0] : List Nat).length = 28 from rfl]
  rw [hLl] at o2
  obtain ⟨ad', cap', e', -, hcap, -, -⟩ := ownsRow_parts o2
  injection e' with e1 e2 e3
  subst e1 e3
  clear e2
  have hb : BytesV w2 (ad, 28, cap) L := bytesV_own (x := (ad, 28, cap)) (by rw [hLl]; exact o2) hLl.symm hby (by omega)
  have hb5 := bytesV_take hb (show 5 ≤ 28 by decide)
  rw [hL5] at hb5
  have H5 := Lib.hid hb5
  have HB2 := Lib.hid b2
  have hcap' : (28 : Int) ≤ (cap : Int) := by omega
  clear KE o2 hby hL hL5 hLl hb hb5 b2
  go_upto_region 2 with fail
  obtain ⟨w3, hw3⟩ : ∃ x, x = w2.alloc (.cells #[.int .u8 1, .int .u8 8, .int .u8 0, .int .u8 1, .int .u8 0] 5) := ⟨_, rfl⟩
  have hb3 : Below w2.heap.size w2 w3 := by rw [hw3]; exact below_alloc w2 _
  have hl3 : BytesV w3 (some ⟨w2.heap.size, 0, none⟩, 5, 5) [1, 8, 0, 1, 0] := by rw [hw3]; exact lit5M w2
  have K5 := sameBytes_any ad 5 cap [1, 8, 0, 1, 0] (some ⟨w2.heap.size, 0, none⟩) 5 5 [1, 8, 0, 1, 0] w3 (H5.out.below hb3) hl3
  rw [decide_eq_true rfl] at K5
  have HN3 := Lib.hid ((HN.out.below HB2.out).below hb3)
  have HB3 := Lib.hid (HB2.out.trans (hb3.mono HB2.out.size))
  have HW3 := Lib.hid hw3
  clear hw3 hb3 hl3
  go_wp2_with fail
  rw [← HW3.out]
  (with_reducible refine K5.mono ?_)
  rintro e w4 ⟨rfl, b4⟩
  have KN := names_any 2 w4 (HN3.out.below b4)
  rw [nameR_two] at KN
  have HB4 := Lib.hid (HB3.out.trans (b4.mono HB3.out.size))
  clear K5 b4
  go_wp2_with fail
  (with_reducible refine KN.mono ?_)
  rintro e w5 ⟨rfl, rfl⟩
  go_wp2
  go_ret
  exact ⟨rfl, HB4.out⟩

end Go.Proofs.YtopnjjehefaghaaDoor
