/-
  msg's reader over one plain reading of bytes: take, number, text.
-/
import Derived.Test.YtopnjjehefaghaaDoorMBase
import Derived.Test.YtopnjjehefaghaaDoorMSts
import Derived.Test.YtopnjjehefaghaaDoorMMgU
namespace Go.Proofs.YtopnjjehefaghaaDoor
open Go.RowKit Go.Shelf
attribute [local go_sem] Oper.semAt_some

/-- the number that bytes say, the least weight first. -/
def leN : List Nat → Nat
  | [] => 0
  | x :: l => leN l * 256 + x
theorem leN_lt {l : List Nat} (h : Bytes l) : leN l < 256 ^ l.length := by
  induction l with
  | nil => simp [leN]
  | cons x l ih =>
    have h1 := ih (fun y hy => h y (List.mem_cons_of_mem _ hy))
    have h2 : x < 256 := h x (List.mem_cons_self ..)
    rw [List.length_cons, Nat.pow_succ]
    simp only [leN]
    omega
/-- what is left of bytes that are read; bad: more was asked for than there is. -/
structure Sd where
  bad : Bool
  l : List Nat
def Sd.num (s : Sd) (m : Nat) : Sd := if s.l.length < m then ⟨true, s.l⟩ else ⟨s.bad, s.l.drop m⟩
def Sd.tk (s : Sd) (m : Nat) : List Nat := if s.l.length < m then [] else s.l.take m
def Sd.val (s : Sd) (m : Nat) : Nat := leN (s.tk m)
def Sd.text (s : Sd) : Sd := (s.num 1).num (s.val 1)
def Sd.bytes (s : Sd) : List Nat := (s.num 1).tk (s.val 1)
theorem Sd.tk_len (s : Sd) (m : Nat) : (s.tk m).length ≤ m := by
  unfold Sd.tk
  split
  · simp
  · simp; omega
theorem Sd.tk_bytes {s : Sd} (h : Bytes s.l) (m : Nat) : Bytes (s.tk m) := by
  unfold Sd.tk
  split
  · exact fun x hx => (nomatch hx)
  · exact fun x hx => h x (List.mem_of_mem_take hx)
theorem Sd.num_bytes {s : Sd} (h : Bytes s.l) (m : Nat) : Bytes (s.num m).l := by
  unfold Sd.num
  split
  · exact h
  · exact fun x hx => h x (List.mem_of_mem_drop hx)
theorem Sd.val_lt {s : Sd} (h : Bytes s.l) (m : Nat) : s.val m < 256 ^ m :=
  Nat.lt_of_lt_of_le (leN_lt (s.tk_bytes h m)) (Nat.pow_le_pow_right (by decide) (s.tk_len m))
theorem Sd.num_bad {s : Sd} {m : Nat} (h : s.bad = true) : (s.num m).bad = true := by
  unfold Sd.num
  split
  · rfl
  · exact h
abbrev RT2 : TypeId := 65
def RdM (u w : World) (b : Nat) (s : Sd) : Prop := ∃ ad n c, BytesV u (ad, n, c) s.l ∧ w.heap[b]? = some (.cells #[.slice ad n c, .bool s.bad] RT2 (0, 0))
theorem RdM.of_block {u w w' : World} {b : Nat} {s : Sd} (h : RdM u w b s) (hb : w'.heap[b]? = w.heap[b]?) : RdM u w' b s := by
  obtain ⟨ad, n, c, h1, h2⟩ := h
  exact ⟨ad, n, c, h1, hb.trans h2⟩
theorem RdM.lt {u w : World} {b : Nat} {s : Sd} (h : RdM u w b s) : b < w.heap.size := by
  obtain ⟨ad, n, c, h1, h2⟩ := h
  exact (Array.getElem?_eq_some_iff.1 h2).1
theorem RdM.bytes {u w : World} {b : Nat} {s : Sd} (h : RdM u w b s) : Bytes s.l := by
  obtain ⟨ad, n, c, h1, h2⟩ := h
  exact h1.bytes
theorem below_onM {u w w' : World} {b : Nat} (hu : Below u.heap.size u w) (hub : u.heap.size ≤ b) (hg : w.grownBy w' (some b)) : Below u.heap.size u w' := hu.grown hg hu.size (fun q hq => by injection hq with hq; omega)
theorem bytesV_takeM {w : World} {a : Option Addr} {n c m : Nat} {l : List Nat} (h : BytesV w (a, n, c) l) (hm : m ≤ n) : BytesV w (a, m, c) (l.take m) := by
  refine ⟨⟨?_, fun h0 => ?_⟩, fun x hx => h.bytes x (List.mem_of_mem_take hx), Nat.le_trans hm h.small, Nat.le_trans hm h.cap, h.nil⟩
  · have := h.length
    simp at this ⊢
    omega
  · obtain ⟨b, off, e, hc⟩ := h.row.2 (by simp only; simp only at h0; omega)
    refine ⟨b, off, e, fun i hi => ?_⟩
    simp only at hi
    rw [hc i (by simp only; omega), List.map_take, List.getElem?_take, if_pos hi]
theorem bytesV_dropM {w : World} {sa : Option Addr} {x : Addr} {n c m : Nat} {l : List Nat} (h : BytesV w (sa, n, c) l) (e : sa = some x) (hm : m ≤ n) : BytesV w (some (x.add m), n - m, c - m) (l.drop m) := by
  have hl : l.length = n := h.length
  have hc : n ≤ c := h.cap
  have hs : n ≤ 140737488355328 := h.small
  subst e
  refine ⟨⟨by simp [hl], fun h0 => ?_⟩, fun y hy => h.bytes y (List.mem_of_mem_drop hy), by simp only; omega, by simp only; omega, fun e => by cases e⟩
  simp only at h0
  obtain ⟨b, off, e, hcl⟩ := h.row.2 (by simp only; omega)
  injection e with e
  subst e
  refine ⟨b, off + m, by unfold Addr.add; split <;> simp_all, fun i hi => ?_⟩
  simp only at hi
  rw [show off + m + i = off + (m + i) by omega, hcl (m + i) (by simp only; omega), List.getElem?_map, List.getElem?_map, List.getElem?_drop]
theorem bytesV_noneM {w : World} {a : Option Addr} {c : Nat} {l : List Nat} (hl : l = []) (h : a = none → c = 0) : BytesV w (a, 0, c) l := by
  subst hl
  exact ⟨⟨rfl, fun h => absurd h (by simp)⟩, fun x hx => (by cases hx), by simp, by simp, h⟩
set_option maxRecDepth 100000 in
set_option maxHeartbeats 8000000 in
theorem takeM_any (b m : Nat) (s : Sd) (u w : World) (hr : RdM u w b s) :
    Calls Tryd.prog 67 #[.pointer (some ⟨b, 0, none⟩), .int .i64 m] w fun e w' => ∃ a n1 c1, e = .returned (.slice a n1 c1) ∧ BytesV u (a, n1, c1) (s.tk m) ∧ RdM u w' b (s.num m) ∧ w.grownBy w' (some b) := by
  obtain ⟨bad, l⟩ := s
  obtain ⟨ad, n, c, h, hh⟩ := hr
  simp only at h hh
  have hln : l.length = n := h.length
  have hc := h.cap
  have hs := h.small
  simp only at hc hs
  have H := Lib.hid h
  have HH := Lib.hid hh
  have HLN := Lib.hid hln
  have c0 : w.cell? ⟨b, 0, none⟩ = some (.slice ad n c) := cell_of_row _ _ 0 _ _ _ hh
  have c1 : w.cell? ⟨b, 1, none⟩ = some (.bool bad) := cell_of_row _ _ 1 _ _ _ hh
  have hfz : w.frozen? ⟨b, 0, none⟩ = false := frozen_of_row _ _ _ _ _ hh
  have hfz1 : w.frozen? ⟨b, 1, none⟩ = false := frozen_of_row _ _ _ _ _ hh
  clear h hh hln
  by_cases hlt : n < m
  · have ht : (⟨bad, l⟩ : Sd).tk m = [] := by unfold Sd.tk; rw [if_pos (by simp only; have := HLN.out; omega)]
    have hn : (⟨bad, l⟩ : Sd).num m = ⟨true, l⟩ := by unfold Sd.num; rw [if_pos (by simp only; have := HLN.out; omega)]
    rw [ht, hn]
    clear ht hn
    go_enter Tryd.func67, Tryd.ntmps67
    go_wp2
    go_ret
    exact ⟨none, 0, 0, rfl, bytesV_nil _, ⟨ad, n, c, H.out, heap_setCell_same w b 1 _ _ _ HH.out⟩, grownBy_setCellM w ⟨b, 1, none⟩ _⟩
  · have ht : (⟨bad, l⟩ : Sd).tk m = l.take m := by unfold Sd.tk; rw [if_neg (by simp only; have := HLN.out; omega)]
    have hn : (⟨bad, l⟩ : Sd).num m = ⟨bad, l.drop m⟩ := by unfold Sd.num; rw [if_neg (by simp only; have := HLN.out; omega)]
    rw [ht, hn]
    clear ht hn
    by_cases hc1 : c = m
    · have hn1 : n = m := by omega
      subst hc1 hn1
      go_enter Tryd.func67, Tryd.ntmps67
      go_wp2
      go_ret
      exact ⟨_, _, _, rfl, bytesV_takeM H.out (Nat.le_refl _), ⟨_, _, _, bytesV_noneM (List.drop_eq_nil_of_le (by have := HLN.out; omega)) (fun _ => rfl), heap_setCell_same w b 0 _ _ _ HH.out⟩, grownBy_setCellM w ⟨b, 0, none⟩ _⟩
    · obtain ⟨x, rfl⟩ : ∃ x, ad = some x := by
        cases h1 : ad with
        | some x => exact ⟨x, rfl⟩
        | none => have := H.out.nil h1; simp only at this; omega
      go_enter Tryd.func67, Tryd.ntmps67
      go_wp2
      go_ret
      exact ⟨_, _, _, rfl, bytesV_takeM H.out (by omega), ⟨_, _, _, bytesV_dropM H.out rfl (by omega), heap_setCell_same w b 0 _ _ _ HH.out⟩, grownBy_setCellM w ⟨b, 0, none⟩ _⟩
theorem shl8_orR (n d : Nat) (hn : n < 36028797018963968) (hd : d < 256) : bits .or .i64 ((n : Int) * 256) (d : Int) = ((n * 256 + d : Nat) : Int) := by
  have h := ofInt_i64 (n * 256) (by omega)
  have h2 := ofInt_i64 d (by omega)
  have e : n * 256 ||| d = n * 256 + d := by
    rw [show n * 256 = n <<< 8 from (Nat.shiftLeft_eq n 8).symm, ← Nat.shiftLeft_add_eq_or_of_lt hd]
  show IntKind.i64.wrap ((BitVec.ofInt 64 ((n : Int) * 256) ||| BitVec.ofInt 64 (d : Int)).toNat : Int) = _
  rw [BitVec.toNat_or, show (n : Int) * 256 = ((n * 256 : Nat) : Int) by simp, h, h2, e, wrap_i64_id _ (by omega) (by omega)]
theorem leN_drop {L : List Nat} {j : Nat} (h : j < L.length) : leN (L.drop j) = leN (L.drop (j + 1)) * 256 + L.getD j 0 := by
  rw [List.drop_eq_getElem_cons h, List.getD_eq_getElem?_getD, List.getElem?_eq_getElem h]
  rfl
/-- between two rounds of number. -/
structure JN (W : World) (D q : Nat) (rec : LoopState → Option Code → Loop) (v : Nat) : Prop where
  v : W.heap[q]? = some (.cells #[.int .i64 (v : Nat)] 3 (0, 0))
  l : W.heap[D + 1]? = some (.loop (rec .ready none))
  d : W.heap[D]? = some (.deferred (some []))
set_option maxRecDepth 100000 in
set_option maxHeartbeats 8000000 in
theorem numM_any (b m : Nat) (s : Sd) (u w : World) (hu : Below u.heap.size u w) (hub : u.heap.size ≤ b) (hr : RdM u w b s) (hm : m ≤ 4) :
    Calls Tryd.prog 55 #[.pointer (some ⟨b, 0, none⟩), .int .i64 m] w fun e w' => e = .returned (.int .i64 (s.val m : Nat)) ∧ RdM u w' b (s.num m) ∧ w.grownBy w' (some b) := by
  obtain ⟨L, hL⟩ : ∃ L, L = s.tk m := ⟨_, rfl⟩
  have hLl : L.length ≤ 4 := by rw [hL]; have := s.tk_len m; omega
  have hLb : Bytes L := by rw [hL]; exact s.tk_bytes hr.bytes m
  have hv : s.val m = leN L := by rw [hL]; rfl
  rw [hv]
  obtain ⟨q, hq⟩ : ∃ q, q = w.heap.size := ⟨_, rfl⟩
  obtain ⟨w1, hw1⟩ : ∃ x, x = w.alloc (.cells #[.int .i64 0] 3) := ⟨_, rfl⟩
  have hb1 : Below w.heap.size w w1 := by rw [hw1]; exact below_alloc w _
  have hq1 : w1.heap[q]? = some (.cells #[.int .i64 0] 3 (0, 0)) := by rw [hw1, hq]; exact heap_alloc_new w _
  have hbq : b < q := by rw [hq]; exact hr.lt
  have KT := takeM_any b m s u w1 (hr.of_block (hb1.block b hr.lt))
  rw [← hL] at KT
  have HW1 := Lib.hid hw1
  have HQ := Lib.hid hq
  have HU := Lib.hid hu
  have HB1 := Lib.hid hb1
  have HQ1 := Lib.hid hq1
  have HLB := Lib.hid hLb
  clear hL hv hw1 hq hu hb1 hq1 hr hLb
  refine (callsIn_wide (n := 0)).1 (callsIn_of_wp_marks Tryd.func55 rfl trivial (wpIn_wide.2 ?_))
  simp only [Tryd.ntmps55, List.size_toArray, List.length_cons, List.length_nil, Nat.reduceAdd, Nat.reduceSub, Array.replicate_succ, Array.replicate_zero, List.push_toArray, List.append_toArray, List.nil_append, List.cons_append]
  go_upto_region 2 with fail
  rw [← HQ.out, ← HW1.out]
  go_wp2_with fail
  (with_reducible refine KT.mono ?_)
  rintro e w2 ⟨a, n1, c1, rfl, hby, hrd, hg⟩
  have hn1 : n1 = L.length := hby.length.symm
  have HBY := Lib.hid hby
  have HRD := Lib.hid hrd
  have HG := Lib.hid hg
  have HN1 := Lib.hid hn1
  clear KT hby hrd hg hn1
  go_wp2_with fail
  (with_reducible refine (back_any a n1 c1 w2).mono ?_)
  rintro e Wb' ⟨rfl, hWb⟩
  have hbb2 : Below w2.heap.size w2 Wb' := by rw [hWb]; exact below_alloc w2 _
  have hpb : Wb'.heap[w2.heap.size]? = some (.cells #[.slice a n1 c1] BX24 (0, 0)) := by rw [hWb]; exact heap_alloc_new w2 _
  obtain ⟨pb, hpbe⟩ : ∃ x, x = w2.heap.size := ⟨_, rfl⟩
  rw [← hpbe] at hpb ⊢
  have HBB2 := Lib.hid hbb2
  have HPB := Lib.hid hpb
  have HPE := Lib.hid hpbe
  rename World => Wb
  clear hWb hbb2 hpb hpbe
  go_wp2
  refine rangeFunc_startR rfl (enters_of Tryd.func69 (by kernel_rfl) rfl) ?_
  intro fn rec KY KB KE KL
  obtain ⟨D, hD⟩ : ∃ D, D = Wb.heap.size := ⟨_, rfl⟩
  rw [← hD] at KY KB KE KL ⊢
  obtain ⟨W1, hW1⟩ : ∃ W1, W1 = (Wb.alloc (.deferred (some []))).alloc (.loop (rec .ready none)) := ⟨_, rfl⟩
  have hz : W1.heap.size = D + 2 := by rw [hW1, hD]; simp
  have hl1 : W1.heap[D + 1]? = some (.loop (rec .ready none)) := by
    rw [hW1, hD]; have := World.alloc_heap_new (Wb.alloc (.deferred (some []))) (.loop (rec .ready none)); rwa [World.size_alloc] at this
  have hd1 : W1.heap[D]? = some (.deferred (some [])) := by
    rw [hW1, hD, heap_alloc_old _ _ (by simp)]; exact World.alloc_heap_new Wb _
  have hbb : Below Wb.heap.size Wb W1 := by rw [hW1]; exact (below_alloc Wb _).trans ((below_alloc _ _).mono (by simp))
  have hs0 := HB1.out.size
  have hs1 := HG.out.size
  have hs2 := HBB2.out.size
  have hqw1 := (Array.getElem?_eq_some_iff.1 HQ1.out).1
  have hpbl := (Array.getElem?_eq_some_iff.1 HPB.out).1
  have hq2 : w2.heap[q]? = some (.cells #[.int .i64 0] 3 (0, 0)) := (HG.out.block q hqw1 (fun e => by injection e with e; omega)).trans HQ1.out
  have hqb : Wb.heap[q]? = some (.cells #[.int .i64 0] 3 (0, 0)) := (HBB2.out.block q (by omega)).trans hq2
  have hq3 : W1.heap[q]? = some (.cells #[.int .i64 0] 3 (0, 0)) := (hbb.block q (by omega)).trans hqb
  have hpb1 : W1.heap[pb]? = some (.cells #[.slice a n1 c1] BX24 (0, 0)) := (hbb.block pb hpbl).trans HPB.out
  have hgw1 : w.grownBy W1 (some b) := World.grownBy.trans (World.grownBy.trans (grownBy_of_below HB1.out _) HG.out) (World.grownBy.trans (grownBy_of_below HBB2.out _) (grownBy_of_below hbb _))
  have HWB1 := Lib.hid hbb
  have hu1 : Below u.heap.size u W1 := below_onM HU.out hub hgw1
  have hpe1 : w2.heap.size ≤ pb := Nat.le_of_eq HPE.out.symm
  have hpe2 : pb ≤ w2.heap.size := Nat.le_of_eq HPE.out
  have hD1 : Wb.heap.size ≤ D := Nat.le_of_eq hD.symm
  have hD2 : D ≤ Wb.heap.size := Nat.le_of_eq hD
  have hz1 : D + 2 ≤ W1.heap.size := Nat.le_of_eq hz.symm
  have hqq1 : w.heap.size ≤ q := Nat.le_of_eq HQ.out.symm
  rw [← hW1]
  have hJ0 : JN W1 D q rec (leN (L.drop n1)) := ⟨by rw [List.drop_eq_nil_of_le (by have := HN1.out; omega)]; exact hq3, hl1, hd1⟩
  have HJ0 := Lib.hid hJ0
  have HPB1 := Lib.hid hpb1
  have HGW1 := Lib.hid hgw1
  have HU1 := Lib.hid hu1
  clear hW1 hl1 hd1 hbb hq2 hqb hq3 hpb1 hgw1 hu1 hJ0 hD hz
  refine (backIt_any (D + 1) pb n1 c1 a L W1 BX24 (fun k W' => JN W' D q rec (leN (L.drop (n1 - k)))) (fun k => k = q ∨ k = D + 1) HPB1.out ?hpX ?hn ?hkeep ?hY HJ0.out).mono ?_
  case hpX => rintro (h | h) <;> omega
  case hn => have := HN1.out; omega
  case hkeep =>
    intro W2 hk
    have hlow : Below u.heap.size u W2 := ⟨hk.os.trans HU1.out.os, hk.tape.trans HU1.out.tape, hk.output.trans HU1.out.output, Nat.le_trans HU1.out.size hk.size, fun i hi => (hk.block i (Nat.lt_of_lt_of_le hi HU1.out.size) (by rintro (h | h) <;> omega)).trans (HU1.out.block i hi)⟩
    exact HBY.out.below hlow
  case hY =>
    intro k V hk hj hkp
    refine ⟨fn, _, _, _, KY V _ rfl hj.l, roundIn_of_wpIn trivial ?_⟩
    obtain ⟨j, hjk⟩ : ∃ j, j = n1 - 1 - k := ⟨_, rfl⟩
    have hj1 : n1 - k = j + 1 := by omega
    have hj2 : n1 - (k + 1) = j := by omega
    rw [hj1] at hj
    rw [hj2, ← hjk]
    have hjL : j < L.length := by have := HN1.out; omega
    have hstep := leN_drop hjL
    obtain ⟨x, hx⟩ : ∃ x, x = L.getD j 0 := ⟨_, rfl⟩
    obtain ⟨V1, hV1⟩ : ∃ z, z = leN (L.drop (j + 1)) := ⟨_, rfl⟩
    have hx8 : x < 256 := by rw [hx]; exact HLB.out.getD j
    have hv1 : V1 < 16777216 := by
      rw [hV1]
      have h1 := leN_lt (l := L.drop (j + 1)) (fun y hy => HLB.out y (List.mem_of_mem_drop hy))
      have h2 : (L.drop (j + 1)).length ≤ 3 := by rw [List.length_drop]; omega
      have h3 : 256 ^ (L.drop (j + 1)).length ≤ 256 ^ 3 := Nat.pow_le_pow_right (by decide) h2
      have h4 : (256 : Nat) ^ 3 = 16777216 := by decide
      omega
    rw [← hx, ← hV1] at hstep
    rw [← hV1] at hj
    rw [← hx, hstep]
    have ho := shl8_orR V1 x (by omega) hx8
    obtain ⟨V2, hV2⟩ : ∃ z, z = V1 * 256 + x := ⟨_, rfl⟩
    rw [← hV2] at ho ⊢
    have HJV := Lib.hid hj
    have hlV := (Array.getElem?_eq_some_iff.1 hj.l).1
    have hqV := (Array.getElem?_eq_some_iff.1 hj.v).1
    clear hstep hj hkp hx hV1 hV2 hj1 hj2 hjk
    have hzz : ∀ (t : Array Value), (#[12, 13].zip #[Value.int .i64 (j : Nat), Value.int .u8 (x : Nat)]).foldl (fun t x => t.setIfInBounds x.1 x.2) t = (t.setIfInBounds 12 (.int .i64 (j : Nat))).setIfInBounds 13 (.int .u8 (x : Nat)) := fun t => by simp
    simp only [hzz]
    simp only [List.setIfInBounds_toArray, List.set_cons_succ, List.set_cons_zero]
    gi_wp2
    refine ⟨_, KB _ HJV.out.l, ?_⟩
    have hbusy : (V.putObj (D + 1) (.loop (rec .busy none))).heap[D + 1]? = some (.loop (rec .busy none)) := World.putObj_heap_same hlV
    have hqv2 : (V.putObj (D + 1) (.loop (rec .busy none))).heap[q]? = some (.cells #[.int .i64 (V1 : Nat)] 3 (0, 0)) := (World.putObj_heap_other (by omega)).trans HJV.out.v
    have hdv2 : (V.putObj (D + 1) (.loop (rec .busy none))).heap[D]? = some (.deferred (some [])) := (World.putObj_heap_other (by omega)).trans HJV.out.d
    have hkv2 : KeepR (fun k => k = q ∨ k = D + 1) V (V.putObj (D + 1) (.loop (rec .busy none))) := ⟨rfl, rfl, rfl, by simp, fun k hk hn => World.putObj_heap_other (fun e => hn (.inr e))⟩
    refine (?_ : ∀ Vb : World, (Vb.heap[D + 1]? = some (.loop (rec .busy none)) ∧ Vb.heap[q]? = some (.cells #[.int .i64 (V1 : Nat)] 3 (0, 0)) ∧ Vb.heap[D]? = some (.deferred (some [])) ∧ KeepR (fun k => k = q ∨ k = D + 1) V Vb) → Code.wpIn _ _ Tryd.prog _ _ _ Vb) _ ⟨hbusy, hqv2, hdv2, hkv2⟩
    clear hbusy hqv2 hdv2 hkv2
    rintro Vb ⟨v1, v2, v3, v4⟩
    have cq : Vb.cell? ⟨q, 0, none⟩ = some (.int .i64 (V1 : Nat)) := cell_of_row _ _ 0 _ _ _ v2
    have fq : Vb.frozen? ⟨q, 0, none⟩ = false := frozen_of_row _ _ _ _ _ v2
    have HV := Lib.hid (And.intro v1 (And.intro v2 (And.intro v3 v4)))
    clear v1 v2 v3 v4
    gi_wp2
    have hl4 : (Vb.setCell ⟨q, 0, none⟩ (.int .i64 (V2 : Nat))).heap[D + 1]? = some (.loop (rec .busy none)) := (heap_setCell_other Vb ⟨q, 0, none⟩ (D + 1) _ (by simp only; omega)).trans HV.out.1
    refine ⟨_, _, KE _ hl4, rfl, ⟨?_, ?_, ?_⟩, ?_⟩
    · rw [World.putObj_heap_other (by omega)]
      exact heap_setCell_same Vb q 0 _ _ _ HV.out.2.1
    · exact World.putObj_heap_same (Array.getElem?_eq_some_iff.1 hl4).1
    · exact (World.putObj_heap_other (by omega)).trans ((heap_setCell_other Vb ⟨q, 0, none⟩ D _ (by simp only; omega)).trans HV.out.2.2.1)
    · refine HV.out.2.2.2.trans ⟨rfl, rfl, rfl, by simp [World.setCell], fun k hk hn => ?_⟩
      rw [World.putObj_heap_other (fun e => hn (.inr e))]
      exact heap_setCell_other Vb ⟨q, 0, none⟩ k _ (fun e => hn (.inl e))
  rintro e V ⟨⟨v, rfl⟩, hj, hkp⟩
  refine ⟨none, _, KL V hj.l, ?_⟩
  simp only []
  rw [Nat.sub_self, List.drop_zero] at hj
  have hDl := (Array.getElem?_eq_some_iff.1 hj.d).1
  have hbl : b < w2.heap.size := HRD.out.lt
  have hb3 : V.heap[b]? = w2.heap[b]? := (hkp.block b (by omega) (by rintro (h | h) <;> omega)).trans ((HWB1.out.block b (by omega)).trans (HBB2.out.block b hbl))
  refine (?_ : ∀ V2 : World, (V2.heap[q]? = some (.cells #[.int .i64 (leN L : Nat)] 3 (0, 0)) ∧ V2.heap[D]? = some (.deferred (some [])) ∧ RdM u V2 b (s.num m) ∧ w.grownBy V2 (some b)) → Exit.inBlock 0 _ _ _ V2) _ ⟨(World.putObj_heap_other (by omega)).trans hj.v, (World.putObj_heap_other (by omega)).trans hj.d, HRD.out.of_block ((World.putObj_heap_other (by omega)).trans hb3),
    ⟨hkp.os.trans HGW1.out.os, hkp.tape.trans HGW1.out.tape, hkp.output.trans HGW1.out.output, Nat.le_trans HGW1.out.size (by simpa using hkp.size), fun i hi hne => (World.putObj_heap_other (by omega)).trans ((hkp.block i (Nat.lt_of_lt_of_le hi HGW1.out.size) (by rintro (h | h) <;> omega)).trans (HGW1.out.block i hi hne))⟩⟩
  rintro V2 ⟨x1, x2, x3, x4⟩
  have cq : V2.cell? ⟨q, 0, none⟩ = some (.int .i64 (leN L : Nat)) := cell_of_row _ _ 0 _ _ _ x1
  have HX := Lib.hid (And.intro x2 (And.intro x3 x4))
  clear hj hkp KY KB KE KL x1 x2 x3 x4 hb3
  go_wp2
  refine ⟨by simp, .inl ⟨_, _, rfl, run_takeDeferred HX.out.1, _, results_tmp rfl _ _ _, rfl, ?_, ?_⟩⟩
  · exact HX.out.2.1.of_block (World.putObj_heap_other (by omega))
  · exact ⟨HX.out.2.2.os, HX.out.2.2.tape, HX.out.2.2.output, by simpa using HX.out.2.2.size, fun i hi hne => (World.putObj_heap_other (by omega)).trans (HX.out.2.2.block i hi hne)⟩
theorem numM_is (b m : Nat) (s : Sd) (u w : World) (hu : Below u.heap.size u w) (hub : u.heap.size ≤ b) (hr : RdM u w b s) (hm : m ≤ 4) (v : Int) (hv : (m : Int) = v) :
    Calls Tryd.prog 55 #[.pointer (some ⟨b, 0, none⟩), .int .i64 v] w fun e w' => e = .returned (.int .i64 (s.val m : Nat)) ∧ RdM u w' b (s.num m) ∧ w.grownBy w' (some b) :=
  hv ▸ numM_any b m s u w hu hub hr hm
set_option maxRecDepth 100000 in
set_option maxHeartbeats 4000000 in
theorem textM_any (b : Nat) (s : Sd) (u w : World) (hu : Below u.heap.size u w) (hub : u.heap.size ≤ b) (hr : RdM u w b s) :
    Calls Tryd.prog 56 #[.pointer (some ⟨b, 0, none⟩)] w fun e w' => ∃ ta tc, e = .returned (.slice ta s.bytes.length tc) ∧ w'.ownsRow w.heap.size 5 1 (.slice ta s.bytes.length tc) s.bytes.length (s.bytes.map bv) ∧ Bytes s.bytes ∧ s.bytes.length ≤ 255 ∧ RdM u w' b s.text ∧ w.grownBy w' (some b) := by
  have KN := numM_is b 1 s u w hu hub hr (by decide) 1 rfl
  have hv := Sd.val_lt hr.bytes 1
  have hby := Sd.tk_bytes (Sd.num_bytes hr.bytes 1) (s.val 1)
  have hln := Sd.tk_len (s.num 1) (s.val 1)
  obtain ⟨T, hT⟩ : ∃ T, T = s.val 1 := ⟨_, rfl⟩
  have htx : s.text = (s.num 1).num T := by rw [hT]; rfl
  have hbs : s.bytes = (s.num 1).tk T := by rw [hT]; rfl
  rw [htx, hbs]
  rw [← hT] at KN hv hby hln
  obtain ⟨L, hL⟩ : ∃ L, L = (s.num 1).tk T := ⟨_, rfl⟩
  rw [← hL] at hby hln ⊢
  have hl255 : L.length ≤ 255 := by
    have : (256 : Nat) ^ 1 = 256 := rfl
    omega
  have HU := Lib.hid hu
  have HL := Lib.hid hL
  have HBY := Lib.hid hby
  have hbw := hr.lt
  clear hu hr hT htx hbs hL hby hln hv
  go_enter Tryd.func56, Tryd.ntmps56
  go_wp2_with fail
  (with_reducible refine KN.mono ?_)
  rintro e w1 ⟨rfl, hr1, hg1⟩
  have KT := takeM_any b T (s.num 1) u w1 hr1
  rw [← HL.out] at KT
  have HG1 := Lib.hid hg1
  clear KN hr1 hg1
  go_wp2_with fail
  (with_reducible refine KT.mono ?_)
  rintro e w2 ⟨a, n1, c1, rfl, hby2, hr2, hg2⟩
  have hg12 := HG1.out.trans hg2
  have KC := clone_any a n1 c1 L w2 (hby2.below (below_onM HU.out hub hg12))
  have HR2 := Lib.hid hr2
  have HG2 := Lib.hid hg12
  clear KT hby2 hr2 hg2 hg12
  go_wp2_with fail
  (with_reducible refine KC.mono ?_)
  rintro e w3 ⟨a3, c3, rfl, o3, b3⟩
  have HO3 := Lib.hid o3
  have HB3 := Lib.hid b3
  clear KC o3 b3
  go_wp2
  go_ret
  exact ⟨a3, c3, rfl, ownsRow_base HO3.out HG2.out.size, HBY.out, hl255, HR2.out.of_block (HB3.out.block b HR2.out.lt), HG2.out.trans (grownBy_of_below HB3.out _)⟩
end Go.Proofs.YtopnjjehefaghaaDoor
