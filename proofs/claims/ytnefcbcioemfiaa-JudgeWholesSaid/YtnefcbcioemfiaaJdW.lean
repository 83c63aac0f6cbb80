/-
  The walk of JudgeSwap.
-/
import Derived.Test.YtnefcbcioemfiaaJdV
namespace Go.Proofs.Ytnefcbcioemfiaa
open Go Go.RowKit

/-- acts that are moved on, one by one. -/
structure SwI (W : World) (B g c n : Nat) (rot : List ActR) (L : Int) (i : Nat) (us : List YA) : Prop where
  own : OwA W B (some ⟨g, 0, none⟩) c us
  len : us.length = n
  val : ∀ (j : Nat) (A : ActR), rot[j]? = some A → (us.map Prod.fst)[j]? = some (if j < i then shiftA L j A else A)
  ok : ∀ (j : Nat) (A : ActR), j < i → rot[j]? = some A → 0 ≤ A.st
theorem OwA.cells {W : World} {B g c n : Nat} {us : List YA} (h : OwA W B (some ⟨g, 0, none⟩) c us) (hn : us.length = n) {i : Nat} (hi : i < n) {A : ActR} {hd : SH3 × SH3 × SH3} (ha : us[i]? = some (A, hd)) :
    W.cell? ⟨g, i * 15, none⟩ = some (.int .i64 A.cl) ∧ W.cell? ⟨g, i * 15 + 2, none⟩ = some (.int .i64 A.st) ∧ W.cell? ⟨g, i * 15 + 3, none⟩ = some (.int .i64 A.en) ∧ W.frozen? ⟨g, i * 15, none⟩ = false ∧ W.frozen? ⟨g, i * 15 + 2, none⟩ = false ∧ W.frozen? ⟨g, i * 15 + 3, none⟩ = false := by
  have k := acells_get _ i _ ha
  have q := fun j (hj : j < 15) => h.own.cellAt (i * 15 + j) (by rw [hn]; omega)
  have f := fun j => h.own.frozenAt j
  exact ⟨(q 0 (by omega)).trans k.1, (q 2 (by omega)).trans k.2.2.1, (q 3 (by omega)).trans k.2.2.2.1, f _, f _, f _⟩
theorem SwI.next {W W' : World} {B g c n : Nat} {rot : List ActR} {L : Int} {i : Nat} {us : List YA} (h : SwI W B g c n rot L i us) (hi : i < n) {A : ActR} {hd : SH3 × SH3 × SH3} (hA : rot[i]? = some A) (h0 : 0 ≤ A.st) (ho : OwA W' B (some ⟨g, 0, none⟩) c (us.set i (shiftA L i A, hd))) : SwI W' B g c n rot L (i + 1) (us.set i (shiftA L i A, hd)) := by
  refine ⟨ho, by rw [List.length_set]; exact h.len, fun j C hj => ?_, fun j C hj hC => ?_⟩
  · rw [List.map_set, List.getElem?_set]
    by_cases e : i = j
    · subst e
      rw [hA] at hj
      injection hj with hj
      subst hj
      have hl := h.len
      rw [if_pos rfl, List.length_map, if_pos (by omega), if_pos (Nat.lt_succ_self _)]
    · rw [if_neg e, h.val j C hj]
      congr 1
      by_cases h1 : j < i
      · rw [if_pos h1, if_pos (by omega)]
      · rw [if_neg h1, if_neg (by omega)]
  · by_cases e : j = i
    · subst e
      rw [hA] at hC
      injection hC with hC
      subst hC
      exact h0
    · exact h.ok j C (by omega) hC
/-- .. wherever they lie. -/
structure SwO (W : World) (B : Nat) (av : Option Addr) (c n : Nat) (rot : List ActR) (L : Int) (i : Nat) (us : List YA) : Prop where
  own : OwA W B av c us
  len : us.length = n
  val : ∀ (j : Nat) (A : ActR), rot[j]? = some A → (us.map Prod.fst)[j]? = some (if j < i then shiftA L j A else A)
  ok : ∀ (j : Nat) (A : ActR), j < i → rot[j]? = some A → 0 ≤ A.st
theorem SwO.addr {W : World} {B : Nat} {av : Option Addr} {c n : Nat} {rot : List ActR} {L : Int} {i : Nat} {us : List YA} (h : SwO W B av c n rot L i us) (hi : i < n) : ∃ g, av = some ⟨g, 0, none⟩ := by
  rcases h.own.own.2 with ⟨_, e⟩ | ⟨g, cap, cur, e, _⟩
  · have := h.len; omega
  · injection e with e1 e2 e3
    exact ⟨g, e1⟩
theorem SwO.swi {W : World} {B g c n : Nat} {rot : List ActR} {L : Int} {i : Nat} {us : List YA} (h : SwO W B (some ⟨g, 0, none⟩) c n rot L i us) : SwI W B g c n rot L i us := ⟨h.own, h.len, h.val, h.ok⟩
theorem SwI.swo {W : World} {B g c n : Nat} {rot : List ActR} {L : Int} {i : Nat} {us : List YA} (h : SwI W B g c n rot L i us) : SwO W B (some ⟨g, 0, none⟩) c n rot L i us := ⟨h.own, h.len, h.val, h.ok⟩
theorem SwI.here {W : World} {B g c n : Nat} {rot : List ActR} {L : Int} {i : Nat} {us : List YA} (h : SwI W B g c n rot L i us) (_hi : i < n) {A : ActR} (hA : rot[i]? = some A) : ∃ hd, us[i]? = some (A, hd) := by
  have h1 := h.val i A hA
  rw [if_neg (Nat.lt_irrefl _), List.getElem?_map] at h1
  obtain ⟨u, hu, hu2⟩ := Option.map_eq_some_iff.1 h1
  exact ⟨u.2, by rw [hu, ← hu2]⟩
theorem SwO.done {W : World} {B : Nat} {av : Option Addr} {c n : Nat} {rot : List ActR} {L : Int} {us : List YA} (h : SwO W B av c n rot L n us) (hr : rot.length = n) : (us.map Prod.fst).map eraseA = rot.map (shiftG L) ∧ ∀ a ∈ rot, 0 ≤ a.st := by
  constructor
  · apply List.ext_getElem?
    intro j
    rw [List.getElem?_map (f := eraseA), List.getElem?_map (f := shiftG L)]
    cases hj : rot[j]? with
    | some A =>
      have hjn := (List.getElem?_eq_some_iff.1 hj).1
      rw [h.val j A hj, if_pos (by omega)]
      rfl
    | none =>
      have := List.getElem?_eq_none_iff.1 hj
      have hl := h.len
      rw [List.getElem?_eq_none (by rw [List.length_map]; omega)]
      rfl
  · intro a ha
    obtain ⟨j, hj⟩ := List.getElem?_of_mem ha
    exact h.ok j a (by have := (List.getElem?_eq_some_iff.1 hj).1; omega) hj
theorem SwO.put2 {W : World} {B g c i : Nat} {us : List YA} {A : ActR} {hd : SH3 × SH3 × SH3} (h : OwA W B (some ⟨g, 0, none⟩) c (us.set i (A, hd))) (ha : (us.set i (A, hd))[i]? = some (A, hd)) (v : Int) : OwA (W.setCell ⟨g, i * 15 + 2, none⟩ (.int .i64 v)) B (some ⟨g, 0, none⟩) c (us.set i ({ A with st := v }, hd)) := by
  have := h.setJ (A' := { A with st := v }) ha rfl rfl rfl (i * 15 + 2) (.int .i64 v) (acells_set2 _ _ _ _ _ ha)
  rw [List.set_set] at this
  exact this
theorem SwO.put3 {W : World} {B g c i : Nat} {us : List YA} {A : ActR} {hd : SH3 × SH3 × SH3} (h : OwA W B (some ⟨g, 0, none⟩) c (us.set i (A, hd))) (ha : (us.set i (A, hd))[i]? = some (A, hd)) (v : Int) : OwA (W.setCell ⟨g, i * 15 + 3, none⟩ (.int .i64 v)) B (some ⟨g, 0, none⟩) c (us.set i ({ A with en := v }, hd)) := by
  have := h.setJ (A' := { A with en := v }) ha rfl rfl rfl (i * 15 + 3) (.int .i64 v) (acells_set3 _ _ _ _ _ ha)
  rw [List.set_set] at this
  exact this
theorem rot_perm {α : Type} (xs : List α) (t : Nat) : (xs.drop t ++ xs.take t).Perm xs := by
  have : (xs.drop t ++ xs.take t).Perm (xs.take t ++ xs.drop t) := List.perm_append_comm
  rwa [List.take_append_drop] at this
set_option maxRecDepth 100000 in
set_option maxHeartbeats 16000000 in
theorem judgeSwap_walk (aa : Option Addr) (an ac : Nat) (xs : List ActR) (turn later : Int) (w : World) (h : ActsV w aa an xs) (hkk : KOk xs) (hac : an ≤ ac) (hn : an ≤ 140737488355328) (hnil : aa = none → ac = 0) (_h1 : (Lit.int .i64 turn).wf = true) (_h2 : (Lit.int .i64 later).wf = true) :
    Calls Try.prog 9 #[.slice aa an ac, .int .i64 turn, .int .i64 later] w fun e w' => e = .returned (.bool true) ∧ Below w.heap.size w w' := by
  have KA := alive_any w
  have H := Lib.hid h
  have HKK := Lib.hid hkk
  have HNIL := Lib.hid hnil
  clear h hkk hnil
  go_enter Try.func9, Try.ntmps9
  go_wp2_with fail
  (with_reducible refine KA.mono ?_)
  rintro e w1 ⟨rfl, b1⟩
  have KG := great_any aa an ac xs w1 (H.out.below b1) hac hn
  have B1 := Lib.hid b1
  clear KA b1
  go_wp2_with fail
  (with_reducible refine KG.mono ?_)
  rintro e w2 ⟨b2, ⟨rfl, h60⟩ | rfl⟩
  rotate_left 1
  · have B2 := Lib.hid (B1.out.trans (b2.mono B1.out.size))
    clear KG b2
    go_wp2
    go_ret
    exact ⟨rfl, B2.out⟩
  have B2 := Lib.hid (B1.out.trans (b2.mono B1.out.size))
  clear KG b2
  by_cases ha0 : turn < 0
  · go_wp2
    go_ret
    exact ⟨rfl, B2.out⟩
  obtain ⟨t, rfl⟩ : ∃ t : Nat, turn = t := ⟨turn.toNat, by omega⟩
  by_cases ha1 : (an : Int) < (t : Int)
  · go_wp2
    go_ret
    exact ⟨rfl, B2.out⟩
  by_cases hl0 : later < 0
  · go_wp2
    go_ret
    exact ⟨rfl, B2.out⟩
  by_cases hl1 : 1073741824 < later
  · go_wp2
    go_ret
    exact ⟨rfl, B2.out⟩
  have htn : t ≤ an := by omega
  have ht0 : (0 : Int) ≤ (t : Int) := by omega
  have htc : (t : Int) ≤ (ac : Int) := by omega
  have htn2 : (t : Int) ≤ (an : Int) := by omega
  obtain ⟨rot, hrot⟩ : ∃ r, r = xs.drop t ++ xs.take t := ⟨_, rfl⟩
  have hrl : rot.length = an := by rw [hrot]; have := H.out.len; simp; omega
  have HROT := Lib.hid hrot
  have HRL := Lib.hid hrl
  clear hrot hrl
  go_upto_region 5 with fail
  by_cases hct : ac = t
  · subst hct
    have hz0 : an - ac = 0 := by omega
    cases aa with
    | none =>
      have KC := copyActs_any none 0 0 (xs.drop ac) w2 ((H.out.below B2.out).none (by omega)) (by omega) (by omega)
      have hdl : (xs.drop ac).length = 0 := by have := H.out.len; simp; omega
      unfold GivesActs at KC
      rw [hdl] at KC
      obtain ⟨n2, hn2⟩ : ∃ n2, n2 = 0 := ⟨_, rfl⟩
      rw [← hn2] at hdl
      have HN2 := Lib.hid hn2
      have HDL := Lib.hid hdl
      clear hdl
      go_wp2_with fail
      (with_reducible refine KC.mono ?_)
      rw [← hn2]
      clear KC hn2
      rintro e w5 ⟨a5, c5, ys, rfl, hy, ho5, b5, hc5⟩
      have B5 := Lib.hid (B2.out.trans (b5.mono B2.out.size))
      have O5 := Lib.hid ho5
      have HY := Lib.hid hy
      have HC5 := Lib.hid hc5
      have HS5 := Lib.hid b5.size
      have hyl : ys.length = n2 := by have h1 := congrArg List.length hy; rw [List.length_map, HDL.out] at h1; exact h1
      have HYL := Lib.hid hyl
      have KC := copyActs_any none ac ac (xs.take ac) w5 ((H.out.below B5.out).take (by omega)) (by omega) (by omega)
      have htl : (xs.take ac).length = ac := by have := H.out.len; simp; omega
      unfold GivesActs at KC
      rw [htl] at KC
      have HTL := Lib.hid htl
      clear hy ho5 b5 hc5 hyl htl
      go_wp2_with fail
      (with_reducible refine KC.mono ?_)
      rintro e w6 ⟨a6, c6, zs, rfl, hz, ho6, b6, hc6⟩
      have B6 := Lib.hid (B5.out.trans (b6.mono B5.out.size))
      have O6 := Lib.hid (O5.out.below b6)
      have Z6 := Lib.hid ho6
      have HZ := Lib.hid hz
      have HS6 := Lib.hid b6.size
      have hzl : zs.length = ac := by have h1 := congrArg List.length hz; rw [List.length_map, HTL.out] at h1; exact h1
      have HZL := Lib.hid hzl
      have HNN : Hid (n2 + ac = an) := Lib.hid (by have := HN2.out; omega)
      clear KC hz ho6 b6 hc6 hzl
      go_wp2_with (first | (at_builtin; refine Hid.out ?_))
      refine Lib.hid ?_
      refine wpList_append_acts rfl (.tmp 35) (.tmp 39) rfl w6 w2.heap.size w5.heap.size a5 c5 ys a6 c6 zs n2 ac an HNN.out rfl O6.out rfl Z6.out HYL.out HZL.out HS5.out HS6.out O5.out.lt (by have := HNN.out; omega) HC5.out ?_
      intro av cv w7 hN hg7 hcv7 hlt7
      have hfst : (ys ++ zs).map Prod.fst = rot := by rw [List.map_append, HY.out, HZ.out, HROT.out]
      have hlen : (ys ++ zs).length = an := by rw [List.length_append, HYL.out, HZL.out, HNN.out]
      obtain ⟨us, hus⟩ : ∃ us, us = ys ++ zs := ⟨_, rfl⟩
      rw [← hus] at hN hfst hlen
      have O7 := Lib.hid hN
      have HF7 := Lib.hid hfst
      have HL7 := Lib.hid hlen
      have HC7 := Lib.hid hcv7
      have B7 := Lib.hid (B6.out.grown hg7 B6.out.size (fun q hq => by have := O5.out.ge q hq; have := B2.out.size; omega))
      have HB2 := Lib.hid B2.out.size
      clear hN hfst hlen hcv7 hlt7 hus hg7 O6 Z6 HS5 HS6 HY HZ HYL HZL HNN HC5 O5 B5 B6 HN2 HDL HTL
      go_wp2_with fail
      go_loopw [8] (fun v wr => ∃ (i : Nat) (us : List YA), i ≤ an ∧ v = .int .i64 (i : Nat) ∧ Hid (SwO wr w2.heap.size av cv an rot later i us) ∧ Hid (Below w.heap.size w wr)) (fun v _ => an - (intOf v).toNat)
      case atStart => exact ⟨0, us, Nat.zero_le _, rfl, Lib.hid ⟨O7.out, HL7.out, fun j A hj => by rw [HF7.out, hj, if_neg (Nat.not_lt_zero _)], fun j A hj => absurd hj (Nat.not_lt_zero _)⟩, B7⟩
      case round =>
        clear O7 B7 HF7 HL7
        obtain ⟨i, us, hi, rfl, HSW, HB⟩ := hrel
        by_cases hlt : i < an
        · obtain ⟨A, hA⟩ : ∃ A, rot[i]? = some A := ⟨_, List.getElem?_eq_getElem (by rw [HRL.out]; exact hlt)⟩
          obtain ⟨g, rfl⟩ := HSW.out.addr hlt
          have SW := Lib.hid HSW.out.swi
          clear HSW
          obtain ⟨hd, hu⟩ := SW.out.here hlt hA
          have HA := Lib.hid hA
          obtain ⟨e0, e2, e3, f0, f2, f3⟩ := SW.out.own.cells SW.out.len hlt hu
          have HU := Lib.hid hu
          have hi0 : (0 : Int) ≤ (i : Int) := by omega
          have hi1 : (i : Int) < (an : Int) := by omega
          clear hA hu
          by_cases hs0 : A.st < 0
          · go_wp2
            go_ret
            exact ⟨rfl, HB.out⟩
          by_cases hs1 : 1099511627776 < A.st
          · go_wp2
            go_ret
            exact ⟨rfl, HB.out⟩
          by_cases hs2 : 1099511627776 < A.en
          · go_wp2
            go_ret
            exact ⟨rfl, HB.out⟩
          go_upto_region 13 with fail
          refine (?_ : ∀ W : World, Hid (OwA W w2.heap.size (some ⟨g, 0, none⟩) cv (us.set i ({ A with cl := i }, hd))) → Hid (Below w.heap.size w W) → Code.wp Try.prog _ _ _ W) _ (Lib.hid (SW.out.own.setJ (A' := { A with cl := i }) HU.out rfl rfl rfl (i * 15) _ (acells_set0 _ _ _ _ _ HU.out))) (Lib.hid (HB.out.setCell (p := ⟨g, _, none⟩) (Nat.le_trans HB2.out (SW.out.own.ge g rfl)) _))
          clear e0 e2 e3 f0 f2 f3
          intro W1 O1 BB1
          have hu1 : (us.set i ({ A with cl := i }, hd))[i]? = some ({ A with cl := i }, hd) := by rw [List.getElem?_set_self (by rw [SW.out.len]; exact hlt)]
          obtain ⟨e0, e2, e3, f0, f2, f3⟩ := O1.out.cells (by rw [List.length_set]; exact SW.out.len) hlt hu1
          have HU1 := Lib.hid hu1
          have hwr : IntKind.i64.wrap (A.st + later) = A.st + later := by simp [IntKind.wrap, IntKind.bits, IntKind.signed]; omega
          have HWR := Lib.hid hwr
          clear e0 e3 f0 f3 hu1 hwr
          simp only at e2
          go_upto_region 14 with fail
          refine (?_ : ∀ W : World, Hid (OwA W w2.heap.size (some ⟨g, 0, none⟩) cv (us.set i ({ A with cl := i, st := A.st + later }, hd))) → Hid (Below w.heap.size w W) → Code.wp Try.prog _ _ _ W) _ (Lib.hid (SwO.put2 O1.out HU1.out (A.st + later))) (Lib.hid (BB1.out.setCell (p := ⟨g, _, none⟩) (Nat.le_trans HB2.out (O1.out.ge g rfl)) _))
          clear e2 f2
          intro W2 O2 BB2
          have hu2 : (us.set i ({ A with cl := i, st := A.st + later }, hd))[i]? = some ({ A with cl := i, st := A.st + later }, hd) := by rw [List.getElem?_set_self (by rw [SW.out.len]; exact hlt)]
          obtain ⟨e0, e2, e3, f0, f2, f3⟩ := O2.out.cells (by rw [List.length_set]; exact SW.out.len) hlt hu2
          have HU2 := Lib.hid hu2
          clear e0 e2 f0 f2 hu2
          simp only at e3
          by_cases he0 : 0 ≤ A.en
          · have hsh : shiftA later i A = { A with cl := i, st := A.st + later, en := A.en + later } := by unfold shiftA; rw [if_pos he0]
            have HSH := Lib.hid hsh
            clear hsh
            go_wp2
            go_roundw
            case rel =>
              refine ⟨i + 1, us.set i (shiftA later i A, hd), by omega, by go_num, Lib.hid (SwI.swo (SW.out.next hlt HA.out (by omega) ?_)), Lib.hid (BB2.out.setCell (p := ⟨g, _, none⟩) (Nat.le_trans HB2.out (O2.out.ge g rfl)) _)⟩
              rw [HSH.out]
              exact SwO.put3 O2.out HU2.out (A.en + later)
            case measure => simp [intOf]; omega
          · have hsh : shiftA later i A = { A with cl := i, st := A.st + later } := by unfold shiftA; rw [if_neg he0]
            have HSH := Lib.hid hsh
            clear hsh
            go_wp2
            go_roundw
            case rel => exact ⟨i + 1, us.set i (shiftA later i A, hd), by omega, by go_num, Lib.hid (SwI.swo (SW.out.next hlt HA.out (by omega) (by rw [HSH.out]; exact O2.out))), BB2⟩
            case measure => simp [intOf]; omega
        · obtain rfl : i = an := by omega
          have hfin := HSW.out.done HRL.out
          have hsame := swap_same (xs := xs) (ys := rot) (zs := us.map Prod.fst) (L := later) (by omega) (by rw [HROT.out]; exact rot_perm xs ac) hfin.2 hfin.1
          have HSM := Lib.hid hsame
          have hko : KOk (us.map Prod.fst) := fun a ha => by
            have h1 : eraseA a ∈ rot.map (shiftG later) := by rw [← hfin.1]; exact List.mem_map.2 ⟨a, ha, rfl⟩
            obtain ⟨b, hb, hb2⟩ := List.mem_map.1 h1
            have h2 : a.key = b.key := (congrArg ActR.key hb2).symm
            rw [h2]
            exact HKK.out b (by rw [HROT.out] at hb; rcases List.mem_append.1 hb with hb | hb; exact List.mem_of_mem_drop hb; exact List.mem_of_mem_take hb)
          have HKO := Lib.hid hko
          have ha7 := HSW.out.own.acts
          rw [HSW.out.len] at ha7
          have HA7 := Lib.hid ha7
          have KC := copyActs_rd none i ac xs wr (H.out.below HB.out) hac (by omega)
          clear hfin hsame hko ha7 HSW
          go_wp2_with fail
          (with_reducible refine KC.mono ?_)
          rintro e x1 ⟨a8, c8, rfl, hv8, hc8, b8⟩
          have X1 := Lib.hid (HB.out.trans (b8.mono HB.out.size))
          have V1 := Lib.hid (HA7.out.below b8)
          have KW := whole_any a8 i c8 xs x1 hv8 hc8 (by omega) HKK.out
          obtain ⟨R, hR⟩ : ∃ R, R = wholeR xs := ⟨_, rfl⟩
          rw [← hR] at KW
          have HR := Lib.hid hR
          clear KC b8 hv8 hR
          go_wp2_with fail
          (with_reducible refine KW.mono ?_)
          rintro e x2 ⟨rfl, b9⟩
          have X2 := Lib.hid (X1.out.trans (b9.mono X1.out.size))
          have V2 := Lib.hid (V1.out.below b9)
          have KW2 := whole_any av i cv _ x2 V2.out HC7.out (by omega) HKO.out
          rw [← HSM.out.2, ← HR.out] at KW2
          clear KW b9
          go_wp2_with fail
          (with_reducible refine KW2.mono ?_)
          rintro e x3 ⟨rfl, b10⟩
          have X3 := Lib.hid (X2.out.trans (b10.mono X2.out.size))
          have V3 := Lib.hid (V2.out.below b10)
          have KC := copyActs_rd none i ac xs x3 (H.out.below X3.out) hac (by omega)
          have hRR : (R == R) = true := by simp
          clear KW2 b10
          go_wp2_with fail
          (with_reducible refine KC.mono ?_)
          rintro e x4 ⟨a11, c11, rfl, hv11, hc11, b11⟩
          have X4 := Lib.hid (X3.out.trans (b11.mono X3.out.size))
          have V4 := Lib.hid (V3.out.below b11)
          have KK := check_any a11 i c11 xs x4 hv11 hc11 (by omega) HKK.out
          obtain ⟨cz, hcz⟩ : ∃ c, c = checkR xs := ⟨_, rfl⟩
          rw [← hcz] at KK
          have HCZ := Lib.hid hcz
          clear KC b11 hv11 hcz
          go_wp2_with fail
          (with_reducible refine KK.mono ?_)
          rintro e x5 ⟨rfl, b12⟩
          have X5 := Lib.hid (X4.out.trans (b12.mono X4.out.size))
          have V5 := Lib.hid (V4.out.below b12)
          have KK2 := check_any av i cv _ x5 V5.out HC7.out (by omega) HKO.out
          rw [← HSM.out.1, ← HCZ.out] at KK2
          clear KK b12
          go_wp2_with fail
          (with_reducible refine KK2.mono ?_)
          rintro e x6 ⟨rfl, b13⟩
          have X6 := Lib.hid (X5.out.trans (b13.mono X5.out.size))
          clear KK2 b13
          go_wp2
          go_ret
          exact ⟨by simp, X6.out⟩
    | some ad =>
      have KC := copyActs_any (some ad) 0 0 (xs.drop ac) w2 ((H.out.below B2.out).none (by omega)) (by omega) (by omega)
      have hdl : (xs.drop ac).length = 0 := by have := H.out.len; simp; omega
      unfold GivesActs at KC
      rw [hdl] at KC
      obtain ⟨n2, hn2⟩ : ∃ n2, n2 = 0 := ⟨_, rfl⟩
      rw [← hn2] at hdl
      have HN2 := Lib.hid hn2
      have HDL := Lib.hid hdl
      clear hdl
      go_wp2_with fail
      (with_reducible refine KC.mono ?_)
      rw [← hn2]
      clear KC hn2
      rintro e w5 ⟨a5, c5, ys, rfl, hy, ho5, b5, hc5⟩
      have B5 := Lib.hid (B2.out.trans (b5.mono B2.out.size))
      have O5 := Lib.hid ho5
      have HY := Lib.hid hy
      have HC5 := Lib.hid hc5
      have HS5 := Lib.hid b5.size
      have hyl : ys.length = n2 := by have h1 := congrArg List.length hy; rw [List.length_map, HDL.out] at h1; exact h1
      have HYL := Lib.hid hyl
      have KC := copyActs_any (some ad) ac ac (xs.take ac) w5 ((H.out.below B5.out).take (by omega)) (by omega) (by omega)
      have htl : (xs.take ac).length = ac := by have := H.out.len; simp; omega
      unfold GivesActs at KC
      rw [htl] at KC
      have HTL := Lib.hid htl
      clear hy ho5 b5 hc5 hyl htl
      go_wp2_with fail
      (with_reducible refine KC.mono ?_)
      rintro e w6 ⟨a6, c6, zs, rfl, hz, ho6, b6, hc6⟩
      have B6 := Lib.hid (B5.out.trans (b6.mono B5.out.size))
      have O6 := Lib.hid (O5.out.below b6)
      have Z6 := Lib.hid ho6
      have HZ := Lib.hid hz
      have HS6 := Lib.hid b6.size
      have hzl : zs.length = ac := by have h1 := congrArg List.length hz; rw [List.length_map, HTL.out] at h1; exact h1
      have HZL := Lib.hid hzl
      have HNN : Hid (n2 + ac = an) := Lib.hid (by have := HN2.out; omega)
      clear KC hz ho6 b6 hc6 hzl
      go_wp2_with (first | (at_builtin; refine Hid.out ?_))
      refine Lib.hid ?_
      refine wpList_append_acts rfl (.tmp 35) (.tmp 39) rfl w6 w2.heap.size w5.heap.size a5 c5 ys a6 c6 zs n2 ac an HNN.out rfl O6.out rfl Z6.out HYL.out HZL.out HS5.out HS6.out O5.out.lt (by have := HNN.out; omega) HC5.out ?_
      intro av cv w7 hN hg7 hcv7 hlt7
      have hfst : (ys ++ zs).map Prod.fst = rot := by rw [List.map_append, HY.out, HZ.out, HROT.out]
      have hlen : (ys ++ zs).length = an := by rw [List.length_append, HYL.out, HZL.out, HNN.out]
      obtain ⟨us, hus⟩ : ∃ us, us = ys ++ zs := ⟨_, rfl⟩
      rw [← hus] at hN hfst hlen
      have O7 := Lib.hid hN
      have HF7 := Lib.hid hfst
      have HL7 := Lib.hid hlen
      have HC7 := Lib.hid hcv7
      have B7 := Lib.hid (B6.out.grown hg7 B6.out.size (fun q hq => by have := O5.out.ge q hq; have := B2.out.size; omega))
      have HB2 := Lib.hid B2.out.size
      clear hN hfst hlen hcv7 hlt7 hus hg7 O6 Z6 HS5 HS6 HY HZ HYL HZL HNN HC5 O5 B5 B6 HN2 HDL HTL
      go_wp2_with fail
      go_loopw [8] (fun v wr => ∃ (i : Nat) (us : List YA), i ≤ an ∧ v = .int .i64 (i : Nat) ∧ Hid (SwO wr w2.heap.size av cv an rot later i us) ∧ Hid (Below w.heap.size w wr)) (fun v _ => an - (intOf v).toNat)
      case atStart => exact ⟨0, us, Nat.zero_le _, rfl, Lib.hid ⟨O7.out, HL7.out, fun j A hj => by rw [HF7.out, hj, if_neg (Nat.not_lt_zero _)], fun j A hj => absurd hj (Nat.not_lt_zero _)⟩, B7⟩
      case round =>
        clear O7 B7 HF7 HL7
        obtain ⟨i, us, hi, rfl, HSW, HB⟩ := hrel
        by_cases hlt : i < an
        · obtain ⟨A, hA⟩ : ∃ A, rot[i]? = some A := ⟨_, List.getElem?_eq_getElem (by rw [HRL.out]; exact hlt)⟩
          obtain ⟨g, rfl⟩ := HSW.out.addr hlt
          have SW := Lib.hid HSW.out.swi
          clear HSW
          obtain ⟨hd, hu⟩ := SW.out.here hlt hA
          have HA := Lib.hid hA
          obtain ⟨e0, e2, e3, f0, f2, f3⟩ := SW.out.own.cells SW.out.len hlt hu
          have HU := Lib.hid hu
          have hi0 : (0 : Int) ≤ (i : Int) := by omega
          have hi1 : (i : Int) < (an : Int) := by omega
          clear hA hu
          by_cases hs0 : A.st < 0
          · go_wp2
            go_ret
            exact ⟨rfl, HB.out⟩
          by_cases hs1 : 1099511627776 < A.st
          · go_wp2
            go_ret
            exact ⟨rfl, HB.out⟩
          by_cases hs2 : 1099511627776 < A.en
          · go_wp2
            go_ret
            exact ⟨rfl, HB.out⟩
          go_upto_region 13 with fail
          refine (?_ : ∀ W : World, Hid (OwA W w2.heap.size (some ⟨g, 0, none⟩) cv (us.set i ({ A with cl := i }, hd))) → Hid (Below w.heap.size w W) → Code.wp Try.prog _ _ _ W) _ (Lib.hid (SW.out.own.setJ (A' := { A with cl := i }) HU.out rfl rfl rfl (i * 15) _ (acells_set0 _ _ _ _ _ HU.out))) (Lib.hid (HB.out.setCell (p := ⟨g, _, none⟩) (Nat.le_trans HB2.out (SW.out.own.ge g rfl)) _))
          clear e0 e2 e3 f0 f2 f3
          intro W1 O1 BB1
          have hu1 : (us.set i ({ A with cl := i }, hd))[i]? = some ({ A with cl := i }, hd) := by rw [List.getElem?_set_self (by rw [SW.out.len]; exact hlt)]
          obtain ⟨e0, e2, e3, f0, f2, f3⟩ := O1.out.cells (by rw [List.length_set]; exact SW.out.len) hlt hu1
          have HU1 := Lib.hid hu1
          have hwr : IntKind.i64.wrap (A.st + later) = A.st + later := by simp [IntKind.wrap, IntKind.bits, IntKind.signed]; omega
          have HWR := Lib.hid hwr
          clear e0 e3 f0 f3 hu1 hwr
          simp only at e2
          go_upto_region 14 with fail
          refine (?_ : ∀ W : World, Hid (OwA W w2.heap.size (some ⟨g, 0, none⟩) cv (us.set i ({ A with cl := i, st := A.st + later }, hd))) → Hid (Below w.heap.size w W) → Code.wp Try.prog _ _ _ W) _ (Lib.hid (SwO.put2 O1.out HU1.out (A.st + later))) (Lib.hid (BB1.out.setCell (p := ⟨g, _, none⟩) (Nat.le_trans HB2.out (O1.out.ge g rfl)) _))
          clear e2 f2
          intro W2 O2 BB2
          have hu2 : (us.set i ({ A with cl := i, st := A.st + later }, hd))[i]? = some ({ A with cl := i, st := A.st + later }, hd) := by rw [List.getElem?_set_self (by rw [SW.out.len]; exact hlt)]
          obtain ⟨e0, e2, e3, f0, f2, f3⟩ := O2.out.cells (by rw [List.length_set]; exact SW.out.len) hlt hu2
          have HU2 := Lib.hid hu2
          clear e0 e2 f0 f2 hu2
          simp only at e3
          by_cases he0 : 0 ≤ A.en
          · have hsh : shiftA later i A = { A with cl := i, st := A.st + later, en := A.en + later } := by unfold shiftA; rw [if_pos he0]
            have HSH := Lib.hid hsh
            clear hsh
            go_wp2
            go_roundw
            case rel =>
              refine ⟨i + 1, us.set i (shiftA later i A, hd), by omega, by go_num, Lib.hid (SwI.swo (SW.out.next hlt HA.out (by omega) ?_)), Lib.hid (BB2.out.setCell (p := ⟨g, _, none⟩) (Nat.le_trans HB2.out (O2.out.ge g rfl)) _)⟩
              rw [HSH.out]
              exact SwO.put3 O2.out HU2.out (A.en + later)
            case measure => simp [intOf]; omega
          · have hsh : shiftA later i A = { A with cl := i, st := A.st + later } := by unfold shiftA; rw [if_neg he0]
            have HSH := Lib.hid hsh
            clear hsh
            go_wp2
            go_roundw
            case rel => exact ⟨i + 1, us.set i (shiftA later i A, hd), by omega, by go_num, Lib.hid (SwI.swo (SW.out.next hlt HA.out (by omega) (by rw [HSH.out]; exact O2.out))), BB2⟩
            case measure => simp [intOf]; omega
        · obtain rfl : i = an := by omega
          have hfin := HSW.out.done HRL.out
          have hsame := swap_same (xs := xs) (ys := rot) (zs := us.map Prod.fst) (L := later) (by omega) (by rw [HROT.out]; exact rot_perm xs ac) hfin.2 hfin.1
          have HSM := Lib.hid hsame
          have hko : KOk (us.map Prod.fst) := fun a ha => by
            have h1 : eraseA a ∈ rot.map (shiftG later) := by rw [← hfin.1]; exact List.mem_map.2 ⟨a, ha, rfl⟩
            obtain ⟨b, hb, hb2⟩ := List.mem_map.1 h1
            have h2 : a.key = b.key := (congrArg ActR.key hb2).symm
            rw [h2]
            exact HKK.out b (by rw [HROT.out] at hb; rcases List.mem_append.1 hb with hb | hb; exact List.mem_of_mem_drop hb; exact List.mem_of_mem_take hb)
          have HKO := Lib.hid hko
          have ha7 := HSW.out.own.acts
          rw [HSW.out.len] at ha7
          have HA7 := Lib.hid ha7
          have KC := copyActs_rd (some ad) i ac xs wr (H.out.below HB.out) hac (by omega)
          clear hfin hsame hko ha7 HSW
          go_wp2_with fail
          (with_reducible refine KC.mono ?_)
          rintro e x1 ⟨a8, c8, rfl, hv8, hc8, b8⟩
          have X1 := Lib.hid (HB.out.trans (b8.mono HB.out.size))
          have V1 := Lib.hid (HA7.out.below b8)
          have KW := whole_any a8 i c8 xs x1 hv8 hc8 (by omega) HKK.out
          obtain ⟨R, hR⟩ : ∃ R, R = wholeR xs := ⟨_, rfl⟩
          rw [← hR] at KW
          have HR := Lib.hid hR
          clear KC b8 hv8 hR
          go_wp2_with fail
          (with_reducible refine KW.mono ?_)
          rintro e x2 ⟨rfl, b9⟩
          have X2 := Lib.hid (X1.out.trans (b9.mono X1.out.size))
          have V2 := Lib.hid (V1.out.below b9)
          have KW2 := whole_any av i cv _ x2 V2.out HC7.out (by omega) HKO.out
          rw [← HSM.out.2, ← HR.out] at KW2
          clear KW b9
          go_wp2_with fail
          (with_reducible refine KW2.mono ?_)
          rintro e x3 ⟨rfl, b10⟩
          have X3 := Lib.hid (X2.out.trans (b10.mono X2.out.size))
          have V3 := Lib.hid (V2.out.below b10)
          have KC := copyActs_rd (some ad) i ac xs x3 (H.out.below X3.out) hac (by omega)
          have hRR : (R == R) = true := by simp
          clear KW2 b10
          go_wp2_with fail
          (with_reducible refine KC.mono ?_)
          rintro e x4 ⟨a11, c11, rfl, hv11, hc11, b11⟩
          have X4 := Lib.hid (X3.out.trans (b11.mono X3.out.size))
          have V4 := Lib.hid (V3.out.below b11)
          have KK := check_any a11 i c11 xs x4 hv11 hc11 (by omega) HKK.out
          obtain ⟨cz, hcz⟩ : ∃ c, c = checkR xs := ⟨_, rfl⟩
          rw [← hcz] at KK
          have HCZ := Lib.hid hcz
          clear KC b11 hv11 hcz
          go_wp2_with fail
          (with_reducible refine KK.mono ?_)
          rintro e x5 ⟨rfl, b12⟩
          have X5 := Lib.hid (X4.out.trans (b12.mono X4.out.size))
          have V5 := Lib.hid (V4.out.below b12)
          have KK2 := check_any av i cv _ x5 V5.out HC7.out (by omega) HKO.out
          rw [← HSM.out.1, ← HCZ.out] at KK2
          clear KK b12
          go_wp2_with fail
          (with_reducible refine KK2.mono ?_)
          rintro e x6 ⟨rfl, b13⟩
          have X6 := Lib.hid (X5.out.trans (b13.mono X5.out.size))
          clear KK2 b13
          go_wp2
          go_ret
          exact ⟨by simp, X6.out⟩
  · by_cases hz : an = 0
    · subst hz
      obtain rfl : t = 0 := by omega
      have hx : xs = [] := List.eq_nil_of_length_eq_zero H.out.len
      subst hx
      have nilV : ∀ (W : World) (a : Option Addr), ActsV W a 0 [] := fun W a => ⟨rfl, fun _ => ((none, 0, 0), (none, 0, 0), (none, 0, 0)), fun h0 => absurd h0 (Nat.lt_irrefl _)⟩
      have NILV := Lib.hid nilV
      have KC := copyActs_any aa 0 ac [] w2 (nilV _ _) (by omega) (by omega)
      unfold GivesActs at KC
      simp only [List.length_nil] at KC
      clear nilV
      go_wp2_with fail
      (with_reducible refine KC.mono ?_)
      rintro e w5 ⟨a5, c5, ys, rfl, hy, ho5, b5, hc5⟩
      have hys : ys = [] := by cases ys with
        | nil => rfl
        | cons y ys => simp at hy
      subst hys
      have B5 := Lib.hid (B2.out.trans (b5.mono B2.out.size))
      have O5 := Lib.hid ho5
      have HC5 := Lib.hid hc5
      have HS5 := Lib.hid b5.size
      have KC := copyActs_any aa 0 ac [] w5 (NILV.out _ _) (by omega) (by omega)
      unfold GivesActs at KC
      simp only [List.length_nil] at KC
      clear hy ho5 b5 hc5
      go_wp2_with fail
      (with_reducible refine KC.mono ?_)
      rintro e w6 ⟨a6, c6, zs, rfl, hz, ho6, b6, hc6⟩
      have hzs : zs = [] := by cases zs with
        | nil => rfl
        | cons y ys => simp at hz
      subst hzs
      have B6 := Lib.hid (B5.out.trans (b6.mono B5.out.size))
      have O6 := Lib.hid (O5.out.below b6)
      have Z6 := Lib.hid ho6
      have HS6 := Lib.hid b6.size
      clear KC hz ho6 b6 hc6
      go_wp2_with (first | (at_builtin; refine Hid.out ?_))
      refine Lib.hid ?_
      refine wpList_append_acts rfl (.tmp 35) (.tmp 39) rfl w6 w2.heap.size w5.heap.size a5 c5 [] a6 c6 [] 0 0 0 rfl rfl O6.out rfl Z6.out rfl rfl HS5.out HS6.out O5.out.lt (by omega) HC5.out ?_
      intro av cv w7 hN hg7 hcv7 hlt7
      have HC7 := Lib.hid hcv7
      have B7 := Lib.hid (B6.out.grown hg7 B6.out.size (fun q hq => by have := O5.out.ge q hq; have := B2.out.size; omega))
      clear hN hcv7 hlt7 hg7 O6 Z6 HS5 HS6 HC5 O5 B5 B6
      go_wp2_with fail
      go_loopw [8] (fun v wr => v = .int .i64 0 ∧ Hid (Below w.heap.size w wr)) (fun v _ => 0)
      case atStart => exact ⟨rfl, B7⟩
      case round =>
        obtain ⟨rfl, HB⟩ := hrel
        have KC := copyActs_rd aa 0 ac [] wr (H.out.below HB.out) hac (by omega)
        skip
        go_wp2_with fail
        (with_reducible refine KC.mono ?_)
        rintro e x1 ⟨a8, c8, rfl, hv8, hc8, b8⟩
        have X1 := Lib.hid (HB.out.trans (b8.mono HB.out.size))
        have KW := whole_any a8 0 c8 [] x1 hv8 hc8 (by omega) HKK.out
        obtain ⟨R, hR⟩ : ∃ R, R = wholeR [] := ⟨_, rfl⟩
        rw [← hR] at KW
        have HR := Lib.hid hR
        clear KC b8 hv8 hR
        go_wp2_with fail
        (with_reducible refine KW.mono ?_)
        rintro e x2 ⟨rfl, b9⟩
        have X2 := Lib.hid (X1.out.trans (b9.mono X1.out.size))
        have KW2 := whole_any av 0 cv [] x2 (NILV.out _ _) HC7.out (by omega) HKK.out
        rw [← HR.out] at KW2
        clear KW b9
        go_wp2_with fail
        (with_reducible refine KW2.mono ?_)
        rintro e x3 ⟨rfl, b10⟩
        have X3 := Lib.hid (X2.out.trans (b10.mono X2.out.size))
        have KC := copyActs_rd aa 0 ac [] x3 (H.out.below X3.out) hac (by omega)
        have hRR : (R == R) = true := by simp
        clear KW2 b10
        go_wp2_with fail
        (with_reducible refine KC.mono ?_)
        rintro e x4 ⟨a11, c11, rfl, hv11, hc11, b11⟩
        have X4 := Lib.hid (X3.out.trans (b11.mono X3.out.size))
        have KK := check_any a11 0 c11 [] x4 hv11 hc11 (by omega) HKK.out
        obtain ⟨cz, hcz⟩ : ∃ c, c = checkR [] := ⟨_, rfl⟩
        rw [← hcz] at KK
        have HCZ := Lib.hid hcz
        clear KC b11 hv11 hcz
        go_wp2_with fail
        (with_reducible refine KK.mono ?_)
        rintro e x5 ⟨rfl, b12⟩
        have X5 := Lib.hid (X4.out.trans (b12.mono X4.out.size))
        have KK2 := check_any av 0 cv [] x5 (NILV.out _ _) HC7.out (by omega) HKK.out
        rw [← HCZ.out] at KK2
        clear KK b12
        go_wp2_with fail
        (with_reducible refine KK2.mono ?_)
        rintro e x6 ⟨rfl, b13⟩
        have X6 := Lib.hid (X5.out.trans (b13.mono X5.out.size))
        clear KK2 b13
        go_wp2
        go_ret
        exact ⟨by simp, X6.out⟩
    · obtain ⟨b, ao, rfl⟩ : ∃ b ao, aa = some ⟨b, ao, none⟩ := by
        obtain ⟨b, ao, _, _, _, _, e, -⟩ := H.out.at (show 0 < an by omega)
        exact ⟨b, ao, e⟩
      have KC := copyActs_any (some ⟨b, ao + t * 15, none⟩) (an - t) (ac - t) (xs.drop t) w2 ((H.out.below B2.out).drop (by omega)) (by omega) (by omega)
      have hdl : (xs.drop t).length = (an - t) := by have := H.out.len; simp; omega
      unfold GivesActs at KC
      rw [hdl] at KC
      obtain ⟨n2, hn2⟩ : ∃ n2, n2 = (an - t) := ⟨_, rfl⟩
      rw [← hn2] at hdl
      have HN2 := Lib.hid hn2
      have HDL := Lib.hid hdl
      clear hdl
      go_wp2_with fail
      (with_reducible refine KC.mono ?_)
      rw [← hn2]
      clear KC hn2
      rintro e w5 ⟨a5, c5, ys, rfl, hy, ho5, b5, hc5⟩
      have B5 := Lib.hid (B2.out.trans (b5.mono B2.out.size))
      have O5 := Lib.hid ho5
      have HY := Lib.hid hy
      have HC5 := Lib.hid hc5
      have HS5 := Lib.hid b5.size
      have hyl : ys.length = n2 := by have h1 := congrArg List.length hy; rw [List.length_map, HDL.out] at h1; exact h1
      have HYL := Lib.hid hyl
      have KC := copyActs_any (some ⟨b, ao, none⟩) t ac (xs.take t) w5 ((H.out.below B5.out).take (by omega)) (by omega) (by omega)
      have htl : (xs.take t).length = t := by have := H.out.len; simp; omega
      unfold GivesActs at KC
      rw [htl] at KC
      have HTL := Lib.hid htl
      clear hy ho5 b5 hc5 hyl htl
      go_wp2_with fail
      (with_reducible refine KC.mono ?_)
      rintro e w6 ⟨a6, c6, zs, rfl, hz, ho6, b6, hc6⟩
      have B6 := Lib.hid (B5.out.trans (b6.mono B5.out.size))
      have O6 := Lib.hid (O5.out.below b6)
      have Z6 := Lib.hid ho6
      have HZ := Lib.hid hz
      have HS6 := Lib.hid b6.size
      have hzl : zs.length = t := by have h1 := congrArg List.length hz; rw [List.length_map, HTL.out] at h1; exact h1
      have HZL := Lib.hid hzl
      have HNN : Hid (n2 + t = an) := Lib.hid (by have := HN2.out; omega)
      clear KC hz ho6 b6 hc6 hzl
      go_wp2_with (first | (at_builtin; refine Hid.out ?_))
      refine Lib.hid ?_
      refine wpList_append_acts rfl (.tmp 35) (.tmp 39) rfl w6 w2.heap.size w5.heap.size a5 c5 ys a6 c6 zs n2 t an HNN.out rfl O6.out rfl Z6.out HYL.out HZL.out HS5.out HS6.out O5.out.lt (by have := HNN.out; omega) HC5.out ?_
      intro av cv w7 hN hg7 hcv7 hlt7
      have hfst : (ys ++ zs).map Prod.fst = rot := by rw [List.map_append, HY.out, HZ.out, HROT.out]
      have hlen : (ys ++ zs).length = an := by rw [List.length_append, HYL.out, HZL.out, HNN.out]
      obtain ⟨us, hus⟩ : ∃ us, us = ys ++ zs := ⟨_, rfl⟩
      rw [← hus] at hN hfst hlen
      have O7 := Lib.hid hN
      have HF7 := Lib.hid hfst
      have HL7 := Lib.hid hlen
      have HC7 := Lib.hid hcv7
      have B7 := Lib.hid (B6.out.grown hg7 B6.out.size (fun q hq => by have := O5.out.ge q hq; have := B2.out.size; omega))
      have HB2 := Lib.hid B2.out.size
      clear hN hfst hlen hcv7 hlt7 hus hg7 O6 Z6 HS5 HS6 HY HZ HYL HZL HNN HC5 O5 B5 B6 HN2 HDL HTL
      go_wp2_with fail
      go_loopw [8] (fun v wr => ∃ (i : Nat) (us : List YA), i ≤ an ∧ v = .int .i64 (i : Nat) ∧ Hid (SwO wr w2.heap.size av cv an rot later i us) ∧ Hid (Below w.heap.size w wr)) (fun v _ => an - (intOf v).toNat)
      case atStart => exact ⟨0, us, Nat.zero_le _, rfl, Lib.hid ⟨O7.out, HL7.out, fun j A hj => by rw [HF7.out, hj, if_neg (Nat.not_lt_zero _)], fun j A hj => absurd hj (Nat.not_lt_zero _)⟩, B7⟩
      case round =>
        clear O7 B7 HF7 HL7
        obtain ⟨i, us, hi, rfl, HSW, HB⟩ := hrel
        by_cases hlt : i < an
        · obtain ⟨A, hA⟩ : ∃ A, rot[i]? = some A := ⟨_, List.getElem?_eq_getElem (by rw [HRL.out]; exact hlt)⟩
          obtain ⟨g, rfl⟩ := HSW.out.addr hlt
          have SW := Lib.hid HSW.out.swi
          clear HSW
          obtain ⟨hd, hu⟩ := SW.out.here hlt hA
          have HA := Lib.hid hA
          obtain ⟨e0, e2, e3, f0, f2, f3⟩ := SW.out.own.cells SW.out.len hlt hu
          have HU := Lib.hid hu
          have hi0 : (0 : Int) ≤ (i : Int) := by omega
          have hi1 : (i : Int) < (an : Int) := by omega
          clear hA hu
          by_cases hs0 : A.st < 0
          · go_wp2
            go_ret
            exact ⟨rfl, HB.out⟩
          by_cases hs1 : 1099511627776 < A.st
          · go_wp2
            go_ret
            exact ⟨rfl, HB.out⟩
          by_cases hs2 : 1099511627776 < A.en
          · go_wp2
            go_ret
            exact ⟨rfl, HB.out⟩
          go_upto_region 13 with fail
          refine (?_ : ∀ W : World, Hid (OwA W w2.heap.size (some ⟨g, 0, none⟩) cv (us.set i ({ A with cl := i }, hd))) → Hid (Below w.heap.size w W) → Code.wp Try.prog _ _ _ W) _ (Lib.hid (SW.out.own.setJ (A' := { A with cl := i }) HU.out rfl rfl rfl (i * 15) _ (acells_set0 _ _ _ _ _ HU.out))) (Lib.hid (HB.out.setCell (p := ⟨g, _, none⟩) (Nat.le_trans HB2.out (SW.out.own.ge g rfl)) _))
          clear e0 e2 e3 f0 f2 f3
          intro W1 O1 BB1
          have hu1 : (us.set i ({ A with cl := i }, hd))[i]? = some ({ A with cl := i }, hd) := by rw [List.getElem?_set_self (by rw [SW.out.len]; exact hlt)]
          obtain ⟨e0, e2, e3, f0, f2, f3⟩ := O1.out.cells (by rw [List.length_set]; exact SW.out.len) hlt hu1
          have HU1 := Lib.hid hu1
          have hwr : IntKind.i64.wrap (A.st + later) = A.st + later := by simp [IntKind.wrap, IntKind.bits, IntKind.signed]; omega
          have HWR := Lib.hid hwr
          clear e0 e3 f0 f3 hu1 hwr
          simp only at e2
          go_upto_region 14 with fail
          refine (?_ : ∀ W : World, Hid (OwA W w2.heap.size (some ⟨g, 0, none⟩) cv (us.set i ({ A with cl := i, st := A.st + later }, hd))) → Hid (Below w.heap.size w W) → Code.wp Try.prog _ _ _ W) _ (Lib.hid (SwO.put2 O1.out HU1.out (A.st + later))) (Lib.hid (BB1.out.setCell (p := ⟨g, _, none⟩) (Nat.le_trans HB2.out (O1.out.ge g rfl)) _))
          clear e2 f2
          intro W2 O2 BB2
          have hu2 : (us.set i ({ A with cl := i, st := A.st + later }, hd))[i]? = some ({ A with cl := i, st := A.st + later }, hd) := by rw [List.getElem?_set_self (by rw [SW.out.len]; exact hlt)]
          obtain ⟨e0, e2, e3, f0, f2, f3⟩ := O2.out.cells (by rw [List.length_set]; exact SW.out.len) hlt hu2
          have HU2 := Lib.hid hu2
          clear e0 e2 f0 f2 hu2
          simp only at e3
          by_cases he0 : 0 ≤ A.en
          · have hsh : shiftA later i A = { A with cl := i, st := A.st + later, en := A.en + later } := by unfold shiftA; rw [if_pos he0]
            have HSH := Lib.hid hsh
            clear hsh
            go_wp2
            go_roundw
            case rel =>
              refine ⟨i + 1, us.set i (shiftA later i A, hd), by omega, by go_num, Lib.hid (SwI.swo (SW.out.next hlt HA.out (by omega) ?_)), Lib.hid (BB2.out.setCell (p := ⟨g, _, none⟩) (Nat.le_trans HB2.out (O2.out.ge g rfl)) _)⟩
              rw [HSH.out]
              exact SwO.put3 O2.out HU2.out (A.en + later)
            case measure => simp [intOf]; omega
          · have hsh : shiftA later i A = { A with cl := i, st := A.st + later } := by unfold shiftA; rw [if_neg he0]
            have HSH := Lib.hid hsh
            clear hsh
            go_wp2
            go_roundw
            case rel => exact ⟨i + 1, us.set i (shiftA later i A, hd), by omega, by go_num, Lib.hid (SwI.swo (SW.out.next hlt HA.out (by omega) (by rw [HSH.out]; exact O2.out))), BB2⟩
            case measure => simp [intOf]; omega
        · obtain rfl : i = an := by omega
          have hfin := HSW.out.done HRL.out
          have hsame := swap_same (xs := xs) (ys := rot) (zs := us.map Prod.fst) (L := later) (by omega) (by rw [HROT.out]; exact rot_perm xs t) hfin.2 hfin.1
          have HSM := Lib.hid hsame
          have hko : KOk (us.map Prod.fst) := fun a ha => by
            have h1 : eraseA a ∈ rot.map (shiftG later) := by rw [← hfin.1]; exact List.mem_map.2 ⟨a, ha, rfl⟩
            obtain ⟨b, hb, hb2⟩ := List.mem_map.1 h1
            have h2 : a.key = b.key := (congrArg ActR.key hb2).symm
            rw [h2]
            exact HKK.out b (by rw [HROT.out] at hb; rcases List.mem_append.1 hb with hb | hb; exact List.mem_of_mem_drop hb; exact List.mem_of_mem_take hb)
          have HKO := Lib.hid hko
          have ha7 := HSW.out.own.acts
          rw [HSW.out.len] at ha7
          have HA7 := Lib.hid ha7
          have KC := copyActs_rd (some ⟨b, ao, none⟩) i ac xs wr (H.out.below HB.out) hac (by omega)
          clear hfin hsame hko ha7 HSW
          go_wp2_with fail
          (with_reducible refine KC.mono ?_)
          rintro e x1 ⟨a8, c8, rfl, hv8, hc8, b8⟩
          have X1 := Lib.hid (HB.out.trans (b8.mono HB.out.size))
          have V1 := Lib.hid (HA7.out.below b8)
          have KW := whole_any a8 i c8 xs x1 hv8 hc8 (by omega) HKK.out
          obtain ⟨R, hR⟩ : ∃ R, R = wholeR xs := ⟨_, rfl⟩
          rw [← hR] at KW
          have HR := Lib.hid hR
          clear KC b8 hv8 hR
          go_wp2_with fail
          (with_reducible refine KW.mono ?_)
          rintro e x2 ⟨rfl, b9⟩
          have X2 := Lib.hid (X1.out.trans (b9.mono X1.out.size))
          have V2 := Lib.hid (V1.out.below b9)
          have KW2 := whole_any av i cv _ x2 V2.out HC7.out (by omega) HKO.out
          rw [← HSM.out.2, ← HR.out] at KW2
          clear KW b9
          go_wp2_with fail
          (with_reducible refine KW2.mono ?_)
          rintro e x3 ⟨rfl, b10⟩
          have X3 := Lib.hid (X2.out.trans (b10.mono X2.out.size))
          have V3 := Lib.hid (V2.out.below b10)
          have KC := copyActs_rd (some ⟨b, ao, none⟩) i ac xs x3 (H.out.below X3.out) hac (by omega)
          have hRR : (R == R) = true := by simp
          clear KW2 b10
          go_wp2_with fail
          (with_reducible refine KC.mono ?_)
          rintro e x4 ⟨a11, c11, rfl, hv11, hc11, b11⟩
          have X4 := Lib.hid (X3.out.trans (b11.mono X3.out.size))
          have V4 := Lib.hid (V3.out.below b11)
          have KK := check_any a11 i c11 xs x4 hv11 hc11 (by omega) HKK.out
          obtain ⟨cz, hcz⟩ : ∃ c, c = checkR xs := ⟨_, rfl⟩
          rw [← hcz] at KK
          have HCZ := Lib.hid hcz
          clear KC b11 hv11 hcz
          go_wp2_with fail
          (with_reducible refine KK.mono ?_)
          rintro e x5 ⟨rfl, b12⟩
          have X5 := Lib.hid (X4.out.trans (b12.mono X4.out.size))
          have V5 := Lib.hid (V4.out.below b12)
          have KK2 := check_any av i cv _ x5 V5.out HC7.out (by omega) HKO.out
          rw [← HSM.out.1, ← HCZ.out] at KK2
          clear KK b12
          go_wp2_with fail
          (with_reducible refine KK2.mono ?_)
          rintro e x6 ⟨rfl, b13⟩
          have X6 := Lib.hid (X5.out.trans (b13.mono X5.out.size))
          clear KK2 b13
          go_wp2
          go_ret
          exact ⟨by simp, X6.out⟩
end Go.Proofs.Ytnefcbcioemfiaa
