/-
  rilllaw09: MetaRound.
-/
import Derived.Test.YtikjcmijmhmilaaMfL
import Derived.Deep.DeepAppendWide
namespace Go.Proofs.Ytikjcmijmhmilaa
open Go.RowKit

theorem dec_gives_yes {k : Int} {key : ByteArray} {N c s t : Int} {d : Bool} {sum : List Nat} {P : Nat → PlR} {pn : Nat} (hR : rightB k key N c s t d sum.length P pn = true) (hl : ∀ i, i < pn → (P i).l.length = (P i).x.2.1) {w w' : World} {e : Ending} (h : GivesDec w (encL k key N c s t d sum P pn) e w') : Below w.heap.size w w' ∧ ∃ sa sc pa pc Q, e = .returned (.tuple #[.agg #[.int .i64 k, .string key, .int .i64 N, .int .i64 c, .int .i64 s, .int .i64 t, .bool d, .slice sa sum.length sc, .slice pa pn pc], .int .i64 0]) ∧ BytesV w' (sa, sum.length, sc) sum ∧ PlacesV w' pa pn pc Q ∧ ∀ i, i < pn → SameP (Q i) (P i) := by
  obtain ⟨hb, h⟩ := h
  have hk := dec_yes hR hl
  rcases h with ⟨h, -⟩ | ⟨-, sa, sc, pa, pc, Q, rfl, q1, q2, q3⟩
  · rw [hk] at h; cases h
  · obtain ⟨S, hS⟩ : ∃ S : Sc, S = ⟨false, encL k key N c s t d sum P pn⟩ := ⟨_, rfl⟩
    obtain ⟨h0, h1, h2, h3, h4, h5, h6, h7, h8, h9, h10⟩ := rec_back k key N c s t d sum P pn hR hl S hS
    rw [← hS, h8] at q1
    rw [← hS, h9] at q2 q3
    rw [← hS, h1, h2, h3, h4, h5, h6, h7, h8, h9]
    refine ⟨hb, sa, sc, pa, pc, Q, rfl, q1, q2, fun i hi => ?_⟩
    have a := q3 i hi
    have b := h10 i hi
    exact ⟨a.b.trans b.b, a.e.trans b.e, a.s.trans b.s, a.l.trans b.l, a.n.trans b.n⟩
theorem dec_code {l : List Nat} {w w' : World} {e : Ending} (h : GivesDec w l e w') : Below w.heap.size w w' ∧ ∃ cs, e = .returned (.tuple #[.agg cs, .int .i64 (if decOk l = true then 0 else 90)]) := by
  obtain ⟨hb, ⟨h, rfl⟩ | ⟨h, sa, sc, pa, pc, Q, rfl, -⟩⟩ := h
  · exact ⟨hb, _, by rw [if_neg (by rw [h]; decide)]⟩
  · exact ⟨hb, _, by rw [if_pos h]⟩
theorem wpList_append_row_wide {P : Program} {w : World} {ops : Array Oper} {rest : List Oper} {o : Oper} {a : Act} {Q : Exit → Act → World → Prop} (hgd : o.guard = none) (s x : Operand) (t : TypeId)
    (ho : o.op = .call { callee := .builtin .append, args := #[s, x], argTypes := #[t, t] })
    (base : Nat) (e : TypeId) (i : TypeInfo) (z : Value) (ht : P.underlying t = some (.slice e)) (hi : P.info? e = some i) (hz : i.zero = some z)
    (hsize : i.size = 1) (hby : i.bytes = 1) (hzs : z.cells.size = 1)
    (v : Value) (n : Nat) (xs : List Value) (hs : a.eval s = v) (hown : w.ownsRow base e 1 v n xs)
    (ad : Option Addr) (m c : Nat) (news : List Value) (hx : a.eval x = .slice ad m c) (hnews : RowV w ad m news) (hnil : ad = none → c = 0) (h1 : ∀ u ∈ news, u.oneCell' = true)
    (hnm : n + m ≤ 150000000000000) (hbase : base ≤ w.heap.size)
    (h : ∀ v' w', w'.ownsRow base e 1 v' (n + m) (xs ++ news) → w.grownBy w' v.ownBlock → wpList P ops Q rest (a.put o.dst v') w') : wpList P ops Q (o :: rest) a w := by
  by_cases hm : m = 0
  · subst hm
    have hn : news = [] := List.eq_nil_of_length_eq_zero hnews.1
    subst hn
    cases ad with
    | none =>
      have hc := hnil rfl
      subst hc
      exact wpList_append_own_none hgd s x t ho base e i 1 ht hi v n xs hs hown hx (h v w (by simpa using hown) (World.grownBy_refl _ _))
    | some ad =>
      refine wpList_append_own_wide w hgd s x t ho base e i z 1 1 ht hi hz hsize hby hzs (by omega) v n xs hs hown ad 0 c [] hx rfl (fun j u hj => by simp at hj) (fun u hu => by cases hu) (by simp [maxLen]; omega) (by omega) hbase (fun v' w' a1 a2 _ => h v' w' a1 a2)
  · obtain ⟨b, off, rfl, hc⟩ := hnews.2 (by omega)
    refine wpList_append_own_wide w hgd s x t ho base e i z 1 1 ht hi hz hsize hby hzs (by omega) v n xs hs hown ⟨b, off, none⟩ m c news hx (by rw [hnews.1]; omega) ?_ h1 (by simp [maxLen]; omega) (by omega) hbase (fun v' w' a1 a2 _ => h v' w' a1 a2)
    intro j u hj
    have hjm : j < m := by rw [← hnews.1]; exact (List.getElem?_eq_some_iff.1 hj).1
    rw [← hj, ← hc j hjm]
    unfold Addr.add
    split
    · rename_i e0; subst e0; rfl
    · rfl
set_option maxRecDepth 100000 in
set_option maxHeartbeats 16000000 in
theorem metaRound_walk (k : Int) (key : ByteArray) (N c s t : Int) (d : Bool) (sa : Option Addr) (sn sc : Nat) (sum : List Nat) (pa : Option Addr) (pn pc : Nat) (P : Nat → PlR) (at_ : Int) (ma : Option Addr) (mn mc : Nat) (ml : List Nat) (w : World) (hS : BytesV w (sa, sn, sc) sum) (hP : PlacesV w pa pn pc P) (_hat : (Lit.int .i64 at_).wf = true) (hM : BytesV w (ma, mn, mc) ml) (hms : mn ≤ 140737488351232) :
    Calls Try.prog 7 #[.agg #[.int .i64 k, .string key, .int .i64 N, .int .i64 c, .int .i64 s, .int .i64 t, .bool d, .slice sa sn sc, .slice pa pn pc], .int .i64 at_, .slice ma mn mc] w fun e w' => e = .returned (.bool true) ∧ Below w.heap.size w w' := by
  have KA := alive_any
  have hl : ∀ i, i < pn → (P i).l.length = (P i).x.2.1 ∧ Bytes (P i).l := fun i hi => by
    obtain ⟨g, o, -, -, hat⟩ := hP.row (by omega)
    exact ⟨(hat i hi).by_.length, (hat i hi).by_.bytes⟩
  have HL := Lib.hid hl
  have HS := Lib.hid hS
  have HP := Lib.hid hP
  have HM := Lib.hid hM
  have HMS := Lib.hid hms
  obtain ⟨b, hb⟩ : ∃ b, b = w.heap.size := ⟨_, rfl⟩
  obtain ⟨w1, hw1⟩ : ∃ x, x = w.alloc (.cells #[.int .i64 k, .string key, .int .i64 N, .int .i64 c, .int .i64 s, .int .i64 t, .bool d, .slice sa sn sc, .slice pa pn pc] RT9) := ⟨_, rfl⟩
  have k1 : w1.heap[b]? = some (.cells #[.int .i64 k, .string key, .int .i64 N, .int .i64 c, .int .i64 s, .int .i64 t, .bool d, .slice sa sn sc, .slice pa pn pc] RT9 (0, 0)) := by rw [hw1, hb]; exact heap_alloc_new w _
  have b1 : Below w.heap.size w w1 := by rw [hw1]; exact below_alloc w _
  have HW1 := Lib.hid hw1
  have HBB := Lib.hid hb
  have K1 := Lib.hid k1
  have B1 := Lib.hid b1
  clear hl hS hP hb hw1 k1 b1 hM hms
  go_enter Try.func7, Try.ntmps7
  go_upto_region 1 with fail
  rw [← HBB.out, ← HW1.out]
  go_wp2_with fail
  (with_reducible refine (KA _).mono ?_)
  rintro e w2 ⟨rfl, b2⟩
  have K2 := Lib.hid ((b2.block b (Array.getElem?_eq_some_iff.1 K1.out).1).trans K1.out)
  have B2 := Lib.hid (B1.out.trans (b2.mono B1.out.size))
  obtain ⟨c0, c1, c2, c3, c4, c5, c6, c7, c8⟩ := cells9M K2.out
  clear KA b2
  by_cases hp7 : (700 : Int) < (pn : Int)
  · go_wp2
    go_ret
    exact ⟨rfl, B2.out⟩
  have hpn : pn ≤ 100000 := by omega
  have KC := copyRecord_any k key N c s t d sa sn sc sum pa pn pc P w2 (HS.out.below B2.out) (HP.out.below B2.out) hpn
  go_wp2_with fail
  (with_reducible refine KC.mono ?_)
  rintro e w3 ⟨a, cp, a', c', P', rfl, s3, p3, hSame, b3⟩
  have hsl : sum.length = sn := HS.out.length
  obtain ⟨R, hR⟩ : ∃ R, R = rightB k key N c s t d sn P pn := ⟨_, rfl⟩
  have KE := enc_is k key N c s t d sn sum pn P P' hsl (fun i hi => (HL.out i hi).1) hpn hSame R hR a cp a' c' w3 s3 p3
  have HR := Lib.hid hR
  have HSL := Lib.hid hsl
  have K3 := Lib.hid ((b3.block b (Array.getElem?_eq_some_iff.1 K2.out).1).trans K2.out)
  have B3 := Lib.hid (B2.out.trans (b3.mono B2.out.size))
  clear c0 c1 c2 c3 c4 c5 c6 c7 c8 KC hSame s3 p3 b3 hR hsl
  cases R
  · simp only [Bool.false_eq_true, if_false] at KE
    go_wp2_with fail
    (with_reducible refine KE.mono ?_)
    rintro e w4 ⟨a5, n5, c5, rfl, o5, b5⟩
    have h0 : n5 = 0 := by have := o5.length; simpa using this.symm
    subst h0
    have B4 := Lib.hid (B3.out.trans (b5.mono B3.out.size))
    clear KE o5 b5
    go_wp2
    go_ret
    exact ⟨rfl, B4.out⟩
  simp only [if_true] at KE
  obtain ⟨E, hE⟩ : ∃ O, O = encL k key N c s t d sum P pn := ⟨_, rfl⟩
  rw [← hE] at KE
  have HE := Lib.hid hE
  have HEB := Lib.hid (show Bytes E from by rw [hE]; exact encL_bytes HS.out.bytes (fun i hi => (HL.out i hi).2))
  have HEL := Lib.hid (show E.length ≤ 1000000 from by
    have F := right_facts HR.out.symm
    have r := placesL_le (P := P) pn (fun i hi => by rw [(HL.out i hi).1]; exact (F.pl i hi).2.2.2.2.2.2)
    have h1 := F.ks
    have h2 := F.sn32
    have h3 := HSL.out
    rw [hE]
    unfold encL headL
    simp only [List.length_append, numL, numTo_len, keyL_len, List.length_nil]
    omega)
  have HYES := Lib.hid (show decOk E = true from by rw [hE]; exact dec_yes (by rw [HSL.out]; exact HR.out.symm) (fun i hi => (HL.out i hi).1))
  clear hE
  go_wp2_with fail
  (with_reducible refine KE.mono ?_)
  rintro e w4 ⟨a5, n5, c5, rfl, o5, b5⟩
  have hn5 : E.length = n5 := o5.length
  have O4 := Lib.hid o5
  have K4 := Lib.hid ((b5.block b (Array.getElem?_eq_some_iff.1 K3.out).1).trans K3.out)
  have B4 := Lib.hid (B3.out.trans (b5.mono B3.out.size))
  have HN5 := Lib.hid hn5
  have hc5 : n5 ≤ c5 := o5.cap
  have KC := copyBytes_any a5 n5 c5 E w4 o5
  clear KE o5 b5 hn5
  go_wp2_with fail
  (with_reducible refine KC.mono ?_)
  rintro e w5 ⟨a6, c6, rfl, o6, b6⟩
  rw [HN5.out] at o6 ⊢
  have KD := decode_is a6 n5 c6 E w5 (bytesV_of_owns o6 HEB.out (by have := HEL.out; have := HN5.out; omega)).r
  have K5 := Lib.hid ((b6.block b (Array.getElem?_eq_some_iff.1 K4.out).1).trans K4.out)
  have B5 := Lib.hid (B4.out.trans (b6.mono B4.out.size))
  have O5 := Lib.hid (O4.out.below b6)
  clear KC o6 b6
  go_wp2_with fail
  (with_reducible refine KD.mono ?_)
  intro e w6 hD
  rw [HE.out] at hD
  obtain ⟨b7, ta, tc, qa, qc, Q, rfl, s7, p7, m7⟩ := dec_gives_yes (by rw [HSL.out]; exact HR.out.symm) (fun i hi => (HL.out i hi).1) hD
  rw [HSL.out] at s7 ⊢
  clear hD KD
  obtain ⟨r, hr⟩ : ∃ q, q = w6.heap.size := ⟨_, rfl⟩
  obtain ⟨w7, hw7⟩ : ∃ x, x = w6.alloc (.cells #[.int .i64 k, .string key, .int .i64 N, .int .i64 c, .int .i64 s, .int .i64 t, .bool d, .slice ta sn tc, .slice qa pn qc] RT9) := ⟨_, rfl⟩
  have b8 : Below w6.heap.size w6 w7 := by rw [hw7]; exact below_alloc w6 _
  have k8 : w7.heap[r]? = some (.cells #[.int .i64 k, .string key, .int .i64 N, .int .i64 c, .int .i64 s, .int .i64 t, .bool d, .slice ta sn tc, .slice qa pn qc] RT9 (0, 0)) := by rw [hw7, hr]; exact heap_alloc_new w6 _
  have b57 := b7.trans (b8.mono b7.size)
  have K7 := Lib.hid k8
  have J7 := Lib.hid ((b57.block b (Array.getElem?_eq_some_iff.1 K5.out).1).trans K5.out)
  have B7 := Lib.hid (B5.out.trans (b57.mono B5.out.size))
  have O7 := Lib.hid (O5.out.below b57)
  have KX := sameRecord_self k key N c s t d ta tc sa sn sc sum qa pn qc Q pa pc P w7 (s7.below b8) (HS.out.below B7.out) (p7.below b8) (HP.out.below B7.out) m7 hpn
  have HW7 := Lib.hid hw7
  have HRR := Lib.hid hr
  clear b7 s7 p7 m7 b57 b8 k8 hr hw7
  go_upto_region 9 with fail
  rw [← HRR.out, ← HW7.out]
  obtain ⟨c0, c1, c2, c3, c4, c5', c6', c7, c8⟩ := cells9M J7.out
  obtain ⟨d0, d1, d2, d3, d4, d5, d6, d7, d8⟩ := cells9M K7.out
  go_wp2_with fail
  (with_reducible refine KX.mono ?_)
  rintro e w8 ⟨rfl, b8⟩
  have B8 := Lib.hid (B7.out.trans (b8.mono B7.out.size))
  have O8 := Lib.hid (O7.out.below b8)
  clear c0 c1 c2 c3 c4 c5' c6' c7 c8 d0 d1 d2 d3 d4 d5 d6 d7 d8 b8 KX
  obtain ⟨i0, hi0, hz0, hz1, hz2⟩ := info_parts Try.info5
  have hwl : w8.heap.size ≤ w8.heap.size := Nat.le_refl _
  clear hwl
  by_cases h0 : 0 ≤ at_
  · by_cases h1 : at_ < (n5 : Int)
    · obtain ⟨m, rfl⟩ : ∃ m : Nat, at_ = (m : Int) := ⟨at_.toNat, by omega⟩
      have hm5 : m < n5 := by omega
      have hmc : (m : Int) ≤ (c5 : Int) := by omega
      have KC2 := copyBytes_any a5 m c5 (E.take m) w8 (bytesV_takeB O8.out (by omega))
      have htl : (E.take m).length = m := by rw [List.length_take, HN5.out]; omega
      obtain ⟨E2, hE2⟩ : ∃ x, x = E.take m := ⟨_, rfl⟩
      rw [← hE2] at KC2
      have HNO := Lib.hid (show decOk E2 = false from by rw [hE2]; exact dec_cut HYES.out (by rw [HN5.out]; exact hm5))
      have HB2 := Lib.hid (show Bytes E2 from by rw [hE2]; exact fun x hx => HEB.out x (List.mem_of_mem_take hx))
      have HL2 := Lib.hid (show E2.length = m from by rw [hE2]; exact htl)
      clear htl hE2
      go_wp2_with fail
      (with_reducible refine KC2.mono ?_)
      rintro e v1 ⟨x1, y1, rfl, o1, e1⟩
      rw [HL2.out] at o1 ⊢
      have KD2 := decode_is x1 m y1 E2 v1 (bytesV_of_owns o1 HB2.out (by have := HEL.out; have := HN5.out; omega)).r
      have BV1 := Lib.hid (B8.out.trans (e1.mono B8.out.size))
      have OV1 := Lib.hid (O8.out.below e1)
      clear KC2 o1 e1
      go_wp2_with fail
      (with_reducible refine KD2.mono ?_)
      intro e w9 hD
      obtain ⟨e2, cs, rfl⟩ := dec_code hD
      rw [if_neg (by rw [HNO.out]; decide)]
      have B9 := Lib.hid (BV1.out.trans (e2.mono BV1.out.size))
      have O9 := Lib.hid (OV1.out.below e2)
      clear KD2 hD e2
      have KC3 := copyBytes_any a5 n5 c5 E w9 O9.out
      go_wp2_with fail
      (with_reducible refine KC3.mono ?_)
      rintro e v3 ⟨x3, y3, rfl, o3, e3⟩
      rw [HN5.out] at o3 ⊢
      have BV3 := Lib.hid (B9.out.trans (e3.mono B9.out.size))
      have hb3 : w9.heap.size ≤ v3.heap.size := e3.size
      have hM3 := HM.out.below BV3.out
      have hsz : n5 + mn ≤ 150000000000000 := by have := HEL.out; have := HN5.out; have := HMS.out; omega
      have OW := Lib.hid o3
      clear KC3 o3 e3
      go_wp2_with (first | (at_builtin; refine Hid.out ?_))
      refine Lib.hid ?_
      refine wpList_append_row_wide rfl _ _ 32 rfl w9.heap.size 5 i0 (.int .u8 0) Try.underlying32 hi0 hz0 hz1 hz2 rfl (.slice x3 n5 y3) n5 (E.map bv) rfl OW.out ma mn mc (ml.map bv) rfl hM3.row hM3.nil (bv_one ml) hsz hb3 ?_
      intro v' w10 hown hgr
      have B10 := Lib.hid (BV3.out.grown hgr BV3.out.size (fun k hk => Nat.le_trans B9.out.size (ownBlock_ge OW.out k hk)))
      obtain ⟨x4, y4, rfl, h4, h5, h6, h7⟩ := ownsRow_parts hown
      rw [← List.map_append] at hown h7
      have hml : ml.length = mn := HM.out.length
      have hR4 : BytesR w10 (x4, n5 + mn, y4) (E ++ ml) := ⟨h7, fun x hx => (List.mem_append.1 hx).elim (HEB.out x) (HM.out.bytes x), by simp only; omega, h5, fun e => by
        rcases h4 with ⟨-, -, h⟩ | ⟨g, h, -⟩
        · exact h
        · rw [h] at e; cases e⟩
      obtain ⟨nn, hnn⟩ : ∃ n, n = n5 + mn := ⟨_, rfl⟩
      rw [← hnn] at hR4 ⊢
      have KD3 := decode_is x4 nn y4 (E ++ ml) w10 hR4
      have HO := Lib.hid (dec_only (x := ml) HYES.out)
      have HML := Lib.hid hml
      clear hown hgr h4 h5 h6 h7 hml hR4 hM3 hsz hb3 hnn
      go_wp2_with fail
      (with_reducible refine KD3.mono ?_)
      intro e w11 hD
      obtain ⟨e4, cs, rfl⟩ := dec_code hD
      have B11 := Lib.hid (B10.out.trans (e4.mono B10.out.size))
      clear KD3 hD e4
      by_cases hz : mn = 0
      · have hk : decOk (E ++ ml) = true := HO.out.2 (List.eq_nil_of_length_eq_zero (by rw [HML.out]; exact hz))
        subst hz
        rw [if_pos hk]
        clear hk
        go_wp2
        go_ret
        exact ⟨rfl, B11.out⟩
      · have hk : ¬ decOk (E ++ ml) = true := fun h => hz (by rw [← HML.out, HO.out.1 h]; rfl)
        rw [if_neg hk]
        have hz2' : ((mn : Int) == 0) = false := beq_eq_false_iff_ne.2 (by omega)
        clear hk
        go_wp2
        go_ret
        exact ⟨rfl, B11.out⟩
    · have KC3 := copyBytes_any a5 n5 c5 E w8 O8.out
      go_wp2_with fail
      (with_reducible refine KC3.mono ?_)
      rintro e v3 ⟨x3, y3, rfl, o3, e3⟩
      rw [HN5.out] at o3 ⊢
      have BV3 := Lib.hid (B8.out.trans (e3.mono B8.out.size))
      have hb3 : w8.heap.size ≤ v3.heap.size := e3.size
      have hM3 := HM.out.below BV3.out
      have hsz : n5 + mn ≤ 150000000000000 := by have := HEL.out; have := HN5.out; have := HMS.out; omega
      have OW := Lib.hid o3
      clear KC3 o3 e3
      go_wp2_with (first | (at_builtin; refine Hid.out ?_))
      refine Lib.hid ?_
      refine wpList_append_row_wide rfl _ _ 32 rfl w8.heap.size 5 i0 (.int .u8 0) Try.underlying32 hi0 hz0 hz1 hz2 rfl (.slice x3 n5 y3) n5 (E.map bv) rfl OW.out ma mn mc (ml.map bv) rfl hM3.row hM3.nil (bv_one ml) hsz hb3 ?_
      intro v' w10 hown hgr
      have B10 := Lib.hid (BV3.out.grown hgr BV3.out.size (fun k hk => Nat.le_trans B8.out.size (ownBlock_ge OW.out k hk)))
      obtain ⟨x4, y4, rfl, h4, h5, h6, h7⟩ := ownsRow_parts hown
      rw [← List.map_append] at hown h7
      have hml : ml.length = mn := HM.out.length
      have hR4 : BytesR w10 (x4, n5 + mn, y4) (E ++ ml) := ⟨h7, fun x hx => (List.mem_append.1 hx).elim (HEB.out x) (HM.out.bytes x), by simp only; omega, h5, fun e => by
        rcases h4 with ⟨-, -, h⟩ | ⟨g, h, -⟩
        · exact h
        · rw [h] at e; cases e⟩
      obtain ⟨nn, hnn⟩ : ∃ n, n = n5 + mn := ⟨_, rfl⟩
      rw [← hnn] at hR4 ⊢
      have KD3 := decode_is x4 nn y4 (E ++ ml) w10 hR4
      have HO := Lib.hid (dec_only (x := ml) HYES.out)
      have HML := Lib.hid hml
      clear hown hgr h4 h5 h6 h7 hml hR4 hM3 hsz hb3 hnn
      go_wp2_with fail
      (with_reducible refine KD3.mono ?_)
      intro e w11 hD
      obtain ⟨e4, cs, rfl⟩ := dec_code hD
      have B11 := Lib.hid (B10.out.trans (e4.mono B10.out.size))
      clear KD3 hD e4
      by_cases hz : mn = 0
      · have hk : decOk (E ++ ml) = true := HO.out.2 (List.eq_nil_of_length_eq_zero (by rw [HML.out]; exact hz))
        subst hz
        rw [if_pos hk]
        clear hk
        go_wp2
        go_ret
        exact ⟨rfl, B11.out⟩
      · have hk : ¬ decOk (E ++ ml) = true := fun h => hz (by rw [← HML.out, HO.out.1 h]; rfl)
        rw [if_neg hk]
        have hz2' : ((mn : Int) == 0) = false := beq_eq_false_iff_ne.2 (by omega)
        clear hk
        go_wp2
        go_ret
        exact ⟨rfl, B11.out⟩
  · have KC3 := copyBytes_any a5 n5 c5 E w8 O8.out
    go_wp2_with fail
    (with_reducible refine KC3.mono ?_)
    rintro e v3 ⟨x3, y3, rfl, o3, e3⟩
    rw [HN5.out] at o3 ⊢
    have BV3 := Lib.hid (B8.out.trans (e3.mono B8.out.size))
    have hb3 : w8.heap.size ≤ v3.heap.size := e3.size
    have hM3 := HM.out.below BV3.out
    have hsz : n5 + mn ≤ 150000000000000 := by have := HEL.out; have := HN5.out; have := HMS.out; omega
    have OW := Lib.hid o3
    clear KC3 o3 e3
    go_wp2_with (first | (at_builtin; refine Hid.out ?_))
    refine Lib.hid ?_
    refine wpList_append_row_wide rfl _ _ 32 rfl w8.heap.size 5 i0 (.int .u8 0) Try.underlying32 hi0 hz0 hz1 hz2 rfl (.slice x3 n5 y3) n5 (E.map bv) rfl OW.out ma mn mc (ml.map bv) rfl hM3.row hM3.nil (bv_one ml) hsz hb3 ?_
    intro v' w10 hown hgr
    have B10 := Lib.hid (BV3.out.grown hgr BV3.out.size (fun k hk => Nat.le_trans B8.out.size (ownBlock_ge OW.out k hk)))
    obtain ⟨x4, y4, rfl, h4, h5, h6, h7⟩ := ownsRow_parts hown
    rw [← List.map_append] at hown h7
    have hml : ml.length = mn := HM.out.length
    have hR4 : BytesR w10 (x4, n5 + mn, y4) (E ++ ml) := ⟨h7, fun x hx => (List.mem_append.1 hx).elim (HEB.out x) (HM.out.bytes x), by simp only; omega, h5, fun e => by
      rcases h4 with ⟨-, -, h⟩ | ⟨g, h, -⟩
      · exact h
      · rw [h] at e; cases e⟩
    obtain ⟨nn, hnn⟩ : ∃ n, n = n5 + mn := ⟨_, rfl⟩
    rw [← hnn] at hR4 ⊢
    have KD3 := decode_is x4 nn y4 (E ++ ml) w10 hR4
    have HO := Lib.hid (dec_only (x := ml) HYES.out)
    have HML := Lib.hid hml
    clear hown hgr h4 h5 h6 h7 hml hR4 hM3 hsz hb3 hnn
    go_wp2_with fail
    (with_reducible refine KD3.mono ?_)
    intro e w11 hD
    obtain ⟨e4, cs, rfl⟩ := dec_code hD
    have B11 := Lib.hid (B10.out.trans (e4.mono B10.out.size))
    clear KD3 hD e4
    by_cases hz : mn = 0
    · have hk : decOk (E ++ ml) = true := HO.out.2 (List.eq_nil_of_length_eq_zero (by rw [HML.out]; exact hz))
      subst hz
      rw [if_pos hk]
      clear hk
      go_wp2
      go_ret
      exact ⟨rfl, B11.out⟩
    · have hk : ¬ decOk (E ++ ml) = true := fun h => hz (by rw [← HML.out, HO.out.1 h]; rfl)
      rw [if_neg hk]
      have hz2' : ((mn : Int) == 0) = false := beq_eq_false_iff_ne.2 (by omega)
      clear hk
      go_wp2
      go_ret
      exact ⟨rfl, B11.out⟩
end Go.Proofs.Ytikjcmijmhmilaa
