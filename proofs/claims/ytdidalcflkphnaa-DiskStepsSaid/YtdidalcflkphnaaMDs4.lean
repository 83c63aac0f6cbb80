/-
  Ds4: DjP DjQ DjR DjS
-/
import Derived.Test.YtdidalcflkphnaaMDjO
namespace Go.Proofs.Ytdidalcflkphnaa
open Go.RowKit

set_option maxRecDepth 100000 in
set_option maxHeartbeats 4000000 in
theorem draw_any (h : RefH) (w : World) (hr : h.pow ≤ 9223372036854775807) :
    Calls Try.prog 48 #[h.v] w fun e w' => e = .returned (.tuple #[({ h with pow := (spendV h.pow).1 } : RefH).v, .bool (decide (h.pow ≠ 0))]) ∧ Below w.heap.size w w' := by
  obtain ⟨p, sa, laid, ba, mo, st, no, fr, op⟩ := h
  simp only at hr
  have K0 := Boxes.new w ⟨p, sa, laid, ba, mo, st, no, fr, op⟩
  unfold RefH.v RefH.cells
  by_cases h0 : p = 0
  · subst h0
    go_enter Try.func48, Try.ntmps48
    go_wp2_with (first | ((with_reducible show wpList _ _ _ (⟨_, Op.store RT _ _, _, _, _, _⟩ :: _) _ _); refine Hid.out ?_))
    refine Lib.hid ?_
    refine wpList_store_B K0 rfl _ _ rfl ⟨0, sa, laid, ba, mo, st, no, fr, op⟩ rfl rfl ?_
    rintro w1 K1 -
    clear K0
    go_wp2
    refine bodyPost_ret (results_ref rfl K1 _ rfl) rfl ⟨rfl, K1.bel⟩
  · by_cases h1 : 0 < p
    · have hs : (spendV p).1 = p - 1 := by unfold spendV; rw [if_neg h0, if_pos h1]
      have hw : wrap64 (p - 1) = p - 1 := IntWalk.wrap64_in _ (by omega)
      have hb : (p == 0) = false := beq_eq_false_iff_ne.2 h0
      rw [hs, decide_eq_true h0]
      go_enter Try.func48, Try.ntmps48
      go_wp2_with (first | ((with_reducible show wpList _ _ _ (⟨_, Op.store RT _ _, _, _, _, _⟩ :: _) _ _); refine Hid.out ?_))
      refine Lib.hid ?_
      refine wpList_store_B (Boxes.new w ⟨p - 1, sa, laid, ba, mo, st, no, fr, op⟩) rfl _ _ rfl ⟨p - 1, sa, laid, ba, mo, st, no, fr, op⟩ rfl rfl ?_
      rintro w1 K1 -
      clear K0
      go_wp2
      refine bodyPost_ret (results_ref rfl K1 _ rfl) rfl ⟨rfl, K1.bel⟩
    · have hs : (spendV p).1 = p := by unfold spendV; rw [if_neg h0, if_neg h1]
      have hb : (p == 0) = false := beq_eq_false_iff_ne.2 h0
      rw [hs, decide_eq_true h0]
      go_enter Try.func48, Try.ntmps48
      go_wp2_with (first | ((with_reducible show wpList _ _ _ (⟨_, Op.store RT _ _, _, _, _, _⟩ :: _) _ _); refine Hid.out ?_))
      refine Lib.hid ?_
      refine wpList_store_B K0 rfl _ _ rfl ⟨p, sa, laid, ba, mo, st, no, fr, op⟩ rfl rfl ?_
      rintro w1 K1 -
      clear K0
      go_wp2
      refine bodyPost_ret (results_ref rfl K1 _ rfl) rfl ⟨rfl, K1.bel⟩
end Go.Proofs.Ytdidalcflkphnaa
namespace Go.Proofs.Ytdidalcflkphnaa
open Go.RowKit

/-- a slice that is only read, in a block of the set. -/
structure HdR (w : World) (R : Nat → Prop) (x : HdT) (vs : List Value) : Prop where
  row : RowV w x.1 x.2.1 vs
  inR : 0 < x.2.1 → ∀ a, x.1 = some a → R a.block
  cap : x.2.1 ≤ x.2.2
  nil : x.1 = none → x.2.2 = 0
theorem HdR.keep {w w' : World} {R G : Nat → Prop} {x : HdT} {vs : List Value} (h : HdR w R x vs) (hc : ChF G w w') (hn : ∀ b, R b → ¬ G b) : HdR w' R x vs :=
  ⟨h.row.kept' (fun h0 a ha => hc.block _ (h.row.lt h0 ha) (hn _ (h.inR h0 a ha))), h.inR, h.cap, h.nil⟩
theorem HdR.mono {w : World} {R R' : Nat → Prop} {x : HdT} {vs : List Value} (h : HdR w R x vs) (k : ∀ b, R b → R' b) : HdR w R' x vs := ⟨h.row, fun h0 a ha => k _ (h.inR h0 a ha), h.cap, h.nil⟩
structure ByR (w : World) (R : Nat → Prop) (x : HdT) (l : List Nat) : Prop where
  hd : HdR w R x (l.map bv)
  bytes : Bytes l
  small : l.length ≤ 1000000000
theorem ByR.keep {w w' : World} {R G : Nat → Prop} {x : HdT} {l : List Nat} (h : ByR w R x l) (hc : ChF G w w') (hn : ∀ b, R b → ¬ G b) : ByR w' R x l := ⟨h.hd.keep hc hn, h.bytes, h.small⟩
theorem ByR.mono {w : World} {R R' : Nat → Prop} {x : HdT} {l : List Nat} (h : ByR w R x l) (k : ∀ b, R b → R' b) : ByR w R' x l := ⟨h.hd.mono k, h.bytes, h.small⟩
theorem ByR.len {w : World} {R : Nat → Prop} {x : HdT} {l : List Nat} (h : ByR w R x l) : l.length = x.2.1 := by have := h.hd.row.1; simpa using this
theorem ByR.bv_ {w : World} {R : Nat → Prop} {x : HdT} {l : List Nat} (h : ByR w R x l) : BytesV w (x.1, x.2.1, x.2.2) l := ⟨h.hd.row, h.bytes, by have := h.len; have := h.small; simp only; omega, h.hd.cap, h.hd.nil⟩
theorem HdR.empty (w : World) (R : Nat → Prop) : HdR w R (none, 0, 0) [] := ⟨⟨rfl, fun h => absurd h (by simp)⟩, fun h => absurd h (by simp), Nat.le_refl _, fun _ => rfl⟩
theorem ByR.empty (w : World) (R : Nat → Prop) : ByR w R (none, 0, 0) [] := ⟨.empty w R, fun x hx => (nomatch hx), by simp⟩
theorem HdR.own {w : World} {R : Nat → Prop} {B n c : Nat} {T : TypeId} {a : Option Addr} {vs : List Value} (o : w.ownsRow B T 1 (.slice a n c) n vs) (hR : ∀ b, B ≤ b → b < w.heap.size → R b) : HdR w R (a, n, c) vs := by
  obtain ⟨ad, cap, e, hcs, hc, -, hr⟩ := ownsRow_parts o
  injection e with e1 e2 e3
  subst e1 e3
  refine ⟨hr, fun h0 x hx => ?_, hc, fun e => ?_⟩
  · simp only at hx
    rcases hcs with ⟨q, -⟩ | ⟨g, q, h1, h2⟩
    · rw [q] at hx; cases hx
    · rw [q] at hx; injection hx with hx; rw [← hx]; exact hR g h1 h2
  · simp only at e
    rcases hcs with ⟨-, -, q⟩ | ⟨g, q, -⟩
    · exact q
    · rw [q] at e; cases e
theorem ByR.own {w : World} {R : Nat → Prop} {B c : Nat} {a : Option Addr} {l : List Nat} (o : w.ownsRow B 5 1 (.slice a l.length c) l.length (l.map bv)) (hl : Bytes l) (hs : l.length ≤ 1000000000) (hR : ∀ b, B ≤ b → b < w.heap.size → R b) : ByR w R (a, l.length, c) l := ⟨.own o hR, hl, hs⟩
structure RowsR (w : World) (R : Nat → Prop) (x : HdT) (ls : List (List Nat)) : Prop where
  ex : ∃ hs : List HdT, HdR w R x (hs.map SV) ∧ hs.length = ls.length ∧ ∀ (i : Nat) y l, hs[i]? = some y → ls[i]? = some l → ByR w R y l
theorem RowsR.keep {w w' : World} {R G : Nat → Prop} {x : HdT} {ls : List (List Nat)} (h : RowsR w R x ls) (hc : ChF G w w') (hn : ∀ b, R b → ¬ G b) : RowsR w' R x ls := by
  obtain ⟨hs, h1, h2, h3⟩ := h.ex
  exact ⟨hs, h1.keep hc hn, h2, fun i y l a b => (h3 i y l a b).keep hc hn⟩
theorem RowsR.mono {w : World} {R R' : Nat → Prop} {x : HdT} {ls : List (List Nat)} (h : RowsR w R x ls) (k : ∀ b, R b → R' b) : RowsR w R' x ls := by
  obtain ⟨hs, h1, h2, h3⟩ := h.ex
  exact ⟨hs, h1.mono k, h2, fun i y l a b => (h3 i y l a b).mono k⟩
theorem RowsR.len {w : World} {R : Nat → Prop} {x : HdT} {ls : List (List Nat)} (h : RowsR w R x ls) : x.2.1 = ls.length := by
  obtain ⟨hs, h1, h2, -⟩ := h.ex
  have := h1.row.1
  simp at this; omega
def blV (w : World) (R : Nat → Prop) (h : RefH) (d : DV) (bl ml : List Nat) : Prop := ByR w R h.ba bl ∧ ByR w R h.mo ml ∧ d.read = (if d.laid = true then bl else d.safe) ++ ml ∧ d.base = (if d.laid = true then bl else d.safe).length
/-- the reference's disk is the disk d. -/
structure RefD (w : World) (R : Nat → Prop) (h : RefH) (d : DV) : Prop where
  pow : h.pow = d.pow
  laid : h.laid = d.laid
  sa : ByR w R h.sa d.safe
  log : ∃ bl ml, blV w R h d bl ml
  st : RowsR w R h.st (d.sl.map (fun s => s.1))
  no : RowsR w R h.no (d.sl.map (fun s => s.2.1))
  fr : HdR w R h.fr (d.sl.map (fun s => Value.bool s.2.2))
  still : ∀ s ∈ d.sl, s.2.2 = false → s.1 = s.2.1
  lt : ∀ b, R b → b < w.heap.size
theorem RefD.keep {w w' : World} {R G : Nat → Prop} {h : RefH} {d : DV} (k : RefD w R h d) (hc : ChF G w w') (hn : ∀ b, R b → ¬ G b) : RefD w' R h d := by
  obtain ⟨bl, ml, h1, h2, h3, h4⟩ := k.log
  exact ⟨k.pow, k.laid, k.sa.keep hc hn, ⟨bl, ml, h1.keep hc hn, h2.keep hc hn, h3, h4⟩, k.st.keep hc hn, k.no.keep hc hn, k.fr.keep hc hn, k.still, fun b hb => Nat.lt_of_lt_of_le (k.lt b hb) hc.size⟩
theorem RefD.below {w w' : World} {R : Nat → Prop} {h : RefH} {d : DV} (k : RefD w R h d) (hb : Below w.heap.size w w') : RefD w' R h d := k.keep (G := fun _ => False) (.of_below hb) (fun _ _ e => e)
theorem RefD.mono {w : World} {R R' : Nat → Prop} {h : RefH} {d : DV} (k : RefD w R h d) (hR : ∀ b, R b → R' b) (hl : ∀ b, R' b → b < w.heap.size) : RefD w R' h d := by
  obtain ⟨bl, ml, h1, h2, h3, h4⟩ := k.log
  exact ⟨k.pow, k.laid, k.sa.mono hR, ⟨bl, ml, h1.mono hR, h2.mono hR, h3, h4⟩, k.st.mono hR, k.no.mono hR, k.fr.mono hR, k.still, hl⟩
theorem RefD.gr {w w' : World} {R : Nat → Prop} {h : RefH} {d : DV} (k : RefD w R h d) (hb : Below w.heap.size w w') : RefD w' (Gr R w w') h d :=
  (k.below hb).mono (fun b q => .inl q) (fun b q => by
    have := hb.size
    rcases q with q | q
    · have := k.lt b q; omega
    · exact q.2)
/-- what a call of the reference gives. -/
def RefGives (R : Nat → Prop) (d' : DV) (err : Int) (w : World) (e : Ending) (w' : World) : Prop := ∃ h' : RefH, e = .returned (.tuple #[h'.v, .int .i64 err]) ∧ RefD w' (Gr R w w') h' d' ∧ Below w.heap.size w w'
end Go.Proofs.Ytdidalcflkphnaa
namespace Go.Proofs.Ytdidalcflkphnaa
open Go.RowKit

theorem spend_eq {p : Int} (h : p ≠ 0) : (spendV p).2 = 0 := spend_ok h
set_option maxRecDepth 100000 in
set_option maxHeartbeats 4000000 in
theorem refApp_any (R : Nat → Prop) (h : RefH) (d : DV) (ba : Option Addr) (bn bc : Nat) (l : List Nat) (w : World) (k : RefD w R h d) (hb : BytesV w (ba, bn, bc) l) (hs : d.read.length + l.length ≤ 1000000000) (hp : d.pow ≤ 9223372036854775807) :
    Calls Try.prog 31 #[h.v, .slice ba bn bc] w (RefGives R (appV d l).1 (appV d l).2 w) := by
  obtain ⟨i0, hi, hz0, hz1, hz2⟩ := info_parts Try.info5
  obtain rfl : l.length = bn := hb.length
  obtain ⟨p, ⟨sa1, sa2, sa3⟩, laid, ⟨ba1, ba2, ba3⟩, ⟨mo1, mo2, mo3⟩, ⟨st1, st2, st3⟩, ⟨no1, no2, no3⟩, ⟨fr1, fr2, fr3⟩, op⟩ := h
  have hpw : p = d.pow := k.pow
  have K0 := Boxes.new w ⟨p, (sa1, sa2, sa3), laid, (ba1, ba2, ba3), (mo1, mo2, mo3), (st1, st2, st3), (no1, no2, no3), (fr1, fr2, fr3), op⟩
  obtain ⟨P, hP⟩ : ∃ P, P = (spendV p).1 := ⟨_, rfl⟩
  have HK := Lib.hid k
  have HB := Lib.hid hb
  have HP := Lib.hid hP
  have HPW := Lib.hid hpw
  unfold RefH.v RefH.cells
  clear k hb hP hpw
  go_enter Try.func31, Try.ntmps31
  go_wp2_with fail
  refine (?_ : ∀ W, Boxes w W ⟨p, (sa1, sa2, sa3), laid, (ba1, ba2, ba3), (mo1, mo2, mo3), (st1, st2, st3), (no1, no2, no3), (fr1, fr2, fr3), op⟩ zH → Calls Try.prog _ _ W _) _ K0
  intro W K1
  clear K0
  have KD := draw_any ⟨p, (sa1, sa2, sa3), laid, (ba1, ba2, ba3), (mo1, mo2, mo3), (st1, st2, st3), (no1, no2, no3), (fr1, fr2, fr3), op⟩ W (by rw [HPW.out]; exact hp)
  unfold RefH.v RefH.cells at KD
  simp only at KD
  rw [← HP.out] at KD
  by_cases h0 : p = 0
  · rw [decide_eq_false (by simpa using h0)] at KD
    (with_reducible refine KD.mono ?_)
    rintro e w1 ⟨rfl, b1⟩
    have K2 := K1.below b1
    clear KD K1 b1
    go_wp2_with (first | ((with_reducible show wpList _ _ _ (⟨_, Op.store RT _ _, _, _, _, _⟩ :: _) _ _); refine Hid.out ?_))
    refine Lib.hid ?_
    refine wpList_store_A K2 rfl _ _ rfl ⟨P, (sa1, sa2, sa3), laid, (ba1, ba2, ba3), (mo1, mo2, mo3), (st1, st2, st3), (no1, no2, no3), (fr1, fr2, fr3), op⟩ rfl rfl ?_
    rintro w2 K3 -
    clear K2
    obtain ⟨⟨m0, m1, m2, m3, m4, m5, m6, m7, m8⟩, mF⟩ := cells9D K3.a
    simp only at m0 m1 m2 m3 m4 m5 m6 m7 m8
    go_wp2_with (first | ((with_reducible show wpList _ _ _ (⟨_, Op.store RT _ _, _, _, _, _⟩ :: _) _ _); refine Hid.out ?_))
    refine Lib.hid ?_
    refine wpList_store_B K3 rfl _ _ rfl ⟨P, (sa1, sa2, sa3), laid, (ba1, ba2, ba3), (mo1, mo2, mo3), (st1, st2, st3), (no1, no2, no3), (fr1, fr2, fr3), op⟩ rfl rfl ?_
    rintro w3 K4 -
    clear K3 m0 m1 m2 m3 m4 m5 m6 m7 m8 mF
    go_wp2
    have hv : appV d l = (d, 81) := by unfold appV; rw [if_pos (by rw [← HPW.out]; exact h0)]
    rw [hv]
    have hP0 : P = p := by rw [HP.out, h0]; rfl
    refine bodyPost_ret (results_ref rfl K4 _ rfl) rfl ⟨_, rfl, ?_, K4.bel⟩
    rw [hP0]
    exact HK.out.gr K4.bel
  · rw [decide_eq_true h0] at KD
    (with_reducible refine KD.mono ?_)
    rintro e w1 ⟨rfl, b1⟩
    have K2 := K1.below b1
    clear KD K1 b1
    go_wp2_with (first | ((with_reducible show wpList _ _ _ (⟨_, Op.store RT _ _, _, _, _, _⟩ :: _) _ _); refine Hid.out ?_))
    refine Lib.hid ?_
    refine wpList_store_A K2 rfl _ _ rfl ⟨P, (sa1, sa2, sa3), laid, (ba1, ba2, ba3), (mo1, mo2, mo3), (st1, st2, st3), (no1, no2, no3), (fr1, fr2, fr3), op⟩ rfl rfl ?_
    rintro w2 K3 -
    clear K2
    obtain ⟨⟨m0, m1, m2, m3, m4, m5, m6, m7, m8⟩, mF⟩ := cells9D K3.a
    simp only at m0 m1 m2 m3 m4 m5 m6 m7 m8
    have HZ := Lib.hid (show w.heap.size + 2 ≤ w2.heap.size from K3.sz)
    obtain ⟨bl, ml, hba, hmo, hrd, hbs⟩ := HK.out.log
    have hmo' := hmo.bv_.below K3.bel
    simp only at hmo'
    obtain rfl : ml.length = mo2 := hmo.len
    have KC := copyBytes_any mo1 ml.length mo3 ml w2 hmo'
    have hmb := hmo.bytes
    have hms : ml.length ≤ d.read.length := by rw [hrd]; simp
    have HRD := Lib.hid hrd
    have HBS := Lib.hid hbs
    have HBA := Lib.hid hba
    clear hmo hmo' hba hrd hbs
    go_wp2_with fail
    (with_reducible refine KC.mono ?_)
    rintro e w3 ⟨a5, c5, rfl, o5, b3⟩
    have K4 := K3.below b3
    have hbw := HB.out.below K4.bel
    clear KC K3 m0 m1 m2 m3 m4 m5 m6 m7 m8 mF
    obtain ⟨⟨m0, m1, m2, m3, m4, m5, m6, m7, m8⟩, mF⟩ := cells9D K4.a
    simp only at m0 m1 m2 m3 m4 m5 m6 m7 m8
    go_wp2_with (first | (at_builtin; refine Hid.out ?_))
    refine Lib.hid ?_
    refine wpList_append_row rfl _ _ 28 rfl w2.heap.size 5 i0 (.int .u8 0) 1 Try.underlying28 hi hz0 hz1 hz2 rfl _ _ _ rfl o5 ba l.length bc (l.map bv) rfl hbw.row hbw.nil (bv_one l) (by simp [maxLen]; omega) (by omega) b3.size ?_
    intro v' w4 hown4 hgrow4 hnil4
    obtain ⟨a6, c6, rfl, -, -⟩ := ownsRow_parts hown4
    have hc4 : ChF (fun q => w2.heap.size ≤ q) w3 w4 := .of_grown hgrow4 (fun q hq => (o5.lt q hq).1)
    have hz2w : w.heap.size + 2 ≤ w2.heap.size := HZ.out
    have hz23 : w2.heap.size ≤ w3.heap.size := b3.size
    have K5 : Boxes w w4 ⟨P, (sa1, sa2, sa3), laid, (ba1, ba2, ba3), (mo1, ml.length, mo3), (st1, st2, st3), (no1, no2, no3), (fr1, fr2, fr3), op⟩ zH := ⟨(hc4.block _ (by omega) (by omega)).trans K4.a, (hc4.block _ (by omega) (by omega)).trans K4.b, K4.bel.trans (hc4.below (B := w.heap.size) (fun q hq => by omega) (by omega))⟩
    have hmo4 : ByR w4 (fun q => w2.heap.size ≤ q ∧ q < w4.heap.size) (a6, (ml ++ l).length, c6) (ml ++ l) := by
      have q := hown4
      rw [← List.map_append, ← List.length_append] at q
      exact .own q (fun y hy => by
        rcases List.mem_append.1 hy with z | z
        · exact hmb y z
        · exact HB.out.bytes y z) (by simp; omega) (fun b h1 h2 => ⟨h1, h2⟩)
    rw [List.length_append] at hmo4
    have K6 := K5.cell (h' := ⟨P, (sa1, sa2, sa3), laid, (ba1, ba2, ba3), (a6, ml.length + l.length, c6), (st1, st2, st3), (no1, no2, no3), (fr1, fr2, fr3), op⟩) 4 (.slice a6 (ml.length + l.length) c6) rfl
    have HMO := Lib.hid hmo4
    have HZ4 := Lib.hid hc4.size
    clear m0 m1 m2 m3 m4 m5 m6 m7 m8 mF hown4 hgrow4 hnil4 hmo4 hc4 o5 hbw K4 hi
    obtain ⟨⟨m0, m1, m2, m3, m4, m5, m6, m7, m8⟩, mF⟩ := cells9D K5.a
    simp only at m0 m1 m2 m3 m4 m5 m6 m7 m8
    have mF4 := mF 4
    clear mF
    go_wp2_with (first | ((with_reducible show wpList _ _ _ (⟨_, Op.store RT _ _, _, _, _, _⟩ :: _) _ _); refine Hid.out ?_))
    refine Lib.hid ?_
    refine wpList_store_B K6 rfl _ _ rfl ⟨P, (sa1, sa2, sa3), laid, (ba1, ba2, ba3), (a6, ml.length + l.length, c6), (st1, st2, st3), (no1, no2, no3), (fr1, fr2, fr3), op⟩ rfl rfl ?_
    intro w7 K7 hc7
    have hc47 : ChF (BX w) w4 w7 := ((ChF.refl (BX w) w4).set (g := w.heap.size) (.inl (.inl rfl))).trans hc7 (fun _ q => .inl q)
    have HC7 := Lib.hid hc47
    clear K6 K5 hc7 hc47 m0 m1 m2 m3 m4 m5 m6 m7 m8 mF4
    go_wp2
    have hv : appV d l = ({ d with pow := P, read := d.read ++ l }, 0) := by unfold appV; rw [if_neg (by rw [← HPW.out]; exact h0), ← HPW.out, ← HP.out]
    rw [hv]
    have kG := HK.out.gr K7.bel
    have hs47 := HC7.out.size
    have hmo7 : ByR w7 (Gr R w w7) (a6, ml.length + l.length, c6) (ml ++ l) := (HMO.out.keep HC7.out (fun b q e => by rcases e with e | e <;> omega)).mono (fun b q => .inr ⟨by omega, by omega⟩)
    have hba7 : ByR w7 (Gr R w w7) (ba1, ba2, ba3) bl := (HBA.out.keep (G := fun _ => False) (.of_below K7.bel) (fun _ _ e => e)).mono (fun b q => .inl q)
    refine bodyPost_ret (results_ref rfl K7 _ rfl) rfl ⟨⟨P, (sa1, sa2, sa3), laid, (ba1, ba2, ba3), (a6, ml.length + l.length, c6), (st1, st2, st3), (no1, no2, no3), (fr1, fr2, fr3), op⟩, rfl, ⟨rfl, kG.laid, kG.sa, ⟨bl, ml ++ l, hba7, hmo7, ?_, HBS.out⟩, kG.st, kG.no, kG.fr, kG.still, kG.lt⟩, K7.bel⟩
    show d.read ++ l = (if d.laid = true then bl else d.safe) ++ (ml ++ l)
    rw [HRD.out, List.append_assoc]
end Go.Proofs.Ytdidalcflkphnaa
namespace Go.Proofs.Ytdidalcflkphnaa
open Go.RowKit

set_option maxRecDepth 100000 in
set_option maxHeartbeats 4000000 in
theorem refLog_any (R : Nat → Prop) (h : RefH) (d : DV) (w : World) (k : RefD w R h d) :
    Calls Try.prog 37 #[h.v] w (GivesBytes 5 w d.read) := by
  obtain ⟨i0, hi, hz0, hz1, hz2⟩ := info_parts Try.info5
  obtain ⟨p, ⟨sa1, sa2, sa3⟩, laid, ⟨ba1, ba2, ba3⟩, ⟨mo1, mo2, mo3⟩, ⟨st1, st2, st3⟩, ⟨no1, no2, no3⟩, ⟨fr1, fr2, fr3⟩, op⟩ := h
  obtain ⟨bl, ml, hba, hmo, hrd, hbs⟩ := k.log
  have hl : laid = d.laid := k.laid
  obtain rfl : d.safe.length = sa2 := k.sa.len
  obtain rfl : bl.length = ba2 := hba.len
  obtain rfl : ml.length = mo2 := hmo.len
  have hs1 := k.sa.small
  have hs2 := hba.small
  have hs3 := hmo.small
  have bt := below_alloc w (.cells (RefH.cells ⟨p, (sa1, d.safe.length, sa3), laid, (ba1, bl.length, ba3), (mo1, ml.length, mo3), (st1, st2, st3), (no1, no2, no3), (fr1, fr2, fr3), op⟩) RT)
  have KS := copyBytes_any sa1 d.safe.length sa3 d.safe _ (k.sa.bv_.below bt)
  have HSA := Lib.hid k.sa.bv_
  have HBA := Lib.hid hba.bv_
  have HMO := Lib.hid hmo.bv_
  have HBT := Lib.hid bt
  obtain ⟨t, ht⟩ : ∃ t, t = w.heap.size := ⟨_, rfl⟩
  have hcl : ∀ w', Below (w.alloc (.cells (RefH.cells ⟨p, (sa1, d.safe.length, sa3), laid, (ba1, bl.length, ba3), (mo1, ml.length, mo3), (st1, st2, st3), (no1, no2, no3), (fr1, fr2, fr3), op⟩) RT)).heap.size (w.alloc (.cells (RefH.cells ⟨p, (sa1, d.safe.length, sa3), laid, (ba1, bl.length, ba3), (mo1, ml.length, mo3), (st1, st2, st3), (no1, no2, no3), (fr1, fr2, fr3), op⟩) RT)) w' → w'.cell? ⟨w.heap.size, 2, none⟩ = some (.bool laid) ∧ w'.cell? ⟨w.heap.size, 3, none⟩ = some (.slice ba1 bl.length ba3) ∧ w'.cell? ⟨w.heap.size, 4, none⟩ = some (.slice mo1 ml.length mo3) := fun w' b => by
    have e := (b.block w.heap.size (by rw [alloc_sz]; omega)).trans (heap_alloc_self w _)
    obtain ⟨⟨-, -, q2, q3, q4, -⟩, -⟩ := cells9D e
    exact ⟨q2, q3, q4⟩
  have HCL := Lib.hid hcl
  have HRD := Lib.hid hrd
  have HL := Lib.hid hl
  unfold RefH.cells at KS
  simp only at KS
  unfold RefH.v RefH.cells
  clear k hba hmo bt hcl hrd hl ht hbs
  go_enter Try.func37, Try.ntmps37
  go_wp2_with fail
  (with_reducible refine KS.mono ?_)
  rintro e w1 ⟨a1, c1, rfl, o1, b1⟩
  obtain ⟨q2, q3, q4⟩ := HCL.out w1 b1
  have hB1 := HBT.out.trans (b1.mono HBT.out.size)
  have hzt : w.heap.size ≤ (w.alloc (.cells (RefH.cells ⟨p, (sa1, d.safe.length, sa3), laid, (ba1, bl.length, ba3), (mo1, ml.length, mo3), (st1, st2, st3), (no1, no2, no3), (fr1, fr2, fr3), op⟩) RT)).heap.size := HBT.out.size
  have o1' := ownsRow_base o1 hzt
  have HB1 := Lib.hid hB1
  clear KS
  by_cases hld : laid = true
  · subst hld
    have KB := copyBytes_any ba1 bl.length ba3 bl w1 (HBA.out.below hB1)
    go_wp2_with fail
    (with_reducible refine KB.mono ?_)
    rintro e w2 ⟨a2, c2, rfl, o2, b2⟩
    have hB2 := hB1.trans (b2.mono hB1.size)
    have m4 : w2.cell? ⟨w.heap.size, 4, none⟩ = some (.slice mo1 ml.length mo3) := by
      have e := (b2.block w.heap.size (World.block_lt_of_cell? w1 ⟨w.heap.size, 4, none⟩ q4))
      exact (World.cell?_of_block (w := w1) (w' := w2) (a := ⟨w.heap.size, 4, none⟩) e).trans q4
    have hm2 := HMO.out.below hB2
    have o2' := ownsRow_base o2 hB1.size
    clear KB q2 q3 q4 o1 o1' o2
    go_wp2_with (first | (at_builtin; refine Hid.out ?_))
    refine Lib.hid ?_
    refine wpList_append_row rfl _ _ 28 rfl w.heap.size 5 i0 (.int .u8 0) 1 Try.underlying28 hi hz0 hz1 hz2 rfl _ _ _ rfl o2' mo1 ml.length mo3 (ml.map bv) rfl hm2.row hm2.nil (bv_one ml) (by simp [maxLen]; omega) (by omega) hB2.size ?_
    intro v' w3 hown3 hgrow3 hnil3
    obtain ⟨a3, c3, rfl, -, -⟩ := ownsRow_parts hown3
    have hB3 := below_grown hB2 hgrow3 (ownBlock_ge o2')
    have he : d.read = bl ++ ml := by rw [HRD.out, ← HL.out, if_pos rfl]
    have HO := Lib.hid (show w3.ownsRow w.heap.size 5 1 (.slice a3 d.read.length c3) d.read.length (d.read.map bv) from by rw [he, List.length_append, List.map_append]; exact hown3)
    have hlen : bl.length + ml.length = d.read.length := by rw [he, List.length_append]
    rw [hlen]
    have HB3 := Lib.hid hB3
    clear hown3 hgrow3 hnil3 hlen he hB3 hB2 hB1 hm2 o2' m4 b2 b1
    go_wp2
    go_ret
    exact ⟨a3, c3, rfl, HO.out, HB3.out⟩
  · obtain rfl : laid = false := by simpa using hld
    have hm2 := HMO.out.below hB1
    go_wp2_with (first | (at_builtin; refine Hid.out ?_))
    refine Lib.hid ?_
    refine wpList_append_row rfl _ _ 28 rfl w.heap.size 5 i0 (.int .u8 0) 1 Try.underlying28 hi hz0 hz1 hz2 rfl _ _ _ rfl o1' mo1 ml.length mo3 (ml.map bv) rfl hm2.row hm2.nil (bv_one ml) (by simp [maxLen]; omega) (by omega) hB1.size ?_
    intro v' w3 hown3 hgrow3 hnil3
    obtain ⟨a3, c3, rfl, -, -⟩ := ownsRow_parts hown3
    have hB3 := below_grown hB1 hgrow3 (ownBlock_ge o1')
    have he : d.read = d.safe ++ ml := by rw [HRD.out, ← HL.out, if_neg (by simp)]
    have HO := Lib.hid (show w3.ownsRow w.heap.size 5 1 (.slice a3 d.read.length c3) d.read.length (d.read.map bv) from by rw [he, List.length_append, List.map_append]; exact hown3)
    have hlen : d.safe.length + ml.length = d.read.length := by rw [he, List.length_append]
    rw [hlen]
    have HB3 := Lib.hid hB3
    clear hown3 hgrow3 hnil3 hlen he hB3 hB1 hm2 o1 o1' q2 q3 q4 b1
    go_wp2
    go_ret
    exact ⟨a3, c3, rfl, HO.out, HB3.out⟩
end Go.Proofs.Ytdidalcflkphnaa
