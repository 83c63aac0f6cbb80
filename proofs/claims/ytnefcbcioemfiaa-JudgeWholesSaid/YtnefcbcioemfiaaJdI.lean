/-
  judge: acts in memory of one's own; newSearch.
-/
import Derived.Test.YtnefcbcioemfiaaJdH
namespace Go.Proofs.Ytnefcbcioemfiaa
open Go.RowKit Go.ChangeMaps Go.MapKept Go.WideShapes
open Go.Maps (Keyed IsMap)

abbrev YA : Type := ActR × SH3 × SH3 × SH3
def acells : List YA → List Value
  | [] => []
  | x :: xs => .int .i64 x.1.cl :: .int .i64 x.1.d :: .int .i64 x.1.st :: .int .i64 x.1.en :: .string x.1.key :: .slice x.2.1.1 x.2.1.2.1 x.2.1.2.2 :: .int .i64 x.1.rop :: .int .i64 x.1.rdo :: .string x.1.rkey :: .slice x.2.2.1.1 x.2.2.1.2.1 x.2.2.1.2.2 :: .int .i64 x.1.tn :: .int .i64 x.1.tc :: .int .i64 x.1.code :: .bool x.1.found :: .slice x.2.2.2.1 x.2.2.2.2.1 x.2.2.2.2.2 :: acells xs
theorem acells_length : ∀ xs : List YA, (acells xs).length = xs.length * 15
  | [] => rfl
  | x :: xs => by simp [acells, acells_length xs]; omega
theorem acells_append : ∀ xs ys : List YA, acells (xs ++ ys) = acells xs ++ acells ys
  | [], ys => rfl
  | x :: xs, ys => by simp [acells, acells_append xs ys]
theorem acells_one (xs : List YA) : ∀ u ∈ acells xs, u.oneCell' = true := by
  induction xs with
  | nil => intro u hu; cases hu
  | cons x xs ih =>
    intro u hu
    simp only [acells, List.mem_cons] at hu
    rcases hu with rfl | rfl | rfl | rfl | rfl | rfl | rfl | rfl | rfl | rfl | rfl | rfl | rfl | rfl | rfl | hu
    all_goals first | rfl | exact ih u hu
theorem acells_get (xs : List YA) : ∀ (i : Nat) (x : YA), xs[i]? = some x → (acells xs)[i * 15]? = some (.int .i64 x.1.cl) ∧ (acells xs)[i * 15 + 1]? = some (.int .i64 x.1.d) ∧ (acells xs)[i * 15 + 2]? = some (.int .i64 x.1.st) ∧ (acells xs)[i * 15 + 3]? = some (.int .i64 x.1.en) ∧ (acells xs)[i * 15 + 4]? = some (.string x.1.key) ∧ (acells xs)[i * 15 + 5]? = some (.slice x.2.1.1 x.2.1.2.1 x.2.1.2.2) ∧ (acells xs)[i * 15 + 6]? = some (.int .i64 x.1.rop) ∧ (acells xs)[i * 15 + 7]? = some (.int .i64 x.1.rdo) ∧ (acells xs)[i * 15 + 8]? = some (.string x.1.rkey) ∧ (acells xs)[i * 15 + 9]? = some (.slice x.2.2.1.1 x.2.2.1.2.1 x.2.2.1.2.2) ∧ (acells xs)[i * 15 + 10]? = some (.int .i64 x.1.tn) ∧ (acells xs)[i * 15 + 11]? = some (.int .i64 x.1.tc) ∧ (acells xs)[i * 15 + 12]? = some (.int .i64 x.1.code) ∧ (acells xs)[i * 15 + 13]? = some (.bool x.1.found) ∧ (acells xs)[i * 15 + 14]? = some (.slice x.2.2.2.1 x.2.2.2.2.1 x.2.2.2.2.2) := by
  induction xs with
  | nil => intro i x h; simp at h
  | cons y xs ih =>
    intro i x h
    cases i with
    | zero => simp at h; subst h; exact ⟨rfl, rfl, rfl, rfl, rfl, rfl, rfl, rfl, rfl, rfl, rfl, rfl, rfl, rfl, rfl⟩
    | succ i =>
      simp at h
      have := ih i x h
      rw [show (i + 1) * 15 = i * 15 + 15 by omega]
      exact this
theorem ainfo : (Try.prog.info? 45).map (fun i => (i.zero, i.size, i.bytes)) = some (some (.agg #[.int .i64 0, .int .i64 0, .int .i64 0, .int .i64 0, .string ⟨#[]⟩, .slice none 0 0, .int .i64 0, .int .i64 0, .string ⟨#[]⟩, .slice none 0 0, .int .i64 0, .int .i64 0, .int .i64 0, .bool false, .slice none 0 0]), 15, 184) := by kernel_rfl
def ofB (a : Option Addr) : Option Nat := (Value.slice a 0 0).ownBlock
theorem ofB_eq (a : Option Addr) (n c : Nat) : (Value.slice a n c).ownBlock = ofB a := by cases a <;> rfl
/-- a header leads elsewhere. -/
def Far (a : Option Addr) (x : SH3) : Prop := 0 < x.2.1 → ∀ p, x.1 = some p → ofB a ≠ some p.block
/-- a header leads to new memory. -/
def HiB (B : Nat) (x : SH3) : Prop := 0 < x.2.1 → ∀ p, x.1 = some p → B ≤ p.block
structure OwA (w : World) (B : Nat) (a : Option Addr) (c : Nat) (ys : List YA) : Prop where
  own : w.ownsRow B ActT 15 (.slice a ys.length c) ys.length (acells ys)
  dig : ∀ x ∈ ys, ActS w x.1 x.2.1 x.2.2.1 x.2.2.2 ∧ Far a x.2.1 ∧ Far a x.2.2.1 ∧ Far a x.2.2.2
  hi : ∀ x ∈ ys, HiB B x.2.1 ∧ HiB B x.2.2.1 ∧ HiB B x.2.2.2
theorem OwA.nil (w : World) (B : Nat) : OwA w B none 0 [] := ⟨⟨rfl, .inl ⟨rfl, rfl⟩⟩, fun _ hx => (nomatch hx), fun _ hx => (nomatch hx)⟩
theorem OwA.made {w : World} {B : Nat} (hB : B ≤ w.heap.size) : OwA (w.alloc (.cells #[] ActT)) B (some ⟨w.heap.size, 0, none⟩) 0 [] :=
  ⟨World.ownsRow_made (base := B) (e := ActT) (size := 15) w #[] 0 hB (by simp [maxLen]) rfl, fun _ hx => (nomatch hx), fun _ hx => (nomatch hx)⟩
theorem own_belowJ {w w' : World} {B : Nat} {T : TypeId} {s n : Nat} {v : Value} {xs : List Value} (h : w.ownsRow B T s v n xs) (hb : Below w.heap.size w w') : w'.ownsRow B T s v n xs := by
  refine h.kept (row := none) (grownBy_of_below hb none) ?_
  cases hv : v.ownBlock with
  | none => left; rfl
  | some g => right; simp
theorem OwA.below {w w' : World} {B : Nat} {a : Option Addr} {c : Nat} {ys : List YA} (h : OwA w B a c ys) (hb : Below w.heap.size w w') : OwA w' B a c ys :=
  ⟨own_belowJ h.own hb, fun x hx => ⟨(h.dig x hx).1.below hb, (h.dig x hx).2⟩, h.hi⟩
theorem ownBlock_geJ {w : World} {base : Nat} {e : TypeId} {size : Nat} {v : Value} {n : Nat} {xs : List Value} (h : w.ownsRow base e size v n xs) : ∀ k, v.ownBlock = some k → base ≤ k := fun k hk => (h.lt k hk).1
theorem acts_of_own {w : World} {B : Nat} {a : Option Addr} {c : Nat} {ys : List YA} (ho : w.ownsRow B ActT 15 (.slice a ys.length c) ys.length (acells ys)) (hd : ∀ x ∈ ys, ActS w x.1 x.2.1 x.2.2.1 x.2.2.2) : ActsV w a ys.length (ys.map Prod.fst) := by
  refine ⟨by simp, fun i => ((ys[i]?).map Prod.snd).getD ((none, 0, 0), (none, 0, 0), (none, 0, 0)), fun h0 => ?_⟩
  rcases ho.2 with ⟨_, e⟩ | ⟨g, cap, cur, e, _, hg, _, _, _, ht⟩
  · omega
  · injection e with e1 e2 e3
    subst e1
    refine ⟨g, 0, rfl, (Array.getElem?_eq_some_iff.1 hg).1, fun i it hi => ?_⟩
    rw [List.getElem?_map] at hi
    obtain ⟨x, hx, rfl⟩ := Option.map_eq_some_iff.1 hi
    have hl : i < ys.length := (List.getElem?_eq_some_iff.1 hx).1
    have k := acells_get ys i x hx
    have q := fun j (hj : j < 15) => ho.cellAt (i * 15 + j) (by omega)
    simp only [Nat.zero_add, hx, Option.map_some, Option.getD_some]
    exact ⟨(q 0 (by omega)).trans k.1, (q 1 (by omega)).trans k.2.1, (q 2 (by omega)).trans k.2.2.1, (q 3 (by omega)).trans k.2.2.2.1, (q 4 (by omega)).trans k.2.2.2.2.1, (q 5 (by omega)).trans k.2.2.2.2.2.1, (q 6 (by omega)).trans k.2.2.2.2.2.2.1, (q 7 (by omega)).trans k.2.2.2.2.2.2.2.1, (q 8 (by omega)).trans k.2.2.2.2.2.2.2.2.1, (q 9 (by omega)).trans k.2.2.2.2.2.2.2.2.2.1, (q 10 (by omega)).trans k.2.2.2.2.2.2.2.2.2.2.1, (q 11 (by omega)).trans k.2.2.2.2.2.2.2.2.2.2.2.1, (q 12 (by omega)).trans k.2.2.2.2.2.2.2.2.2.2.2.2.1, (q 13 (by omega)).trans k.2.2.2.2.2.2.2.2.2.2.2.2.2.1, (q 14 (by omega)).trans k.2.2.2.2.2.2.2.2.2.2.2.2.2.2, hd x (List.mem_of_getElem? hx)⟩
theorem OwA.acts {w : World} {B : Nat} {a : Option Addr} {c : Nat} {ys : List YA} (h : OwA w B a c ys) : ActsV w a ys.length (ys.map Prod.fst) := acts_of_own h.own fun x hx => (h.dig x hx).1
theorem RowV.otherJ {w w' : World} {g : Nat} {ad : Option Addr} {n : Nat} {vs : List Value} (h : RowV w ad n vs) (hg : w.grownBy w' (some g)) (hne : 0 < n → ∀ p, ad = some p → p.block ≠ g) : RowV w' ad n vs :=
  h.kept' fun h0 p hp => hg.block p.block (h.lt h0 hp) (fun e => hne h0 p hp (by injection e))
theorem BytesV.otherJ {w w' : World} {g : Nat} {x : SH3} {l : List Nat} (h : BytesV w x l) (hg : w.grownBy w' (some g)) (hne : 0 < x.2.1 → ∀ p, x.1 = some p → p.block ≠ g) : BytesV w' x l := ⟨h.row.otherJ hg hne, h.bytes, h.small, h.cap, h.nil⟩
theorem TxV.otherJ {w w' : World} {g : Nat} {x : SH3} {l : List ByteArray} (h : TxV w x l) (hg : w.grownBy w' (some g)) (hne : 0 < x.2.1 → ∀ p, x.1 = some p → p.block ≠ g) : TxV w' x l := ⟨h.row.otherJ hg hne, h.small, h.cap, h.nil⟩
theorem ActS.otherJ {w w' : World} {A : ActR} {x y z : SH3} {a : Option Addr} (h : ActS w A x y z) (hg : w.grownBy w' (ofB a)) (h1 : Far a x) (h2 : Far a y) (h3 : Far a z) : ActS w' A x y z := by
  cases hb : ofB a with
  | none =>
    rw [hb] at hg
    have : Below w.heap.size w w' := ⟨hg.os, hg.tape, hg.output, hg.size, fun k hk => hg.block k hk (by simp)⟩
    exact h.below this
  | some g =>
    rw [hb] at hg
    refine ⟨h.v.otherJ hg fun h0 p hp e => h1 h0 p hp (by rw [hb, e]), h.r.otherJ hg fun h0 p hp e => h2 h0 p hp (by rw [hb, e]), h.k.otherJ hg fun h0 p hp e => h3 h0 p hp (by rw [hb, e])⟩
theorem far_low {a : Option Addr} {x : SH3} {l : Nat} (h : 0 < x.2.1 → ∀ p, x.1 = some p → p.block < l) (ha : ∀ g, ofB a = some g → l ≤ g) : Far a x := by
  intro h0 p hp e
  have h1 := h h0 p hp
  have h2 := ha _ e
  omega
/-- one more act. -/
theorem OwA.snoc {wm w' : World} {B : Nat} {a : Option Addr} {c : Nat} {ys : List YA} (h : OwA wm B a c ys) {A : ActR} {x y z : SH3} (hs : ActS wm A x y z) (f1 : Far a x) (f2 : Far a y) (f3 : Far a z) (hh : HiB B x ∧ HiB B y ∧ HiB B z) {g cap : Nat}
    (hE : w'.ownsRow B ActT 15 (.slice (some ⟨g, 0, none⟩) (ys.length + 1) cap) (ys.length + 1) (acells ys ++ [.int .i64 A.cl, .int .i64 A.d, .int .i64 A.st, .int .i64 A.en, .string A.key, .slice x.1 x.2.1 x.2.2, .int .i64 A.rop, .int .i64 A.rdo, .string A.rkey, .slice y.1 y.2.1 y.2.2, .int .i64 A.tn, .int .i64 A.tc, .int .i64 A.code, .bool A.found, .slice z.1 z.2.1 z.2.2])) (hg : wm.grownBy w' (Value.slice a ys.length c).ownBlock) (hl : (Value.slice a ys.length c).ownBlock = some g ∨ g = wm.heap.size) : OwA w' B (some ⟨g, 0, none⟩) cap (ys ++ [(A, x, y, z)]) := by
  rw [ofB_eq] at hg hl
  have far : ∀ {x : SH3} {vs : List Value}, RowV wm x.1 x.2.1 vs → Far a x → Far (some ⟨g, 0, none⟩) x := by
    intro x vs hr hf h0 p hp e
    have e2 : g = p.block := by simpa [ofB, Value.ownBlock] using e
    rcases hl with h1 | h1
    · exact hf h0 p hp (by rw [h1, e2])
    · have := hr.lt h0 hp
      omega
  refine ⟨by rw [List.length_append, acells_append]; exact hE, fun u hu => ?_, fun u hu => by rcases List.mem_append.1 hu with hu | hu; exact h.hi u hu; rw [List.mem_singleton] at hu; subst hu; exact hh⟩
  rcases List.mem_append.1 hu with hu | hu
  · obtain ⟨k0, k1, k2, k3⟩ := h.dig u hu
    exact ⟨k0.otherJ hg k1 k2 k3, far k0.v.row k1, far k0.r.row k2, far k0.k.row k3⟩
  · rw [List.mem_singleton] at hu
    subst hu
    exact ⟨hs.otherJ hg f1 f2 f3, far hs.v.row f1, far hs.r.row f2, far hs.k.row f3⟩
abbrev SrT : TypeId := 82
/-- newSearch's box while it is filled. -/
structure NewI (w W : World) (sb mb : Nat) (av : Option Addr) (cv : Nat) (ys : List YA) : Prop where
  box : W.heap[sb]? = some (.cells #[.slice av ys.length cv, .map (some mb)] SrT (0, 0))
  map : W.heap[mb]? = some (.map #[] 0)
  own : W.ownsRow (w.heap.size + 2) ActT 15 (.slice av ys.length cv) ys.length (acells ys)
  src : ∀ x ∈ ys, ActS w x.1 x.2.1 x.2.2.1 x.2.2.2
  low : Below w.heap.size w W
  big : w.heap.size + 2 ≤ W.heap.size
theorem NewI.drew {w W : World} {sb mb : Nat} {av : Option Addr} {cv : Nat} {ys : List YA} (h : NewI w W sb mb av cv ys) : NewI w W.drew sb mb av cv ys := ⟨h.box, h.map, own_belowJ h.own (Below.refl _ _).drew, h.src, h.low.drew, h.big⟩
set_option maxRecDepth 100000 in
set_option maxHeartbeats 8000000 in
theorem newSearch_any (aa : Option Addr) (an ac : Nat) (xs : List ActR) (pa : Option Addr) (pn pc : Nat) (P : List Nat) (w : World) (h : ActsV w aa an xs) (hP : IntsV w (pa, pn, pc) (cnL P)) (hp : ∀ p ∈ P, p < an) (h12 : P.length ≤ 12) :
    Calls Try.prog 42 #[.slice aa an ac, .slice pa pn pc] w fun e w' => ∃ sb mb a c, e = .returned (PTR sb) ∧ SrA w' sb a P.length c mb (P.map fun p => xs.getD p dAct) ∧ DeadM w' mb 0 (P.map fun p => xs.getD p dAct) ∧ Below w.heap.size w w' ∧ w.heap.size ≤ mb := by
  obtain ⟨i0, hi, hz0, hz1, hz2⟩ := info_parts ainfo
  have hpl : P.length = pn := by have := hP.length; simpa using this
  have hpc : pn ≤ pc := hP.cap
  have hpn0 : (0 : Int) ≤ (pn : Int) := by omega
  have hmm := @run_makeMap Try.prog
  rw [hpl] at h12 ⊢
  have H := Lib.hid h
  have HP := Lib.hid hP
  have HPP := Lib.hid hp
  have HPL := Lib.hid hpl
  have I1 : Hid (NewI w ((w.alloc (.map #[] 0)).alloc (.cells #[.slice none 0 0, .map (some w.heap.size)] SrT)) (w.heap.size + 1) w.heap.size none 0 []) := Lib.hid (by
    obtain ⟨h1, h2, h3⟩ := two_boxes w (.map #[] 0) (.cells #[.slice none 0 0, .map (some w.heap.size)] SrT)
    exact ⟨h2, h1, World.ownsRow_nil _ _ _ _, fun _ hx => (nomatch hx), h3, by simp⟩)
  obtain ⟨pt, hpt⟩ : ∃ p, p = pn := ⟨_, rfl⟩
  clear h hP hp hpl
  go_enter Try.func42, Try.ntmps42
  go_upto_region 2 with fail
  refine (?_ : ∀ W : World, Hid (NewI w W (w.heap.size + 1) w.heap.size none 0 []) → Code.wp Try.prog _ _ _ W) _ I1
  clear I1 hmm
  intro W I1
  go_wp2
  go_loopw [13] (fun v wr => ∃ (k : Nat) (av : Option Addr) (cv : Nat) (ys : List YA), k ≤ pn ∧ v = .int .i64 (k : Nat) ∧ Hid (ys.map Prod.fst = (P.take k).map fun p => xs.getD p dAct) ∧ Hid (ys.length = k) ∧ Hid (NewI w wr (w.heap.size + 1) w.heap.size av cv ys)) (fun v _ => pn - (intOf v).toNat)
  case atStart => exact ⟨0, none, 0, [], Nat.zero_le _, rfl, Lib.hid (by simp), Lib.hid rfl, I1⟩
  case round =>
    clear I1
    obtain ⟨k, av, cv, ys, hk, rfl, HM, HLN, HI⟩ := hrel
    by_cases hlt : k < pn
    · obtain ⟨pb, po, epa, hpc⟩ := (HP.out.below HI.out.low).row.2 (by simp only; omega)
      simp only at epa
      subst epa
      have hc := hpc k (by simp only; omega)
      have hkP : k < P.length := by have := HPL.out; omega
      obtain ⟨p, hpv⟩ : ∃ p, p = P[k] := ⟨_, rfl⟩
      have hcp : ((cnL P).map iv)[k]? = some (.int .i64 (p : Int)) := by rw [hpv]; simp [iv, hkP]
      rw [hcp] at hc
      have hpa : p < an := HPP.out p (by rw [hpv]; exact List.getElem_mem hkP)
      have hp0 : (0 : Int) ≤ (p : Int) := by omega
      have hp1 : (p : Int) < (an : Int) := by omega
      obtain ⟨b, o, A, x, y, z, eaa, hA1, hA, at0⟩ := H.out.at hpa
      have at1 := at0.below HI.out.low
      have HAT := Lib.hid at0.s
      obtain ⟨e00, e10, e20, e30, e40, e50, e60, e70, e80, e90, ea0, eb0, ec0, ed0, ee0, -⟩ := at0
      obtain ⟨e0, e1, e2, e3, e4, e5, e6, e7, e8, e9, ea, eb, ec, ed, ee, -⟩ := at1
      have q0 := cell_of_row _ _ 0 _ _ _ HI.out.box
      have f0 : wr.frozen? ⟨w.heap.size + 1, 0, none⟩ = false := frozen_of_row _ _ _ _ _ HI.out.box
      simp at q0
      have hlen := HLN.out
      rw [hlen] at q0
      have HA := Lib.hid hA
      have HPV := Lib.hid hpv
      subst eaa
      clear hcp hpc hpv hA1 hA hlen
      go_upto_region 5 with fail
      have P0 : wr.drew.cell? ⟨w.heap.size + 1, 0, none⟩ = some (.slice av k cv) ∧ wr.drew.cell? ⟨b, o + p * 15, none⟩ = some (.int .i64 A.cl) ∧ wr.drew.cell? ⟨b, o + p * 15 + 1, none⟩ = some (.int .i64 A.d) ∧ wr.drew.cell? ⟨b, o + p * 15 + 2, none⟩ = some (.int .i64 A.st) ∧ wr.drew.cell? ⟨b, o + p * 15 + 3, none⟩ = some (.int .i64 A.en) ∧ wr.drew.cell? ⟨b, o + p * 15 + 4, none⟩ = some (.string A.key) ∧ wr.drew.cell? ⟨b, o + p * 15 + 5, none⟩ = some (.slice x.1 x.2.1 x.2.2) ∧ wr.drew.cell? ⟨b, o + p * 15 + 6, none⟩ = some (.int .i64 A.rop) ∧ wr.drew.cell? ⟨b, o + p * 15 + 7, none⟩ = some (.int .i64 A.rdo) ∧ wr.drew.cell? ⟨b, o + p * 15 + 8, none⟩ = some (.string A.rkey) ∧ wr.drew.cell? ⟨b, o + p * 15 + 9, none⟩ = some (.slice y.1 y.2.1 y.2.2) ∧ wr.drew.cell? ⟨b, o + p * 15 + 10, none⟩ = some (.int .i64 A.tn) ∧ wr.drew.cell? ⟨b, o + p * 15 + 11, none⟩ = some (.int .i64 A.tc) ∧ wr.drew.cell? ⟨b, o + p * 15 + 12, none⟩ = some (.int .i64 A.code) ∧ wr.drew.cell? ⟨b, o + p * 15 + 13, none⟩ = some (.bool A.found) ∧ wr.drew.cell? ⟨b, o + p * 15 + 14, none⟩ = some (.slice z.1 z.2.1 z.2.2) := ⟨q0, e0, e1, e2, e3, e4, e5, e6, e7, e8, e9, ea, eb, ec, ed, ee⟩
      refine GoX.start 13 (fun w' => w'.cell? ⟨w.heap.size + 1, 0, none⟩ = some (.slice av k cv) ∧ w'.cell? ⟨b, o + p * 15, none⟩ = some (.int .i64 A.cl) ∧ w'.cell? ⟨b, o + p * 15 + 1, none⟩ = some (.int .i64 A.d) ∧ w'.cell? ⟨b, o + p * 15 + 2, none⟩ = some (.int .i64 A.st) ∧ w'.cell? ⟨b, o + p * 15 + 3, none⟩ = some (.int .i64 A.en) ∧ w'.cell? ⟨b, o + p * 15 + 4, none⟩ = some (.string A.key) ∧ w'.cell? ⟨b, o + p * 15 + 5, none⟩ = some (.slice x.1 x.2.1 x.2.2) ∧ w'.cell? ⟨b, o + p * 15 + 6, none⟩ = some (.int .i64 A.rop) ∧ w'.cell? ⟨b, o + p * 15 + 7, none⟩ = some (.int .i64 A.rdo) ∧ w'.cell? ⟨b, o + p * 15 + 8, none⟩ = some (.string A.rkey) ∧ w'.cell? ⟨b, o + p * 15 + 9, none⟩ = some (.slice y.1 y.2.1 y.2.2) ∧ w'.cell? ⟨b, o + p * 15 + 10, none⟩ = some (.int .i64 A.tn) ∧ w'.cell? ⟨b, o + p * 15 + 11, none⟩ = some (.int .i64 A.tc) ∧ w'.cell? ⟨b, o + p * 15 + 12, none⟩ = some (.int .i64 A.code) ∧ w'.cell? ⟨b, o + p * 15 + 13, none⟩ = some (.bool A.found) ∧ w'.cell? ⟨b, o + p * 15 + 14, none⟩ = some (.slice z.1 z.2.1 z.2.2)) (by kernel_rfl) ?_
      refine GoX.take 0 rfl (by kernel_rfl) (by kernel_rfl) (by rfl) (fun _ _ _ h => h) (v := ?tv0g23) P0 ?ty0g23 ?tr0g23
      case ty0g23 => (intro w hSw; (try dsimp only at hSw); go_simp; first | done | with_reducible rfl)
      simp only [Act.put, List.setIfInBounds_toArray, List.set_cons_zero, List.set_cons_succ]
      refine GoX.take 1 rfl (by kernel_rfl) (by kernel_rfl) (by rfl) (fun _ _ _ h => h) (v := ?tv1g24) P0 ?ty1g24 ?tr1g24
      case ty1g24 => (intro w hSw; (try dsimp only at hSw); go_simp; first | done | with_reducible rfl)
      simp only [Act.put, List.setIfInBounds_toArray, List.set_cons_zero, List.set_cons_succ]
      refine GoX.take 2 rfl (by kernel_rfl) (by kernel_rfl) (by rfl) (fun _ _ _ h => h) (v := ?tv2g25) P0 ?ty2g25 ?tr2g25
      case ty2g25 => (intro w hSw; (try dsimp only at hSw); go_simp; first | done | with_reducible rfl)
      simp only [Act.put, List.setIfInBounds_toArray, List.set_cons_zero, List.set_cons_succ]
      refine GoX.take 3 rfl (by kernel_rfl) (by kernel_rfl) (by rfl) (fun _ _ _ h => h) (v := ?tv3g26) P0 ?ty3g26 ?tr3g26
      case ty3g26 => (intro w hSw; (try dsimp only at hSw); go_simp; first | done | with_reducible rfl)
      simp only [Act.put, List.setIfInBounds_toArray, List.set_cons_zero, List.set_cons_succ]
      refine GoX.take 4 rfl (by kernel_rfl) (by kernel_rfl) (by rfl) (fun _ _ _ h => h) (v := ?tv4g27) P0 ?ty4g27 ?tr4g27
      case ty4g27 => (intro w hSw; (try dsimp only at hSw); go_simp; first | done | with_reducible rfl)
      simp only [Act.put, List.setIfInBounds_toArray, List.set_cons_zero, List.set_cons_succ]
      refine GoX.take 5 rfl (by kernel_rfl) (by kernel_rfl) (by rfl) (fun _ _ _ h => h) (v := ?tv5g28) P0 ?ty5g28 ?tr5g28
      case ty5g28 => (intro w hSw; (try dsimp only at hSw); go_simp; first | done | with_reducible rfl)
      simp only [Act.put, List.setIfInBounds_toArray, List.set_cons_zero, List.set_cons_succ]
      refine GoX.take 6 rfl (by kernel_rfl) (by kernel_rfl) (by rfl) (fun _ _ _ h => h) (v := ?tv6g29) P0 ?ty6g29 ?tr6g29
      case ty6g29 => (intro w hSw; (try dsimp only at hSw); go_simp; first | done | with_reducible rfl)
      simp only [Act.put, List.setIfInBounds_toArray, List.set_cons_zero, List.set_cons_succ]
      refine GoX.take 7 rfl (by kernel_rfl) (by kernel_rfl) (by rfl) (fun _ _ _ h => h) (v := ?tv7g30) P0 ?ty7g30 ?tr7g30
      case ty7g30 => (intro w hSw; (try dsimp only at hSw); go_simp; first | done | with_reducible rfl)
      simp only [Act.put, List.setIfInBounds_toArray, List.set_cons_zero, List.set_cons_succ]
      refine GoX.take 8 rfl (by kernel_rfl) (by kernel_rfl) (by rfl) (fun _ _ _ h => h) (v := ?tv8g31) P0 ?ty8g31 ?tr8g31
      case ty8g31 => (intro w hSw; (try dsimp only at hSw); go_simp; first | done | with_reducible rfl)
      simp only [Act.put, List.setIfInBounds_toArray, List.set_cons_zero, List.set_cons_succ]
      refine GoX.one 9 rfl (by kernel_rfl) (by decide) (fun K hK => ?_)
      rw [if_pos (by rfl)]
      go_simp
      have P1 : (wr.drew.alloc (.cells #[.int .i64 A.cl, .int .i64 A.d, .int .i64 A.st, .int .i64 A.en, .string A.key, .slice x.1 x.2.1 x.2.2, .int .i64 A.rop, .int .i64 A.rdo, .string A.rkey, .slice y.1 y.2.1 y.2.2, .int .i64 A.tn, .int .i64 A.tc, .int .i64 A.code, .bool A.found, .slice z.1 z.2.1 z.2.2] ActT)).cell? ⟨w.heap.size + 1, 0, none⟩ = some (.slice av k cv) ∧ (wr.drew.alloc (.cells #[.int .i64 A.cl, .int .i64 A.d, .int .i64 A.st, .int .i64 A.en, .string A.key, .slice x.1 x.2.1 x.2.2, .int .i64 A.rop, .int .i64 A.rdo, .string A.rkey, .slice y.1 y.2.1 y.2.2, .int .i64 A.tn, .int .i64 A.tc, .int .i64 A.code, .bool A.found, .slice z.1 z.2.1 z.2.2] ActT)).cell? ⟨b, o + p * 15, none⟩ = some (.int .i64 A.cl) ∧ (wr.drew.alloc (.cells #[.int .i64 A.cl, .int .i64 A.d, .int .i64 A.st, .int .i64 A.en, .string A.key, .slice x.1 x.2.1 x.2.2, .int .i64 A.rop, .int .i64 A.rdo, .string A.rkey, .slice y.1 y.2.1 y.2.2, .int .i64 A.tn, .int .i64 A.tc, .int .i64 A.code, .bool A.found, .slice z.1 z.2.1 z.2.2] ActT)).cell? ⟨b, o + p * 15 + 1, none⟩ = some (.int .i64 A.d) ∧ (wr.drew.alloc (.cells #[.int .i64 A.cl, .int .i64 A.d, .int .i64 A.st, .int .i64 A.en, .string A.key, .slice x.1 x.2.1 x.2.2, .int .i64 A.rop, .int .i64 A.rdo, .string A.rkey, .slice y.1 y.2.1 y.2.2, .int .i64 A.tn, .int .i64 A.tc, .int .i64 A.code, .bool A.found, .slice z.1 z.2.1 z.2.2] ActT)).cell? ⟨b, o + p * 15 + 2, none⟩ = some (.int .i64 A.st) ∧ (wr.drew.alloc (.cells #[.int .i64 A.cl, .int .i64 A.d, .int .i64 A.st, .int .i64 A.en, .string A.key, .slice x.1 x.2.1 x.2.2, .int .i64 A.rop, .int .i64 A.rdo, .string A.rkey, .slice y.1 y.2.1 y.2.2, .int .i64 A.tn, .int .i64 A.tc, .int .i64 A.code, .bool A.found, .slice z.1 z.2.1 z.2.2] ActT)).cell? ⟨b, o + p * 15 + 3, none⟩ = some (.int .i64 A.en) ∧ (wr.drew.alloc (.cells #[.int .i64 A.cl, .int .i64 A.d, .int .i64 A.st, .int .i64 A.en, .string A.key, .slice x.1 x.2.1 x.2.2, .int .i64 A.rop, .int .i64 A.rdo, .string A.rkey, .slice y.1 y.2.1 y.2.2, .int .i64 A.tn, .int .i64 A.tc, .int .i64 A.code, .bool A.found, .slice z.1 z.2.1 z.2.2] ActT)).cell? ⟨b, o + p * 15 + 4, none⟩ = some (.string A.key) ∧ (wr.drew.alloc (.cells #[.int .i64 A.cl, .int .i64 A.d, .int .i64 A.st, .int .i64 A.en, .string A.key, .slice x.1 x.2.1 x.2.2, .int .i64 A.rop, .int .i64 A.rdo, .string A.rkey, .slice y.1 y.2.1 y.2.2, .int .i64 A.tn, .int .i64 A.tc, .int .i64 A.code, .bool A.found, .slice z.1 z.2.1 z.2.2] ActT)).cell? ⟨b, o + p * 15 + 5, none⟩ = some (.slice x.1 x.2.1 x.2.2) ∧ (wr.drew.alloc (.cells #[.int .i64 A.cl, .int .i64 A.d, .int .i64 A.st, .int .i64 A.en, .string A.key, .slice x.1 x.2.1 x.2.2, .int .i64 A.rop, .int .i64 A.rdo, .string A.rkey, .slice y.1 y.2.1 y.2.2, .int .i64 A.tn, .int .i64 A.tc, .int .i64 A.code, .bool A.found, .slice z.1 z.2.1 z.2.2] ActT)).cell? ⟨b, o + p * 15 + 6, none⟩ = some (.int .i64 A.rop) ∧ (wr.drew.alloc (.cells #[.int .i64 A.cl, .int .i64 A.d, .int .i64 A.st, .int .i64 A.en, .string A.key, .slice x.1 x.2.1 x.2.2, .int .i64 A.rop, .int .i64 A.rdo, .string A.rkey, .slice y.1 y.2.1 y.2.2, .int .i64 A.tn, .int .i64 A.tc, .int .i64 A.code, .bool A.found, .slice z.1 z.2.1 z.2.2] ActT)).cell? ⟨b, o + p * 15 + 7, none⟩ = some (.int .i64 A.rdo) ∧ (wr.drew.alloc (.cells #[.int .i64 A.cl, .int .i64 A.d, .int .i64 A.st, .int .i64 A.en, .string A.key, .slice x.1 x.2.1 x.2.2, .int .i64 A.rop, .int .i64 A.rdo, .string A.rkey, .slice y.1 y.2.1 y.2.2, .int .i64 A.tn, .int .i64 A.tc, .int .i64 A.code, .bool A.found, .slice z.1 z.2.1 z.2.2] ActT)).cell? ⟨b, o + p * 15 + 8, none⟩ = some (.string A.rkey) ∧ (wr.drew.alloc (.cells #[.int .i64 A.cl, .int .i64 A.d, .int .i64 A.st, .int .i64 A.en, .string A.key, .slice x.1 x.2.1 x.2.2, .int .i64 A.rop, .int .i64 A.rdo, .string A.rkey, .slice y.1 y.2.1 y.2.2, .int .i64 A.tn, .int .i64 A.tc, .int .i64 A.code, .bool A.found, .slice z.1 z.2.1 z.2.2] ActT)).cell? ⟨b, o + p * 15 + 9, none⟩ = some (.slice y.1 y.2.1 y.2.2) ∧ (wr.drew.alloc (.cells #[.int .i64 A.cl, .int .i64 A.d, .int .i64 A.st, .int .i64 A.en, .string A.key, .slice x.1 x.2.1 x.2.2, .int .i64 A.rop, .int .i64 A.rdo, .string A.rkey, .slice y.1 y.2.1 y.2.2, .int .i64 A.tn, .int .i64 A.tc, .int .i64 A.code, .bool A.found, .slice z.1 z.2.1 z.2.2] ActT)).cell? ⟨b, o + p * 15 + 10, none⟩ = some (.int .i64 A.tn) ∧ (wr.drew.alloc (.cells #[.int .i64 A.cl, .int .i64 A.d, .int .i64 A.st, .int .i64 A.en, .string A.key, .slice x.1 x.2.1 x.2.2, .int .i64 A.rop, .int .i64 A.rdo, .string A.rkey, .slice y.1 y.2.1 y.2.2, .int .i64 A.tn, .int .i64 A.tc, .int .i64 A.code, .bool A.found, .slice z.1 z.2.1 z.2.2] ActT)).cell? ⟨b, o + p * 15 + 11, none⟩ = some (.int .i64 A.tc) ∧ (wr.drew.alloc (.cells #[.int .i64 A.cl, .int .i64 A.d, .int .i64 A.st, .int .i64 A.en, .string A.key, .slice x.1 x.2.1 x.2.2, .int .i64 A.rop, .int .i64 A.rdo, .string A.rkey, .slice y.1 y.2.1 y.2.2, .int .i64 A.tn, .int .i64 A.tc, .int .i64 A.code, .bool A.found, .slice z.1 z.2.1 z.2.2] ActT)).cell? ⟨b, o + p * 15 + 12, none⟩ = some (.int .i64 A.code) ∧ (wr.drew.alloc (.cells #[.int .i64 A.cl, .int .i64 A.d, .int .i64 A.st, .int .i64 A.en, .string A.key, .slice x.1 x.2.1 x.2.2, .int .i64 A.rop, .int .i64 A.rdo, .string A.rkey, .slice y.1 y.2.1 y.2.2, .int .i64 A.tn, .int .i64 A.tc, .int .i64 A.code, .bool A.found, .slice z.1 z.2.1 z.2.2] ActT)).cell? ⟨b, o + p * 15 + 13, none⟩ = some (.bool A.found) ∧ (wr.drew.alloc (.cells #[.int .i64 A.cl, .int .i64 A.d, .int .i64 A.st, .int .i64 A.en, .string A.key, .slice x.1 x.2.1 x.2.2, .int .i64 A.rop, .int .i64 A.rdo, .string A.rkey, .slice y.1 y.2.1 y.2.2, .int .i64 A.tn, .int .i64 A.tc, .int .i64 A.code, .bool A.found, .slice z.1 z.2.1 z.2.2] ActT)).cell? ⟨b, o + p * 15 + 14, none⟩ = some (.slice z.1 z.2.1 z.2.2) := ⟨cellBelow (w := wr.drew) q0 (below_alloc _ _), cellBelow (w := wr.drew) e0 (below_alloc _ _), cellBelow (w := wr.drew) e1 (below_alloc _ _), cellBelow (w := wr.drew) e2 (below_alloc _ _), cellBelow (w := wr.drew) e3 (below_alloc _ _), cellBelow (w := wr.drew) e4 (below_alloc _ _), cellBelow (w := wr.drew) e5 (below_alloc _ _), cellBelow (w := wr.drew) e6 (below_alloc _ _), cellBelow (w := wr.drew) e7 (below_alloc _ _), cellBelow (w := wr.drew) e8 (below_alloc _ _), cellBelow (w := wr.drew) e9 (below_alloc _ _), cellBelow (w := wr.drew) ea (below_alloc _ _), cellBelow (w := wr.drew) eb (below_alloc _ _), cellBelow (w := wr.drew) ec (below_alloc _ _), cellBelow (w := wr.drew) ed (below_alloc _ _), cellBelow (w := wr.drew) ee (below_alloc _ _)⟩
      refine hK.out _ _ P1 (fun _ => ?_)
      clear hK K
      refine GoX.one 10 rfl (by kernel_rfl) (by decide) (fun K hK => ?_)
      have N8 : NewI w (wr.drew.alloc (.cells #[.int .i64 A.cl, .int .i64 A.d, .int .i64 A.st, .int .i64 A.en, .string A.key, .slice x.1 x.2.1 x.2.2, .int .i64 A.rop, .int .i64 A.rdo, .string A.rkey, .slice y.1 y.2.1 y.2.2, .int .i64 A.tn, .int .i64 A.tc, .int .i64 A.code, .bool A.found, .slice z.1 z.2.1 z.2.2] ActT)) (w.heap.size + 1) w.heap.size av cv ys := by
        have hd := HI.out.drew
        have hb := below_alloc wr.drew (.cells #[.int .i64 A.cl, .int .i64 A.d, .int .i64 A.st, .int .i64 A.en, .string A.key, .slice x.1 x.2.1 x.2.2, .int .i64 A.rop, .int .i64 A.rdo, .string A.rkey, .slice y.1 y.2.1 y.2.2, .int .i64 A.tn, .int .i64 A.tc, .int .i64 A.code, .bool A.found, .slice z.1 z.2.1 z.2.2] ActT)
        exact ⟨(hb.block _ (Array.getElem?_eq_some_iff.1 hd.box).1).trans hd.box, (hb.block _ (Array.getElem?_eq_some_iff.1 hd.map).1).trans hd.map, own_belowJ hd.own hb, hd.src, hd.low.trans (hb.mono hd.low.size), Nat.le_trans hd.big hb.size⟩
      have N8o := N8.own
      rw [HLN.out] at N8o
      refine step_append_lies _ rfl (.tmp 21) (.tmp 26) 22 rfl (w.heap.size + 2) ActT i0 (.agg #[.int .i64 0, .int .i64 0, .int .i64 0, .int .i64 0, .string ⟨#[]⟩, .slice none 0 0, .int .i64 0, .int .i64 0, .string ⟨#[]⟩, .slice none 0 0, .int .i64 0, .int .i64 0, .int .i64 0, .bool false, .slice none 0 0]) 15 184 Try.underlying22 hi hz0 hz1 hz2 rfl (by decide) (.slice av k cv) k (acells ys) (by rfl) N8o ⟨wr.heap.size, 0, none⟩ 1 1 [.int .i64 A.cl, .int .i64 A.d, .int .i64 A.st, .int .i64 A.en, .string A.key, .slice x.1 x.2.1 x.2.2, .int .i64 A.rop, .int .i64 A.rdo, .string A.rkey, .slice y.1 y.2.1 y.2.2, .int .i64 A.tn, .int .i64 A.tc, .int .i64 A.code, .bool A.found, .slice z.1 z.2.1 z.2.2] (by rfl) (by rfl) (World.news_of_block (heap_alloc_new wr.drew _)) (by intro u hu; simp at hu; rcases hu with rfl | rfl | rfl | rfl | rfl | rfl | rfl | rfl | rfl | rfl | rfl | rfl | rfl | rfl | rfl <;> rfl) (by decide) (by simp [maxLen]; omega) (by omega) N8.big _ rfl ?_
      intro g9 c9 w9 hE9 g9' lie9 _
      have gg : (wr.drew.alloc (.cells #[.int .i64 A.cl, .int .i64 A.d, .int .i64 A.st, .int .i64 A.en, .string A.key, .slice x.1 x.2.1 x.2.2, .int .i64 A.rop, .int .i64 A.rdo, .string A.rkey, .slice y.1 y.2.1 y.2.2, .int .i64 A.tn, .int .i64 A.tc, .int .i64 A.code, .bool A.found, .slice z.1 z.2.1 z.2.2] ActT)).grownBy w9 (Value.slice av k cv).ownBlock := ⟨g9'.os, g9'.tape, g9'.output, g9'.size, g9'.block⟩
      have hge := ownBlock_geJ N8o
      have bx9 := (gg.block _ (Array.getElem?_eq_some_iff.1 N8.box).1 (fun e => by have := hge _ e.symm; omega)).trans N8.box
      have mp9 := (gg.block _ (Array.getElem?_eq_some_iff.1 N8.map).1 (fun e => by have := hge _ e.symm; omega)).trans N8.map
      have lo9 : Below w.heap.size w w9 := ⟨gg.os.trans N8.low.os, gg.tape.trans N8.low.tape, gg.output.trans N8.low.output, Nat.le_trans N8.low.size gg.size, fun q hq => (gg.block q (Nat.lt_of_lt_of_le hq N8.low.size) (fun e => by have := hge _ e.symm; omega)).trans (N8.low.block q hq)⟩
      have P2 : w9.cell? ⟨w.heap.size + 1, 0, none⟩ = some (.slice av k cv) ∧ w9.cell? ⟨b, o + p * 15, none⟩ = some (.int .i64 A.cl) ∧ w9.cell? ⟨b, o + p * 15 + 1, none⟩ = some (.int .i64 A.d) ∧ w9.cell? ⟨b, o + p * 15 + 2, none⟩ = some (.int .i64 A.st) ∧ w9.cell? ⟨b, o + p * 15 + 3, none⟩ = some (.int .i64 A.en) ∧ w9.cell? ⟨b, o + p * 15 + 4, none⟩ = some (.string A.key) ∧ w9.cell? ⟨b, o + p * 15 + 5, none⟩ = some (.slice x.1 x.2.1 x.2.2) ∧ w9.cell? ⟨b, o + p * 15 + 6, none⟩ = some (.int .i64 A.rop) ∧ w9.cell? ⟨b, o + p * 15 + 7, none⟩ = some (.int .i64 A.rdo) ∧ w9.cell? ⟨b, o + p * 15 + 8, none⟩ = some (.string A.rkey) ∧ w9.cell? ⟨b, o + p * 15 + 9, none⟩ = some (.slice y.1 y.2.1 y.2.2) ∧ w9.cell? ⟨b, o + p * 15 + 10, none⟩ = some (.int .i64 A.tn) ∧ w9.cell? ⟨b, o + p * 15 + 11, none⟩ = some (.int .i64 A.tc) ∧ w9.cell? ⟨b, o + p * 15 + 12, none⟩ = some (.int .i64 A.code) ∧ w9.cell? ⟨b, o + p * 15 + 13, none⟩ = some (.bool A.found) ∧ w9.cell? ⟨b, o + p * 15 + 14, none⟩ = some (.slice z.1 z.2.1 z.2.2) := ⟨by have := cell_of_row _ _ 0 _ _ _ bx9; simp only [HLN.out] at this; exact this, cellBelow (w := w) e00 lo9, cellBelow (w := w) e10 lo9, cellBelow (w := w) e20 lo9, cellBelow (w := w) e30 lo9, cellBelow (w := w) e40 lo9, cellBelow (w := w) e50 lo9, cellBelow (w := w) e60 lo9, cellBelow (w := w) e70 lo9, cellBelow (w := w) e80 lo9, cellBelow (w := w) e90 lo9, cellBelow (w := w) ea0 lo9, cellBelow (w := w) eb0 lo9, cellBelow (w := w) ec0 lo9, cellBelow (w := w) ed0 lo9, cellBelow (w := w) ee0 lo9⟩
      have f9 : w9.frozen? ⟨w.heap.size + 1, 0, none⟩ = false := frozen_of_row _ _ _ _ _ bx9
      have K9 := Lib.hid (And.intro bx9 (And.intro mp9 (And.intro lo9 (Nat.le_trans N8.big gg.size))))
      have E9 := Lib.hid hE9
      clear bx9 mp9 lo9 gg g9' lie9 hge N8 N8o hE9
      refine hK.out _ _ P2 (fun _ => ?_)
      clear hK K
      refine GoX.take 11 rfl (by kernel_rfl) (by kernel_rfl) (by rfl) (fun _ _ _ h => h) (v := ?tv11g32) P2 ?ty11g32 ?tr11g32
      case ty11g32 => (intro w hSw; (try dsimp only at hSw); go_simp; first | done | with_reducible rfl)
      simp only [Act.put, List.setIfInBounds_toArray, List.set_cons_zero, List.set_cons_succ]
      refine GoX.take 12 rfl (by kernel_rfl) (by kernel_rfl) (by rfl) (fun _ _ _ h => h) (v := ?tv12g33) P2 ?ty12g33 ?tr12g33
      case ty12g33 => (intro w hSw; (try dsimp only at hSw); go_simp; first | done | with_reducible rfl)
      simp only [Act.put, List.setIfInBounds_toArray, List.set_cons_zero, List.set_cons_succ]
      refine GoX.last 13 rfl (by kernel_rfl) (by kernel_rfl) (by decide) ?_
      clear P2
      go_wp2
      go_roundw
      case rel =>
        refine ⟨k + 1, some ⟨g9, 0, none⟩, c9, ys ++ [(A, x, y, z)], by omega, by go_num, Lib.hid ?_, Lib.hid (by rw [List.length_append, HLN.out]; rfl), Lib.hid ?_⟩
        · have hkP : k < P.length := by have := HPL.out; omega
          rw [List.map_append, HM.out, List.take_succ_eq_append_getElem hkP, List.map_append, ← HPV.out]
          simp only [List.map_cons, List.map_nil, HA.out]
        · obtain ⟨bx, mp, lo, bg⟩ := K9.out
          have hsz : (ys ++ [(A, x, y, z)]).length = k + 1 := by rw [List.length_append, HLN.out]; rfl
          refine ⟨?_, (heap_setCell_other _ _ _ _ (by simp)).trans mp, ?_, fun u hu => ?_, lo.setCell (p := ⟨w.heap.size + 1, 0, none⟩) (Nat.le_succ _) _, by simpa using bg⟩
          · rw [hsz]; exact heap_setCell_same _ _ 0 _ _ _ bx
          · rw [hsz, acells_append]
            refine E9.out.kept (row := some (w.heap.size + 1)) ⟨rfl, rfl, rfl, by simp, fun q _ hq => heap_setCell_other _ _ _ _ (fun e => hq (by rw [e]))⟩ (.inr fun e => ?_)
            have := (E9.out.lt _ e).1
            omega
          · rcases List.mem_append.1 hu with hu | hu
            · exact HI.out.src u hu
            · rw [List.mem_singleton] at hu; subst hu; exact HAT.out
      case measure => simp [intOf]; omega
    · obtain rfl : k = pn := by omega
      have hfin : ys.map Prod.fst = P.map fun p => xs.getD p dAct := by rw [HM.out, List.take_of_length_le (by rw [HPL.out]; exact Nat.le_refl _)]
      have HF := Lib.hid hfin
      clear hfin
      go_wp2
      go_ret
      have hI := HI.out
      have hown := hI.own
      have hbox := hI.box
      rw [HLN.out] at hbox
      refine ⟨w.heap.size + 1, w.heap.size, av, cv, rfl, ⟨cell_of_row _ _ 0 _ _ _ hbox, cell_of_row _ _ 1 _ _ _ hbox, ?_, ?_, h12⟩, ⟨.map [], ⟨#[], 0, hI.map, ⟨by simp, stamped_empty 0, by simp⟩, Nat.le_refl _, rfl⟩, fun T l kl _ hh => (by simp [Maps.has] at hh)⟩, hI.low, Nat.le_refl _⟩
      · have := acts_of_own hown fun u hu => (hI.src u hu).below hI.low
        rw [HLN.out, HF.out] at this
        exact this
      · rw [HLN.out] at hown
        rcases hown.2 with ⟨e1, e2⟩ | ⟨g, cap, cur, e, -, -, hnc, -⟩
        · injection e1 with e1 e3 e4; omega
        · injection e with e1 e2 e3; omega
end Go.Proofs.Ytnefcbcioemfiaa
