/-
  symbols in memory, compared, copied: what chunk's texts ChB, ChG, ChP, ChR hold of it, for seats that want no more of them.
-/
import Derived.Deep.AppendLies
import Derived.Deep.CutBlock
import Derived.Deep.DeepCutAuto
import Derived.Test.YtopnjjehefaghaaDoorMBase
import Derived.Test.YtopnjjehefaghaaDoorMCh3
namespace Go.Proofs.YtopnjjehefaghaaDoor
open Go.RowKit

abbrev HdT := Option Addr × Nat × Nat
abbrev Sy := Int × Int × List Nat
theorem cell_below {w w' : World} {b off : Nat} {v : Value} (h : w.cell? ⟨b, off, none⟩ = some v) (hb : Below w.heap.size w w') : w'.cell? ⟨b, off, none⟩ = some v := by
  have h1 : RowV w (some ⟨b, off, none⟩) 1 [v] := ⟨rfl, fun _ => ⟨b, off, rfl, fun i hi => by (obtain rfl : i = 0 := by omega); simpa using h⟩⟩
  obtain ⟨_, _, e, hc⟩ := (h1.below hb).2 (by omega)
  injection e with e
  injection e with e1 e2
  subst e1 e2
  exact hc 0 (by omega)

abbrev ST3 : TypeId := 49
abbrev SH := Int × Int × HdT
def scells : List SH → List Value
  | [] => []
  | x :: xs => .int .i64 x.1 :: .int .i64 x.2.1 :: SV x.2.2 :: scells xs
theorem scells_length : ∀ xs : List SH, (scells xs).length = xs.length * 3
  | [] => rfl
  | x :: xs => by simp [scells, scells_length xs]; omega
theorem scells_append : ∀ xs ys : List SH, scells (xs ++ ys) = scells xs ++ scells ys
  | [], ys => rfl
  | x :: xs, ys => by simp [scells, scells_append xs ys]
theorem scells_one (xs : List SH) : ∀ u ∈ scells xs, u.oneCell' = true := by
  induction xs with
  | nil => intro u hu; cases hu
  | cons x xs ih =>
    intro u hu
    simp only [scells, List.mem_cons] at hu
    rcases hu with rfl | rfl | rfl | hu
    · rfl
    · rfl
    · rfl
    · exact ih u hu
theorem scells_get (xs : List SH) : ∀ (i : Nat) (x : SH), xs[i]? = some x → (scells xs)[i * 3]? = some (.int .i64 x.1) ∧ (scells xs)[i * 3 + 1]? = some (.int .i64 x.2.1) ∧ (scells xs)[i * 3 + 2]? = some (SV x.2.2) := by
  induction xs with
  | nil => intro i x h; simp at h
  | cons y xs ih =>
    intro i x h
    cases i with
    | zero => simp at h; subst h; exact ⟨rfl, rfl, rfl⟩
    | succ i =>
      simp at h
      have := ih i x h
      rw [show (i + 1) * 3 = i * 3 + 3 by omega]
      exact this
theorem scells_set (xs : List SH) : ∀ (i : Nat) (x : SH), i < xs.length → scells (xs.set i x) = (((scells xs).set (i * 3) (.int .i64 x.1)).set (i * 3 + 1) (.int .i64 x.2.1)).set (i * 3 + 2) (SV x.2.2) := by
  induction xs with
  | nil => intro i x h; simp at h
  | cons y xs ih =>
    intro i x h
    cases i with
    | zero => rfl
    | succ i =>
      have := ih i x (by simpa using h)
      rw [show (i + 1) * 3 = i * 3 + 3 by omega]
      simp only [List.set_cons_succ, scells, this]
theorem sinfo : (Tryd.prog.info? 49).map (fun i => (i.zero, i.size, i.bytes)) = some (some (.agg #[.int .i64 0, .int .i64 0, .slice none 0 0]), 3, 40) := by kernel_rfl

/-- a slice of symbols reads as these. -/
structure SyV (w : World) (a : Option Addr) (n : Nat) (ss : List Sy) : Prop where
  len : ss.length = n
  ex : ∃ xs : List SH, xs.length = n ∧ (0 < n → ∃ b off, a = some ⟨b, off, none⟩ ∧ ∀ i x, xs[i]? = some x → w.cell? ⟨b, off + i * 3, none⟩ = some (.int .i64 x.1) ∧ w.cell? ⟨b, off + i * 3 + 1, none⟩ = some (.int .i64 x.2.1) ∧ w.cell? ⟨b, off + i * 3 + 2, none⟩ = some (SV x.2.2)) ∧ ∀ (i : Nat) x p, xs[i]? = some x → ss[i]? = some p → x.1 = p.1 ∧ x.2.1 = p.2.1 ∧ BytesV w x.2.2 p.2.2
theorem SyV.below {w w' : World} {a : Option Addr} {n : Nat} {ss : List Sy} (h : SyV w a n ss) (hb : Below w.heap.size w w') : SyV w' a n ss := by
  obtain ⟨h1, xs, h2, h3, h4⟩ := h
  refine ⟨h1, xs, h2, fun h0 => ?_, fun i x p a b => ⟨(h4 i x p a b).1, (h4 i x p a b).2.1, (h4 i x p a b).2.2.below hb⟩⟩
  obtain ⟨b, off, e, hc⟩ := h3 h0
  exact ⟨b, off, e, fun i x hx => ⟨cell_below (hc i x hx).1 hb, cell_below (hc i x hx).2.1 hb, cell_below (hc i x hx).2.2 hb⟩⟩
theorem SyV.nil (w : World) (a : Option Addr) : SyV w a 0 [] := ⟨rfl, [], rfl, fun h => absurd h (Nat.lt_irrefl _), fun i x p h => by simp at h⟩
theorem SyV.at {w : World} {a : Option Addr} {n i : Nat} {ss : List Sy} (h : SyV w a n ss) (hi : i < n) : ∃ b off z e a2 n2 c2 l, a = some ⟨b, off, none⟩ ∧ w.cell? ⟨b, off + i * 3, none⟩ = some (.int .i64 z) ∧ w.cell? ⟨b, off + i * 3 + 1, none⟩ = some (.int .i64 e) ∧ w.cell? ⟨b, off + i * 3 + 2, none⟩ = some (.slice a2 n2 c2) ∧ ss[i]? = some (z, e, l) ∧ BytesV w (a2, n2, c2) l := by
  obtain ⟨h1, xs, h2, h3, h4⟩ := h
  obtain ⟨b, off, e, hc⟩ := h3 (by omega)
  obtain ⟨⟨z1, e1, a2, n2, c2⟩, hx⟩ : ∃ x, xs[i]? = some x := ⟨_, List.getElem?_eq_getElem (by omega)⟩
  obtain ⟨⟨z2, e2, l⟩, hp⟩ : ∃ p, ss[i]? = some p := ⟨_, List.getElem?_eq_getElem (by omega)⟩
  have k := h4 i _ _ hx hp
  simp only at k
  obtain ⟨rfl, rfl, k⟩ := k
  exact ⟨b, off, z1, e1, a2, n2, c2, l, e, (hc i _ hx).1, (hc i _ hx).2.1, (hc i _ hx).2.2, hp, k⟩
/-- symbols of the call's own. -/
structure OwnS (w : World) (B : Nat) (a : Option Addr) (n c : Nat) (ss : List Sy) : Prop where
  len : ss.length = n
  ex : ∃ xs : List SH, xs.length = n ∧ w.ownsRow B ST3 3 (.slice a n c) n (scells xs) ∧ ∀ (i : Nat) x p, xs[i]? = some x → ss[i]? = some p → x.1 = p.1 ∧ x.2.1 = p.2.1 ∧ x.2.2.2.1 = p.2.2.length ∧ w.ownsRow B 5 1 (SV x.2.2) p.2.2.length (p.2.2.map bv) ∧ Bytes p.2.2 ∧ p.2.2.length ≤ 140737488355328
theorem OwnS.below {w w' : World} {B : Nat} {a : Option Addr} {n c : Nat} {ss : List Sy} (h : OwnS w B a n c ss) (hb : Below w.heap.size w w') : OwnS w' B a n c ss := by
  obtain ⟨h1, xs, h2, h3, h4⟩ := h
  refine ⟨h1, xs, h2, h3.kept (grownBy_of_below hb none) (by cases (Value.slice a n c).ownBlock <;> simp), fun i x p a b => ?_⟩
  obtain ⟨k0, k1, k2, k3, k4, k5⟩ := h4 i x p a b
  exact ⟨k0, k1, k2, k3.kept (grownBy_of_below hb none) (by cases (SV x.2.2).ownBlock <;> simp), k4, k5⟩
theorem OwnS.rebase {w : World} {B B' : Nat} {a : Option Addr} {n c : Nat} {ss : List Sy} (h : OwnS w B a n c ss) (hB : B' ≤ B) : OwnS w B' a n c ss := by
  obtain ⟨h1, xs, h2, h3, h4⟩ := h
  exact ⟨h1, xs, h2, ownsRow_base h3 hB, fun i x p a b => by
    obtain ⟨k0, k1, k2, k3, k4⟩ := h4 i x p a b
    exact ⟨k0, k1, k2, ownsRow_base k3 hB, k4⟩⟩
theorem OwnS.nil (w : World) (B : Nat) : OwnS w B none 0 0 [] := ⟨rfl, [], rfl, ⟨rfl, .inl ⟨rfl, rfl⟩⟩, fun i x p h => by simp at h⟩
theorem OwnS.sy {w : World} {B : Nat} {a : Option Addr} {n c : Nat} {ss : List Sy} (h : OwnS w B a n c ss) : SyV w a n ss := by
  obtain ⟨h1, xs, h2, h3, h4⟩ := h
  refine ⟨h1, xs, h2, fun h0 => ?_, fun i x p a b => ?_⟩
  · rcases h3.2 with ⟨_, e⟩ | ⟨g, cap, cur, e, _, hg, _, _, _, ht⟩
    · omega
    · injection e with e1 e2 e3
      subst e1
      refine ⟨g, 0, rfl, fun i x hx => ?_⟩
      have hi : i < n := by have := (List.getElem?_eq_some_iff.1 hx).1; omega
      have k := scells_get xs i x hx
      have q1 := h3.cellAt (i * 3) (by omega)
      have q2 := h3.cellAt (i * 3 + 1) (by omega)
      have q3 := h3.cellAt (i * 3 + 2) (by omega)
      rw [Nat.zero_add]
      exact ⟨q1.trans k.1, q2.trans k.2.1, q3.trans k.2.2⟩
  · obtain ⟨k0, k1, k2, k3, k4, k5⟩ := h4 i x p a b
    obtain ⟨x0, x1, xa, xn, xc⟩ := x
    simp only at k2
    subst k2
    exact ⟨k0, k1, bytesV_of_owns k3 k4 k5⟩
/-- symbols and an error. -/
def GivesS (w : World) (o : List Sy × Int) (e : Ending) (w' : World) : Prop := ∃ a c, e = .returned (.tuple #[.slice a o.1.length c, .int .i64 o.2]) ∧ OwnS w' w.heap.size a o.1.length c o.1 ∧ Below w.heap.size w w'
theorem givesS_nil {w w' : World} {code : Int} (hb : Below w.heap.size w w') : GivesS w ([], code) (.returned (.tuple #[.slice none 0 0, .int .i64 code])) w' := ⟨none, 0, rfl, .nil _ _, hb⟩

theorem SyV.drewN {w : World} {a : Option Addr} {n : Nat} {ss : List Sy} (h : SyV w a n ss) (m : Nat) : SyV (w.drewN m) a n ss := h.below (below_drewNi (Below.refl _ _) m)
set_option maxRecDepth 100000 in
set_option maxHeartbeats 8000000 in
theorem sameSyms_rd (a1 : Option Addr) (n1 c1 : Nat) (p1 : List Sy) (a2 : Option Addr) (n2 c2 : Nat) (p2 : List Sy) (w : World) (h1 : SyV w a1 n1 p1) (h2 : SyV w a2 n2 p2) (hn : n1 ≤ 100000) :
    Calls Tryd.prog 35 #[.slice a1 n1 c1, .slice a2 n2 c2] w fun e w' => e = .returned (.bool (decide (p1 = p2))) ∧ Below w.heap.size w w' := by
  have HL1 := Lib.hid h1.len
  have HL2 := Lib.hid h2.len
  have H1 := Lib.hid h1
  have H2 := Lib.hid h2
  obtain ⟨A, hA⟩ : ∃ A, A = decide (p1 = p2) := ⟨_, rfl⟩
  rw [← hA]
  have HA := Lib.hid hA
  clear h1 h2 hA
  by_cases hl : n1 = n2
  rotate_left 1
  · have hne : ((n1 : Int) != (n2 : Int)) = true := by rw [bne_iff_ne]; omega
    have HF := Lib.hid (show A = false by
      rw [HA.out]
      refine decide_eq_false fun e => hl ?_
      rw [← HL1.out, ← HL2.out, e])
    clear hl
    go_enter Tryd.func35, Tryd.ntmps35
    go_wp2
    go_ret
    rw [HF.out]
    exact ⟨rfl, Below.refl _ _⟩
  subst hl
  go_enter Tryd.func35, Tryd.ntmps35
  go_wp2_with fail
  go_loopw [5] (fun vi wr => ∃ (i : Nat), i ≤ n1 ∧ vi = .int .i64 (i : Nat) ∧ Hid (∀ j, j < i → p1[j]? = p2[j]?) ∧ Hid (Below w.heap.size w wr)) (fun vi _ => (n1 - intOf vi).toNat)
  case atStart => exact ⟨0, Nat.zero_le _, rfl, Lib.hid (fun j h => absurd h (Nat.not_lt_zero _)), Lib.hid (Below.refl _ _)⟩
  case round =>
    obtain ⟨i, hi, rfl, HZ, hB⟩ := hrel
    by_cases hlt : i < n1
    · obtain ⟨b1, o1, z1, e1, x1, m1, d1, l1, rfl, q0, q1, q2, hp1, hb1⟩ := H1.out.at hlt
      obtain ⟨b2, o2, z2, e2, x2, m2, d2, l2, rfl, q5, q3, q4, hp2, hb2⟩ := H2.out.at hlt
      have r0 := cell_below q0 hB.out
      have r5 := cell_below q5 hB.out
      have r1 := cell_below q1 hB.out
      have r2 := cell_below q2 hB.out
      have r3 := cell_below q3 hB.out
      have r4 := cell_below q4 hB.out
      have HP1 := Lib.hid hp1
      have HP2 := Lib.hid hp2
      have hi0 : (0 : Int) ≤ (i : Int) := by omega
      have hi1 : (i : Int) < (n1 : Int) := by omega
      obtain ⟨t, ht⟩ : ∃ t, t = decide (l1 = l2) := ⟨_, rfl⟩
      have hcall : ∀ m, Calls Tryd.prog 14 #[.slice x1 m1 d1, .slice x2 m2 d2] (wr.drewN m) fun e w' => e = .returned (.bool t) ∧ ∃ m', w' = (wr.drewN m).drewN m' := fun m => by
        rw [ht]; exact sameBytes_quiet x1 m1 d1 l1 x2 m2 d2 l2 _ ((hb1.below hB.out).drewN m) ((hb2.below hB.out).drewN m)
      have HC := Lib.hid hcall
      have HT := Lib.hid ht
      clear q0 q1 q2 q3 q4 q5 hp1 hp2 hb1 hb2 hcall ht
      by_cases hz : z1 = z2
      · subst hz
        have hzf : (z1 != z1) = false := by simp
        by_cases he : e1 = e2
        · subst he
          have hef : (e1 != e1) = false := by simp
          cases t with
          | true =>
            have HQ := Lib.hid (show p1[i]? = p2[i]? by rw [HP1.out, HP2.out, of_decide_eq_true HT.out.symm])
            go_wp2_with fail
            go_quiet ((go_at_call 14; exact Calls.quiet_of (HC.out _)))
            go_wp2
            go_roundw
            case rel => exact ⟨i + 1, by omega, by go_num, Lib.hid (fun j hj => by
              by_cases e : j = i
              · rw [e]; exact HQ.out
              · exact HZ.out j (by omega)), Lib.hid (below_drewNi hB.out _)⟩
            case measure => simp [intOf] <;> omega
          | false =>
            have HF := Lib.hid (show A = false by
              rw [HA.out]
              refine decide_eq_false fun e => of_decide_eq_false HT.out.symm ?_
              have hh := HP1.out
              rw [e, HP2.out] at hh
              simp only [Option.some.injEq, Prod.mk.injEq] at hh
              exact hh.2.2.symm)
            go_wp2_with fail
            go_quiet ((go_at_call 14; exact Calls.quiet_of (HC.out _)))
            go_wp2
            go_ret
            rw [HF.out]
            exact ⟨rfl, below_drewNi hB.out _⟩
        · have hef : (e1 != e2) = true := by rw [bne_iff_ne]; exact he
          have HF := Lib.hid (show A = false by
            rw [HA.out]
            refine decide_eq_false fun e => he ?_
            have hh := HP1.out
            rw [e, HP2.out] at hh
            simp only [Option.some.injEq, Prod.mk.injEq] at hh
            exact hh.2.1.symm)
          clear he
          go_wp2_with fail
          go_quiet ((go_at_call 14; exact Calls.quiet_of (HC.out _)))
          go_wp2
          go_ret
          rw [HF.out]
          exact ⟨rfl, below_drewNi hB.out _⟩
      · have hzf : (z1 != z2) = true := by rw [bne_iff_ne]; exact hz
        have HF := Lib.hid (show A = false by
          rw [HA.out]
          refine decide_eq_false fun e => hz ?_
          have hh := HP1.out
          rw [e, HP2.out] at hh
          simp only [Option.some.injEq, Prod.mk.injEq] at hh
          exact hh.1.symm)
        clear hz
        go_wp2_with fail
        go_quiet ((go_at_call 14; exact Calls.quiet_of (HC.out _)))
        go_wp2
        go_ret
        rw [HF.out]
        exact ⟨rfl, below_drewNi hB.out _⟩
    · obtain rfl : i = n1 := by omega
      have HF := Lib.hid (show A = true by
        rw [HA.out]
        refine decide_eq_true (List.ext_getElem? fun j => ?_)
        by_cases hj : j < i
        · exact HZ.out j hj
        · rw [List.getElem?_eq_none (by rw [HL1.out]; omega), List.getElem?_eq_none (by rw [HL2.out]; omega)])
      go_wp2
      go_ret
      rw [HF.out]
      exact ⟨rfl, hB.out⟩

theorem OwnS.startS {w : World} {B : Nat} {a : Option Addr} {c : Nat} (h : w.ownsRow B ST3 3 (.slice a 0 c) 0 []) : OwnS w B a 0 c [] := ⟨rfl, [], rfl, h, fun i x p h => by simp at h⟩
theorem OwnS.madeS {w : World} {B : Nat} (hB : B ≤ w.heap.size) : OwnS (w.alloc (.cells #[] ST3)) B (some ⟨w.heap.size, 0, none⟩) 0 0 [] :=
  .startS (World.ownsRow_made (base := B) (e := ST3) (size := 3) w #[] 0 hB (by simp [maxLen]) rfl)
theorem sy_append {wm w' : World} {B n : Nat} {a : Option Addr} {c : Nat} {xs : List SH} {ss : List Sy} {z e : Int} {y : HdT} {l : List Nat} (h2 : xs.length = n) (h1 : ss.length = n) (h3 : wm.ownsRow B ST3 3 (.slice a n c) n (scells xs))
    (h4 : ∀ (i : Nat) x p, xs[i]? = some x → ss[i]? = some p → x.1 = p.1 ∧ x.2.1 = p.2.1 ∧ x.2.2.2.1 = p.2.2.length ∧ wm.ownsRow B 5 1 (SV x.2.2) p.2.2.length (p.2.2.map bv) ∧ Bytes p.2.2 ∧ p.2.2.length ≤ 140737488355328)
    (hy : wm.ownsRow B 5 1 (SV y) l.length (l.map bv)) (hyl : y.2.1 = l.length) (hl : Bytes l ∧ l.length ≤ 140737488355328) {g cap : Nat}
    (hE : w'.ownsRow B ST3 3 (.slice (some ⟨g, 0, none⟩) (n + 1) cap) (n + 1) (scells xs ++ [.int .i64 z, .int .i64 e, SV y])) (hg : wm.grownBy w' (Value.slice a n c).ownBlock) : OwnS w' B (some ⟨g, 0, none⟩) (n + 1) cap (ss ++ [(z, e, l)]) := by
  have key : ∀ {x : HdT} {m : List Nat}, wm.ownsRow B 5 1 (SV x) m.length (m.map bv) → w'.ownsRow B 5 1 (SV x) m.length (m.map bv) := fun k => k.kept hg (own_ne k h3 (by decide))
  refine ⟨by simp [h1], xs ++ [(z, e, y)], by simp [h2], by rw [scells_append]; exact hE, fun i x p a b => ?_⟩
  by_cases hi : i < n
  · rw [List.getElem?_append_left (by omega)] at a
    rw [List.getElem?_append_left (by omega)] at b
    obtain ⟨k0, k1, k2, k3, k4, k5⟩ := h4 i x p a b
    exact ⟨k0, k1, k2, key k3, k4, k5⟩
  · rw [List.getElem?_append_right (by omega)] at a
    rw [List.getElem?_append_right (by omega), h1, ← h2] at b
    have hi0 := (List.getElem?_eq_some_iff.1 a).1
    simp only [List.length_cons, List.length_nil] at hi0
    have e0 : i - xs.length = 0 := by omega
    rw [e0] at a b
    simp at a b
    subst a b
    exact ⟨rfl, rfl, hyl, key hy, hl⟩

theorem drewBelow (w : World) : Below w.heap.size w w.drew := ⟨rfl, rfl, rfl, Nat.le_refl _, fun _ _ => rfl⟩
set_option maxRecDepth 100000 in
set_option maxHeartbeats 8000000 in
theorem copySyms_own (pa : Option Addr) (pn pc : Nat) (ss : List Sy) (w : World) (h : SyV w pa pn ss) (hpn : pn ≤ 10000) :
    Calls Tryd.prog 27 #[.slice pa pn pc] w fun e w' => ∃ a c, e = .returned (.slice a pn c) ∧ OwnS w' w.heap.size a pn c ss ∧ Below w.heap.size w w' := by
  obtain ⟨i0, hpi, hz0, hz1, hz2⟩ := info_parts sinfo
  have HS := Lib.hid h
  have HL := Lib.hid h.len
  have HP : Hid (OwnS (w.alloc (.cells #[] ST3)) w.heap.size (some ⟨w.heap.size, 0, none⟩) 0 0 (ss.take 0)) := Lib.hid (OwnS.madeS (Nat.le_refl _))
  have HB := Lib.hid (below_alloc w (.cells #[] ST3))
  clear h
  go_enter Tryd.func27, Tryd.ntmps27
  go_upto_block 0 with fail
  generalize w.alloc (.cells #[] ST3) = w2 at HP HB ⊢
  go_wp2_with fail
  go_loopw [3, 4] (fun vp vi wr => ∃ (i : Nat) (av : Option Addr) (cv : Nat), i ≤ pn ∧ vi = .int .i64 (i : Nat) ∧ vp = .slice av i cv ∧ Hid (OwnS wr w.heap.size av i cv (ss.take i)) ∧ Hid (Below w.heap.size w wr)) (fun _ vi _ => (pn - intOf vi).toNat)
  case atStart => exact ⟨0, _, _, Nat.zero_le _, rfl, rfl, HP, HB⟩
  case round =>
    clear HP HB
    obtain ⟨i, av, cv, hi, rfl, rfl, hP, hB⟩ := hrel
    by_cases hlt : i < pn
    · obtain ⟨b, off, z, e, xa, xn, xc, l, rfl, q0, q1, q2, hpi', hby⟩ := HS.out.at hlt
      have K0 : wr.cell? ⟨b, off + i * 3, none⟩ = some (.int .i64 z) ∧ wr.cell? ⟨b, off + i * 3 + 1, none⟩ = some (.int .i64 e) ∧ wr.cell? ⟨b, off + i * 3 + 2, none⟩ = some (.slice xa xn xc) := ⟨cell_below q0 hB.out, cell_below q1 hB.out, cell_below q2 hB.out⟩
      have HQ := Lib.hid (And.intro q0 (And.intro q1 q2))
      have HBY := Lib.hid hby
      have HLX := Lib.hid (show l.length = xn from hby.length)
      have hxs := hby.small
      simp only at hxs
      have HT := Lib.hid (take_step ss i _ hpi')
      have hs6 := hB.out.size
      have j0' : (0 : Int) ≤ (i : Int) := by omega
      have j1' : (i : Int) < (pn : Int) := by omega
      clear q0 q1 q2 hpi' hby
      go_wp2_with fail
      refine GoX.start 20 (fun w' => w'.cell? ⟨b, off + i * 3, none⟩ = some (.int .i64 z) ∧ w'.cell? ⟨b, off + i * 3 + 1, none⟩ = some (.int .i64 e) ∧ w'.cell? ⟨b, off + i * 3 + 2, none⟩ = some (.slice xa xn xc)) (by kernel_rfl) ?_
      refine GoX.take 0 rfl (by kernel_rfl) (by kernel_rfl) (by rfl) (fun _ _ _ h => h) (v := ?tv0) K0 ?ty0 ?tr0
      case ty0 => (intro w hSw; (try dsimp only at hSw); go_simp; first | done | with_reducible rfl)
      simp only [Act.put, List.setIfInBounds_toArray, List.set_cons_zero, List.set_cons_succ]
      refine GoX.take 1 rfl (by kernel_rfl) (by kernel_rfl) (by rfl) (fun _ _ _ h => h) (v := ?tv1) K0 ?ty1 ?tr1
      case ty1 => (intro w hSw; (try dsimp only at hSw); go_simp; first | done | with_reducible rfl)
      simp only [Act.put, List.setIfInBounds_toArray, List.set_cons_zero, List.set_cons_succ]
      refine GoX.take 2 rfl (by kernel_rfl) (by kernel_rfl) (by rfl) (fun _ _ _ h => h) (v := ?tv2) K0 ?ty2 ?tr2
      case ty2 => (intro w hSw; (try dsimp only at hSw); go_simp; first | done | with_reducible rfl)
      simp only [Act.put, List.setIfInBounds_toArray, List.set_cons_zero, List.set_cons_succ]
      refine GoX.take 3 rfl (by kernel_rfl) (by kernel_rfl) (by rfl) (fun _ _ _ h => h) (v := ?tv3) K0 ?ty3 ?tr3
      case ty3 => (intro w hSw; (try dsimp only at hSw); go_simp; first | done | with_reducible rfl)
      simp only [Act.put, List.setIfInBounds_toArray, List.set_cons_zero, List.set_cons_succ]
      refine GoX.take 4 rfl (by kernel_rfl) (by kernel_rfl) (by rfl) (fun _ _ _ h => h) (v := ?tv4) K0 ?ty4 ?tr4
      case ty4 => (intro w hSw; (try dsimp only at hSw); go_simp; first | done | with_reducible rfl)
      simp only [Act.put, List.setIfInBounds_toArray, List.set_cons_zero, List.set_cons_succ]
      refine GoX.take 5 rfl (by kernel_rfl) (by kernel_rfl) (by rfl) (fun _ _ _ h => h) (v := ?tv5) K0 ?ty5 ?tr5
      case ty5 => (intro w hSw; (try dsimp only at hSw); go_simp; first | done | with_reducible rfl)
      simp only [Act.put, List.setIfInBounds_toArray, List.set_cons_zero, List.set_cons_succ]
      refine GoX.take 6 rfl (by kernel_rfl) (by kernel_rfl) (by rfl) (fun _ _ _ h => h) (v := ?tv6) K0 ?ty6 ?tr6
      case ty6 => (intro w hSw; (try dsimp only at hSw); go_simp; first | done | with_reducible rfl)
      simp only [Act.put, List.setIfInBounds_toArray, List.set_cons_zero, List.set_cons_succ]
      refine GoX.take 7 rfl (by kernel_rfl) (by kernel_rfl) (by rfl) (fun _ _ _ h => h) (v := ?tv7) K0 ?ty7 ?tr7
      case ty7 => (intro w hSw; (try dsimp only at hSw); go_simp; first | done | with_reducible rfl)
      simp only [Act.put, List.setIfInBounds_toArray, List.set_cons_zero, List.set_cons_succ]
      refine GoX.take 8 rfl (by kernel_rfl) (by kernel_rfl) (by rfl) (fun _ _ _ h => h) (v := ?tv8) K0 ?ty8 ?tr8
      case ty8 => (intro w hSw; (try dsimp only at hSw); go_simp; first | done | with_reducible rfl)
      simp only [Act.put, List.setIfInBounds_toArray, List.set_cons_zero, List.set_cons_succ]
      refine GoX.take 9 rfl (by kernel_rfl) (by kernel_rfl) (by rfl) (fun _ _ _ h => h) (v := ?tv9) K0 ?ty9 ?tr9
      case ty9 => (intro w hSw; (try dsimp only at hSw); go_simp; first | done | with_reducible rfl)
      simp only [Act.put, List.setIfInBounds_toArray, List.set_cons_zero, List.set_cons_succ]
      refine GoX.take 10 rfl (by kernel_rfl) (by kernel_rfl) (by rfl) (fun _ _ _ h => h) (v := ?tv10) K0 ?ty10 ?tr10
      case ty10 => (intro w hSw; (try dsimp only at hSw); go_simp; first | done | with_reducible rfl)
      simp only [Act.put, List.setIfInBounds_toArray, List.set_cons_zero, List.set_cons_succ]
      refine GoX.take 11 rfl (by kernel_rfl) (by kernel_rfl) (by rfl) (fun _ _ _ h => h) (v := ?tv11) K0 ?ty11 ?tr11
      case ty11 => (intro w hSw; (try dsimp only at hSw); go_simp; first | done | with_reducible rfl)
      simp only [Act.put, List.setIfInBounds_toArray, List.set_cons_zero, List.set_cons_succ]
      refine GoX.take 12 rfl (by kernel_rfl) (by kernel_rfl) (by rfl) (fun _ _ _ h => h) (v := ?tv12) K0 ?ty12 ?tr12
      case ty12 => (intro w hSw; (try dsimp only at hSw); go_simp; first | done | with_reducible rfl)
      simp only [Act.put, List.setIfInBounds_toArray, List.set_cons_zero, List.set_cons_succ]
      refine GoX.take 13 rfl (by kernel_rfl) (by kernel_rfl) (by rfl) (fun _ _ _ h => h) (v := ?tv13) K0 ?ty13 ?tr13
      case ty13 => (intro w hSw; (try dsimp only at hSw); go_simp; first | done | with_reducible rfl)
      simp only [Act.put, List.setIfInBounds_toArray, List.set_cons_zero, List.set_cons_succ]
      refine GoX.take 14 rfl (by kernel_rfl) (by kernel_rfl) (by rfl) (fun _ _ _ h => h) (v := ?tv14) K0 ?ty14 ?tr14
      case ty14 => (intro w hSw; (try dsimp only at hSw); go_simp; first | done | with_reducible rfl)
      simp only [Act.put, List.setIfInBounds_toArray, List.set_cons_zero, List.set_cons_succ]
      refine GoX.take 15 rfl (by kernel_rfl) (by kernel_rfl) (by rfl) (fun _ _ _ h => h) (v := ?tv15) K0 ?ty15 ?tr15
      case ty15 => (intro w hSw; (try dsimp only at hSw); go_simp; first | done | with_reducible rfl)
      simp only [Act.put, List.setIfInBounds_toArray, List.set_cons_zero, List.set_cons_succ]
      refine GoX.one 16 rfl (by kernel_rfl) (by decide) (fun K hK => ?_)
      rw [if_pos (by rfl)]
      go_simp
      (with_reducible refine (copyBytes_any xa xn xc l _ ?hh).mono ?_)
      case hh => exact (HBY.out.below hB.out).below (drewBelow wr)
      rintro e w5 ⟨a5, c5, rfl, o5, b5⟩
      rw [HLX.out] at o5 ⊢
      have b5' : Below wr.heap.size wr w5 := ⟨b5.os, b5.tape, b5.output, b5.size, b5.block⟩
      have K5 : w5.cell? ⟨b, off + i * 3, none⟩ = some (.int .i64 z) ∧ w5.cell? ⟨b, off + i * 3 + 1, none⟩ = some (.int .i64 e) ∧ w5.cell? ⟨b, off + i * 3 + 2, none⟩ = some (.slice xa xn xc) := ⟨cell_below K0.1 b5', cell_below K0.2.1 b5', cell_below K0.2.2 b5'⟩
      have hP5 := hP.out.below b5'
      have hb5 := hB.out.trans (b5'.mono hs6)
      refine hK.out _ _ K5 (fun _ => ?_)
      clear hK K
      refine GoX.take 17 rfl (by kernel_rfl) (by kernel_rfl) (by rfl) (fun _ _ _ h => h) (v := ?tv17q2) K5 ?ty17q2 ?tr17q2
      case ty17q2 => (intro w hSw; (try dsimp only at hSw); go_simp; first | done | with_reducible rfl)
      simp only [Act.put, List.setIfInBounds_toArray, List.set_cons_zero, List.set_cons_succ]
      have K6 : (w5.alloc (.cells #[.int .i64 z, .int .i64 e, .slice a5 xn c5] ST3)).cell? ⟨b, off + i * 3, none⟩ = some (.int .i64 z) ∧ (w5.alloc (.cells #[.int .i64 z, .int .i64 e, .slice a5 xn c5] ST3)).cell? ⟨b, off + i * 3 + 1, none⟩ = some (.int .i64 e) ∧ (w5.alloc (.cells #[.int .i64 z, .int .i64 e, .slice a5 xn c5] ST3)).cell? ⟨b, off + i * 3 + 2, none⟩ = some (.slice xa xn xc) := ⟨cell_below K5.1 (below_alloc _ _), cell_below K5.2.1 (below_alloc _ _), cell_below K5.2.2 (below_alloc _ _)⟩
      have hP6 := hP5.below (below_alloc w5 (.cells #[.int .i64 z, .int .i64 e, .slice a5 xn c5] ST3))
      have o6 := ownsRow_base (o5.alloc (.cells #[.int .i64 z, .int .i64 e, .slice a5 xn c5] ST3)) hs6
      have hb6 := hb5.alloc hb5.size (.cells #[.int .i64 z, .int .i64 e, .slice a5 xn c5] ST3)
      have hsb6 := hb6.size
      obtain ⟨h1, xs, h2, h3, h4⟩ := hP6
      refine GoX.one 18 rfl (by kernel_rfl) (by decide) (fun K hK => ?_)
      go_simp
      refine hK.out _ _ K6 (fun _ => ?_)
      clear hK K
      refine GoX.one 19 rfl (by kernel_rfl) (by decide) (fun K hK => ?_)
      refine step_append_lies _ rfl (.tmp 12) (.tmp 30) 27 rfl w.heap.size ST3 i0 (.agg #[.int .i64 0, .int .i64 0, .slice none 0 0]) 3 40 Tryd.underlying27 hpi hz0 hz1 hz2 rfl (by decide) (.slice av i cv) i (scells xs) (by rfl) h3 ⟨w5.heap.size, 0, none⟩ 1 1 [.int .i64 z, .int .i64 e, SV (a5, xn, c5)] (by rfl) (by rfl) (World.news_of_block (heap_alloc_new w5 _)) (by intro u hu; simp at hu; rcases hu with rfl | rfl | rfl <;> rfl) (by decide) (by simp [maxLen]; omega) (by omega) hsb6 _ rfl ?_
      intro g9 c9 w9 hE9 g9' lie9 _
      have gg : (w5.alloc (.cells #[.int .i64 z, .int .i64 e, .slice a5 xn c5] ST3)).grownBy w9 (Value.slice av i cv).ownBlock := ⟨g9'.os, g9'.tape, g9'.output, g9'.size, g9'.block⟩
      have hb9 := below_grown hb6 gg (ownBlock_ge h3)
      have K9 : w9.cell? ⟨b, off + i * 3, none⟩ = some (.int .i64 z) ∧ w9.cell? ⟨b, off + i * 3 + 1, none⟩ = some (.int .i64 e) ∧ w9.cell? ⟨b, off + i * 3 + 2, none⟩ = some (.slice xa xn xc) := ⟨cell_below HQ.out.1 hb9, cell_below HQ.out.2.1 hb9, cell_below HQ.out.2.2 hb9⟩
      have hO := sy_append h2 h1 h3 h4 (y := (a5, xn, c5)) (l := l) (z := z) (e := e) (by rw [HLX.out]; exact o6) HLX.out.symm ⟨HBY.out.bytes, by rw [HLX.out]; exact HBY.out.small⟩ hE9 gg
      rw [← HT.out] at hO
      have HO := Lib.hid hO
      have HB9 := Lib.hid hb9
      refine hK.out _ _ K9 (fun _ => ?_)
      clear hK K gg hb9 hO hE9 g9' lie9 h3 h4 K5 K6 hP5 o6 hb6 hb5 b5 b5' o5
      simp only [Act.put, List.setIfInBounds_toArray, List.set_cons_zero, List.set_cons_succ]
      refine GoX.last 20 rfl (by kernel_rfl) (by kernel_rfl) (by decide) ?_
      go_wp2
      go_roundw
      case rel => exact ⟨i + 1, _, _, by omega, by go_num, rfl, HO, HB9⟩
      case measure => simp [intOf] <;> omega
    · obtain rfl : i = pn := by omega
      have hO := hP.out
      rw [List.take_of_length_le (by rw [HL.out]; exact Nat.le_refl _)] at hO
      go_wp2
      go_ret
      exact ⟨_, _, rfl, hO, hB.out⟩
end Go.Proofs.YtopnjjehefaghaaDoor
