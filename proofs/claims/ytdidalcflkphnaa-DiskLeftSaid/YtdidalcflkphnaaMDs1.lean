/-
  Ds1: DiA DiB DiC DiD DiE DiF DiG
-/
import Derived.Maps.AppendAt
import Derived.StillTailTactics
import Derived.Test.YtdidalcflkphnaaMBase
namespace Go.Proofs.Ytdidalcflkphnaa
open Go.RowKit

/-- a slot: the bytes that are safe, those that are read, and whether it was written since. -/
abbrev Slot := List Nat × List Nat × Bool
/-- a disk. -/
structure DV where
  pow : Int
  safe : List Nat
  read : List Nat
  base : Nat
  laid : Bool
  sl : List Slot
/-- power for one call: what is left of it, and the error. -/
def spendV (p : Int) : Int × Int := if p = 0 then (0, 81) else if 0 < p then (p - 1, 0) else (p, 0)
set_option maxRecDepth 100000 in
set_option maxHeartbeats 4000000 in
theorem spend_any (g : Nat) (p : Int) (w : World) (hp : w.cell? ⟨g, 0, none⟩ = some (.int .i64 p)) (hf : w.frozen? ⟨g, 0, none⟩ = false) (hr : p ≤ 9223372036854775807) :
    Calls Try.prog 44 #[.pointer (some ⟨g, 0, none⟩)] w fun e w' => e = .returned (.int .i64 (spendV p).2) ∧ w' = if 0 < p then w.setCell ⟨g, 0, none⟩ (.int .i64 (spendV p).1) else w := by
  unfold spendV
  by_cases h0 : p = 0
  · subst h0
    go_enter Try.func44, Try.ntmps44
    go_wp2
    go_ret
    exact ⟨rfl, rfl⟩
  · have h0b : (p == 0) = false := beq_eq_false_iff_ne.2 h0
    rw [if_neg h0]
    by_cases h1 : 0 < p
    · rw [if_pos h1, if_pos h1]
      have hw : wrap64 (p - 1) = p - 1 := IntWalk.wrap64_in _ (by omega)
      go_enter Try.func44, Try.ntmps44
      go_wp2
      go_ret
      exact ⟨rfl, rfl⟩
    · rw [if_neg h1, if_neg h1]
      go_enter Try.func44, Try.ntmps44
      go_wp2
      go_ret
      exact ⟨rfl, rfl⟩
end Go.Proofs.Ytdidalcflkphnaa
namespace Go.Proofs.Ytdidalcflkphnaa
open Go.RowKit

abbrev HdT := Option Addr × Nat × Nat
abbrev DT : TypeId := 72
abbrev KT : TypeId := 80
/-- nothing of the elder blocks is changed but in the footprint. -/
structure ChF (F : Nat → Prop) (w w' : World) : Prop where
  os : w'.os = w.os
  tape : w'.tape = w.tape
  output : w'.output = w.output
  size : w.heap.size ≤ w'.heap.size
  block : ∀ b, b < w.heap.size → ¬ F b → w'.heap[b]? = w.heap[b]?
theorem ChF.refl (F : Nat → Prop) (w : World) : ChF F w w := ⟨rfl, rfl, rfl, Nat.le_refl _, fun _ _ _ => rfl⟩
theorem ChF.trans {F F' : Nat → Prop} {a b c : World} (h : ChF F a b) (k : ChF F' b c) (hF : ∀ x, F' x → F x ∨ a.heap.size ≤ x) : ChF F a c :=
  ⟨k.os.trans h.os, k.tape.trans h.tape, k.output.trans h.output, Nat.le_trans h.size k.size, fun x hx hn => (k.block x (Nat.lt_of_lt_of_le hx h.size) (fun e => by rcases hF x e with q | q; exact hn q; omega)).trans (h.block x hx hn)⟩
theorem ChF.of_below {F : Nat → Prop} {w w' : World} (h : Below w.heap.size w w') : ChF F w w' := ⟨h.os, h.tape, h.output, h.size, fun b hb _ => h.block b hb⟩
theorem ChF.below {F : Nat → Prop} {w w' : World} (h : ChF F w w') {B : Nat} (hB : ∀ b, F b → B ≤ b) (hs : B ≤ w.heap.size) : Below B w w' := ⟨h.os, h.tape, h.output, h.size, fun b hb => h.block b (by omega) (fun e => by have := hB b e; omega)⟩
theorem ChF.of_grown {F : Nat → Prop} {w w' : World} {r : Option Nat} (h : w.grownBy w' r) (hr : ∀ k, r = some k → F k) : ChF F w w' := ⟨h.os, h.tape, h.output, h.size, fun b hb hn => h.block b hb (fun e => hn (hr b e.symm))⟩
theorem ChF.set {F : Nat → Prop} {w w' : World} (h : ChF F w w') {g i : Nat} {v : Value} (hg : F g ∨ w.heap.size ≤ g) : ChF F w (w'.setCell ⟨g, i, none⟩ v) :=
  ⟨h.os, h.tape, h.output, by simpa [World.setCell] using h.size, fun b hb hn => (heap_setCell_other _ ⟨g, i, none⟩ b _ (fun e => by subst e; rcases hg with q | q; exact hn q; omega)).trans (h.block b hb hn)⟩
/-- what is apart from the footprint is as it was. -/
theorem own_ChF {F : Nat → Prop} {w w' : World} {B n s : Nat} {T : TypeId} {v : Value} {xs : List Value} (h : w.ownsRow B T s v n xs) (hc : ChF F w w') (hn : ∀ b, v.ownBlock = some b → ¬ F b) : w'.ownsRow B T s v n xs := by
  refine ⟨h.1, ?_⟩
  rcases h.2 with e | ⟨g, cap, cur, rfl, hg, hh, rest⟩
  · exact .inl e
  · exact .inr ⟨g, cap, cur, rfl, hg, (hc.block g (Array.getElem?_eq_some_iff.1 hh).1 (hn g rfl)).trans hh, rest⟩
/-- bytes that are read, all in a block of the footprint. -/
structure ByF (w : World) (F : Nat → Prop) (x : HdT) (l : List Nat) : Prop where
  own : w.ownsRow 0 5 1 (SV x) l.length (l.map bv)
  len : x.2.1 = l.length
  bytes : Bytes l
  small : l.length ≤ 1000000000
  inF : ∀ b, (SV x).ownBlock = some b → F b
theorem ByF.nil (w : World) (F : Nat → Prop) : ByF w F (none, 0, 0) [] := ⟨⟨rfl, .inl ⟨rfl, rfl⟩⟩, rfl, fun x h => by (cases h), by simp, fun b h => by simp [SV, Value.ownBlock] at h⟩
theorem ByF.bytesV {w : World} {F : Nat → Prop} {x : HdT} {l : List Nat} (h : ByF w F x l) : BytesV w (x.1, l.length, x.2.2) l := by
  obtain ⟨h1, h2, h3, h4, -⟩ := h
  obtain ⟨x1, x2, x3⟩ := x
  simp only at h2
  subst h2
  exact bytesV_of_owns h1 h3 (by omega)
theorem ByF.keep {w w' : World} {F G : Nat → Prop} {x : HdT} {l : List Nat} (h : ByF w F x l) (hc : ChF G w w') (hn : ∀ b, (SV x).ownBlock = some b → ¬ G b) : ByF w' F x l := ⟨own_ChF h.own hc hn, h.len, h.bytes, h.small, h.inF⟩
theorem ByF.mono {w : World} {F F' : Nat → Prop} {x : HdT} {l : List Nat} (h : ByF w F x l) (hF : ∀ b, F b → F' b) : ByF w F' x l := ⟨h.own, h.len, h.bytes, h.small, fun b hb => hF b (h.inF b hb)⟩
end Go.Proofs.Ytdidalcflkphnaa
namespace Go.Proofs.Ytdidalcflkphnaa
open Go.RowKit

theorem run_append_two {P : Program} (w : World) (t ty e : TypeId) (i : TypeInfo) (z : Value) (bytes : Nat) (ht : P.underlying t = some (.slice e)) (hi : P.info? e = some i) (hz : i.zero = some z) (hsize : i.size = 1) (hby : i.bytes = bytes) (hzs : z.cells.size = 1)
    (v : Value) (n : Nat) (xs : List Value) (hown : w.ownsRow 0 e 1 v n xs)
    (a : Addr) (m c : Nat) (news : List Value) (hl : news.length = m) (hnews : ∀ j u, news[j]? = some u → w.cell? (a.add j) = some u) (h1 : ∀ u ∈ news, u.oneCell' = true)
    (h63 : n + m ≤ maxLen) (hbytes : (n + m) * bytes ≤ 140737488355328) :
    ∃ v' w', (Builtin.append_ #[t, t] ty #[v, .slice (some a) m c]).run P w = .ok v' w' ∧ w'.ownsRow 0 e 1 v' (n + m) (xs ++ news) ∧
      ((v'.ownBlock = v.ownBlock ∧ w.grownBy w' v.ownBlock) ∨ (v'.ownBlock = some w.heap.size ∧ Below w.heap.size w w')) := by
  have hl1 : news.length = m * 1 := by rw [hl, Nat.mul_one]
  obtain ⟨v', w', hr, h2, h3, -, h5⟩ := run_append_own_at (P := P) w 0 t ty e i z 1 bytes ht hi hz hsize hby hzs (by omega) v n xs hown a m c news hl1 hnews h1 h63 hbytes (by omega)
  refine ⟨v', w', hr, h2, ?_⟩
  rcases h5 with h5 | h5
  · exact .inl ⟨h5, h3⟩
  refine .inr ⟨h5, ?_⟩
  rcases hown.2 with ⟨rfl, rfl⟩ | ⟨g, cap, cur, rfl, _, hg, hnc, hcm, hcs, htake⟩
  · exact ⟨h3.os, h3.tape, h3.output, h3.size, fun b hb => h3.block b hb (by simp [Value.ownBlock])⟩
  · have hlt := (Array.getElem?_eq_some_iff.1 hg).1
    by_cases hroom : n + m ≤ cap
    · exfalso
      have hr2 := run_append_room (P := P) w t ty e i ht hi g n cap cur hg a m c news (by rw [hsize]; exact hl1) hnews h1 hroom (by rw [hsize]; omega)
      rw [hr] at hr2
      injection hr2 with e1 _
      rw [e1] at h5
      simp [Value.ownBlock] at h5
      omega
    · have hr2 := run_append_grow (P := P) w t ty e i z ht hi hz ⟨g, 0, none⟩ n cap xs (by rw [hsize]; exact hown.1) (hown.cells (g := g) rfl) a m c news (by rw [hsize]; exact hl1) hnews (by omega) (by simp only [maxLen] at h63; omega) (growslice_fits (by omega) (by rw [hby]; exact hbytes))
      rw [hr] at hr2
      injection hr2 with _ e2
      rw [e2]
      exact ⟨rfl, rfl, rfl, by simp, fun k hk => heap_alloc_old w.drew _ hk⟩
theorem wpList_append_two {P : Program} {w : World} {ops : Array Oper} {rest : List Oper} {o : Oper} {a : Act} {Q : Exit → Act → World → Prop} (hgd : o.guard = none) (s x : Operand) (t : TypeId)
    (ho : o.op = .call { callee := .builtin .append, args := #[s, x], argTypes := #[t, t] })
    (e : TypeId) (i : TypeInfo) (z : Value) (bytes : Nat) (ht : P.underlying t = some (.slice e)) (hi : P.info? e = some i) (hz : i.zero = some z) (hsize : i.size = 1) (hby : i.bytes = bytes) (hzs : z.cells.size = 1)
    (v : Value) (n : Nat) (xs : List Value) (hs : a.eval s = v) (hown : w.ownsRow 0 e 1 v n xs)
    (ad : Option Addr) (m c : Nat) (news : List Value) (hx : a.eval x = .slice ad m c) (hnews : RowV w ad m news) (hnil : ad = none → c = 0) (h1 : ∀ u ∈ news, u.oneCell' = true)
    (h63 : n + m ≤ maxLen) (hbytes : (n + m) * bytes ≤ 140737488355328)
    (h : ∀ v' w', w'.ownsRow 0 e 1 v' (n + m) (xs ++ news) → ((v'.ownBlock = v.ownBlock ∧ w.grownBy w' v.ownBlock) ∨ (v'.ownBlock = some w.heap.size ∧ Below w.heap.size w w')) → wpList P ops Q rest (a.put o.dst v') w') : wpList P ops Q (o :: rest) a w := by
  cases ad with
  | none =>
    have hm : m = 0 := by
      rcases Nat.eq_zero_or_pos m with h0 | h0
      · exact h0
      · obtain ⟨_, _, hh, _⟩ := hnews.2 h0; cases hh
    subst hm
    have hc := hnil rfl
    subst hc
    have hn : news = [] := List.eq_nil_of_length_eq_zero hnews.1
    subst hn
    refine wpList_append_own_none hgd s x t ho 0 e i 1 ht hi v n xs hs hown hx (h v w ?_ (.inl ⟨rfl, World.grownBy_refl _ _⟩))
    simpa using hown
  | some ad =>
    refine wpList_plain hgd fun K hK => ?_
    obtain ⟨v', w', hr, h2, h3⟩ := run_append_two (P := P) w t o.type e i z bytes ht hi hz hsize hby hzs v n xs hown ad m c news hnews.1 (fun j u hj => by
      have hjm : j < m := by rw [← hnews.1]; exact (List.getElem?_eq_some_iff.1 hj).1
      obtain ⟨b, off, hh, hc⟩ := hnews.2 (by omega)
      cases hh
      rw [← hj, ← hc j hjm]
      unfold Addr.add
      split
      · rename_i e0; subst e0; rfl
      · rfl) h1 h63 hbytes
    unfold Oper.wp execOp
    simp only [ho, resolve, invoke, builtin, Sem.run_bind, Sem.run_pure, Result.andThen_ok, List.map_toArray, List.map_cons, List.map_nil, hs, hx, hr]
    exact hK _ _ (h v' w' h2 h3)
end Go.Proofs.Ytdidalcflkphnaa
namespace Go.Proofs.Ytdidalcflkphnaa
open Go.RowKit

/-- the footprint with all that is new. -/
def Gr (F : Nat → Prop) (w w' : World) : Nat → Prop := fun b => F b ∨ (w.heap.size ≤ b ∧ b < w'.heap.size)
theorem Gr.old {F : Nat → Prop} {w w' : World} {b : Nat} (h : F b) : Gr F w w' b := .inl h
/-- the log: what is safe is a piece of its own, or the first bytes of what is read. -/
structure LogM (w : World) (F : Nat → Prop) (sa rd : HdT) (safe read : List Nat) : Prop where
  now : ByF w F rd read
  sv : BytesV w sa safe
  sF : ∀ b, (SV sa).ownBlock = some b → F b ∧ b < w.heap.size
  s0 : ∀ a, sa.1 = some a → a = ⟨a.block, 0, none⟩
  al : ∀ b, (SV sa).ownBlock = some b → (SV rd).ownBlock = some b → safe = read.take safe.length ∧ safe.length ≤ read.length
theorem BytesV.of_block {w w' : World} {x : HdT} {l : List Nat} (h : BytesV w x l) (hb : ∀ b, (SV x).ownBlock = some b → w'.heap[b]? = w.heap[b]?) : BytesV w' x l := by
  refine ⟨⟨h.row.1, fun h0 => ?_⟩, h.bytes, h.small, h.cap, h.nil⟩
  obtain ⟨b, off, e, hc⟩ := h.row.2 h0
  refine ⟨b, off, e, fun i hi => ?_⟩
  rw [← hc i hi]
  exact World.cell?_of_block (w := w) (w' := w') (a := ⟨b, off + i, none⟩) (hb b (by simp [SV, Value.ownBlock, e]))
theorem LogM.keep {w w' : World} {F G : Nat → Prop} {sa rd : HdT} {safe read : List Nat} (h : LogM w F sa rd safe read) (hc : ChF G w w') (hn : ∀ b, F b → ¬ G b) : LogM w' F sa rd safe read :=
  ⟨h.now.keep hc (fun b hb => hn b (h.now.inF b hb)), h.sv.of_block (fun b hb => hc.block b (h.sF b hb).2 (hn b (h.sF b hb).1)), fun b hb => ⟨(h.sF b hb).1, Nat.lt_of_lt_of_le (h.sF b hb).2 hc.size⟩, h.s0, h.al⟩
theorem LogM.mono {w : World} {F F' : Nat → Prop} {sa rd : HdT} {safe read : List Nat} (h : LogM w F sa rd safe read) (hF : ∀ b, F b → F' b) : LogM w F' sa rd safe read :=
  ⟨h.now.mono hF, h.sv, fun b hb => ⟨hF b (h.sF b hb).1, (h.sF b hb).2⟩, h.s0, h.al⟩
theorem LogM.append {w w' : World} {F : Nat → Prop} {sa rd : HdT} {safe read l : List Nat} {v' : Value} (h : LogM w F sa rd safe read) (hl : Bytes l) (hs : read.length + l.length ≤ 1000000000)
    (hE : w'.ownsRow 0 5 1 v' (read.length + l.length) (read.map bv ++ l.map bv)) (hc : (v'.ownBlock = (SV rd).ownBlock ∧ w.grownBy w' (SV rd).ownBlock) ∨ (v'.ownBlock = some w.heap.size ∧ Below w.heap.size w w')) :
    ∃ rd', v' = SV rd' ∧ LogM w' (Gr F w w') sa rd' safe (read ++ l) ∧ ChF F w w' := by
  obtain ⟨ad, cap, rfl, hcs, -⟩ := ownsRow_parts hE
  refine ⟨(ad, read.length + l.length, cap), rfl, ?_, ?_⟩
  · have hnew : ByF w' (Gr F w w') (ad, read.length + l.length, cap) (read ++ l) := by
      refine ⟨by rw [List.length_append, List.map_append]; exact hE, by simp, fun x hx => ?_, by simpa using hs, fun b hb => ?_⟩
      · rcases List.mem_append.1 hx with q | q
        · exact h.now.bytes x q
        · exact hl x q
      · rcases hc with ⟨e, -⟩ | ⟨e, k⟩
        · exact .inl (h.now.inF b (by rw [← e]; exact hb))
        · refine .inr ?_
          have hb2 := hE.lt b hb
          have : b = w.heap.size := by
            have := hb.symm.trans e
            injection this
          omega
    have hsz : w.heap.size ≤ w'.heap.size := by rcases hc with ⟨-, k⟩ | ⟨-, k⟩ <;> exact k.size
    refine ⟨hnew, ?_, fun b hb => ⟨.inl (h.sF b hb).1, Nat.lt_of_lt_of_le (h.sF b hb).2 hsz⟩, h.s0, fun b hb hb2 => ?_⟩
    · rcases hc with ⟨e, k⟩ | ⟨-, k⟩
      · by_cases hal : ∃ b, (SV sa).ownBlock = some b ∧ (SV rd).ownBlock = some b
        · obtain ⟨b, q1, q2⟩ := hal
          obtain ⟨q3, q4⟩ := h.al b q1 q2
          have hvl : safe.length = sa.2.1 := h.sv.length
          refine ⟨⟨h.sv.row.1, fun h0 => ?_⟩, h.sv.bytes, h.sv.small, h.sv.cap, h.sv.nil⟩
          obtain ⟨b', off, e', hcl⟩ := h.sv.row.2 h0
          have hz := h.s0 _ e'
          injection hz with _ hoff
          subst hoff
          have hbb : b' = b := by simpa [SV, Value.ownBlock, e'] using q1
          subst hbb
          have hadb : ad = some ⟨b', 0, none⟩ := by
            rcases hcs with ⟨-, q, -⟩ | ⟨g, q, -, -⟩
            · rw [q2] at e
              obtain ⟨e3, -⟩ | ⟨g, cap', cur, e2, _⟩ := hE.2
              · rw [e3] at e; simp [Value.ownBlock] at e
              · injection e2 with e2 _ _
                rw [e2] at e ⊢
                simp [Value.ownBlock] at e
                rw [e]
            · rw [q2, q] at e
              simp [Value.ownBlock] at e
              rw [q, e]
          subst hadb
          refine ⟨b', 0, e', fun i hi => ?_⟩
          rw [Nat.zero_add, hE.cellAt i (by omega)]
          rw [List.getElem?_append_left (by rw [List.length_map]; omega), List.getElem?_map, List.getElem?_map, q3, List.getElem?_take, if_pos (by omega)]
        · exact h.sv.of_block (fun b hb => k.block b (h.sF b hb).2 (fun e2 => hal ⟨b, hb, e2.symm⟩))
      · exact h.sv.of_block (fun b hb => k.block b (h.sF b hb).2)
    · rcases hc with ⟨e, -⟩ | ⟨e, k⟩
      · obtain ⟨q3, q4⟩ := h.al b hb (by rw [← e]; exact hb2)
        refine ⟨?_, by rw [List.length_append]; omega⟩
        rw [List.take_append_of_le_length q4]
        exact q3
      · exfalso
        have := (h.sF b hb).2
        have : b = w.heap.size := by
          have := hb2.symm.trans e
          injection this
        omega
  · rcases hc with ⟨-, k⟩ | ⟨-, k⟩
    · exact .of_grown k (fun b hb => h.now.inF b hb)
    · exact .of_below k
end Go.Proofs.Ytdidalcflkphnaa
namespace Go.Proofs.Ytdidalcflkphnaa
open Go.RowKit

/-- a slot's headers. -/
abbrev SlH := HdT × HdT × Bool
def kcells : List SlH → List Value
  | [] => []
  | x :: xs => SV x.1 :: SV x.2.1 :: .bool x.2.2 :: kcells xs
/-- the headers of the slots' bytes, one behind the other. -/
def hdr (hs : List SlH) (k : Nat) : Option HdT := (hs[k / 2]?).map fun x => if k % 2 = 0 then x.1 else x.2.1
/-- the slots. -/
structure SlM (w : World) (F : Nat → Prop) (sh : HdT) (hs : List SlH) (sl : List Slot) : Prop where
  own : w.ownsRow 0 KT 3 (SV sh) sl.length (kcells hs)
  len : sh.2.1 = sl.length
  hl : hs.length = sl.length
  inF : ∀ b, (SV sh).ownBlock = some b → F b
  each : ∀ (i : Nat) x s, hs[i]? = some x → sl[i]? = some s → x.2.2 = s.2.2 ∧ ByF w F x.1 s.1 ∧ ByF w F x.2.1 s.2.1
  apart : ∀ k l u v, hdr hs k = some u → hdr hs l = some v → k ≠ l → (SV u).ownBlock = none ∨ (SV u).ownBlock ≠ (SV v).ownBlock
theorem SlM.keep {w w' : World} {F G : Nat → Prop} {sh : HdT} {hs : List SlH} {sl : List Slot} (h : SlM w F sh hs sl) (hc : ChF G w w') (hn : ∀ b, F b → ¬ G b) : SlM w' F sh hs sl :=
  ⟨own_ChF h.own hc (fun b hb => hn b (h.inF b hb)), h.len, h.hl, h.inF, fun i x s a b => by
    obtain ⟨q1, q2, q3⟩ := h.each i x s a b
    exact ⟨q1, q2.keep hc (fun b hb => hn b (q2.inF b hb)), q3.keep hc (fun b hb => hn b (q3.inF b hb))⟩, h.apart⟩
/-- a disk. -/
def DiskM (w : World) (F : Nat → Prop) (g : Nat) (d : DV) : Prop :=
  ∃ (FL FS : Nat → Prop) (sa rd sh : HdT) (hs : List SlH),
    w.heap[g]? = some (.cells #[.int .i64 d.pow, SV sa, SV rd, .int .i64 (d.base : Nat), .bool d.laid, SV sh] DT (0, 0)) ∧
    LogM w FL sa rd d.safe d.read ∧ SlM w FS sh hs d.sl ∧ (∀ b, FL b → F b ∧ ¬ FS b ∧ b ≠ g) ∧ (∀ b, FS b → F b ∧ b ≠ g) ∧ F g ∧ (∀ b, F b → b < w.heap.size) ∧ d.base ≤ d.read.length ∧ d.pow ≤ 9223372036854775807
theorem DiskM.keep {w w' : World} {F G : Nat → Prop} {g : Nat} {d : DV} (h : DiskM w F g d) (hc : ChF G w w') (hn : ∀ b, F b → ¬ G b) : DiskM w' F g d := by
  obtain ⟨FL, FS, sa, rd, sh, hs, h1, h2, h3, h4, h5, h6, h7, h8, h9⟩ := h
  exact ⟨FL, FS, sa, rd, sh, hs, (hc.block g (h7 g h6) (hn g h6)).trans h1, h2.keep hc (fun b hb => hn b (h4 b hb).1), h3.keep hc (fun b hb => hn b (h5 b hb).1), h4, h5, h6, fun b hb => Nat.lt_of_lt_of_le (h7 b hb) hc.size, h8, h9⟩
def appV (d : DV) (l : List Nat) : DV × Int := if d.pow = 0 then (d, 81) else ({ d with pow := (spendV d.pow).1, read := d.read ++ l }, 0)
theorem cells6D {w : World} {b : Nat} {v0 v1 v2 v3 v4 v5 : Value} {T : TypeId} (h : w.heap[b]? = some (.cells #[v0, v1, v2, v3, v4, v5] T (0, 0))) :
    w.cell? ⟨b, 0, none⟩ = some v0 ∧ w.cell? ⟨b, 1, none⟩ = some v1 ∧ w.cell? ⟨b, 2, none⟩ = some v2 ∧ w.cell? ⟨b, 3, none⟩ = some v3 ∧ w.cell? ⟨b, 4, none⟩ = some v4 ∧ w.cell? ⟨b, 5, none⟩ = some v5 ∧ ∀ j, w.frozen? ⟨b, j, none⟩ = false :=
  ⟨cell_of_row _ _ 0 _ _ _ h, cell_of_row _ _ 1 _ _ _ h, cell_of_row _ _ 2 _ _ _ h, cell_of_row _ _ 3 _ _ _ h, cell_of_row _ _ 4 _ _ _ h, cell_of_row _ _ 5 _ _ _ h, fun _ => frozen_of_row _ _ _ _ _ h⟩
/-- the power's cell is set. -/
theorem pow_set {w : World} {g : Nat} {v0 v1 v2 v3 v4 v5 : Value} {T : TypeId} (p : Value) (h : w.heap[g]? = some (.cells #[v0, v1, v2, v3, v4, v5] T (0, 0))) : (w.setCell ⟨g, 0, none⟩ p).heap[g]? = some (.cells #[p, v1, v2, v3, v4, v5] T (0, 0)) := heap_setCell_same _ _ 0 _ _ _ h
theorem read_set {w : World} {g : Nat} {v0 v1 v2 v3 v4 v5 : Value} {T : TypeId} (p : Value) (h : w.heap[g]? = some (.cells #[v0, v1, v2, v3, v4, v5] T (0, 0))) : (w.setCell ⟨g, 2, none⟩ p).heap[g]? = some (.cells #[v0, v1, p, v3, v4, v5] T (0, 0)) := heap_setCell_same _ _ 2 _ _ _ h
/-- behind spend: the same disk with less power. -/
theorem spent {w : World} {F : Nat → Prop} {g : Nat} {d : DV} (h : DiskM w F g d) (h0 : d.pow ≠ 0) : ∀ w', (w' = if 0 < d.pow then w.setCell ⟨g, 0, none⟩ (.int .i64 (spendV d.pow).1) else w) → DiskM w' F g { d with pow := (spendV d.pow).1 } ∧ ChF F w w' ∧ w'.heap.size = w.heap.size := by
  rintro w' rfl
  obtain ⟨FL, FS, sa, rd, sh, hs, h1, h2, h3, h4, h5, h6, h7, h8, h9⟩ := h
  by_cases hp : 0 < d.pow
  · rw [if_pos hp]
    have hc : ChF (fun b => b = g) w (w.setCell ⟨g, 0, none⟩ (.int .i64 (spendV d.pow).1)) := (ChF.refl _ w).set (.inl rfl)
    refine ⟨⟨FL, FS, sa, rd, sh, hs, pow_set _ h1, h2.keep hc (fun b hb e => (h4 b hb).2.2 e), h3.keep hc (fun b hb e => (h5 b hb).2 e), h4, h5, h6, fun b hb => by simpa [World.setCell] using h7 b hb, h8, ?_⟩, (ChF.refl F w).set (.inl h6), by simp [World.setCell]⟩
    simp only [spendV, if_neg h0, if_pos hp]
    omega
  · rw [if_neg hp]
    have hs' : (spendV d.pow).1 = d.pow := by simp only [spendV, if_neg h0, if_neg hp]
    rw [hs']
    exact ⟨⟨FL, FS, sa, rd, sh, hs, h1, h2, h3, h4, h5, h6, h7, h8, h9⟩, .refl _ _, rfl⟩
theorem spend_ok {p : Int} (h : p ≠ 0) : (spendV p).2 = 0 := by
  unfold spendV
  rw [if_neg h]
  split <;> rfl
theorem spend_none : (spendV 0).2 = 81 := rfl
theorem BytesV.ofChF {w w' : World} {F : Nat → Prop} {x : HdT} {l : List Nat} (h : BytesV w x l) (hc : ChF F w w') (hn : 0 < x.2.1 → ∀ b, (SV x).ownBlock = some b → ¬ F b) : BytesV w' x l := by
  refine ⟨⟨h.row.1, fun h0 => ?_⟩, h.bytes, h.small, h.cap, h.nil⟩
  obtain ⟨b, off, e, hcl⟩ := h.row.2 h0
  refine ⟨b, off, e, fun i hi => ?_⟩
  have hl : i < (l.map bv).length := by rw [h.row.1]; exact hi
  have hci := hcl i hi
  rw [List.getElem?_eq_getElem hl] at hci
  rw [← hcl i hi]
  exact World.cell?_of_block (w := w) (w' := w') (a := ⟨b, off + i, none⟩) (hc.block b (World.block_lt_of_cell? w ⟨b, off + i, none⟩ hci) (hn h0 b (by simp [SV, Value.ownBlock, e])))
set_option maxRecDepth 100000 in
set_option maxHeartbeats 4000000 in
theorem add_any (g : Nat) (rd : HdT) (read : List Nat) (ba : Option Addr) (bn bc : Nat) (l : List Nat) (w : World) (h : w.cell? ⟨g, 2, none⟩ = some (SV rd)) (hf : w.frozen? ⟨g, 2, none⟩ = false) (hown : w.ownsRow 0 5 1 (SV rd) read.length (read.map bv)) (hg : ∀ b, (SV rd).ownBlock = some b → b ≠ g) (hb : BytesV w (ba, bn, bc) l) (hs : read.length + l.length ≤ 1000000000) :
    Calls Try.prog 45 #[.pointer (some ⟨g, 1, none⟩), .slice ba bn bc] w fun e w' => e = .returned (.tuple #[]) ∧ ∃ v' w1, w1.ownsRow 0 5 1 v' (read.length + l.length) (read.map bv ++ l.map bv) ∧ ((v'.ownBlock = (SV rd).ownBlock ∧ w.grownBy w1 (SV rd).ownBlock) ∨ (v'.ownBlock = some w.heap.size ∧ Below w.heap.size w w1)) ∧ w' = w1.setCell ⟨g, 2, none⟩ v' := by
  obtain ⟨i0, hi, hz0, hz1, hz2⟩ := info_parts Try.info5
  have hbl : l.length = bn := hb.length
  have hgl := World.block_lt_of_cell? w ⟨g, 2, none⟩ h
  obtain ⟨r1, r2, r3⟩ := rd
  replace h : w.cell? ⟨g, 2, none⟩ = some (.slice r1 r2 r3) := h
  have HB := Lib.hid hb
  have HO := Lib.hid hown
  have HG := Lib.hid hg
  have HF := Lib.hid hf
  have HL := Lib.hid hbl
  have HBLK := Lib.hid (show ∀ w1 : World, w1.heap[g]? = w.heap[g]? → w1.cell? ⟨g, 2, none⟩ = some (.slice r1 r2 r3) ∧ w1.frozen? ⟨g, 2, none⟩ = false from fun w1 e => ⟨(World.cell?_of_block (w := w) (w' := w1) (a := ⟨g, 2, none⟩) e).trans h, (World.frozen?_of_block (w := w) (w' := w1) (a := ⟨g, 2, none⟩) e).trans hf⟩)
  clear hb hown hg hf hbl
  go_enter Try.func45, Try.ntmps45
  go_wp2_with (first | (at_builtin; refine Hid.out ?_))
  refine Lib.hid ?_
  refine wpList_append_two rfl _ _ 28 rfl 5 i0 (.int .u8 0) 1 Try.underlying28 hi hz0 hz1 hz2 rfl _ _ _ rfl HO.out ba bn bc (l.map bv) rfl HB.out.row HB.out.nil (bv_one l) (by have := HL.out; simp [maxLen]; omega) (by have := HL.out; omega) ?_
  intro v' w1 hE hcs
  rw [← HL.out] at hE
  obtain ⟨k1, k2⟩ := HBLK.out w1 (by
    rcases hcs with ⟨-, k⟩ | ⟨-, k⟩
    · exact k.block g hgl (fun e => HG.out g e.symm rfl)
    · exact k.block g hgl)
  have HE := Lib.hid hE
  have HC := Lib.hid hcs
  obtain ⟨ad, cap, rfl, -, -⟩ := ownsRow_parts hE
  clear hE hcs h
  go_wp2
  exact bodyPost_end (v := .tuple #[]) (results_none rfl _ _ _) rfl ⟨rfl, _, w1, HE.out, HC.out, rfl⟩
set_option maxRecDepth 100000 in
set_option maxHeartbeats 4000000 in
theorem append_any (F : Nat → Prop) (g : Nat) (d : DV) (ba : Option Addr) (bn bc : Nat) (l : List Nat) (w : World) (hD : DiskM w F g d) (hb : BytesV w (ba, bn, bc) l) (hbF : 0 < bn → ∀ b, (SV (ba, bn, bc)).ownBlock = some b → ¬ F b) (hs : d.read.length + l.length ≤ 1000000000) :
    Calls Try.prog 20 #[.pointer (some ⟨g, 0, none⟩), .slice ba bn bc] w fun e w' => e = .returned (.int .i64 (appV d l).2) ∧ DiskM w' (Gr F w w') g (appV d l).1 ∧ ChF F w w' := by
  obtain ⟨i0, hi, hz0, hz1, hz2⟩ := info_parts Try.info5
  have HD := Lib.hid hD
  obtain ⟨FL, FS, sa, rd, sh, hs', h1, h2, h3, h4, h5, h6, h7, h8, h9⟩ := hD
  obtain ⟨c0, -, -, -, -, -, cF⟩ := cells6D h1
  have KS := spend_any g d.pow w c0 (cF 0) h9
  have HB := Lib.hid hb
  have HBF := Lib.hid hbF
  have HS := Lib.hid hs
  have HG := Lib.hid h6
  clear h1 h2 h3 h4 h5 h7 h8 c0 cF hs hbF
  unfold appV
  by_cases h0 : d.pow = 0
  · rw [h0, spend_none] at KS
    rw [if_pos h0]
    go_enter Try.func20, Try.ntmps20
    go_wp2_with fail
    (with_reducible refine KS.mono ?_)
    rintro e w1 ⟨rfl, hw⟩
    rw [if_neg (by decide)] at hw
    subst hw
    clear KS
    go_wp2
    go_ret
    refine ⟨rfl, ?_, .refl _ _⟩
    obtain ⟨FL, FS, sa, rd, sh, hs, h1, h2, h3, h4, h5, h6, h7, h8, h9⟩ := HD.out
    exact ⟨FL, FS, sa, rd, sh, hs, h1, h2, h3, fun b hb => ⟨.inl (h4 b hb).1, (h4 b hb).2⟩, fun b hb => ⟨.inl (h5 b hb).1, (h5 b hb).2⟩, .inl h6, fun b hb => by rcases hb with q | q; exact h7 b q; omega, h8, h9⟩
  · rw [spend_ok h0] at KS
    rw [if_neg h0]
    go_enter Try.func20, Try.ntmps20
    go_wp2_with fail
    (with_reducible refine KS.mono ?_)
    rintro e w1 ⟨rfl, hw⟩
    obtain ⟨hd1, hc1, hsz⟩ := spent HD.out h0 w1 hw
    clear KS hw
    obtain ⟨FL, FS, sa, rd, sh, hs, h1, h2, h3, h4, h5, h6, h7, h8, h9⟩ := hd1
    simp only at h1 h2 h3 h8 h9
    obtain ⟨c0, c1, c2, c3, c4, c5, cF⟩ := cells6D h1
    have cF2 := cF 2
    have HBV := Lib.hid (HB.out.ofChF hc1 HBF.out)
    have HC1 := Lib.hid hc1
    have KA := add_any g rd d.read ba bn bc l w1 c2 cF2 h2.now.own (fun b hb => (h4 b (h2.now.inF b hb)).2.2) HBV.out HS.out
    have HFIN := Lib.hid (show ∀ v' w2, w2.ownsRow 0 5 1 v' (d.read.length + l.length) (d.read.map bv ++ l.map bv) → ((v'.ownBlock = (SV rd).ownBlock ∧ w1.grownBy w2 (SV rd).ownBlock) ∨ (v'.ownBlock = some w1.heap.size ∧ Below w1.heap.size w1 w2)) → DiskM (w2.setCell ⟨g, 2, none⟩ v') (Gr F w (w2.setCell ⟨g, 2, none⟩ v')) g { d with pow := (spendV d.pow).1, read := d.read ++ l } ∧ ChF F w (w2.setCell ⟨g, 2, none⟩ v') from fun v' w2 hE hcs => by
      obtain ⟨rd', rfl, q1, q2⟩ := h2.append HB.out.bytes HS.out hE hcs
      have hblk : w2.heap[g]? = w1.heap[g]? := q2.block g (h7 g h6) (fun e => (h4 g e).2.2 rfl)
      have hcF : ChF F w1 w2 := ⟨q2.os, q2.tape, q2.output, q2.size, fun b hb hn => q2.block b hb (fun e => hn (h4 b e).1)⟩
      have hset : ChF (fun b => b = g) w2 (w2.setCell ⟨g, 2, none⟩ (SV rd')) := (ChF.refl _ w2).set (.inl rfl)
      have hz : w1.heap.size ≤ w2.heap.size := q2.size
      refine ⟨⟨Gr FL w1 w2, FS, sa, rd', sh, hs, read_set _ (hblk.trans h1), q1.keep hset (fun b hb e => by
        subst e
        rcases hb with k | k
        · exact (h4 b k).2.2 rfl
        · have := h7 b h6; omega), (h3.keep q2 (fun b hb e => (h4 b e).2.1 hb)).keep hset (fun b hb e => (h5 b hb).2 e), fun b hb => ?_, fun b hb => ⟨.inl (h5 b hb).1, (h5 b hb).2⟩, .inl h6, fun b hb => ?_, by simp; omega, h9⟩, (HC1.out.trans hcF (fun b hb => .inl hb)).set (.inl h6)⟩
      · rcases hb with k | k
        · exact ⟨.inl (h4 b k).1, (h4 b k).2⟩
        · refine ⟨.inr ⟨by rw [← hsz]; exact k.1, by simpa [World.setCell] using k.2⟩, fun e => ?_, fun e => ?_⟩
          · have := h7 b (h5 b e).1; omega
          · subst e; have := h7 b h6; omega
      · rcases hb with k | k
        · have := h7 b k
          simp [World.setCell]; omega
        · exact k.2)
    clear h1 h2 h3 h4 h5 h6 h7 h8 h9 c0 c1 c2 c3 c4 c5 cF cF2 hc1
    go_wp2_with fail
    (with_reducible refine KA.mono ?_)
    rintro e w2 ⟨rfl, v', w3, hE, hcs, rfl⟩
    have HF2 := Lib.hid (HFIN.out v' w3 hE hcs)
    clear KA HFIN hE hcs
    go_wp2
    go_ret
    exact ⟨rfl, HF2.out.1, HF2.out.2⟩
end Go.Proofs.Ytdidalcflkphnaa
namespace Go.Proofs.Ytdidalcflkphnaa
open Go.RowKit

set_option maxRecDepth 100000 in
set_option maxHeartbeats 4000000 in
theorem log_any (F : Nat → Prop) (g : Nat) (d : DV) (w : World) (hD : DiskM w F g d) :
    Calls Try.prog 26 #[.pointer (some ⟨g, 0, none⟩)] w (GivesBytes 5 w d.read) := by
  obtain ⟨FL, FS, sa, rd, sh, hs, h1, h2, h3, h4, h5, h6, h7, h8, h9⟩ := hD
  obtain ⟨-, -, c2, -, -, -, cF⟩ := cells6D h1
  have hb : BytesV w (rd.1, rd.2.1, rd.2.2) d.read := by
    have k := h2.now.bytesV
    rw [← h2.now.len] at k
    exact k
  clear h1 h2 h3 h4 h5 h6 h7 h8 h9
  obtain ⟨r1, r2, r3⟩ := rd
  replace c2 : w.cell? ⟨g, 2, none⟩ = some (.slice r1 r2 r3) := c2
  have KC := clone_any r1 r2 r3 d.read w hb
  clear hb
  go_enter Try.func26, Try.ntmps26
  go_wp2_with fail
  (with_reducible refine KC.mono ?_)
  rintro e w' ⟨a, c, rfl, o, b⟩
  clear KC
  go_wp2
  go_ret
  exact ⟨a, c, rfl, o, b⟩
set_option maxRecDepth 100000 in
set_option maxHeartbeats 4000000 in
theorem secure_any (g : Nat) (r1 : Option Addr) (n c : Nat) (v1 v3 v4 : Value) (w : World) (hn : n ≤ c) (hs : n ≤ 1000000000)
    (k1 : w.cell? ⟨g, 1, none⟩ = some v1) (k2 : w.cell? ⟨g, 2, none⟩ = some (.slice r1 n c)) (k3 : w.cell? ⟨g, 3, none⟩ = some v3) (k4 : w.cell? ⟨g, 4, none⟩ = some v4) (hf : ∀ j, w.frozen? ⟨g, j, none⟩ = false) :
    Calls Try.prog 42 #[.pointer (some ⟨g, 1, none⟩)] w fun e w' => e = .returned (.tuple #[]) ∧ w' = (((w.setCell ⟨g, 1, none⟩ (.slice r1 n n)).setCell ⟨g, 3, none⟩ (.int .i64 (n : Nat))).setCell ⟨g, 4, none⟩ (.bool false)).drew := by
  have f1 := hf 1
  have f2 := hf 2
  have f3 := hf 3
  have f4 := hf 4
  have hq1 : (0 : Int) ≤ (n : Int) := by omega
  have hq2 : (n : Int) ≤ (c : Int) := by omega
  clear hf
  go_enter Try.func42, Try.ntmps42
  go_wp2
  go_still_tail 16, (by kernel_rfl)
  go_wp2
  exact bodyPost_end (v := .tuple #[]) (results_none rfl _ _ _) rfl ⟨rfl, rfl⟩
theorem LogM.secure {w : World} {F : Nat → Prop} {sa : HdT} {r1 : Option Addr} {n c : Nat} {safe read : List Nat} (h : LogM w F sa (r1, n, c) safe read) : LogM w F (r1, n, n) (r1, n, c) read read := by
  have hl : n = read.length := h.now.len
  have hb := h.now.bytesV
  rw [← hl] at hb
  obtain ⟨ad, cap, e, hcs, -⟩ := ownsRow_parts h.now.own
  refine ⟨h.now, ⟨hb.row, hb.bytes, hb.small, Nat.le_refl _, fun e => ?_⟩, fun b hb => ⟨h.now.inF b (by cases r1 <;> exact hb), (h.now.own.lt b (by cases r1 <;> exact hb)).2⟩, fun a ha => ?_, fun b _ _ => ⟨by rw [List.take_length], Nat.le_refl _⟩⟩
  · have h1 := hb.nil e
    have h2 := hb.cap
    simp only at h1 h2 ⊢
    omega
  · injection e with e1 e2 e3
    subst e1
    rcases hcs with ⟨e4, -⟩ | ⟨k, e4, -⟩
    · rw [e4] at ha; cases ha
    · rw [e4] at ha; injection ha with ha; rw [← ha]
def syncV (d : DV) : DV × Int := if d.pow = 0 then (d, 81) else ({ d with pow := (spendV d.pow).1, safe := d.read, base := d.read.length, laid := false }, 0)
theorem sync_set {w : World} {g : Nat} {v0 v1 v2 v3 v4 v5 : Value} {T : TypeId} (p q r : Value) (h : w.heap[g]? = some (.cells #[v0, v1, v2, v3, v4, v5] T (0, 0))) : (((w.setCell ⟨g, 1, none⟩ p).setCell ⟨g, 3, none⟩ q).setCell ⟨g, 4, none⟩ r).drew.heap[g]? = some (.cells #[v0, p, v2, q, r, v5] T (0, 0)) :=
  heap_setCell_same _ _ 4 _ _ _ (heap_setCell_same _ _ 3 _ _ _ (heap_setCell_same _ _ 1 _ _ _ h))
theorem ChF.drew {F : Nat → Prop} {w w' : World} (h : ChF F w w') : ChF F w w'.drew := ⟨h.os, h.tape, h.output, h.size, h.block⟩
set_option maxRecDepth 100000 in
set_option maxHeartbeats 4000000 in
theorem sync_any (F : Nat → Prop) (g : Nat) (d : DV) (w : World) (hD : DiskM w F g d) :
    Calls Try.prog 24 #[.pointer (some ⟨g, 0, none⟩)] w fun e w' => e = .returned (.int .i64 (syncV d).2) ∧ DiskM w' F g (syncV d).1 ∧ ChF F w w' := by
  have HD := Lib.hid hD
  obtain ⟨FL, FS, sa, rd, sh, hs', h1, h2, h3, h4, h5, h6, h7, h8, h9⟩ := hD
  obtain ⟨c0, -, -, -, -, -, cF⟩ := cells6D h1
  have KS := spend_any g d.pow w c0 (cF 0) h9
  clear h1 h2 h3 h4 h5 h6 h7 h8 c0 cF
  unfold syncV
  by_cases h0 : d.pow = 0
  · rw [h0, spend_none] at KS
    rw [if_pos h0]
    go_enter Try.func24, Try.ntmps24
    go_wp2_with fail
    (with_reducible refine KS.mono ?_)
    rintro e w1 ⟨rfl, hw⟩
    rw [if_neg (by decide)] at hw
    subst hw
    clear KS
    go_wp2
    go_ret
    exact ⟨rfl, HD.out, .refl _ _⟩
  · rw [spend_ok h0] at KS
    rw [if_neg h0]
    go_enter Try.func24, Try.ntmps24
    go_wp2_with fail
    (with_reducible refine KS.mono ?_)
    rintro e w1 ⟨rfl, hw⟩
    obtain ⟨hd1, hc1, hsz⟩ := spent HD.out h0 w1 hw
    clear KS hw
    obtain ⟨FL, FS, sa, rd, sh, hs, h1, h2, h3, h4, h5, h6, h7, h8, h9⟩ := hd1
    simp only at h1 h2 h3 h8 h9
    obtain ⟨c0, c1, c2, c3, c4, c5, cF⟩ := cells6D h1
    obtain ⟨r1, n, c⟩ := rd
    have hb := h2.now.bytesV
    have hl : n = d.read.length := h2.now.len
    have KA := secure_any g r1 n c _ _ _ w1 (by have := hb.cap; simp only at this; omega) (by have := h2.now.small; omega) c1 c2 c3 c4 cF
    have HFIN := Lib.hid (show ∀ w2, w2 = (((w1.setCell ⟨g, 1, none⟩ (.slice r1 n n)).setCell ⟨g, 3, none⟩ (.int .i64 (n : Nat))).setCell ⟨g, 4, none⟩ (.bool false)).drew → DiskM w2 F g { d with pow := (spendV d.pow).1, safe := d.read, base := d.read.length, laid := false } ∧ ChF F w w2 from fun w2 e => by
      subst e
      have hset : ChF (fun b => b = g) w1 (((w1.setCell ⟨g, 1, none⟩ (.slice r1 n n)).setCell ⟨g, 3, none⟩ (.int .i64 (n : Nat))).setCell ⟨g, 4, none⟩ (.bool false)).drew := ((((ChF.refl (fun b => b = g) w1).set (g := g) (.inl (show g = g from rfl))).set (g := g) (.inl (show g = g from rfl))).set (g := g) (.inl (show g = g from rfl))).drew
      refine ⟨⟨FL, FS, (r1, n, n), (r1, n, c), sh, hs, ?_, h2.secure.keep hset (fun b hb e => (h4 b hb).2.2 e), h3.keep hset (fun b hb e => (h5 b hb).2 e), h4, h5, h6, fun b hb => by simpa [World.setCell] using h7 b hb, Nat.le_refl _, h9⟩, (((hc1.set (.inl h6)).set (.inl h6)).set (.inl h6)).drew⟩
      have := sync_set (.slice r1 n n) (.int .i64 (n : Nat)) (.bool false) h1
      rw [this, hl]; rfl)
    clear h1 h2 h3 h4 h5 h6 h7 h8 h9 c0 c1 c2 c3 c4 c5 cF hc1 hb
    go_wp2_with fail
    (with_reducible refine KA.mono ?_)
    rintro e w2 ⟨rfl, hw2⟩
    have HF2 := Lib.hid (HFIN.out w2 hw2)
    clear KA HFIN hw2
    go_wp2
    go_ret
    exact ⟨rfl, HF2.out.1, HF2.out.2⟩
end Go.Proofs.Ytdidalcflkphnaa
namespace Go.Proofs.Ytdidalcflkphnaa
open Go.RowKit

theorem own_zero {w : World} {B n s : Nat} {T : TypeId} {v : Value} {xs : List Value} (h : w.ownsRow B T s v n xs) : w.ownsRow 0 T s v n xs := by
  refine ⟨h.1, ?_⟩
  rcases h.2 with e | ⟨g, cap, cur, e, -, rest⟩
  · exact .inl e
  · exact .inr ⟨g, cap, cur, e, Nat.zero_le _, rest⟩
theorem ChF.widen {F F' : Nat → Prop} {w w' : World} (h : ChF F w w') (k : ∀ b, F b → F' b) : ChF F' w w' := ⟨h.os, h.tape, h.output, h.size, fun b hb hn => h.block b hb (fun e => hn (k b e))⟩
set_option maxRecDepth 100000 in
set_option maxHeartbeats 4000000 in
theorem jlay_any (g : Nat) (ba : Option Addr) (bn bc : Nat) (l : List Nat) (v2 v3 v4 : Value) (w : World) (hb : BytesV w (ba, bn, bc) l)
    (k2 : w.cell? ⟨g, 2, none⟩ = some v2) (k3 : w.cell? ⟨g, 3, none⟩ = some v3) (k4 : w.cell? ⟨g, 4, none⟩ = some v4) (hf : ∀ j, w.frozen? ⟨g, j, none⟩ = false) :
    Calls Try.prog 40 #[.pointer (some ⟨g, 1, none⟩), .slice ba bn bc] w fun e w' => e = .returned (.tuple #[]) ∧ ∃ a c w1, w1.ownsRow w.heap.size 5 1 (.slice a l.length c) l.length (l.map bv) ∧ Below w.heap.size w w1 ∧ w' = ((w1.setCell ⟨g, 2, none⟩ (.slice a l.length c)).setCell ⟨g, 3, none⟩ (.int .i64 (l.length : Nat))).setCell ⟨g, 4, none⟩ (.bool true) := by
  have hg := World.block_lt_of_cell? w ⟨g, 2, none⟩ k2
  have KC := clone_any ba bn bc l w hb
  have hl : l.length = bn := hb.length
  have HK := Lib.hid (show ∀ w1 : World, Below w.heap.size w w1 → (w1.cell? ⟨g, 2, none⟩ = some v2 ∧ w1.cell? ⟨g, 3, none⟩ = some v3 ∧ w1.cell? ⟨g, 4, none⟩ = some v4) ∧ ∀ j, w1.frozen? ⟨g, j, none⟩ = false from fun w1 b => by
    have e := b.block g hg
    exact ⟨⟨(World.cell?_of_block (w := w) (w' := w1) (a := ⟨g, 2, none⟩) e).trans k2, (World.cell?_of_block (w := w) (w' := w1) (a := ⟨g, 3, none⟩) e).trans k3, (World.cell?_of_block (w := w) (w' := w1) (a := ⟨g, 4, none⟩) e).trans k4⟩, fun j => (World.frozen?_of_block (w := w) (w' := w1) (a := ⟨g, j, none⟩) e).trans (hf j)⟩)
  have HL := Lib.hid hl
  clear hb k2 k3 k4 hf hl
  go_enter Try.func40, Try.ntmps40
  go_wp2_with fail
  (with_reducible refine KC.mono ?_)
  rintro e w1 ⟨a, c, rfl, o, b⟩
  obtain ⟨⟨k2, k3, k4⟩, hf⟩ := HK.out w1 b
  have f2 := hf 2
  have f3 := hf 3
  have f4 := hf 4
  have HO := Lib.hid o
  have HB := Lib.hid b
  clear KC HK o b hf
  go_wp2
  refine bodyPost_end (v := .tuple #[]) (results_none rfl _ _ _) rfl ⟨rfl, a, c, w1, HO.out, HB.out, ?_⟩
  rw [HL.out]
def layV (d : DV) (l : List Nat) : DV × Int := if d.pow = 0 then (d, 81) else ({ d with pow := (spendV d.pow).1, read := l, base := l.length, laid := true }, 0)
theorem lay_set {w : World} {g : Nat} {v0 v1 v2 v3 v4 v5 : Value} {T : TypeId} (p q r : Value) (h : w.heap[g]? = some (.cells #[v0, v1, v2, v3, v4, v5] T (0, 0))) : (((w.setCell ⟨g, 2, none⟩ p).setCell ⟨g, 3, none⟩ q).setCell ⟨g, 4, none⟩ r).heap[g]? = some (.cells #[v0, v1, p, q, r, v5] T (0, 0)) :=
  heap_setCell_same _ _ 4 _ _ _ (heap_setCell_same _ _ 3 _ _ _ (heap_setCell_same _ _ 2 _ _ _ h))
theorem LogM.lay {w w' : World} {F : Nat → Prop} {sa rd : HdT} {a : Option Addr} {c : Nat} {safe read l : List Nat} (h : LogM w F sa rd safe read) (hl : Bytes l) (hs : l.length ≤ 1000000000)
    (o : w'.ownsRow w.heap.size 5 1 (.slice a l.length c) l.length (l.map bv)) (b : Below w.heap.size w w') : LogM w' (Gr F w w') sa (a, l.length, c) safe l := by
  refine ⟨⟨own_zero o, rfl, hl, hs, fun k hk => .inr (o.lt k hk)⟩, h.sv.of_block (fun k hk => b.block k (h.sF k hk).2), fun k hk => ⟨.inl (h.sF k hk).1, Nat.lt_of_lt_of_le (h.sF k hk).2 b.size⟩, h.s0, fun k h1 h2 => ?_⟩
  have q1 := (h.sF k h1).2
  have q2 := (o.lt k h2).1
  omega
set_option maxRecDepth 100000 in
set_option maxHeartbeats 4000000 in
theorem lay_any (F : Nat → Prop) (g : Nat) (d : DV) (ba : Option Addr) (bn bc : Nat) (l : List Nat) (w : World) (hD : DiskM w F g d) (hb : BytesV w (ba, bn, bc) l) (hbF : 0 < bn → ∀ b, (SV (ba, bn, bc)).ownBlock = some b → ¬ F b) (hs : l.length ≤ 1000000000) :
    Calls Try.prog 21 #[.pointer (some ⟨g, 0, none⟩), .slice ba bn bc] w fun e w' => e = .returned (.int .i64 (layV d l).2) ∧ DiskM w' (Gr F w w') g (layV d l).1 ∧ ChF F w w' := by
  have HD := Lib.hid hD
  obtain ⟨FL, FS, sa, rd, sh, hs', h1, h2, h3, h4, h5, h6, h7, h8, h9⟩ := hD
  obtain ⟨c0, -, -, -, -, -, cF⟩ := cells6D h1
  have KS := spend_any g d.pow w c0 (cF 0) h9
  have HB := Lib.hid hb
  have HBF := Lib.hid hbF
  have HS := Lib.hid hs
  clear h1 h2 h3 h4 h5 h7 h8 c0 cF hs hbF
  unfold layV
  by_cases h0 : d.pow = 0
  · rw [h0, spend_none] at KS
    rw [if_pos h0]
    go_enter Try.func21, Try.ntmps21
    go_wp2_with fail
    (with_reducible refine KS.mono ?_)
    rintro e w1 ⟨rfl, hw⟩
    rw [if_neg (by decide)] at hw
    subst hw
    clear KS
    go_wp2
    go_ret
    refine ⟨rfl, ?_, .refl _ _⟩
    obtain ⟨FL, FS, sa, rd, sh, hs, h1, h2, h3, h4, h5, h6, h7, h8, h9⟩ := HD.out
    exact ⟨FL, FS, sa, rd, sh, hs, h1, h2, h3, fun b hb => ⟨.inl (h4 b hb).1, (h4 b hb).2⟩, fun b hb => ⟨.inl (h5 b hb).1, (h5 b hb).2⟩, .inl h6, fun b hb => by rcases hb with q | q; exact h7 b q; omega, h8, h9⟩
  · rw [spend_ok h0] at KS
    rw [if_neg h0]
    go_enter Try.func21, Try.ntmps21
    go_wp2_with fail
    (with_reducible refine KS.mono ?_)
    rintro e w1 ⟨rfl, hw⟩
    obtain ⟨hd1, hc1, hsz⟩ := spent HD.out h0 w1 hw
    clear KS hw
    obtain ⟨FL, FS, sa, rd, sh, hs, h1, h2, h3, h4, h5, h6, h7, h8, h9⟩ := hd1
    simp only at h1 h2 h3 h8 h9
    obtain ⟨c0, c1, c2, c3, c4, c5, cF⟩ := cells6D h1
    have HBV := Lib.hid (HB.out.ofChF hc1 HBF.out)
    have HC1 := Lib.hid hc1
    have KA := jlay_any g ba bn bc l _ _ _ w1 HBV.out c2 c3 c4 cF
    have HFIN := Lib.hid (show ∀ a c w2 w3, w2.ownsRow w1.heap.size 5 1 (.slice a l.length c) l.length (l.map bv) → Below w1.heap.size w1 w2 → w3 = ((w2.setCell ⟨g, 2, none⟩ (.slice a l.length c)).setCell ⟨g, 3, none⟩ (.int .i64 (l.length : Nat))).setCell ⟨g, 4, none⟩ (.bool true) → DiskM w3 (Gr F w w3) g { d with pow := (spendV d.pow).1, read := l, base := l.length, laid := true } ∧ ChF F w w3 from fun a c w2 w3 o b e => by
      have hset : ChF (fun b => b = g) w2 w3 := by
        subst e
        exact ((((ChF.refl (fun b => b = g) w2).set (g := g) (.inl (show g = g from rfl))).set (g := g) (.inl (show g = g from rfl))).set (g := g) (.inl (show g = g from rfl)))
      have hblk : w2.heap[g]? = w1.heap[g]? := b.block g (h7 g h6)
      have hcF : ChF F w1 w2 := .of_below b
      have hcN : ChF (fun _ => False) w1 w2 := .of_below b
      have hz : w1.heap.size ≤ w2.heap.size := b.size
      have hz3 : w3.heap.size = w2.heap.size := by subst e; simp [World.setCell]
      have hcells : w3.heap[g]? = some (.cells #[.int .i64 (spendV d.pow).1, SV sa, .slice a l.length c, .int .i64 (l.length : Nat), .bool true, SV sh] DT (0, 0)) := by
        subst e
        exact lay_set _ _ _ (hblk.trans h1)
      refine ⟨⟨Gr FL w1 w2, FS, sa, (a, l.length, c), sh, hs, hcells, (h2.lay HB.out.bytes HS.out o b).keep hset (fun k hk e => by
        subst e
        rcases hk with q | q
        · exact (h4 k q).2.2 rfl
        · have := h7 k h6; omega), (h3.keep hcN (fun _ _ e => e)).keep hset (fun k hk e => (h5 k hk).2 e), fun k hk => ?_, fun k hk => ⟨.inl (h5 k hk).1, (h5 k hk).2⟩, .inl h6, fun k hk => ?_, Nat.le_refl _, h9⟩, (HC1.out.trans hcF (fun k hk => .inl hk)).trans (hset.widen (F' := F) (fun k hk => by subst hk; exact h6)) (fun k hk => .inl hk)⟩
      · rcases hk with q | q
        · exact ⟨.inl (h4 k q).1, (h4 k q).2⟩
        · refine ⟨.inr ⟨by rw [← hsz]; exact q.1, by rw [hz3]; exact q.2⟩, fun e => ?_, fun e => ?_⟩
          · have := h7 k (h5 k e).1; omega
          · subst e; have := h7 k h6; omega
      · rcases hk with q | q
        · have := h7 k q
          omega
        · exact q.2)
    clear h1 h2 h3 h4 h5 h6 h7 h8 h9 c0 c1 c2 c3 c4 c5 cF hc1 hb
    go_wp2_with fail
    (with_reducible refine KA.mono ?_)
    rintro e w2 ⟨rfl, a, c, w3, o, b, hw⟩
    have HF2 := Lib.hid (HFIN.out a c w3 w2 o b hw)
    clear KA HFIN o b hw
    go_wp2
    go_ret
    exact ⟨rfl, HF2.out.1, HF2.out.2⟩
end Go.Proofs.Ytdidalcflkphnaa
