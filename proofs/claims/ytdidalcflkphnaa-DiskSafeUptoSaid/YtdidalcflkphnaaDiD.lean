/-
  disk: the log in memory.
-/
import Derived.Test.YtdidalcflkphnaaDiC
namespace Go.Proofs.Ytdidalcflkphnaa
open Go.RowKit

/-- the footprint with all that is new. -/
def Gr (F : Nat → Prop) (w w' : World) : Nat → Prop := fun b => F b ∨ (w.heap.size ≤ b ∧ b < w'.heap.size)
theorem Gr.old {F : Nat → Prop} {w w' : World} {b : Nat} (h : F b) : Gr F w w' b := .inl h
/-- the log: what is safe is a piece of its own, or the first bytes of what is read. -/
structure LogM (w : World) (F : Nat → Prop) (sa rd : HdT) (safe read : List Nat) : Prop where
  now : ByF w F rd read
  sv : BytesV w sa safe
  sF : ∀ b, (SV sa).ownBlock = some b → F b ∧ b < w.heap.size
  s0 : ∀ a, sa.1 = some a → a = ⟨a.block, 0, none⟩
  al : ∀ b, (SV sa).ownBlock = some b → (SV rd).ownBlock = some b → safe = read.take safe.length ∧ safe.length ≤ read.length
theorem BytesV.of_block {w w' : World} {x : HdT} {l : List Nat} (h : BytesV w x l) (hb : ∀ b, (SV x).ownBlock = some b → w'.heap[b]? = w.heap[b]?) : BytesV w' x l := by
  refine ⟨⟨h.row.1, fun h0 => ?_⟩, h.bytes, h.small, h.cap, h.nil⟩
  obtain ⟨b, off, e, hc⟩ := h.row.2 h0
  refine ⟨b, off, e, fun i hi => ?_⟩
  rw [← hc i hi]
  exact World.cell?_of_block (w := w) (w' := w') (a := ⟨b, off + i, none⟩) (hb b (by simp [SV, Value.ownBlock, e]))
theorem LogM.keep {w w' : World} {F G : Nat → Prop} {sa rd : HdT} {safe read : List Nat} (h : LogM w F sa rd safe read) (hc : ChF G w w') (hn : ∀ b, F b → ¬ G b) : LogM w' F sa rd safe read :=
  ⟨h.now.keep hc (fun b hb => hn b (h.now.inF b hb)), h.sv.of_block (fun b hb => hc.block b (h.sF b hb).2 (hn b (h.sF b hb).1)), fun b hb => ⟨(h.sF b hb).1, Nat.lt_of_lt_of_le (h.sF b hb).2 hc.size⟩, h.s0, h.al⟩
theorem LogM.mono {w : World} {F F' : Nat → Prop} {sa rd : HdT} {safe read : List Nat} (h : LogM w F sa rd safe read) (hF : ∀ b, F b → F' b) : LogM w F' sa rd safe read :=
  ⟨h.now.mono hF, h.sv, fun b hb => ⟨hF b (h.sF b hb).1, (h.sF b hb).2⟩, h.s0, h.al⟩
theorem LogM.append {w w' : World} {F : Nat → Prop} {sa rd : HdT} {safe read l : List Nat} {v' : Value} (h : LogM w F sa rd safe read) (hl : Bytes l) (hs : read.length + l.length ≤ 1000000000)
    (hE : w'.ownsRow 0 5 1 v' (read.length + l.length) (read.map bv ++ l.map bv)) (hc : (v'.ownBlock = (SV rd).ownBlock ∧ w.grownBy w' (SV rd).ownBlock) ∨ (v'.ownBlock = some w.heap.size ∧ Below w.heap.size w w')) :
    ∃ rd', v' = SV rd' ∧ LogM w' (Gr F w w') sa rd' safe (read ++ l) ∧ ChF F w w' := by
  obtain ⟨ad, cap, rfl, hcs, -⟩ := ownsRow_parts hE
  refine ⟨(ad, read.length + l.length, cap), rfl, ?_, ?_⟩
  · have hnew : ByF w' (Gr F w w') (ad, read.length + l.length, cap) (read ++ l) := by
      refine ⟨by rw [List.length_append, List.map_append]; exact hE, by simp, fun x hx => ?_, by simpa using hs, fun b hb => ?_⟩
      · rcases List.mem_append.1 hx with q | q
        · exact h.now.bytes x q
        · exact hl x q
      · rcases hc with ⟨e, -⟩ | ⟨e, k⟩
        · exact .inl (h.now.inF b (by rw [← e]; exact hb))
        · refine .inr ?_
          have hb2 := hE.lt b hb
          have : b = w.heap.size := by
            have := hb.symm.trans e
            injection this
          omega
    have hsz : w.heap.size ≤ w'.heap.size := by rcases hc with ⟨-, k⟩ | ⟨-, k⟩ <;> exact k.size
    refine ⟨hnew, ?_, fun b hb => ⟨.inl (h.sF b hb).1, Nat.lt_of_lt_of_le (h.sF b hb).2 hsz⟩, h.s0, fun b hb hb2 => ?_⟩
    · rcases hc with ⟨e, k⟩ | ⟨-, k⟩
      · by_cases hal : ∃ b, (SV sa).ownBlock = some b ∧ (SV rd).ownBlock = some b
        · obtain ⟨b, q1, q2⟩ := hal
          obtain ⟨q3, q4⟩ := h.al b q1 q2
          have hvl : safe.length = sa.2.1 := h.sv.length
          refine ⟨⟨h.sv.row.1, fun h0 => ?_⟩, h.sv.bytes, h.sv.small, h.sv.cap, h.sv.nil⟩
          obtain ⟨b', off, e', hcl⟩ := h.sv.row.2 h0
          have hz := h.s0 _ e'
          injection hz with _ hoff
          subst hoff
          have hbb : b' = b := by simpa [SV, Value.ownBlock, e'] using q1
          subst hbb
          have hadb : ad = some ⟨b', 0, none⟩ := by
            rcases hcs with ⟨-, q, -⟩ | ⟨g, q, -, -⟩
            · rw [q2] at e
              obtain ⟨e3, -⟩ | ⟨g, cap', cur, e2, _⟩ := hE.2
              · rw [e3] at e; simp [Value.ownBlock] at e
              · injection e2 with e2 _ _
                rw [e2] at e ⊢
                simp [Value.ownBlock] at e
                rw [e]
            · rw [q2, q] at e
              simp [Value.ownBlock] at e
              rw [q, e]
          subst hadb
          refine ⟨b', 0, e', fun i hi => ?_⟩
          rw [Nat.zero_add, hE.cellAt i (by omega)]
          rw [List.getElem?_append_left (by rw [List.length_map]; omega), List.getElem?_map, List.getElem?_map, q3, List.getElem?_take, if_pos (by omega)]
        · exact h.sv.of_block (fun b hb => k.block b (h.sF b hb).2 (fun e2 => hal ⟨b, hb, e2.symm⟩))
      · exact h.sv.of_block (fun b hb => k.block b (h.sF b hb).2)
    · rcases hc with ⟨e, -⟩ | ⟨e, k⟩
      · obtain ⟨q3, q4⟩ := h.al b hb (by rw [← e]; exact hb2)
        refine ⟨?_, by rw [List.length_append]; omega⟩
        rw [List.take_append_of_le_length q4]
        exact q3
      · exfalso
        have := (h.sF b hb).2
        have : b = w.heap.size := by
          have := hb2.symm.trans e
          injection this
        omega
  · rcases hc with ⟨-, k⟩ | ⟨-, k⟩
    · exact .of_grown k (fun b hb => h.now.inF b hb)
    · exact .of_below k
end Go.Proofs.Ytdidalcflkphnaa
