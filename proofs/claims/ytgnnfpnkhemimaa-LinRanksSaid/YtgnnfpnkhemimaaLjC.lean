/-
  rilllaw02: LinMore.
-/
import Derived.Test.YtgnnfpnkhemimaaLjB
namespace Go.Proofs.Ytgnnfpnkhemimaa
open Go.RowKit

theorem snoc_at {α : Type} {xs : List α} {x : α} {i : Nat} {y : α} (h : (xs ++ [x])[i]? = some y) : (xs[i]? = some y ∧ i < xs.length) ∨ (i = xs.length ∧ y = x) := by
  by_cases hi : i < xs.length
  · rw [List.getElem?_append_left hi] at h; exact .inl ⟨h, hi⟩
  · rw [List.getElem?_append_right (by omega)] at h
    have h0 := (List.getElem?_eq_some_iff.1 h).1
    simp only [List.length_cons, List.length_nil] at h0
    have e0 : i - xs.length = 0 := by omega
    rw [e0] at h
    simp at h
    exact .inr ⟨by omega, h.symm⟩
theorem mem_augs_snoc {rows vs : List (List Nat)} {r v : List Nat} (hl : vs.length = rows.length) {a : List Nat} : a ∈ augs (rows ++ [r]) (vs ++ [v]) ↔ a ∈ augs rows vs ∨ a = r ++ v := by
  constructor
  · intro h
    obtain ⟨i, r', v', h1, h2, rfl⟩ := mem_augs.1 h
    rcases snoc_at h1 with ⟨h1, k1⟩ | ⟨k1, rfl⟩ <;> rcases snoc_at h2 with ⟨h2, k2⟩ | ⟨k2, rfl⟩
    · exact .inl (mem_augs.2 ⟨i, r', v', h1, h2, rfl⟩)
    · omega
    · omega
    · exact .inr rfl
  · rintro (h | rfl)
    · obtain ⟨i, r', v', h1, h2, rfl⟩ := mem_augs.1 h
      exact mem_augs.2 ⟨i, r', v', by rw [List.getElem?_append_left (List.getElem?_eq_some_iff.1 h1).1]; exact h1, by rw [List.getElem?_append_left (List.getElem?_eq_some_iff.1 h2).1]; exact h2, rfl⟩
    · exact mem_augs.2 ⟨rows.length, r, v, by simp, by rw [← hl]; simp, rfl⟩
theorem width_snoc {vs : List (List Nat)} {v : List Nat} (h0 : 0 < vs.length) : widthB (vs ++ [v]) = widthB vs := by
  unfold widthB
  rw [List.getD_eq_getElem?_getD, List.getD_eq_getElem?_getD, List.getElem?_append_left h0]
theorem rws_snoc {vs : List (List Nat)} {v : List Nat} {n : Nat} (h : Rws vs n) (hv : Bytes v ∧ v.length = n) : Rws (vs ++ [v]) n := fun x hx => by
  rcases List.mem_append.1 hx with h' | h'
  · exact h x h'
  · simp only [List.mem_singleton] at h'; subst h'; exact hv
/-- a row more, of the length of another, and a value of the length of another, alter nothing of the shapes. -/
theorem solveOK_snoc {cols : Int} {rows vs : List (List Nat)} {r v r0 v0 : List Nat} (hl : vs.length = rows.length) (hn : rows.length ≤ 255) (hr : r0 ∈ rows) (hv : v0 ∈ vs) (e1 : r.length = r0.length) (e2 : v.length = v0.length) :
    solveOK cols (rows ++ [r]) (vs ++ [v]) = true ↔ solveOK cols rows vs = true := by
  have h0 : 0 < vs.length := List.length_pos_of_mem hv
  rw [solveOK_iff, solveOK_iff, rightB_iff, rightB_iff, width_snoc h0, evenB_iff, evenB_iff]
  constructor
  · rintro ⟨⟨a1, a2, a3, a4⟩, b, c⟩
    exact ⟨⟨a1, a2, by omega, fun l hl => a4 l (by simp [hl])⟩, hl, fun x hx => c x (by simp [hx])⟩
  · rintro ⟨⟨a1, a2, a3, a4⟩, b, c⟩
    refine ⟨⟨a1, a2, by simp; omega, fun l hl' => ?_⟩, by simp [hl], fun x hx => ?_⟩
    · rcases List.mem_append.1 hl' with h | h
      · exact a4 l h
      · simp only [List.mem_singleton] at h; subst h; rw [e1]; exact a4 r0 hr
    · rcases List.mem_append.1 hx with h | h
      · exact c x h
      · simp only [List.mem_singleton] at h; subst h; rw [e2]; exact c v0 hv
theorem more_same {cols : Int} {rows vs : List (List Nat)} {r v : List Nat} {i : Nat} (hr : rows[i]? = some r) (hv : vs[i]? = some v) (mr : Mem rows) (mv : Mem vs) (hl : vs.length = rows.length) (hn : rows.length ≤ 255) :
    solveR cols (rows ++ [r]) (vs ++ [v]) = solveR cols rows vs := by
  have hr' := List.mem_of_getElem? hr
  have hv' := List.mem_of_getElem? hv
  have hiff := solveOK_snoc (cols := cols) (r := r) (v := v) hl hn hr' hv' rfl rfl
  unfold solveR
  by_cases hB : solveOK cols rows vs = true
  · rw [if_pos hB, if_pos (hiff.2 hB)]
    obtain ⟨b1, b2, b3⟩ := solveOK_iff.1 hB
    obtain ⟨k1, k2, k3, k4, k5⟩ := right_rws b1 mr
    have w1 := even_rws b3 mv
    have s1 := says_augs hl k1 w1
    have s2 := says_augs (rows := rows ++ [r]) (vs := vs ++ [v]) (by simp [hl]) (rws_snoc k1 (k1 r hr')) (rws_snoc w1 (w1 v hv'))
    rw [solveOut_end, solveOut_end]
    refine end_congr s2 s1 (fun y _ => ⟨fun h a ha => h a ((mem_augs_snoc hl).2 (.inl ha)), fun h a ha => ?_⟩)
    rcases (mem_augs_snoc hl).1 ha with h1 | rfl
    · exact h a h1
    · exact h _ (mem_augs.2 ⟨i, r, v, hr, hv, rfl⟩)
  · rw [if_neg hB, if_neg (fun h => hB (hiff.1 h))]
theorem xor_one_ne (x : Nat) : x ^^^ 1 ≠ x := fun h => by
  have := congrArg (· ^^^ x) h
  simp only [Nat.xor_self] at this
  rw [Nat.xor_comm, ← Nat.xor_assoc, Nat.xor_self] at this
  simp at this
theorem more_flip {cols : Int} {rows vs : List (List Nat)} {r v : List Nat} {i : Nat} (hr : rows[i]? = some r) (hv : vs[i]? = some v) (mr : Mem rows) (mv : Mem vs) (hl : vs.length = rows.length) (hn : rows.length ≤ 255) (h0 : 0 < v.length) :
    (solveR cols (rows ++ [r]) (vs ++ [v.set 0 (v.getD 0 0 ^^^ 1)])).2 = if (solveR cols rows vs).2 = 0 then 22 else (solveR cols rows vs).2 := by
  have hr' := List.mem_of_getElem? hr
  have hv' := List.mem_of_getElem? hv
  have hiff := solveOK_snoc (cols := cols) (r := r) (v := v.set 0 (v.getD 0 0 ^^^ 1)) hl hn hr' hv' rfl (by simp)
  have hsame := more_same (cols := cols) hr hv mr mv hl hn
  have hiff2 := solveOK_snoc (cols := cols) (r := r) (v := v) hl hn hr' hv' rfl rfl
  by_cases hB : solveOK cols rows vs = true
  · obtain ⟨b1, b2, b3⟩ := solveOK_iff.1 hB
    obtain ⟨k1, k2, k3, k4, k5⟩ := right_rws b1 mr
    have w1 := even_rws b3 mv
    obtain ⟨v2, hv2⟩ : ∃ v2, v2 = v.set 0 (v.getD 0 0 ^^^ 1) := ⟨_, rfl⟩
    have hvb := w1 v hv'
    have hb2 : Bytes v2 ∧ v2.length = widthB vs := by
      rw [hv2]
      refine ⟨fun x hx => ?_, by simpa using hvb.2⟩
      rcases List.mem_or_eq_of_mem_set hx with h | h
      · exact hvb.1 x h
      · rw [h]; exact xor_lt (hvb.1.getD 0) (by decide)
    have h20 : v2.getD 0 0 = v.getD 0 0 ^^^ 1 := by rw [hv2, List.getD_eq_getElem?_getD, List.getElem?_set]; simp [h0]
    rw [← hv2] at hiff ⊢
    clear hv2
    have s1 := says_augs (rows := rows ++ [r]) (vs := vs ++ [v]) (by simp [hl]) (rws_snoc k1 (k1 r hr')) (rws_snoc w1 hvb)
    have s2 := says_augs (rows := rows ++ [r]) (vs := vs ++ [v2]) (by simp [hl]) (rws_snoc k1 (k1 r hr')) (rws_snoc w1 hb2)
    have f1 := full_augs (rows := rows ++ [r]) (vs := vs ++ [v]) (by simp [hl]) (rws_snoc k1 (k1 r hr')) (rws_snoc w1 hvb)
    have f2 := full_augs (rows := rows ++ [r]) (vs := vs ++ [v2]) (by simp [hl]) (rws_snoc k1 (k1 r hr')) (rws_snoc w1 hb2)
    rw [← hsame]
    unfold solveR
    rw [if_pos (hiff.2 hB), if_pos (hiff2.2 hB), solveOut_end, solveOut_end]
    unfold solveEnd
    by_cases hf : rankOf cols.toNat (rows ++ [r]) = cols.toNat
    · have g1 := f1.2 hf
      have g2 := f2.2 hf
      have hc2 : (sysTo cols.toNat (augs (rows ++ [r]) (vs ++ [v2])) (rows ++ [r]).length).2 = true := by
        cases e : (sysTo cols.toNat (augs (rows ++ [r]) (vs ++ [v2])) (rows ++ [r]).length).2 with
        | true => rfl
        | false =>
          exfalso
          have hwid : 0 < widthB vs := by rw [← hvb.2]; exact h0
          obtain ⟨y, hy⟩ : ∃ y, SolT cols.toNat (widthB vs) (augs (rows ++ [r]) (vs ++ [v2])) 0 y := ⟨_, sol_of s2 g2 e hwid⟩
          obtain ⟨y1, y2, y3, y4⟩ := hy
          have d1 := y2 (r ++ v2) ((mem_augs_snoc hl).2 (.inr rfl))
          have d2 := y2 (r ++ v) ((mem_augs_snoc hl).2 (.inl (mem_augs.2 ⟨i, r, v, hr, hv, rfl⟩)))
          have hrl := (k1 r hr').2
          rw [dot_aug y _ hrl, tail_one (g := fun u => v2.getD u 0) hwid y3 y4 (hb2.1.getD 0)] at d1
          rw [dot_aug y _ hrl, tail_one (g := fun u => v.getD u 0) hwid y3 y4 (hvb.1.getD 0)] at d2
          have := (xor_eq_zero d1).symm.trans (xor_eq_zero d2)
          rw [h20] at this
          exact xor_one_ne _ this
      rw [if_neg (show ¬ count (sysTo cols.toNat (augs (rows ++ [r]) (vs ++ [v2])) (rows ++ [r]).length).1 cols.toNat ≠ cols.toNat from fun h => h g2), if_pos hc2]
      rw [if_neg (show ¬ count (sysTo cols.toNat (augs (rows ++ [r]) (vs ++ [v])) (rows ++ [r]).length).1 cols.toNat ≠ cols.toNat from fun h => h g1)]
      split
      · simp
      · simp
    · rw [if_pos (show count (sysTo cols.toNat (augs (rows ++ [r]) (vs ++ [v2])) (rows ++ [r]).length).1 cols.toNat ≠ cols.toNat from fun h => hf (f2.1 h))]
      rw [if_pos (show count (sysTo cols.toNat (augs (rows ++ [r]) (vs ++ [v])) (rows ++ [r]).length).1 cols.toNat ≠ cols.toNat from fun h => hf (f1.1 h))]
      simp
  · unfold solveR
    rw [if_neg hB, if_neg (fun h => hB (hiff.1 h))]
    simp
/-- the last row's first byte is turned. -/
theorem flip_last {w : World} {B U n q m cx : Nat} {a : Option Addr} {c : Nat} {hs : List HdT} {ls : List (List Nat)} {v : List Nat} (ho : w.ownsRow B 34 1 (.slice a n c) n (hs.map SV ++ [SV (some ⟨q, 0, none⟩, m, cx)])) (hO : OwnsRows w B 5 hs ls) (hlt : ∀ y ∈ hs, ∀ b, (SV y).ownBlock = some b → b < U)
    (hx : w.ownsRow U 5 1 (.slice (some ⟨q, 0, none⟩) m cx) m (v.map bv)) (hm : Mem ls) (hv : Bytes v ∧ v.length ≤ 140737488355328) (z : Nat) (hz : z < 256) : RD (w.setCell ⟨q, 0, none⟩ (.int .u8 (z : Nat))) a n (ls ++ [v.set 0 z]) := by
  have hvm : v.length = m := by have := hx.1; simpa using this
  have hg := grown_set4 w q 0 (.int .u8 (z : Nat))
  have hqU : U ≤ q := (hx.lt q rfl).1
  have hx2 := own_set' hx 0 (.int .u8 (z : Nat))
  rw [show (v.map bv).set 0 (.int .u8 (z : Nat)) = (v.set 0 z).map bv by rw [List.map_set]; rfl] at hx2
  have ho2 := ho.kept hg (by
    have := own_ne ho hx (by decide)
    exact this)
  have hO2 : OwnsRows (w.setCell ⟨q, 0, none⟩ (.int .u8 (z : Nat))) B 5 hs ls := hO.kept hg fun i y l h1 h2 => by
    cases e : (SV y).ownBlock with
    | none => exact .inl rfl
    | some b => exact .inr (fun e2 => by have := hlt y (List.mem_of_getElem? h1) b e; injection e2 with e2; omega)
  have hzv : Bytes (v.set 0 z) := fun x hx => by
    rcases List.mem_or_eq_of_mem_set hx with h | h
    · exact hv.1 x h
    · rw [h]; exact hz
  have hxb := bytesV_of_owns hx2 hzv (by omega)
  obtain ⟨_, _, e, _, _, _, hrow⟩ := ownsRow_parts ho2
  cases e
  have hn : hs.length + 1 = n := by have := ho.1; simpa using this
  refine ⟨by simp [← hO.1]; omega, hs ++ [(some ⟨q, 0, none⟩, m, cx)], by rw [List.map_append]; exact hrow, by simp [hO.1], fun i y l h1 h2 => ?_⟩
  have hR := hO2.rowsV hm
  rcases snoc_at h1 with ⟨h1, k1⟩ | ⟨k1, rfl⟩ <;> rcases snoc_at h2 with ⟨h2, k2⟩ | ⟨k2, rfl⟩
  · exact hR.2 i y l h1 h2
  · have := hO.1; omega
  · have := hO.1; omega
  · exact hxb
/-- rows of the call's own, the last one made after the others. -/
structure LastR (w : World) (B U : Nat) (a : Option Addr) (n c : Nat) (hs : List HdT) (ls : List (List Nat)) (q m cx : Nat) (l : List Nat) : Prop where
  row : w.ownsRow B 34 1 (.slice a n c) n (hs.map SV ++ [SV (some ⟨q, 0, none⟩, m, cx)])
  els : OwnsRows w B 5 hs ls
  lt : ∀ y ∈ hs, ∀ b, (SV y).ownBlock = some b → b < U
  last : w.ownsRow U 5 1 (.slice (some ⟨q, 0, none⟩) m cx) m (l.map bv)
  mem : Mem ls
  bytes : Bytes l ∧ l.length ≤ 140737488355328
theorem LastR.below {w w' : World} {B U n c q m cx : Nat} {a : Option Addr} {hs : List HdT} {ls : List (List Nat)} {l : List Nat} (h : LastR w B U a n c hs ls q m cx l) (hb : Below w.heap.size w w') : LastR w' B U a n c hs ls q m cx l :=
  ⟨h.row.kept (grownBy_of_below hb none) (by cases (Value.slice a n c).ownBlock <;> simp), h.els.below hb, h.lt, h.last.kept (grownBy_of_below hb none) (by cases (Value.slice (some ⟨q, 0, none⟩) m cx).ownBlock <;> simp), h.mem, h.bytes⟩
theorem LastR.flip {w : World} {B U n c q m cx : Nat} {a : Option Addr} {hs : List HdT} {ls : List (List Nat)} {l : List Nat} (h : LastR w B U a n c hs ls q m cx l) (z : Nat) (hz : z < 256) : RD (w.setCell ⟨q, 0, none⟩ (.int .u8 (z : Nat))) a n (ls ++ [l.set 0 z]) :=
  flip_last h.row h.els h.lt h.last h.mem h.bytes z hz
theorem LastR.rd {w : World} {B U n c q m cx : Nat} {a : Option Addr} {hs : List HdT} {ls : List (List Nat)} {l : List Nat} (h : LastR w B U a n c hs ls q m cx l) : RD w a n (ls ++ [l]) := by
  have hlm : l.length = m := by have := h.last.1; simpa using this
  have hx := bytesV_of_owns h.last h.bytes.1 (by have := h.bytes.2; omega)
  obtain ⟨_, _, e, -, -, -, hrow⟩ := ownsRow_parts h.row
  cases e
  have hn : hs.length + 1 = n := by have := h.row.1; simpa using this
  refine ⟨by simp [← h.els.1]; omega, hs ++ [(some ⟨q, 0, none⟩, m, cx)], by rw [List.map_append]; exact hrow, by simp [h.els.1], fun i y l h1 h2 => ?_⟩
  have hR := h.els.rowsV h.mem
  rcases snoc_at h1 with ⟨h1, k1⟩ | ⟨k1, rfl⟩ <;> rcases snoc_at h2 with ⟨h2, k2⟩ | ⟨k2, rfl⟩
  · exact hR.2 i y l h1 h2
  · have := h.els.1; omega
  · have := h.els.1; omega
  · exact hx
theorem LastR.cells {w : World} {B U n c q m cx : Nat} {a : Option Addr} {hs : List HdT} {ls : List (List Nat)} {l : List Nat} (h : LastR w B U a (n + 1) c hs ls q m cx l) (hm : 0 < m) :
    ∃ g, a = some ⟨g, 0, none⟩ ∧ w.cell? ⟨g, n, none⟩ = some (.slice (some ⟨q, 0, none⟩) m cx) ∧ w.cell? ⟨q, 0, none⟩ = some (.int .u8 (l.getD 0 0 : Nat)) ∧ B ≤ g ∧ U ≤ q ∧ w.frozen? ⟨q, 0, none⟩ = false := by
  have hlm : l.length = m := by have := h.last.1; simpa using this
  have hx := bytesV_of_owns h.last h.bytes.1 (by have := h.bytes.2; omega)
  obtain ⟨_, _, e, k, -, -, hrow⟩ := ownsRow_parts h.row
  cases e
  have hn : hs.length = n := by have := h.row.1; simpa using this
  rcases k with ⟨-, k, -⟩ | ⟨g, rfl, hB, -⟩
  · omega
  obtain ⟨b, off, e, hc⟩ := hrow.2 (by omega)
  injection e with e
  injection e with e1 e2
  subst e1 e2
  obtain ⟨b2, off2, e, hc2⟩ := hx.cellAt 0 hm
  injection e with e
  injection e with e1 e2
  subst e1 e2
  have hcn := hc n (by omega)
  rw [Nat.zero_add] at hcn
  refine ⟨g, rfl, ?_, hc2, hB, (h.last.lt q rfl).1, h.last.frozenAt 0⟩
  rw [hcn, List.getElem?_append_right (by simp [hn]), List.length_map, hn]
  simp [SV]
theorem last_own {wm w' : World} {B U n : Nat} {a : Option Addr} {c : Nat} {hs : List HdT} {ls : List (List Nat)} {v' : Value} {q m cx : Nat} {l : List Nat} (ho : wm.ownsRow B 34 1 (.slice a n c) n (hs.map SV)) (hO : OwnsRows wm B 5 hs ls) (hm : Mem ls) (hlt : ∀ y ∈ hs, ∀ b, (SV y).ownBlock = some b → b < U)
    (hE : w'.ownsRow B 34 1 v' (n + 1) (hs.map SV ++ [SV (some ⟨q, 0, none⟩, m, cx)])) (g : wm.grownBy w' (Value.slice a n c).ownBlock) (hx : wm.ownsRow U 5 1 (.slice (some ⟨q, 0, none⟩) m cx) m (l.map bv)) (hl : Bytes l ∧ l.length ≤ 140737488355328) : ∃ a' c', v' = .slice a' (n + 1) c' ∧ LastR w' B U a' (n + 1) c' hs ls q m cx l := by
  obtain ⟨a', c', rfl, -⟩ := ownsRow_parts hE
  exact ⟨a', c', rfl, hE, hO.kept g fun i y m h1 h2 => own_ne (hO.2 i y m h1 h2).2 ho (by decide), hlt, hx.kept g (own_ne hx ho (by decide)), hm, hl⟩
theorem own_lt {w : World} {B : Nat} {hs : List HdT} {ls : List (List Nat)} (hO : OwnsRows w B 5 hs ls) : ∀ y ∈ hs, ∀ b, (SV y).ownBlock = some b → b < w.heap.size := fun y hy b hb => by
  obtain ⟨i, hi⟩ := List.getElem?_of_mem hy
  have hil := (List.getElem?_eq_some_iff.1 hi).1
  obtain ⟨l, hl⟩ : ∃ l, ls[i]? = some l := ⟨_, List.getElem?_eq_getElem (by rw [← hO.1]; exact hil)⟩
  exact ((hO.2 i y l hi hl).2.lt b hb).2
theorem own_some {w : World} {U m c : Nat} {T : TypeId} {a : Option Addr} {xs : List Value} (h : w.ownsRow U T 1 (.slice a m c) m xs) (hm : 0 < m) : ∃ q, a = some ⟨q, 0, none⟩ := by
  obtain ⟨_, _, e, k, -⟩ := ownsRow_parts h
  cases e
  rcases k with ⟨-, k, -⟩ | ⟨g, rfl, -⟩
  · omega
  · exact ⟨g, rfl⟩
theorem cell_below {w w' : World} {b off : Nat} {v : Value} (h : w.cell? ⟨b, off, none⟩ = some v) (hb : Below w.heap.size w w') : w'.cell? ⟨b, off, none⟩ = some v := by
  have h1 : RowV w (some ⟨b, off, none⟩) 1 [v] := ⟨rfl, fun _ => ⟨b, off, rfl, fun i hi => by (obtain rfl : i = 0 := by omega); simpa using h⟩⟩
  obtain ⟨_, _, e, hc⟩ := (h1.below hb).2 (by omega)
  injection e with e
  injection e with e1 e2
  subst e1 e2
  exact hc 0 (by omega)
/-- a row that is read. -/
theorem RD.at {w : World} {a : Option Addr} {n i : Nat} {ls : List (List Nat)} (h : RD w a n ls) (hi : i < n) : ∃ b off a2 n2 c2 l, a = some ⟨b, off, none⟩ ∧ w.cell? ⟨b, off + i, none⟩ = some (.slice a2 n2 c2) ∧ ls[i]? = some l ∧ BytesV w (a2, n2, c2) l := by
  obtain ⟨h1, hs, h2, h3⟩ := h
  have hn : hs.length = n := by rw [h3.1, h1]
  obtain ⟨b, off, e, hc⟩ := h2.2 (by omega)
  obtain ⟨⟨a2, n2, c2⟩, hx⟩ : ∃ x, hs[i]? = some x := ⟨_, List.getElem?_eq_getElem (by omega)⟩
  obtain ⟨l, hl⟩ : ∃ l, ls[i]? = some l := ⟨_, List.getElem?_eq_getElem (by omega)⟩
  have hc1 := hc i hi
  rw [List.getElem?_map, hx] at hc1
  exact ⟨b, off, a2, n2, c2, l, e, hc1, hl, h3.2 i _ l hx hl⟩

theorem solve_short {cols : Int} {rows vs : List (List Nat)} (hr : Mem rows) (hv : Mem vs) : (solveR cols rows vs).1.length ≤ 1000 := by
  rcases solve_kinds cols rows vs with h | ⟨h, -⟩
  · have := (told_all (X := (solveR cols rows vs).1) (cols := cols) (Prod.ext rfl h) hr hv).2
    omega
  · rw [h]; simp
set_option maxRecDepth 100000 in
set_option maxHeartbeats 8000000 in
theorem linMore_walk (cols : Int) (a1 : Option Addr) (n1 c1 : Nat) (s1 : List HdT) (l1 : List (List Nat)) (a2 : Option Addr) (n2 c2 : Nat) (s2 : List HdT) (l2 : List (List Nat)) (at_ : Int) (w : World) (_w0 : (Lit.int .i64 cols).wf = true)
    (v1 : RowV w a1 n1 (s1.map SV)) (r1 : RowsV w s1 l1) (_t1 : n1 * 24 ≤ 140737488351232) (v2 : RowV w a2 n2 (s2.map SV)) (r2 : RowsV w s2 l2) (_t2 : n2 * 24 ≤ 140737488351232) (_w1 : (Lit.int .i64 at_).wf = true) :
    Calls Try.prog 9 #[.int .i64 cols, .slice a1 n1 c1, .slice a2 n2 c2, .int .i64 at_] w fun e w' => e = .returned (.bool true) ∧ Below w.heap.size w w' := by
  obtain ⟨i0, hi, hz0, hz1, hz2⟩ := info_parts Try.info34
  have h1 : RD w a1 n1 l1 := ⟨by rw [← r1.1]; have := v1.1; simpa using this, s1, v1, r1⟩
  have h2 : RD w a2 n2 l2 := ⟨by rw [← r2.1]; have := v2.1; simpa using this, s2, v2, r2⟩
  have m1 := h1.mem
  have m2 := h2.mem
  have HM1 := Lib.hid m1
  have HM2 := Lib.hid m2
  have HE1 := Lib.hid h1.1
  have HE2 := Lib.hid h2.1
  have H1 := Lib.hid h1
  have H2 := Lib.hid h2
  have hwd := fun (hg : (∀ r ∈ l1, r.length ≤ 128) → ∀ x ∈ l2, x.length ≤ 60000) (hR : rightB cols l1 = true) => Nat.le_trans (width_le (hg (right_rws hR m1).2.2.2.2)) (show 60000 ≤ 100000 by omega)
  have HWD := Lib.hid hwd
  clear h1 h2 m1 m2 v1 r1 v2 r2 hwd
  go_enter Try.func9, Try.ntmps9
  go_wp2_with fail
  (with_reducible refine (alive_any _).mono ?_)
  rintro e w1 ⟨rfl, hb1⟩
  go_wp2_with fail
  (with_reducible refine (great_rd _ _ _ l1 _ _ _ l2 _ (H1.out.below hb1) (H2.out.below hb1)).mono ?_)
  rintro e w2 ⟨t, rfl, b2, hg⟩
  have hb2 := hb1.trans (b2.mono hb1.size)
  clear b2 hb1
  cases t with
  | true =>
    clear hg
    go_wp2
    go_ret
    exact ⟨rfl, hb2⟩
  | false =>
    obtain ⟨g1, g2, g3⟩ := hg rfl
    rw [HE1.out] at g1
    rw [HE2.out] at g2
    have HG := Lib.hid (HWD.out g3)
    clear hg g3 HWD
    by_cases hn : n1 = n2
    rotate_left 1
    · go_wp2
      go_ret
      exact ⟨rfl, hb2⟩
    subst hn
    by_cases hm : n1 ≤ 255
    rotate_left 1
    · go_wp2
      go_ret
      exact ⟨rfl, hb2⟩
    by_cases ht0 : 0 ≤ at_
    rotate_left 1
    · go_wp2
      go_ret
      exact ⟨rfl, hb2⟩
    by_cases ht1 : at_ < (n1 : Int)
    rotate_left 1
    · go_wp2
      go_ret
      exact ⟨rfl, hb2⟩
    obtain ⟨i, rfl⟩ : ∃ i : Nat, at_ = (i : Int) := ⟨at_.toNat, by omega⟩
    have hin : i < n1 := by omega
    obtain ⟨b1, off1, a3, n3, c3, r, rfl, hc1, hr, hB1⟩ := H1.out.at hin
    obtain ⟨b2, off2, a4, n4, c4, v, rfl, hc2, hv, hB2⟩ := H2.out.at hin
    have HB1 := Lib.hid hB1
    have HB2 := Lib.hid hB2
    have HR := Lib.hid hr
    have HV := Lib.hid hv
    have HL3 := Lib.hid hB1.length
    have HL4 := Lib.hid hB2.length
    have hsm3 := hB1.small
    have hsm4 := hB2.small
    simp only at hsm3 hsm4
    have HC1 := Lib.hid hc1
    have HC2 := Lib.hid hc2
    clear hB1 hB2 hr hv hc1 hc2 ht0 ht1
    have q2 := cell_below HC2.out hb2
    by_cases hn4 : n4 = 0
    · subst hn4
      go_wp2
      go_ret
      exact ⟨rfl, hb2⟩
    have hl12 : l2.length = l1.length := HE2.out.trans HE1.out.symm
    have HL12 := Lib.hid hl12
    have hsame := more_same (cols := cols) HR.out HV.out HM1.out HM2.out hl12 (by rw [HE1.out]; exact hm)
    have hflip := more_flip (cols := cols) HR.out HV.out HM1.out HM2.out hl12 (by rw [HE1.out]; exact hm) (by rw [show v.length = n4 from HL4.out]; omega)
    have HWS : Hid (∀ z, rightB cols (l1 ++ [r]) = true → widthB (l2 ++ [z]) ≤ 100000) := Lib.hid (fun z h => by
      rw [width_snoc (by rw [HE2.out]; omega)]
      refine HG.out ?_
      obtain ⟨x1, x2, x3, x4⟩ := rightB_iff.1 h
      exact rightB_iff.2 ⟨x1, x2, by simp at x3; omega, fun y hy => x4 y (by simp [hy])⟩)
    have KS := fun ar cr ax cx w h k => solve_rd cols ar n1 cr l1 ax n1 cx l2 w h k (by omega) (by omega) HG.out
    have KS2 := fun ar cr ax cx z w h k => solve_rd cols ar (n1 + 1) cr (l1 ++ [r]) ax (n1 + 1) cx (l2 ++ [z]) w h k (by omega) (by omega) (HWS.out z)
    have KS3 := KS2
    have KS2' := fun ar cr ax cx w h k => KS2 ar cr ax cx v w h k
    rw [hsame] at KS2'
    have hk := solve_kinds cols l1 l2
    have hSl := solve_short (cols := cols) HM1.out HM2.out
    obtain ⟨S, hS⟩ : ∃ S, S = solveR cols l1 l2 := ⟨_, rfl⟩
    rw [← hS] at KS KS2' hflip hk hSl
    have HF := Lib.hid hflip
    have HK := Lib.hid hk
    clear KS2 hsame hflip hS hk
    go_wp2_with fail
    · rename_i hh
      exfalso
      simp at hh
      omega
    (with_reducible refine (copyRows_rd _ _ _ l1 _ (H1.out.below hb2) (by omega)).mono ?_)
    rintro e w3 ⟨a5, c5, rfl, h5, b3⟩
    have hb3 := hb2.trans (b3.mono hb2.size)
    clear b3 hb2 q2
    go_wp2_with fail
    (with_reducible refine (copyRows_rd _ _ _ l2 _ (H2.out.below hb3) (by omega)).mono ?_)
    rintro e w4 ⟨a6, c6, rfl, h6, b4⟩
    have hb4 := hb3.trans (b4.mono hb3.size)
    have h5' := h5.below b4
    clear b4 hb3 h5
    go_wp2_with fail
    (with_reducible refine (KS _ _ _ _ _ h5' h6).mono ?_)
    rintro e w5 ⟨a7, c7, rfl, h7, b5⟩
    have hb5 := hb4.trans (b5.mono hb4.size)
    clear KS b5 hb4 h5' h6
    go_wp2_with fail
    have q5 := cell_below HC1.out hb5
    have hz5 := hb5.size
    go_region_held3 (fun w' => w'.cell? ⟨b1, off1 + i, none⟩ = some (.slice a3 n3 c3)) (first | exact q5 | exact q6 | exact q7 | exact q7b | exact q8)
      (first
        | (go_at_call 14; (with_reducible refine (copyRows_own _ _ _ l1 _ ?hh (by omega)).mono ?_); (case hh => exact (H1.out.below hb5).below ⟨rfl, rfl, rfl, Nat.le_refl _, fun _ _ => rfl⟩); rintro e w6 ⟨a8, c8, rfl, h8, d6⟩; have b6 : Below w5.heap.size w5 w6 := ⟨d6.os, d6.tape, d6.output, d6.size, d6.block⟩; have hb6 := hb5.trans (b6.mono hb5.size); have q6 := cell_below HC1.out hb6)
        | (go_at_call 23; (with_reducible refine (copyBytes_any _ _ _ r _ ?hh).mono ?_); (case hh => exact (HB1.out.below hb6).below ⟨rfl, rfl, rfl, Nat.le_refl _, fun _ _ => rfl⟩); rintro e w7 ⟨a9, c9, rfl, o9, d7⟩; have b7 : Below w6.heap.size w6 w7 := ⟨d7.os, d7.tape, d7.output, d7.size, d7.block⟩; have hb7 := hb6.trans (b7.mono hb6.size); have q7 := cell_below HC1.out hb7; obtain ⟨-, hs7, ho7, hO7, hm7⟩ := h8.below b7; have o9' := ownsRow_base (base' := w5.heap.size) o9 b6.size; rw [HL3.out]; have q7b := cell_below HC1.out (hb7.alloc hb7.size (.cells #[.slice a9 n3 c9] 34)))
        | (refine step_append_lies _ rfl (.tmp 60) (.tmp 66) 22 rfl w5.heap.size 34 i0 (.slice none 0 0) 1 24 Try.underlying22 hi hz0 hz1 hz2 rfl (by decide) (.slice a8 n1 c8) n1 (hs7.map SV) (by rfl) (ho7.alloc _) ⟨w7.heap.size, 0, none⟩ 1 1 [SV (a9, n3, c9)] (by rfl) (by rfl) (World.news_of_block (heap_alloc_new w7 _)) (by intro u hu; simp at hu; subst hu; rfl) (by decide) (by simp [maxLen]; omega) (by omega) (by have := b6.size; have := b7.size; simp; omega) _ rfl ?_; intro g8 cap8 w8 hE8 g8' _ _; have hb8 := below_grown (hb7.alloc hb7.size (.cells #[.slice a9 n3 c9] 34)) g8' (fun k hk => Nat.le_trans hz5 (show w5.heap.size ≤ k from (ho7.lt k hk).1)); have q8 := cell_below HC1.out hb8))
    all_goals
      obtain ⟨aA, cA, eA, hA⟩ := append_own (x := (a9, r.length, c9)) (ho7.alloc (.cells #[.slice a9 n3 c9] 34)) (hO7.below (below_alloc _ _)) hm7 (by rw [show r.length = n3 from HL3.out]; exact hE8) g8' (o9'.alloc _) rfl ⟨HB1.out.bytes, by rw [show r.length = n3 from HL3.out]; exact hsm3⟩
      cases eA
      have b57 := b6.trans (b7.mono b6.size)
      have hX8 := h7.below (below_grown (b57.alloc b57.size (.cells #[.slice a9 n3 c9] 34)) g8' (fun k hk => (ho7.lt k hk).1))
      clear b57 ho7 hO7 hm7 o9 o9' hE8 g8' h8 b6 b7 d6 d7 hb6 hb7 q5 q6 q7 q7b q8 h7 hb5
      go_wp2_with fail
      have p5 := cell_below HC2.out hb8
      have hz8 := hb8.size
      go_region_held3 (fun w' => w'.cell? ⟨b2, off2 + i, none⟩ = some (.slice a4 n4 c4)) (first | exact p5 | exact p6 | exact p7 | exact p7b | exact p8)
        (first
          | (go_at_call 14; (with_reducible refine (copyRows_own _ _ _ l2 _ ?hh (by omega)).mono ?_); (case hh => exact (H2.out.below hb8).below ⟨rfl, rfl, rfl, Nat.le_refl _, fun _ _ => rfl⟩); rintro e w10 ⟨a10, c10, rfl, h10, d10⟩; have b10 : Below w8.heap.size w8 w10 := ⟨d10.os, d10.tape, d10.output, d10.size, d10.block⟩; have hb10 := hb8.trans (b10.mono hb8.size); have p6 := cell_below HC2.out hb10; obtain ⟨-, hs10, ho10, hO10, hm10⟩ := h10; have hlt10 := own_lt hO10)
          | (go_at_call 23; (with_reducible refine (copyBytes_any _ _ _ v _ ?hh).mono ?_); (case hh => exact (HB2.out.below hb10).below ⟨rfl, rfl, rfl, Nat.le_refl _, fun _ _ => rfl⟩); rintro e w11 ⟨a11, c11, rfl, o11, d11⟩; have b11 : Below w10.heap.size w10 w11 := ⟨d11.os, d11.tape, d11.output, d11.size, d11.block⟩; have hb11 := hb10.trans (b11.mono hb10.size); have p7 := cell_below HC2.out hb11; have ho11 := ho10.kept (grownBy_of_below b11 none) (by cases (Value.slice a10 n1 c10).ownBlock <;> simp); have hO11 := hO10.below b11; rw [HL4.out] at o11 ⊢; obtain ⟨q, rfl⟩ := own_some o11 (by omega); have o11' : w11.ownsRow w10.heap.size 5 1 (.slice (some ⟨q, 0, none⟩) n4 c11) n4 (v.map bv) := o11; have p7b := cell_below HC2.out (hb11.alloc hb11.size (.cells #[.slice (some ⟨q, 0, none⟩) n4 c11] 34)))
          | (refine step_append_lies _ rfl (.tmp 69) (.tmp 75) 22 rfl w8.heap.size 34 i0 (.slice none 0 0) 1 24 Try.underlying22 hi hz0 hz1 hz2 rfl (by decide) (.slice a10 n1 c10) n1 (hs10.map SV) (by rfl) (ho11.alloc _) ⟨w11.heap.size, 0, none⟩ 1 1 [SV (some ⟨q, 0, none⟩, n4, c11)] (by rfl) (by rfl) (World.news_of_block (heap_alloc_new w11 _)) (by intro u hu; simp at hu; subst hu; rfl) (by decide) (by simp [maxLen]; omega) (by omega) (by have := b10.size; have := b11.size; simp; omega) _ rfl ?_; intro g12 cap12 w12 hE12 g12' _ _; have hb12 := below_grown (hb11.alloc hb11.size (.cells #[.slice (some ⟨q, 0, none⟩) n4 c11] 34)) g12' (fun k hk => Nat.le_trans hz8 (show w8.heap.size ≤ k from (ho11.lt k hk).1)); have p8 := cell_below HC2.out hb12))
      all_goals
        obtain ⟨aB, cB, eB, hB⟩ := last_own (ho11.alloc (.cells #[.slice (some ⟨q, 0, none⟩) n4 c11] 34)) (hO11.below (below_alloc _ _)) hm10 hlt10 hE12 g12' (o11'.alloc _) ⟨HB2.out.bytes, by rw [show v.length = n4 from HL4.out]; exact hsm4⟩
        cases eB
        have b12 := b10.trans (b11.mono b10.size)
        have b12' := below_grown (b12.alloc b12.size (.cells #[.slice (some ⟨q, 0, none⟩) n4 c11] 34)) g12' (fun k hk => (ho11.lt k hk).1)
        have hA12 := hA.below b12'
        have hX12 := hX8.below b12'
        have hU : w8.heap.size ≤ w10.heap.size := b10.size
        clear b12 ho10 hO10 hm10 hlt10 ho11 hO11 o11 o11' hE12 g12' b10 b11 d10 d11 hb10 hb11 p5 p6 p7 p7b p8 hX8 hb8
        have hBR := hB.rd
        go_wp2_with fail
        (with_reducible refine (KS2' _ _ _ _ _ hA12.rd hBR).mono ?_)
        rintro e w13 ⟨a13, c13, rfl, h13, b13⟩
        have hb13 := hb12.trans (b13.mono hb12.size)
        have b813 := b12'.trans (b13.mono b12'.size)
        have hB13 := hB.below b13
        have hX13 := hX12.below b13
        clear KS2' b13 b12' hb12 hA12 hB hX12 hBR
        have KQ := sameRows_rd a7 S.1.length c7 S.1 a13 S.1.length c13 S.1 w13 hX13 h13 hSl
        rw [decide_eq_true rfl] at KQ
        go_wp2_with fail
        (with_reducible refine KQ.mono ?_)
        rintro e w14 ⟨rfl, b14⟩
        have hb14 := hb13.trans (b14.mono hb13.size)
        have b814 := b813.trans (b14.mono b813.size)
        have hB14 := hB13.below b14
        clear KQ b14 b813 hb13 hB13 hX13 h13
        obtain ⟨g, eg, r1, r2, hg8, hq, r3⟩ := hB14.cells (by omega)
        cases eg
        have hy : v.getD 0 0 < 256 := HB2.out.bytes.getD 0
        have hx : bits .xor .u8 ((v.getD 0 0 : Nat) : Int) 1 = ((v.getD 0 0 ^^^ 1 : Nat) : Int) := u8_xor_nat (v.getD 0 0) 1 hy (by omega)
        have hBR := hB14.flip (v.getD 0 0 ^^^ 1) (xor_lt hy (by decide))
        have hAR := hA.rd.below (below_grown b814 (grown_set4 w14 q 0 (.int .u8 (v.getD 0 0 ^^^ 1 : Nat))) (fun k hk => by injection hk with hk; omega))
        have hb15 := below_grown hb14 (grown_set4 w14 q 0 (.int .u8 (v.getD 0 0 ^^^ 1 : Nat))) (fun k hk => by injection hk with hk; omega)
        have KT := KS3 _ cap8 _ cap12 _ _ hAR hBR
        have hft := HF.out
        generalize solveR cols (l1 ++ [r]) (l2 ++ [v.set 0 (v.getD 0 0 ^^^ 1)]) = T at KT hft
        clear hy hB14 hAR hBR KS3 hA b814 hb14 HF
        generalize v.getD 0 0 = y at hx r2 hb15 KT
        obtain ⟨Y, code2⟩ := T
        obtain ⟨X, code⟩ := S
        simp only at hft
        by_cases hz : code = 0
        · rw [if_pos hz] at hft
          subst hft hz
          go_wp2_with fail
          (with_reducible refine KT.mono ?_)
          rintro e w16 ⟨a16, c16, rfl, h16, b16⟩
          simp only
          go_wp2
          go_ret
          exact ⟨rfl, hb15.trans (b16.mono hb15.size)⟩
        · rw [if_neg hz] at hft
          subst hft
          go_wp2_with fail
          (with_reducible refine KT.mono ?_)
          rintro e w16 ⟨a16, c16, rfl, h16, b16⟩
          simp only
          go_wp2
          go_ret
          exact ⟨rfl, hb15.trans (b16.mono hb15.size)⟩
end Go.Proofs.Ytgnnfpnkhemimaa
