/-
  Lj1: LjA LjB LjC LjD LjE
-/
import Derived.StillTailTactics
import Derived.Test.YtfjcbgfgiidogaaDoorMBase
import Derived.Test.YtfjcbgfgiidogaaDoorMLi2
namespace Go.Proofs.YtfjcbgfgiidogaaDoor
open Go.RowKit

abbrev Mem (ls : List (List Nat)) : Prop := ∀ l ∈ ls, Bytes l ∧ l.length ≤ 140737488355328
theorem told_all {cols : Int} {rows vs X : List (List Nat)} (h : solveR cols rows vs = (X, 0)) (hr : Mem rows) (hv : Mem vs) : applyR cols rows X = (vs, 0) ∧ X.length ≤ 128 := by
  unfold solveR at h
  by_cases hB : solveOK cols rows vs = true
  · rw [if_pos hB] at h
    obtain ⟨b1, b2, b3⟩ := solveOK_iff.1 hB
    obtain ⟨k1, k2, k3, k4, k5⟩ := right_rws b1 hr
    have hc := right_pos b1
    obtain ⟨e1, e2, e3⟩ := solve_told k2 b2 k1 (even_rws b3 hv) h rfl
    refine ⟨?_, by omega⟩
    unfold applyR
    rw [if_pos (applyOK_iff.2 ⟨b1, by omega, even_of_rws e2⟩), e3]
  · rw [if_neg hB] at h; injection h with _ h; cases h
theorem back_all {cols : Int} {rows xs : List (List Nat)} (hB : applyOK cols rows xs = true) (hr : Mem rows) (hx : Mem xs) :
    applyR cols rows xs = (applyOf rows xs, 0) ∧ rankR cols rows = (rankOf cols.toNat rows, 0) ∧ cols = (cols.toNat : Int) ∧ rankOf cols.toNat rows ≤ cols.toNat ∧ rankOf cols.toNat rows ≤ rows.length ∧ xs.length = cols.toNat ∧ cols.toNat ≤ 128 ∧ 0 < cols.toNat ∧ (applyOf rows xs).length = rows.length ∧ rows.length ≤ 256 ∧ (∀ r ∈ rows, r.length ≤ 128) ∧ (∀ B, (∀ x ∈ xs, x.length ≤ B) → widthB (applyOf rows xs) ≤ B) ∧
    solveR cols rows (applyOf rows xs) = if rankOf cols.toNat rows = cols.toNat then (xs, 0) else ([], 21) := by
  obtain ⟨b1, b2, b3⟩ := applyOK_iff.1 hB
  obtain ⟨k1, k2, k3, k4, k5⟩ := right_rws b1 hr
  have hc := right_pos b1
  have hxl : xs.length = cols.toNat := by omega
  have hw := even_rws b3 hx
  have hv := apply_rws k2 hxl k1 hw
  have hl : (applyOf rows xs).length = rows.length := by unfold applyOf; simp
  refine ⟨by unfold applyR; rw [if_pos hB], by unfold rankR; rw [if_pos b1], hc, (rank_le k1).1, (rank_le k1).2, hxl, k3, k2, hl, k4, k5, fun B hB' => ?_, ?_⟩
  · refine width_le fun v hv' => ?_
    rw [(hv v hv').2]
    exact width_le hB'
  · unfold solveR
    rw [if_pos (solveOK_iff.2 ⟨b1, hl, even_of_rws hv⟩)]
    exact solve_applied k2 hxl k1 hw
theorem apply_no {cols : Int} {rows xs : List (List Nat)} (hB : ¬ applyOK cols rows xs = true) : applyR cols rows xs = ([], 20) := by unfold applyR; rw [if_neg hB]


end Go.Proofs.YtfjcbgfgiidogaaDoor
namespace Go.Proofs.YtfjcbgfgiidogaaDoor
open Go.RowKit

/-- rows that the call made itself. -/
def OwnRs (w : World) (B : Nat) (a : Option Addr) (n c : Nat) (ls : List (List Nat)) : Prop :=
  ls.length = n ∧ ∃ hs, w.ownsRow B 22 1 (.slice a n c) n (hs.map SV) ∧ OwnsRows w B 5 hs ls ∧ Mem ls
theorem OwnRs.rd {w : World} {B : Nat} {a : Option Addr} {n c : Nat} {ls : List (List Nat)} (h : OwnRs w B a n c ls) : RD w a n ls := by
  obtain ⟨_, hs, h1, h2, h3⟩ := h
  exact rd_of_owns h1 h2 h3
theorem OwnRs.below {w w' : World} {B : Nat} {a : Option Addr} {n c : Nat} {ls : List (List Nat)} (h : OwnRs w B a n c ls) (hb : Below w.heap.size w w') : OwnRs w' B a n c ls := by
  obtain ⟨h0, hs, h1, h2, h3⟩ := h
  exact ⟨h0, hs, h1.kept (grownBy_of_below hb none) (by cases (Value.slice a n c).ownBlock <;> simp), h2.below hb, h3⟩
theorem OwnRs.alloc {w : World} {B : Nat} {a : Option Addr} {n c : Nat} {ls : List (List Nat)} (h : OwnRs w B a n c ls) (o : Obj) : OwnRs (w.alloc o) B a n c ls := h.below (below_alloc _ _)
theorem OwnRs.rebase {w : World} {B B' : Nat} {a : Option Addr} {n c : Nat} {ls : List (List Nat)} (h : OwnRs w B a n c ls) (hb : B' ≤ B) : OwnRs w B' a n c ls := by
  obtain ⟨h0, hs, h1, h2, h3⟩ := h
  exact ⟨h0, hs, ownsRow_base h1 hb, ⟨h2.1, fun i x l a b => ⟨(h2.2 i x l a b).1, ownsRow_base (h2.2 i x l a b).2 hb⟩⟩, h3⟩
/-- rows and an error; where there is none the rows are the call's own. -/
def GivesRO (w : World) (o : List (List Nat) × Int) (e : Ending) (w' : World) : Prop := ∃ a c, e = .returned (.tuple #[.slice a o.1.length c, .int .i64 o.2]) ∧ RD w' a o.1.length o.1 ∧ (o.2 = 0 → OwnRs w' w.heap.size a o.1.length c o.1) ∧ Below w.heap.size w w'
theorem GivesRO.R {w w' : World} {o : List (List Nat) × Int} {e : Ending} (h : GivesRO w o e w') : GivesR w o e w' := by
  obtain ⟨a, c, he, h1, -, h3⟩ := h
  exact ⟨a, c, he, h1, h3⟩
theorem givesRO_nil {w w' : World} {code : Int} (hb : Below w.heap.size w w') : GivesRO w ([], code) (.returned (.tuple #[.slice none 0 0, .int .i64 code])) w' := ⟨none, 0, rfl, RD.nil _ _, fun _ => ⟨rfl, [], ⟨rfl, .inl ⟨rfl, rfl⟩⟩, ⟨rfl, fun i x l h => by simp at h⟩, fun m h => by simp at h⟩, hb⟩
set_option maxRecDepth 10000 in
theorem apply_ro (cols : Int) (ar : Option Addr) (nr cr : Nat) (rows : List (List Nat)) (ax : Option Addr) (nx cx : Nat) (xs : List (List Nat)) (w : World) (h : RD w ar nr rows) (k : RD w ax nx xs) (hn : nr ≤ 1000) (hx : nx ≤ 1000) :
    Calls Tryd.prog 68 #[.int .i64 cols, .slice ar nr cr, .slice ax nx cx] w (GivesRO w (applyR cols rows xs)) := by
  obtain ⟨_, hs, h2, h3⟩ := h
  obtain ⟨_, ks, k2, k3⟩ := k
  unfold applyR
  by_cases hB : applyOK cols rows xs = true
  · rw [if_pos hB]
    have hR : rightB cols rows = true := by unfold applyOK at hB; simp only [Bool.and_eq_true] at hB; exact hB.1
    have hc := right_pos hR
    generalize cols.toNat = m at hc
    subst hc
    refine (apply_own m ar nr cr hs rows ax nx cx ks xs w h2 h3 k2 k3 hB).mono fun _ _ h => ?_
    obtain ⟨a, c, e, ⟨ys, o1, o2⟩, hm, hb⟩ := h
    have ho : OwnRs _ w.heap.size a (applyOf rows xs).length c (applyOf rows xs) := ⟨rfl, ys, o1, o2, hm⟩
    exact ⟨a, c, e, ho.rd, fun _ => ho, hb⟩
  · rw [if_neg hB]
    refine (apply_bad cols ar nr cr hs rows ax nx cx ks xs w h2 h3 k2 k3 (by omega) (by omega) (by simpa using hB)).mono fun _ _ h => ?_
    obtain ⟨a, c, he, h1, h3⟩ := h.R
    exact ⟨a, c, he, h1, fun h => absurd h (by decide), h3⟩
theorem copyRows_own (a : Option Addr) (n c : Nat) (ls : List (List Nat)) (w : World) (h : RD w a n ls) (hn : n * 24 ≤ 140737488351232) :
    Calls Tryd.prog 120 #[.slice a n c] w fun e w' => ∃ a' c', e = .returned (.slice a' n c') ∧ OwnRs w' w.heap.size a' n c' ls ∧ Below w.heap.size w w' := by
  have hb := h.mem
  obtain ⟨h1, hs, h2, h3⟩ := h
  subst h1
  exact (copyRows_any a _ c hs ls w h2 hn h3).mono fun e w' ⟨ad, cap, hs', he, ho, hO, hbl⟩ => ⟨ad, cap, he, ⟨rfl, hs', ho, hO, hb⟩, hbl⟩
/-- behind append of one row. -/
theorem append_rd {wm w' : World} {B n : Nat} {a : Option Addr} {c : Nat} {hs : List HdT} {ls : List (List Nat)} {v' : Value} {x : HdT} {l : List Nat} (ho : wm.ownsRow B 22 1 (.slice a n c) n (hs.map SV)) (hO : OwnsRows wm B 5 hs ls) (hm : Mem ls)
    (hE : w'.ownsRow B 22 1 v' (n + 1) (hs.map SV ++ [SV x])) (g : wm.grownBy w' (Value.slice a n c).ownBlock) (hx : BytesV w' x l) : ∃ a' c', v' = .slice a' (n + 1) c' ∧ RD w' a' (n + 1) (ls ++ [l]) := by
  obtain ⟨a', c', rfl, -, -, -, hrow⟩ := ownsRow_parts hE
  have hn : hs.length = n := by have := ho.1; simpa using this
  have hls : ls.length = n := by rw [← hO.1, hn]
  have hO' : OwnsRows w' B 5 hs ls := hO.kept g fun i y m h1 h2 => own_ne (hO.2 i y m h1 h2).2 ho (by decide)
  refine ⟨a', c', rfl, by simp [hls], hs ++ [x], by rw [List.map_append]; exact hrow, by simp [hO.1], fun i y m h1 h2 => ?_⟩
  have hR := hO'.rowsV hm
  by_cases hi : i < hs.length
  · rw [List.getElem?_append_left hi] at h1
    rw [List.getElem?_append_left (by rw [← hO.1]; exact hi)] at h2
    exact hR.2 i y m h1 h2
  · rw [List.getElem?_append_right (by omega)] at h1
    rw [List.getElem?_append_right (by rw [← hO.1]; omega), ← hO.1] at h2
    have hi0 := (List.getElem?_eq_some_iff.1 h1).1
    simp only [List.length_cons, List.length_nil] at hi0
    have e0 : i - hs.length = 0 := by omega
    rw [e0] at h1 h2
    simp at h1 h2
    subst h1 h2
    exact hx
theorem append_own {wm w' : World} {B n : Nat} {a : Option Addr} {c : Nat} {hs : List HdT} {ls : List (List Nat)} {v' : Value} {x : HdT} {l : List Nat} (ho : wm.ownsRow B 22 1 (.slice a n c) n (hs.map SV)) (hO : OwnsRows wm B 5 hs ls) (hm : Mem ls)
    (hE : w'.ownsRow B 22 1 v' (n + 1) (hs.map SV ++ [SV x])) (g : wm.grownBy w' (Value.slice a n c).ownBlock) (hx : wm.ownsRow B 5 1 (SV x) l.length (l.map bv)) (hxl : x.2.1 = l.length) (hl : Bytes l ∧ l.length ≤ 140737488355328) : ∃ a' c', v' = .slice a' (n + 1) c' ∧ OwnRs w' B a' (n + 1) c' (ls ++ [l]) := by
  obtain ⟨a', c', rfl, -⟩ := ownsRow_parts hE
  have hn : hs.length = n := by have := ho.1; simpa using this
  have hls : ls.length = n := by rw [← hO.1, hn]
  have hO' : OwnsRows w' B 5 hs ls := hO.kept g fun i y m h1 h2 => own_ne (hO.2 i y m h1 h2).2 ho (by decide)
  have hx' := hx.kept g (own_ne hx ho (by decide))
  refine ⟨a', c', rfl, by simp [hls], hs ++ [x], by rw [List.map_append]; exact hE, hO'.snoc hxl hx', fun m hm' => ?_⟩
  rcases List.mem_append.1 hm' with h | h
  · exact hm m h
  · simp only [List.mem_singleton] at h
    subst h
    exact hl

theorem grows_all {cols : Int} {rows : List (List Nat)} {row : List Nat} (hr : Mem rows) (hw : Bytes row) (hn : rows.length ≤ 255) :
    (rightB cols rows = false ∧ rankR cols rows = (0, 20)) ∨
    (rightB cols rows = true ∧ (row.length : Int) ≠ cols ∧ rankR cols rows = (rankOf cols.toNat rows, 0) ∧ rankR cols (rows ++ [row]) = (0, 20)) ∨
    (rightB cols rows = true ∧ (row.length : Int) = cols ∧ rankR cols rows = (rankOf cols.toNat rows, 0) ∧ rankR cols (rows ++ [row]) = (rankOf cols.toNat (rows ++ [row]), 0) ∧ rankOf cols.toNat rows ≤ rows.length ∧ (rankOf cols.toNat rows : Int) ≤ cols ∧ rankOf cols.toNat rows ≤ rankOf cols.toNat (rows ++ [row]) ∧ rankOf cols.toNat (rows ++ [row]) ≤ rankOf cols.toNat rows + 1) := by
  by_cases hB : rightB cols rows = true
  · right
    obtain ⟨k1, k2, k3, k4, k5⟩ := right_rws hB hr
    have hc := right_pos hB
    have e1 : rankR cols rows = (rankOf cols.toNat rows, 0) := by unfold rankR; rw [if_pos hB]
    obtain ⟨b1, b2, b3, b4⟩ := rightB_iff.1 hB
    by_cases hl : (row.length : Int) = cols
    · right
      have hB2 : rightB cols (rows ++ [row]) = true := rightB_iff.2 ⟨b1, b2, by simp; omega, fun r hr' => by
        rcases List.mem_append.1 hr' with h | h
        · exact b4 r h
        · simp only [List.mem_singleton] at h; subst h; exact hl⟩
      have hw2 : Rws (rows ++ [row]) cols.toNat := fun r hr' => by
        rcases List.mem_append.1 hr' with h | h
        · exact k1 r h
        · simp only [List.mem_singleton] at h; subst h; exact ⟨hw, by omega⟩
      have hst := count_to_step cols.toNat hw2 rows.length
      have hmo := count_to_mono cols.toNat (rows ++ [row]) rows.length
      have hsame : sysTo cols.toNat (rows ++ [row]) rows.length = sysTo cols.toNat rows rows.length := by
        unfold sysTo; rw [List.take_append_of_le_length (Nat.le_refl _)]
      rw [hsame] at hst hmo
      refine ⟨hB, hl, e1, by unfold rankR; rw [if_pos hB2], (rank_le k1).2, by have := (rank_le k1).1; omega, ?_, ?_⟩
      · unfold rankOf; rw [List.length_append, List.length_singleton]; exact hmo
      · unfold rankOf; rw [List.length_append, List.length_singleton]; exact hst
    · left
      refine ⟨hB, hl, e1, ?_⟩
      unfold rankR
      rw [if_neg (fun h => hl ((rightB_iff.1 h).2.2.2 row (by simp)))]
  · left
    exact ⟨by simpa using hB, by unfold rankR; rw [if_neg hB]⟩

end Go.Proofs.YtfjcbgfgiidogaaDoor
namespace Go.Proofs.YtfjcbgfgiidogaaDoor
open Go.RowKit

theorem snoc_at {α : Type} {xs : List α} {x : α} {i : Nat} {y : α} (h : (xs ++ [x])[i]? = some y) : (xs[i]? = some y ∧ i < xs.length) ∨ (i = xs.length ∧ y = x) := by
  by_cases hi : i < xs.length
  · rw [List.getElem?_append_left hi] at h; exact .inl ⟨h, hi⟩
  · rw [List.getElem?_append_right (by omega)] at h
    have h0 := (List.getElem?_eq_some_iff.1 h).1
    simp only [List.length_cons, List.length_nil] at h0
    have e0 : i - xs.length = 0 := by omega
    rw [e0] at h
    simp at h
    exact .inr ⟨by omega, h.symm⟩
theorem mem_augs_snoc {rows vs : List (List Nat)} {r v : List Nat} (hl : vs.length = rows.length) {a : List Nat} : a ∈ augs (rows ++ [r]) (vs ++ [v]) ↔ a ∈ augs rows vs ∨ a = r ++ v := by
  constructor
  · intro h
    obtain ⟨i, r', v', h1, h2, rfl⟩ := mem_augs.1 h
    rcases snoc_at h1 with ⟨h1, k1⟩ | ⟨k1, rfl⟩ <;> rcases snoc_at h2 with ⟨h2, k2⟩ | ⟨k2, rfl⟩
    · exact .inl (mem_augs.2 ⟨i, r', v', h1, h2, rfl⟩)
    · omega
    · omega
    · exact .inr rfl
  · rintro (h | rfl)
    · obtain ⟨i, r', v', h1, h2, rfl⟩ := mem_augs.1 h
      exact mem_augs.2 ⟨i, r', v', by rw [List.getElem?_append_left (List.getElem?_eq_some_iff.1 h1).1]; exact h1, by rw [List.getElem?_append_left (List.getElem?_eq_some_iff.1 h2).1]; exact h2, rfl⟩
    · exact mem_augs.2 ⟨rows.length, r, v, by simp, by rw [← hl]; simp, rfl⟩
theorem width_snoc {vs : List (List Nat)} {v : List Nat} (h0 : 0 < vs.length) : widthB (vs ++ [v]) = widthB vs := by
  unfold widthB
  rw [List.getD_eq_getElem?_getD, List.getD_eq_getElem?_getD, List.getElem?_append_left h0]
theorem rws_snoc {vs : List (List Nat)} {v : List Nat} {n : Nat} (h : Rws vs n) (hv : Bytes v ∧ v.length = n) : Rws (vs ++ [v]) n := fun x hx => by
  rcases List.mem_append.1 hx with h' | h'
  · exact h x h'
  · simp only [List.mem_singleton] at h'; subst h'; exact hv
/-- a row more, of the length of another, and a value of the length of another, alter nothing of the shapes. -/
theorem solveOK_snoc {cols : Int} {rows vs : List (List Nat)} {r v r0 v0 : List Nat} (hl : vs.length = rows.length) (hn : rows.length ≤ 255) (hr : r0 ∈ rows) (hv : v0 ∈ vs) (e1 : r.length = r0.length) (e2 : v.length = v0.length) :
    solveOK cols (rows ++ [r]) (vs ++ [v]) = true ↔ solveOK cols rows vs = true := by
  have h0 : 0 < vs.length := List.length_pos_of_mem hv
  rw [solveOK_iff, solveOK_iff, rightB_iff, rightB_iff, width_snoc h0, evenB_iff, evenB_iff]
  constructor
  · rintro ⟨⟨a1, a2, a3, a4⟩, b, c⟩
    exact ⟨⟨a1, a2, by omega, fun l hl => a4 l (by simp [hl])⟩, hl, fun x hx => c x (by simp [hx])⟩
  · rintro ⟨⟨a1, a2, a3, a4⟩, b, c⟩
    refine ⟨⟨a1, a2, by simp; omega, fun l hl' => ?_⟩, by simp [hl], fun x hx => ?_⟩
    · rcases List.mem_append.1 hl' with h | h
      · exact a4 l h
      · simp only [List.mem_singleton] at h; subst h; rw [e1]; exact a4 r0 hr
    · rcases List.mem_append.1 hx with h | h
      · exact c x h
      · simp only [List.mem_singleton] at h; subst h; rw [e2]; exact c v0 hv
theorem more_same {cols : Int} {rows vs : List (List Nat)} {r v : List Nat} {i : Nat} (hr : rows[i]? = some r) (hv : vs[i]? = some v) (mr : Mem rows) (mv : Mem vs) (hl : vs.length = rows.length) (hn : rows.length ≤ 255) :
    solveR cols (rows ++ [r]) (vs ++ [v]) = solveR cols rows vs := by
  have hr' := List.mem_of_getElem? hr
  have hv' := List.mem_of_getElem? hv
  have hiff := solveOK_snoc (cols := cols) (r := r) (v := v) hl hn hr' hv' rfl rfl
  unfold solveR
  by_cases hB : solveOK cols rows vs = true
  · rw [if_pos hB, if_pos (hiff.2 hB)]
    obtain ⟨b1, b2, b3⟩ := solveOK_iff.1 hB
    obtain ⟨k1, k2, k3, k4, k5⟩ := right_rws b1 mr
    have w1 := even_rws b3 mv
    have s1 := says_augs hl k1 w1
    have s2 := says_augs (rows := rows ++ [r]) (vs := vs ++ [v]) (by simp [hl]) (rws_snoc k1 (k1 r hr')) (rws_snoc w1 (w1 v hv'))
    rw [solveOut_end, solveOut_end]
    refine end_congr s2 s1 (fun y _ => ⟨fun h a ha => h a ((mem_augs_snoc hl).2 (.inl ha)), fun h a ha => ?_⟩)
    rcases (mem_augs_snoc hl).1 ha with h1 | rfl
    · exact h a h1
    · exact h _ (mem_augs.2 ⟨i, r, v, hr, hv, rfl⟩)
  · rw [if_neg hB, if_neg (fun h => hB (hiff.1 h))]
theorem xor_one_ne (x : Nat) : x ^^^ 1 ≠ x := fun h => by
  have := congrArg (· ^^^ x) h
  simp only [Nat.xor_self] at this
  rw [Nat.xor_comm, ← Nat.xor_assoc, Nat.xor_self] at this
  simp at this
theorem more_flip {cols : Int} {rows vs : List (List Nat)} {r v : List Nat} {i : Nat} (hr : rows[i]? = some r) (hv : vs[i]? = some v) (mr : Mem rows) (mv : Mem vs) (hl : vs.length = rows.length) (hn : rows.length ≤ 255) (h0 : 0 < v.length) :
    (solveR cols (rows ++ [r]) (vs ++ [v.set 0 (v.getD 0 0 ^^^ 1)])).2 = if (solveR cols rows vs).2 = 0 then 22 else (solveR cols rows vs).2 := by
  have hr' := List.mem_of_getElem? hr
  have hv' := List.mem_of_getElem? hv
  have hiff := solveOK_snoc (cols := cols) (r := r) (v := v.set 0 (v.getD 0 0 ^^^ 1)) hl hn hr' hv' rfl (by simp)
  have hsame := more_same (cols := cols) hr hv mr mv hl hn
  have hiff2 := solveOK_snoc (cols := cols) (r := r) (v := v) hl hn hr' hv' rfl rfl
  by_cases hB : solveOK cols rows vs = true
  · obtain ⟨b1, b2, b3⟩ := solveOK_iff.1 hB
    obtain ⟨k1, k2, k3, k4, k5⟩ := right_rws b1 mr
    have w1 := even_rws b3 mv
    obtain ⟨v2, hv2⟩ : ∃ v2, v2 = v.set 0 (v.getD 0 0 ^^^ 1) := ⟨_, rfl⟩
    have hvb := w1 v hv'
    have hb2 : Bytes v2 ∧ v2.length = widthB vs := by
      rw [hv2]
      refine ⟨fun x hx => ?_, by simpa using hvb.2⟩
      rcases List.mem_or_eq_of_mem_set hx with h | h
      · exact hvb.1 x h
      · rw [h]; exact xor_lt (hvb.1.getD 0) (by decide)
    have h20 : v2.getD 0 0 = v.getD 0 0 ^^^ 1 := by rw [hv2, List.getD_eq_getElem?_getD, List.getElem?_set]; simp [h0]
    rw [← hv2] at hiff ⊢
    clear hv2
    have s1 := says_augs (rows := rows ++ [r]) (vs := vs ++ [v]) (by simp [hl]) (rws_snoc k1 (k1 r hr')) (rws_snoc w1 hvb)
    have s2 := says_augs (rows := rows ++ [r]) (vs := vs ++ [v2]) (by simp [hl]) (rws_snoc k1 (k1 r hr')) (rws_snoc w1 hb2)
    have f1 := full_augs (rows := rows ++ [r]) (vs := vs ++ [v]) (by simp [hl]) (rws_snoc k1 (k1 r hr')) (rws_snoc w1 hvb)
    have f2 := full_augs (rows := rows ++ [r]) (vs := vs ++ [v2]) (by simp [hl]) (rws_snoc k1 (k1 r hr')) (rws_snoc w1 hb2)
    rw [← hsame]
    unfold solveR
    rw [if_pos (hiff.2 hB), if_pos (hiff2.2 hB), solveOut_end, solveOut_end]
    unfold solveEnd
    by_cases hf : rankOf cols.toNat (rows ++ [r]) = cols.toNat
    · have g1 := f1.2 hf
      have g2 := f2.2 hf
      have hc2 : (sysTo cols.toNat (augs (rows ++ [r]) (vs ++ [v2])) (rows ++ [r]).length).2 = true := by
        cases e : (sysTo cols.toNat (augs (rows ++ [r]) (vs ++ [v2])) (rows ++ [r]).length).2 with
        | true => rfl
        | false =>
          exfalso
          have hwid : 0 < widthB vs := by rw [← hvb.2]; exact h0
          obtain ⟨y, hy⟩ : ∃ y, SolT cols.toNat (widthB vs) (augs (rows ++ [r]) (vs ++ [v2])) 0 y := ⟨_, sol_of s2 g2 e hwid⟩
          obtain ⟨y1, y2, y3, y4⟩ := hy
          have d1 := y2 (r ++ v2) ((mem_augs_snoc hl).2 (.inr rfl))
          have d2 := y2 (r ++ v) ((mem_augs_snoc hl).2 (.inl (mem_augs.2 ⟨i, r, v, hr, hv, rfl⟩)))
          have hrl := (k1 r hr').2
          rw [dot_aug y _ hrl, tail_one (g := fun u => v2.getD u 0) hwid y3 y4 (hb2.1.getD 0)] at d1
          rw [dot_aug y _ hrl, tail_one (g := fun u => v.getD u 0) hwid y3 y4 (hvb.1.getD 0)] at d2
          have := (xor_eq_zero d1).symm.trans (xor_eq_zero d2)
          rw [h20] at this
          exact xor_one_ne _ this
      rw [if_neg (show ¬ count (sysTo cols.toNat (augs (rows ++ [r]) (vs ++ [v2])) (rows ++ [r]).length).1 cols.toNat ≠ cols.toNat from fun h => h g2), if_pos hc2]
      rw [if_neg (show ¬ count (sysTo cols.toNat (augs (rows ++ [r]) (vs ++ [v])) (rows ++ [r]).length).1 cols.toNat ≠ cols.toNat from fun h => h g1)]
      split
      · simp
      · simp
    · rw [if_pos (show count (sysTo cols.toNat (augs (rows ++ [r]) (vs ++ [v2])) (rows ++ [r]).length).1 cols.toNat ≠ cols.toNat from fun h => hf (f2.1 h))]
      rw [if_pos (show count (sysTo cols.toNat (augs (rows ++ [r]) (vs ++ [v])) (rows ++ [r]).length).1 cols.toNat ≠ cols.toNat from fun h => hf (f1.1 h))]
      simp
  · unfold solveR
    rw [if_neg hB, if_neg (fun h => hB (hiff.1 h))]
    simp
/-- the last row's first byte is turned. -/
theorem flip_last {w : World} {B U n q m cx : Nat} {a : Option Addr} {c : Nat} {hs : List HdT} {ls : List (List Nat)} {v : List Nat} (ho : w.ownsRow B 22 1 (.slice a n c) n (hs.map SV ++ [SV (some ⟨q, 0, none⟩, m, cx)])) (hO : OwnsRows w B 5 hs ls) (hlt : ∀ y ∈ hs, ∀ b, (SV y).ownBlock = some b → b < U)
    (hx : w.ownsRow U 5 1 (.slice (some ⟨q, 0, none⟩) m cx) m (v.map bv)) (hm : Mem ls) (hv : Bytes v ∧ v.length ≤ 140737488355328) (z : Nat) (hz : z < 256) : RD (w.setCell ⟨q, 0, none⟩ (.int .u8 (z : Nat))) a n (ls ++ [v.set 0 z]) := by
  have hvm : v.length = m := by have := hx.1; simpa using this
  have hg := grown_set4 w q 0 (.int .u8 (z : Nat))
  have hqU : U ≤ q := (hx.lt q rfl).1
  have hx2 := own_set' hx 0 (.int .u8 (z : Nat))
  rw [show (v.map bv).set 0 (.int .u8 (z : Nat)) = (v.set 0 z).map bv by rw [List.map_set]; rfl] at hx2
  have ho2 := ho.kept hg (by
    have := own_ne ho hx (by decide)
    exact this)
  have hO2 : OwnsRows (w.setCell ⟨q, 0, none⟩ (.int .u8 (z : Nat))) B 5 hs ls := hO.kept hg fun i y l h1 h2 => by
    cases e : (SV y).ownBlock with
    | none => exact .inl rfl
    | some b => exact .inr (fun e2 => by have := hlt y (List.mem_of_getElem? h1) b e; injection e2 with e2; omega)
  have hzv : Bytes (v.set 0 z) := fun x hx => by
    rcases List.mem_or_eq_of_mem_set hx with h | h
    · exact hv.1 x h
    · rw [h]; exact hz
  have hxb := bytesV_of_owns hx2 hzv (by omega)
  obtain ⟨_, _, e, _, _, _, hrow⟩ := ownsRow_parts ho2
  cases e
  have hn : hs.length + 1 = n := by have := ho.1; simpa using this
  refine ⟨by simp [← hO.1]; omega, hs ++ [(some ⟨q, 0, none⟩, m, cx)], by rw [List.map_append]; exact hrow, by simp [hO.1], fun i y l h1 h2 => ?_⟩
  have hR := hO2.rowsV hm
  rcases snoc_at h1 with ⟨h1, k1⟩ | ⟨k1, rfl⟩ <;> rcases snoc_at h2 with ⟨h2, k2⟩ | ⟨k2, rfl⟩
  · exact hR.2 i y l h1 h2
  · have := hO.1; omega
  · have := hO.1; omega
  · exact hxb
/-- rows of the call's own, the last one made after the others. -/
structure LastR (w : World) (B U : Nat) (a : Option Addr) (n c : Nat) (hs : List HdT) (ls : List (List Nat)) (q m cx : Nat) (l : List Nat) : Prop where
  row : w.ownsRow B 22 1 (.slice a n c) n (hs.map SV ++ [SV (some ⟨q, 0, none⟩, m, cx)])
  els : OwnsRows w B 5 hs ls
  lt : ∀ y ∈ hs, ∀ b, (SV y).ownBlock = some b → b < U
  last : w.ownsRow U 5 1 (.slice (some ⟨q, 0, none⟩) m cx) m (l.map bv)
  mem : Mem ls
  bytes : Bytes l ∧ l.length ≤ 140737488355328
theorem LastR.below {w w' : World} {B U n c q m cx : Nat} {a : Option Addr} {hs : List HdT} {ls : List (List Nat)} {l : List Nat} (h : LastR w B U a n c hs ls q m cx l) (hb : Below w.heap.size w w') : LastR w' B U a n c hs ls q m cx l :=
  ⟨h.row.kept (grownBy_of_below hb none) (by cases (Value.slice a n c).ownBlock <;> simp), h.els.below hb, h.lt, h.last.kept (grownBy_of_below hb none) (by cases (Value.slice (some ⟨q, 0, none⟩) m cx).ownBlock <;> simp), h.mem, h.bytes⟩
theorem LastR.flip {w : World} {B U n c q m cx : Nat} {a : Option Addr} {hs : List HdT} {ls : List (List Nat)} {l : List Nat} (h : LastR w B U a n c hs ls q m cx l) (z : Nat) (hz : z < 256) : RD (w.setCell ⟨q, 0, none⟩ (.int .u8 (z : Nat))) a n (ls ++ [l.set 0 z]) :=
  flip_last h.row h.els h.lt h.last h.mem h.bytes z hz
theorem LastR.rd {w : World} {B U n c q m cx : Nat} {a : Option Addr} {hs : List HdT} {ls : List (List Nat)} {l : List Nat} (h : LastR w B U a n c hs ls q m cx l) : RD w a n (ls ++ [l]) := by
  have hlm : l.length = m := by have := h.last.1; simpa using this
  have hx := bytesV_of_owns h.last h.bytes.1 (by have := h.bytes.2; omega)
  obtain ⟨_, _, e, -, -, -, hrow⟩ := ownsRow_parts h.row
  cases e
  have hn : hs.length + 1 = n := by have := h.row.1; simpa using this
  refine ⟨by simp [← h.els.1]; omega, hs ++ [(some ⟨q, 0, none⟩, m, cx)], by rw [List.map_append]; exact hrow, by simp [h.els.1], fun i y l h1 h2 => ?_⟩
  have hR := h.els.rowsV h.mem
  rcases snoc_at h1 with ⟨h1, k1⟩ | ⟨k1, rfl⟩ <;> rcases snoc_at h2 with ⟨h2, k2⟩ | ⟨k2, rfl⟩
  · exact hR.2 i y l h1 h2
  · have := h.els.1; omega
  · have := h.els.1; omega
  · exact hx
theorem LastR.cells {w : World} {B U n c q m cx : Nat} {a : Option Addr} {hs : List HdT} {ls : List (List Nat)} {l : List Nat} (h : LastR w B U a (n + 1) c hs ls q m cx l) (hm : 0 < m) :
    ∃ g, a = some ⟨g, 0, none⟩ ∧ w.cell? ⟨g, n, none⟩ = some (.slice (some ⟨q, 0, none⟩) m cx) ∧ w.cell? ⟨q, 0, none⟩ = some (.int .u8 (l.getD 0 0 : Nat)) ∧ B ≤ g ∧ U ≤ q ∧ w.frozen? ⟨q, 0, none⟩ = false := by
  have hlm : l.length = m := by have := h.last.1; simpa using this
  have hx := bytesV_of_owns h.last h.bytes.1 (by have := h.bytes.2; omega)
  obtain ⟨_, _, e, k, -, -, hrow⟩ := ownsRow_parts h.row
  cases e
  have hn : hs.length = n := by have := h.row.1; simpa using this
  rcases k with ⟨-, k, -⟩ | ⟨g, rfl, hB, -⟩
  · omega
  obtain ⟨b, off, e, hc⟩ := hrow.2 (by omega)
  injection e with e
  injection e with e1 e2
  subst e1 e2
  obtain ⟨b2, off2, e, hc2⟩ := hx.cellAt 0 hm
  injection e with e
  injection e with e1 e2
  subst e1 e2
  have hcn := hc n (by omega)
  rw [Nat.zero_add] at hcn
  refine ⟨g, rfl, ?_, hc2, hB, (h.last.lt q rfl).1, h.last.frozenAt 0⟩
  rw [hcn, List.getElem?_append_right (by simp [hn]), List.length_map, hn]
  simp [SV]
theorem last_own {wm w' : World} {B U n : Nat} {a : Option Addr} {c : Nat} {hs : List HdT} {ls : List (List Nat)} {v' : Value} {q m cx : Nat} {l : List Nat} (ho : wm.ownsRow B 22 1 (.slice a n c) n (hs.map SV)) (hO : OwnsRows wm B 5 hs ls) (hm : Mem ls) (hlt : ∀ y ∈ hs, ∀ b, (SV y).ownBlock = some b → b < U)
    (hE : w'.ownsRow B 22 1 v' (n + 1) (hs.map SV ++ [SV (some ⟨q, 0, none⟩, m, cx)])) (g : wm.grownBy w' (Value.slice a n c).ownBlock) (hx : wm.ownsRow U 5 1 (.slice (some ⟨q, 0, none⟩) m cx) m (l.map bv)) (hl : Bytes l ∧ l.length ≤ 140737488355328) : ∃ a' c', v' = .slice a' (n + 1) c' ∧ LastR w' B U a' (n + 1) c' hs ls q m cx l := by
  obtain ⟨a', c', rfl, -⟩ := ownsRow_parts hE
  exact ⟨a', c', rfl, hE, hO.kept g fun i y m h1 h2 => own_ne (hO.2 i y m h1 h2).2 ho (by decide), hlt, hx.kept g (own_ne hx ho (by decide)), hm, hl⟩
theorem own_lt {w : World} {B : Nat} {hs : List HdT} {ls : List (List Nat)} (hO : OwnsRows w B 5 hs ls) : ∀ y ∈ hs, ∀ b, (SV y).ownBlock = some b → b < w.heap.size := fun y hy b hb => by
  obtain ⟨i, hi⟩ := List.getElem?_of_mem hy
  have hil := (List.getElem?_eq_some_iff.1 hi).1
  obtain ⟨l, hl⟩ : ∃ l, ls[i]? = some l := ⟨_, List.getElem?_eq_getElem (by rw [← hO.1]; exact hil)⟩
  exact ((hO.2 i y l hi hl).2.lt b hb).2
theorem own_some {w : World} {U m c : Nat} {T : TypeId} {a : Option Addr} {xs : List Value} (h : w.ownsRow U T 1 (.slice a m c) m xs) (hm : 0 < m) : ∃ q, a = some ⟨q, 0, none⟩ := by
  obtain ⟨_, _, e, k, -⟩ := ownsRow_parts h
  cases e
  rcases k with ⟨-, k, -⟩ | ⟨g, rfl, -⟩
  · omega
  · exact ⟨g, rfl⟩
theorem cell_below {w w' : World} {b off : Nat} {v : Value} (h : w.cell? ⟨b, off, none⟩ = some v) (hb : Below w.heap.size w w') : w'.cell? ⟨b, off, none⟩ = some v := by
  have h1 : RowV w (some ⟨b, off, none⟩) 1 [v] := ⟨rfl, fun _ => ⟨b, off, rfl, fun i hi => by (obtain rfl : i = 0 := by omega); simpa using h⟩⟩
  obtain ⟨_, _, e, hc⟩ := (h1.below hb).2 (by omega)
  injection e with e
  injection e with e1 e2
  subst e1 e2
  exact hc 0 (by omega)
/-- a row that is read. -/
theorem RD.at {w : World} {a : Option Addr} {n i : Nat} {ls : List (List Nat)} (h : RD w a n ls) (hi : i < n) : ∃ b off a2 n2 c2 l, a = some ⟨b, off, none⟩ ∧ w.cell? ⟨b, off + i, none⟩ = some (.slice a2 n2 c2) ∧ ls[i]? = some l ∧ BytesV w (a2, n2, c2) l := by
  obtain ⟨h1, hs, h2, h3⟩ := h
  have hn : hs.length = n := by rw [h3.1, h1]
  obtain ⟨b, off, e, hc⟩ := h2.2 (by omega)
  obtain ⟨⟨a2, n2, c2⟩, hx⟩ : ∃ x, hs[i]? = some x := ⟨_, List.getElem?_eq_getElem (by omega)⟩
  obtain ⟨l, hl⟩ : ∃ l, ls[i]? = some l := ⟨_, List.getElem?_eq_getElem (by omega)⟩
  have hc1 := hc i hi
  rw [List.getElem?_map, hx] at hc1
  exact ⟨b, off, a2, n2, c2, l, e, hc1, hl, h3.2 i _ l hx hl⟩

theorem solve_short {cols : Int} {rows vs : List (List Nat)} (hr : Mem rows) (hv : Mem vs) : (solveR cols rows vs).1.length ≤ 1000 := by
  rcases solve_kinds cols rows vs with h | ⟨h, -⟩
  · have := (told_all (X := (solveR cols rows vs).1) (cols := cols) (Prod.ext rfl h) hr hv).2
    omega
  · rw [h]; simp
end Go.Proofs.YtfjcbgfgiidogaaDoor
namespace Go.Proofs.YtfjcbgfgiidogaaDoor
open Go.RowKit

theorem zip_maps {α β : Type} (op : β → β → β) (f g : α → β) : ∀ l : List α, List.zipWith op (l.map f) (l.map g) = l.map (fun x => op (f x) (g x))
  | [] => rfl
  | x :: l => by simp only [List.map_cons, List.zipWith_cons_cons]; rw [zip_maps op f g l]
theorem zip_getD (xs ys : List (List Nat)) (h : xs.length = ys.length) (k : Nat) : (List.zipWith addB xs ys).getD k [] = addB (xs.getD k []) (ys.getD k []) := by
  by_cases hk : k < xs.length
  · rw [List.getD_eq_getElem?_getD, List.getElem?_zipWith, List.getElem?_eq_getElem hk, List.getElem?_eq_getElem (by omega)]
    rw [List.getD_eq_getElem?_getD, List.getD_eq_getElem?_getD, List.getElem?_eq_getElem hk, List.getElem?_eq_getElem (by omega)]
    rfl
  · rw [List.getD_eq_getElem?_getD, List.getElem?_eq_none (by simp; omega), List.getD_eq_getElem?_getD, List.getElem?_eq_none (by omega), List.getD_eq_getElem?_getD, List.getElem?_eq_none (by omega)]
    rfl
theorem row_bytes {zs : List (List Nat)} (hz : ∀ l ∈ zs, Bytes l) (k : Nat) : Bytes (zs.getD k []) := by
  by_cases hk : k < zs.length
  · rw [List.getD_eq_getElem?_getD, List.getElem?_eq_getElem hk]
    exact hz _ (List.getElem_mem hk)
  · rw [List.getD_eq_getElem?_getD, List.getElem?_eq_none (by omega)]
    intro x hx
    simp at hx
theorem mixAt_sum (r : List Nat) {xs ys : List (List Nat)} (h : xs.length = ys.length) (hr : Bytes r) (hx : ∀ l ∈ xs, Bytes l) (hy : ∀ l ∈ ys, Bytes l) (j : Nat) : ∀ k, mixAt r (List.zipWith addB xs ys) j k = mixAt r xs j k ^^^ mixAt r ys j k
  | 0 => by simp [mixAt]
  | k + 1 => by
    simp only [mixAt]
    rw [mixAt_sum r h hr hx hy j k, zip_getD xs ys h k, addB_getD, mul_xor (hr.getD k) ((row_bytes hx k).getD j) ((row_bytes hy k).getD j), xor4]
theorem getD_far (l : List Nat) (j : Nat) (h : l.length ≤ j) : l.getD j 0 = 0 := by
  rw [List.getD_eq_getElem?_getD, List.getElem?_eq_none h]; rfl
theorem mixAt_low (r : List Nat) (xs : List (List Nat)) (j : Nat) : ∀ k, longest xs k ≤ j → mixAt r xs j k = 0
  | 0, _ => rfl
  | k + 1, h => by
    simp only [longest] at h
    simp only [mixAt]
    rw [mixAt_low r xs j k (by omega), getD_far (xs.getD k []) j (by omega), mul_zero]
    rfl
theorem longest_sum {xs ys : List (List Nat)} (h : xs.length = ys.length) : ∀ k, longest (List.zipWith addB xs ys) k = max (longest xs k) (longest ys k)
  | 0 => rfl
  | k + 1 => by
    simp only [longest]
    rw [longest_sum h k, zip_getD xs ys h k, addB_length]
    omega
theorem mixTo_any_getD (r : List Nat) (xs : List (List Nat)) (j n : Nat) : (mixTo r xs (longest xs n) n).getD j 0 = mixAt r xs j n := by
  by_cases hj : j < longest xs n
  · exact mixTo_getD _ _ _ _ hj n
  · rw [mixAt_low r xs j n (by omega), List.getD_eq_getElem?_getD, List.getElem?_eq_none (by rw [mixTo_length]; omega)]
    rfl
theorem apply_sum {rows xs ys : List (List Nat)} (h : xs.length = ys.length) (hr : ∀ l ∈ rows, Bytes l) (hx : ∀ l ∈ xs, Bytes l) (hy : ∀ l ∈ ys, Bytes l) :
    applyOf rows (List.zipWith addB xs ys) = List.zipWith addB (applyOf rows xs) (applyOf rows ys) := by
  unfold applyOf
  rw [zip_maps]
  apply List.map_congr_left
  intro r hr'
  have hl : (List.zipWith addB xs ys).length = xs.length := by simp [h]
  rw [hl, ← h]
  apply ext_getD
  · rw [mixTo_length, addB_length, mixTo_length, mixTo_length, longest_sum h]
  · intro j _
    rw [mixTo_any_getD, addB_getD, mixTo_any_getD, mixTo_any_getD, mixAt_sum r h (hr r hr') hx hy]
theorem lin_all {cols : Int} {rows xs ys : List (List Nat)} (hA : applyOK cols rows xs = true) (hB : applyOK cols rows ys = true) (hr : Mem rows) (hx : Mem xs) (hy : Mem ys) :
    (List.zipWith addB (applyOf rows xs) (applyOf rows ys)).length = rows.length ∧ (List.zipWith addB xs ys).length = cols.toNat ∧ cols = (cols.toNat : Int) ∧ cols.toNat ≤ 128 ∧ xs.length = cols.toNat ∧ ys.length = cols.toNat ∧
    (∀ B, (∀ x ∈ xs, x.length ≤ B) → (∀ x ∈ ys, x.length ≤ B) → widthB (List.zipWith addB (applyOf rows xs) (applyOf rows ys)) ≤ B) ∧ Mem (List.zipWith addB xs ys) ∧
    solveR cols rows (List.zipWith addB (applyOf rows xs) (applyOf rows ys)) = if rankOf cols.toNat rows = cols.toNat then (List.zipWith addB xs ys, 0) else ([], 21) := by
  obtain ⟨a1, a2, a3⟩ := applyOK_iff.1 hA
  obtain ⟨b1, b2, b3⟩ := applyOK_iff.1 hB
  have hl : xs.length = ys.length := by omega
  have e1 : ∀ x ∈ xs, x.length = widthB xs := fun x hx => by have := evenB_iff.1 a3 x hx; omega
  have e2 : ∀ x ∈ ys, x.length = widthB ys := fun x hx => by have := evenB_iff.1 b3 x hx; omega
  have hmem : ∀ l ∈ List.zipWith addB xs ys, Bytes l ∧ l.length = max (widthB xs) (widthB ys) ∧ l.length ≤ 140737488355328 := fun l hl' => by
    obtain ⟨i, hi⟩ := List.getElem?_of_mem hl'
    rw [List.getElem?_zipWith] at hi
    have hk : i < xs.length := by
      by_cases hk : i < xs.length
      · exact hk
      · rw [List.getElem?_eq_none (by omega)] at hi; cases hi
    rw [List.getElem?_eq_getElem hk, List.getElem?_eq_getElem (by omega)] at hi
    simp only [Option.some.injEq] at hi
    subst hi
    have m1 := hx _ (List.getElem_mem hk)
    have m2 := hy _ (List.getElem_mem (show i < ys.length by omega))
    have q1 := e1 _ (List.getElem_mem hk)
    have q2 := e2 _ (List.getElem_mem (show i < ys.length by omega))
    refine ⟨addB_bytes m1.1 m2.1, by rw [addB_length, q1, q2], by rw [addB_length]; omega⟩
  have hX : applyOK cols rows (List.zipWith addB xs ys) = true := applyOK_iff.2 ⟨a1, by simp; omega, even_of_rws (n := max (widthB xs) (widthB ys)) fun l hl' => ⟨(hmem l hl').1, (hmem l hl').2.1⟩⟩
  have hM : Mem (List.zipWith addB xs ys) := fun l hl' => ⟨(hmem l hl').1, (hmem l hl').2.2⟩
  obtain ⟨-, -, k3, -, -, k6, k7, -, k9, -, -, k12, k13⟩ := back_all hX hr hM
  rw [apply_sum hl (fun l h => (hr l h).1) (fun l h => (hx l h).1) (fun l h => (hy l h).1)] at k9 k12 k13
  refine ⟨k9, k6, k3, k7, by omega, by omega, fun B h1 h2 => k12 B fun x hx' => ?_, hM, k13⟩
  rw [(hmem x hx').2.1]
  have := width_le h1
  have := width_le h2
  omega

theorem zip_take (xs ys : List (List Nat)) (k : Nat) (h1 : k < xs.length) (h2 : k < ys.length) : (List.zipWith addB xs ys).take (k + 1) = (List.zipWith addB xs ys).take k ++ [addB (xs.getD k []) (ys.getD k [])] := by
  rw [List.take_succ_eq_append_getElem (by simp; omega)]
  congr 2
  rw [List.getElem_zipWith, List.getD_eq_getElem?_getD, List.getD_eq_getElem?_getD, List.getElem?_eq_getElem h1, List.getElem?_eq_getElem h2]
  rfl
end Go.Proofs.YtfjcbgfgiidogaaDoor
namespace Go.Proofs.YtfjcbgfgiidogaaDoor
open Go.RowKit

def turnR (k : Nat) (rows : List (List Nat)) : List (List Nat) := rows.reverse.map (scaleB k)
def joinR (S : List (List Nat)) : List (List Nat) := S.set 0 (addB (S.getD 0 []) (S.getD 1 []))
theorem turn_len (k : Nat) (rows : List (List Nat)) : (turnR k rows).length = rows.length := by simp [turnR]
theorem join_len (S : List (List Nat)) : (joinR S).length = S.length := by simp [joinR]
theorem turn_at {k : Nat} {rows : List (List Nat)} {i : Nat} (h : i < rows.length) : (turnR k rows)[i]? = (rows[rows.length - 1 - i]?).map (scaleB k) := by
  unfold turnR
  rw [List.getElem?_map, List.getElem?_reverse h]
theorem rws_turn {k n : Nat} {rows : List (List Nat)} (hk : k < 256) (h : Rws rows n) : Rws (turnR k rows) n := fun r hr => by
  obtain ⟨r0, h0, rfl⟩ := List.mem_map.1 hr
  exact ⟨scaleB_bytes hk, by rw [scaleB_length, (h r0 (List.mem_reverse.1 h0)).2]⟩
theorem rws_getD {n : Nat} {S : List (List Nat)} (h : Rws S n) {i : Nat} (hi : i < S.length) : Bytes (S.getD i []) ∧ (S.getD i []).length = n := by
  rw [List.getD_eq_getElem?_getD, List.getElem?_eq_getElem hi]
  exact h _ (List.getElem_mem hi)
theorem rws_join {n : Nat} {S : List (List Nat)} (h2 : 2 ≤ S.length) (h : Rws S n) : Rws (joinR S) n := fun r hr => by
  rcases List.mem_or_eq_of_mem_set hr with h1 | h1
  · exact h r h1
  · rw [h1]
    have a := rws_getD h (i := 0) (by omega)
    have b := rws_getD h (i := 1) (by omega)
    exact ⟨addB_bytes a.1 b.1, by rw [addB_length, a.2, b.2]; omega⟩
theorem dot_scaleB {y : Nat → Nat} {k n : Nat} {r v : List Nat} (hy : ∀ j, y j < 256) (hk : k < 256) (hr : Bytes r) (hv : Bytes v) : dot y (scaleB k r ++ scaleB k v) n = mul k (dot y (r ++ v) n) := by
  have e : scaleB k r ++ scaleB k v = scaleB k (r ++ v) := by simp [scaleB]
  rw [e]
  exact dot_mul hy (fun x hx => by
    rcases List.mem_append.1 hx with h | h
    · exact hr x h
    · exact hv x h) hk (fun j _ => scaleB_getD k _ j)
theorem addB_app {a b c d : List Nat} (h : a.length = c.length) (j : Nat) : (addB a c ++ addB b d).getD j 0 = (a ++ b).getD j 0 ^^^ (c ++ d).getD j 0 := by
  have hl : (addB a c).length = a.length := by rw [addB_length]; omega
  by_cases hj : j < a.length
  · rw [List.getD_eq_getElem?_getD, List.getElem?_append_left (by omega), List.getD_eq_getElem?_getD, List.getElem?_append_left hj, List.getD_eq_getElem?_getD, List.getElem?_append_left (by omega)]
    have := addB_getD a c j
    simpa [List.getD_eq_getElem?_getD] using this
  · rw [List.getD_eq_getElem?_getD, List.getElem?_append_right (by omega), List.getD_eq_getElem?_getD, List.getElem?_append_right (by omega), List.getD_eq_getElem?_getD, List.getElem?_append_right (by omega), hl, ← h]
    have := addB_getD b d (j - a.length)
    simpa [List.getD_eq_getElem?_getD] using this
theorem bytes_app {a b : List Nat} (ha : Bytes a) (hb : Bytes b) : Bytes (a ++ b) := fun x hx => by
  rcases List.mem_append.1 hx with h | h
  · exact ha x h
  · exact hb x h
theorem dot_join {y : Nat → Nat} {a b c d : List Nat} {n : Nat} (hy : ∀ j, y j < 256) (h : a.length = c.length) (ha : Bytes a) (hb : Bytes b) (hc : Bytes c) (hd : Bytes d) : dot y (addB a c ++ addB b d) n = dot y (a ++ b) n ^^^ dot y (c ++ d) n := by
  unfold dot
  rw [← xsum_xor]
  apply xsum_congr
  intro j _
  rw [addB_app h j, mul_xor (hy j) ((bytes_app ha hb).getD j) ((bytes_app hc hd).getD j)]
theorem kill_turn {y : Nat → Nat} {k cols wid n : Nat} {rows vs : List (List Nat)} (hy : ∀ j, y j < 256) (hk : k < 256) (k0 : k ≠ 0) (hl : vs.length = rows.length) (hr : Rws rows cols) (hv : Rws vs wid) :
    (∀ a ∈ augs rows vs, dot y a n = 0) ↔ ∀ a ∈ augs (turnR k rows) (turnR k vs), dot y a n = 0 := by
  constructor
  · intro h a ha
    obtain ⟨i, s, t, h1, h2, rfl⟩ := mem_augs.1 ha
    have hi : i < rows.length := by have := (List.getElem?_eq_some_iff.1 h1).1; rwa [turn_len] at this
    rw [turn_at hi] at h1
    rw [turn_at (by omega), hl] at h2
    rw [Option.map_eq_some_iff] at h1 h2
    obtain ⟨r, h1, rfl⟩ := h1
    obtain ⟨v, h2, rfl⟩ := h2
    rw [dot_scaleB hy hk (hr r (List.mem_of_getElem? h1)).1 (hv v (List.mem_of_getElem? h2)).1, h _ (mem_augs.2 ⟨_, r, v, h1, h2, rfl⟩), mul_zero]
  · intro h a ha
    obtain ⟨i, r, v, h1, h2, rfl⟩ := mem_augs.1 ha
    have hi := (List.getElem?_eq_some_iff.1 h1).1
    have e : rows.length - 1 - (rows.length - 1 - i) = i := by omega
    have := h (scaleB k r ++ scaleB k v) (mem_augs.2 ⟨rows.length - 1 - i, _, _, by rw [turn_at (by omega), e, h1]; rfl, by rw [turn_at (by omega), hl, e, h2]; rfl, rfl⟩)
    rw [dot_scaleB hy hk (hr r (List.mem_of_getElem? h1)).1 (hv v (List.mem_of_getElem? h2)).1] at this
    exact Classical.byContradiction fun e2 => mul_ne hk (dot_lt hy _ _) k0 e2 this
theorem join_at {S : List (List Nat)} (h2 : 2 ≤ S.length) (i : Nat) : (joinR S)[i]? = if i = 0 then some (addB (S.getD 0 []) (S.getD 1 [])) else S[i]? := by
  unfold joinR
  rw [List.getElem?_set]
  by_cases h : i = 0
  · subst h; rw [if_pos rfl, if_pos rfl, if_pos (by omega)]
  · rw [if_neg (fun e => h e.symm), if_neg h]
theorem getD_some {S : List (List Nat)} {i : Nat} (h : i < S.length) : S[i]? = some (S.getD i []) := by
  rw [List.getD_eq_getElem?_getD, List.getElem?_eq_getElem h]; rfl
theorem kill_join {y : Nat → Nat} {cols wid n : Nat} {S T : List (List Nat)} (hy : ∀ j, y j < 256) (h2 : 2 ≤ S.length) (hl : T.length = S.length) (hr : Rws S cols) (hv : Rws T wid) :
    (∀ a ∈ augs S T, dot y a n = 0) ↔ ∀ a ∈ augs (joinR S) (joinR T), dot y a n = 0 := by
  have a0 := rws_getD hr (i := 0) (by omega)
  have a1 := rws_getD hr (i := 1) (by omega)
  have b0 := rws_getD hv (i := 0) (by omega)
  have b1 := rws_getD hv (i := 1) (by omega)
  have hj : dot y (addB (S.getD 0 []) (S.getD 1 []) ++ addB (T.getD 0 []) (T.getD 1 [])) n = dot y (S.getD 0 [] ++ T.getD 0 []) n ^^^ dot y (S.getD 1 [] ++ T.getD 1 []) n := dot_join hy (by rw [a0.2, a1.2]) a0.1 b0.1 a1.1 b1.1
  constructor
  · intro h a ha
    obtain ⟨i, s, t, h1, h3, rfl⟩ := mem_augs.1 ha
    rw [join_at h2] at h1
    rw [join_at (by omega)] at h3
    by_cases hi : i = 0
    · rw [if_pos hi] at h1 h3
      injection h1 with h1
      injection h3 with h3
      rw [← h1, ← h3, hj, h _ (mem_augs.2 ⟨0, _, _, getD_some (by omega), getD_some (by omega), rfl⟩), h _ (mem_augs.2 ⟨1, _, _, getD_some (by omega), getD_some (by omega), rfl⟩)]
      rfl
    · rw [if_neg hi] at h1 h3
      exact h _ (mem_augs.2 ⟨i, s, t, h1, h3, rfl⟩)
  · intro h a ha
    have e1 := h _ (mem_augs.2 ⟨1, _, _, by rw [join_at h2, if_neg (by omega)]; exact getD_some (by omega), by rw [join_at (by omega), if_neg (by omega)]; exact getD_some (by omega), rfl⟩)
    have e0 := h _ (mem_augs.2 ⟨0, _, _, by rw [join_at h2, if_pos rfl], by rw [join_at (by omega), if_pos rfl], rfl⟩)
    rw [hj, e1, Nat.xor_zero] at e0
    obtain ⟨i, s, t, h1, h3, rfl⟩ := mem_augs.1 ha
    by_cases hi : i = 0
    · subst hi
      rw [getD_some (by omega)] at h1 h3
      injection h1 with h1
      injection h3 with h3
      rw [← h1, ← h3]
      exact e0
    · exact h _ (mem_augs.2 ⟨i, s, t, by rw [join_at h2, if_neg hi]; exact h1, by rw [join_at (by omega), if_neg hi]; exact h3, rfl⟩)
theorem order_same {cols : Int} {rows vs : List (List Nat)} {k : Nat} (hk : k < 256) (k0 : k ≠ 0) (h2 : 2 ≤ rows.length) (mr : Mem rows) (mv : Mem vs) (hB : solveOK cols rows vs = true) :
    solveR cols (joinR (turnR k rows)) (joinR (turnR k vs)) = solveR cols rows vs ∧ widthB (joinR (turnR k vs)) = widthB vs := by
  obtain ⟨b1, b2, b3⟩ := solveOK_iff.1 hB
  obtain ⟨k1, k2, k3, k4, k5⟩ := right_rws b1 mr
  have w1 := even_rws b3 mv
  have c1 := rws_turn hk k1
  have d1 := rws_turn hk w1
  have c2 := rws_join (by rw [turn_len]; omega) c1
  have d2 := rws_join (by rw [turn_len]; omega) d1
  obtain ⟨q1, q2, q3, q4⟩ := rightB_iff.1 b1
  have hw := width_rws d2 (by rw [join_len, turn_len]; omega)
  have hB2 : solveOK cols (joinR (turnR k rows)) (joinR (turnR k vs)) = true := solveOK_iff.2 ⟨rightB_iff.2 ⟨q1, q2, by rw [join_len, turn_len]; exact q3, fun r hr => by have := (c2 r hr).2; omega⟩, by rw [join_len, turn_len, join_len, turn_len]; exact b2, even_of_rws d2⟩
  have s1 := says_augs b2 k1 w1
  have s2 := says_augs (by rw [join_len, turn_len, join_len, turn_len]; exact b2) c2 d2
  refine ⟨?_, hw⟩
  unfold solveR
  rw [if_pos hB, if_pos hB2, solveOut_end, solveOut_end]
  refine end_congr s2 s1 (fun y hy => ?_)
  rw [kill_turn (n := cols.toNat + widthB vs) hy hk k0 b2 k1 w1, kill_join (n := cols.toNat + widthB vs) hy (by rw [turn_len]; omega) (by rw [turn_len, turn_len]; exact b2) c1 d1]

/-! in memory -/
theorem OwnRs.other {w w' : World} {B B' g g' n n' c c' : Nat} {ls : List (List Nat)} {xs : List Value} (h : OwnRs w B (some ⟨g, 0, none⟩) n c ls) (hg : w.grownBy w' (some g')) (hne : g ≠ g') (ho : w.ownsRow B' 22 1 (.slice (some ⟨g', 0, none⟩) n' c') n' xs) : OwnRs w' B (some ⟨g, 0, none⟩) n c ls := by
  obtain ⟨h0, hs, h1, h2, h3⟩ := h
  refine ⟨h0, hs, h1.kept hg (.inr fun e => ?_), h2.kept hg (fun i y m a b => ?_), h3⟩
  · simp [Value.ownBlock] at e; exact hne e
  · have := own_ne (h2.2 i y m a b).2 ho (by decide)
    simpa [Value.ownBlock] using this
theorem OwnRs.set0 {w : World} {B g n c : Nat} {ls : List (List Nat)} {x : HdT} {l : List Nat} (h : OwnRs w B (some ⟨g, 0, none⟩) n c ls) (hx : w.ownsRow B 5 1 (SV x) l.length (l.map bv)) (hxl : x.2.1 = l.length) (hl : Bytes l ∧ l.length ≤ 140737488355328) :
    OwnRs (w.setCell ⟨g, 0, none⟩ (SV x)) B (some ⟨g, 0, none⟩) n c (ls.set 0 l) := by
  obtain ⟨h0, hs, h1, h2, h3⟩ := h
  have hg := grown_set4 w g 0 (SV x)
  have k1 := own_set' h1 0 (SV x)
  rw [← List.map_set] at k1
  have k2 : OwnsRows (w.setCell ⟨g, 0, none⟩ (SV x)) B 5 hs ls := h2.kept hg (fun i y m a b => by
    have := own_ne (h2.2 i y m a b).2 h1 (by decide)
    simpa [Value.ownBlock] using this)
  have k3 := hx.kept hg (by
    have := own_ne hx h1 (by decide)
    simpa [Value.ownBlock] using this)
  refine ⟨by simp [h0], hs.set 0 x, k1, ⟨by simp [h2.1], fun i y m a b => ?_⟩, fun m hm => ?_⟩
  · rw [List.getElem?_set] at a b
    by_cases hi : 0 = i
    · rw [if_pos hi] at a b
      split at a
      · split at b
        · injection a with a
          injection b with b
          subst a b
          exact ⟨hxl, k3⟩
        · cases b
      · cases a
    · rw [if_neg hi] at a b
      exact k2.2 i y m a b
  · rcases List.mem_or_eq_of_mem_set hm with h | h
    · exact h3 m h
    · rw [h]; exact hl

theorem turn_step {k j : Nat} {rows : List (List Nat)} {m : Nat} {r : List Nat} (hm : (m : Int) = (rows.length : Int) - 1 - j) (hr : rows[m]? = some r) : (turnR k rows).take (j + 1) = (turnR k rows).take j ++ [scaleB k r] := by
  have hi := (List.getElem?_eq_some_iff.1 hr).1
  apply take_step
  rw [turn_at (by omega), show rows.length - 1 - j = m by omega, hr]
  rfl
theorem OwnRs.ltg {w : World} {B g n c : Nat} {ls : List (List Nat)} (h : OwnRs w B (some ⟨g, 0, none⟩) n c ls) : B ≤ g ∧ g < w.heap.size := by
  obtain ⟨_, hs, h1, -⟩ := h
  exact h1.lt g rfl
theorem OwnRs.two {w : World} {B g n c : Nat} {ls : List (List Nat)} {l0 l1 : List Nat} (e0 : ls.getD 0 [] = l0) (e1 : ls.getD 1 [] = l1) (h : OwnRs w B (some ⟨g, 0, none⟩) n c ls) (h2 : 2 ≤ n) : ∃ a0 n0 c0 a1 n1 c1, w.cell? ⟨g, 0, none⟩ = some (.slice a0 n0 c0) ∧ w.cell? ⟨g, 1, none⟩ = some (.slice a1 n1 c1) ∧ BytesV w (a0, n0, c0) l0 ∧ BytesV w (a1, n1, c1) l1 ∧ w.frozen? ⟨g, 0, none⟩ = false := by
  subst e0 e1
  obtain ⟨b, off, a0, n0, c0, l0, e, hc0, hl0, hB0⟩ := h.rd.at (i := 0) (by omega)
  injection e with e
  injection e with e1 e2
  subst e1 e2
  obtain ⟨b, off, a1, n1, c1, l1, e, hc1, hl1, hB1⟩ := h.rd.at (i := 1) (by omega)
  injection e with e
  injection e with e1 e2
  subst e1 e2
  obtain ⟨_, hs, h1, -⟩ := h
  refine ⟨a0, n0, c0, a1, n1, c1, hc0, hc1, ?_, ?_, h1.frozenAt 0⟩
  · rw [List.getD_eq_getElem?_getD, hl0]; exact hB0
  · rw [List.getD_eq_getElem?_getD, hl1]; exact hB1
theorem OwnRs.join {w w' : World} {B g n c : Nat} {ls : List (List Nat)} {a : Option Addr} {c' : Nat} {l0 l1 : List Nat} (e0 : ls.getD 0 [] = l0) (e1 : ls.getD 1 [] = l1) (h : OwnRs w B (some ⟨g, 0, none⟩) n c ls) (h2 : 2 ≤ n) (hb : Below w.heap.size w w') (hB : B ≤ w.heap.size) (ho : w'.ownsRow w.heap.size 5 1 (.slice a (addB l0 l1).length c') (addB l0 l1).length ((addB l0 l1).map bv)) :
    OwnRs (w'.setCell ⟨g, 0, none⟩ (.slice a (addB l0 l1).length c')) B (some ⟨g, 0, none⟩) n c (joinR ls) := by
  subst e0 e1
  have m : ∀ i, i < 2 → Bytes (ls.getD i []) ∧ (ls.getD i []).length ≤ 140737488355328 := fun i hi => by
    rw [List.getD_eq_getElem?_getD, List.getElem?_eq_getElem (by have := h.1; omega)]
    exact h.rd.mem _ (List.getElem_mem (by have := h.1; omega))
  have m0 := m 0 (by omega)
  have m1 := m 1 (by omega)
  exact (h.below hb).set0 (x := (a, (addB (ls.getD 0 []) (ls.getD 1 [])).length, c')) (ownsRow_base ho hB) rfl ⟨addB_bytes m0.1 m1.1, by rw [addB_length]; have := m0.2; have := m1.2; omega⟩
theorem OwnRs.off {w : World} {B B' g g' n n' c c' : Nat} {ls ls' : List (List Nat)} (h : OwnRs w B (some ⟨g, 0, none⟩) n c ls) (hne : g ≠ g') (h' : OwnRs w B' (some ⟨g', 0, none⟩) n' c' ls') (v : Value) : OwnRs (w.setCell ⟨g', 0, none⟩ v) B (some ⟨g, 0, none⟩) n c ls := by
  obtain ⟨_, hs, h1, -⟩ := h'
  exact h.other (grown_set4 w g' 0 v) hne h1
end Go.Proofs.YtfjcbgfgiidogaaDoor
