/-
  judge: a map from keys to places: made, read, written, ranged over.
-/
import Derived.Test.YtnefcbcioemfiaaJdJ
import Derived.Maps.RangeWalk
namespace Go.Proofs.Ytnefcbcioemfiaa
open Go Go.RowKit Go.ChangeMaps Go.MapKept Go.WideShapes
open Go.WideElems (Fit rd rg pl rd_key rd_val rg_of rd_mk rd_stay other_key)
open Go.Maps (Keyed)

/-- an element of the map: a slice, by its header. -/
def hdElemP (v : Value) : Option (DataW SH3 × List MemPlace) :=
  match v with
  | .slice a n c => some (.held (a, n, c), [])
  | _ => none
set_option maxRecDepth 10000 in
theorem hdElemP_mk (x : SH3) : hdElemP (SV x) = some (.held x, []) := rfl
set_option maxRecDepth 10000 in
theorem hdElemP_inv {v : Value} {z : DataW SH3 × List MemPlace} (h : hdElemP v = some z) : ∃ x, v = SV x ∧ z = (.held x, []) := by
  unfold hdElemP at h
  split at h
  · rename_i a n c
    exact ⟨(a, n, c), rfl, by injection h with h; exact h.symm⟩
  · cases h
def skey (c : ByteArray) : Lit := .string c.data.toList
def ReadsP (D : DataW SH3) (f : ByteArray → Option SH3) : Prop :=
  (∀ kl, Maps.has D kl = true → ∃ c : ByteArray, kl = skey c) ∧ ∀ c : ByteArray, (f c = none → Maps.has D (skey c) = false) ∧ ∀ hd, f c = some hd → ∀ zd, D.atKey (skey c) zd = .held hd
set_option maxRecDepth 10000 in
theorem ReadsP.has {D : DataW SH3} {f : ByteArray → Option SH3} (h : ReadsP D f) {c : ByteArray} {hd : SH3} (hc : f c = some hd) : Maps.has D (skey c) = true := Maps.has_true_of_atKey ((h.2 c).2 hd hc)
set_option maxRecDepth 10000 in
theorem skey_ne {c d : ByteArray} (h : c ≠ d) : skey c ≠ skey d := fun e => h (by unfold skey at e; injection e with e; exact ByteArray.ext (Array.toList_inj.1 e))
set_option maxRecDepth 10000 in
theorem ReadsP.put {D : DataW SH3} {f : ByteArray → Option SH3} (h : ReadsP D f) (hm : Maps.IsMap D) (c : ByteArray) (hd : SH3) : ReadsP (D.put (skey c) (.held hd)) (fun z => if z = c then some hd else f z) := by
  have hk : WideAt.IsKeyLit (skey c) := trivial
  refine ⟨fun kl hkl => ?_, fun z => ⟨fun hz => ?_, fun x hx zd => ?_⟩⟩
  · by_cases e : kl = skey c
    · exact ⟨c, e⟩
    · rw [Maps.has_put_other e] at hkl
      exact h.1 kl hkl
  · by_cases e : z = c
    · simp [e] at hz
    · rw [Maps.has_put_other (skey_ne e)]
      simp only [if_neg e] at hz
      exact (h.2 z).1 hz
  · by_cases e : z = c
    · subst e
      simp at hx
      subst hx
      exact Maps.atKey_put_same hm hk _ _
    · rw [Maps.atKey_put_other (skey_ne e)]
      simp only [if_neg e] at hx
      exact (h.2 z).2 x hx zd

set_option maxRecDepth 10000 in
theorem sklaw : Keyed Try.prog 9 := Maps.string_keyed Try.underlying9
set_option maxRecDepth 10000 in
theorem skey_of {c : ByteArray} (h : c.size ≤ 140737488355328) : keyOf Try.prog 9 (.string c) = some (skey c) := WideMaps.keyOf_string_mk Try.underlying9 (by unfold maxLen; omega)
set_option maxRecDepth 10000 in
theorem skey_inv {v : Value} {kl : Lit} (h : keyOf Try.prog 9 v = some kl) : ∃ s : ByteArray, v = .string s ∧ kl = skey s := by
  rw [keyOf_string Try.underlying9] at h
  unfold mapKey at h
  rw [Try.underlying9] at h
  split at h
  · simp_all
  · simp_all
  · rename_i s _
    split at h
    · injection h with h; exact ⟨s, rfl, h.symm⟩
    · cases h
  · cases h

/-- block b is a map from columns to slices. -/
def MapP (w : World) (b : Nat) (f : ByteArray → Option SH3) (cnt : Nat) : Prop := ∃ D, w.ownsMap Try.prog 9 hdElemP b cnt D ∧ ReadsP D f
/-- .. ranged over, left: what is still to come. -/
def RangeP (w : World) (b r : Nat) (f : ByteArray → Option SH3) (left : ByteArray → Bool) (cnt m : Nat) : Prop :=
  ∃ D lf, w.ranges Try.prog 9 hdElemP b r cnt D lf m ∧ ReadsP D f ∧ (∀ c, lf (skey c) = left c) ∧ ∀ c, left c = true → ∃ hd, f c = some hd
set_option maxRecDepth 10000 in
theorem MapP.lt {w : World} {b : Nat} {f : ByteArray → Option SH3} {cnt : Nat} (h : MapP w b f cnt) : b < w.heap.size := by obtain ⟨D, h, _⟩ := h; exact h.lt
set_option maxRecDepth 10000 in
theorem MapP.kept {w w' : World} {b : Nat} {f : ByteArray → Option SH3} {cnt : Nat} {row : Option Nat} (h : MapP w b f cnt) (hg : w.grownBy w' row) (hne : some b ≠ row) : MapP w' b f cnt := by
  obtain ⟨D, h, h2⟩ := h
  exact ⟨D, h.kept hg hne, h2⟩
set_option maxRecDepth 10000 in
theorem MapP.below {w w' : World} {b : Nat} {f : ByteArray → Option SH3} {cnt : Nat} (h : MapP w b f cnt) (hb : Below w.heap.size w w') : MapP w' b f cnt := h.kept (grownBy_of_below hb none) (by simp)
set_option maxRecDepth 10000 in
theorem RangeP.kept {w w' : World} {b r : Nat} {f : ByteArray → Option SH3} {left : ByteArray → Bool} {cnt m : Nat} {row : Option Nat} (h : RangeP w b r f left cnt m) (hg : w.grownBy w' row) (h1 : some b ≠ row) (h2 : some r ≠ row) : RangeP w' b r f left cnt m := by
  obtain ⟨D, lf, h, k⟩ := h
  exact ⟨D, lf, h.kept hg h1 h2, k⟩
set_option maxRecDepth 10000 in
theorem RangeP.below {w w' : World} {b r : Nat} {f : ByteArray → Option SH3} {left : ByteArray → Bool} {cnt m : Nat} (h : RangeP w b r f left cnt m) (hb : Below w.heap.size w w') : RangeP w' b r f left cnt m := h.kept (grownBy_of_below hb none) (by simp) (by simp)
set_option maxRecDepth 10000 in
theorem RangeP.map {w : World} {b r : Nat} {f : ByteArray → Option SH3} {left : ByteArray → Bool} {cnt m : Nat} (h : RangeP w b r f left cnt m) : MapP w b f cnt := by
  obtain ⟨D, lf, h, h2, _⟩ := h
  exact ⟨D, h.owns, h2⟩
set_option maxRecDepth 10000 in
theorem RangeP.left_eq {w : World} {b r : Nat} {f : ByteArray → Option SH3} {left : ByteArray → Bool} {cnt m : Nat} (h : RangeP w b r f left cnt m) : w.rangeLeft b r = m := by
  obtain ⟨D, lf, h, _⟩ := h
  exact h.left_eq
set_option maxRecDepth 10000 in
theorem RangeP.ne {w : World} {b r : Nat} {f : ByteArray → Option SH3} {left : ByteArray → Bool} {cnt m : Nat} (h : RangeP w b r f left cnt m) : r ≠ b := by
  obtain ⟨D, lf, h, _⟩ := h
  exact h.ne
set_option maxRecDepth 10000 in
theorem RangeP.lt {w : World} {b r : Nat} {f : ByteArray → Option SH3} {left : ByteArray → Bool} {cnt m : Nat} (h : RangeP w b r f left cnt m) : r < w.heap.size := by
  obtain ⟨D, lf, h, _⟩ := h
  exact h.lt
set_option maxRecDepth 10000 in
theorem mapP_made (w : World) : MapP (w.alloc (.map #[] 0)) w.heap.size (fun _ => none) 0 :=
  ⟨.map [], World.ownsMap_made _ _ _ _, fun kl h => (by simp [Maps.has] at h), fun c => ⟨fun _ => by simp [Maps.has], fun hd h => (by cases h)⟩⟩

section
variable (w : World) {ops : Array Oper} {rest : List Oper} {o : Oper} {a : Act} {Q : Exit → Act → World → Prop}
set_option maxRecDepth 10000 in
theorem wpList_range_p (hg : o.guard = none) (m : Operand) (hop : o.op = Op.range 59 m) (b : Nat) (f : ByteArray → Option SH3) (cnt : Nat) (hm : a.eval m = .map (some b)) (h : MapP w b f cnt)
    (hK : ∀ w' m, RangeP w' b w.heap.size f (fun c => (f c).isSome) cnt m → w.grownBy w' none → w'.heap.size = w.heap.size + 1 → wpList Try.prog ops Q rest (a.put o.dst (.pointer (some ⟨w.heap.size, 0, none⟩))) w') :
    wpList Try.prog ops Q (o :: rest) a w := by
  obtain ⟨D, hown, hR⟩ := h
  refine wpList_range_own w hg m 59 hop 9 31 sklaw Try.underlying59 hdElemP b cnt D hm hown fun w' hr hgr hsz => ?_
  refine hK w' _ ⟨D, _, hr, hR, fun c => ?_, fun c hc => Option.isSome_iff_exists.1 hc⟩ hgr hsz
  cases e : f c with
  | none => rw [(hR.2 c).1 e]; simp [e]
  | some hd => rw [hR.has e]; simp [e]
set_option maxRecDepth 10000 in
theorem wpList_next_p (hg : o.guard = none) (it : Operand) (hop : o.op = Op.next it false) (b r : Nat) (f : ByteArray → Option SH3) (left : ByteArray → Bool) (cnt m : Nat) (hit : a.eval it = .pointer (some ⟨r, 0, none⟩)) (h : RangeP w b r f left cnt m)
    (hDone : m = 0 → (∀ c, left c = false) → wpList Try.prog ops Q rest (a.put o.dst (.tuple #[.bool false])) w)
    (hMore : ∀ (c : ByteArray) (hd : SH3) (w' : World) (m' : Nat), f c = some hd → left c = true → RangeP w' b r f (fun z => left z && !decide (z = c)) cnt m' → m' < m → w.grownBy w' (some r) → w'.heap.size = w.heap.size →
      (Instr.entry (.pointer (some ⟨r, 0, none⟩))).run Try.prog w' = .ok (.tuple #[.string c, .slice hd.1 hd.2.1 hd.2.2]) w' → wpList Try.prog ops Q rest (a.put o.dst (.tuple #[.bool true, .string c, .slice hd.1 hd.2.1 hd.2.2])) w') :
    wpList Try.prog ops Q (o :: rest) a w := by
  obtain ⟨D, lf, hr, hR, hl1, hl2⟩ := h
  refine wpList_next_ranges w hg it hop 9 sklaw hdElemP (fun x : ByteArray => Value.string x) SV (fun key kl hk => ?_) (fun v y hv => ?_) b r cnt D lf m hit hr (fun h0 hl => hDone h0 fun c => by rw [← hl1]; exact hl _) ?_
  · obtain ⟨x, rfl, _⟩ := skey_inv hk
    exact ⟨x, rfl⟩
  · obtain ⟨x, rfl, _⟩ := hdElemP_inv hv
    exact ⟨x, rfl⟩
  · intro x c kl y w' cnt' hk hlk hv hat hrg hlt hgr hsz hen
    have hhas := Maps.has_true_of_atKey hat
    obtain ⟨c', rfl⟩ := hR.1 kl hhas
    obtain ⟨x', e1, e2⟩ := skey_inv hk
    injection e1 with e1
    subst e1
    have e3 : c' = x := by
      unfold skey at e2
      injection e2 with e2
      exact ByteArray.ext (Array.toList_inj.1 e2)
    subst e3
    rw [hdElemP_mk] at hv
    injection hv with hv
    subst hv
    have hf : f c' = some c := by
      cases e : f c' with
      | none => rw [(hR.2 c').1 e] at hhas; cases hhas
      | some hd =>
        have := (hR.2 c').2 hd e (.held c)
        rw [hat] at this
        injection this with this
        rw [this]
    refine hMore c' c w' cnt' hf (by rw [← hl1]; exact hlk) ⟨D, _, hrg, hR, fun z => ?_, fun z hz => hl2 z ?_⟩ hlt hgr hsz hen
    · rw [hl1]
      by_cases e : z = c'
      · subst e
        rw [WideAt.sameKey_self (by trivial)]
        simp
      · rw [Maps.sameKey_ne (skey_ne e)]
        simp [e]
    · simp only [Bool.and_eq_true] at hz
      exact hz.1
set_option maxRecDepth 10000 in
theorem wpList_put_new_p (hg : o.guard = none) (m x v : Operand) (hop : o.op = Op.mapUpdate 59 m x v) (b : Nat) (f : ByteArray → Option SH3) (cnt : Nat) (hm : a.eval m = .map (some b)) (h : MapP w b f cnt)
    (c : ByteArray) (hd : SH3) (hx : a.eval x = .string c) (hv : a.eval v = .slice hd.1 hd.2.1 hd.2.2) (hc : c.size ≤ 140737488355328) (hn : cnt < 1000000)
    (hK : ∀ w', MapP w' b (fun z => if z = c then some hd else f z) (cnt + 1) → w.grownBy w' (some b) → wpList Try.prog ops Q rest (a.put o.dst undef) w') :
    wpList Try.prog ops Q (o :: rest) a w := by
  obtain ⟨D, hown, hR⟩ := h
  refine wpList_mapUpdate_own w hg m x v 59 hop 9 31 sklaw Try.underlying59 hdElemP b cnt D hm hown (by unfold maxLen; omega) (.string c) (.slice hd.1 hd.2.1 hd.2.2) (skey c) hx hv (skey_of hc) (.held hd) [] rfl fun w' h1 h2 => ?_
  exact hK w' ⟨_, h1, hR.put hown.isMap c hd⟩ h2
set_option maxRecDepth 10000 in
theorem zeroHdP (w : World) : (zeroValue 31).run Try.prog w = .ok (.slice none 0 0) w := by kernel_rfl
set_option maxRecDepth 10000 in
theorem wpList_lookup_p (hg : o.guard = none) (m x : Operand) (hop : o.op = Op.lookup 59 m x false) (b : Nat) (f : ByteArray → Option SH3) (cnt : Nat) (hm : a.eval m = .map (some b)) (h : MapP w b f cnt)
    (c : ByteArray) (hd : SH3) (hx : a.eval x = .string c) (hc : c.size ≤ 140737488355328) (hold : (f c).getD (none, 0, 0) = hd)
    (hK : wpList Try.prog ops Q rest (a.put o.dst (.slice hd.1 hd.2.1 hd.2.2)) w) :
    wpList Try.prog ops Q (o :: rest) a w := by
  obtain ⟨D, hown, hR⟩ := h
  refine wpList_plain hg fun K' hK' => ?_
  obtain ⟨v, ps, hrun, hv⟩ := hown.lookup sklaw Try.underlying59 (zeroHdP w) (zd := .held (none, 0, 0)) (zp := []) rfl (key := .string c) (skey_of hc)
  have hat : D.atKey (skey c) (.held (none, 0, 0)) = .held hd := by
    cases e : f c with
    | none =>
      rw [e] at hold
      subst hold
      exact Maps.atKey_of_not_has ((hR.2 c).1 e) _
    | some x =>
      rw [e] at hold
      subst hold
      exact (hR.2 c).2 x e _
  rw [hat] at hv
  obtain ⟨x', rfl, e⟩ := hdElemP_inv hv
  injection e with e _
  injection e with e
  subst e
  unfold Oper.wp
  simp [execOp, hop, hm, hx, hrun, Result.andThen]
  exact hK' _ _ hK
end
end Go.Proofs.Ytnefcbcioemfiaa
