/-
  lin: a map from columns to equations: made, read, written, ranged over (with a store at a key that is there).
-/
import Derived.Test.YtgnnfpnkhemimaaRows
import Derived.Test.YtgnnfpnkhemimaaLiN
import Derived.Maps.RangeWalk
namespace Go.Proofs.Ytgnnfpnkhemimaa
open Go Go.RowKit Go.ChangeMaps Go.MapKept Go.WideShapes
open Go.WideElems (Fit rd rg pl rd_key rd_val rg_of rd_mk rd_stay other_key)
open Go.Maps (Keyed)

section
variable {H : Type} {P : Program} {k : TypeId} {R : Value → Option (DataW H × List MemPlace)} {w : World} {b r n : Nat} {D : DataW H} {left : Lit → Bool} {cnt : Nat}

theorem owns_tight (h : w.ownsMap P k R b n D) : w.ownsMap P k R b (Maps.size D) D := by
  obtain ⟨es, clock, hb, F, hs, rfl⟩ := h
  exact ⟨es, clock, hb, F, by simp [Maps.size, length_sorted], rfl⟩
theorem ranges_has (h : w.ranges P k R b r n D left cnt) (K : Keyed P k) {kl : Lit} (hl : left kl = true) : Maps.has D kl = true := by
  obtain ⟨es, clock, since, seen, c0, hb, F, hs, rfl, hr, hold, rfl, hl1, hl2, hsc, hsk⟩ := h
  obtain ⟨x, hx, rfl⟩ := hl2 kl hl
  obtain ⟨y, hy⟩ := F.reads x hx
  exact List.any_eq_true.2 ⟨rg P k R x, mem_sorted.2 (List.mem_map.2 ⟨x, hx, rfl⟩), WideAt.sameKey_self (by rw [rg_of hy]; exact K.key (rd_key hy))⟩

/-- a store at a key that is there, while the map is ranged over. -/
theorem ranges_put {t e : TypeId} (h : w.ranges P k R b r n D left cnt) (K : Keyed P k) (ht : P.underlying t = some (.map k e)) {key val : Value} {kl : Lit} {d : DataW H} {ps : List MemPlace}
    (hkey : keyOf P k key = some kl) (hv : R val = some (d, ps)) (hhas : Maps.has D kl = true) : ∃ w', (Instr.mapUpdate t (.map (some b)) key val).run P w = .ok () w' ∧ w'.ranges P k R b r n (D.put kl d) left cnt ∧ w.grownBy w' (some b) ∧ w'.heap.size = w.heap.size := by
  have hne := h.ne
  obtain ⟨es, clock, since, seen, c0, hb, F, hs, rfl, hr, hold, rfl, hl1, hl2, hsc, hsk⟩ := h
  rcases K.find w hkey es.toList F.keys with ⟨h1, h2⟩ | ⟨j, e0, h1, h2, h3⟩
  · exfalso
    obtain ⟨p, hp, hpk⟩ := List.any_eq_true.1 hhas
    obtain ⟨x, hx, rfl⟩ := List.mem_map.1 (mem_sorted.1 hp)
    obtain ⟨y, hy⟩ := F.reads x hx
    have e1 := WideAt.sameKey_eq hpk
    rw [rg_of hy] at e1
    exact h2 x hx (K.inj (e1 ▸ rd_key hy) hkey)
  · have hj : es[j]? = some e0 := by simpa using h2
    have hjl : j < es.toList.length := (List.getElem?_eq_some_iff.1 h2).1
    have hm0 : e0 ∈ es.toList := List.mem_of_getElem? h2
    have hkeyf : ∀ e', es[j]? = some e' → ({ e' with key := key, val := val } : MapEntry).key = e'.key := fun e' he' => by rw [hj] at he'; cases he'; exact h3.symm
    have hlist : (es.modify j (fun e' => { e' with key := key, val := val })).toList = es.toList.set j { e0 with key := key, val := val } := by rw [Array.toList_modify, modify_eq_set _ _ _ _ h2]
    have who : ∀ x ∈ es.toList.set j { e0 with key := key, val := val }, x = { e0 with key := key, val := val } ∨ (x ∈ es.toList ∧ x.key ≠ key) := by
      intro x hx
      obtain ⟨i, hi, ex⟩ := List.getElem_of_mem hx
      rw [List.getElem_set] at ex
      split at ex
      · exact Or.inl ex.symm
      · rename_i hne
        have hi' : i < es.toList.length := by simpa using hi
        refine Or.inr ⟨ex ▸ List.getElem_mem hi', ?_⟩
        rw [← h3]
        exact other_key F h2 (by rw [List.getElem?_eq_getElem hi', ex]) (fun e1 => hne e1.symm)
    have back : ∀ x ∈ es.toList, x.key ≠ key → x ∈ es.toList.set j { e0 with key := key, val := val } := by
      intro x hx hk
      obtain ⟨i, hi⟩ := List.getElem?_of_mem hx
      refine List.mem_of_getElem? (i := i) ?_
      rw [List.getElem?_set_ne (fun e => hk (by rw [← e, h2] at hi; injection hi with hi; rw [← hi]; exact h3))]
      exact hi
    have hnew : ({ e0 with key := key, val := val } : MapEntry) ∈ es.toList.set j { e0 with key := key, val := val } := List.mem_iff_getElem.2 ⟨j, by simpa using hjl, by simp⟩
    have rgn : (rg P k R ({ e0 with key := key, val := val } : MapEntry)) = (kl, d) := rg_of (rd_mk hkey hv)
    have rg0 : (rg P k R e0).1 = kl := by
      obtain ⟨y, hy⟩ := F.reads e0 hm0
      have := rd_key hy
      rw [h3, hkey] at this
      rw [rg_of hy]
      exact (Option.some.inj this).symm
    have F' : Fit P k R (es.modify j (fun e' => { e' with key := key, val := val })) clock := by
      refine ⟨by simpa using F.size, stamped_modify F.stamped _ _ (fun _ _ => rfl) (fun e' _ he' => hkeyf e' he'), ?_⟩
      intro x hx
      rw [hlist] at hx
      rcases who x hx with rfl | ⟨hx', _⟩
      · exact ⟨_, rd_mk hkey hv⟩
      · exact F.reads x hx'
    have hput : ((es.modify j (fun e' => { e' with key := key, val := val })).toList.map (rg P k R)).foldr DataW.insert [] = putKey kl d ((es.toList.map (rg P k R)).foldr DataW.insert []) := by
      refine Maps.sorted_put K.one ⟨key, hkey⟩ (Maps.fit_keys F) (Maps.fit_apart K F) ?_
      rw [Maps.filter_one K F hkey h2 h3, hlist, List.map_set, rgn]
      exact set_perm _ _ (by simpa using hjl) _
    refine ⟨_, ?_, ⟨es.modify j (fun e' => { e' with key := key, val := val }), clock, since, seen, c0, heap_setBlock_same hb _, F', ?_, ?_, (heap_setBlock_other hb _ hne).trans hr, fun x hx => ?_, ?_, fun x hx => ?_, fun kl' hkl' => ?_, hsc, hsk⟩, ⟨rfl, rfl, rfl, by simp [setBlock], fun i _ hi => heap_setBlock_other hb _ (fun e => hi (by rw [e]))⟩, by simp [setBlock]⟩
    · simp [Instr.mapUpdate, run_underlying ht, MapKept.run_getObj_map hb, K.check w false hkey, h1, hj, h3, K.stays w hkey, MapKept.run_setObj_map _ hb, Result.andThen, setBlock]
    · simpa using hs
    · rw [DataW.put_eq, hput]
    · rw [hlist] at hx
      rcases who x hx with rfl | ⟨hx', _⟩
      · exact hold e0 hm0
      · exact hold x hx'
    · have e1 : ∀ a : Array MapEntry, (leftOf a seen).size = ((a.toList.map MapEntry.born).filter fun e => !seen.contains e).length := fun a => by
        unfold leftOf
        rw [List.filter_map, List.length_map, ← Array.length_toList, Array.toList_filter]
        rfl
      rw [e1, e1, hlist, List.map_set]
      congr 2
      apply List.ext_getElem?
      intro i
      rw [List.getElem?_set]
      split
      · rename_i e; subst e
        simp only [List.length_map, hjl, if_true, List.getElem?_map, h2, Option.map_some]
      · rfl
    · rw [hlist] at hx
      rcases who x hx with rfl | ⟨hx', _⟩
      · rw [rgn]
        show left kl = _
        rw [← rg0]
        exact hl1 e0 hm0
      · exact hl1 x hx'
    · obtain ⟨x, hx, rfl⟩ := hl2 kl' hkl'
      by_cases e : x.key = key
      · refine ⟨_, by rw [hlist]; exact hnew, ?_⟩
        rw [rgn]
        obtain ⟨y, hy⟩ := F.reads x hx
        have := rd_key hy
        rw [e, hkey] at this
        rw [rg_of hy]
        exact Option.some.inj this
      · exact ⟨x, by rw [hlist]; exact back x hx e, rfl⟩
end

abbrev HdT := Option Addr × Nat × Nat
/-- an element of the map: a slice, by its header. -/
def hdElem (v : Value) : Option (DataW HdT × List MemPlace) :=
  match v with
  | .slice a n c => some (.held (a, n, c), [])
  | _ => none
theorem hdElem_mk (x : HdT) : hdElem (SV x) = some (.held x, []) := rfl
theorem hdElem_inv {v : Value} {z : DataW HdT × List MemPlace} (h : hdElem v = some z) : ∃ x, v = SV x ∧ z = (.held x, []) := by
  unfold hdElem at h
  split at h
  · rename_i a n c
    exact ⟨(a, n, c), rfl, by injection h with h; exact h.symm⟩
  · cases h
def key (c : Nat) : Lit := .int .i64 (c : Int)
def ReadsD (D : DataW HdT) (f : Nat → Option HdT) : Prop :=
  (∀ kl, Maps.has D kl = true → ∃ c : Nat, kl = key c) ∧ ∀ c : Nat, (f c = none → Maps.has D (key c) = false) ∧ ∀ hd, f c = some hd → ∀ zd, D.atKey (key c) zd = .held hd
theorem ReadsD.has {D : DataW HdT} {f : Nat → Option HdT} (h : ReadsD D f) {c : Nat} {hd : HdT} (hc : f c = some hd) : Maps.has D (key c) = true := Maps.has_true_of_atKey ((h.2 c).2 hd hc)
theorem key_ne {c d : Nat} (h : c ≠ d) : key c ≠ key d := fun e => h (by unfold key at e; injection e with _ e; omega)
theorem ReadsD.put {D : DataW HdT} {f : Nat → Option HdT} (h : ReadsD D f) (hm : Maps.IsMap D) (c : Nat) (hd : HdT) : ReadsD (D.put (key c) (.held hd)) (fun z => if z = c then some hd else f z) := by
  have hk : WideAt.IsKeyLit (key c) := trivial
  refine ⟨fun kl hkl => ?_, fun z => ⟨fun hz => ?_, fun x hx zd => ?_⟩⟩
  · by_cases e : kl = key c
    · exact ⟨c, e⟩
    · rw [Maps.has_put_other e] at hkl
      exact h.1 kl hkl
  · by_cases e : z = c
    · simp [e] at hz
    · rw [Maps.has_put_other (key_ne e)]
      simp only [if_neg e] at hz
      exact (h.2 z).1 hz
  · by_cases e : z = c
    · subst e
      simp at hx
      subst hx
      exact Maps.atKey_put_same hm hk _ _
    · rw [Maps.atKey_put_other (key_ne e)]
      simp only [if_neg e] at hx
      exact (h.2 z).2 x hx zd

theorem klaw : Keyed Try.prog 3 := Maps.int_keyed Try.underlying3
theorem key_of {c : Nat} (h : c < 1000000) : keyOf Try.prog 3 (.int .i64 (c : Int)) = some (key c) := Maps.keyOf_int_mk Try.underlying3 (by unfold Lit.wf IntKind.min IntKind.max; simp [IntKind.signed, IntKind.bits]; omega)

/-- block b is a map from columns to slices. -/
def MapH (w : World) (b : Nat) (f : Nat → Option HdT) (cnt : Nat) : Prop := ∃ D, w.ownsMap Try.prog 3 hdElem b cnt D ∧ Maps.size D = cnt ∧ ReadsD D f
/-- .. ranged over, left: what is still to come. -/
def RangeH (w : World) (b r : Nat) (f : Nat → Option HdT) (left : Nat → Bool) (cnt m : Nat) : Prop :=
  ∃ D lf, w.ranges Try.prog 3 hdElem b r cnt D lf m ∧ Maps.size D = cnt ∧ ReadsD D f ∧ (∀ c, lf (key c) = left c) ∧ ∀ c, left c = true → ∃ hd, f c = some hd
theorem MapH.lt {w : World} {b : Nat} {f : Nat → Option HdT} {cnt : Nat} (h : MapH w b f cnt) : b < w.heap.size := by obtain ⟨D, h, _⟩ := h; exact h.lt
theorem MapH.kept {w w' : World} {b : Nat} {f : Nat → Option HdT} {cnt : Nat} {row : Option Nat} (h : MapH w b f cnt) (hg : w.grownBy w' row) (hne : some b ≠ row) : MapH w' b f cnt := by
  obtain ⟨D, h, h2⟩ := h
  exact ⟨D, h.kept hg hne, h2⟩
theorem MapH.below {w w' : World} {b : Nat} {f : Nat → Option HdT} {cnt : Nat} (h : MapH w b f cnt) (hb : Below w.heap.size w w') : MapH w' b f cnt := h.kept (grownBy_of_below hb none) (by simp)
theorem RangeH.kept {w w' : World} {b r : Nat} {f : Nat → Option HdT} {left : Nat → Bool} {cnt m : Nat} {row : Option Nat} (h : RangeH w b r f left cnt m) (hg : w.grownBy w' row) (h1 : some b ≠ row) (h2 : some r ≠ row) : RangeH w' b r f left cnt m := by
  obtain ⟨D, lf, h, k⟩ := h
  exact ⟨D, lf, h.kept hg h1 h2, k⟩
theorem RangeH.below {w w' : World} {b r : Nat} {f : Nat → Option HdT} {left : Nat → Bool} {cnt m : Nat} (h : RangeH w b r f left cnt m) (hb : Below w.heap.size w w') : RangeH w' b r f left cnt m := h.kept (grownBy_of_below hb none) (by simp) (by simp)
theorem RangeH.map {w : World} {b r : Nat} {f : Nat → Option HdT} {left : Nat → Bool} {cnt m : Nat} (h : RangeH w b r f left cnt m) : MapH w b f cnt := by
  obtain ⟨D, lf, h, h1, h2, _⟩ := h
  exact ⟨D, h.owns, h1, h2⟩
theorem RangeH.left_eq {w : World} {b r : Nat} {f : Nat → Option HdT} {left : Nat → Bool} {cnt m : Nat} (h : RangeH w b r f left cnt m) : w.rangeLeft b r = m := by
  obtain ⟨D, lf, h, _⟩ := h
  exact h.left_eq
theorem RangeH.ne {w : World} {b r : Nat} {f : Nat → Option HdT} {left : Nat → Bool} {cnt m : Nat} (h : RangeH w b r f left cnt m) : r ≠ b := by
  obtain ⟨D, lf, h, _⟩ := h
  exact h.ne
theorem RangeH.lt {w : World} {b r : Nat} {f : Nat → Option HdT} {left : Nat → Bool} {cnt m : Nat} (h : RangeH w b r f left cnt m) : r < w.heap.size := by
  obtain ⟨D, lf, h, _⟩ := h
  exact h.lt
theorem mapH_made (w : World) : MapH (w.alloc (.map #[] 0)) w.heap.size (fun _ => none) 0 :=
  ⟨.map [], World.ownsMap_made _ _ _ _, rfl, fun kl h => (by simp [Maps.has] at h), fun c => ⟨fun _ => by simp [Maps.has], fun hd h => (by cases h)⟩⟩

section
variable (w : World) {ops : Array Oper} {rest : List Oper} {o : Oper} {a : Act} {Q : Exit → Act → World → Prop}
theorem wpList_range_h (hg : o.guard = none) (m : Operand) (hop : o.op = Op.range 48 m) (b : Nat) (f : Nat → Option HdT) (cnt : Nat) (hm : a.eval m = .map (some b)) (h : MapH w b f cnt)
    (hK : ∀ w', RangeH w' b w.heap.size f (fun c => (f c).isSome) cnt cnt → w.grownBy w' none → w'.heap.size = w.heap.size + 1 → wpList Try.prog ops Q rest (a.put o.dst (.pointer (some ⟨w.heap.size, 0, none⟩))) w') :
    wpList Try.prog ops Q (o :: rest) a w := by
  obtain ⟨D, hown, hs, hR⟩ := h
  refine wpList_range_own w hg m 48 hop 3 34 klaw Try.underlying48 hdElem b cnt D hm hown fun w' hr hgr hsz => ?_
  rw [hs] at hr
  refine hK w' ⟨D, _, hr, hs, hR, fun c => ?_, fun c hc => Option.isSome_iff_exists.1 hc⟩ hgr hsz
  cases e : f c with
  | none => rw [(hR.2 c).1 e]; simp [e]
  | some hd => rw [hR.has e]; simp [e]
theorem wpList_next_h (hg : o.guard = none) (it : Operand) (hop : o.op = Op.next it false) (b r : Nat) (f : Nat → Option HdT) (left : Nat → Bool) (cnt m : Nat) (hit : a.eval it = .pointer (some ⟨r, 0, none⟩)) (h : RangeH w b r f left cnt m)
    (hDone : m = 0 → (∀ c, left c = false) → wpList Try.prog ops Q rest (a.put o.dst (.tuple #[.bool false])) w)
    (hMore : ∀ (c : Nat) (hd : HdT) (w' : World) (m' : Nat), f c = some hd → left c = true → RangeH w' b r f (fun z => left z && !(z == c)) cnt m' → m' < m → w.grownBy w' (some r) → w'.heap.size = w.heap.size →
      (Instr.entry (.pointer (some ⟨r, 0, none⟩))).run Try.prog w' = .ok (.tuple #[.int .i64 (c : Int), .slice hd.1 hd.2.1 hd.2.2]) w' → wpList Try.prog ops Q rest (a.put o.dst (.tuple #[.bool true, .int .i64 (c : Int), .slice hd.1 hd.2.1 hd.2.2])) w') :
    wpList Try.prog ops Q (o :: rest) a w := by
  obtain ⟨D, lf, hr, hs, hR, hl1, hl2⟩ := h
  refine wpList_next_ranges w hg it hop 3 klaw hdElem (fun x : Int => Value.int .i64 x) SV (fun key kl hk => ?_) (fun v y hv => ?_) b r cnt D lf m hit hr (fun h0 hl => hDone h0 fun c => by rw [← hl1]; exact hl _) ?_
  · obtain ⟨x, rfl, _⟩ := Maps.keyOf_int_inv Try.underlying3 hk
    exact ⟨x, rfl⟩
  · obtain ⟨x, rfl, _⟩ := hdElem_inv hv
    exact ⟨x, rfl⟩
  · intro x c kl y w' cnt' hk hlk hv hat hrg hlt hgr hsz hen
    have hhas := Maps.has_true_of_atKey hat
    obtain ⟨c', rfl⟩ := hR.1 kl hhas
    obtain ⟨x', e1, e2, _⟩ := Maps.keyOf_int_inv Try.underlying3 hk
    injection e1 with _ e1
    subst e1
    unfold key at e2
    injection e2 with _ e2
    subst e2
    rw [hdElem_mk] at hv
    injection hv with hv
    subst hv
    have hf : f c' = some c := by
      cases e : f c' with
      | none => rw [(hR.2 c').1 e] at hhas; cases hhas
      | some hd =>
        have := (hR.2 c').2 hd e (.held c)
        rw [hat] at this
        injection this with this
        rw [this]
    refine hMore c' c w' cnt' hf (by rw [← hl1]; exact hlk) ⟨D, _, hrg, hs, hR, fun z => ?_, fun z hz => hl2 z ?_⟩ hlt hgr hsz hen
    · rw [hl1]
      by_cases e : z = c'
      · subst e
        rw [WideAt.sameKey_self (by trivial)]
        simp
      · rw [Maps.sameKey_ne (key_ne e)]
        simp [e]
    · simp only [Bool.and_eq_true] at hz
      exact hz.1
theorem wpList_put_here_h (hg : o.guard = none) (m x v : Operand) (hop : o.op = Op.mapUpdate 48 m x v) (b r : Nat) (f : Nat → Option HdT) (left : Nat → Bool) (cnt k : Nat) (hm : a.eval m = .map (some b)) (h : RangeH w b r f left cnt k)
    (c : Nat) (old hd : HdT) (hx : a.eval x = .int .i64 (c : Int)) (hv : a.eval v = .slice hd.1 hd.2.1 hd.2.2) (hc : c < 1000000) (hold : f c = some old)
    (hK : ∀ w', RangeH w' b r (fun z => if z = c then some hd else f z) left cnt k → w.grownBy w' (some b) → w'.heap.size = w.heap.size → wpList Try.prog ops Q rest (a.put o.dst undef) w') :
    wpList Try.prog ops Q (o :: rest) a w := by
  obtain ⟨D, lf, hr, hs, hR, hl1, hl2⟩ := h
  refine wpList_plain hg fun K' hK' => ?_
  obtain ⟨w', hrun, r1, r2, r3⟩ := ranges_put hr klaw Try.underlying48 (key := .int .i64 (c : Int)) (val := .slice hd.1 hd.2.1 hd.2.2) (d := .held hd) (ps := []) (key_of hc) rfl (hR.has hold)
  unfold Oper.wp
  simp [execOp, hop, hm, hx, hv, hrun, Result.andThen]
  refine hK' _ _ (hK w' ⟨_, lf, r1, ?_, hR.put hr.owns.isMap c hd, hl1, fun z hz => ?_⟩ r2 r3)
  · rw [Maps.size_put (hr.owns.tidy klaw), hR.has hold]
    simpa using hs
  · by_cases e : z = c
    · exact ⟨hd, if_pos e⟩
    · obtain ⟨x, hx'⟩ := hl2 z hz
      exact ⟨x, by simp only [if_neg e]; exact hx'⟩
theorem wpList_put_new_h (hg : o.guard = none) (m x v : Operand) (hop : o.op = Op.mapUpdate 48 m x v) (b : Nat) (f : Nat → Option HdT) (cnt : Nat) (hm : a.eval m = .map (some b)) (h : MapH w b f cnt)
    (c : Nat) (hd : HdT) (hx : a.eval x = .int .i64 (c : Int)) (hv : a.eval v = .slice hd.1 hd.2.1 hd.2.2) (hc : c < 1000000) (hn : cnt < 1000000) (hold : f c = none)
    (hK : ∀ w', MapH w' b (fun z => if z = c then some hd else f z) (cnt + 1) → w.grownBy w' (some b) → wpList Try.prog ops Q rest (a.put o.dst undef) w') :
    wpList Try.prog ops Q (o :: rest) a w := by
  obtain ⟨D, hown, hs, hR⟩ := h
  refine wpList_mapUpdate_own w hg m x v 48 hop 3 34 klaw Try.underlying48 hdElem b cnt D hm hown (by unfold maxLen; omega) (.int .i64 (c : Int)) (.slice hd.1 hd.2.1 hd.2.2) (key c) hx hv (key_of hc) (.held hd) [] rfl fun w' h1 h2 => ?_
  refine hK w' ⟨_, h1, ?_, hR.put hown.isMap c hd⟩ h2
  rw [Maps.size_put (hown.tidy klaw), (hR.2 c).1 hold]
  simpa using hs
theorem zeroHd (w : World) : (zeroValue 34).run Try.prog w = .ok (.slice none 0 0) w := by kernel_rfl
theorem wpList_lookup_h (hg : o.guard = none) (m x : Operand) (hop : o.op = Op.lookup 48 m x false) (b : Nat) (f : Nat → Option HdT) (cnt : Nat) (hm : a.eval m = .map (some b)) (h : MapH w b f cnt)
    (c : Nat) (hd : HdT) (hx : a.eval x = .int .i64 (c : Int)) (hc : c < 1000000) (hold : f c = some hd)
    (hK : wpList Try.prog ops Q rest (a.put o.dst (.slice hd.1 hd.2.1 hd.2.2)) w) :
    wpList Try.prog ops Q (o :: rest) a w := by
  obtain ⟨D, hown, hs, hR⟩ := h
  refine wpList_plain hg fun K' hK' => ?_
  obtain ⟨v, ps, hrun, hv⟩ := hown.lookup klaw Try.underlying48 (zeroHd w) (zd := .held (none, 0, 0)) (zp := []) rfl (key := .int .i64 (c : Int)) (key_of hc)
  rw [(hR.2 c).2 hd hold] at hv
  obtain ⟨x', rfl, e⟩ := hdElem_inv hv
  injection e with e _
  injection e with e
  subst e
  unfold Oper.wp
  simp [execOp, hop, hm, hx, hrun, Result.andThen]
  exact hK' _ _ hK
theorem wpList_len_h (hg : o.guard = none) (m : Operand) (hop : o.op = Op.call { callee := Callee.builtin Builtin.len, args := #[m], argTypes := #[48] }) (b : Nat) (f : Nat → Option HdT) (cnt : Nat) (hm : a.eval m = .map (some b)) (h : MapH w b f cnt)
    (hK : wpList Try.prog ops Q rest (a.put o.dst (.int .i64 (cnt : Int))) w) :
    wpList Try.prog ops Q (o :: rest) a w := by
  obtain ⟨D, hown, hs, hR⟩ := h
  refine wpList_len_own w hg m 48 hop 3 34 Try.underlying48 hdElem b cnt D hm hown ?_
  rw [hs]
  exact hK
end
end Go.Proofs.Ytgnnfpnkhemimaa
