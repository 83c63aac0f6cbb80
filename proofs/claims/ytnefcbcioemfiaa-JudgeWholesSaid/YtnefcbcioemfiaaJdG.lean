/-
  judge: the map of dead states; what stays where a map's entries alone turn.
-/
import Derived.Test.YtnefcbcioemfiaaJdE
import Derived.Test.YtnefcbcioemfiaaJdF
import Derived.Maps.OwnSet
import Derived.DeepKeys4
namespace Go.Proofs.Ytnefcbcioemfiaa
open Go.RowKit Go.ChangeMaps Go.MapKept Go.WideShapes
open Go.Maps (Keyed IsMap)

theorem laidOutJ : laidOutB Try.prog = true := by kernel_rfl
theorem stKeyed : Keyed Try.prog StT := Keyed.of_law (deep_law_laid laidOutJ (m := 2) (by omega) (of_decide_eq_true (by kernel_rfl)) (by kernel_rfl) (by kernel_rfl))
theorem wf_u64J {T : Nat} (h : T < 2 ^ 64) : (Lit.int .u64 (T : Int)).wf = true := by
  simp only [Lit.wf, Bool.and_eq_true, decide_eq_true_eq]
  have e1 : IntKind.u64.min = 0 := rfl
  have e2 : IntKind.u64.max = 18446744073709551615 := rfl
  rw [e1, e2]
  omega
theorem wf_i64J {l : Int} (h : -9223372036854775808 ≤ l ∧ l < 9223372036854775808) : (Lit.int .i64 l).wf = true := by
  simp only [Lit.wf, Bool.and_eq_true, decide_eq_true_eq]
  have e1 : IntKind.i64.min = -9223372036854775808 := rfl
  have e2 : IntKind.i64.max = 9223372036854775807 := rfl
  rw [e1, e2]
  omega
theorem key_two {P : Program} {k : TypeId} {f1 f2 : Field} (hu : P.underlying k = some (.struct #[f1, f2])) (hn1 : (f1.name != "_") = true) (hn2 : (f2.name != "_") = true) (ho1 : f1.offset = 0) (ho2 : f2.offset = 1)
    (ht1 : P.underlying f1.type = some (.int .u64)) (ht2 : P.underlying f2.type = some (.int .i64)) (hc : P.cellsOf k = 2) (c1 : P.cellsOf f1.type = 1) (c2 : P.cellsOf f2.type = 1) (hk : P.keyType k = true) (hsz : 0 < P.types.size)
    {x y : Int} (h1 : (Lit.int .u64 x).wf = true) (h2 : (Lit.int .i64 y).wf = true) : ∃ kl, keyOf P k (.agg #[.int .u64 x, .int .i64 y]) = some kl := by
  obtain ⟨m, e⟩ : ∃ m, P.types.size + 1 = m + 1 + 1 := ⟨P.types.size - 1, by omega⟩
  unfold keyOf
  rw [hu]
  simp only
  rw [hk, e]
  simp [Value.formed, hu, hc, Program.keyLits, hn1, hn2, ho1, ho2, c1, c2, ht1, ht2, h1, h2, Value.cells]
theorem st_key (T : Nat) (l : Int) (hT : T < 2 ^ 64) (hl : -9223372036854775808 ≤ l ∧ l < 9223372036854775808) : ∃ kl, keyOf Try.prog StT (StV T l) = some kl :=
  key_two Try.underlying71 (by kernel_rfl) (by kernel_rfl) rfl rfl Try.underlying69 Try.underlying3 (by kernel_rfl) (by kernel_rfl) (by kernel_rfl) (by kernel_rfl) (of_decide_eq_true (by kernel_rfl)) (wf_u64J hT) (wf_i64J hl)
abbrev MapT : TypeId := 80
def MapAt (w : World) (b : Nat) : Prop := ∃ es ck, w.heap[b]? = some (.map es ck)
theorem cell_ne_map {w : World} {b o mb : Nat} {v : Value} (hm : MapAt w mb) (h : w.cell? ⟨b, o, none⟩ = some v) : b ≠ mb := by
  rintro rfl
  obtain ⟨es, ck, e⟩ := hm
  simp [World.cell?, e] at h
theorem cellKM {w w' : World} {b o mb : Nat} {v : Value} (hm : MapAt w mb) (hg : w.grownBy w' (some mb)) (h : w.cell? ⟨b, o, none⟩ = some v) : w'.cell? ⟨b, o, none⟩ = some v := by
  rw [← h]
  exact World.cell?_of_block (a := ⟨b, o, none⟩) (hg.block b (World.block_lt_of_cell? w ⟨b, o, none⟩ h) (fun e => cell_ne_map hm h (by injection e)))
theorem RowV.km {w w' : World} {mb : Nat} (hm : MapAt w mb) (hg : w.grownBy w' (some mb)) {ad : Option Addr} {len : Nat} {vs : List Value} (h : RowV w ad len vs) : RowV w' ad len vs := by
  refine ⟨h.1, fun h0 => ?_⟩
  obtain ⟨b, o, e, hc⟩ := h.2 h0
  refine ⟨b, o, e, fun i hi => ?_⟩
  have h1 := hc i hi
  have hlt : i < vs.length := by rw [h.1]; exact hi
  rw [List.getElem?_eq_getElem hlt] at h1 ⊢
  exact cellKM hm hg h1
theorem BytesV.km {w w' : World} {mb : Nat} (hm : MapAt w mb) (hg : w.grownBy w' (some mb)) {x : SH3} {l : List Nat} (h : BytesV w x l) : BytesV w' x l := ⟨h.row.km hm hg, h.bytes, h.small, h.cap, h.nil⟩
theorem TxV.km {w w' : World} {mb : Nat} (hm : MapAt w mb) (hg : w.grownBy w' (some mb)) {x : SH3} {l : List ByteArray} (h : TxV w x l) : TxV w' x l := ⟨h.row.km hm hg, h.small, h.cap, h.nil⟩
theorem IntsV.km {w w' : World} {mb : Nat} (hm : MapAt w mb) (hg : w.grownBy w' (some mb)) {x : SH3} {l : List Int} (h : IntsV w x l) : IntsV w' x l := ⟨h.row.km hm hg, h.small, h.cap, h.nil⟩
theorem ActS.km {w w' : World} {mb : Nat} (hm : MapAt w mb) (hg : w.grownBy w' (some mb)) {A : ActR} {x y z : SH3} (h : ActS w A x y z) : ActS w' A x y z := ⟨h.v.km hm hg, h.r.km hm hg, h.k.km hm hg⟩
theorem ActAt.km {w w' : World} {mb : Nat} (hm : MapAt w mb) (hg : w.grownBy w' (some mb)) {b o : Nat} {A : ActR} {x y z : SH3} (h : ActAt w b o A x y z) : ActAt w' b o A x y z :=
  ⟨cellKM hm hg h.c0, cellKM hm hg h.c1, cellKM hm hg h.c2, cellKM hm hg h.c3, cellKM hm hg h.c4, cellKM hm hg h.c5, cellKM hm hg h.c6, cellKM hm hg h.c7, cellKM hm hg h.c8, cellKM hm hg h.c9, cellKM hm hg h.ca, cellKM hm hg h.cb, cellKM hm hg h.cc, cellKM hm hg h.cd, cellKM hm hg h.ce, h.s.km hm hg⟩
theorem ActsV.km {w w' : World} {mb : Nat} (hm : MapAt w mb) (hg : w.grownBy w' (some mb)) {a : Option Addr} {n : Nat} {As : List ActR} (h : ActsV w a n As) : ActsV w' a n As := by
  obtain ⟨h1, X, hx⟩ := h
  refine ⟨h1, X, fun h0 => ?_⟩
  obtain ⟨b, o, e, hl, hc⟩ := hx h0
  exact ⟨b, o, e, Nat.lt_of_lt_of_le hl hg.size, fun i it hi => (hc i it hi).km hm hg⟩
theorem SrA.km {w w' : World} {sb : Nat} {a : Option Addr} {n c mb : Nat} {A : List ActR} (hm : MapAt w mb) (hg : w.grownBy w' (some mb)) (h : SrA w sb a n c mb A) : SrA w' sb a n c mb A := ⟨cellKM hm hg h.c0, cellKM hm hg h.c1, h.acts.km hm hg, h.nc, h.n12⟩
/-- the map of dead states. -/
def DeadM (w : World) (mb N : Nat) (A : List ActR) : Prop :=
  ∃ D : DataW Unit, w.ownsMap Try.prog StT unitElem mb N D ∧ ∀ (T : Nat) (l : Int) (kl : Lit), keyOf Try.prog StT (StV T l) = some kl → Maps.has D kl = true → srch A T l = none
theorem DeadM.map {w : World} {mb N : Nat} {A : List ActR} (h : DeadM w mb N A) : MapAt w mb := by
  obtain ⟨D, ⟨es, ck, hb, -⟩, -⟩ := h
  exact ⟨es, ck, hb⟩
theorem DeadM.lt {w : World} {mb N : Nat} {A : List ActR} (h : DeadM w mb N A) : mb < w.heap.size := by
  obtain ⟨es, ck, hb⟩ := h.map
  exact (Array.getElem?_eq_some_iff.1 hb).1
theorem DeadM.of_block {w w' : World} {mb N : Nat} {A : List ActR} (h : DeadM w mb N A) (hb : w'.heap[mb]? = w.heap[mb]?) : DeadM w' mb N A := by
  obtain ⟨D, ⟨es, ck, h0, h1⟩, h2⟩ := h
  exact ⟨D, ⟨es, ck, hb.trans h0, h1⟩, h2⟩
theorem DeadM.below {w w' : World} {mb N : Nat} {A : List ActR} (h : DeadM w mb N A) (hb : Below w.heap.size w w') : DeadM w' mb N A := h.of_block (hb.block mb h.lt)
theorem DeadM.mono {w : World} {mb N N' : Nat} {A : List ActR} (h : DeadM w mb N A) (hn : N ≤ N') : DeadM w mb N' A := by
  obtain ⟨D, h1, h2⟩ := h
  exact ⟨D, h1.mono hn, h2⟩
theorem key_inj {T T' : Nat} {l l' : Int} {kl : Lit} (h : keyOf Try.prog StT (StV T l) = some kl) (h' : keyOf Try.prog StT (StV T' l') = some kl) : T = T' ∧ l = l' := by
  have e := stKeyed.inj h h'
  simp only [StV] at e
  injection e with e
  have e1 := congrArg (fun a => a[0]?) e
  have e2 := congrArg (fun a => a[1]?) e
  simp at e1 e2
  exact ⟨by omega, e2⟩
theorem DeadM.put {w' : World} {mb N : Nat} {A : List ActR} {T : Nat} {l : Int} {kl : Lit} {D : DataW Unit} (hk : keyOf Try.prog StT (StV T l) = some kl) (hs : srch A T l = none)
    (hD : ∀ (T : Nat) (l : Int) (kl : Lit), keyOf Try.prog StT (StV T l) = some kl → Maps.has D kl = true → srch A T l = none) (h : w'.ownsMap Try.prog StT unitElem mb N (D.put kl (.agg []))) : DeadM w' mb N A := by
  refine ⟨_, h, fun T' l' kl' hk' hh => ?_⟩
  by_cases e : kl' = kl
  · subst e
    obtain ⟨rfl, rfl⟩ := key_inj hk hk'
    exact hs
  · rw [Maps.has_put_other e] at hh
    exact hD T' l' kl' hk' hh
theorem zeroUnit (w : World) : (zeroValue 89).run Try.prog w = .ok (.agg #[]) w := by kernel_rfl
theorem look_dead {w : World} {mb N : Nat} {T : Nat} {l : Int} {kl : Lit} {D : DataW Unit} (h : w.ownsMap Try.prog StT unitElem mb N D) (hk : keyOf Try.prog StT (StV T l) = some kl) :
    (Instr.lookup MapT (.map (some mb)) (StV T l) true).run Try.prog w = .ok (.tuple #[.agg #[], .bool (Maps.has D kl)]) w := by
  obtain ⟨v, ps, h1, h2⟩ := h.look_ok stKeyed Try.underlying80 (zeroUnit w) (zd := .agg []) (zp := []) unitElem_mk hk
  obtain ⟨rfl, -⟩ := unitElem_inv h2
  exact h1
theorem okPath_len {A : List ActR} : ∀ {r : List Nat} {T : Nat} {l : Int}, okPath A r T l = true → r.length ≤ leftN A T
  | [], _, _, _ => Nat.zero_le _
  | i :: r, T, l, h => by
    simp only [okPath, Bool.and_eq_true, decide_eq_true_eq] at h
    have h1 := okPath_len h.2
    have h2 := left_beh (A := A) (T := T) (i := i) h.1.1 (follows_free h.1.2)
    simp only [List.length_cons]
    omega
theorem leftN_le (A : List ActR) (T : Nat) : leftN A T ≤ A.length := by
  have := List.length_filter_le (fun i => !T.testBit i) (List.range A.length)
  simpa [leftN] using this
end Go.Proofs.Ytnefcbcioemfiaa
