/-
  What a value of any type made of whole numbers, bools, strings, slices and structs reads as, in memory: by its shape. Nothing of a program in sight.
-/
import Derived.Test.YtnefcbcioemfiaaLaw
import Derived.Deep.Slices
namespace Go.Proofs.Ytnefcbcioemfiaa
open Go.ChangeShapes Go.WideShapes Go.ChangeAt Go.RowKit Go.Deep

mutual
inductive Sh where
  | int (k : IntKind)
  | bool
  | str
  | sl (b : Nat) (e : Sh)
  | st (fs : Shs)
inductive Shs where
  | nil
  | cons (f : Sh) (fs : Shs)
end
mutual
def Sh.size : Sh → Nat
  | .int _ => 1
  | .bool => 1
  | .str => 1
  | .sl _ _ => 1
  | .st fs => fs.size
def Shs.size : Shs → Nat
  | .nil => 0
  | .cons f fs => f.size + fs.size
end
mutual
def Sh.fits (P : Program) : Sh → TypeId → Bool
  | .int k, t => match P.underlying t with
    | some (.int k') => decide (k' = k)
    | _ => false
  | .bool, t => match P.underlying t with
    | some .bool => true
    | _ => false
  | .str, t => match P.underlying t with
    | some .string => true
    | _ => false
  | .sl b e, t => match P.underlying t with
    | some (.slice et) => Nat.beq (P.cellsOf et) e.size && Nat.ble 1 e.size && Nat.beq (P.bytesOf et) b && e.fits P et
    | _ => false
  | .st fs, t => match P.underlying t with
    | some (.struct fa) => Nat.beq (P.cellsOf t) fs.size && fs.fits P fa.toList 0
    | _ => false
def Shs.fits (P : Program) : Shs → List Field → Nat → Bool
  | .nil, [], _ => true
  | .cons f fs, x :: xs, o => Nat.beq x.offset o && Nat.beq (P.cellsOf x.type) f.size && f.fits P x.type && fs.fits P xs (o + f.size)
  | _, _, _ => false
end
mutual
def View (W : World) : Sh → List Value → Prop
  | .int k, cs => ∃ i, cs = [.int k i] ∧ (Lit.int k i).wf = true
  | .bool, cs => ∃ b, cs = [.bool b]
  | .str, cs => ∃ s : ByteArray, cs = [.string s] ∧ s.size ≤ reachBytes
  | .sl b e, cs => ∃ a n c, cs = [.slice a n c] ∧ n ≤ c ∧ c ≤ maxLen ∧ c * b ≤ reachBytes ∧ (a = none → c = 0) ∧ (0 < n → ∃ bl o, a = some ⟨bl, o, none⟩ ∧ bl < W.heap.size) ∧
      ∀ i, i < n → ∃ vs, vs.length = e.size ∧ (∀ j bl o, j < e.size → a = some ⟨bl, o, none⟩ → W.cell? ⟨bl, o + i * e.size + j, none⟩ = vs[j]?) ∧ View W e vs
  | .st fs, cs => Views W fs cs
def Views (W : World) : Shs → List Value → Prop
  | .nil, cs => cs = []
  | .cons f fs, cs => ∃ c1 c2, cs = c1 ++ c2 ∧ View W f c1 ∧ Views W fs c2
end
section
variable {W : World}
theorem v_int (k : IntKind) (cs : List Value) : View W (.int k) cs = (∃ i, cs = [.int k i] ∧ (Lit.int k i).wf = true) := by simp only [View]
theorem v_bool (cs : List Value) : View W .bool cs = (∃ b, cs = [.bool b]) := by simp only [View]
theorem v_str (cs : List Value) : View W .str cs = (∃ s : ByteArray, cs = [.string s] ∧ s.size ≤ reachBytes) := by simp only [View]
theorem v_st (fs : Shs) (cs : List Value) : View W (.st fs) cs = Views W fs cs := by simp only [View]
theorem v_nil (cs : List Value) : Views W .nil cs = (cs = []) := by simp only [Views]
theorem v_cons (f : Sh) (fs : Shs) (cs : List Value) : Views W (.cons f fs) cs = (∃ c1 c2, cs = c1 ++ c2 ∧ View W f c1 ∧ Views W fs c2) := by simp only [Views]
theorem v_sl (b : Nat) (e : Sh) (cs : List Value) : View W (.sl b e) cs = (∃ a n c, cs = [.slice a n c] ∧ n ≤ c ∧ c ≤ maxLen ∧ c * b ≤ reachBytes ∧ (a = none → c = 0) ∧ (0 < n → ∃ bl o, a = some ⟨bl, o, none⟩ ∧ bl < W.heap.size) ∧
      ∀ i, i < n → ∃ vs, vs.length = e.size ∧ (∀ j bl o, j < e.size → a = some ⟨bl, o, none⟩ → W.cell? ⟨bl, o + i * e.size + j, none⟩ = vs[j]?) ∧ View W e vs) := by simp only [View]
end
theorem view_below_sl {W W' : World} (hb : Below W.heap.size W W') {a : Option Addr} {n s : Nat} {R R' : List Value → Prop} (hR : ∀ vs, R vs → R' vs) (hlt : 0 < n → ∃ bl o, a = some ⟨bl, o, none⟩ ∧ bl < W.heap.size)
    (h : ∀ i, i < n → ∃ vs, vs.length = s ∧ (∀ j bl o, j < s → a = some ⟨bl, o, none⟩ → W.cell? ⟨bl, o + i * s + j, none⟩ = vs[j]?) ∧ R vs) :
    ∀ i, i < n → ∃ vs, vs.length = s ∧ (∀ j bl o, j < s → a = some ⟨bl, o, none⟩ → W'.cell? ⟨bl, o + i * s + j, none⟩ = vs[j]?) ∧ R' vs := by
  intro i hi
  obtain ⟨vs, h1, h2, h3⟩ := h i hi
  obtain ⟨bl, o, e, hl⟩ := hlt (by omega)
  refine ⟨vs, h1, fun j bl' o' hj e' => ?_, hR vs h3⟩
  rw [e] at e'
  injection e' with e'
  injection e' with e1 e2
  subst e1 e2
  rw [← h2 j bl o hj e]
  exact hb.cell (p := ⟨bl, o + i * s + j, none⟩) hl
mutual
theorem View.below {W W' : World} (hb : Below W.heap.size W W') : ∀ (s : Sh) (cs : List Value), View W s cs → View W' s cs
  | .int _, _, h => h
  | .bool, _, h => h
  | .str, _, h => h
  | .sl _ e, cs, h => by
    obtain ⟨a, n, c, h1, h2, h3, h4, h5, h6, h7⟩ := h
    exact ⟨a, n, c, h1, h2, h3, h4, h5, fun h0 => by obtain ⟨bl, o, e1, e2⟩ := h6 h0; exact ⟨bl, o, e1, Nat.lt_of_lt_of_le e2 hb.size⟩, view_below_sl hb (fun vs hv => View.below hb e vs hv) h6 h7⟩
  | .st fs, cs, h => Views.below hb fs cs h
theorem Views.below {W W' : World} (hb : Below W.heap.size W W') : ∀ (fs : Shs) (cs : List Value), Views W fs cs → Views W' fs cs
  | .nil, _, h => h
  | .cons f fs, cs, h => by
    obtain ⟨c1, c2, e, h1, h2⟩ := h
    exact ⟨c1, c2, e, View.below hb f c1 h1, Views.below hb fs c2 h2⟩
end
section
variable {H : Type} {enc : TypeId × Value → H} {P : Program} {W : World}
theorem addr_add_plain (a : Addr) (i : Nat) (h : a.spot = none) : a.add i = ⟨a.block, a.off + i, none⟩ := by
  obtain ⟨b, o, s⟩ := a
  simp only at h
  subst h
  exact addr_add b o i
mutual
theorem view_of_trod : ∀ (s : Sh) (t : TypeId) (fuel : Nat) (cs : List Value) (y : DataW H × List MemPlace), s.fits P t = true → DataW.trod enc P W 0 (fun _ => true) true fuel t cs = some y → (∀ n ∈ y.1.weights P t, n ≤ reachBytes) → View W s cs
  | .int k, t, fuel, cs, y, hf, ht, hw => by
    simp only [Sh.fits] at hf
    split at hf
    · rename_i k' hu
      have := of_decide_eq_true hf
      subst this
      obtain ⟨i, rfl, _, hi⟩ := DataW.trod_int hu ht
      exact ⟨i, rfl, hi⟩
    · cases hf
  | .bool, t, fuel, cs, y, hf, ht, hw => by
    simp only [Sh.fits] at hf
    split at hf
    · rename_i hu
      obtain ⟨i, rfl, _⟩ := DataW.trod_bool hu ht
      exact ⟨i, rfl⟩
    · cases hf
  | .str, t, fuel, cs, y, hf, ht, hw => by
    simp only [Sh.fits] at hf
    split at hf
    · rename_i hu
      obtain ⟨i, rfl, h1, h2⟩ := DataW.trod_string hu ht
      refine ⟨i, rfl, ?_⟩
      rw [h1] at hw
      have := hw i.data.toList.length (by simp [DataW.weights])
      simpa using this
    · cases hf
  | .sl b e, t, fuel, cs, y, hf, ht, hw => by
    simp only [Sh.fits] at hf
    split at hf
    · rename_i et hu
      simp only [Bool.and_eq_true] at hf
      obtain ⟨⟨⟨f1, f2⟩, f3⟩, f4⟩ := hf
      have f1 := Nat.eq_of_beq_eq_true f1
      have f2 := Nat.le_of_ble_eq_true f2
      have f3 := Nat.eq_of_beq_eq_true f3
      rcases open_slice hu ht with ⟨rfl, _⟩ | ⟨a, len, cap, m, n, D, Pl, rfl, hb, hl, hm, hmm, hyy, hx⟩
      · exact ⟨none, 0, 0, rfl, Nat.le_refl _, Nat.zero_le _, by omega, fun _ => rfl, fun h => absurd h (by omega), fun i hi => absurd hi (by omega)⟩
      · simp only [if_true] at hmm
        subst hmm
        have hw1 : m * b ≤ reachBytes := by
          refine hw _ ?_
          rw [hyy]
          simp only [DataW.weights, hu, List.length_map, List.length_range, List.mem_cons]
          left
          rw [f3, show len + (m - len) = m by omega]
        have each : ∀ i, i < len → ∃ vs, W.cells? 0 (a.add (i * e.size)) e.size = some vs ∧ View W e vs := by
          intro i hi
          obtain ⟨cs', h1, h2⟩ := hx i (by omega)
          rw [f1] at h1
          refine ⟨cs', h1, view_of_trod e et n cs' (D i, Pl i) f4 h2 (fun x hx => hw x ?_)⟩
          rw [hyy]
          simp only [DataW.weights, hu, List.mem_cons, List.mem_append]
          right; left
          exact weightsAll_mem (d := D i) (List.mem_map.2 ⟨i, by simpa using hi, rfl⟩) _ hx
        have hpl : 0 < len → a.spot = none ∧ a.block < W.heap.size := by
          intro h0
          obtain ⟨vs, h1, _⟩ := each 0 h0
          obtain ⟨_, h2, h3⟩ := World.cells?_some h1
          have h4 := h3 0 (by omega)
          rw [List.getElem?_eq_getElem (by omega)] at h4
          have h5 : ((a.add (0 * e.size)).add 0) = a := by
            rw [Nat.zero_mul]
            unfold Addr.add
            simp
          rw [h5] at h4
          exact ⟨by have := World.cell?_spot h4; exact this, World.block_lt_of_cell? W a h4⟩
        refine ⟨some a, len, m, rfl, hl, hm, hw1, fun h => (nomatch h), fun h0 => ⟨a.block, a.off, ?_, (hpl h0).2⟩, fun i hi => ?_⟩
        · have := (hpl h0).1
          obtain ⟨b1, o1, s1⟩ := a
          simp only at this
          rw [this]
        · obtain ⟨vs, h1, h2⟩ := each i hi
          obtain ⟨_, h3, h4⟩ := World.cells?_some h1
          refine ⟨vs, h3, fun j bl o hj e1 => ?_, h2⟩
          injection e1 with e1
          subst e1
          have := h4 j hj
          rw [addr_add, addr_add] at this
          exact this
    · cases hf
  | .st fs, t, fuel, cs, y, hf, ht, hw => by
    simp only [Sh.fits] at hf
    split at hf
    · rename_i fa hu
      simp only [Bool.and_eq_true] at hf
      obtain ⟨f1, f2⟩ := hf
      have f1 := Nat.eq_of_beq_eq_true f1
      obtain ⟨xs, n, _, hyy, hl, hlen, hx⟩ := DataW.trod_struct hu ht
      have hall := views_of_trod fs fa.toList 0 n cs xs (by rw [hl, f1, Nat.add_comm]; rfl) f2 (by simpa using hlen) (fun i f hf => by
        have := hx i f (by simpa using hf)
        exact this) (by
        intro z hz
        refine hw z ?_
        rw [hyy]
        simp only [DataW.weights, hu]
        exact hz)
      rw [List.drop_zero] at hall
      exact hall
    · cases hf
theorem views_of_trod : ∀ (fs : Shs) (fl : List Field) (o n : Nat) (cs : List Value) (xs : List (DataW H × List MemPlace)), cs.length = o + fs.size → fs.fits P fl o = true → xs.length = fl.length →
    (∀ (i : Nat) (f : Field), fl[i]? = some f → DataW.trod enc P W 0 (fun _ => true) true n f.type ((cs.drop f.offset).take (P.cellsOf f.type)) = xs[i]?) → (∀ z ∈ DataW.weightsEach P (fl.map (·.type)) (xs.map (·.1)), z ≤ reachBytes) → Views W fs (cs.drop o)
  | .nil, [], o, n, cs, xs, hl, hf, hx, ht, hw => by
    simp only [Views]
    rw [List.drop_eq_nil_iff]
    simp only [Shs.size] at hl
    omega
  | .nil, _ :: _, o, n, cs, xs, hl, hf, hx, ht, hw => by simp [Shs.fits] at hf
  | .cons f fs, [], o, n, cs, xs, hl, hf, hx, ht, hw => by simp [Shs.fits] at hf
  | .cons f fs, x :: fl, o, n, cs, [], hl, hf, hx, ht, hw => by simp at hx
  | .cons f fs, x :: fl, o, n, cs, y :: xs, hl, hf, hx, ht, hw => by
    simp only [Shs.fits, Bool.and_eq_true] at hf
    obtain ⟨⟨⟨f1, f2⟩, f3⟩, f4⟩ := hf
    have f1 := Nat.eq_of_beq_eq_true f1
    have f2 := Nat.eq_of_beq_eq_true f2
    simp only [Shs.size] at hl
    have h0 := ht 0 x rfl
    rw [f1, f2] at h0
    simp only [List.getElem?_cons_zero] at h0
    have v0 := view_of_trod f x.type n _ y f3 h0 (fun z hz => hw z (by simp [DataW.weightsEach, hz]))
    have v1 := views_of_trod fs fl (o + f.size) n cs xs (by omega) f4 (by simpa using hx) (fun i g hg => by
      have := ht (i + 1) g (by simpa using hg)
      simpa using this) (fun z hz => hw z (by simp only [List.map_cons, DataW.weightsEach, List.mem_append]; right; exact hz))
    refine ⟨(cs.drop o).take f.size, cs.drop (o + f.size), ?_, v0, v1⟩
    rw [← List.drop_drop, List.take_append_drop]
end
/-- a parameter of such a type. -/
theorem openView (s : Sh) {t : TypeId} {v : Value} {d : DataW H} {p : List MemPlace} (hf : s.fits P t = true) (h : DataW.Trod enc P W 0 (fun _ => true) true t v d p) (hw : ∀ n ∈ d.weights P t, n ≤ reachBytes) : View W s v.cells.toList := by
  obtain ⟨fuel, h⟩ := h
  exact view_of_trod s t fuel _ _ hf h hw
end
end Go.Proofs.Ytnefcbcioemfiaa
