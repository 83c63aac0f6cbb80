/-
  JudgeSerial: what is done one behind the other.
-/
import Derived.Test.YtnefcbcioemfiaaJdW
import Derived.Test.YtnefcbcioemfiaaUse2
namespace Go.Proofs.Ytnefcbcioemfiaa
open Go Go.RowKit

theorem grownBy_setCellJ (w : World) (a : Addr) (v : Value) : w.grownBy (w.setCell a v) (some a.block) := ⟨rfl, rfl, rfl, by simp, fun k _ hn => heap_setCell_other _ _ _ _ (fun e => hn (by rw [e]))⟩
def setsFrom (w : World) (g : Nat) : Nat → List Value → World
  | _, [] => w
  | i, v :: vs => setsFrom (w.setCell ⟨g, i, none⟩ v) g (i + 1) vs
def listSets (l : List Value) : Nat → List Value → List Value
  | _, [] => l
  | i, v :: vs => listSets (l.set i v) (i + 1) vs
theorem heap_setsFrom' {g : Nat} {T : TypeId} : ∀ (vs : List Value) (i : Nat) (w : World) (l : List Value), w.heap[g]? = some (.cells l.toArray T (0, 0)) → (setsFrom w g i vs).heap[g]? = some (.cells (listSets l i vs).toArray T (0, 0))
  | [], _, _, _, h => h
  | v :: vs, i, w, l, h => heap_setsFrom' vs (i + 1) _ _ (by have := heap_setCell_same w g i l.toArray T v h; rw [List.setIfInBounds_toArray] at this; exact this)
theorem heap_setsFrom {g : Nat} {T : TypeId} {w : World} {l l' : List Value} (i : Nat) (vs : List Value) (h : w.heap[g]? = some (.cells l.toArray T (0, 0))) (he : listSets l i vs = l') : (setsFrom w g i vs).heap[g]? = some (.cells l'.toArray T (0, 0)) := by
  rw [← he]
  exact heap_setsFrom' vs i w l h
theorem grown_setsFrom {g : Nat} : ∀ (vs : List Value) (i : Nat) (w : World), w.grownBy (setsFrom w g i vs) (some g)
  | [], _, _ => ⟨rfl, rfl, rfl, Nat.le_refl _, fun _ _ _ => rfl⟩
  | v :: vs, i, w => World.grownBy.trans (grownBy_setCellJ w ⟨g, i, none⟩ v) (grown_setsFrom vs (i + 1) _)
theorem setsFrom_other {w : World} {g k : Nat} (vs : List Value) (i : Nat) (h : k < w.heap.size) (hk : k ≠ g) : (setsFrom w g i vs).heap[k]? = w.heap[k]? :=
  (grown_setsFrom vs i w).block k h (fun e => hk (by injection e))
theorem setsFrom_below {B : Nat} {u w : World} {g : Nat} (vs : List Value) (i : Nat) (h : Below B u w) (hs : B ≤ w.heap.size) (hg : B ≤ g) : Below B u (setsFrom w g i vs) :=
  h.grown (grown_setsFrom vs i w) hs (fun k hk => by injection hk with hk; omega)
abbrev ResT : TypeId := 43
def serA (k : Nat) (d : Int) (v : List Nat) (cur : Option (List Nat)) : ActR :=
  if d = 1 then ⟨0, 1, 3 * (k : Int), 3 * (k : Int) + 2, kK, v, 0, 0, ⟨#[]⟩, [], 0, 0, 0, false, []⟩
  else if d = 2 then ⟨0, 2, 3 * (k : Int), 3 * (k : Int) + 2, kK, [], 0, 0, ⟨#[]⟩, cur.getD [], 0, 0, 0, cur.isSome, []⟩
  else ⟨0, 3, 3 * (k : Int), 3 * (k : Int) + 2, kK, [], 0, 0, ⟨#[]⟩, [], 0, 0, 0, false, []⟩
/-- what is done so far, and what stands. -/
def serTo (ds : Nat → Int) (vs : Nat → List Nat) : Nat → List ActR × Option (List Nat)
  | 0 => ([], none)
  | k + 1 => ((serTo ds vs k).1 ++ [serA k (ds k) (vs k) (serTo ds vs k).2], nextV (serTo ds vs k).2 (serA k (ds k) (vs k) (serTo ds vs k).2))
theorem serTo_len (ds : Nat → Int) (vs : Nat → List Nat) : ∀ k, (serTo ds vs k).1.length = k
  | 0 => rfl
  | k + 1 => by rw [serTo, List.length_append, serTo_len ds vs k]; rfl
/-- the last that was made, in memory. -/
structure NowM (W : World) (q : Nat) (cur : Option (List Nat)) (a : Option Addr) (n c : Nat) : Prop where
  box : W.heap[q]? = some (.cells #[.int .i64 0, .int .i64 0, .string ⟨#[]⟩, .slice a n c, .int .i64 0, .int .i64 0, .int .i64 0, .bool cur.isSome, .slice none 0 0] ResT (0, 0))
  val : BytesV W (a, n, c) (cur.getD [])
  own : W.ownsRow (q + 1) 5 1 (.slice a n c) n ((cur.getD []).map bv)
theorem NowM.lt {W : World} {q : Nat} {cur : Option (List Nat)} {a : Option Addr} {n c : Nat} (h : NowM W q cur a n c) : q < W.heap.size := (Array.getElem?_eq_some_iff.1 h.box).1
theorem NowM.below {W W' : World} {q : Nat} {cur : Option (List Nat)} {a : Option Addr} {n c : Nat} (h : NowM W q cur a n c) (hb : Below W.heap.size W W') : NowM W' q cur a n c := ⟨(hb.block q h.lt).trans h.box, h.val.below hb, own_belowJ h.own hb⟩
theorem NowM.start (w : World) (o : Obj) : NowM ((w.alloc o).alloc (.cells #[.int .i64 0, .int .i64 0, .string ⟨#[]⟩, .slice none 0 0, .int .i64 0, .int .i64 0, .int .i64 0, .bool false, .slice none 0 0] ResT)) (w.heap.size + 1) none none 0 0 :=
  ⟨(two_boxes w o _).2.1, bytesV_nilJ _, World.ownsRow_nil _ _ _ _⟩
/-- the acts so far, and the box of what stands. -/
structure SerI (W : World) (B q : Nat) (ds : Nat → Int) (vs : Nat → List Nat) (k : Nat) (av : Option Addr) (cv : Nat) (us : List YA) (a : Option Addr) (n c : Nat) : Prop where
  own : OwA W B av cv us
  len : us.length = k
  val : us.map Prod.fst = (serTo ds vs k).1
  far : ∀ u ∈ us, HiB (q + 1) u.2.1 ∧ HiB (q + 1) u.2.2.1 ∧ HiB (q + 1) u.2.2.2
  now : NowM W q (serTo ds vs k).2 a n c
theorem SerI.below {W W' : World} {B q : Nat} {ds : Nat → Int} {vs : Nat → List Nat} {k : Nat} {av : Option Addr} {cv : Nat} {us : List YA} {a : Option Addr} {n c : Nat} (h : SerI W B q ds vs k av cv us a n c) (hb : Below W.heap.size W W') : SerI W' B q ds vs k av cv us a n c := ⟨h.own.below hb, h.len, h.val, h.far, h.now.below hb⟩
theorem bits255 (z : Int) : ∃ m : Nat, m < 256 ∧ bits .and .i64 z 255 = (m : Int) := by
  refine ⟨(BitVec.ofInt 64 z &&& BitVec.ofInt 64 255).toNat, ?_, ?_⟩
  · rw [BitVec.toNat_and]
    have : (BitVec.ofInt 64 255).toNat = 255 := rfl
    rw [this]
    have := Nat.and_le_right (n := (BitVec.ofInt 64 z).toNat) (m := 255)
    omega
  · show IntKind.i64.wrap ((BitVec.ofInt 64 z &&& BitVec.ofInt 64 255).toNat : Int) = _
    refine wrap_i64_id _ (by omega) ?_
    rw [BitVec.toNat_and]
    have : (BitVec.ofInt 64 255).toNat = 255 := rfl
    rw [this]
    have := Nat.and_le_right (n := (BitVec.ofInt 64 z).toNat) (m := 255)
    omega
def dOf (z : Int) : Int := wrap64 (1 + (bits .and .i64 z 255).tmod 3)
theorem dOf_cases (z : Int) : dOf z = 1 ∨ dOf z = 2 ∨ dOf z = 3 := by
  obtain ⟨m, hm, e⟩ := bits255 z
  unfold dOf
  rw [e, Int.tmod_eq_emod_of_nonneg (by omega)]
  unfold wrap64
  omega
def endA (ot : List Nat) : ActR := ⟨0, 2, 100, 101, kK, [], 0, 0, ⟨#[]⟩, ot, 0, 0, 0, true, []⟩
theorem ser_shape (ds : Nat → Int) (vs : Nat → List Nat) (hd : ∀ k, ds k = 1 ∨ ds k = 2 ∨ ds k = 3) (k : Nat) (cur : Option (List Nat)) :
    (serA k (ds k) (vs k) cur).st = 3 * (k : Int) ∧ (serA k (ds k) (vs k) cur).en = 3 * (k : Int) + 2 ∧ (serA k (ds k) (vs k) cur).key = kK ∧ (serA k (ds k) (vs k) cur).code = 0 ∧ keyedB (serA k (ds k) (vs k) cur) = true ∧ ((serA k (ds k) (vs k) cur).d = 2 → tellsV cur (serA k (ds k) (vs k) cur) = true) := by
  unfold serA
  rcases hd k with h | h | h
  · rw [h]; exact ⟨rfl, rfl, rfl, rfl, rfl, fun h => by simp at h⟩
  · rw [h]
    refine ⟨rfl, rfl, rfl, rfl, rfl, fun _ => ?_⟩
    cases cur with
    | none => rfl
    | some v => simp [tellsV]
  · rw [h]; exact ⟨rfl, rfl, rfl, rfl, rfl, fun h => by simp at h⟩
theorem ser_all (ds : Nat → Int) (vs : Nat → List Nat) (hd : ∀ k, ds k = 1 ∨ ds k = 2 ∨ ds k = 3) : ∀ k, (∀ a ∈ (serTo ds vs k).1, 0 ≤ a.st ∧ a.en = a.st + 2 ∧ a.en < 3 * (k : Int) ∧ a.key = kK ∧ a.code = 0 ∧ keyedB a = true) ∧ (serTo ds vs k).1.Pairwise (fun a b => beforeB a b = true) ∧ Seq none (serTo ds vs k).1 ∧ curEnd none (serTo ds vs k).1 = (serTo ds vs k).2
  | 0 => ⟨fun a ha => (nomatch ha), List.Pairwise.nil, trivial, rfl⟩
  | k + 1 => by
    obtain ⟨h1, h2, h3, h4⟩ := ser_all ds vs hd k
    obtain ⟨s1, s2, s3, s4, s5, s6⟩ := ser_shape ds vs hd k (serTo ds vs k).2
    have e : (serTo ds vs (k + 1)).1 = (serTo ds vs k).1 ++ [serA k (ds k) (vs k) (serTo ds vs k).2] := rfl
    have e2 : (serTo ds vs (k + 1)).2 = nextV (serTo ds vs k).2 (serA k (ds k) (vs k) (serTo ds vs k).2) := rfl
    rw [e, e2]
    refine ⟨fun a ha => ?_, ?_, ?_, ?_⟩
    · rcases List.mem_append.1 ha with ha | ha
      · obtain ⟨a1, a2, a3, a4⟩ := h1 a ha
        exact ⟨a1, a2, by omega, a4⟩
      · rw [List.mem_singleton] at ha
        subst ha
        exact ⟨by omega, by omega, by omega, s3, s4, s5⟩
    · rw [List.pairwise_append]
      refine ⟨h2, List.pairwise_singleton _ _, fun a ha b hb => ?_⟩
      rw [List.mem_singleton] at hb
      subst hb
      obtain ⟨a1, a2, a3, a4⟩ := h1 a ha
      simp only [beforeB, Bool.and_eq_true, decide_eq_true_eq]
      omega
    · rw [seq_snoc]
      refine ⟨h3, fun b hb => ?_, fun hd2 => by rw [h4]; exact s6 hd2⟩
      obtain ⟨a1, a2, a3, a4⟩ := h1 b hb
      simp only [beforeB, Bool.and_eq_false_iff, decide_eq_false_iff_not]
      omega
    · rw [curEnd_snoc, h4]
theorem row_all {xs : List ActR} (h : ∀ a ∈ xs, a.key = kK ∧ countsB a = true) : rowOf xs kK = xs := by
  unfold rowOf
  rw [List.filter_eq_self]
  intro a ha
  simp [h a ha]
theorem whole_ser {xs : List ActR} (hk : ∀ a ∈ xs, a.key = kK ∧ keyedB a = true) (hsu : ∀ a ∈ xs, sureB a = true) (hst : ∀ a ∈ xs, stepBad a = false) (hl : xs.length ≤ 12) (hp : xs.Pairwise (fun a b => beforeB a b = true)) : wholeR xs = true ↔ Seq none xs := by
  have hc : ∀ a ∈ xs, a.key = kK ∧ countsB a = true := fun a ha => ⟨(hk a ha).1, by unfold countsB; rw [(hk a ha).2, hsu a ha]; simp⟩
  have hr := row_all hc
  have hch : checkR xs = 0 := by
    rw [check_zero]
    refine ⟨hst, fun k => ?_⟩
    by_cases e : k = kK
    · rw [e, hr]; exact hl
    · rw [row_none (fun hm => by obtain ⟨a, ha, -, h2⟩ := mem_keyList.1 hm; exact e (h2 ▸ (hk a ha).1))]; simp
  rw [whole_iff, ← lin_serial hsu hp]
  constructor
  · rintro ⟨_, h2⟩
    cases xs with
    | nil => exact ⟨[], [], List.Perm.refl _, trivial, fun r hr => nomatch hr⟩
    | cons a xs =>
      have := h2 kK (mem_keyList.2 ⟨a, by simp, (hk a (by simp)).2, (hk a (by simp)).1⟩)
      rwa [hr] at this
  · intro hlin
    refine ⟨hch, fun k hkk => ?_⟩
    obtain ⟨a, ha, -, h2⟩ := mem_keyList.1 hkk
    rw [← h2, (hk a ha).1, hr]
    exact hlin
theorem ser_whole (ds : Nat → Int) (vs : Nat → List Nat) (hd : ∀ k, ds k = 1 ∨ ds k = 2 ∨ ds k = 3) (k : Nat) (hk : k ≤ 11) : wholeR (serTo ds vs k).1 = true := by
  obtain ⟨h1, h2, h3, h4⟩ := ser_all ds vs hd k
  refine (whole_ser (fun a ha => ⟨(h1 a ha).2.2.2.1, (h1 a ha).2.2.2.2.2⟩) (fun a ha => ?_) (fun a ha => ?_) (by rw [serTo_len]; omega) h2).2 h3
  · obtain ⟨a1, a2, a3, a4, a5, a6⟩ := h1 a ha
    simp only [sureB, Bool.and_eq_true, decide_eq_true_eq]
    omega
  · obtain ⟨a1, a2, a3, a4, a5, a6⟩ := h1 a ha
    simp only [stepBad, Bool.or_eq_false_iff, Bool.and_eq_false_iff, decide_eq_false_iff_not]
    omega
theorem ser_end (ds : Nat → Int) (vs : Nat → List Nat) (hd : ∀ k, ds k = 1 ∨ ds k = 2 ∨ ds k = 3) (k : Nat) (hk : k ≤ 11) (ot : List Nat) : wholeR ((serTo ds vs k).1 ++ [endA ot]) = ((serTo ds vs k).2.isSome && decide ((serTo ds vs k).2.getD [] = ot)) := by
  obtain ⟨h1, h2, h3, h4⟩ := ser_all ds vs hd k
  have hall : ∀ a ∈ (serTo ds vs k).1 ++ [endA ot], 0 ≤ a.st ∧ a.st ≤ a.en ∧ a.key = kK ∧ a.code = 0 ∧ keyedB a = true := fun a ha => by
    rcases List.mem_append.1 ha with ha | ha
    · obtain ⟨a1, a2, a3, a4, a5, a6⟩ := h1 a ha
      exact ⟨a1, by omega, a4, a5, a6⟩
    · rw [List.mem_singleton] at ha
      subst ha
      exact ⟨by show (0 : Int) ≤ 100; decide, by show (100 : Int) ≤ 101; decide, rfl, rfl, rfl⟩
  have hp : ((serTo ds vs k).1 ++ [endA ot]).Pairwise (fun a b => beforeB a b = true) := by
    rw [List.pairwise_append]
    refine ⟨h2, List.pairwise_singleton _ _, fun a ha b hb => ?_⟩
    rw [List.mem_singleton] at hb
    subst hb
    obtain ⟨a1, a2, a3, a4⟩ := h1 a ha
    simp only [beforeB, Bool.and_eq_true, decide_eq_true_eq]
    have : (endA ot).st = 100 := rfl
    omega
  have hw := whole_ser (fun a ha => ⟨(hall a ha).2.2.1, (hall a ha).2.2.2.2⟩) (fun a ha => by
    obtain ⟨a1, a2, a3, a4, a5⟩ := hall a ha
    simp only [sureB, Bool.and_eq_true, decide_eq_true_eq]
    omega) (fun a ha => by
    obtain ⟨a1, a2, a3, a4, a5⟩ := hall a ha
    simp only [stepBad, Bool.or_eq_false_iff, Bool.and_eq_false_iff, decide_eq_false_iff_not]
    omega) (by rw [List.length_append, serTo_len]; simp; omega) hp
  rw [Bool.eq_iff_iff, hw, seq_snoc, h4]
  have e : (endA ot).d = 2 := rfl
  have hb : ∀ b ∈ (serTo ds vs k).1, beforeB (endA ot) b = false := fun b hb => by
    obtain ⟨a1, a2, a3, a4⟩ := h1 b hb
    simp only [beforeB, Bool.and_eq_false_iff, decide_eq_false_iff_not]
    have : (endA ot).en = 101 := rfl
    omega
  constructor
  · rintro ⟨_, _, h5⟩
    have := h5 e
    cases hc : (serTo ds vs k).2 with
    | none => rw [hc] at this; simp [tellsV, endA] at this
    | some v =>
      rw [hc] at this
      simp only [tellsV, endA, Bool.true_and] at this
      have h6 : ot = v := of_decide_eq_true this
      rw [← h6]
      simp
  · intro h5
    refine ⟨h3, hb, fun _ => ?_⟩
    cases hc : (serTo ds vs k).2 with
    | none => rw [hc] at h5; simp at h5
    | some v => rw [hc] at h5; simp at h5; simp [tellsV, endA, h5.symm]
theorem own_ne_boxJ {w : World} {base : Nat} {T T2 : TypeId} {s n : Nat} {v : Value} {xs : List Value} (h : w.ownsRow base T s v n xs) {g : Nat} {cs : Array Value} (hb : w.heap[g]? = some (.cells cs T2 (0, 0))) (hne : T ≠ T2) : v.ownBlock ≠ some g := by
  rcases h.2 with ⟨rfl, -⟩ | ⟨g', cap, cur, rfl, -, hg, -⟩
  · simp [Value.ownBlock]
  · intro e
    have e2 : g' = g := by simpa [Value.ownBlock] using e
    subst e2
    rw [hg] at hb
    injection hb with hb
    injection hb with h1 h2
    exact hne h2
/-- no bytes lie in a box whose cells are no bytes. -/
def noU8 (cs : Array Value) : Bool := cs.all fun v => match v with | .int .u8 _ => false | _ => true
theorem bytes_ne_box {w : World} {x : SH3} {l : List Nat} (h : BytesV w x l) {g : Nat} {cs : Array Value} {T : TypeId} (hb : w.heap[g]? = some (.cells cs T (0, 0))) (hc : noU8 cs = true) (h0 : 0 < x.2.1) (p : Addr) (hp : x.1 = some p) (e : p.block = g) : False := by
  obtain ⟨b, o, e1, hcl⟩ := h.row.2 h0
  rw [e1] at hp
  injection hp with hp
  subst hp
  simp only at e
  subst e
  have h1 := hcl 0 h0
  have hl := h.length
  rw [List.getElem?_map, List.getElem?_eq_getElem (by omega)] at h1
  simp only [World.cell?, hb] at h1
  simp at h1
  have h2 := (Array.all_eq_true.1 hc) o
  obtain ⟨hlt, hv⟩ := Array.getElem?_eq_some_iff.1 h1
  have h3 := h2 hlt
  rw [hv] at h3
  cases h3
/-- what a round leaves, ahead of its append. -/
structure SerS (wr W : World) (B q p : Nat) (av : Option Addr) (cv : Nat) (us : List YA) (cur' : Option (List Nat)) (a : Option Addr) (n c : Nat) (A : ActR) (x y z : SH3) : Prop where
  own : OwA W B av cv us
  now : NowM W q cur' a n c
  box : W.heap[p]? = some (.cells (ActC A x y z) ActT (0, 0))
  s : ActS W A x y z
  hi : HiB wr.heap.size x ∧ HiB wr.heap.size y ∧ HiB wr.heap.size z
  low : Below q wr W
  big : wr.heap.size ≤ W.heap.size
theorem OwA.otherQ {W W' : World} {B q : Nat} {av : Option Addr} {cv : Nat} {us : List YA} (h : OwA W B av cv us) (hf : ∀ u ∈ us, HiB (q + 1) u.2.1 ∧ HiB (q + 1) u.2.2.1 ∧ HiB (q + 1) u.2.2.2) {cs : Array Value} (hb : W.heap[q]? = some (.cells cs ResT (0, 0))) (hg : W.grownBy W' (some q)) : OwA W' B av cv us := by
  have hg2 : W.grownBy W' (ofB (some ⟨q, 0, none⟩)) := hg
  refine ⟨h.own.kept hg (.inr (own_ne_boxJ h.own hb (by decide))), fun u hu => ⟨?_, (h.dig u hu).2⟩, h.hi⟩
  obtain ⟨f1, f2, f3⟩ := hf u hu
  have hlt : ∀ g, ofB (some ⟨q, 0, none⟩) = some g → g < q + 1 := fun g e => by
    have : q = g := by simpa [ofB, Value.ownBlock] using e
    omega
  exact (h.dig u hu).1.otherJ hg2 (far_hi f1 hlt) (far_hi f2 hlt) (far_hi f3 hlt)
theorem SerI.after {wr W w9 : World} {B q p : Nat} {ds : Nat → Int} {vs : Nat → List Nat} {k : Nat} {av : Option Addr} {cv : Nat} {us : List YA} {a0 : Option Addr} {n0 c0 : Nat} (h : SerI wr B q ds vs k av cv us a0 n0 c0) {a : Option Addr} {n c : Nat} {x y z : SH3} {A : ActR} (hA : A = serA k (ds k) (vs k) (serTo ds vs k).2)
    (hS : SerS wr W B q p av cv us (nextV (serTo ds vs k).2 A) a n c A x y z) {g9 c9 : Nat} (hO : OwA w9 B (some ⟨g9, 0, none⟩) c9 (us ++ [(A, x, y, z)])) (hg : W.grownBy w9 (ofB av)) : SerI w9 B q ds vs (k + 1) (some ⟨g9, 0, none⟩) c9 (us ++ [(A, x, y, z)]) a n c := by
  have hqr := h.now.lt
  refine ⟨hO, by rw [List.length_append, h.len]; rfl, by rw [List.map_append, h.val, hA]; rfl, fun u hu => ?_, ?_⟩
  · rcases List.mem_append.1 hu with hu | hu
    · exact h.far u hu
    · rw [List.mem_singleton] at hu
      subst hu
      exact ⟨hS.hi.1.mono hqr, hS.hi.2.1.mono hqr, hS.hi.2.2.mono hqr⟩
  · have e : (serTo ds vs (k + 1)).2 = nextV (serTo ds vs k).2 A := by rw [hA]; rfl
    rw [e]
    have hg3 : W.grownBy w9 (Value.slice av us.length cv).ownBlock := by rw [ofB_eq]; exact hg
    have hne := own_ne hS.now.own hS.own.own (by decide)
    have ho := hS.now.own.kept hg3 hne
    have hne2 := own_ne_boxJ hS.own.own hS.now.box (by decide)
    refine ⟨(hg3.block q hS.now.lt (fun e => hne2 e.symm)).trans hS.now.box, ?_, ho⟩
    exact bytesV_of_owns ho hS.now.val.bytes hS.now.val.small
theorem OwA.low0 {w : World} {B : Nat} {a : Option Addr} {c : Nat} {ys : List YA} (h : OwA w B a c ys) : OwA w 0 a c ys := by
  refine ⟨?_, h.dig, fun x hx => ⟨fun _ _ _ => Nat.zero_le _, fun _ _ _ => Nat.zero_le _, fun _ _ _ => Nat.zero_le _⟩⟩
  obtain ⟨h1, h2⟩ := h.own
  refine ⟨h1, ?_⟩
  rcases h2 with h2 | ⟨g, cap, cur, h3, h4, h5⟩
  · exact .inl h2
  · exact .inr ⟨g, cap, cur, h3, Nat.zero_le _, h5⟩
/-- one more act, as the acts that lie there. -/
theorem OwA.snocV {wm w' : World} {a : Option Addr} {c : Nat} {ys : List YA} (h : OwA wm 0 a c ys) {A : ActR} {x y z : SH3} (hs : ActS wm A x y z) (f1 : Far a x) (f2 : Far a y) (f3 : Far a z) {g cap k : Nat} {xs : List ActR} (hk : ys.length = k) (hm : ys.map Prod.fst = xs)
    (hE : w'.ownsRow 0 ActT 15 (.slice (some ⟨g, 0, none⟩) (k + 1) cap) (k + 1) (acells ys ++ [.int .i64 A.cl, .int .i64 A.d, .int .i64 A.st, .int .i64 A.en, .string A.key, .slice x.1 x.2.1 x.2.2, .int .i64 A.rop, .int .i64 A.rdo, .string A.rkey, .slice y.1 y.2.1 y.2.2, .int .i64 A.tn, .int .i64 A.tc, .int .i64 A.code, .bool A.found, .slice z.1 z.2.1 z.2.2])) (hg : wm.grownBy w' (Value.slice a k c).ownBlock) (hl : (Value.slice a k c).ownBlock = some g ∨ g = wm.heap.size) : ActsV w' (some ⟨g, 0, none⟩) (k + 1) (xs ++ [A]) ∧ k + 1 ≤ cap := by
  subst hk hm
  have h1 := h.snoc hs f1 f2 f3 ⟨fun _ _ _ => Nat.zero_le _, fun _ _ _ => Nat.zero_le _, fun _ _ _ => Nat.zero_le _⟩ hE hg hl
  have h2 := h1.acts
  rw [List.length_append, List.map_append] at h2
  refine ⟨h2, ?_⟩
  rcases hE.2 with ⟨e1, e2⟩ | ⟨g, cap, cu, e, -, -, hnc, -⟩
  · omega
  · injection e with e1 e2 e3; omega
end Go.Proofs.Ytnefcbcioemfiaa
