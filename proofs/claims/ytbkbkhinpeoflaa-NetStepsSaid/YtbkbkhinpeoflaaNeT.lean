/-
  net: what both nets' steps leave alone: NetSteps' state.
-/
import Derived.Test.YtbkbkhinpeoflaaNeS
import Derived.Test.YtbkbkhinpeoflaaNeN
namespace Go.Proofs.Ytbkbkhinpeoflaa
open Go.RowKit

/-- every block that was there and has none of these types is left as it was. -/
def KeepsT (S : List TypeId) (w w' : World) : Prop := ∀ (b : Nat) (cs : Array Value) (T : TypeId) (fr : Nat × Nat), T ∉ S → w.heap[b]? = some (Obj.cells cs T fr) → w'.heap[b]? = some (Obj.cells cs T fr)
theorem KeepsT.refl (S : List TypeId) (w : World) : KeepsT S w w := fun _ _ _ _ _ h => h
theorem KeepsT.trans {S : List TypeId} {a b c : World} (h : KeepsT S a b) (k : KeepsT S b c) : KeepsT S a c := fun i cs T fr h1 h2 => k i cs T fr h1 (h i cs T fr h1 h2)
theorem KeepsT.mono {S S' : List TypeId} {a b : World} (h : KeepsT S a b) (hs : ∀ x, x ∈ S → x ∈ S') : KeepsT S' a b := fun i cs T fr h1 h2 => h i cs T fr (fun e => h1 (hs T e)) h2
theorem keepsT_below {S : List TypeId} {w w' : World} (h : Below w.heap.size w w') : KeepsT S w w' := fun b _ _ _ _ hb => (h.block b (Array.getElem?_eq_some_iff.1 hb).1).trans hb
theorem Keeps.T {w w' : World} (h : Keeps w w') : KeepsT [NT, DT] w w' := fun b cs T fr h1 h2 => h b cs T fr (fun e => h1 (by simp [e])) (fun e => h1 (by simp [e])) h2
theorem KeepsT.own {S : List TypeId} {w w' : World} (hk : KeepsT S w w') {B : Nat} {T : TypeId} {s n : Nat} {v : Value} {xs : List Value} (h : w.ownsRow B T s v n xs) (h1 : T ∉ S) : w'.ownsRow B T s v n xs :=
  own_kept h fun b e => by
    obtain ⟨cs, hcs⟩ := own_block_type h e
    exact (hk b cs T _ h1 hcs).trans hcs.symm
theorem KeepsT.owns {S : List TypeId} {w w' : World} (hk : KeepsT S w w') {B : Nat} {T : TypeId} {hs : List (Option Addr × Nat × Nat)} {ls : List (List Nat)} (h : OwnsRows w B T hs ls) (h1 : T ∉ S) : OwnsRows w' B T hs ls :=
  ⟨h.1, fun i x l a b => ⟨(h.2 i x l a b).1, hk.own (h.2 i x l a b).2 h1⟩⟩
theorem keepsT_set3 {w : World} {g : Nat} {z0 z1 z2 : Value} {T : TypeId} (h : w.heap[g]? = some (.cells #[z0, z1, z2] T (0, 0))) (v0 v1 v2 : Value) : KeepsT [T] w (set3 w g v0 v1 v2) := by
  intro b cs T' fr h1 h2
  have hne : b ≠ g := fun e => by
    subst e
    rw [h] at h2
    injection h2 with h2
    injection h2 with _ h2 _
    exact h1 (by simp [h2])
  exact set_other (set_other (set_other h2 hne v0) hne v1) hne v2
theorem NetIs.keepsT {w0 w w' : World} {g : Nat} {sent : Int} {ts : List Int} {bs : List (List Nat)} (h : NetIs w0 w g sent ts bs) {S : List TypeId} (hk : KeepsT S w w') (hb : Below w0.heap.size w0 w') (h1 : NT ∉ S) (h2 : DT ∉ S) (h3 : 5 ∉ S) : NetIs w0 w' g sent ts bs := by
  obtain ⟨v, xs, e, hN, hB, hg⟩ := h
  refine ⟨v, xs, e, hN.kept ((hk g _ _ _ h1 hN.box).trans hN.box.symm) (fun b e => ?_) (fun z hz b e => ?_), hb, hg⟩
  · obtain ⟨cs, hcs⟩ := own_block_type hN.row e
    exact (hk b cs _ _ h2 hcs).trans hcs.symm
  · obtain ⟨i, hi⟩ := List.mem_iff_getElem?.1 hz
    have hlt := (List.getElem?_eq_some_iff.1 hi).1
    have hl := hN.own.1
    rw [List.length_map] at hl
    have ho := (hN.own.2 i z.2 _ (by rw [List.getElem?_map, hi]; rfl) (List.getElem?_eq_getElem (by omega))).2
    obtain ⟨cs, hcs⟩ := own_block_type ho e
    exact (hk b cs _ _ h3 hcs).trans hcs.symm

/-- a net none of whose blocks is this one. -/
def NetOff (w0 w : World) (g : Nat) (sent : Int) (ts : List Int) (bs : List (List Nat)) (q : Option Nat) : Prop :=
  ∃ v xs, tos xs = ts ∧ NetV w g g v sent xs bs ∧ Below w0.heap.size w0 w ∧ w0.heap.size ≤ g ∧ q ≠ some g ∧ (∀ b, v.ownBlock = some b → q ≠ some b) ∧ ∀ x ∈ xs, ∀ b, (SV x.2).ownBlock = some b → q ≠ some b
theorem NetV.xlt {w : World} {g base : Nat} {v : Value} {sent : Int} {xs : List (Int × Hd)} {bs : List (List Nat)} (hN : NetV w g base v sent xs bs) {z : Int × Hd} (hz : z ∈ xs) {b : Nat} (e : (SV z.2).ownBlock = some b) : b < w.heap.size := by
  obtain ⟨i, hi⟩ := List.mem_iff_getElem?.1 hz
  have hlt := (List.getElem?_eq_some_iff.1 hi).1
  have hl := hN.own.1
  rw [List.length_map] at hl
  exact ((hN.own.2 i z.2 _ (by rw [List.getElem?_map, hi]; rfl) (List.getElem?_eq_getElem (by omega))).2.lt b e).2
theorem NetIs.off {w0 w w2 : World} {g : Nat} {sent : Int} {ts : List Int} {bs : List (List Nat)} (h : NetIs w0 w g sent ts bs) (hb : Below w.heap.size w w2) {q : Option Nat} (hq : ∀ b, q = some b → w.heap.size ≤ b) : NetOff w0 w2 g sent ts bs q := by
  obtain ⟨v, xs, e, hN, hB, hg⟩ := h
  exact ⟨v, xs, e, hN.below hb, hB.trans (hb.mono hB.size), hg, fun e => by have := hq g e; have := hN.lt; omega, fun b e1 e2 => by have := hq b e2; have := (hN.row.lt b e1).2; omega, fun x hx b e1 e2 => by have := hq b e2; have := hN.xlt hx e1; omega⟩
theorem NetOff.below {w0 w w' : World} {g : Nat} {sent : Int} {ts : List Int} {bs : List (List Nat)} {q : Option Nat} (h : NetOff w0 w g sent ts bs q) (hb : Below w.heap.size w w') : NetOff w0 w' g sent ts bs q := by
  obtain ⟨v, xs, e, hN, hB, hg, r⟩ := h
  exact ⟨v, xs, e, hN.below hb, hB.trans (hb.mono hB.size), hg, r⟩
theorem NetOff.grown {w0 w w' : World} {g : Nat} {sent : Int} {ts : List Int} {bs : List (List Nat)} {q : Option Nat} (h : NetOff w0 w g sent ts bs q) (hG : w.grownBy w' q) (hq : ∀ b, q = some b → w0.heap.size ≤ b) : NetIs w0 w' g sent ts bs := by
  obtain ⟨v, xs, e, hN, hB, hg, q1, q2, q3⟩ := h
  exact ⟨v, xs, e, hN.kept (hG.block g hN.lt (fun e => q1 e.symm)) (fun b e => hG.block b (hN.row.lt b e).2 (fun e2 => q2 b e e2.symm)) (fun z hz b e => hG.block b (hN.xlt hz e) (fun e2 => q3 z hz b e e2.symm)), below_grown hB hG hq, hg⟩
theorem is_sendO (w0 : World) (g : Nat) (sent : Int) (ts : List Int) (bs : List (List Nat)) (to : Int) (a : Option Addr) (n c : Nat) (l : List Nat) (w : World) (q : Option Nat) (h : NetOff w0 w g sent ts bs q) (hq : ∀ b, q = some b → b < w.heap.size) (hx : BytesV w (a, n, c) l) (hn : ts.length < 400) (h0 : 0 ≤ sent) (h1 : sent ≤ 1000000000) :
    Calls Try.prog 13 #[.pointer (some ⟨g, 0, none⟩), .int .i64 to, .slice a n c] w fun e w' => e = .returned (.bool true) ∧ NetOff w0 w' g (sent + 1) (ts ++ [to]) (bs ++ [l]) q ∧ Keeps w w' := by
  obtain ⟨v, xs, rfl, hN, hB, hg, q1, q2, q3⟩ := h
  have hlt := hN.lt
  rw [tos_len] at hn
  refine (send_any g g v sent xs bs to (a, n, c) l w hN hx hn (by omega) h0 h1).mono fun _ _ ⟨he, v', x', hN', hO', hF', hO2⟩ => ⟨he, ⟨v', _, ?_, hN', ?_, hg, q1, fun b e1 e2 => ?_, fun z hz b e1 e2 => ?_⟩, keeps_only hN hO'⟩
  · simp [tos]
  · exact hO'.below hB hB.size hg (fun b e => Nat.le_trans hg (hN.row.lt b e).1)
  · rcases hF' b e1 with k | k
    · exact q2 b k e2
    · have := hq b e2; omega
  · rcases List.mem_append.1 hz with hz | hz
    · exact q3 z hz b e1 e2
    · simp only [List.mem_singleton] at hz
      subst hz
      have := (hO2.lt b e1).1
      have := hq b e2
      omega
theorem is_send_fullO (w0 : World) (g : Nat) (sent : Int) (ts : List Int) (bs : List (List Nat)) (to : Int) (a : Option Addr) (n c : Nat) (w : World) (q : Option Nat) (h : NetOff w0 w g sent ts bs q) (hn : 400 ≤ ts.length) :
    Calls Try.prog 13 #[.pointer (some ⟨g, 0, none⟩), .int .i64 to, .slice a n c] w fun e w' => e = .returned (.bool false) ∧ NetOff w0 w' g sent ts bs q ∧ Keeps w w' := by
  have h' := h
  obtain ⟨v, xs, rfl, hN, hB, hg, -⟩ := h
  rw [tos_len] at hn
  exact (send_full g g v sent xs bs to (a, n, c) w hN hn).mono fun _ _ ⟨he, hb⟩ => ⟨he, h'.below hb, keeps_below hb⟩
theorem is_loseK (w0 : World) (g : Nat) (sent : Int) (ts : List Int) (bs : List (List Nat)) (i : Nat) (w : World) (h : NetIs w0 w g sent ts bs) (hn : ts.length ≤ 400) (hi : i < ts.length) :
    Calls Try.prog 18 #[.pointer (some ⟨g, 0, none⟩), .int .i64 (i : Nat)] w fun e w' => e = .returned (.bool true) ∧ NetIs w0 w' g sent (ts.eraseIdx i) (bs.eraseIdx i) ∧ Keeps w w' := by
  have hlen := h.len
  obtain ⟨v, xs, rfl, hN, hB, hg⟩ := h
  obtain ⟨a, n, c, hx⟩ := tos_at (List.getElem?_eq_getElem hi)
  rw [tos_len] at hn
  exact (lose_yes g g v sent xs bs i _ _ w hN hn hx (List.getElem?_eq_getElem (hlen ▸ hi))).mono fun _ _ ⟨he, hP⟩ => ⟨he, (is_pull hN hB hg hP).1, keeps_only hN hP.choose_spec.2.1⟩
theorem is_lose_noK (w0 : World) (g : Nat) (sent : Int) (ts : List Int) (bs : List (List Nat)) (i : Int) (w : World) (h : NetIs w0 w g sent ts bs) (hi : i < 0 ∨ (ts.length : Int) ≤ i) :
    Calls Try.prog 18 #[.pointer (some ⟨g, 0, none⟩), .int .i64 i] w fun e w' => e = .returned (.bool false) ∧ NetIs w0 w' g sent ts bs ∧ Keeps w w' := by
  have h' := h
  obtain ⟨v, xs, rfl, hN, hB, hg⟩ := h
  rw [tos_len] at hi
  exact (lose_no g g v sent xs bs i w hN hi).mono fun _ _ ⟨he, hb⟩ => ⟨he, h'.below hb, keeps_below hb⟩
theorem is_doubleK (w0 : World) (g : Nat) (sent : Int) (ts : List Int) (bs : List (List Nat)) (i : Nat) (t : Int) (l : List Nat) (w : World) (h : NetIs w0 w g sent ts bs) (ht : ts[i]? = some t) (hl : bs[i]? = some l) (hn : ts.length < 400) (h0 : 0 ≤ sent) (h1 : sent ≤ 1000000000) :
    Calls Try.prog 20 #[.pointer (some ⟨g, 0, none⟩), .int .i64 (i : Nat)] w fun e w' => e = .returned (.bool true) ∧ NetIs w0 w' g (sent + 1) (ts ++ [t]) (bs ++ [l]) ∧ Keeps w w' := by
  obtain ⟨v, xs, rfl, hN, hB, hg⟩ := h
  have hlt := hN.lt
  rw [tos_len] at hn
  obtain ⟨a, n, c, hx⟩ := tos_at ht
  refine (double_yes g g v sent xs bs i _ l w hN hx hl hn (by omega) h0 h1).mono fun _ _ ⟨he, v', x', hN', hO', hF', _⟩ => ⟨he, ⟨v', _, ?_, hN', ?_, hg⟩, keeps_only hN hO'⟩
  · simp [tos]
  · exact hO'.below hB hB.size hg (fun b e => Nat.le_trans hg (hN.row.lt b e).1)
theorem is_double_fullK (w0 : World) (g : Nat) (sent : Int) (ts : List Int) (bs : List (List Nat)) (i : Nat) (w : World) (h : NetIs w0 w g sent ts bs) (hi : i < ts.length) (hn : 400 ≤ ts.length) :
    Calls Try.prog 20 #[.pointer (some ⟨g, 0, none⟩), .int .i64 (i : Nat)] w fun e w' => e = .returned (.bool false) ∧ NetIs w0 w' g sent ts bs ∧ Keeps w w' := by
  have h' := h
  obtain ⟨v, xs, rfl, hN, hB, hg⟩ := h
  obtain ⟨a, n, c, hx⟩ := tos_at (List.getElem?_eq_getElem hi)
  rw [tos_len] at hn
  exact (double_full g g v sent xs bs i _ w hN hx hn).mono fun _ _ ⟨he, hb⟩ => ⟨he, h'.below hb, keeps_below hb⟩
theorem is_double_noK (w0 : World) (g : Nat) (sent : Int) (ts : List Int) (bs : List (List Nat)) (i : Int) (w : World) (h : NetIs w0 w g sent ts bs) (hi : i < 0 ∨ (ts.length : Int) ≤ i) :
    Calls Try.prog 20 #[.pointer (some ⟨g, 0, none⟩), .int .i64 i] w fun e w' => e = .returned (.bool false) ∧ NetIs w0 w' g sent ts bs ∧ Keeps w w' := by
  have h' := h
  obtain ⟨v, xs, rfl, hN, hB, hg⟩ := h
  rw [tos_len] at hi
  exact (double_no g g v sent xs bs i w hN hi).mono fun _ _ ⟨he, hb⟩ => ⟨he, h'.below hb, keeps_below hb⟩

/-- the reference's net, all its memory the call's own. -/
structure OwnR (w : World) (B : Nat) (aT : Option Addr) (cT : Nat) (aD : Option Addr) (cD n : Nat) (ts : List Int) (hs : List (Option Addr × Nat × Nat)) (bs : List (List Nat)) : Prop where
  t : w.ownsRow B 3 1 (.slice aT n cT) n (ts.map iv)
  d : w.ownsRow B 31 1 (.slice aD n cD) n (hs.map SV)
  o : OwnsRows w B 5 hs bs
  bytes : ∀ l ∈ bs, Bytes l ∧ l.length ≤ 140737488355328
  le : n ≤ 400
theorem OwnR.len {w : World} {B : Nat} {aT : Option Addr} {cT : Nat} {aD : Option Addr} {cD n : Nat} {ts : List Int} {hs : List (Option Addr × Nat × Nat)} {bs : List (List Nat)} (h : OwnR w B aT cT aD cD n ts hs bs) : ts.length = n := by have := h.t.1; simpa using this
theorem OwnR.row {w : World} {B : Nat} {aT : Option Addr} {cT : Nat} {aD : Option Addr} {cD n : Nat} {ts : List Int} {hs : List (Option Addr × Nat × Nat)} {bs : List (List Nat)} (h : OwnR w B aT cT aD cD n ts hs bs) : RowV w aD n (hs.map SV) := by
  obtain ⟨_, _, e, _, _, _, k⟩ := ownsRow_parts h.d
  cases e
  exact k
theorem OwnR.ref {w : World} {B : Nat} {aT : Option Addr} {cT : Nat} {aD : Option Addr} {cD n : Nat} {ts : List Int} {hs : List (Option Addr × Nat × Nat)} {bs : List (List Nat)} (h : OwnR w B aT cT aD cD n ts hs bs) : RefN w aT cT aD cD n ts bs := by
  have hle := h.le
  refine ⟨intsV_own h.t (by omega), ⟨hs, h.row, h.o.rowsV h.bytes⟩, ?_, ?_⟩
  · obtain ⟨_, _, e, _, k, _⟩ := ownsRow_parts h.d
    cases e
    exact k
  · intro ea
    obtain ⟨_, _, e, hc, _⟩ := ownsRow_parts h.d
    cases e
    rcases hc with ⟨_, _, k⟩ | ⟨gg, hgg, _⟩
    · exact k
    · rw [ea] at hgg; cases hgg
theorem OwnR.keepsT {w w' : World} {B : Nat} {aT : Option Addr} {cT : Nat} {aD : Option Addr} {cD n : Nat} {ts : List Int} {hs : List (Option Addr × Nat × Nat)} {bs : List (List Nat)} (h : OwnR w B aT cT aD cD n ts hs bs) {S : List TypeId} (hk : KeepsT S w w') (h1 : 3 ∉ S) (h2 : 31 ∉ S) (h3 : 5 ∉ S) : OwnR w' B aT cT aD cD n ts hs bs :=
  ⟨hk.own h.t h1, hk.own h.d h2, hk.owns h.o h3, h.bytes, h.le⟩
theorem OwnR.grown {w w' : World} {B : Nat} {aT : Option Addr} {cT : Nat} {aD : Option Addr} {cD n : Nat} {ts : List Int} {hs : List (Option Addr × Nat × Nat)} {bs : List (List Nat)} (h : OwnR w B aT cT aD cD n ts hs bs) {q : Option Nat} (hG : w.grownBy w' q) {U : Nat} (hq : ∀ b, q = some b → U ≤ b) (u1 : ∀ b, (Value.slice aT n cT).ownBlock = some b → b < U) (u2 : ∀ b, (Value.slice aD n cD).ownBlock = some b → b < U) (u3 : ∀ x ∈ hs, ∀ b, (SV x).ownBlock = some b → b < U) : OwnR w' B aT cT aD cD n ts hs bs := by
  refine ⟨own_kept h.t fun b e => hG.block b (h.t.lt b e).2 (fun e2 => by have := u1 b e; have := hq b e2.symm; omega), own_kept h.d fun b e => hG.block b (h.d.lt b e).2 (fun e2 => by have := u2 b e; have := hq b e2.symm; omega), ⟨h.o.1, fun i x l a b => ⟨(h.o.2 i x l a b).1, own_kept (h.o.2 i x l a b).2 fun c e => hG.block c ((h.o.2 i x l a b).2.lt c e).2 (fun e2 => by have := u3 x (List.mem_of_getElem? a) c e; have := hq c e2.symm; omega)⟩⟩, h.bytes, h.le⟩
theorem OwnR.bound {w : World} {B : Nat} {aT : Option Addr} {cT : Nat} {aD : Option Addr} {cD n : Nat} {ts : List Int} {hs : List (Option Addr × Nat × Nat)} {bs : List (List Nat)} (h : OwnR w B aT cT aD cD n ts hs bs) : (∀ b, (Value.slice aT n cT).ownBlock = some b → b < w.heap.size) ∧ (∀ b, (Value.slice aD n cD).ownBlock = some b → b < w.heap.size) ∧ (∀ x ∈ hs, ∀ b, (SV x).ownBlock = some b → b < w.heap.size) := by
  refine ⟨fun b e => (h.t.lt b e).2, fun b e => (h.d.lt b e).2, fun x hx b e => ?_⟩
  obtain ⟨i, hi⟩ := List.mem_iff_getElem?.1 hx
  have hlt := (List.getElem?_eq_some_iff.1 hi).1
  have hl := h.o.1
  exact ((h.o.2 i x _ hi (List.getElem?_eq_getElem (by omega))).2.lt b e).2
/-- both nets side by side. -/
def NSt (w0 w : World) (g gm k : Nat) : Prop :=
  ∃ (aT : Option Addr) (cT : Nat) (aD : Option Addr) (cD n : Nat) (ts : List Int) (hs : List (Option Addr × Nat × Nat)) (bs : List (List Nat)) (cnt : Nat), NetIs w0 w g (cnt : Int) ts bs ∧ OwnR w w0.heap.size aT cT aD cD n ts hs bs ∧
    w.heap[gm]? = some (.cells #[.slice aT n cT, .slice aD n cD, .int .i64 (cnt : Int)] RT (0, 0)) ∧ w0.heap.size ≤ gm ∧ cnt ≤ k
end Go.Proofs.Ytbkbkhinpeoflaa
