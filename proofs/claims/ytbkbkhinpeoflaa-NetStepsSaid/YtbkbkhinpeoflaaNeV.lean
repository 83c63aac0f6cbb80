/-
  net: NetSteps.
-/
import Derived.Test.YtbkbkhinpeoflaaNeU
import Derived.Deep.DeepCutAuto
import Derived.Deep.CutBlock
namespace Go.Proofs.Ytbkbkhinpeoflaa
open Go.RowKit

theorem keepsT_new {S : List TypeId} {w w' : World} {g : Nat} {z0 z1 z2 : Value} {T : TypeId} (h : w'.heap[g]? = some (.cells #[z0, z1, z2] T (0, 0))) (hT : T ∈ S) (hk : KeepsT S w w') (v0 v1 v2 : Value) : KeepsT S w (set3 w' g v0 v1 v2) :=
  hk.trans ((keepsT_set3 h v0 v1 v2).mono (fun x hx => by simp only [List.mem_singleton] at hx; subst hx; exact hT))
theorem ownR_nil (w : World) (B : Nat) : OwnR w B none 0 none 0 0 [] [] [] :=
  ⟨World.ownsRow_nil _ _ _ _, World.ownsRow_nil _ _ _ _, ⟨rfl, fun i x l h => by simp at h⟩, fun l h => (by cases h), by omega⟩
theorem nst_start {w0 w2 : World} {g : Nat} (hI : NetIs w0 w2 g 0 [] []) (hb : Below w0.heap.size w0 w2) : NSt w0 (w2.alloc (.cells #[.slice none 0 0, .slice none 0 0, .int .i64 0] RT)) g w2.heap.size 0 :=
  ⟨none, 0, none, 0, 0, [], [], [], 0, hI.below (below_alloc _ _), ownR_nil _ _, heap_alloc_new w2 _, hb.size, Nat.le_refl _⟩
theorem NSt.base {w0 w : World} {g gm k : Nat} (h : NSt w0 w g gm k) : Below w0.heap.size w0 w := by
  obtain ⟨_, _, _, _, _, _, _, _, _, hI, _⟩ := h
  exact hI.base


/-- what the reference's Send leaves, and what the net's Send then answers. -/
def SendsBoth (w0 wD : World) (g cnt : Nat) (ts : List Int) (bs : List (List Nat)) (rc : Int) (l : List Nat) (e : Ending) (w' : World) : Prop :=
  ∃ (aT : Option Addr) (cT : Nat) (aD : Option Addr) (cD n : Nat) (ts' : List Int) (hs' : List (Option Addr × Nat × Nat)) (bs' : List (List Nat)) (cnt' : Nat) (ok : Bool), e = .returned (.tuple #[.agg #[.slice aT n cT, .slice aD n cD, .int .i64 (cnt' : Int)], .bool ok]) ∧ OwnR w' w0.heap.size aT cT aD cD n ts' hs' bs' ∧ Below wD.heap.size wD w' ∧ cnt' ≤ cnt + 1 ∧
    ∀ (w2 : World) (q : Option Nat) (a : Option Addr) (m c : Nat), NetOff w0 w2 g (cnt : Int) ts bs q → (∀ b, q = some b → b < w2.heap.size) → BytesV w2 (a, m, c) l → Calls Try.prog 13 #[.pointer (some ⟨g, 0, none⟩), .int .i64 rc, .slice a m c] w2 fun e w3 => e = .returned (.bool ok) ∧ NetOff w0 w3 g (cnt' : Int) ts' bs' q ∧ Keeps w2 w3
theorem sends_both (w0 : World) (g cnt : Nat) (aT : Option Addr) (cT : Nat) (aD : Option Addr) (cD n : Nat) (ts : List Int) (hs : List (Option Addr × Nat × Nat)) (bs : List (List Nat)) (rc : Int) (ab : Option Addr) (nb cb : Nat) (l : List Nat) (w : World)
    (h : OwnR w w0.heap.size aT cT aD cD n ts hs bs) (hB : w0.heap.size ≤ w.heap.size) (hx : BytesV w (ab, nb, cb) l) (hc : cnt ≤ 1000) :
    Calls Try.prog 11 #[.agg #[.slice aT n cT, .slice aD n cD, .int .i64 (cnt : Int)], .int .i64 rc, .slice ab nb cb] w (SendsBoth w0 w g cnt ts bs rc l) := by
  have hlen := h.len
  by_cases hn : n < 400
  · exact (refSend_R w0.heap.size aT cT aD cD n ts hs bs cnt rc ab nb cb l w h hB hx hn (by omega) (by omega)).mono fun e w' ⟨a, b, c, d, x, he, hO, hb⟩ => ⟨a, b, c, d, n + 1, _, _, _, cnt + 1, true, by rw [he]; rfl, hO, hb, Nat.le_refl _, fun w2 q a m c k1 k2 k3 => is_sendO w0 g cnt ts bs rc a m c l w2 q k1 k2 k3 (by omega) (by omega) (by omega)⟩
  · exact (refSend_full aT cT aD cD n cnt rc ab nb cb w (by omega)).mono fun e w' ⟨he, hb⟩ => ⟨aT, cT, aD, cD, n, ts, hs, bs, cnt, false, he, h.keepsT (S := []) (keepsT_below hb) (by simp) (by simp) (by simp), hb, by omega, fun w2 q a m c k1 _ _ => is_send_fullO w0 g cnt ts bs rc a m c w2 q k1 (by omega)⟩
/-- the same of Lose and Double. -/
def StepsBoth (F : Nat) (w0 wD : World) (g cnt : Nat) (ts : List Int) (bs : List (List Nat)) (z : Int) (e : Ending) (w' : World) : Prop :=
  ∃ (aT : Option Addr) (cT : Nat) (aD : Option Addr) (cD n : Nat) (ts' : List Int) (hs' : List (Option Addr × Nat × Nat)) (bs' : List (List Nat)) (cnt' : Nat) (ok : Bool), e = .returned (.tuple #[.agg #[.slice aT n cT, .slice aD n cD, .int .i64 (cnt' : Int)], .bool ok]) ∧ OwnR w' w0.heap.size aT cT aD cD n ts' hs' bs' ∧ Below wD.heap.size wD w' ∧ cnt' ≤ cnt + 1 ∧
    ∀ (w2 : World), NetIs w0 w2 g (cnt : Int) ts bs → Calls Try.prog F #[.pointer (some ⟨g, 0, none⟩), .int .i64 z] w2 fun e w3 => e = .returned (.bool ok) ∧ NetIs w0 w3 g (cnt' : Int) ts' bs' ∧ Keeps w2 w3
theorem loses_both (w0 : World) (g cnt : Nat) (aT : Option Addr) (cT : Nat) (aD : Option Addr) (cD n : Nat) (ts : List Int) (hs : List (Option Addr × Nat × Nat)) (bs : List (List Nat)) (z : Int) (w : World)
    (h : OwnR w w0.heap.size aT cT aD cD n ts hs bs) (hB : w0.heap.size ≤ w.heap.size) :
    Calls Try.prog 17 #[.agg #[.slice aT n cT, .slice aD n cD, .int .i64 (cnt : Int)], .int .i64 z] w (StepsBoth 18 w0 w g cnt ts bs z) := by
  have hlen := h.len
  have hle := h.le
  by_cases hz : z < 0 ∨ (n : Int) ≤ z
  · exact (refLose_no aT cT aD cD n cnt z w hz).mono fun e w' ⟨he, hb⟩ => ⟨aT, cT, aD, cD, n, ts, hs, bs, cnt, false, he, h.keepsT (S := []) (keepsT_below hb) (by simp) (by simp) (by simp), hb, by omega, fun w2 k1 => is_lose_noK w0 g cnt ts bs z w2 k1 (by rw [hlen]; exact hz)⟩
  · obtain ⟨j, rfl⟩ := Int.eq_ofNat_of_zero_le (show 0 ≤ z by omega)
    exact (refLose_R w0.heap.size aT cT aD cD n (n - 1) ts hs bs cnt j w h hB (by omega) (by omega)).mono fun e w' ⟨a, b, c, d, he, hO, hb⟩ => ⟨a, b, c, d, n - 1, _, _, _, cnt, true, he, hO, hb, by omega, fun w2 k1 => is_loseK w0 g cnt ts bs j w2 k1 (by omega) (by omega)⟩
theorem doubles_both (w0 : World) (g cnt : Nat) (aT : Option Addr) (cT : Nat) (aD : Option Addr) (cD n : Nat) (ts : List Int) (hs : List (Option Addr × Nat × Nat)) (bs : List (List Nat)) (z : Int) (w : World)
    (h : OwnR w w0.heap.size aT cT aD cD n ts hs bs) (hB : w0.heap.size ≤ w.heap.size) (hc : cnt ≤ 1000) :
    Calls Try.prog 19 #[.agg #[.slice aT n cT, .slice aD n cD, .int .i64 (cnt : Int)], .int .i64 z] w (StepsBoth 20 w0 w g cnt ts bs z) := by
  have hlen := h.len
  have hle := h.le
  have hbl : bs.length = n := by have := h.o.1; have := h.row.1; simp at this; omega
  by_cases hz : z < 0 ∨ (n : Int) ≤ z
  · exact (refDouble_no aT cT aD cD n cnt z w hz).mono fun e w' ⟨he, hb⟩ => ⟨aT, cT, aD, cD, n, ts, hs, bs, cnt, false, he, h.keepsT (S := []) (keepsT_below hb) (by simp) (by simp) (by simp), hb, by omega, fun w2 k1 => is_double_noK w0 g cnt ts bs z w2 k1 (by rw [hlen]; exact hz)⟩
  · obtain ⟨j, rfl⟩ := Int.eq_ofNat_of_zero_le (show 0 ≤ z by omega)
    by_cases hn : n < 400
    · exact (refDouble_R w0.heap.size aT cT aD cD n ts hs bs cnt j _ _ w h hB (List.getElem?_eq_getElem (by omega)) (List.getElem?_eq_getElem (by omega)) hn (by omega) (by omega)).mono fun e w' ⟨a, b, c, d, x, he, hO, hb⟩ => ⟨a, b, c, d, n + 1, _, _, _, cnt + 1, true, by rw [he]; rfl, hO, hb, Nat.le_refl _, fun w2 k1 => is_doubleK w0 g cnt ts bs j _ _ w2 k1 (List.getElem?_eq_getElem (by omega)) (List.getElem?_eq_getElem (by omega)) (by omega) (by omega) (by omega)⟩
    · exact (refDouble_full aT cT aD cD n ts bs cnt j _ w hs h.row h.ref (List.getElem?_eq_getElem (by omega)) (by omega)).mono fun e w' ⟨he, hb⟩ => ⟨aT, cT, aD, cD, n, ts, hs, bs, cnt, false, he, h.keepsT (S := []) (keepsT_below hb) (by simp) (by simp) (by simp), hb, by omega, fun w2 k1 => is_double_fullK w0 g cnt ts bs j w2 k1 (by omega) (by omega)⟩
/-- the same of Take. -/
def TakesBoth (w0 wD : World) (g cnt : Nat) (ts : List Int) (bs : List (List Nat)) (z : Int) (e : Ending) (w' : World) : Prop :=
  ∃ (aT : Option Addr) (cT : Nat) (aD : Option Addr) (cD n : Nat) (ts' : List Int) (hs' : List (Option Addr × Nat × Nat)) (bs' : List (List Nat)) (ok : Bool) (t : Int) (ab : Option Addr) (nb cb : Nat) (lb : List Nat), e = .returned (.tuple #[.agg #[.slice aT n cT, .slice aD n cD, .int .i64 (cnt : Int)], .int .i64 t, .slice ab nb cb, .bool ok]) ∧ OwnR w' w0.heap.size aT cT aD cD n ts' hs' bs' ∧ Below wD.heap.size wD w' ∧ w'.ownsRow w0.heap.size 5 1 (.slice ab nb cb) nb (lb.map bv) ∧ Bytes lb ∧ nb ≤ 140737488355328 ∧
    ∀ (w2 : World), NetIs w0 w2 g (cnt : Int) ts bs → Calls Try.prog 15 #[.pointer (some ⟨g, 0, none⟩), .int .i64 z] w2 fun e w3 => ∃ a m c, e = .returned (.tuple #[.int .i64 t, .slice a m c, .bool ok]) ∧ BytesV w3 (a, m, c) lb ∧ NetIs w0 w3 g (cnt : Int) ts' bs' ∧ Keeps w2 w3
theorem takes_both (w0 : World) (g cnt : Nat) (aT : Option Addr) (cT : Nat) (aD : Option Addr) (cD n : Nat) (ts : List Int) (hs : List (Option Addr × Nat × Nat)) (bs : List (List Nat)) (z : Int) (w : World)
    (h : OwnR w w0.heap.size aT cT aD cD n ts hs bs) (hB : w0.heap.size ≤ w.heap.size) :
    Calls Try.prog 14 #[.agg #[.slice aT n cT, .slice aD n cD, .int .i64 (cnt : Int)], .int .i64 z] w (TakesBoth w0 w g cnt ts bs z) := by
  have hlen := h.len
  have hle := h.le
  have hbl : bs.length = n := by have := h.o.1; have := h.row.1; simp at this; omega
  by_cases hz : z < 0 ∨ (n : Int) ≤ z
  · exact (refTake_no aT cT aD cD n cnt z w hz).mono fun e w' ⟨he, hb⟩ => ⟨aT, cT, aD, cD, n, ts, hs, bs, false, 0, none, 0, 0, [], he, h.keepsT (S := []) (keepsT_below hb) (by simp) (by simp) (by simp), hb, World.ownsRow_nil _ _ _ _, fun x hx => (by cases hx), by omega, fun w2 k1 => (is_take_no w0 g cnt ts bs z w2 k1 (by rw [hlen]; exact hz)).mono fun e w3 ⟨k2, k3, k4⟩ => ⟨none, 0, 0, k2, bytesV_nil _, k3, keeps_below k4⟩⟩
  · obtain ⟨j, rfl⟩ := Int.eq_ofNat_of_zero_le (show 0 ≤ z by omega)
    have hlb := h.bytes bs[j] (List.getElem_mem (by omega))
    exact (refTake_R w0.heap.size aT cT aD cD n (n - 1) ts hs bs cnt j _ _ w h hB (List.getElem?_eq_getElem (by omega)) (List.getElem?_eq_getElem (by omega)) (by omega)).mono fun e w' ⟨a, b, c, d, ab, nb, cb, he, ho, hO, hb⟩ => ⟨a, b, c, d, n - 1, _, _, _, true, _, ab, nb, cb, bs[j], he, hO, hb, ho, hlb.1, by have := ho.1; simp at this; omega, fun w2 k1 => (is_takeK w0 g cnt ts bs j _ _ w2 k1 (by omega) (List.getElem?_eq_getElem (by omega)) (List.getElem?_eq_getElem (by omega))).mono fun e w3 ⟨a', c', k2, k3, k4, k5⟩ => ⟨a', _, c', k2, k3, k4, k5⟩⟩
theorem NSt.below {w0 w w' : World} {g gm k : Nat} (h : NSt w0 w g gm k) (hb : Below w.heap.size w w') : NSt w0 w' g gm k := by
  obtain ⟨aT, cT, aD, cD, n, ts, hs, bs, cnt, hI, hO, hM, hg, hc⟩ := h
  exact ⟨aT, cT, aD, cD, n, ts, hs, bs, cnt, hI.below hb, hO.keepsT (S := []) (keepsT_below hb) (by simp) (by simp) (by simp), box_below hM hb, hg, hc⟩
/-- the answer is laid in a box of its own, and from there into the variable. -/
def laidR (w5 : World) (gm : Nat) (v0 v1 v2 : Value) : World := set3 (w5.alloc (.cells #[v0, v1, v2] RT)) gm v0 v1 v2
theorem laidR_facts {w0 wD w5 : World} {gm : Nat} {z0 z1 z2 : Value} (hM : wD.heap[gm]? = some (.cells #[z0, z1, z2] RT (0, 0))) (b5 : Below wD.heap.size wD w5) (hb : Below w0.heap.size w0 wD) (hg : w0.heap.size ≤ gm) (v0 v1 v2 : Value) :
    (w5.alloc (.cells #[v0, v1, v2] RT)).heap[gm]? = some (.cells #[z0, z1, z2] RT (0, 0)) ∧ (laidR w5 gm v0 v1 v2).heap[gm]? = some (.cells #[v0, v1, v2] RT (0, 0)) ∧ KeepsT [RT] w5 (laidR w5 gm v0 v1 v2) ∧ KeepsT [RT] wD (laidR w5 gm v0 v1 v2) ∧ Below w0.heap.size w0 (laidR w5 gm v0 v1 v2) := by
  have h1 := box_below (box_below hM b5) (below_alloc w5 (.cells #[v0, v1, v2] RT))
  have k1 : KeepsT [RT] w5 (laidR w5 gm v0 v1 v2) := keepsT_new h1 (by simp) (keepsT_below (below_alloc _ _)) _ _ _
  have hb5 := hb.trans (b5.mono hb.size)
  exact ⟨h1, set3_same _ _ _ h1, k1, (keepsT_below b5).trans k1, set3_below (hb5.alloc hb5.size _) hg _ _ _⟩
end Go.Proofs.Ytbkbkhinpeoflaa
