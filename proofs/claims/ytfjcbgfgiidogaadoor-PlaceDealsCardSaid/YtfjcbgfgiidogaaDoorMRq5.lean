/-
  Rq5: RqL RqM RqN
-/
import Derived.Test.YtfjcbgfgiidogaaDoorMLj3
import Derived.Test.YtfjcbgfgiidogaaDoorMRq4
namespace Go.Proofs.YtfjcbgfgiidogaaDoor
open Go.RowKit

abbrev PT : TypeId := 72
abbrev Pc := Int × List Nat
def pcells : List (Int × HdT) → List Value
  | [] => []
  | x :: xs => .int .i64 x.1 :: SV x.2 :: pcells xs
theorem pcells_length : ∀ xs : List (Int × HdT), (pcells xs).length = xs.length * 2
  | [] => rfl
  | x :: xs => by simp [pcells, pcells_length xs]; omega
theorem pcells_append : ∀ xs ys : List (Int × HdT), pcells (xs ++ ys) = pcells xs ++ pcells ys
  | [], ys => rfl
  | x :: xs, ys => by simp [pcells, pcells_append xs ys]
theorem pcells_one (xs : List (Int × HdT)) : ∀ u ∈ pcells xs, u.oneCell' = true := by
  induction xs with
  | nil => intro u hu; cases hu
  | cons x xs ih =>
    intro u hu
    simp only [pcells, List.mem_cons] at hu
    rcases hu with rfl | rfl | hu
    · rfl
    · rfl
    · exact ih u hu
theorem pcells_get (xs : List (Int × HdT)) : ∀ (i : Nat) (x : Int × HdT), xs[i]? = some x → (pcells xs)[i * 2]? = some (.int .i64 x.1) ∧ (pcells xs)[i * 2 + 1]? = some (SV x.2) := by
  induction xs with
  | nil => intro i x h; simp at h
  | cons y xs ih =>
    intro i x h
    cases i with
    | zero => simp at h; subst h; exact ⟨rfl, rfl⟩
    | succ i =>
      simp at h
      have := ih i x h
      rw [show (i + 1) * 2 = i * 2 + 2 by omega]
      exact this
theorem pinfo : (Tryd.prog.info? 72).map (fun i => (i.zero, i.size, i.bytes)) = some (some (.agg #[.int .i64 0, .slice none 0 0]), 2, 32) := by kernel_rfl

/-- a slice of pieces reads as these. -/
structure PiV (w : World) (a : Option Addr) (n : Nat) (ps : List Pc) : Prop where
  len : ps.length = n
  ex : ∃ xs : List (Int × HdT), xs.length = n ∧ (0 < n → ∃ b off, a = some ⟨b, off, none⟩ ∧ ∀ i x, xs[i]? = some x → w.cell? ⟨b, off + i * 2, none⟩ = some (.int .i64 x.1) ∧ w.cell? ⟨b, off + i * 2 + 1, none⟩ = some (SV x.2)) ∧ ∀ (i : Nat) x p, xs[i]? = some x → ps[i]? = some p → x.1 = p.1 ∧ BytesV w x.2 p.2
theorem PiV.below {w w' : World} {a : Option Addr} {n : Nat} {ps : List Pc} (h : PiV w a n ps) (hb : Below w.heap.size w w') : PiV w' a n ps := by
  obtain ⟨h1, xs, h2, h3, h4⟩ := h
  refine ⟨h1, xs, h2, fun h0 => ?_, fun i x p a b => ⟨(h4 i x p a b).1, (h4 i x p a b).2.below hb⟩⟩
  obtain ⟨b, off, e, hc⟩ := h3 h0
  exact ⟨b, off, e, fun i x hx => ⟨cell_below (hc i x hx).1 hb, cell_below (hc i x hx).2 hb⟩⟩
theorem PiV.nil (w : World) (a : Option Addr) : PiV w a 0 [] := ⟨rfl, [], rfl, fun h => absurd h (Nat.lt_irrefl _), fun i x p h => by simp at h⟩
theorem PiV.at {w : World} {a : Option Addr} {n i : Nat} {ps : List Pc} (h : PiV w a n ps) (hi : i < n) : ∃ b off e a2 n2 c2 l, a = some ⟨b, off, none⟩ ∧ w.cell? ⟨b, off + i * 2, none⟩ = some (.int .i64 e) ∧ w.cell? ⟨b, off + i * 2 + 1, none⟩ = some (.slice a2 n2 c2) ∧ ps[i]? = some (e, l) ∧ BytesV w (a2, n2, c2) l := by
  obtain ⟨h1, xs, h2, h3, h4⟩ := h
  obtain ⟨b, off, e, hc⟩ := h3 (by omega)
  obtain ⟨⟨e1, a2, n2, c2⟩, hx⟩ : ∃ x, xs[i]? = some x := ⟨_, List.getElem?_eq_getElem (by omega)⟩
  obtain ⟨⟨e2, l⟩, hp⟩ : ∃ p, ps[i]? = some p := ⟨_, List.getElem?_eq_getElem (by omega)⟩
  have k := h4 i _ _ hx hp
  simp only at k
  obtain ⟨rfl, k⟩ := k
  exact ⟨b, off, e1, a2, n2, c2, l, e, (hc i _ hx).1, (hc i _ hx).2, hp, k⟩
/-- pieces of the call's own. -/
structure OwnP (w : World) (B : Nat) (a : Option Addr) (n c : Nat) (ps : List Pc) : Prop where
  len : ps.length = n
  ex : ∃ xs : List (Int × HdT), xs.length = n ∧ w.ownsRow B PT 2 (.slice a n c) n (pcells xs) ∧ ∀ (i : Nat) x p, xs[i]? = some x → ps[i]? = some p → x.1 = p.1 ∧ x.2.2.1 = p.2.length ∧ w.ownsRow B 5 1 (SV x.2) p.2.length (p.2.map bv) ∧ Bytes p.2 ∧ p.2.length ≤ 140737488355328
theorem OwnP.below {w w' : World} {B : Nat} {a : Option Addr} {n c : Nat} {ps : List Pc} (h : OwnP w B a n c ps) (hb : Below w.heap.size w w') : OwnP w' B a n c ps := by
  obtain ⟨h1, xs, h2, h3, h4⟩ := h
  refine ⟨h1, xs, h2, h3.kept (grownBy_of_below hb none) (by cases (Value.slice a n c).ownBlock <;> simp), fun i x p a b => ?_⟩
  obtain ⟨k1, k2, k3, k4, k5⟩ := h4 i x p a b
  exact ⟨k1, k2, k3.kept (grownBy_of_below hb none) (by cases (SV x.2).ownBlock <;> simp), k4, k5⟩
theorem OwnP.pi {w : World} {B : Nat} {a : Option Addr} {n c : Nat} {ps : List Pc} (h : OwnP w B a n c ps) : PiV w a n ps := by
  obtain ⟨h1, xs, h2, h3, h4⟩ := h
  refine ⟨h1, xs, h2, fun h0 => ?_, fun i x p a b => ?_⟩
  · rcases h3.2 with ⟨_, e⟩ | ⟨g, cap, cur, e, _, hg, _, _, _, ht⟩
    · omega
    · injection e with e1 e2 e3
      subst e1
      refine ⟨g, 0, rfl, fun i x hx => ?_⟩
      have hi : i < n := by have := (List.getElem?_eq_some_iff.1 hx).1; omega
      have k := pcells_get xs i x hx
      have q1 := h3.cellAt (i * 2) (by omega)
      have q2 := h3.cellAt (i * 2 + 1) (by omega)
      rw [Nat.zero_add]
      exact ⟨q1.trans k.1, q2.trans k.2⟩
  · obtain ⟨k1, k2, k3, k4, k5⟩ := h4 i x p a b
    obtain ⟨x1, xa, xn, xc⟩ := x
    simp only at k2
    subst k2
    exact ⟨k1, bytesV_of_owns k3 k4 k5⟩
theorem OwnP.rebase {w : World} {B B' : Nat} {a : Option Addr} {n c : Nat} {ps : List Pc} (h : OwnP w B a n c ps) (hB : B' ≤ B) : OwnP w B' a n c ps := by
  obtain ⟨h1, xs, h2, h3, h4⟩ := h
  exact ⟨h1, xs, h2, ownsRow_base h3 hB, fun i x p a b => by
    obtain ⟨k1, k2, k3, k4⟩ := h4 i x p a b
    exact ⟨k1, k2, ownsRow_base k3 hB, k4⟩⟩
theorem OwnP.start {w : World} {B : Nat} {a : Option Addr} {c : Nat} (h : w.ownsRow B PT 2 (.slice a 0 c) 0 []) : OwnP w B a 0 c [] := ⟨rfl, [], rfl, h, fun i x p h => by simp at h⟩
theorem pc_append {wm w' : World} {B n : Nat} {a : Option Addr} {c : Nat} {xs : List (Int × HdT)} {ps : List Pc} {e : Int} {y : HdT} {l : List Nat} (h2 : xs.length = n) (h1 : ps.length = n) (h3 : wm.ownsRow B PT 2 (.slice a n c) n (pcells xs))
    (h4 : ∀ (i : Nat) x p, xs[i]? = some x → ps[i]? = some p → x.1 = p.1 ∧ x.2.2.1 = p.2.length ∧ wm.ownsRow B 5 1 (SV x.2) p.2.length (p.2.map bv) ∧ Bytes p.2 ∧ p.2.length ≤ 140737488355328)
    (hy : wm.ownsRow B 5 1 (SV y) l.length (l.map bv)) (hyl : y.2.1 = l.length) (hl : Bytes l ∧ l.length ≤ 140737488355328) {g cap : Nat}
    (hE : w'.ownsRow B PT 2 (.slice (some ⟨g, 0, none⟩) (n + 1) cap) (n + 1) (pcells xs ++ [.int .i64 e, SV y])) (hg : wm.grownBy w' (Value.slice a n c).ownBlock) : OwnP w' B (some ⟨g, 0, none⟩) (n + 1) cap (ps ++ [(e, l)]) := by
  have key : ∀ {x : HdT} {m : List Nat}, wm.ownsRow B 5 1 (SV x) m.length (m.map bv) → w'.ownsRow B 5 1 (SV x) m.length (m.map bv) := fun k => k.kept hg (own_ne k h3 (by decide))
  refine ⟨by simp [h1], xs ++ [(e, y)], by simp [h2], by rw [pcells_append]; exact hE, fun i x p a b => ?_⟩
  by_cases hi : i < n
  · rw [List.getElem?_append_left (by omega)] at a
    rw [List.getElem?_append_left (by omega)] at b
    obtain ⟨k1, k2, k3, k4, k5⟩ := h4 i x p a b
    exact ⟨k1, k2, key k3, k4, k5⟩
  · rw [List.getElem?_append_right (by omega)] at a
    rw [List.getElem?_append_right (by omega), h1, ← h2] at b
    have hi0 := (List.getElem?_eq_some_iff.1 a).1
    simp only [List.length_cons, List.length_nil] at hi0
    have e0 : i - xs.length = 0 := by omega
    rw [e0] at a b
    simp at a b
    subst a b
    exact ⟨rfl, hyl, key hy, hl⟩
/-- pieces and an error. -/
def GivesP (w : World) (o : List Pc × Int) (e : Ending) (w' : World) : Prop := ∃ a c, e = .returned (.tuple #[.slice a o.1.length c, .int .i64 o.2]) ∧ OwnP w' w.heap.size a o.1.length c o.1 ∧ Below w.heap.size w w'
theorem givesP_nil {w w' : World} {code : Int} (hb : Below w.heap.size w w') : GivesP w ([], code) (.returned (.tuple #[.slice none 0 0, .int .i64 code])) w' := ⟨none, 0, rfl, .start ⟨rfl, .inl ⟨rfl, rfl⟩⟩, hb⟩
end Go.Proofs.YtfjcbgfgiidogaaDoor
namespace Go.Proofs.YtfjcbgfgiidogaaDoor
open Go.RowKit

def mixS (inner : List (List Nat)) (r : List Nat) : List Nat := mixTo r inner (longest inner inner.length) inner.length
def pieceOf (k : Nat) (inner : List (List Nat)) (e : Int) : Pc := (e, mixS inner (symR k e.toNat))
def encodeR (src : List (List Nat)) (es : List Int) : List Pc × Int :=
  if (innerR src).2 = 0 then (if es.all okE = true then (es.map (pieceOf src.length (innerR src).1), 0) else ([], 40)) else ([], (innerR src).2)
theorem inner_ok {src : List (List Nat)} (h : (innerR src).2 = 0) : okK (src.length : Int) = true := by
  unfold innerR at h
  split at h
  · assumption
  · cases h
theorem inner_len (src : List (List Nat)) : (innerR src).1.length ≤ 1000 := by
  unfold innerR
  split
  · split
    · split
      · exact solve_len _ _ _
      · simp
    · simp
  · simp
theorem pieces_take (k : Nat) (X : List (List Nat)) {es : List Int} {i : Nat} {e : Int} (h : es[i]? = some e) : (es.take (i + 1)).map (pieceOf k X) = (es.take i).map (pieceOf k X) ++ [pieceOf k X e] := by
  rw [take_step es i e h, List.map_append]; rfl

theorem mix_rd (adk : Option Addr) (lk ck : Nat) (ks : List Nat) (a : Option Addr) (n c : Nat) (xs : List (List Nat)) (w : World) (hks : BytesV w (adk, lk, ck) ks) (h : RD w a n xs) (hn : n ≤ 1000) :
    Calls Tryd.prog 56 #[.slice adk lk ck, .slice a n c] w (GivesBytes 5 w (mixS xs ks)) := by
  obtain ⟨h1, hs, h2, h3⟩ := h
  unfold mixS
  rw [h1]
  exact (mix_any adk lk ck ks a n c hs xs w hks.row hks.bytes hks.small h2 (by omega) h3).mono fun e w' ⟨he, ho, hb⟩ => ⟨_, _, by rw [mixTo_length]; exact he, by rw [mixTo_length]; exact ho, hb⟩
theorem mixS_mem {xs : List (List Nat)} (hx : Mem xs) {r : List Nat} (hr : Bytes r) : Bytes (mixS xs r) ∧ (mixS xs r).length ≤ 140737488355328 := mix_mem hx hr
set_option maxRecDepth 100000 in
set_option maxHeartbeats 8000000 in
theorem encode_rd (sa : Option Addr) (sn sc : Nat) (src : List (List Nat)) (ea : Option Addr) (en ec : Nat) (es : List Int) (w : World) (h : RD w sa sn src) (he : IntsV w (ea, en, ec) es) (hen : en ≤ 1000) (hg : Bnd w) :
    Calls Tryd.prog 38 #[.slice sa sn sc, .slice ea en ec] w (GivesP w (encodeR src es)) := by
  obtain ⟨i0, hpi, hz0, hz1, hz2⟩ := info_parts pinfo
  have hel : es.length = en := he.length
  have KI := inner_rd sa sn sc src w h hg
  have HEL := Lib.hid hel
  have HE := Lib.hid he
  have HG := Lib.hid hg
  have HSL := Lib.hid h.1
  obtain ⟨OUT, hO⟩ : ∃ O, O = encodeR src es := ⟨_, rfl⟩
  rw [← hO]
  have HOK := Lib.hid (inner_ok (src := src))
  unfold encodeR at hO
  obtain ⟨S, hS⟩ : ∃ S, S = innerR src := ⟨_, rfl⟩
  have hXl := inner_len src
  rw [← hS] at KI hO HOK hXl
  have HOUT := Lib.hid hO
  clear h he hg hel hO hS
  obtain ⟨X, code⟩ := S
  simp only at HOUT HOK hXl
  go_enter Tryd.func38, Tryd.ntmps38
  go_wp2_with fail
  (with_reducible refine KI.mono ?_)
  rintro e w1 ⟨ax, cx, rfl, hX, b1⟩
  simp only at hX ⊢
  clear KI
  by_cases hc : code = 0
  rotate_left 1
  · have hcb : (code != 0) = true := by rw [bne_iff_ne]; exact hc
    have HC := Lib.hid hc
    clear hc hX
    go_wp2
    go_ret2
    rw [HOUT.out, if_neg HC.out]
    exact givesP_nil b1
  subst hc
  obtain ⟨m, e1, -, h1, hk⟩ := okK_nat (HOK.out rfl)
  rw [HSL.out] at e1
  obtain rfl : sn = m := by omega
  have HX := Lib.hid hX
  have HXM := Lib.hid (hX.mem)
  have hs1 := b1.size
  have HB1 := Lib.hid b1
  clear e1 hX b1
  go_wp2_with (first | (at_make; refine Hid.out ?_))
  refine Lib.hid ?_
  refine wpList_make_own _ rfl _ _ 68 rfl w1.heap.size PT i0 (.agg #[.int .i64 0, .slice none 0 0]) 2 Tryd.underlying68 hpi hz0 hz1 _ _ _ en rfl rfl rfl (by rw [hz2]; omega) (by unfold maxLen; omega) (Nat.le_refl _) ?_
  intro w2 hown2 hgrow2
  have HP : Hid (OwnP w2 w1.heap.size (some ⟨w1.heap.size, 0, none⟩) 0 en ((es.take 0).map (pieceOf sn X))) := Lib.hid (.start hown2)
  have HB2 : Hid (Below w1.heap.size w1 w2) := Lib.hid ⟨hgrow2.os, hgrow2.tape, hgrow2.output, hgrow2.size, fun i hi => hgrow2.block i hi (by simp)⟩
  clear hown2 hgrow2
  go_wp2_with fail
  go_loopw [8, 26] (fun vp vi wr => ∃ (i : Nat) (av : Option Addr) (cv : Nat), i ≤ en ∧ vi = .int .i64 (i : Nat) ∧ vp = .slice av i cv ∧ Hid (OwnP wr w1.heap.size av i cv ((es.take i).map (pieceOf sn X))) ∧ Hid (Below w1.heap.size w1 wr) ∧ Hid (∀ (j : Nat) e, j < i → es[j]? = some e → okE e = true)) (fun _ vi _ => (en - intOf vi).toNat)
  case atStart => exact ⟨0, _, _, Nat.zero_le _, rfl, rfl, HP, HB2, Lib.hid (fun j e h => absurd h (Nat.not_lt_zero _))⟩
  case round =>
    clear HP HB2
    obtain ⟨i, av, cv, hi, rfl, rfl, hP, hB1, HZ⟩ := hrel
    have hB := Lib.hid (HB1.out.trans (hB1.out.mono hs1))
    have hX := Lib.hid (HX.out.below hB1.out)
    by_cases hlt : i < en
    · obtain ⟨b, off, e1, hc1⟩ := (HE.out.row.below hB.out).2 (by show 0 < en; omega)
      simp only at e1
      subst e1
      have hc := hc1 i hlt
      obtain ⟨z, hz⟩ : ∃ z, es[i]? = some z := ⟨_, List.getElem?_eq_getElem (by rw [HEL.out]; exact hlt)⟩
      rw [List.getElem?_map, hz] at hc
      have hc' : wr.cell? ⟨b, off + i, none⟩ = some (.int .i64 z) := hc
      have HZI := Lib.hid hz
      clear hc hc1 hz
      have KR := row_rd (sn : Int) z wr (HG.out.below hB.out)
      unfold rowR at KR
      rw [if_pos (okK_iff.2 ⟨by omega, by omega⟩), Int.toNat_natCast] at KR
      by_cases hz2 : okE z = true
      rotate_left 1
      · rw [if_neg hz2] at KR
        have hall : es.all okE = false := by
          cases h : es.all okE with
          | false => rfl
          | true => exact absurd (List.all_eq_true.1 h z (List.mem_of_getElem? HZI.out)) hz2
        have HHA := Lib.hid hall
        have hsz := hB.out.size
        clear hz2 hall
        go_wp2_with fail
        (with_reducible refine KR.mono ?_)
        rintro e w6 ⟨a6, c6, rfl, -, b6⟩
        clear KR
        go_wp2
        go_ret2
        rw [HOUT.out, if_pos trivial, HHA.out, if_neg (by simp)]
        exact givesP_nil (hB.out.trans (b6.mono hsz))
      rw [if_pos hz2] at KR
      have HT := Lib.hid (pieces_take sn X HZI.out)
      have HZ2 := Lib.hid hz2
      obtain ⟨r, hr⟩ : ∃ r, r = symR sn z.toNat := ⟨_, rfl⟩
      have hrb : Bytes r := by rw [hr]; exact symR_bytes _ _
      have hrl : r.length ≤ 100 := by rw [hr, symR_length]; have := (cL_facts h1 hk).2.1; omega
      have hpc : pieceOf sn X z = (z, mixS X r) := by rw [hr]; rfl
      have HPC := Lib.hid hpc
      rw [← hr] at KR
      have hsz := hB1.out.size
      have HRB := Lib.hid hrb
      clear hr hz2 hpc hrb
      go_wp2_with fail
      (with_reducible refine KR.mono ?_)
      rintro e w6 ⟨a6, c6, rfl, o6, b6⟩
      simp only at o6 ⊢
      have hb6 := hB1.out.trans (b6.mono hsz)
      have hX6 := hX.out.below b6
      have hP6 := hP.out.below b6
      have KM := mix_rd a6 r.length c6 r ax X.length cx X w6 (bytesV_of_owns o6 HRB.out (by omega)) hX6 hXl
      have hmm := mixS_mem hX6.mem HRB.out
      obtain ⟨y, hy⟩ : ∃ y, y = mixS X r := ⟨_, rfl⟩
      rw [← hy] at KM hmm HPC
      have HMM := Lib.hid hmm
      have hs6 := hb6.size
      clear KR hP hB hB1 hX o6 b6 hmm hy hc'
      go_wp2_with fail
      (with_reducible refine KM.mono ?_)
      rintro e w7 ⟨a7, c7, rfl, o7, b7⟩
      have hb7 := hb6.trans (b7.mono hs6)
      have hP7 := hP6.below b7
      have o7' := ownsRow_base (base' := w1.heap.size) o7 hs6
      have hb8 := hb7.alloc hb7.size (.cells #[.int .i64 z, .slice a7 y.length c7] PT)
      have hP8 := hP7.below (below_alloc w7 (.cells #[.int .i64 z, .slice a7 y.length c7] PT))
      have o8 := o7'.alloc (.cells #[.int .i64 z, .slice a7 y.length c7] PT)
      obtain ⟨hpl, xs, hxl, hxo, hxs⟩ := hP8
      have HXS := Lib.hid hxs
      have HXL := Lib.hid hxl
      have HPL := Lib.hid hpl
      have HO8 := Lib.hid o8
      have hbs8 := hb8.size
      clear KM hb6 hX6 hP6 hb7 hP7 o7 o7' b7 hxs hxl hpl o8
      go_wp2_with (first | (at_builtin; refine Hid.out ?_))
      refine Lib.hid ?_
      refine wpList_append_lies _ rfl _ _ 68 rfl w1.heap.size PT i0 (.agg #[.int .i64 0, .slice none 0 0]) 2 32 Tryd.underlying68 hpi hz0 hz1 hz2 rfl (by decide) _ _ _ rfl hxo ⟨w7.heap.size, 0, none⟩ 1 1 [.int .i64 z, SV (a7, y.length, c7)] rfl rfl (World.news_of_block (heap_alloc_new w7 _)) (by intro u hu; simp at hu; rcases hu with rfl | rfl <;> rfl) (by decide) (by unfold maxLen; omega) (by omega) hbs8 _ rfl ?_
      intro g9 c9 w9 hE9 g9' _ _
      have hb9 := below_grown hb8 g9' (fun k e => ownBlock_ge hxo k e)
      have hP9 := pc_append (y := (a7, y.length, c7)) (l := y) (e := z) HXL.out HPL.out hxo HXS.out HO8.out rfl HMM.out hE9 g9'
      rw [← HPC.out, ← HT.out] at hP9
      have HP9 := Lib.hid hP9
      have HB9 := Lib.hid hb9
      clear hxo hE9 g9' hb8 hP9 hb9
      go_wp2
      go_roundw
      case rel => exact ⟨i + 1, _, c9, by omega, by go_num, rfl, HP9, HB9, Lib.hid (fun j e hj he => (by
        by_cases e1 : j = i
        · rw [e1, HZI.out] at he
          exact (congrArg okE (Option.some.inj he)).symm.trans HZ2.out
        · exact HZ.out j e (by omega) he))⟩
      case measure => simp [intOf] <;> omega
    · obtain rfl : i = en := by omega
      have hall : es.all okE = true := List.all_eq_true.2 fun e he => by
        obtain ⟨j, hj⟩ := List.getElem?_of_mem he
        exact HZ.out j e (by have := (List.getElem?_eq_some_iff.1 hj).1; rw [HEL.out] at this; exact this) hj
      have hP' := hP.out
      rw [List.take_of_length_le (by rw [HEL.out]; exact Nat.le_refl _)] at hP'
      have HHA := Lib.hid hall
      have HP' := Lib.hid hP'
      have hml : (es.map (pieceOf sn X)).length = i := by rw [List.length_map]; exact HEL.out
      have HML := Lib.hid hml
      clear hall hP' hP hml
      go_wp2
      go_ret2
      rw [HOUT.out, if_pos trivial, HHA.out, if_pos rfl, HSL.out]
      have hp := HP'.out
      have hm := HML.out
      generalize es.map (pieceOf sn X) = D at hp hm ⊢
      exact ⟨av, cv, by simp only [hm]; rfl, by show OwnP wr w.heap.size av D.length cv D; rw [hm]; exact hp.rebase hs1, hB.out⟩
end Go.Proofs.YtfjcbgfgiidogaaDoor
namespace Go.Proofs.YtfjcbgfgiidogaaDoor
open Go.RowKit

set_option maxRecDepth 100000 in
set_option maxHeartbeats 2000000 in
theorem pieceBad_any (e : Int) (a : Option Addr) (n c : Nat) (w : World) : Calls Tryd.prog 62 #[.agg #[.int .i64 e, .slice a n c]] w fun x w' => x = .returned (.bool (!okE e)) ∧ Below w.heap.size w w' := by
  have KK := fun W => known_any e W
  have hb := below_alloc w (.cells #[.int .i64 e, .slice a n c] PT)
  generalize okE e = t at KK ⊢
  go_enter Tryd.func62, Tryd.ntmps62
  go_wp2_with fail
  (with_reducible refine (KK _).mono ?_)
  rintro e w6 ⟨rfl, rfl⟩
  cases t
  all_goals
    go_wp2
    go_ret
    exact ⟨rfl, hb⟩
theorem pieceBad_no (e : Int) (a : Option Addr) (n c : Nat) (h : okE e = true) (w : World) : Calls Tryd.prog 62 #[.agg #[.int .i64 e, .slice a n c]] w fun x w' => x = .returned (.bool false) ∧ Below w.heap.size w w' := by
  have := pieceBad_any e a n c w; rwa [h] at this
theorem pieceBad_yes (e : Int) (a : Option Addr) (n c : Nat) (h : okE e = false) (w : World) : Calls Tryd.prog 62 #[.agg #[.int .i64 e, .slice a n c]] w fun x w' => x = .returned (.bool true) ∧ Below w.heap.size w w' := by
  have := pieceBad_any e a n c w; rwa [h] at this
def badB (ps : List Pc) : Bool := ps.any fun p => !okE p.1
theorem badB_false {ps : List Pc} : badB ps = false ↔ ∀ p ∈ ps, okE p.1 = true := by
  unfold badB
  rw [List.any_eq_false]
  constructor
  · intro h p hp; have := h p hp; simpa using this
  · intro h p hp; have := h p hp; simpa using this
def FoundM (t : Bool) (w : World) (e : Ending) (w' : World) : Prop := Below w.heap.size w w' ∧ ((t = true ∧ ∃ k : Nat, e = .returned (.int .i64 (k : Int)) ∧ k ≤ 140737488355328) ∨ (t = false ∧ e = .returned (.int .i64 (-1))))
set_option maxRecDepth 100000 in
set_option maxHeartbeats 2000000 in
theorem indexBad_any (a : Option Addr) (n c : Nat) (ps : List Pc) (w : World) (h : PiV w a n ps) (hn : n ≤ 1000) :
    Calls Tryd.prog 85 #[.slice a n c, .func (.func 62) #[] #[]] w (FoundM (badB ps) w) := by
  have HL := Lib.hid h.len
  have H := Lib.hid h
  have KN := pieceBad_no
  have KY := pieceBad_yes
  clear h
  obtain ⟨T, hT⟩ : ∃ T, T = badB ps := ⟨_, rfl⟩
  rw [← hT]
  have HT := Lib.hid hT
  clear hT
  go_enter Tryd.func85, Tryd.ntmps85
  go_wp2
  go_loopw [8] (fun i wr => ∃ k : Nat, k ≤ n ∧ i = .int .i64 k ∧ Hid (∀ j p, j < k → ps[j]? = some p → okE p.1 = true) ∧ Hid (Below w.heap.size w wr)) (fun i _ => n - (intOf i).toNat)
  case atStart => exact ⟨0, Nat.zero_le _, rfl, Lib.hid (fun j p hj => absurd hj (Nat.not_lt_zero _)), Lib.hid (Below.refl _ _)⟩
  case round =>
    obtain ⟨k, hk, rfl, HZ, hB⟩ := hrel
    by_cases hlt : k < n
    · obtain ⟨b, off, e, a2, n2, c2, l, rfl, hc0, hc1, hp, -⟩ := H.out.at hlt
      have q0 := cell_below hc0 hB.out
      have q1 := cell_below hc1 hB.out
      have HP := Lib.hid hp
      have hsz := hB.out.size
      clear hc0 hc1 hp
      by_cases h0 : okE e = true
      · have H0 := Lib.hid h0
        clear h0
        go_wp2_with fail
        (with_reducible refine (KN _ _ _ _ H0.out _).mono ?_)
        rintro x w5 ⟨rfl, b5⟩
        have hb5 := Lib.hid (hB.out.trans (b5.mono hsz))
        clear b5 hB
        go_wp2
        go_roundw
        case rel => exact ⟨k + 1, by omega, by go_num, Lib.hid (fun j p hj hp' => (by
          by_cases e1 : j = k
          · rw [e1, HP.out] at hp'
            rw [← Option.some.inj hp']; exact H0.out
          · exact HZ.out j p (by omega) hp')), hb5⟩
        case measure => simp [intOf]; omega
      · have H0 := Lib.hid (show okE e = false by simpa using h0)
        clear h0
        go_wp2_with fail
        (with_reducible refine (KY _ _ _ _ H0.out _).mono ?_)
        rintro x w5 ⟨rfl, b5⟩
        have hb5 := Lib.hid (hB.out.trans (b5.mono hsz))
        clear b5 hB
        have htt : T = true := by
          rw [HT.out]
          cases hbd : badB ps with
          | true => rfl
          | false =>
            have := badB_false.1 hbd _ (List.mem_of_getElem? HP.out)
            simp only at this
            rw [H0.out] at this
            cases this
        have HTT := Lib.hid htt
        clear htt
        go_wp2
        go_ret
        exact ⟨hb5.out, .inl ⟨HTT.out, k, rfl, by omega⟩⟩
    · obtain rfl : k = n := by omega
      have htt : T = false := by
        rw [HT.out]
        refine badB_false.2 fun p hp => ?_
        obtain ⟨j, hj⟩ := List.getElem?_of_mem hp
        exact HZ.out j p (by have := (List.getElem?_eq_some_iff.1 hj).1; rw [HL.out] at this; exact this) hj
      have HTT := Lib.hid htt
      clear htt
      go_wp2
      go_ret
      exact ⟨hB.out, .inr ⟨HTT.out, rfl⟩⟩
theorem containsBad_any (a : Option Addr) (n c : Nat) (ps : List Pc) (w : World) (h : PiV w a n ps) (hn : n ≤ 1000) :
    Calls Tryd.prog 61 #[.slice a n c, .func (.func 62) #[] #[]] w fun x w' => x = .returned (.bool (badB ps)) ∧ Below w.heap.size w w' := by
  have KI := indexBad_any a n c ps w h hn
  generalize badB ps = t at KI ⊢
  go_enter Tryd.func61, Tryd.ntmps61
  go_wp2_with fail
  (with_reducible refine KI.mono ?_)
  rintro x w1 ⟨hb, ⟨rfl, k, rfl, hk⟩ | ⟨rfl, rfl⟩⟩
  · go_wp2
    go_ret
    exact ⟨rfl, hb⟩
  · go_wp2
    go_ret
    exact ⟨rfl, hb⟩

/-! the result -/
def decodeS (k t : Nat) (ps : List Pc) : List (List Nat) × Int := solveR ((cL k : Nat) : Int) (fixedL k ++ symsL k (ps.map Prod.fst)) (List.replicate (cL k - k) (zs t) ++ ps.map Prod.snd)
def decodeT (k t : Nat) (ps : List Pc) : List (List Nat) × Int := if (decodeS k t ps).2 = 0 then applyR ((cL k : Nat) : Int) (placesL k k) (decodeS k t ps).1 else ([], (decodeS k t ps).2)
def okT (t : Int) : Bool := decide (1 ≤ t) && decide (t ≤ 64)
def evenP (t : Int) (ps : List Pc) : Bool := ps.all fun p => decide ((p.2.length : Int) = t)
def decodeR (k t : Int) (ps : List Pc) : List (List Nat) × Int :=
  if okK k = true then (if okT t = true then (if ps.length ≤ 128 then (if badB ps = true then ([], 40) else (if evenP t ps = true then decodeT k.toNat t.toNat ps else ([], 41))) else ([], 201)) else ([], 30)) else ([], 30)
theorem evenP_iff {t : Int} {ps : List Pc} : evenP t ps = true ↔ ∀ p ∈ ps, (p.2.length : Int) = t := by
  unfold evenP; rw [List.all_eq_true]
  constructor
  · intro h p hp; exact of_decide_eq_true (h p hp)
  · intro h p hp; exact decide_eq_true (h p hp)
end Go.Proofs.YtfjcbgfgiidogaaDoor
