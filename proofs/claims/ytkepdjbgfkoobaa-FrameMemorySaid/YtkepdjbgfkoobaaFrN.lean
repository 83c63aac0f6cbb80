/-
  frame: the next frame, as the reference finds it.
-/
import Derived.Test.YtkepdjbgfkoobaaFrM
namespace Go.Proofs.Ytkepdjbgfkoobaa
set_option linter.unusedVariables false
theorem be4_num {s : List Nat} (h : BytesM s) (hl : s.length = 4) : be4 (numN s) = s := by
  match s, hl with
  | [a, b, c, d], _ =>
    have ha := h a (by simp); have hb := h b (by simp); have hc := h c (by simp); have hd := h d (by simp)
    simp [numN, be4]
    omega
theorem head_split {l : List Nat} (h : BytesM l) (hl : 4 ≤ l.length) (h0 : l.getD 0 0 = 90) : l.take 4 = headN (numN ((l.drop 1).take 3)) := by
  match l, hl with
  | a :: b :: c :: d :: r, _ =>
    have hb := h b (by simp); have hc := h c (by simp); have hd := h d (by simp)
    simp at h0
    simp [numN, headN, h0]
    omega
theorem nextN_ref {l : List Nat} (h : BytesM l) {m : Nat} (hm : m = numN ((l.drop 1).take 3)) (h0 : l.getD 0 0 = 90) (hm2 : m ≤ 32768) (hl : m + 8 ≤ l.length) :
    nextN l = if frameN ((l.drop 4).take m) = l.take (m + 8) then ((l.drop 4).take m, m + 8, 0) else ([], 0, 70) := by
  have hp : ((l.drop 4).take m).length = m := by rw [List.length_take, List.length_drop]; omega
  have h4 := head_split h (by omega) h0
  rw [← hm] at h4
  have t4 : l.take (m + 4) = headN m ++ (l.drop 4).take m := by
    rw [← h4, show m + 4 = 4 + m by omega, List.take_add]
  have t8 : l.take (m + 8) = (headN m ++ (l.drop 4).take m) ++ (l.drop (m + 4)).take 4 := by
    rw [← t4, show m + 8 = (m + 4) + 4 by omega, List.take_add]
  have hs : ((l.drop (m + 4)).take 4).length = 4 := by rw [List.length_take, List.length_drop]; omega
  have hsb : BytesM ((l.drop (m + 4)).take 4) := fun x hx => h x (List.mem_of_mem_drop (List.mem_of_mem_take hx))
  have hpb : BytesM ((l.drop 4).take m) := fun x hx => h x (List.mem_of_mem_drop (List.mem_of_mem_take hx))
  have e : (frameN ((l.drop 4).take m) = l.take (m + 8)) ↔ numN ((l.drop (m + 4)).take 4) = crcN (l.take (m + 4)) := by
    unfold frameN
    rw [hp, t8, t4, List.append_cancel_left_eq]
    constructor
    · intro hh; rw [← hh, numN_be4 (crcN_lt ((headN_bytes m).app hpb))]
    · intro hh; rw [← hh, be4_num hsb hs]
  unfold nextN
  rw [← hm, if_neg (by omega), if_neg (by simpa using h0), if_neg (by omega), if_neg (by omega), if_neg (by omega)]
  by_cases hh : numN ((l.drop (m + 4)).take 4) = crcN (l.take (m + 4))
  · rw [if_neg (by simpa using hh), if_pos (e.2 hh)]
  · rw [if_pos hh, if_neg (fun h => hh (e.1 h))]
end Go.Proofs.Ytkepdjbgfkoobaa
