/-
  rilllaw07: pack, the frames of payloads.
-/
import Derived.Test.YtkepdjbgfkoobaaFrQ
namespace Go.Proofs.Ytkepdjbgfkoobaa
open Go.RowKit

theorem Try.info3 : (Try.prog.info? 3).map (fun i => (i.zero, i.size, i.bytes)) = some (some (.int .i64 0), 1, 8) := by kernel_rfl
/-- where the frames end. -/
def endsN (ls : List (List Nat)) (k : Nat) : List Int := (List.range k).map fun i => ((framesN (ls.take (i + 1))).length : Int)
theorem endsN_succ (ls : List (List Nat)) (k : Nat) : endsN ls (k + 1) = endsN ls k ++ [((framesN (ls.take (k + 1))).length : Int)] := by simp [endsN, List.range_succ]
theorem endsN_length (ls : List (List Nat)) (k : Nat) : (endsN ls k).length = k := by simp [endsN]
theorem iv_one (l : List Int) : ∀ u ∈ l.map iv, u.oneCell' = true := by
  intro u hu
  obtain ⟨x, _, rfl⟩ := List.mem_map.1 hu
  rfl
theorem frames_take_step {ls : List (List Nat)} {k : Nat} {l : List Nat} (h : ls[k]? = some l) : framesN (ls.take (k + 1)) = framesN (ls.take k) ++ frameN l := by
  rw [take_step ls k l h, framesN_snoc]

def PackNo (w : World) (e : Ending) (w' : World) : Prop := e = .returned (.tuple #[.slice none 0 0, .slice none 0 0, .bool false]) ∧ Below w.heap.size w w'
def PackYes (w : World) (n : Nat) (ls : List (List Nat)) (e : Ending) (w' : World) : Prop :=
  ∃ ad cap ad2 cap2 L, e = .returned (.tuple #[.slice ad L cap, .slice ad2 n cap2, .bool true]) ∧ Hid ((framesN ls).length = L) ∧ w'.ownsRow w.heap.size 5 1 (.slice ad L cap) L ((framesN ls).map bv) ∧ w'.ownsRow w.heap.size 3 1 (.slice ad2 n cap2) n ((endsN ls n).map iv) ∧ Payloads ls ∧ L ≤ 132776 ∧ n ≤ 100 ∧ Below w.heap.size w w'
def PackSays (w : World) (n : Nat) (ls : List (List Nat)) (e : Ending) (w' : World) : Prop := PackNo w e w' ∨ PackYes w n ls e w'
theorem packNo {w w' : World} {n : Nat} {ls : List (List Nat)} (h : Below w.heap.size w w') : PackSays w n ls (.returned (.tuple #[.slice none 0 0, .slice none 0 0, .bool false])) w' := .inl ⟨rfl, h⟩

set_option maxRecDepth 100000 in
set_option maxHeartbeats 4000000 in
theorem lawPack_any (adv : Option Addr) (n cv : Nat) (hs : List (Option Addr × Nat × Nat)) (ls : List (List Nat)) (w : World) (hvs : RowV w adv n (hs.map SV)) (hn : n * 24 ≤ 140737488351232) (hrows : RowsV w hs ls) :
    Calls Try.prog 23 #[.slice adv n cv] w (PackSays w n ls) := by
  by_cases big : 100 < n
  · go_enter Try.func23, Try.ntmps23
    go_wp2
    go_ret3
    exact packNo ((below_alloc _ _).alloc (by simp) _)
  obtain ⟨i0, hi, hz0, hz1, hz2⟩ := info_parts Try.info5
  obtain ⟨j0, ji, jz0, jz1, jz2⟩ := info_parts Try.info3
  have hhs : hs.length = n := by have := hvs.1; simpa using this
  have hls : ls.length = n := by rw [← hrows.1, hhs]
  have HLS := Lib.hid hls
  have HHS := Lib.hid hhs
  clear hls hhs
  have oA := (World.ownsRow_made (base := w.heap.size) (e := 5) (size := 1) w #[] 0 (Nat.le_refl _) (by simp [maxLen]) rfl).alloc (.cells #[] 3)
  have oE := World.ownsRow_made (base := w.heap.size) (e := 3) (size := 1) (w.alloc (.cells #[] 5)) #[] 0 (by simp) (by simp [maxLen]) rfl
  have hb0 := (below_alloc w (.cells #[] 5)).alloc (by simp) (.cells #[] 3)
  have hsz : (w.alloc (.cells #[] 5)).heap.size = w.heap.size + 1 := by simp
  rw [hsz] at oE
  clear hsz
  go_enter Try.func23, Try.ntmps23
  go_wp2
  go_loopw [5, 6, 7] (fun v u i wr => ∃ (k L : Nat) (ad : Option Addr) (cap : Nat) (ad2 : Option Addr) (cap2 : Nat), k ≤ n ∧ i = .int .i64 (k : Nat) ∧ v = .slice ad L cap ∧ u = .slice ad2 k cap2 ∧ Hid ((framesN (ls.take k)).length = L) ∧ wr.ownsRow w.heap.size 5 1 (.slice ad L cap) L ((framesN (ls.take k)).map bv) ∧ wr.ownsRow w.heap.size 3 1 (.slice ad2 k cap2) k ((endsN ls k).map iv) ∧ Payloads (ls.take k) ∧ L ≤ 132776 ∧ Below w.heap.size w wr) (fun _ _ i _ => (n - intOf i).toNat)
  case atStart => exact ⟨0, 0, _, 0, _, 0, Nat.zero_le _, rfl, rfl, rfl, rfl, oA, oE, fun p hp => (by simp at hp), by omega, hb0⟩
  case round =>
    clear oA oE hb0
    obtain ⟨k, L, ad, cap, ad2, cap2, hk, rfl, rfl, rfl, HL, hA, hE, hP, hL, hb⟩ := hrel
    have hbs := hb.size
    by_cases hlt : k < n
    · obtain ⟨b, off, rfl, hc⟩ := hvs.2 (by omega)
      obtain ⟨x, hxe, hxr⟩ := hrows.at k (by rw [HHS.out]; exact hlt)
      obtain ⟨a, m, c⟩ := x
      have hbw : b < w.heap.size := hvs.lt (by omega) rfl
      have hcell : wr.cell? ⟨b, off + k, none⟩ = some (.slice a m c) := by rw [hb.cell hbw, hc k hlt, List.getElem?_map, hxe]; rfl
      obtain ⟨y, hy⟩ : ∃ y, y = ls.getD k [] := ⟨_, rfl⟩
      have hyk : ls[k]? = some y := by
        rw [hy, List.getD_eq_getElem?_getD, List.getElem?_eq_getElem (by rw [HLS.out]; exact hlt)]; rfl
      rw [← hy] at hxr
      have hyl : y.length = m := hxr.length
      have hyb := hxr.bytes
      have hms : m ≤ 140737488355328 := hxr.small
      have HY := Lib.hid hyl
      have HYK := Lib.hid hyk
      clear hc hy hyk hxe hyl
      go_wp2_with fail
      (with_reducible refine (copyBytes_any a m c y wr (hxr.below hb)).mono ?_)
      rintro e w1 ⟨a1, c1, rfl, o1, b1⟩
      rw [HY.out] at o1 ⊢
      have hA1 := hA.kept (grownBy_of_below b1 none) (own_none _)
      have hE1 := hE.kept (grownBy_of_below b1 none) (own_none _)
      have hb1 := hb.trans (b1.mono hbs)
      have hb1s := hb1.size
      have hB1 := bytesV_of_owns o1 hyb hms
      clear hA hE b1 o1 hcell hb
      by_cases hm : 32768 < m
      · go_wp2_with (go_at_call 13; (with_reducible refine (pack_long _ _ _ hm hms _).mono ?_); rintro e w2 ⟨rfl, rfl⟩)
        go_ret3
        exact packNo hb1
      · go_wp2_with fail
        (with_reducible refine (pack_any _ _ _ y (by omega) _ hB1).mono ?_)
        rintro e w2 ⟨a2, c2, rfl, o2, b2⟩
        have hA2 := hA1.kept (grownBy_of_below b2 none) (own_none _)
        have hE2 := hE1.kept (grownBy_of_below b2 none) (own_none _)
        have hb2 := hb1.trans (b2.mono hb1s)
        have hb2s := hb2.size
        have hB2 := bytesV_of_owns o2 (frameN_bytes hyb) (by omega)
        have hrow := hB2.row
        have hnil := hB2.nil
        simp only at hrow hnil
        clear hA1 hE1 b2 o2 hb1 hB1
        by_cases hL1 : 100000 < L
        · go_wp2
          go_ret3
          exact packNo hb2
        · have HFS := Lib.hid (frames_take_step HYK.out)
          go_wp2_with (first
            | (at_builtin; refine wpList_append_row rfl (.tmp 37) (.tmp 38) 22 rfl w.heap.size 5 i0 (.int .u8 0) 1 Try.underlying22 hi hz0 hz1 hz2 rfl _ _ _ rfl hA2 a2 (m + 8) c2 ((frameN y).map bv) rfl hrow hnil (bv_one _) (by simp [maxLen]; omega) (by omega) hb2s ?_; intro v' w3 hA3 g3 _; have hb3 := below_grown hb2 g3 (ownBlock_ge hA2); have hE3 := hE2.kept g3 (own_ne hE2 hA2 (by decide)); obtain ⟨a3, c3, rfl, _⟩ := ownsRow_parts hA3; rw [← List.map_append, ← HFS.out] at hA3; clear g3 hA2 hE2 hrow hnil hB2; have hb3s := hb3.size)
            | (at_builtin; refine wpList_append_row rfl (.tmp 40) (.tmp 43) 39 rfl w.heap.size 3 j0 (.int .i64 0) 8 Try.underlying39 ji jz0 jz1 jz2 rfl _ _ _ rfl (hE3.alloc _) (some ⟨w3.heap.size, 0, none⟩) 1 1 [iv ((L + (m + 8) : Nat) : Int)] rfl (rowV_lit _ _ _ _ _ _ rfl rfl rfl) (fun h => by cases h) (iv_one [_]) (by simp [maxLen]; omega) (by omega) (by simp; omega) ?_; intro v' w4 hE4 g4 _; have hb4 := grow_step hb3 _ hE3 g4; have hA4 := (hA3.alloc _).kept g4 (own_ne hA3 hE3 (by decide)); obtain ⟨a4, c4, rfl, _⟩ := ownsRow_parts hE4; clear g4))
          go_roundw
          case rel =>
            have hL2 : (framesN (ls.take (k + 1))).length = L + (m + 8) := by rw [HFS.out, List.length_append, HL.out, frameN_length, HY.out]
            refine ⟨k + 1, L + (m + 8), a3, c3, a4, c4, by omega, by go_num, rfl, rfl, hL2, hA4, ?_, ?_, by omega, hb4⟩
            · rw [endsN_succ, hL2, List.map_append]; exact hE4
            · rw [take_step ls k y HYK.out]
              intro p hp
              rcases List.mem_append.1 hp with h1 | h1
              · exact hP p h1
              · simp at h1
                subst h1
                exact ⟨hyb, by rw [HY.out]; omega⟩
          case measure => simp [intOf]; omega
    · obtain rfl : k = n := by omega
      rw [List.take_of_length_le (by rw [HLS.out]; exact Nat.le_refl _)] at HL hA hP
      go_wp2
      go_ret3
      exact .inr ⟨ad, cap, ad2, cap2, L, rfl, HL, hA, hE, hP, hL, by omega, hb⟩
end Go.Proofs.Ytkepdjbgfkoobaa
