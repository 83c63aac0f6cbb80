/-
  rilllaw05: ChunkGathers.
-/
import Derived.Test.YtfjcbgfgiidogaaDoorMChO
import Derived.Test.YtfjcbgfgiidogaaDoorMChR
import Derived.Test.YtfjcbgfgiidogaaDoorMChZ
namespace Go.Proofs.YtfjcbgfgiidogaaDoor
open Go.RowKit

set_option maxRecDepth 100000 in
set_option maxHeartbeats 8000000 in
theorem great_any (sa : Option Addr) (sn sc : Nat) (w : World) : Calls Tryd.prog 27 #[.slice sa sn sc] w fun e w' => e = .returned (.bool (decide ((150 : Int) < (sn : Int)))) ∧ w' = w := by
  go_enter Tryd.func27, Tryd.ntmps27
  go_wp2
  go_ret
  exact ⟨rfl, rfl⟩
set_option maxRecDepth 100000 in
set_option maxHeartbeats 8000000 in
theorem chunkGathers_walk (s t : Int) (sa : Option Addr) (sn sc : Nat) (ss : List Sy) (w : World) (hg : Bnd w) (_w0 : (Lit.int .i64 s).wf = true) (_w1 : (Lit.int .i64 t).wf = true) (h : SyV w sa sn ss) (_hs : sn ≤ maxLen) :
    Calls Tryd.prog 5 #[.int .i64 s, .int .i64 t, .slice sa sn sc] w fun e w' => e = .returned (.bool true) ∧ Below w.heap.size w w' := by
  have HG := Lib.hid hg
  have HS := Lib.hid h
  have KA := fun a n c W h k g => gather_any s t a n c ss W h k g
  have KB := fun W h k => refGather_any s t sa sn sc ss W h k
  have KC := fun a n c W h k g => ready_any s t a n c ss W h k g
  have KD := fun W h k => refReady_any s t sa sn sc ss W h k
  obtain ⟨G, hG⟩ : ∃ G, G = gatherR s t ss := ⟨_, rfl⟩
  obtain ⟨R, hR⟩ : ∃ R, R = readyB s t ss := ⟨_, rfl⟩
  simp only [← hG] at KA KB
  simp only [← hR] at KC KD
  obtain ⟨GL, gc⟩ := G
  clear hg h hG hR _w0 _w1
  go_enter Tryd.func5, Tryd.ntmps5
  go_wp2_with fail
  (with_reducible refine (alive5_any _ HG.out).mono ?_)
  rintro e w1 ⟨rfl, hb1⟩
  go_wp2_with fail
  (with_reducible refine (great_any sa sn sc _).mono ?_)
  rintro e w2 ⟨rfl, rfl⟩
  by_cases hn : (150 : Int) < (sn : Int)
  · go_wp2
    go_ret
    exact ⟨rfl, hb1⟩
  go_wp2_with fail
  (with_reducible refine (copySyms_own sa sn sc ss _ (HS.out.below hb1) (by omega)).mono ?_)
  rintro e w3 ⟨a3, c3, rfl, o3, b3⟩
  have hb3 := hb1.trans (b3.mono hb1.size)
  have H3 := Lib.hid o3.sy
  clear b3 hb1 o3
  go_wp2_with fail
  (with_reducible refine (KA _ _ _ _ H3.out (by omega) (HG.out.below hb3)).mono ?_)
  rintro e w4 ⟨a4, c4, rfl, h4, b4⟩
  simp only at h4 ⊢
  have hb4 := hb3.trans (b4.mono hb3.size)
  have H3 := Lib.hid (H3.out.below b4)
  have H4 := Lib.hid h4
  clear b4 hb3 h4 KA
  go_wp2_with fail
  (with_reducible refine (KB _ (HS.out.below hb4) (by omega)).mono ?_)
  rintro e w5 ⟨a5, c5, rfl, h5, b5⟩
  simp only at h5 ⊢
  have hb5 := hb4.trans (b5.mono hb4.size)
  have H3 := Lib.hid (H3.out.below b5)
  have KQ := sameBytes_any a4 GL.length c4 GL a5 GL.length c5 GL w5 (H4.out.below b5) h5
  rw [decide_eq_true rfl] at KQ
  clear b5 hb4 h5 KB H4
  go_wp2_with fail
  (with_reducible refine KQ.mono ?_)
  rintro e w6 ⟨rfl, b6⟩
  have hb6 := hb5.trans (b6.mono hb5.size)
  have H3 := Lib.hid (H3.out.below b6)
  have hgc : (gc == gc) = true := by simp
  clear b6 hb5 KQ
  go_wp2_with fail
  (with_reducible refine (KC _ _ _ _ H3.out (by omega) (HG.out.below hb6)).mono ?_)
  rintro e w7 ⟨rfl, b7⟩
  have hb7 := hb6.trans (b7.mono hb6.size)
  have H3 := Lib.hid (H3.out.below b7)
  clear b7 hb6 KC
  go_wp2_with fail
  (with_reducible refine (KD _ (HS.out.below hb7) (by omega)).mono ?_)
  rintro e w8 ⟨rfl, b8⟩
  have hb8 := hb7.trans (b8.mono hb7.size)
  have KS := sameSyms_rd a3 sn c3 ss sa sn sc ss w8 (H3.out.below b8) (HS.out.below hb8) (by omega)
  rw [decide_eq_true rfl] at KS
  have hrr : (R == R) = true := by simp
  clear b8 hb7 KD
  go_wp2_with fail
  (with_reducible refine KS.mono ?_)
  rintro e w9 ⟨rfl, b9⟩
  have hb9 := hb8.trans (b9.mono hb8.size)
  clear b9 hb8 KS
  go_wp2
  go_ret
  exact ⟨rfl, hb9⟩
end Go.Proofs.YtfjcbgfgiidogaaDoor
