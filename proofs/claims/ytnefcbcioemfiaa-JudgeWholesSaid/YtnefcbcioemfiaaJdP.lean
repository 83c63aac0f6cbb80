/-
  rilllaw19: great, put, get.
-/
import Derived.Test.YtnefcbcioemfiaaJdO
import Derived.Lib.ConvBytes
import Derived.Laws.Tables
namespace Go.Proofs.Ytnefcbcioemfiaa
open Go Go.RowKit

set_option maxRecDepth 100000 in
set_option maxHeartbeats 4000000 in
theorem great_any (aa : Option Addr) (an ac : Nat) (xs : List ActR) (w : World) (h : ActsV w aa an xs) (hac : an ≤ ac) (hn : an ≤ 140737488355328) :
    Calls Try.prog 11 #[.slice aa an ac] w fun e w' => Below w.heap.size w w' ∧ ((e = .returned (.bool false) ∧ an ≤ 60) ∨ e = .returned (.bool true)) := by
  have H := Lib.hid h
  clear h
  go_enter Try.func11, Try.ntmps11
  go_wp2
  go_loopw [3, 4] (fun vn vi wr => ∃ (k : Nat) (z : Int), k ≤ an ∧ vi = .int .i64 (k : Nat) ∧ vn = .int .i64 z ∧ Hid (Below w.heap.size w wr)) (fun _ vi _ => an - (intOf vi).toNat)
  case atStart => exact ⟨0, 0, Nat.zero_le _, rfl, rfl, Lib.hid (Below.refl _ _)⟩
  case round =>
    obtain ⟨k, z, hk, rfl, rfl, HB⟩ := hrel
    by_cases hlt : k < an
    · obtain ⟨b, o, A, x, y, zz, eaa, hA1, hA, at0⟩ := (H.out.below HB.out).at hlt
      subst eaa
      have c5 := at0.c5
      have c9 := at0.c9
      have hk0 : (0 : Int) ≤ (k : Int) := by omega
      have hk1 : (k : Int) < (an : Int) := by omega
      clear hA1 hA at0
      go_upto_region 5 with fail
      have P0 : wr.drew.cell? ⟨b, o + k * 15 + 5, none⟩ = some (.slice x.1 x.2.1 x.2.2) ∧ wr.drew.cell? ⟨b, o + k * 15 + 9, none⟩ = some (.slice y.1 y.2.1 y.2.2) := ⟨c5, c9⟩
      refine GoX.start 16 (fun w' => w'.cell? ⟨b, o + k * 15 + 5, none⟩ = some (.slice x.1 x.2.1 x.2.2) ∧ w'.cell? ⟨b, o + k * 15 + 9, none⟩ = some (.slice y.1 y.2.1 y.2.2)) (by kernel_rfl) ?_
      refine GoX.take 0 rfl (by kernel_rfl) (by kernel_rfl) (by rfl) (fun _ _ _ h => h) (v := ?tv0g34) P0 ?ty0g34 ?tr0g34
      case ty0g34 => (intro w hSw; (try dsimp only at hSw); go_simp; first | done | with_reducible rfl)
      simp only [Act.put, List.setIfInBounds_toArray, List.set_cons_zero, List.set_cons_succ]
      refine GoX.take 1 rfl (by kernel_rfl) (by kernel_rfl) (by rfl) (fun _ _ _ h => h) (v := ?tv1g35) P0 ?ty1g35 ?tr1g35
      case ty1g35 => (intro w hSw; (try dsimp only at hSw); go_simp; first | done | with_reducible rfl)
      simp only [Act.put, List.setIfInBounds_toArray, List.set_cons_zero, List.set_cons_succ]
      refine GoX.take 2 rfl (by kernel_rfl) (by kernel_rfl) (by rfl) (fun _ _ _ h => h) (v := ?tv2g36) P0 ?ty2g36 ?tr2g36
      case ty2g36 => (intro w hSw; (try dsimp only at hSw); go_simp; first | done | with_reducible rfl)
      simp only [Act.put, List.setIfInBounds_toArray, List.set_cons_zero, List.set_cons_succ]
      refine GoX.take 3 rfl (by kernel_rfl) (by kernel_rfl) (by rfl) (fun _ _ _ h => h) (v := ?tv3g37) P0 ?ty3g37 ?tr3g37
      case ty3g37 => (intro w hSw; (try dsimp only at hSw); go_simp; first | done | with_reducible rfl)
      simp only [Act.put, List.setIfInBounds_toArray, List.set_cons_zero, List.set_cons_succ]
      refine GoX.take 4 rfl (by kernel_rfl) (by kernel_rfl) (by rfl) (fun _ _ _ h => h) (v := ?tv4g38) P0 ?ty4g38 ?tr4g38
      case ty4g38 => (intro w hSw; (try dsimp only at hSw); go_simp; first | done | with_reducible rfl)
      simp only [Act.put, List.setIfInBounds_toArray, List.set_cons_zero, List.set_cons_succ]
      refine GoX.take 5 rfl (by kernel_rfl) (by kernel_rfl) (by rfl) (fun _ _ _ h => h) (v := ?tv5g39) P0 ?ty5g39 ?tr5g39
      case ty5g39 => (intro w hSw; (try dsimp only at hSw); go_simp; first | done | with_reducible rfl)
      simp only [Act.put, List.setIfInBounds_toArray, List.set_cons_zero, List.set_cons_succ]
      refine GoX.take 6 rfl (by kernel_rfl) (by kernel_rfl) (by rfl) (fun _ _ _ h => h) (v := ?tv6g40) P0 ?ty6g40 ?tr6g40
      case ty6g40 => (intro w hSw; (try dsimp only at hSw); go_simp; first | done | with_reducible rfl)
      simp only [Act.put, List.setIfInBounds_toArray, List.set_cons_zero, List.set_cons_succ]
      refine GoX.take 7 rfl (by kernel_rfl) (by kernel_rfl) (by rfl) (fun _ _ _ h => h) (v := ?tv7g41) P0 ?ty7g41 ?tr7g41
      case ty7g41 => (intro w hSw; (try dsimp only at hSw); go_simp; first | done | with_reducible rfl)
      simp only [Act.put, List.setIfInBounds_toArray, List.set_cons_zero, List.set_cons_succ]
      refine GoX.take 8 rfl (by kernel_rfl) (by kernel_rfl) (by rfl) (fun _ _ _ h => h) (v := ?tv8g42) P0 ?ty8g42 ?tr8g42
      case ty8g42 => (intro w hSw; (try dsimp only at hSw); go_simp; first | done | with_reducible rfl)
      simp only [Act.put, List.setIfInBounds_toArray, List.set_cons_zero, List.set_cons_succ]
      refine GoX.take 9 rfl (by kernel_rfl) (by kernel_rfl) (by rfl) (fun _ _ _ h => h) (v := ?tv9g43) P0 ?ty9g43 ?tr9g43
      case ty9g43 => (intro w hSw; (try dsimp only at hSw); go_simp; first | done | with_reducible rfl)
      simp only [Act.put, List.setIfInBounds_toArray, List.set_cons_zero, List.set_cons_succ]
      refine GoX.take 10 rfl (by kernel_rfl) (by kernel_rfl) (by rfl) (fun _ _ _ h => h) (v := ?tv10g44) P0 ?ty10g44 ?tr10g44
      case ty10g44 => (intro w hSw; (try dsimp only at hSw); go_simp; first | done | with_reducible rfl)
      simp only [Act.put, List.setIfInBounds_toArray, List.set_cons_zero, List.set_cons_succ]
      refine GoX.take 11 rfl (by kernel_rfl) (by kernel_rfl) (by rfl) (fun _ _ _ h => h) (v := ?tv11g45) P0 ?ty11g45 ?tr11g45
      case ty11g45 => (intro w hSw; (try dsimp only at hSw); go_simp; first | done | with_reducible rfl)
      simp only [Act.put, List.setIfInBounds_toArray, List.set_cons_zero, List.set_cons_succ]
      refine GoX.take 12 rfl (by kernel_rfl) (by kernel_rfl) (by rfl) (fun _ _ _ h => h) (v := ?tv12g46) P0 ?ty12g46 ?tr12g46
      case ty12g46 => (intro w hSw; (try dsimp only at hSw); go_simp; first | done | with_reducible rfl)
      simp only [Act.put, List.setIfInBounds_toArray, List.set_cons_zero, List.set_cons_succ]
      refine GoX.take 13 rfl (by kernel_rfl) (by kernel_rfl) (by rfl) (fun _ _ _ h => h) (v := ?tv13g47) P0 ?ty13g47 ?tr13g47
      case ty13g47 => (intro w hSw; (try dsimp only at hSw); go_simp; first | done | with_reducible rfl)
      simp only [Act.put, List.setIfInBounds_toArray, List.set_cons_zero, List.set_cons_succ]
      refine GoX.take 14 rfl (by kernel_rfl) (by kernel_rfl) (by rfl) (fun _ _ _ h => h) (v := ?tv14g48) P0 ?ty14g48 ?tr14g48
      case ty14g48 => (intro w hSw; (try dsimp only at hSw); go_simp; first | done | with_reducible rfl)
      simp only [Act.put, List.setIfInBounds_toArray, List.set_cons_zero, List.set_cons_succ]
      refine GoX.take 15 rfl (by kernel_rfl) (by kernel_rfl) (by rfl) (fun _ _ _ h => h) (v := ?tv15g49) P0 ?ty15g49 ?tr15g49
      case ty15g49 => (intro w hSw; (try dsimp only at hSw); go_simp; first | done | with_reducible rfl)
      simp only [Act.put, List.setIfInBounds_toArray, List.set_cons_zero, List.set_cons_succ]
      refine GoX.last 16 rfl (by kernel_rfl) (by kernel_rfl) (by decide) ?_
      go_wp2
      go_roundw
      case rel => exact ⟨k + 1, _, by omega, by go_num, rfl, Lib.hid HB.out.drew⟩
      case measure => simp [intOf]; omega
    · obtain rfl : k = an := by omega
      by_cases hz : 5000 < z
      · go_wp2
        go_ret
        exact ⟨HB.out, .inr rfl⟩
      · by_cases h6 : 60 < k
        · have h60 : (60 : Int) < (k : Int) := by omega
          go_wp2
          go_ret
          exact ⟨HB.out, .inr rfl⟩
        · have h60 : ¬ (60 : Int) < (k : Int) := by omega
          go_wp2
          go_ret
          exact ⟨HB.out, .inl ⟨rfl, by omega⟩⟩
def kK : ByteArray := ⟨#[107]⟩
def aPut (st en : Int) (v : List Nat) : ActR := ⟨0, 1, st, en, kK, v, 0, 0, ⟨#[]⟩, [], 0, 0, 0, false, []⟩
def aGet (st en : Int) (f : Bool) (v : List Nat) : ActR := ⟨0, 2, st, en, kK, [], 0, 0, ⟨#[]⟩, v, 0, 0, 0, f, []⟩
theorem setRow_sameJ {w : World} {g : Nat} {old cs : Array Value} {T : TypeId} {fr : Nat × Nat} (h : w.heap[g]? = some (.cells old T fr)) : (w.setRow g cs).heap[g]? = some (.cells cs T fr) := by
  unfold World.setRow
  simp [Array.getElem?_modify, h]
theorem grown_setRowJ (w : World) (g : Nat) (cs : Array Value) : w.grownBy (w.setRow g cs) (some g) := ⟨rfl, rfl, rfl, by simp, fun k _ hn => _root_.Go.setRow_other w g k _ (fun e => hn (by rw [e]))⟩
theorem bytesV_nilJ (w : World) : BytesV w (none, 0, 0) [] := ⟨⟨rfl, fun h => absurd h (Nat.lt_irrefl _)⟩, fun _ h => (nomatch h), Nat.zero_le _, Nat.le_refl _, fun _ => rfl⟩
theorem txV_nilJ (w : World) : TxV w (none, 0, 0) [] := ⟨⟨rfl, fun h => absurd h (Nat.lt_irrefl _)⟩, Nat.zero_le _, Nat.le_refl _, fun _ => rfl⟩
theorem byL_bytes (s : ByteArray) : Bytes (byL s) := by
  intro x hx
  unfold byL at hx
  obtain ⟨y, _, rfl⟩ := List.mem_map.1 hx
  exact y.toNat_lt
theorem byL_len (s : ByteArray) : (byL s).length = s.size := by unfold byL; rw [List.length_map, Array.length_toList]; rfl
theorem conv_strJ (W : World) (s : ByteArray) (hs : s.size ≤ 140737488355328) : ∃ cap W', (convert 9 39 (.string s)).run Try.prog W = .ok (.slice (some ⟨W.heap.size, 0, none⟩) s.size cap) W' ∧ BytesV W' (some ⟨W.heap.size, 0, none⟩, s.size, cap) (byL s) ∧ Below W.heap.size W W' ∧ W'.heap.size = W.heap.size + 1 := by
  refine ⟨_, _, Lib.run_convert_string_bytes W _ _ 5 s Try.underlying9 Try.underlying39 Try.underlying5, ⟨⟨by simp [byL_len], fun h0 => ⟨W.heap.size, 0, rfl, fun i hi => ?_⟩⟩, byL_bytes s, hs, grownCap_ge _ _ _ _, fun h => nomatch h⟩, ⟨?_, ?_, ?_, by rw [Lib.bytesWorld_size]; omega, fun k hk => Lib.bytesWorld_at_old W _ s k hk⟩, Lib.bytesWorld_size _ _ _⟩
  · simp only at hi
    rw [Nat.zero_add, Lib.bytesWorld_cell W _ s i hi]
    have hi2 : i < s.data.size := hi
    simp [byL, List.getD_eq_getElem?_getD]
    rw [Array.getElem?_eq_getElem hi2]
    rfl
  all_goals rfl
set_option maxRecDepth 100000 in
set_option maxHeartbeats 4000000 in
theorem put_any (st en : Int) (s : ByteArray) (w : World) (hs : s.size ≤ 140737488355328) : Calls Try.prog 29 #[.int .i64 st, .int .i64 en, .string s] w fun e w' => ∃ x y z, e = .returned (.agg (ActC (aPut st en (byL s)) x y z)) ∧ ActS w' (aPut st en (byL s)) x y z ∧ Below w.heap.size w w' := by
  have hb0 := below_alloc w (.cells #[.int .i64 0, .int .i64 0, .int .i64 0, .int .i64 0, .string ⟨#[]⟩, .slice none 0 0, .int .i64 0, .int .i64 0, .string ⟨#[]⟩, .slice none 0 0, .int .i64 0, .int .i64 0, .int .i64 0, .bool false, .slice none 0 0] ActT)
  have h0 := heap_alloc_new w (.cells #[.int .i64 0, .int .i64 0, .int .i64 0, .int .i64 0, .string ⟨#[]⟩, .slice none 0 0, .int .i64 0, .int .i64 0, .string ⟨#[]⟩, .slice none 0 0, .int .i64 0, .int .i64 0, .int .i64 0, .bool false, .slice none 0 0] ActT)
  obtain ⟨cap, W1, hc, hB, hb, hz⟩ := conv_strJ (w.alloc (.cells #[.int .i64 0, .int .i64 0, .int .i64 0, .int .i64 0, .string ⟨#[]⟩, .slice none 0 0, .int .i64 0, .int .i64 0, .string ⟨#[]⟩, .slice none 0 0, .int .i64 0, .int .i64 0, .int .i64 0, .bool false, .slice none 0 0] ActT)) s hs
  have hbx := (hb.block w.heap.size (by simp)).trans h0
  have HBX := Lib.hid hbx
  have HB := Lib.hid hB
  have HLO := Lib.hid (hb0.trans (hb.mono hb0.size))
  have e1 : (w.alloc (.cells #[.int .i64 0, .int .i64 0, .int .i64 0, .int .i64 0, .string ⟨#[]⟩, .slice none 0 0, .int .i64 0, .int .i64 0, .string ⟨#[]⟩, .slice none 0 0, .int .i64 0, .int .i64 0, .int .i64 0, .bool false, .slice none 0 0] ActT)).heap.size = w.heap.size + 1 := by simp
  rw [e1] at hc HB
  clear hb0 h0 hB hb hz hbx e1
  go_enter Try.func29, Try.ntmps29
  go_wp2_with (first | ((with_reducible show wpList _ _ _ (⟨_, Op.store _ (.tmp 6) _, _, _, _, _⟩ :: _) _ _); (refine Hid.out ?_)))
  refine Lib.hid ?_
  refine wpList_store_row rfl ActT _ _ rfl w.heap.size #[.int .i64 0, .int .i64 1, .int .i64 st, .int .i64 en, .string ⟨#[107]⟩, .slice (some ⟨w.heap.size + 1, 0, none⟩) s.size cap, .int .i64 0, .int .i64 0, .string ⟨#[]⟩, .slice none 0 0, .int .i64 0, .int .i64 0, .int .i64 0, .bool false, .slice none 0 0] rfl rfl ActT _ HBX.out (by kernel_rfl) rfl (by simp [Value.oneCell']) ?_
  refine (?_ : ∀ WF : World, WF.heap[w.heap.size]? = some (.cells #[.int .i64 0, .int .i64 1, .int .i64 st, .int .i64 en, .string ⟨#[107]⟩, .slice (some ⟨w.heap.size + 1, 0, none⟩) s.size cap, .int .i64 0, .int .i64 0, .string ⟨#[]⟩, .slice none 0 0, .int .i64 0, .int .i64 0, .int .i64 0, .bool false, .slice none 0 0] ActT (0, 0)) → W1.grownBy WF (some w.heap.size) → wpList _ _ _ _ _ WF) _ (setRow_sameJ HBX.out) (grown_setRowJ _ _ _)
  intro WF hF hG
  have HF := Lib.hid hF
  have HG := Lib.hid hG
  clear hF hG hc
  go_wp2
  refine bodyPost_ret (results_cell_row rfl _ _ w.heap.size ActT #[.int .i64 0, .int .i64 1, .int .i64 st, .int .i64 en, .string ⟨#[107]⟩, .slice (some ⟨w.heap.size + 1, 0, none⟩) s.size cap, .int .i64 0, .int .i64 0, .string ⟨#[]⟩, .slice none 0 0, .int .i64 0, .int .i64 0, .int .i64 0, .bool false, .slice none 0 0] (0, 0) _ rfl HF.out Try.underlying45 rfl (by kernel_rfl)) rfl ⟨(some ⟨w.heap.size + 1, 0, none⟩, s.size, cap), (none, 0, 0), (none, 0, 0), rfl, ⟨HB.out.otherJ HG.out (fun _ p hp => by injection hp with hp; subst hp; simp), bytesV_nilJ _, txV_nilJ _⟩, below_grown HLO.out HG.out (fun k hk => by injection hk with hk; omega)⟩
set_option maxRecDepth 100000 in
set_option maxHeartbeats 4000000 in
theorem get_any (st en : Int) (f : Bool) (s : ByteArray) (w : World) (hs : s.size ≤ 140737488355328) : Calls Try.prog 30 #[.int .i64 st, .int .i64 en, .bool f, .string s] w fun e w' => ∃ x y z, e = .returned (.agg (ActC (aGet st en f (byL s)) x y z)) ∧ ActS w' (aGet st en f (byL s)) x y z ∧ Below w.heap.size w w' := by
  have hb0 := below_alloc w (.cells #[.int .i64 0, .int .i64 0, .int .i64 0, .int .i64 0, .string ⟨#[]⟩, .slice none 0 0, .int .i64 0, .int .i64 0, .string ⟨#[]⟩, .slice none 0 0, .int .i64 0, .int .i64 0, .int .i64 0, .bool false, .slice none 0 0] ActT)
  have h0 := heap_alloc_new w (.cells #[.int .i64 0, .int .i64 0, .int .i64 0, .int .i64 0, .string ⟨#[]⟩, .slice none 0 0, .int .i64 0, .int .i64 0, .string ⟨#[]⟩, .slice none 0 0, .int .i64 0, .int .i64 0, .int .i64 0, .bool false, .slice none 0 0] ActT)
  obtain ⟨cap, W1, hc, hB, hb, hz⟩ := conv_strJ (w.alloc (.cells #[.int .i64 0, .int .i64 0, .int .i64 0, .int .i64 0, .string ⟨#[]⟩, .slice none 0 0, .int .i64 0, .int .i64 0, .string ⟨#[]⟩, .slice none 0 0, .int .i64 0, .int .i64 0, .int .i64 0, .bool false, .slice none 0 0] ActT)) s hs
  have hbx := (hb.block w.heap.size (by simp)).trans h0
  have HBX := Lib.hid hbx
  have HB := Lib.hid hB
  have HLO := Lib.hid (hb0.trans (hb.mono hb0.size))
  have e1 : (w.alloc (.cells #[.int .i64 0, .int .i64 0, .int .i64 0, .int .i64 0, .string ⟨#[]⟩, .slice none 0 0, .int .i64 0, .int .i64 0, .string ⟨#[]⟩, .slice none 0 0, .int .i64 0, .int .i64 0, .int .i64 0, .bool false, .slice none 0 0] ActT)).heap.size = w.heap.size + 1 := by simp
  rw [e1] at hc HB
  clear hb0 h0 hB hb hz hbx e1
  go_enter Try.func30, Try.ntmps30
  go_wp2_with (first | ((with_reducible show wpList _ _ _ (⟨_, Op.store _ (.tmp 8) _, _, _, _, _⟩ :: _) _ _); (refine Hid.out ?_)))
  refine Lib.hid ?_
  refine wpList_store_row rfl ActT _ _ rfl w.heap.size #[.int .i64 0, .int .i64 2, .int .i64 st, .int .i64 en, .string ⟨#[107]⟩, .slice none 0 0, .int .i64 0, .int .i64 0, .string ⟨#[]⟩, .slice (some ⟨w.heap.size + 1, 0, none⟩) s.size cap, .int .i64 0, .int .i64 0, .int .i64 0, .bool f, .slice none 0 0] rfl rfl ActT _ HBX.out (by kernel_rfl) rfl (by simp [Value.oneCell']) ?_
  refine (?_ : ∀ WF : World, WF.heap[w.heap.size]? = some (.cells #[.int .i64 0, .int .i64 2, .int .i64 st, .int .i64 en, .string ⟨#[107]⟩, .slice none 0 0, .int .i64 0, .int .i64 0, .string ⟨#[]⟩, .slice (some ⟨w.heap.size + 1, 0, none⟩) s.size cap, .int .i64 0, .int .i64 0, .int .i64 0, .bool f, .slice none 0 0] ActT (0, 0)) → W1.grownBy WF (some w.heap.size) → wpList _ _ _ _ _ WF) _ (setRow_sameJ HBX.out) (grown_setRowJ _ _ _)
  intro WF hF hG
  have HF := Lib.hid hF
  have HG := Lib.hid hG
  clear hF hG hc
  go_wp2
  refine bodyPost_ret (results_cell_row rfl _ _ w.heap.size ActT #[.int .i64 0, .int .i64 2, .int .i64 st, .int .i64 en, .string ⟨#[107]⟩, .slice none 0 0, .int .i64 0, .int .i64 0, .string ⟨#[]⟩, .slice (some ⟨w.heap.size + 1, 0, none⟩) s.size cap, .int .i64 0, .int .i64 0, .int .i64 0, .bool f, .slice none 0 0] (0, 0) _ rfl HF.out Try.underlying45 rfl (by kernel_rfl)) rfl ⟨(none, 0, 0), (some ⟨w.heap.size + 1, 0, none⟩, s.size, cap), (none, 0, 0), rfl, ⟨bytesV_nilJ _, HB.out.otherJ HG.out (fun _ p hp => by injection hp with hp; subst hp; simp), txV_nilJ _⟩, below_grown HLO.out HG.out (fun k hk => by injection hk with hk; omega)⟩
end Go.Proofs.Ytnefcbcioemfiaa
