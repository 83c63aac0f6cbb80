/-
  disk: New, a disk.
-/
import Derived.Test.YtdidalcflkphnaaDiL
import Derived.Test.YtdidalcflkphnaaLaw
namespace Go.Proofs.Ytdidalcflkphnaa
open Go.RowKit

theorem Try.info80 : (Try.prog.info? 80).map (fun i => (i.zero, i.size, i.bytes)) = some (some (.agg #[.slice none 0 0, .slice none 0 0, .bool false]), 3, 56) := by kernel_rfl
/-- slots that nobody wrote. -/
def noSl (n : Nat) : List Slot := List.replicate n ([], [], false)
def noHs (n : Nat) : List SlH := List.replicate n ((none, 0, 0), (none, 0, 0), false)
def newV (n : Nat) (p : Int) : DV := { pow := p, safe := [], read := [], base := 0, laid := false, sl := noSl n }
theorem kcells_len : ∀ hs : List SlH, (kcells hs).length = hs.length * 3
  | [] => rfl
  | x :: xs => by
    show (SV x.1 :: SV x.2.1 :: .bool x.2.2 :: kcells xs).length = _
    simp only [List.length_cons, kcells_len xs]
    omega
theorem madeK (n : Nat) : (madeCells #[.slice none 0 0, .slice none 0 0, .bool false] (n * 3)).toList = kcells (noHs n) := by
  apply List.ext_getElem?
  intro j
  by_cases hj : j < n * 3
  · have hq : j / 3 < n := by omega
    have hx : (noHs n)[j / 3]? = some ((none, 0, 0), (none, 0, 0), false) := by unfold noHs; rw [List.getElem?_replicate, if_pos hq]
    obtain ⟨a, b, c⟩ := kcells_at _ _ _ hx
    have hl : (madeCells #[.slice none 0 0, .slice none 0 0, .bool false] (n * 3)).toList[j]? = some ((#[Value.slice none 0 0, .slice none 0 0, .bool false] : Array Value)[j % 3]!) := by
      unfold madeCells
      rw [Array.getElem?_toList, Array.getElem?_map, Array.getElem?_range, if_pos hj]
      rfl
    rw [hl]
    have h3 : j % 3 = 0 ∨ j % 3 = 1 ∨ j % 3 = 2 := by omega
    rcases h3 with e | e | e
    · rw [e, show j = j / 3 * 3 by omega, a]; rfl
    · rw [e, show j = j / 3 * 3 + 1 by omega, b]; rfl
    · rw [e, show j = j / 3 * 3 + 2 by omega, c]; rfl
  · rw [List.getElem?_eq_none (by simp [size_madeCells]; omega), List.getElem?_eq_none (by rw [kcells_len]; simp [noHs]; omega)]
theorem SlM.fresh {w : World} {n : Nat} {F : Nat → Prop} {b : Nat} (h : w.ownsRow 0 KT 3 (.slice (some ⟨b, 0, none⟩) n n) n (kcells (noHs n))) (hb : F b) : SlM w F (some ⟨b, 0, none⟩, n, n) (noHs n) (noSl n) := by
  have hat : ∀ (i : Nat) x, (noHs n)[i]? = some x → x = ((none, 0, 0), (none, 0, 0), false) := fun i x hx => List.eq_of_mem_replicate (List.mem_of_getElem? hx)
  refine ⟨by rw [show (noSl n).length = n by simp [noSl]]; exact h, by simp [noSl], by simp [noSl, noHs], fun q hq => ?_, fun i x s hx hs => ?_, fun k l u v hu hv hkl => .inl ?_⟩
  · have : b = q := by simpa [SV, Value.ownBlock] using hq
    rw [← this]; exact hb
  · have := hat i x hx
    subst this
    have hs2 : s = ([], [], false) := List.eq_of_mem_replicate (List.mem_of_getElem? hs)
    subst hs2
    exact ⟨rfl, .nil _ _, .nil _ _⟩
  · unfold hdr at hu
    cases e : (noHs n)[k / 2]? with
    | none => rw [e] at hu; cases hu
    | some x =>
      have := hat _ x e
      subst this
      rw [e, Option.map_some] at hu
      have : u = (none, 0, 0) := by
        by_cases p : k % 2 = 0
        · rw [if_pos p] at hu; exact (Option.some.inj hu).symm
        · rw [if_neg p] at hu; exact (Option.some.inj hu).symm
      rw [this]
      rfl
theorem alloc_at (w : World) (o : Obj) : (w.alloc o).heap[w.heap.size]? = some o := by show (w.heap.push o)[w.heap.size]? = some o; simp
theorem alloc_sz (w : World) (o : Obj) : (w.alloc o).heap.size = w.heap.size + 1 := by simp
theorem sv_none {b : Nat} (h : (SV (none, 0, 0)).ownBlock = some b) : False := by simp [SV, Value.ownBlock] at h
/-- what is new. -/
def Fresh (w w' : World) : Nat → Prop := fun b => w.heap.size ≤ b ∧ b < w'.heap.size
set_option maxRecDepth 100000 in
set_option maxHeartbeats 4000000 in
theorem new_ok (n : Nat) (p : Int) (w : World) (h1 : 1 ≤ n) (h2 : n ≤ 512) (hp : p ≤ 9223372036854775807) :
    Calls Try.prog 11 #[.int .i64 (n : Nat), .int .i64 p] w fun e w' => ∃ g, e = .returned (.tuple #[.pointer (some ⟨g, 0, none⟩), .int .i64 0]) ∧ DiskM w' (Fresh w w') g (newV n p) ∧ Below w.heap.size w w' := by
  obtain ⟨i0, hi, hz0, hz1, hz2⟩ := info_parts Try.info80
  have q1 : ¬ ((n : Nat) : Int) < 1 := by omega
  have q2 : ¬ (512 : Int) < ((n : Nat) : Int) := by omega
  go_enter Try.func11, Try.ntmps11
  go_wp2_with (first | (at_make; refine Hid.out ?_))
  refine Lib.hid ?_
  refine wpList_make_full _ rfl _ _ 68 rfl w.heap.size KT i0 (.agg #[.slice none 0 0, .slice none 0 0, .bool false]) 3 Try.underlying68 hi hz0 hz1 _ _ _ _ n rfl rfl rfl rfl (by rw [hz2]; omega) (by unfold maxLen; omega) (Nat.le_refl _) ?_
  intro w3 hown3 hgrow3
  rw [show (Value.agg #[.slice none 0 0, .slice none 0 0, .bool false]).cells = #[.slice none 0 0, .slice none 0 0, .bool false] from rfl, madeK] at hown3
  have HO := Lib.hid hown3
  have HG := Lib.hid hgrow3
  clear hown3 hgrow3 hi
  go_wp2
  refine bodyPost_ret (results_tmp2 rfl _ _ _) rfl ?_
  have hsz := HG.out.size
  have hlt : w.heap.size < w3.heap.size := (HO.out.lt w.heap.size rfl).2
  have hS := SlM.fresh (F := fun b => b = w.heap.size) (own_zero HO.out) rfl
  have hB : Below w.heap.size w w3 := ⟨HG.out.os, HG.out.tape, HG.out.output, HG.out.size, fun i hi => HG.out.block i hi (by simp)⟩
  refine ⟨w3.heap.size, rfl, ⟨fun _ => False, fun b => b = w.heap.size, (none, 0, 0), (none, 0, 0), (some ⟨w.heap.size, 0, none⟩, n, n), noHs n, ?_, ?_, ?_, fun b hb => hb.elim, fun b hb => ?_, ?_, fun b hb => hb.2, by simp [newV], hp⟩, hB.alloc hsz _⟩
  · exact alloc_at w3 _
  · exact ⟨.nil _ _, bytesV_nil _, fun b hb => (sv_none hb).elim, fun a ha => (nomatch ha), fun b hb => (sv_none hb).elim⟩
  · exact hS.keep (G := fun _ => False) (.of_below (below_alloc w3 _)) (fun _ _ e => e)
  · subst hb; exact ⟨⟨Nat.le_refl _, by rw [alloc_sz]; omega⟩, by omega⟩
  · exact ⟨hsz, by rw [alloc_sz]; omega⟩
end Go.Proofs.Ytdidalcflkphnaa
