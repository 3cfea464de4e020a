/-
  Contract of numbersOf of package ctx: a map whose keys are the numbers of a list's spaces. Conditions: a pool that is there; a list that can be read.
-/
import Derived.Test.YtkbkilkmiigahaaCOps
namespace Go.Proofs.Ytkbkilkmiigahaa.Cx
open Fld
open Go.ChangeShapes Go.WideShapes Go.ChangeAt Go.RowKit Go.Maps
set_option maxHeartbeats 1000000
theorem cell_lt {w : World} {b o : Nat} {v : Value} (h : w.cell? ⟨b, o, none⟩ = some v) : b < w.heap.size := by
  rcases Nat.lt_or_ge b w.heap.size with h1 | h1
  · exact h1
  · simp [World.cell?, Array.getElem?_eq_none h1] at h
/-- A list of integers that can be read. -/
structure IsInts (w : World) (ao : Option Addr) (cap : Nat) (A : List Int) : Prop where
  le : A.length ≤ cap
  cm : cap ≤ maxLen
  at_ : ∀ j (hj : j < A.length), ∃ b o, ao = some ⟨b, o, none⟩ ∧ w.cell? ⟨b, o + j, none⟩ = some (.int .i64 A[j])
  bd : ∀ a ∈ A, -9223372036854775808 ≤ a ∧ a ≤ 9223372036854775807
theorem IsInts.low {w w' : World} {ao : Option Addr} {cap B : Nat} {A : List Int} (h : IsInts w ao cap A) (hB : w.heap.size ≤ B) (k : Below B w w') : IsInts w' ao cap A :=
  ⟨h.le, h.cm, fun j hj => by
    obtain ⟨b, o, e, hc⟩ := h.at_ j hj
    exact ⟨b, o, e, (k.cell (p := ⟨b, o + j, none⟩) (Nat.lt_of_lt_of_le (cell_lt hc) hB)).trans hc⟩, h.bd⟩
def rdU : Value → Option (DataW Unit × List MemPlace)
  | .agg c => if c.size = 0 then some (.nil, []) else none
  | _ => none
theorem rdU_inv {v : Value} {y : DataW Unit × List MemPlace} (h : rdU v = some y) : v = .agg #[] := by
  cases v <;> try (cases h; done)
  rename_i c
  by_cases hc : c.size = 0
  · rw [Array.size_eq_zero_iff.1 hc]
  · simp [rdU, hc] at h
theorem zeroU (w : World) : (zeroValue 66).run Try.prog w = .ok (.agg #[]) w := by kernel_rfl
/-- At block kb there is a map whose keys are just the numbers of the spaces of A. -/
def KeptAt (w : World) (kb : Nat) (P : Pl) (A : List Int) : Prop :=
  ∃ D, w.ownsMap Try.prog 3 rdU kb A.length D ∧ ∀ m : Int, Maps.has D (keyL m) = true ↔ ∃ a ∈ A, P.of a ≠ 0 ∧ (P.of a : Int) = m
theorem KeptAt.lt {w : World} {kb : Nat} {P : Pl} {A : List Int} (h : KeptAt w kb P A) : kb < w.heap.size := by obtain ⟨D, h, _⟩ := h; exact h.lt
theorem KeptAt.same {w w' : World} {kb : Nat} {P : Pl} {A : List Int} (h : KeptAt w kb P A) (hb : w'.heap[kb]? = w.heap[kb]?) : KeptAt w' kb P A := by
  obtain ⟨D, ⟨es, clock, h1, h2⟩, h3⟩ := h
  exact ⟨D, ⟨es, clock, hb.trans h1, h2⟩, h3⟩
theorem KeptAt.snoc {w : World} {kb : Nat} {P : Pl} {A : List Int} (h : KeptAt w kb P A) (hl : A.length < maxLen) {x : Int} (hx : P.of x ≠ 0) (hn : P.of x ≤ 8191) :
    ∃ w', (Instr.mapUpdate 64 (.map (some kb)) (.int .i64 (P.of x : Int)) (.agg #[])).run Try.prog w = .ok () w' ∧ KeptAt w' kb P (A ++ [x]) ∧ w.grownBy w' (some kb) := by
  obtain ⟨D, ho, hD⟩ := h
  obtain ⟨w', hr, ho', hg⟩ := ho.update lawI Try.underlying64 hl (keyOf_int_mk Try.underlying3 (wfI (a := (P.of x : Int)) (by omega) (by omega))) (show rdU (.agg #[]) = some (.nil, []) from rfl)
  refine ⟨w', hr, ⟨_, by rw [List.length_append]; exact ho', fun m => ?_⟩, hg⟩
  by_cases e : m = (P.of x : Int)
  · subst e
    exact ⟨fun _ => ⟨x, by simp, hx, rfl⟩, fun _ => has_put_same ho.isMap keyL_lit _⟩
  · rw [has_put_other (keyL_ne e), hD m]
    constructor
    · rintro ⟨a, b, c⟩; exact ⟨a, List.mem_append_left _ b, c⟩
    · rintro ⟨a, b, c, d⟩
      rcases List.mem_append.1 b with b | b
      · exact ⟨a, b, c, d⟩
      · simp at b; subst b; exact absurd d.symm e
theorem KeptAt.skip {w : World} {kb : Nat} {P : Pl} {A : List Int} (h : KeptAt w kb P A) {x : Int} (hx : P.of x = 0) : KeptAt w kb P (A ++ [x]) := by
  obtain ⟨D, ho, hD⟩ := h
  refine ⟨D, by rw [List.length_append]; exact ho.mono (Nat.le_add_right _ _), fun m => (hD m).trans ⟨?_, ?_⟩⟩
  · rintro ⟨a, b, c⟩; exact ⟨a, List.mem_append_left _ b, c⟩
  · rintro ⟨a, b, c⟩
    rcases List.mem_append.1 b with b | b
    · exact ⟨a, b, c⟩
    · simp at b; subst b; exact absurd hx c.1
theorem KeptAt.look {w : World} {kb : Nat} {P : Pl} {A : List Int} (h : KeptAt w kb P A) (ok : P.Ok) {k : Nat} (k0 : 1 ≤ k) (k1 : k ≤ P.n) (hp : 0 ≤ P.T (k - 1)) :
    (Instr.lookup 64 (.map (some kb)) (.int .i64 (k : Int)) true).run Try.prog w = .ok (.tuple #[.agg #[], .bool (A.contains (P.T (k - 1)))]) w := by
  obtain ⟨D, ho, hD⟩ := h
  have hle := ok.le
  obtain ⟨v, ps, hrun, hv⟩ := ho.look_ok lawI Try.underlying64 (zeroU w) (show rdU (.agg #[]) = some (.nil, []) from rfl) (keyOf_int_mk Try.underlying3 (wfI (a := (k : Int)) (by omega) (by omega)))
  rw [hrun, rdU_inv hv]
  have e : Maps.has D (keyL (k : Int)) = A.contains (P.T (k - 1)) := by
    rw [Bool.eq_iff_iff, hD, List.contains_iff_mem]
    have ha := ok.of_at (i := k - 1) (by omega) hp
    constructor
    · rintro ⟨a, b, c, d⟩
      have := Pl.of_pos c
      have e1 : P.of a = k := by omega
      rw [e1] at this
      rw [this.2.2.1]; exact b
    · intro hm
      exact ⟨_, hm, by omega, by omega⟩
  rw [e]
theorem KeptAt.look0 {w : World} {kb : Nat} {P : Pl} {A : List Int} (h : KeptAt w kb P A) {k : Nat} (k1 : k ≤ 8191) :
    ∃ b, (Instr.lookup 64 (.map (some kb)) (.int .i64 (k : Int)) true).run Try.prog w = .ok (.tuple #[.agg #[], .bool b]) w := by
  obtain ⟨D, ho, hD⟩ := h
  obtain ⟨v, ps, hrun, hv⟩ := ho.look_ok lawI Try.underlying64 (zeroU w) (show rdU (.agg #[]) = some (.nil, []) from rfl) (keyOf_int_mk Try.underlying3 (wfI (a := (k : Int)) (by omega) (by omega)))
  exact ⟨_, by rw [hrun, rdU_inv hv]⟩
theorem numbersOf_any {pb bm ob : Nat} {P : Pl} (w : World) (H : PoolAt w pb bm ob P) {ao : Option Addr} {cap : Nat} {A : List Int} (HA : IsInts w ao cap A) :
    Calls Try.prog 36 #[.pointer (some ⟨pb, 0, none⟩), .slice ao A.length cap] w fun e w' => e = .returned (.map (some w.heap.size)) ∧ KeptAt w' w.heap.size P A ∧ Below w.heap.size w w' := by
  have hmm := @run_makeMap Try.prog
  have hn := H.le
  have hl := HA.le
  have hcm := HA.cm
  have K0 : KeptAt (w.alloc (.map #[] 0)) w.heap.size P (A.take 0) := ⟨.map [], World.ownsMap_made _ _ _ _, fun m => ⟨fun h => (by cases h), fun ⟨a, h, _⟩ => (by simp at h)⟩⟩
  have B0 : Below w.heap.size w (w.alloc (.map #[] 0)) := (Below.refl _ _).alloc (Nat.le_refl _) _
  unfold maxLen at hcm
  go_enter Try.func36, Try.ntmps36
  go_wp2
  go_loopw [13] (fun i wr => ∃ j : Nat, j ≤ A.length ∧ i = .int .i64 (j : Int) ∧ KeptAt wr w.heap.size P (A.take j) ∧ Below w.heap.size w wr) (fun i _ => A.length - (intOf i).toNat)
  case atStart => exact ⟨0, Nat.zero_le _, rfl, K0, B0⟩
  case round =>
    clear K0 B0 hmm
    obtain ⟨j, hj, rfl, K, B⟩ := hrel
    by_cases hlt : j < A.length
    · obtain ⟨b, o, rfl, hc⟩ := HA.at_ j hlt
      have hc : wr.cell? ⟨b, o + j, none⟩ = _ := (B.cell (p := ⟨b, o + j, none⟩) (cell_lt hc)).trans hc
      have hbd := HA.bd _ (List.getElem_mem hlt)
      have tk : A.take (j + 1) = A.take j ++ [A[j]] := by rw [List.take_add_one, List.getElem?_eq_getElem hlt]; rfl
      have OA := of_any wr (H.low B) hbd.1 hbd.2 (Pl.tells (P := P) A[j])
      obtain ⟨L, hL⟩ : ∃ L, A.length = L := ⟨_, rfl⟩
      rw [hL] at hl hj hlt ⊢
      by_cases hz : P.of A[j] = 0
      · have K1 := K.skip hz
        rw [← tk] at K1
        rw [hz] at OA
        have OA : Calls Try.prog 14 #[.pointer (some ⟨pb, 0, none⟩), .int .i64 A[j]] wr fun e w' => e = .returned (.tuple #[.int .i64 0, .bool false]) ∧ wr = w' := OA
        generalize A[j] = x at *
        clear K hz tk hL HA
        go_wp2_with (go_at_call 14; refine OA.mono ?_; rintro e w' ⟨rfl, rfl⟩)
        go_roundw
        case rel => exact ⟨j + 1, by omega, by go_num, K1, B⟩
        case measure => simp [intOf]; omega
      · obtain ⟨m0, m1, _, _⟩ := Pl.of_pos hz
        obtain ⟨w2, hr, K1, hg⟩ := K.snoc (by rw [List.length_take]; unfold maxLen; omega) hz (by omega)
        rw [← tk] at K1
        rw [decide_eq_true hz] at OA
        have B1 : Below w.heap.size w w2 := B.grown hg (by have := B.size; omega) (fun g e => by injection e with e; omega)
        have K1 := Lib.hid K1
        have B1 := Lib.hid B1
        generalize A[j] = x at *
        generalize P.of x = m at *
        clear K hz tk hL HA B hg
        go_wp2_with (go_at_call 14; refine OA.mono ?_; rintro e w' ⟨rfl, rfl⟩)
        go_roundw
        case rel => exact ⟨j + 1, by omega, by go_num, K1.out, B1.out⟩
        case measure => simp [intOf]; omega
    · obtain rfl : A.length = j := by omega
      rw [List.take_length] at K
      go_wp2
      go_ret
      exact ⟨rfl, K, B⟩
end Go.Proofs.Ytkbkilkmiigahaa.Cx
