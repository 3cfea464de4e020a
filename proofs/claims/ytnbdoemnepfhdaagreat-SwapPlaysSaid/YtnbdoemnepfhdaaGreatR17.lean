/-
  Contracts and plain facts: NState, NProg. Conditions: each says its own.
-/
import Derived.Test.YtnbdoemnepfhdaaGreatR13
import Derived.Test.YtnbdoemnepfhdaaGreatR14
import Derived.Test.YtnbdoemnepfhdaaGreatR16
namespace Go.Proofs.YtnbdoemnepfhdaaGreat.Ts
open Fld
open Pt (idxI idx_bd slotI lastI)
open Mem (MemAt MemTo word setW)
open Go.ChangeShapes Go.WideShapes Go.ChangeAt Go.RowKit
set_option maxHeartbeats 1000000
set_option maxRecDepth 100000
theorem cell_row {w : World} {b : Nat} (i : Nat) {c : Array Value} {t : TypeId} {f : Nat × Nat} {v : Value} (h : w.heap[b]? = some (.cells c t f)) (hv : c[i]? = some v) : w.cell? ⟨b, i, none⟩ = some v := by
  simp [World.cell?, h, hv]
/-- The struct's cells. -/
structure RowP (w : World) (st sb : Nat) (p : Par) : Prop where
  row : w.heap[st]? = some (.cells #[.pointer (some ⟨sb, 0, none⟩), .int .u64 (p.b : Int), .int .i64 p.s, .int .i64 p.g] 111 (0, 0))
theorem RowP.lt {w : World} {st sb : Nat} {p : Par} (h : RowP w st sb p) : st < w.heap.size := (Array.getElem?_eq_some_iff.1 h.row).1
theorem RowP.cells {w : World} {st sb : Nat} {p : Par} (h : RowP w st sb p) : w.cell? ⟨st, 0, none⟩ = some (.pointer (some ⟨sb, 0, none⟩)) ∧ w.cell? ⟨st, 1, none⟩ = some (.int .u64 (p.b : Int)) ∧ w.cell? ⟨st, 2, none⟩ = some (.int .i64 p.s) ∧ w.cell? ⟨st, 3, none⟩ = some (.int .i64 p.g) :=
  ⟨cell_row 0 h.row rfl, cell_row 1 h.row rfl, cell_row 2 h.row rfl, cell_row 3 h.row rfl⟩
theorem RowP.drewN {w : World} {st sb : Nat} {p : Par} (h : RowP w st sb p) (n : Nat) : RowP (w.drewN n) st sb p := ⟨h.row⟩
theorem RowP.low {w w' : World} {st sb : Nat} {p : Par} (h : RowP w st sb p) (hb : Below w.heap.size w w') : RowP w' st sb p := ⟨(hb.block _ h.lt).trans h.row⟩
theorem RowP.firm (B st sb : Nat) (p : Par) : Firm B (fun W => RowP W st sb p) := fun V V' h hv => ⟨Firm.cells B st _ _ _ V V' h.row hv⟩
/-- The words of the places, and the bytes beside them. -/
structure PlAt (g : Nat → Nat) (p : Par) (T : Nat → Pl) : Prop where
  pl : ∀ i, i < p.n → ((word g (p.b + 16 * i) : Nat) : Int) = (T i).t ∧ ((word g (p.b + 16 * i + 8) : Nat) : Int) = (T i).d
  out : ∀ a, a < p.b ∨ p.b + 16 * p.n ≤ a → g a = p.o a
structure TsbAt (w : World) (st sb bm : Nat) (p : Par) (T : Nat → Pl) : Prop where
  ok : p.Ok
  row : RowP w st sb p
  mem : ∃ g, MemAt w sb bm p.S g ∧ PlAt g p T
theorem TsbAt.lt {w : World} {st sb bm : Nat} {p : Par} {T : Nat → Pl} (h : TsbAt w st sb bm p T) : st < w.heap.size ∧ sb < w.heap.size ∧ bm < w.heap.size ∧ st ≠ sb ∧ st ≠ bm ∧ bm ≠ sb := by
  obtain ⟨g, hm, _⟩ := h.mem
  refine ⟨h.row.lt, hm.lt.1, hm.lt.2, ?_, ?_, hm.ne⟩
  · rintro rfl
    obtain ⟨m, _, h1⟩ := hm.row
    rw [h.row.row] at h1
    simp at h1
  · rintro rfl
    obtain ⟨D, ⟨es, clock, h2, _⟩, _⟩ := hm.words
    rw [h.row.row] at h2; cases h2
theorem TsbAt.U {w : World} {st sb bm : Nat} {p : Par} {T : Nat → Pl} (h : TsbAt w st sb bm p T) {i : Nat} (hi : i < p.n) : (T i).U := by
  obtain ⟨g, hm, hp⟩ := h.mem
  obtain ⟨a, b⟩ := hp.pl i hi
  have h1 := Mem.word_lt g hm.good.lt (p.b + 16 * i)
  have h2 := Mem.word_lt g hm.good.lt (p.b + 16 * i + 8)
  exact ⟨by omega, by omega, by omega, by omega⟩
theorem TsbAt.same {w w' : World} {st sb bm : Nat} {p : Par} {T : Nat → Pl} (h : TsbAt w st sb bm p T) (h0 : w'.heap[st]? = w.heap[st]?) (h1 : w'.heap[sb]? = w.heap[sb]?) (h2 : w'.heap[bm]? = w.heap[bm]?) : TsbAt w' st sb bm p T := by
  obtain ⟨g, hm, hp⟩ := h.mem
  exact ⟨h.ok, ⟨h0.trans h.row.row⟩, g, hm.same h1 h2, hp⟩
theorem TsbAt.drewN {w : World} {st sb bm : Nat} {p : Par} {T : Nat → Pl} (h : TsbAt w st sb bm p T) (n : Nat) : TsbAt (w.drewN n) st sb bm p T := h.same rfl rfl rfl
theorem TsbAt.drew {w : World} {st sb bm : Nat} {p : Par} {T : Nat → Pl} (h : TsbAt w st sb bm p T) : TsbAt w.drew st sb bm p T := h.same rfl rfl rfl
theorem TsbAt.low {w w' : World} {st sb bm : Nat} {p : Par} {T : Nat → Pl} (h : TsbAt w st sb bm p T) (hb : Below w.heap.size w w') : TsbAt w' st sb bm p T :=
  h.same (hb.block _ h.lt.1) (hb.block _ h.lt.2.1) (hb.block _ h.lt.2.2.1)
theorem TsbAt.soft {w w' : World} {B st sb bm : Nat} {p : Par} {T : Nat → Pl} (h : TsbAt w st sb bm p T) (hs : Soft B w w') : TsbAt w' st sb bm p T := by
  have hl := h.lt
  obtain ⟨g, hm, hp⟩ := h.mem
  obtain ⟨m, _, h1⟩ := hm.row
  obtain ⟨D, ⟨es, clock, h2, _⟩, _⟩ := hm.words
  exact h.same (hs.block _ hl.1 (.inr fun o ho => by rw [h.row.row] at ho; cases ho; exact id)) (hs.block _ hl.2.1 (.inr fun o ho => by rw [h1] at ho; cases ho; exact id)) (hs.block _ hl.2.2.1 (.inr fun o ho => by rw [h2] at ho; cases ho; exact id))
theorem TsbAt.congr {w : World} {st sb bm : Nat} {p : Par} {T U : Nat → Pl} (h : TsbAt w st sb bm p T) (he : ∀ i, i < p.n → T i = U i) : TsbAt w st sb bm p U := by
  obtain ⟨g, hm, hp⟩ := h.mem
  exact ⟨h.ok, h.row, g, hm, fun i hi => by rw [← he i hi]; exact hp.pl i hi, hp.out⟩
/-- What a call does to a TSB. -/
def TsbTo (w w' : World) (st sb bm : Nat) (p : Par) (T : Nat → Pl) : Prop := ∃ bm', TsbAt w' st sb bm' p T ∧ (bm' = bm ∨ w.heap.size ≤ bm') ∧ Mem.Turn w w' sb bm
theorem TsbAt.to {w : World} {st sb bm : Nat} {p : Par} {T : Nat → Pl} (h : TsbAt w st sb bm p T) : TsbTo w w st sb bm p T := ⟨bm, h, .inl rfl, Mem.Turn.refl _ _ _⟩
theorem turn_low {w w' : World} (sb bm : Nat) (hb : Below w.heap.size w w') : Mem.Turn w w' sb bm := ⟨hb.os, hb.tape, hb.output, hb.size, fun k hk _ _ => hb.block k hk⟩
theorem TsbAt.to_low {w w' : World} {st sb bm : Nat} {p : Par} {T : Nat → Pl} (h : TsbAt w st sb bm p T) (hb : Below w.heap.size w w') : TsbTo w w' st sb bm p T := ⟨bm, h.low hb, .inl rfl, turn_low _ _ hb⟩
theorem TsbTo.trans {u v w : World} {st sb bm bm1 : Nat} {p : Par} {T' : Nat → Pl} (hb : bm1 = bm ∨ u.heap.size ≤ bm1) (t : Mem.Turn u v sb bm) (h2 : TsbTo v w st sb bm1 p T') : TsbTo u w st sb bm p T' := by
  obtain ⟨b, a1, a2, a3⟩ := h2
  refine ⟨b, a1, ?_, t.trans a3 hb⟩
  rcases a2 with rfl | a2
  · exact hb
  · exact .inr (Nat.le_trans t.size a2)
theorem TsbTo.undrew {w w' : World} {st sb bm : Nat} {p : Par} {T : Nat → Pl} (h : TsbTo w.drew w' st sb bm p T) : TsbTo w w' st sb bm p T := by
  obtain ⟨b, a1, a2, a3⟩ := h
  exact ⟨b, a1, a2, ⟨a3.os, a3.tape, a3.output, a3.size, a3.block⟩⟩
theorem TsbTo.unlow {w v w' : World} {st sb bm : Nat} {p : Par} {T : Nat → Pl} (hb : Below w.heap.size w v) (h : TsbTo v w' st sb bm p T) : TsbTo w w' st sb bm p T := TsbTo.trans (.inl rfl) (turn_low _ _ hb) h
theorem TsbTo.cong {w w' : World} {st sb bm : Nat} {p : Par} {T U : Nat → Pl} (h : TsbTo w w' st sb bm p T) (he : T = U) : TsbTo w w' st sb bm p U := he ▸ h
theorem stay_turn {w w' : World} {B st sb bm : Nat} {p : Par} {T : Nat → Pl} (h : TsbAt w st sb bm p T) (ht : Mem.Turn w w' sb bm) : Stay B w w' := fun k o _ ho hs => by
  obtain ⟨g, hm, _⟩ := h.mem
  refine (ht.block k (Array.getElem?_eq_some_iff.1 ho).1 ?_ ?_).trans ho
  · rintro rfl
    obtain ⟨m, _, h1⟩ := hm.row
    rw [h1] at ho; cases ho
    exact absurd hs (by show ¬ (_ = _); simp)
  · rintro rfl
    obtain ⟨D, ⟨es, clock, h2, _⟩, _⟩ := hm.words
    rw [h2] at ho; cases ho; exact hs
/-- Where a place stands. -/
theorem slot_at {p : Par} (h : p.Ok) (va : Int) : slotI (p.b : Int) (idxI va p.s p.n) = ((p.b + 16 * p.pl va : Nat) : Int) := by
  obtain ⟨e, hl⟩ := h.idx va
  have h1 := h.is
  have h2 := h.le
  rw [e]
  unfold slotI
  rw [if_pos (by omega)]
  omega
theorem setW_far {g : Nat → Nat} {k w a : Nat} (h : a < k ∨ k + 8 ≤ a) : setW g k w a = g a := by unfold setW; rw [if_neg (by omega)]
theorem put_tag {g : Nat → Nat} (hg : ∀ a, g a < 256) {p : Par} (h : p.Ok) {T : Nat → Pl} (hp : PlAt g p T) {i : Nat} (_hi : i < p.n) {v : Int} (v0 : 0 ≤ v) (v1 : v < 18446744073709551616) : PlAt (setW g (p.b + 16 * i) v.toNat) p (setP T i ⟨v, (T i).d⟩) := by
  have ha := h.al
  refine ⟨fun j hj => ?_, fun a h2 => by rw [setW_far (by omega)]; exact hp.out a h2⟩
  obtain ⟨a, b⟩ := hp.pl j hj
  by_cases e : j = i
  · subst e
    rw [setP_at, Mem.word_setW_same hg _ (by omega), Mem.word_setW_other (by omega) (by omega) (by omega)]
    exact ⟨Int.toNat_of_nonneg v0, b⟩
  · rw [setP_ne e, Mem.word_setW_other (by omega) (by omega) (by omega), Mem.word_setW_other (by omega) (by omega) (by omega)]
    exact ⟨a, b⟩
theorem put_data {g : Nat → Nat} (hg : ∀ a, g a < 256) {p : Par} (h : p.Ok) {T : Nat → Pl} (hp : PlAt g p T) {i : Nat} (_hi : i < p.n) {v : Int} (v0 : 0 ≤ v) (v1 : v < 18446744073709551616) : PlAt (setW g (p.b + 16 * i + 8) v.toNat) p (setP T i ⟨(T i).t, v⟩) := by
  have ha := h.al
  refine ⟨fun j hj => ?_, fun a h2 => by rw [setW_far (by omega)]; exact hp.out a h2⟩
  obtain ⟨a, b⟩ := hp.pl j hj
  by_cases e : j = i
  · subst e
    rw [setP_at, Mem.word_setW_same hg _ (by omega), Mem.word_setW_other (by omega) (by omega) (by omega)]
    exact ⟨a, Int.toNat_of_nonneg v0⟩
  · rw [setP_ne e, Mem.word_setW_other (by omega) (by omega) (by omega), Mem.word_setW_other (by omega) (by omega) (by omega)]
    exact ⟨a, b⟩
/-- A memory that a call has changed, and what stands at the places then. -/
theorem to_of {w w' : World} {st sb bm : Nat} {p : Par} {T : Nat → Pl} {g : Nat → Nat} (ok : p.Ok) (row : RowP w st sb p) (hne : st ≠ sb) (hne2 : st ≠ bm) (h : MemTo w w' sb bm p.S g) (hp : PlAt g p T) : TsbTo w w' st sb bm p T := by
  obtain ⟨b, a1, a2, a3⟩ := h
  exact ⟨b, ⟨ok, ⟨(a3.block _ row.lt hne hne2).trans row.row⟩, g, a1, hp⟩, a2, a3⟩
/-! ### The memory's calls, at a place -/
theorem place_in {p : Par} (h : p.Ok) {i : Nat} (hi : i < p.n) (k : Nat) (hk : k ≤ 16) : p.b + 16 * i + k ≤ p.S ∧ p.b + 16 * i + k < 18446744073709551616 := by
  have h1 := h.is
  have h2 := h.le
  omega
theorem word_at {w : World} {st sb bm : Nat} {p : Par} {T : Nat → Pl} (h : TsbAt w st sb bm p T) {i : Nat} (hi : i < p.n) :
    Calls Tryz.prog 107 #[.pointer (some ⟨sb, 0, none⟩), .int .u64 ((p.b + 16 * i : Nat) : Int)] w fun e w' => e = .returned (.tuple #[.int .u64 (T i).t, .int .i64 0]) ∧ w = w' := by
  obtain ⟨g, hm, hp⟩ := h.mem
  have hin := place_in h.ok hi 16 (Nat.le_refl _)
  have ha := h.ok.al
  have hy : Mem.mayI p.S ((p.b + 16 * i : Nat) : Int) 8 8 = 0 := Mem.may_ok (by omega) (by omega)
  refine (Mem.word_any sb bm p.S g _ w hm (by omega) (by omega)).mono ?_
  rintro e w' ⟨rfl, rfl⟩
  unfold Mem.rdW; rw [if_pos hy, hy, Int.toNat_natCast, (hp.pl i hi).1]; exact ⟨rfl, rfl⟩
theorem pair_at {w : World} {st sb bm : Nat} {p : Par} {T : Nat → Pl} (h : TsbAt w st sb bm p T) {i : Nat} (hi : i < p.n) :
    Calls Tryz.prog 74 #[.pointer (some ⟨sb, 0, none⟩), .int .u64 ((p.b + 16 * i : Nat) : Int)] w fun e w' => e = .returned (.tuple #[.int .u64 (T i).t, .int .u64 (T i).d, .int .i64 0]) ∧ ∃ n, w' = w.drewN n := by
  obtain ⟨g, hm, hp⟩ := h.mem
  have hin := place_in h.ok hi 16 (Nat.le_refl _)
  have ha := h.ok.al
  have hy : Mem.mayI p.S ((p.b + 16 * i : Nat) : Int) 16 16 = 0 := Mem.may_ok (by omega) (by omega)
  refine (Mem.pair_any sb bm p.S g _ w hm (by omega) (by omega)).mono ?_
  rintro e w' ⟨rfl, n, rfl⟩
  unfold Mem.rdP; rw [if_pos hy, if_pos hy, hy, Int.toNat_natCast, Nat.add_zero, (hp.pl i hi).1, (hp.pl i hi).2]; exact ⟨rfl, n, rfl⟩
theorem putTag_at {w : World} {st sb bm : Nat} {p : Par} {T : Nat → Pl} (h : TsbAt w st sb bm p T) {i : Nat} (hi : i < p.n) (v : Int) (v0 : 0 ≤ v) (v1 : v ≤ 18446744073709551615) :
    Calls Tryz.prog 95 #[.pointer (some ⟨sb, 0, none⟩), .int .u64 ((p.b + 16 * i : Nat) : Int), .int .u64 v] w fun e w' => e = .returned (.int .i64 0) ∧ TsbTo w w' st sb bm p (setP T i ⟨v, (T i).d⟩) := by
  obtain ⟨g, hm, hp⟩ := h.mem
  have hl := h.lt
  have hin := place_in h.ok hi 16 (Nat.le_refl _)
  have ha := h.ok.al
  have hy : Mem.mayI p.S ((p.b + 16 * i : Nat) : Int) 8 8 = 0 := Mem.may_ok (by omega) (by omega)
  refine (Mem.putWord_any sb bm p.S g _ v w hm (by omega) (by omega) v0 (by omega)).mono ?_
  rintro e w' ⟨rfl, M⟩
  unfold Mem.stW at M; rw [if_pos hy, Int.toNat_natCast] at M
  exact ⟨by rw [hy], to_of h.ok h.row hl.2.2.2.1 hl.2.2.2.2.1 M (put_tag hm.good.lt h.ok hp hi v0 (by omega))⟩
theorem putData_at {w : World} {st sb bm : Nat} {p : Par} {T : Nat → Pl} (h : TsbAt w st sb bm p T) {i : Nat} (hi : i < p.n) (v : Int) (v0 : 0 ≤ v) (v1 : v ≤ 18446744073709551615) :
    Calls Tryz.prog 95 #[.pointer (some ⟨sb, 0, none⟩), .int .u64 (((p.b + 16 * i : Nat) : Int) + 8), .int .u64 v] w fun e w' => e = .returned (.int .i64 0) ∧ TsbTo w w' st sb bm p (setP T i ⟨(T i).t, v⟩) := by
  obtain ⟨g, hm, hp⟩ := h.mem
  have hl := h.lt
  have hin := place_in h.ok hi 16 (Nat.le_refl _)
  have ha := h.ok.al
  have hy : Mem.mayI p.S (((p.b + 16 * i : Nat) : Int) + 8) 8 8 = 0 := Mem.may_ok (by omega) (by omega)
  refine (Mem.putWord_any sb bm p.S g _ v w hm (by omega) (by omega) v0 (by omega)).mono ?_
  rintro e w' ⟨rfl, M⟩
  unfold Mem.stW at M; rw [if_pos hy, show (((p.b + 16 * i : Nat) : Int) + 8).toNat = p.b + 16 * i + 8 by omega] at M
  exact ⟨by rw [hy], to_of h.ok h.row hl.2.2.2.1 hl.2.2.2.2.1 M (put_data hm.good.lt h.ok hp hi v0 (by omega))⟩
/-- Whatever stands in the memory: a place is made empty. -/
theorem putPair_raw {w : World} {st sb bm : Nat} {p : Par} {g : Nat → Nat} (ok : p.Ok) (row : RowP w st sb p) (hm : MemAt w sb bm p.S g) (hne : st ≠ sb) (hne2 : st ≠ bm) {T : Nat → Pl} (hp : PlAt g p T) {i : Nat} (hi : i < p.n) :
    Calls Tryz.prog 140 #[.pointer (some ⟨sb, 0, none⟩), .int .u64 ((p.b + 16 * i : Nat) : Int), .int .u64 9223372036854775807, .int .u64 0] w fun e w' => e = .returned (.int .i64 0) ∧ TsbTo w w' st sb bm p (setP T i Pl.none) := by
  have hin := place_in ok hi 16 (Nat.le_refl _)
  have ha := ok.al
  have hy : Mem.mayI p.S ((p.b + 16 * i : Nat) : Int) 16 16 = 0 := Mem.may_ok (by omega) (by omega)
  refine (Mem.putPair_any sb bm p.S g _ 9223372036854775807 0 w hm (by omega) (by omega) (by omega) (by omega) (by omega) (by omega)).mono ?_
  rintro e w' ⟨rfl, M⟩
  unfold Mem.stP at M; rw [if_pos hy, Int.toNat_natCast] at M
  have q1 := put_tag hm.good.lt ok hp hi (v := 9223372036854775807) (by omega) (by omega)
  have q2 := put_data (Mem.setW_lt hm.good.lt _ _) ok q1 hi (v := 0) (by omega) (by omega)
  rw [setP_twice, setP_at] at q2
  exact ⟨by rw [hy], to_of ok row hne hne2 M q2⟩
theorem putPair_at {w : World} {st sb bm : Nat} {p : Par} {T : Nat → Pl} (h : TsbAt w st sb bm p T) {i : Nat} (hi : i < p.n) :
    Calls Tryz.prog 140 #[.pointer (some ⟨sb, 0, none⟩), .int .u64 ((p.b + 16 * i : Nat) : Int), .int .u64 9223372036854775807, .int .u64 0] w fun e w' => e = .returned (.int .i64 0) ∧ TsbTo w w' st sb bm p (setP T i Pl.none) := by
  obtain ⟨g, hm, hp⟩ := h.mem
  have hl := h.lt
  exact putPair_raw h.ok h.row hm hl.2.2.2.1 hl.2.2.2.2.1 hp hi
end Go.Proofs.YtnbdoemnepfhdaaGreat.Ts

namespace Go.Proofs.YtnbdoemnepfhdaaGreat.Ts
open Fld
open Pt (idxI idx_bd slotI lastI)
open Mem (MemAt MemTo word setW)
open Go.ChangeShapes Go.WideShapes Go.ChangeAt Go.RowKit
set_option maxHeartbeats 2000000
set_option maxRecDepth 100000
theorem ret_i {i k : Int} (h : i = k) : Ending.returned (.int .i64 i) = .returned (.int .i64 k) := by rw [h]
theorem ret_u {i k : Int} (h : i = k) : Ending.returned (.int .u64 i) = .returned (.int .u64 k) := by rw [h]
theorem ret_b {i k : Bool} (h : i = k) : Ending.returned (.bool i) = .returned (.bool k) := by rw [h]
theorem places_any (s g : Int) (w : World) :
    Calls Tryz.prog 40 #[.int .i64 s, .int .i64 g] w fun e w' => e = .returned (.int .i64 (placesI s g)) ∧ w = w' := by
  have CM := Lib.hid (fun w => pmay_any s w)
  have CB := Lib.hid (fun w => bytes_any s w)
  have C3 := Lib.hid (fun w => bytes_any 3 w)
  cases hs : sizeB s
  · have H := Lib.hid (show (0 : Int) = placesI s g from (places_no (by rw [hs]; simp)).symm)
    rw [hs] at CM
    clear CB C3
    go_enter Tryz.func40, Tryz.ntmps40
    go_wp2_with (go_at_call 67; refine (CM.out _).mono ?_; rintro e w' ⟨rfl, rfl⟩)
    go_ret
    exact ⟨ret_i H.out, rfl⟩
  · rw [hs] at CM
    by_cases h0 : g < 0
    · have H := Lib.hid (show (0 : Int) = placesI s g from (places_no (fun h => by omega)).symm)
      clear CB C3
      go_enter Tryz.func40, Tryz.ntmps40
      go_wp2_with (go_at_call 67; refine (CM.out _).mono ?_; rintro e w' ⟨rfl, rfl⟩)
      go_ret
      exact ⟨ret_i H.out, rfl⟩
    · by_cases h1 : 4 ≤ g
      · have H := Lib.hid (show (0 : Int) = placesI s g from (places_no (fun h => by omega)).symm)
        clear CB C3
        go_enter Tryz.func40, Tryz.ntmps40
        go_wp2_with (go_at_call 67; refine (CM.out _).mono ?_; rintro e w' ⟨rfl, rfl⟩)
        go_ret
        exact ⟨ret_i H.out, rfl⟩
      · have hg : g = 0 ∨ g = 1 ∨ g = 2 ∨ g = 3 := by omega
        have hb3 : bytesI 3 = 4194304 := rfl
        rw [hb3] at C3
        rcases sizeB_true hs with rfl | rfl | rfl | rfl <;> rcases hg with rfl | rfl | rfl | rfl
        all_goals
          clear hs h0 h1 hb3
          (try rw [show bytesI 0 = 8192 from rfl] at CB)
          (try rw [show bytesI 1 = 65536 from rfl] at CB)
          (try rw [show bytesI 2 = 524288 from rfl] at CB)
          (try rw [show bytesI 3 = 4194304 from rfl] at CB)
          go_enter Tryz.func40, Tryz.ntmps40
          go_wp2_with (first | (go_at_call 67; refine (CM.out _).mono ?_; rintro e w' ⟨rfl, rfl⟩) | (go_at_call 66; (with_reducible refine (C3.out _).mono ?_); rintro e w' ⟨rfl, rfl⟩) | (go_at_call 66; (with_reducible refine (CB.out _).mono ?_); rintro e w' ⟨rfl, rfl⟩))
          go_ret
          exact ⟨rfl, rfl⟩
theorem len_any {st sb : Nat} {p : Par} (hp : p.Ok) (w : World) (h : RowP w st sb p) :
    Calls Tryz.prog 35 #[.pointer (some ⟨st, 0, none⟩)] w fun e w' => e = .returned (.int .i64 (p.n : Int)) ∧ ∃ m, w' = w.drewN m := by
  have C := Lib.hid (fun w => places_any p.s p.g w)
  rw [← hp.hn] at C
  obtain ⟨c0, c1, c2, c3⟩ := h.cells
  clear hp h
  go_enter Tryz.func35, Tryz.ntmps35
  go_wp2_with fail
  go_quiet ((go_at_call 40; refine (C.out _).mono ?_; rintro e w' ⟨rfl, rfl⟩; exact ⟨rfl, _, rfl⟩))
  go_wp2_with fail
  go_ret
  exact ⟨rfl, _, rfl⟩
theorem base_any {st sb : Nat} {p : Par} (w : World) (h : RowP w st sb p) :
    Calls Tryz.prog 34 #[.pointer (some ⟨st, 0, none⟩)] w fun e w' => e = .returned (.int .u64 (p.b : Int)) ∧ w = w' := by
  obtain ⟨c0, c1, c2, c3⟩ := h.cells
  clear h
  go_enter Tryz.func34, Tryz.ntmps34
  go_wp2
  go_ret
  exact ⟨rfl, rfl⟩
theorem grade_any {st sb : Nat} {p : Par} (w : World) (h : RowP w st sb p) :
    Calls Tryz.prog 36 #[.pointer (some ⟨st, 0, none⟩)] w fun e w' => e = .returned (.int .i64 p.g) ∧ w = w' := by
  obtain ⟨c0, c1, c2, c3⟩ := h.cells
  clear h
  go_enter Tryz.func36, Tryz.ntmps36
  go_wp2
  go_ret
  exact ⟨rfl, rfl⟩
theorem tslot_any {st sb : Nat} {p : Par} (hp : p.Ok) (va : Int) (v0 : 0 ≤ va) (v1 : va ≤ 18446744073709551615) (w : World) (h : RowP w st sb p) :
    Calls Tryz.prog 46 #[.pointer (some ⟨st, 0, none⟩), .int .u64 va] w fun e w' => e = .returned (.int .u64 ((p.b + 16 * p.pl va : Nat) : Int)) ∧ ∃ m, w' = w.drewN m := by
  have hn := hp.n_bd
  have hb1 := hp.is
  have hb2 := hp.le
  have CL := Lib.hid (fun n => len_any hp (w.drewN n) (h.drewN n))
  have CS := Lib.hid (fun w => Pt.slot_any (p.b : Int) (p.n : Int) va p.s (by omega) (by omega) v0 v1 hp.hs (by omega) (by omega) w)
  rw [slot_at hp] at CS
  obtain ⟨c0, c1, c2, c3⟩ := h.cells
  generalize p.b + 16 * p.pl va = A at *
  clear hp h hn hb1 hb2
  go_enter Tryz.func46, Tryz.ntmps46
  go_wp2_with fail
  go_quiet (first | (go_at_call 35; (with_reducible refine (CL.out _).mono ?_); rintro e w' ⟨rfl, m, rfl⟩; exact ⟨rfl, _, by rw [World.drewN_drewN]⟩) | (go_at_call 76; (with_reducible refine (CS.out _).mono ?_); rintro e w' ⟨rfl, m, rfl⟩; exact ⟨rfl, _, by rw [World.drewN_drewN]⟩))
  go_wp2_with fail
  go_ret
  exact ⟨rfl, _, rfl⟩
theorem tag_any {st sb bm : Nat} {p : Par} {T : Nat → Pl} (w : World) (h : TsbAt w st sb bm p T) {i : Nat} (hi : i < p.n) :
    Calls Tryz.prog 71 #[.pointer (some ⟨st, 0, none⟩), .int .u64 ((p.b + 16 * i : Nat) : Int)] w fun e w' => e = .returned (.int .u64 (T i).t) ∧ w = w' := by
  have C := Lib.hid (word_at h hi)
  obtain ⟨c0, c1, c2, c3⟩ := h.row.cells
  generalize p.b + 16 * i = A at *
  clear h
  go_enter Tryz.func71, Tryz.ntmps71
  go_wp2_with (go_at_call 107; refine C.out.mono ?_; rintro e w' ⟨rfl, rfl⟩)
  go_ret
  exact ⟨rfl, rfl⟩
end Go.Proofs.YtnbdoemnepfhdaaGreat.Ts

