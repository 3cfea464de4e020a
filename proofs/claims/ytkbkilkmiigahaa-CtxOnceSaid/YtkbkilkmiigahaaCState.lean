/-
  What it means that a world holds a pool: the struct's cells, the list of owners, the map of numbers. Conditions: none.
-/
import Derived.Test.YtkbkilkmiigahaaCMath
import Derived.Test.YtkbkilkmiigahaaPList
import Derived.WalkKit
import Derived.ProofKit
import Derived.OpenShut
import Derived.WalkLawsBesides
import Derived.Deep.QuietTactic
import Derived.BigQuiet
import Derived.Lib.Hide
import Derived.Lib.MinMax
import Derived.Maps.OwnOps
import Derived.Maps.OwnSet
import Derived.Maps.Ext
import Derived.RegionTactic
import Derived.RangeFuncNested
import Derived.RangeFuncCalls
import Derived.RangeFuncLeaves
import Derived.RangeFuncBox
import Derived.ChangeAlike
namespace Go.Proofs.Ytkbkilkmiigahaa.Cx
open Fld
open Go.ChangeShapes Go.WideShapes Go.ChangeAt Go.RowKit Go.Maps
set_option maxHeartbeats 400000
/-! ### The list of owners -/
def rowI (T : Nat → Int) (n : Nat) : Array Value := ((List.range n).map fun i => Value.int .i64 (T i)).toArray
def lstT (T : Nat → Int) (n : Nat) : List Int := (List.range n).map T
theorem rowI_size (T : Nat → Int) (n : Nat) : (rowI T n).size = n := by simp [rowI]
theorem rowI_get (T : Nat → Int) {n j : Nat} (h : j < n) : (rowI T n)[j]? = some (.int .i64 (T j)) := by simp [rowI, h]
theorem rowI_set (T : Nat → Int) {n j : Nat} (v : Int) : (rowI T n).setIfInBounds j (.int .i64 v) = rowI (setT T j v) n := by
  apply Array.ext_getElem?
  intro k
  rw [Array.getElem?_setIfInBounds]
  by_cases hk : k < n
  · rw [rowI_get (setT T j v) hk, rowI_get T hk]
    by_cases e : j = k
    · subst e; rw [if_pos rfl, if_pos (by rw [rowI_size]; exact hk), setT_same]
    · rw [if_neg e, setT_other T v (Ne.symm e)]
  · have h1 : ∀ V : Nat → Int, (rowI V n)[k]? = none := fun V => by simp [rowI]; omega
    rw [h1, h1]
    split
    · split
      · rename_i e h2; rw [rowI_size] at h2; omega
      · rfl
    · rfl
theorem lstT_length (T : Nat → Int) (n : Nat) : (lstT T n).length = n := by simp [lstT]
theorem lstT_get (T : Nat → Int) {n j : Nat} (h : j < (lstT T n).length) : (lstT T n)[j] = T j := by simp [lstT]
theorem rowI_lst (T : Nat → Int) (n : Nat) : (rowI T n).toList = intsV (lstT T n) := by simp [rowI, lstT, intsV]
theorem lstT_set (T : Nat → Int) (n i : Nat) (v : Int) : (lstT T n).set i v = lstT (setT T i v) n := by
  apply List.ext_getElem?
  intro k
  rw [List.getElem?_set]
  simp only [lstT, List.length_map, List.length_range, List.getElem?_map]
  by_cases e : i = k
  · subst e
    rw [if_pos rfl]
    split
    · rename_i h; rw [List.getElem?_range h]; simp [setT_same]
    · rename_i h; rw [List.getElem?_eq_none (by simpa using h)]; rfl
  · rw [if_neg e]
    by_cases hk : k < n
    · rw [List.getElem?_range hk]; simp [setT_other T v (Ne.symm e)]
    · rw [List.getElem?_eq_none (by simpa using hk)]; rfl
/-! ### The map -/
theorem lawI : Keyed Try.prog 3 := int_keyed Try.underlying3
theorem zeroI (w : World) : (zeroValue 3).run Try.prog w = .ok (.int .i64 0) w := by kernel_rfl
abbrev keyL (x : Int) : Lit := .int .i64 x
abbrev elt (k : Int) : DataW Unit := .lit (.int .i64 k)
theorem keyL_lit {x : Int} : WideAt.IsKeyLit (keyL x) := trivial
theorem keyL_inj {x y : Int} (h : keyL x = keyL y) : x = y := by injection h
theorem keyL_ne {x y : Int} (h : x ≠ y) : keyL x ≠ keyL y := fun e => h (keyL_inj e)
theorem wfI {a : Int} (h0 : -9223372036854775808 ≤ a) (h1 : a ≤ 9223372036854775807) : (Lit.int .i64 a).wf = true := by
  simp only [Lit.wf, IntKind.min, IntKind.max, Bool.and_eq_true, decide_eq_true_eq, show IntKind.i64.signed = true from rfl, show IntKind.i64.bits = 64 from rfl, if_true]
  exact ⟨by omega, by omega⟩
/-- The map D has the numbers of M's spaces. -/
structure MapIs (D : DataW Unit) (n : Nat) (M : Nat → Int) : Prop where
  has_ : ∀ kl, Maps.has D kl = true → ∃ i, i < n ∧ kl = keyL (M i) ∧ 0 ≤ M i
  at_ : ∀ i, i < n → 0 ≤ M i → Maps.has D (keyL (M i)) = true ∧ D.atKey (keyL (M i)) (elt 0) = elt ((i : Int) + 1)
def Apart (n : Nat) (M : Nat → Int) : Prop := ∀ i j, i < n → j < n → M i = M j → 0 ≤ M i → i = j
theorem MapIs.empty (n : Nat) : MapIs (.map []) n (fun _ => -1) := ⟨fun kl h => (by cases h), fun i _ h => absurd h (by omega)⟩
theorem MapIs.put {D : DataW Unit} {n : Nat} {M : Nat → Int} (h : MapIs D n M) (hm : IsMap D) {i : Nat} (hi : i < n) {x : Int} (hx : 0 ≤ x) (hf : M i < 0) (hn : ∀ j, j < n → M j ≠ x) : MapIs (D.put (keyL x) (elt ((i : Int) + 1))) n (setT M i x) where
  has_ kl hkl := by
    by_cases e : kl = keyL x
    · exact ⟨i, hi, by rw [setT_same]; exact e, by rw [setT_same]; exact hx⟩
    · rw [has_put_other e] at hkl
      obtain ⟨j, a, b, c⟩ := h.has_ kl hkl
      have hj : j ≠ i := fun e => by subst e; omega
      exact ⟨j, a, by rw [setT_other M x hj]; exact b, by rw [setT_other M x hj]; exact c⟩
  at_ j hj h0 := by
    by_cases e : j = i
    · subst e; rw [setT_same]; exact ⟨has_put_same hm keyL_lit _, atKey_put_same hm keyL_lit _ _⟩
    · rw [setT_other M x e] at h0 ⊢
      have hk := keyL_ne (hn j hj)
      rw [has_put_other hk, atKey_put_other hk]; exact h.at_ j hj h0
theorem MapIs.del {D : DataW Unit} {n : Nat} {M : Nat → Int} (h : MapIs D n M) (ha : Apart n M) {i : Nat} (hi : i < n) (h0 : 0 ≤ M i) : MapIs (D.del (keyL (M i))) n (setT M i (-1)) where
  has_ kl hkl := by
    by_cases e : kl = keyL (M i)
    · subst e; rw [has_del_same] at hkl; cases hkl
    · rw [has_del_other e] at hkl
      obtain ⟨j, a, b, c⟩ := h.has_ kl hkl
      have hj : j ≠ i := fun e2 => by subst e2; exact e b
      exact ⟨j, a, by rw [setT_other M _ hj]; exact b, by rw [setT_other M _ hj]; exact c⟩
  at_ j hj hj0 := by
    by_cases e : j = i
    · subst e; rw [setT_same] at hj0; omega
    · rw [setT_other M _ e] at hj0 ⊢
      have hk := keyL_ne (fun e2 => e (ha j i hj hi e2 hj0))
      rw [has_del_other hk, atKey_del_other hk]; exact h.at_ j hj hj0
theorem MapIs.congr {D : DataW Unit} {n : Nat} {M U : Nat → Int} (h : MapIs D n M) (e : ∀ i, i < n → M i = U i) : MapIs D n U where
  has_ kl hkl := by obtain ⟨i, a, b, c⟩ := h.has_ kl hkl; exact ⟨i, a, by rw [← e i a]; exact b, by rw [← e i a]; exact c⟩
  at_ i hi h0 := by rw [← e i hi] at h0 ⊢; exact h.at_ i hi h0
/-- The spaces that have a number. -/
def liveT (M : Nat → Int) : Nat → List Int
  | 0 => []
  | n + 1 => if M n < 0 then liveT M n else liveT M n ++ [M n]
theorem mem_live {M : Nat → Int} {x : Int} : ∀ {n : Nat}, x ∈ liveT M n ↔ ∃ i, i < n ∧ M i = x ∧ 0 ≤ x
  | 0 => by simp [liveT]
  | n + 1 => by
    unfold liveT
    by_cases h : M n < 0
    · rw [if_pos h, mem_live]
      constructor
      · rintro ⟨i, a, b⟩; exact ⟨i, by omega, b⟩
      · rintro ⟨i, a, b, c⟩
        exact ⟨i, by
          by_cases e : i = n
          · subst e; omega
          · omega, b, c⟩
    · rw [if_neg h, List.mem_append, mem_live]
      constructor
      · rintro (⟨i, a, b⟩ | h2)
        · exact ⟨i, by omega, b⟩
        · simp at h2; subst h2; exact ⟨n, by omega, rfl, by omega⟩
      · rintro ⟨i, a, b, c⟩
        by_cases e : i = n
        · subst e; exact .inr (by simp [b])
        · exact .inl ⟨i, by omega, b, c⟩
theorem live_nodup {M : Nat → Int} : ∀ {n : Nat}, Apart n M → (liveT M n).Nodup
  | 0, _ => List.nodup_nil
  | n + 1, h => by
    have ih := live_nodup (n := n) (fun i j hi hj => h i j (by omega) (by omega))
    unfold liveT
    by_cases h0 : M n < 0
    · rw [if_pos h0]; exact ih
    · rw [if_neg h0, List.nodup_append]
      refine ⟨ih, by simp, ?_⟩
      intro a ha b hb e
      simp at hb; subst hb; subst e
      obtain ⟨i, h1, h2, h3⟩ := mem_live.1 ha
      have := h i n (by omega) (by omega) h2 (by omega)
      omega
theorem live_length (M : Nat → Int) : ∀ n, (liveT M n).length + frN M n = n
  | 0 => rfl
  | n + 1 => by
    have := live_length M n
    unfold liveT frN
    by_cases h : M n < 0
    · rw [if_pos h, if_pos h]; omega
    · rw [if_neg h, if_neg h]; simp; omega
theorem nodup_sub {α : Type} [DecidableEq α] : ∀ (l m : List α), l.Nodup → (∀ x ∈ l, x ∈ m) → l.length ≤ m.length
  | [], _, _, _ => Nat.zero_le _
  | x :: l, m, hn, h => by
    obtain ⟨h1, h2⟩ := List.nodup_cons.1 hn
    have := nodup_sub l (m.erase x) h2 (fun y hy => (List.mem_erase_of_ne (fun e => h1 (by rw [← e]; exact hy))).2 (h y (List.mem_cons_of_mem _ hy)))
    rw [List.length_erase_of_mem (h x List.mem_cons_self)] at this
    have := List.length_pos_of_mem (h x List.mem_cons_self)
    simp; omega
theorem MapIs.size {D : DataW Unit} {n : Nat} {M : Nat → Int} (h : MapIs D n M) (ha : Apart n M) (ht : Canon D) : Maps.size D + frN M n = n := by
  classical
  have hl := live_length M n
  have hnd : ((liveT M n).map keyL).Nodup := List.pairwise_map.2 ((live_nodup ha).imp (fun hne e => hne (keyL_inj e)))
  obtain ⟨es, rfl, hr, hk⟩ := ht
  have hp := apart_of_rising hr
  have h1 := nodup_sub (es.map (·.1)) ((liveT M n).map keyL) (List.pairwise_map.2 hp) (fun x hx => by
    obtain ⟨q, hq, rfl⟩ := List.mem_map.1 hx
    obtain ⟨i, a, b, c⟩ := h.has_ q.1 (List.any_eq_true.2 ⟨q, hq, WideAt.sameKey_self (hk q hq)⟩)
    exact List.mem_map.2 ⟨M i, mem_live.2 ⟨i, a, rfl, c⟩, b.symm⟩)
  have h2 := nodup_sub ((liveT M n).map keyL) (es.map (·.1)) hnd (fun x hx => by
    obtain ⟨y, hy, rfl⟩ := List.mem_map.1 hx
    obtain ⟨i, a, b, c⟩ := mem_live.1 hy
    subst b
    obtain ⟨q, hq, e⟩ := List.any_eq_true.1 (h.at_ i a c).1
    have : q.1 = keyL (M i) := WideAt.sameKey_eq e
    exact List.mem_map.2 ⟨q, hq, this⟩)
  simp only [List.length_map] at h1 h2
  show es.length + _ = n
  omega
abbrev Owns (w : World) (b n : Nat) (D : DataW Unit) : Prop := w.ownsMap Try.prog 3 (plainElem Try.prog 3) b n D
theorem owns_size {w : World} {b n : Nat} {D : DataW Unit} (h : Owns w b n D) : Owns w b (Maps.size D) D := by
  obtain ⟨es, clock, hb, F, _, rfl⟩ := h
  exact ⟨es, clock, hb, F, by simp [Maps.size, length_sorted], rfl⟩
def NumAt (w : World) (b n : Nat) (M : Nat → Int) : Prop := ∃ D, Owns w b (Maps.size D) D ∧ MapIs D n M
theorem NumAt.lt {w : World} {b n : Nat} {M : Nat → Int} (h : NumAt w b n M) : b < w.heap.size := by obtain ⟨D, h, _⟩ := h; exact h.lt
theorem NumAt.same {w w' : World} {b n : Nat} {M : Nat → Int} (h : NumAt w b n M) (hb : w'.heap[b]? = w.heap[b]?) : NumAt w' b n M := by
  obtain ⟨D, ⟨es, clock, h1, h2⟩, h3⟩ := h
  exact ⟨D, ⟨es, clock, hb.trans h1, h2⟩, h3⟩
/-- A look-up of a number. -/
theorem NumAt.look {w : World} {b n : Nat} {M : Nat → Int} (h : NumAt w b n M) {x : Int} (h0 : -9223372036854775808 ≤ x) (h1 : x ≤ 9223372036854775807) {m : Nat} (hm : (m = 0 ∧ ∀ i, i < n → 0 ≤ M i → M i ≠ x) ∨ (1 ≤ m ∧ m ≤ n ∧ M (m - 1) = x ∧ 0 ≤ x)) :
    (Instr.lookup 49 (.map (some b)) (.int .i64 x) true).run Try.prog w = .ok (.tuple #[.int .i64 (m : Int), .bool (decide (m ≠ 0))]) w := by
  obtain ⟨D, ho, hD⟩ := h
  have hz : plainElem Try.prog 3 (.int .i64 0) = some ((elt 0 : DataW Unit), []) := plainElem_int Try.underlying3 (by decide)
  obtain ⟨v, ps, hrun, hv⟩ := ho.look_ok lawI Try.underlying49 (zeroI w) hz (keyOf_int_mk Try.underlying3 (wfI h0 h1))
  obtain ⟨c, rfl, hc, _⟩ := plainElem_int_inv Try.underlying3 hv
  simp only [Prod.mk.injEq] at hc
  have hc := hc.1
  rw [hrun]
  rcases hm with ⟨rfl, hn⟩ | ⟨m0, m1, e, x0⟩
  · have hno : Maps.has D (keyL x) = false := by
      cases hh : Maps.has D (keyL x)
      · rfl
      · obtain ⟨i, a, b, c⟩ := hD.has_ _ hh
        exact absurd (keyL_inj b).symm (hn i a c)
    have : D.atKey (keyL x) (elt 0) = elt 0 := atKey_of_not_has hno _
    rw [this] at hc
    injection hc with hc; injection hc with _ hc
    rw [hno, ← hc]; rfl
  · have := hD.at_ (m - 1) (by omega) (by rw [e]; exact x0)
    rw [e] at this
    rw [this.1]
    rw [this.2] at hc
    injection hc with hc; injection hc with _ hc
    rw [← hc]
    have e1 : ((m - 1 : Nat) : Int) + 1 = (m : Int) := by omega
    rw [e1, decide_eq_true (show m ≠ 0 by omega)]
theorem NumAt.store {w : World} {b n : Nat} {M : Nat → Int} (h : NumAt w b n M) (ha : Apart n M) (hn : n ≤ 8191) {m : Nat} (m0 : 1 ≤ m) (m1 : m ≤ n) {x : Int} (hx : Sp x) (hf : M (m - 1) < 0) (hno : ∀ j, j < n → M j ≠ x) :
    ∃ w', (Instr.mapUpdate 49 (.map (some b)) (.int .i64 x) (.int .i64 (m : Int))).run Try.prog w = .ok () w' ∧ NumAt w' b n (setT M (m - 1) x) ∧ w.grownBy w' (some b) := by
  obtain ⟨D, ho, hD⟩ := h
  have hsz := hD.size ha (ho.canon lawI)
  have e1 : ((m - 1 : Nat) : Int) + 1 = (m : Int) := by omega
  obtain ⟨w', hr, ho', hg⟩ := ho.update lawI Try.underlying49 (by unfold maxLen; omega) (keyOf_int_mk Try.underlying3 (wfI (by have := hx.1; omega) hx.2)) (plainElem_int (H := Unit) Try.underlying3 (wfI (a := (m : Int)) (by omega) (by omega)))
  refine ⟨w', hr, ⟨_, owns_size ho', ?_⟩, hg⟩
  have := hD.put ho.isMap (show m - 1 < n by omega) hx.1 hf hno
  rw [e1] at this
  exact this
theorem NumAt.drop {w : World} {b n : Nat} {M : Nat → Int} (h : NumAt w b n M) (ha : Apart n M) {i : Nat} (hi : i < n) (hx : Sp (M i)) (ty : TypeId) :
    ∃ w', (Builtin.delete_ #[49, 3] ty #[.map (some b), .int .i64 (M i)]).run Try.prog w = .ok (.tuple #[]) w' ∧ NumAt w' b n (setT M i (-1)) ∧ w.grownBy w' (some b) := by
  obtain ⟨D, ho, hD⟩ := h
  obtain ⟨w', hr, ho', hg⟩ := ho.drop lawI Try.underlying49 (keyOf_int_mk Try.underlying3 (wfI (by have := hx.1; omega) hx.2)) ty
  exact ⟨w', hr, ⟨_, owns_size ho', hD.del ha hi hx.1⟩, hg.grown⟩
theorem NumAt.len {w : World} {b n : Nat} {M : Nat → Int} (h : NumAt w b n M) (ha : Apart n M) (ty : TypeId) :
    (Builtin.len_ #[49] ty #[.map (some b)]).run Try.prog w = .ok (.int .i64 ((n - frN M n : Nat) : Int)) w := by
  obtain ⟨D, ho, hD⟩ := h
  have hsz := hD.size ha (ho.canon lawI)
  rw [ho.len Try.underlying49 ty, show n - frN M n = Maps.size D by omega]
/-! ### The pool -/
/-- At block pb of w there is a pool: its map of M's numbers at bm, its owners T at ob, its hand h and its rounds R. -/
structure PoolRow (w : World) (pb bm ob n : Nat) (T M : Nat → Int) (h R : Nat) : Prop where
  s : w.heap[pb]? = some (.cells #[.map (some bm), .slice (some ⟨ob, 0, none⟩) n n, .int .i64 (h : Int), .int .i64 (R : Int)] 52 (0, 0))
  o : w.heap[ob]? = some (.cells (rowI T n) 3 (0, 0))
  m : NumAt w bm n M
  ord : bm < ob ∧ ob < pb
  le : n ≤ 8191
abbrev PoolAt (w : World) (pb bm ob : Nat) (P : Pl) : Prop := PoolRow w pb bm ob P.n P.T P.T P.h P.R
/-- Of what was in w all stays but the pool's blocks. -/
structure Turn (w w' : World) (pb bm ob : Nat) : Prop where
  os : w'.os = w.os
  tape : w'.tape = w.tape
  output : w'.output = w.output
  size : w.heap.size ≤ w'.heap.size
  block : ∀ k, k < w.heap.size → k ≠ pb → k ≠ bm → k ≠ ob → w'.heap[k]? = w.heap[k]?
section
variable {w w' : World} {pb bm ob n h R : Nat} {T M : Nat → Int}
theorem PoolRow.lt (H : PoolRow w pb bm ob n T M h R) : pb < w.heap.size := (Array.getElem?_eq_some_iff.1 H.s).1
theorem PoolRow.same (H : PoolRow w pb bm ob n T M h R) (hk : ∀ k, k = pb ∨ k = bm ∨ k = ob → w'.heap[k]? = w.heap[k]?) : PoolRow w' pb bm ob n T M h R :=
  ⟨(hk _ (.inl rfl)).trans H.s, (hk _ (.inr (.inr rfl))).trans H.o, H.m.same (hk _ (.inr (.inl rfl))), H.ord, H.le⟩
theorem PoolRow.below (H : PoolRow w pb bm ob n T M h R) {B : Nat} (k : Below B w w') (hB : pb < B) : PoolRow w' pb bm ob n T M h R :=
  H.same (fun i hi => k.block i (by have := H.ord; rcases hi with rfl | rfl | rfl <;> omega))
theorem PoolRow.low (H : PoolRow w pb bm ob n T M h R) (k : Below w.heap.size w w') : PoolRow w' pb bm ob n T M h R := H.below k H.lt
theorem PoolRow.drewN (H : PoolRow w pb bm ob n T M h R) (m : Nat) : PoolRow (w.drewN m) pb bm ob n T M h R := H.same (fun _ _ => rfl)
theorem PoolRow.alloc (H : PoolRow w pb bm ob n T M h R) (o : Obj) : PoolRow (w.alloc o) pb bm ob n T M h R := H.low ((Below.refl _ _).alloc (Nat.le_refl _) o)
theorem PoolRow.cells (H : PoolRow w pb bm ob n T M h R) : w.cell? ⟨pb, 0, none⟩ = some (.map (some bm)) ∧ w.cell? ⟨pb, 1, none⟩ = some (.slice (some ⟨ob, 0, none⟩) n n) ∧ w.cell? ⟨pb, 2, none⟩ = some (.int .i64 (h : Int)) ∧ w.cell? ⟨pb, 3, none⟩ = some (.int .i64 (R : Int)) := by
  simp [World.cell?, H.s]
theorem PoolRow.fr (H : PoolRow w pb bm ob n T M h R) (j : Nat) : w.frozen? ⟨pb, j, none⟩ = false := by simp [World.frozen?, H.s]
theorem PoolRow.co (H : PoolRow w pb bm ob n T M h R) {j : Nat} (hj : j < n) : w.cell? ⟨ob, j, none⟩ = some (.int .i64 (T j)) := by simp [World.cell?, H.o, rowI_get T hj]
theorem PoolRow.fo (H : PoolRow w pb bm ob n T M h R) (j : Nat) : w.frozen? ⟨ob, j, none⟩ = false := by simp [World.frozen?, H.o]
theorem heap_set {b o : Nat} {c : Array Value} {e : TypeId} {f : Nat × Nat} (h : w.heap[b]? = some (.cells c e f)) (v : Value) : (w.setCell ⟨b, o, none⟩ v).heap[b]? = some (.cells (c.setIfInBounds o v) e f) := by
  simp [World.setCell, Array.getElem?_modify, h]
theorem PoolRow.putH (H : PoolRow w pb bm ob n T M h R) (g : Nat) : PoolRow (w.setCell ⟨pb, 2, none⟩ (.int .i64 (g : Int))) pb bm ob n T M g R :=
  ⟨by rw [heap_set H.s]; rfl, (Below.heap_setCell _ _ _ _ (by have := H.ord; show ob ≠ pb; omega)).trans H.o, H.m.same (Below.heap_setCell _ _ _ _ (by have := H.ord; show bm ≠ pb; omega)), H.ord, H.le⟩
theorem PoolRow.putR (H : PoolRow w pb bm ob n T M h R) (g : Nat) : PoolRow (w.setCell ⟨pb, 3, none⟩ (.int .i64 (g : Int))) pb bm ob n T M h g :=
  ⟨by rw [heap_set H.s]; rfl, (Below.heap_setCell _ _ _ _ (by have := H.ord; show ob ≠ pb; omega)).trans H.o, H.m.same (Below.heap_setCell _ _ _ _ (by have := H.ord; show bm ≠ pb; omega)), H.ord, H.le⟩
theorem PoolRow.putO (H : PoolRow w pb bm ob n T M h R) (j : Nat) (x : Int) : PoolRow (w.setCell ⟨ob, j, none⟩ (.int .i64 x)) pb bm ob n (setT T j x) M h R :=
  ⟨(Below.heap_setCell _ _ _ _ (by have := H.ord; show pb ≠ ob; omega)).trans H.s, by rw [heap_set H.o, rowI_set], H.m.same (Below.heap_setCell _ _ _ _ (by have := H.ord; show bm ≠ ob; omega)), H.ord, H.le⟩
theorem PoolRow.putM (H : PoolRow w pb bm ob n T M h R) {U : Nat → Int} (hm : NumAt w' bm n U) (hg : w.grownBy w' (some bm)) : PoolRow w' pb bm ob n T U h R := by
  have hl := H.lt
  have ho := H.ord
  exact ⟨(hg.block pb hl (fun e => by injection e with e; omega)).trans H.s, (hg.block ob (by omega) (fun e => by injection e with e; omega)).trans H.o, hm, H.ord, H.le⟩
theorem Turn.refl (w : World) (pb bm ob : Nat) : Turn w w pb bm ob := ⟨rfl, rfl, rfl, Nat.le_refl _, fun _ _ _ _ _ => rfl⟩
theorem Turn.trans {a b c : World} (h : Turn a b pb bm ob) (k : Turn b c pb bm ob) : Turn a c pb bm ob :=
  ⟨k.os.trans h.os, k.tape.trans h.tape, k.output.trans h.output, Nat.le_trans h.size k.size, fun i hi h1 h2 h3 =>
    (k.block i (Nat.lt_of_lt_of_le hi h.size) h1 h2 h3).trans (h.block i hi h1 h2 h3)⟩
theorem Turn.of_below {a b : World} (pb bm ob : Nat) (k : Below a.heap.size a b) : Turn a b pb bm ob := ⟨k.os, k.tape, k.output, k.size, fun i hi _ _ _ => k.block i hi⟩
theorem Turn.drewN {a b : World} (h : Turn a b pb bm ob) (m : Nat) : Turn a (b.drewN m) pb bm ob := ⟨h.os, h.tape, h.output, h.size, h.block⟩
theorem Turn.alloc {a b : World} (h : Turn a b pb bm ob) (o : Obj) : Turn a (b.alloc o) pb bm ob :=
  h.trans (Turn.of_below _ _ _ ((Below.refl _ _).alloc (Nat.le_refl _) o))
theorem Turn.setCell {a b : World} (h : Turn a b pb bm ob) (p : Addr) (hp : p.block = pb ∨ p.block = bm ∨ p.block = ob ∨ a.heap.size ≤ p.block) (u : Value) : Turn a (b.setCell p u) pb bm ob :=
  ⟨h.os, h.tape, h.output, by simpa [World.setCell] using h.size, fun i hi h1 h2 h3 => (Below.heap_setCell _ _ _ _ (by omega)).trans (h.block i hi h1 h2 h3)⟩
theorem Turn.putObj {a b : World} {D : Nat} (h : Turn a b pb bm ob) (o : Obj) (hD : a.heap.size ≤ D) : Turn a (b.putObj D o) pb bm ob :=
  ⟨h.os, h.tape, h.output, by simpa using h.size, fun k hk h1 h2 h3 => (World.putObj_heap_other (by omega)).trans (h.block k hk h1 h2 h3)⟩
theorem Turn.grown {a b c : World} (h : Turn a b pb bm ob) (k : b.grownBy c (some bm)) : Turn a c pb bm ob :=
  ⟨k.os.trans h.os, k.tape.trans h.tape, k.output.trans h.output, Nat.le_trans h.size k.size, fun i hi h1 h2 h3 => (k.block i (Nat.lt_of_lt_of_le hi h.size) (fun e => h2 (Option.some.inj e))).trans (h.block i hi h1 h2 h3)⟩
theorem Turn.to_below {a b : World} {B : Nat} (h : Turn a b pb bm ob) (h1 : B ≤ bm) (h2 : B ≤ ob) (h3 : B ≤ pb) (hB : B ≤ a.heap.size) : Below B a b :=
  ⟨h.os, h.tape, h.output, h.size, fun k hk => h.block k (by omega) (by omega) (by omega) (by omega)⟩
theorem PoolRow.congr (H : PoolRow w pb bm ob n T M h R) {U V : Nat → Int} (e : ∀ i, i < n → M i = V i) (e2 : ∀ i, i < n → T i = U i) : PoolRow w pb bm ob n U V h R := by
  obtain ⟨D, a, b⟩ := H.m
  refine ⟨H.s, ?_, ⟨D, a, b.congr e⟩, H.ord, H.le⟩
  rw [H.o]
  have : rowI T n = rowI U n := by
    unfold rowI
    congr 1
    exact List.map_congr_left (fun i hi => by rw [e2 i (List.mem_range.1 hi)])
  rw [this]
end
end Go.Proofs.Ytkbkilkmiigahaa.Cx
