/-
  What it means that a world holds a table: the struct's cells, the map of its rows, and each row in a block of its own. Conditions: none.
-/
import Derived.Test.YtilijnalhkeggaaRows
import Derived.Test.YtilijnalhkeggaaHMath
import Derived.WalkKit
import Derived.ProofKit
import Derived.OpenShut
import Derived.WalkLawsBesides
import Derived.Deep.QuietTactic
import Derived.BigQuiet
import Derived.Lib.Hide
import Derived.Maps.OwnOps
import Derived.Maps.OwnSet
import Derived.Maps.RangeWalk
import Derived.Maps.AppendAt
import Derived.Maps.Ext
import Derived.RegionTactic
import Derived.ChangeAlike
import Derived.Deep.AppendLies
namespace Go.Proofs.Ytilijnalhkeggaa.Hs
open Fld
open Go.ChangeShapes Go.WideShapes Go.ChangeAt Go.RowKit Go.Maps
set_option maxHeartbeats 400000
/-! ### Rows -/
def bkC (b : Bk) : List Value := [.int .i64 b.k.sp, .int .u64 b.k.va, .int .i64 b.k.sz, .int .i64 b.v]
def bkL : List Bk → List Value
  | [] => []
  | b :: l => bkC b ++ bkL l
theorem bkL_append : ∀ (l m : List Bk), bkL (l ++ m) = bkL l ++ bkL m
  | [], _ => rfl
  | b :: l, m => by simp [bkL, bkL_append l m]
theorem bkL_length : ∀ l : List Bk, (bkL l).length = l.length * 4
  | [] => rfl
  | b :: l => by simp [bkL, bkC, bkL_length l]; omega
theorem bkL_drop : ∀ (l : List Bk) (i : Nat), (bkL l).drop (i * 4) = bkL (l.drop i)
  | l, 0 => by simp
  | [], i + 1 => by simp [bkL]
  | b :: l, i + 1 => by
    have := bkL_drop l i
    rw [show (i + 1) * 4 = i * 4 + 1 + 1 + 1 + 1 by omega]
    simpa [bkL, bkC] using this
theorem bkL_take : ∀ (l : List Bk) (i : Nat), (bkL l).take (i * 4) = bkL (l.take i)
  | l, 0 => by simp [bkL]
  | [], i + 1 => by simp [bkL]
  | b :: l, i + 1 => by
    have := bkL_take l i
    rw [show (i + 1) * 4 = i * 4 + 1 + 1 + 1 + 1 by omega]
    simpa [bkL, bkC] using this
theorem bkL_get : ∀ (l : List Bk) (i : Nat), i < l.length → (bkL l)[i * 4]? = some (.int .i64 (at_ l i).k.sp) ∧ (bkL l)[i * 4 + 1]? = some (.int .u64 (at_ l i).k.va) ∧ (bkL l)[i * 4 + 2]? = some (.int .i64 (at_ l i).k.sz) ∧ (bkL l)[i * 4 + 3]? = some (.int .i64 (at_ l i).v)
  | [], i, h => absurd h (Nat.not_lt_zero _)
  | b :: l, 0, _ => ⟨rfl, rfl, rfl, rfl⟩
  | b :: l, i + 1, h => by
    have := bkL_get l i (by simpa using h)
    rw [at_cons]
    have e : ∀ j, (bkL (b :: l))[(i + 1) * 4 + j]? = (bkL l)[i * 4 + j]? := fun j => by
      rw [show (i + 1) * 4 + j = (i * 4 + j) + 4 by omega]
      simp [bkL, bkC]
    exact ⟨(e 0).trans this.1, (e 1).trans this.2.1, (e 2).trans this.2.2.1, (e 3).trans this.2.2.2⟩
theorem bkL_one : ∀ (l : List Bk), ∀ u ∈ bkL l, u.oneCell' = true
  | [], u, h => by simp [bkL] at h
  | b :: l, u, h => by
    rcases List.mem_append.1 (show u ∈ bkC b ++ bkL l from h) with h | h
    · simp [bkC] at h; rcases h with rfl | rfl | rfl | rfl <;> rfl
    · exact bkL_one l u h
/-- The cells of a row, behind one another. -/
structure RowC (w : World) (g : Nat) (l : List Bk) (i : Nat) : Prop where
  a : w.cell? ⟨g, i * 4, none⟩ = some (.int .i64 (at_ l i).k.sp)
  b : w.cell? ⟨g, i * 4 + 1, none⟩ = some (.int .u64 (at_ l i).k.va)
  c : w.cell? ⟨g, i * 4 + 2, none⟩ = some (.int .i64 (at_ l i).k.sz)
  d : w.cell? ⟨g, i * 4 + 3, none⟩ = some (.int .i64 (at_ l i).v)
theorem own_rowC {w : World} {B e g : Nat} {v : Value} {l : List Bk} (h : w.ownsRow B e 4 v l.length (bkL l)) (hg : v.ownBlock = some g) {i : Nat} (hi : i < l.length) : RowC w g l i := by
  have hc := h.cells hg
  have hadd : ∀ j, (⟨g, 0, none⟩ : Addr).add j = ⟨g, j, none⟩ := fun j => by unfold Addr.add; split <;> simp_all
  obtain ⟨a, b, c, d⟩ := bkL_get l i hi
  have h1 := hc _ _ a; have h2 := hc _ _ b; have h3 := hc _ _ c; have h4 := hc _ _ d
  rw [hadd] at h1 h2 h3 h4
  exact ⟨h1, h2, h3, h4⟩
theorem own_form {w : World} {B e s n : Nat} {v : Value} {xs : List Value} (h : w.ownsRow B e s v n xs) : v = .slice none 0 0 ∧ n = 0 ∨ ∃ g cap, v = .slice (some ⟨g, 0, none⟩) n cap ∧ v.ownBlock = some g ∧ n ≤ cap ∧ cap ≤ maxLen := by
  rcases h.2 with h | ⟨g, cap, cur, rfl, _, _, h1, h2, _⟩
  · exact .inl h
  · exact .inr ⟨g, cap, rfl, rfl, h1, h2⟩

/-! ### The map -/
theorem lawI : Keyed Try.prog 3 := int_keyed Try.underlying3
def nilS : Value := .slice none 0 0
/-- How a row's slice reads. -/
def hdD : Value → DataW Unit
  | .slice none n c => .slice [.lit (.int .i64 (n : Int)), .lit (.int .i64 (c : Int))] []
  | .slice (some ⟨g, o, none⟩) n c => .slice [.lit (.int .i64 (g : Int)), .lit (.int .i64 (o : Int)), .lit (.int .i64 (n : Int)), .lit (.int .i64 (c : Int))] []
  | _ => .nil
def hdR (v : Value) : Option (DataW Unit × List MemPlace) := match v with
  | .slice none n c => some (hdD (.slice none n c), [])
  | .slice (some ⟨g, o, none⟩) n c => some (hdD (.slice (some ⟨g, o, none⟩) n c), [])
  | _ => none
theorem hdR_inv {v : Value} {y : DataW Unit × List MemPlace} (h : hdR v = some y) : y = (hdD v, []) ∧ ((∃ n c, v = .slice none n c) ∨ ∃ g o n c, v = .slice (some ⟨g, o, none⟩) n c) := by
  unfold hdR at h
  split at h
  · cases h; exact ⟨rfl, .inl ⟨_, _, rfl⟩⟩
  · cases h; exact ⟨rfl, .inr ⟨_, _, _, _, rfl⟩⟩
  · cases h
theorem hdD_inj {v v' : Value} {y y' : DataW Unit × List MemPlace} (h : hdR v = some y) (h' : hdR v' = some y') (e : hdD v = hdD v') : v = v' := by
  obtain ⟨_, (⟨n, c, rfl⟩ | ⟨g, o, n, c, rfl⟩)⟩ := hdR_inv h <;> obtain ⟨_, (⟨n', c', rfl⟩ | ⟨g', o', n', c', rfl⟩)⟩ := hdR_inv h' <;> simp [hdD] at e ⊢ <;> omega
theorem hdR_own {w : World} {B e s n : Nat} {v : Value} {xs : List Value} (h : w.ownsRow B e s v n xs) : hdR v = some (hdD v, []) := by
  rcases own_form h with ⟨rfl, _⟩ | ⟨g, cap, rfl, _⟩ <;> rfl
theorem hdR_nil : hdR nilS = some (hdD nilS, []) := rfl
abbrev keyL (x : Int) : Lit := .int .i64 x
theorem keyL_lit {x : Int} : WideAt.IsKeyLit (keyL x) := trivial
theorem keyL_ne {x y : Int} (h : x ≠ y) : keyL x ≠ keyL y := fun e => by injection e with _ e; exact h e
theorem wfI {a : Int} (h0 : -9223372036854775808 ≤ a) (h1 : a ≤ 9223372036854775807) : (Lit.int .i64 a).wf = true := by
  simp only [Lit.wf, IntKind.min, IntKind.max, Bool.and_eq_true, decide_eq_true_eq, show IntKind.i64.signed = true from rfl, show IntKind.i64.bits = 64 from rfl, if_true]
  exact ⟨by omega, by omega⟩
def rowV (n : Nat) (V : Nat → Value) (x : Int) : Value := if 0 ≤ x ∧ x < (n : Int) then V x.toNat else nilS
theorem rowV_in {n : Nat} {V : Nat → Value} {i : Nat} (h : i < n) : rowV n V (i : Int) = V i := by unfold rowV; rw [if_pos ⟨by omega, by omega⟩]; simp
theorem rowV_out {n : Nat} {V : Nat → Value} {x : Int} (h : ¬ (0 ≤ x ∧ x < (n : Int))) : rowV n V x = nilS := by unfold rowV; rw [if_neg h]
/-- The map D has the rows V that are not nil. -/
structure MapIs (D : DataW Unit) (n : Nat) (V : Nat → Value) : Prop where
  at_ : ∀ x : Int, D.atKey (keyL x) (hdD nilS) = hdD (rowV n V x)
  has_ : ∀ kl, Maps.has D kl = true → ∃ i : Nat, i < n ∧ kl = keyL (i : Int) ∧ V i ≠ nilS
  nz : ∀ i, i < n → V i ≠ nilS → Maps.has D (keyL (i : Int)) = true
theorem MapIs.empty (n : Nat) : MapIs (.map []) n (fun _ => nilS) where
  at_ x := by unfold rowV; split <;> rfl
  has_ kl h := by cases h
  nz i _ h := absurd rfl h
def setV (V : Nat → Value) (c : Nat) (v : Value) : Nat → Value := fun i => if i = c then v else V i
theorem setV_same (V : Nat → Value) (c : Nat) (v : Value) : setV V c v c = v := by simp [setV]
theorem setV_other (V : Nat → Value) {c i : Nat} (v : Value) (h : i ≠ c) : setV V c v i = V i := by simp [setV, h]
theorem rowV_set {n : Nat} {V : Nat → Value} {c : Nat} {v : Value} (hc : c < n) {x : Int} : rowV n (setV V c v) x = if x = (c : Int) then v else rowV n V x := by
  by_cases h : x = (c : Int)
  · subst h; rw [if_pos rfl, rowV_in hc, setV_same]
  · rw [if_neg h]; unfold rowV
    split
    · rw [setV_other V v (by omega)]
    · rfl
theorem MapIs.put {D : DataW Unit} {n : Nat} {V : Nat → Value} (h : MapIs D n V) (hm : IsMap D) {c : Nat} (hc : c < n) {v : Value} (hv : v ≠ nilS) : MapIs (D.put (keyL (c : Int)) (hdD v)) n (setV V c v) where
  at_ x := by
    rw [rowV_set hc]
    by_cases e : x = (c : Int)
    · subst e; rw [if_pos rfl]; exact atKey_put_same hm keyL_lit _ _
    · rw [if_neg e, atKey_put_other (keyL_ne e)]; exact h.at_ x
  has_ kl hkl := by
    by_cases e : kl = keyL (c : Int)
    · exact ⟨c, hc, e, by rw [setV_same]; exact hv⟩
    · rw [has_put_other e] at hkl
      obtain ⟨i, a, b, d⟩ := h.has_ kl hkl
      exact ⟨i, a, b, by rw [setV_other V v (fun e2 => e (by rw [b, e2]))]; exact d⟩
  nz i hi hn := by
    by_cases e : i = c
    · subst e; exact has_put_same hm keyL_lit _
    · rw [setV_other V v e] at hn; rw [has_put_other (keyL_ne (by omega))]; exact h.nz i hi hn
theorem MapIs.del {D : DataW Unit} {n : Nat} {V : Nat → Value} (h : MapIs D n V) {c : Nat} (hc : c < n) : MapIs (D.del (keyL (c : Int))) n (setV V c nilS) where
  at_ x := by
    rw [rowV_set hc]
    by_cases e : x = (c : Int)
    · subst e; rw [if_pos rfl]; exact atKey_del_same _
    · rw [if_neg e, atKey_del_other (keyL_ne e)]; exact h.at_ x
  has_ kl hkl := by
    by_cases e : kl = keyL (c : Int)
    · subst e; rw [has_del_same] at hkl; cases hkl
    · rw [has_del_other e] at hkl
      obtain ⟨i, a, b, d⟩ := h.has_ kl hkl
      exact ⟨i, a, b, by rw [setV_other V _ (fun e2 => e (by rw [b, e2]))]; exact d⟩
  nz i hi hn := by
    by_cases e : i = c
    · subst e; rw [setV_same] at hn; exact absurd rfl hn
    · rw [setV_other V _ e] at hn; rw [has_del_other (keyL_ne (by omega))]; exact h.nz i hi hn
theorem nodup_sub {α : Type} [DecidableEq α] : ∀ (l m : List α), l.Nodup → (∀ x ∈ l, x ∈ m) → l.length ≤ m.length
  | [], _, _, _ => Nat.zero_le _
  | x :: l, m, hn, h => by
    obtain ⟨h1, h2⟩ := List.nodup_cons.1 hn
    have := nodup_sub l (m.erase x) h2 (fun y hy => (List.mem_erase_of_ne (fun e => h1 (by rw [← e]; exact hy))).2 (h y (List.mem_cons_of_mem _ hy)))
    rw [List.length_erase_of_mem (h x List.mem_cons_self)] at this
    have := List.length_pos_of_mem (h x List.mem_cons_self)
    simp; omega
/-- A map has no more entries than there are chains with keys. -/
def nilB : Value → Bool
  | .slice none 0 0 => true
  | _ => false
theorem nilB_iff {v : Value} : nilB v = true ↔ v = nilS := by
  unfold nilB nilS
  split
  · simp
  · rename_i h; simp only [Bool.false_eq_true, false_iff]; exact fun e => h e
def liveN (V : Nat → Value) : Nat → List Nat
  | 0 => []
  | n + 1 => if nilB (V n) then liveN V n else liveN V n ++ [n]
theorem mem_live {V : Nat → Value} {i : Nat} : ∀ {n : Nat}, i ∈ liveN V n ↔ i < n ∧ V i ≠ nilS
  | 0 => by simp [liveN]
  | n + 1 => by
    unfold liveN
    by_cases h : V n = nilS
    · rw [if_pos (nilB_iff.2 h), mem_live]
      constructor
      · rintro ⟨a, b⟩; exact ⟨by omega, b⟩
      · rintro ⟨a, b⟩
        by_cases e : i = n
        · subst e; exact absurd h b
        · exact ⟨by omega, b⟩
    · rw [if_neg (fun e => h (nilB_iff.1 e)), List.mem_append, mem_live]
      constructor
      · rintro (⟨a, b⟩ | b)
        · exact ⟨by omega, b⟩
        · obtain rfl : i = n := by simpa using b
          exact ⟨by omega, h⟩
      · rintro ⟨a, b⟩
        by_cases e : i = n
        · right; simp [e]
        · exact .inl ⟨by omega, b⟩
theorem live_rises (V : Nat → Value) : ∀ n, (liveN V n).Pairwise (· < ·)
  | 0 => List.Pairwise.nil
  | n + 1 => by
    unfold liveN
    split
    · exact live_rises V n
    · refine List.pairwise_append.2 ⟨live_rises V n, by simp, fun a ha b hb => ?_⟩
      obtain rfl : b = n := by simpa using hb
      exact (mem_live.1 ha).1
theorem MapIs.size_le {D : DataW Unit} {n : Nat} {V : Nat → Value} (h : MapIs D n V) (ht : Canon D) : Maps.size D ≤ (liveN V n).length := by
  classical
  obtain ⟨es, rfl, hr, hl⟩ := ht
  have hp := apart_of_rising hr
  have h1 := nodup_sub (es.map (·.1)) ((liveN V n).map (fun i : Nat => keyL (i : Int))) (List.pairwise_map.2 hp) (fun x hx => by
    obtain ⟨q, hq, rfl⟩ := List.mem_map.1 hx
    obtain ⟨i, hi, e, hv⟩ := h.has_ q.1 (List.any_eq_true.2 ⟨q, hq, WideAt.sameKey_self (hl q hq)⟩)
    exact List.mem_map.2 ⟨i, mem_live.2 ⟨hi, hv⟩, e.symm⟩)
  simpa [Maps.size] using h1
abbrev Owns (w : World) (b n : Nat) (D : DataW Unit) : Prop := w.ownsMap Try.prog 3 hdR b n D
theorem owns_size {w : World} {b n : Nat} {D : DataW Unit} (h : Owns w b n D) : Owns w b (Maps.size D) D := by
  obtain ⟨es, clock, hb, F, _, rfl⟩ := h
  exact ⟨es, clock, hb, F, by simp [Maps.size, length_sorted], rfl⟩

/-! ### The table -/
/-- At block sb of w there is a table of bl blocks and n chains L; its map is block bm; the row of chain i is V i. -/
structure TabAt (w : World) (sb bm n : Nat) (bl : Int) (L : Nat → List Bk) (V : Nat → Value) : Prop where
  row : w.heap[sb]? = some (.cells #[.int .i64 bl, .int .i64 (lenL L n : Int), .int .i64 (n : Int), .map (some bm)] 66 (0, 0))
  map : ∃ D, Owns w bm (Maps.size D) D ∧ MapIs D n V
  rows : ∀ i, i < n → w.ownsRow 0 83 4 (V i) (L i).length (bkL (L i))
  nil : ∀ i, i < n → L i = [] → V i = nilS
  apart : ∀ i j g, i < n → j < n → (V i).ownBlock = some g → (V j).ownBlock = some g → i = j
  good : Good n L
  n0 : 1 ≤ n
  n1 : n ≤ 9223372036854775807
  few : (lenL L n : Int) ≤ bl
  b1 : bl ≤ 1073741824
/-- A table's own blocks. -/
def own (sb bm n : Nat) (V : Nat → Value) (k : Nat) : Prop := k = sb ∨ k = bm ∨ ∃ i, i < n ∧ (V i).ownBlock = some k
/-- Of what was in w all stays but O. -/
structure Turn (w w' : World) (O : Nat → Prop) : Prop where
  os : w'.os = w.os
  tape : w'.tape = w.tape
  output : w'.output = w.output
  size : w.heap.size ≤ w'.heap.size
  block : ∀ k, k < w.heap.size → ¬ O k → w'.heap[k]? = w.heap[k]?
def Tab (w : World) (sb : Nat) (O : Nat → Prop) (n : Nat) (bl : Int) (L : Nat → List Bk) : Prop := ∃ bm V, TabAt w sb bm n bl L V ∧ ∀ k, O k ↔ own sb bm n V k
/-- What a call does to a table. -/
def TabTo (w w' : World) (sb : Nat) (O : Nat → Prop) (n : Nat) (bl : Int) (L : Nat → List Bk) : Prop := ∃ O', Tab w' sb O' n bl L ∧ Turn w w' O ∧ ∀ k, O' k → O k ∨ w.heap.size ≤ k

theorem TabAt.nilV {w : World} {sb bm n : Nat} {bl : Int} {L : Nat → List Bk} {V : Nat → Value} (h : TabAt w sb bm n bl L V) {i : Nat} (hi : i < n) (hv : V i = nilS) : L i = [] := by
  rcases own_form (h.rows i hi) with ⟨_, e⟩ | ⟨g, cap, e, _⟩
  · exact List.eq_nil_of_length_eq_zero e
  · rw [e] at hv; cases hv
theorem TabAt.lt {w : World} {sb bm n : Nat} {bl : Int} {L : Nat → List Bk} {V : Nat → Value} (h : TabAt w sb bm n bl L V) {k : Nat} (hk : own sb bm n V k) : k < w.heap.size := by
  rcases hk with rfl | rfl | ⟨i, hi, e⟩
  · exact (Array.getElem?_eq_some_iff.1 h.row).1
  · obtain ⟨D, ho, _⟩ := h.map; exact ho.lt
  · exact ((h.rows i hi).lt k e).2
theorem own_obj {w : World} {B e s n g : Nat} {v : Value} {xs : List Value} (h : w.ownsRow B e s v n xs) (hg : v.ownBlock = some g) : ∃ cur, w.heap[g]? = some (.cells cur e (0, 0)) := by
  rcases h.2 with ⟨rfl, _⟩ | ⟨g', cap, cur, rfl, _, h1, _⟩
  · simp [Value.ownBlock] at hg
  · simp [Value.ownBlock] at hg; subst hg; exact ⟨cur, h1⟩
theorem TabAt.bm_ne {w : World} {sb bm n : Nat} {bl : Int} {L : Nat → List Bk} {V : Nat → Value} (h : TabAt w sb bm n bl L V) : bm ≠ sb := by
  obtain ⟨D, ⟨es, clock, h2, _⟩, _⟩ := h.map
  have h1 := h.row
  rintro rfl; rw [h1] at h2; cases h2
theorem TabAt.row_ne {w : World} {sb bm n : Nat} {bl : Int} {L : Nat → List Bk} {V : Nat → Value} (h : TabAt w sb bm n bl L V) {i g : Nat} (hi : i < n) (e : (V i).ownBlock = some g) : g ≠ sb ∧ g ≠ bm := by
  obtain ⟨cur, h3⟩ := own_obj (h.rows i hi) e
  obtain ⟨D, ⟨es, clock, h2, _⟩, _⟩ := h.map
  have h1 := h.row
  constructor
  · rintro rfl; rw [h1] at h3; injection h3 with h3; injection h3 with _ h3 _; exact absurd h3 (by decide)
  · rintro rfl; rw [h2] at h3; cases h3
/-- A table stands as long as its own blocks stay. -/
theorem own_same {w w' : World} {B e s n : Nat} {v : Value} {xs : List Value} (h : w.ownsRow B e s v n xs) (hb : ∀ g, v.ownBlock = some g → w'.heap[g]? = w.heap[g]?) : w'.ownsRow B e s v n xs := by
  refine ⟨h.1, ?_⟩
  rcases h.2 with hn | ⟨g, cap, cur, rfl, hB, hgg, rest⟩
  · exact .inl hn
  · exact .inr ⟨g, cap, cur, rfl, hB, (hb g rfl).trans hgg, rest⟩
theorem map_same {w w' : World} {b n : Nat} {V : Nat → Value} (h : ∃ D, Owns w b (Maps.size D) D ∧ MapIs D n V) (hb : w'.heap[b]? = w.heap[b]?) : ∃ D, Owns w' b (Maps.size D) D ∧ MapIs D n V := by
  obtain ⟨D, ⟨es, clock, h1, h2⟩, h3⟩ := h
  exact ⟨D, ⟨es, clock, hb.trans h1, h2⟩, h3⟩
theorem TabAt.same {w w' : World} {sb bm n : Nat} {bl : Int} {L : Nat → List Bk} {V : Nat → Value} (h : TabAt w sb bm n bl L V) (hk : ∀ k, own sb bm n V k → w'.heap[k]? = w.heap[k]?) : TabAt w' sb bm n bl L V :=
  ⟨(hk _ (.inl rfl)).trans h.row, map_same h.map (hk _ (.inr (.inl rfl))), fun i hi => own_same (h.rows i hi) (fun g e => hk g (.inr (.inr ⟨i, hi, e⟩))), h.nil, h.apart, h.good, h.n0, h.n1, h.few, h.b1⟩
theorem TabAt.below {w w' : World} {sb bm n m : Nat} {bl : Int} {L : Nat → List Bk} {V : Nat → Value} (h : TabAt w sb bm n bl L V) (hb : Below m w w') (hm : w.heap.size ≤ m) : TabAt w' sb bm n bl L V :=
  h.same (fun k hk => hb.block k (Nat.lt_of_lt_of_le (h.lt hk) hm))
theorem TabAt.drewN {w : World} {sb bm n : Nat} {bl : Int} {L : Nat → List Bk} {V : Nat → Value} (h : TabAt w sb bm n bl L V) (m : Nat) : TabAt (w.drewN m) sb bm n bl L V := h.same (fun _ _ => rfl)
theorem TabAt.drew {w : World} {sb bm n : Nat} {bl : Int} {L : Nat → List Bk} {V : Nat → Value} (h : TabAt w sb bm n bl L V) : TabAt w.drew sb bm n bl L V := h.same (fun _ _ => rfl)
theorem TabAt.alloc {w : World} {sb bm n : Nat} {bl : Int} {L : Nat → List Bk} {V : Nat → Value} (h : TabAt w sb bm n bl L V) (o : Obj) : TabAt (w.alloc o) sb bm n bl L V :=
  h.below ((Below.refl _ _).alloc (Nat.le_refl _) o) (Nat.le_refl _)
theorem Tab.below {w w' : World} {sb n m : Nat} {O : Nat → Prop} {bl : Int} {L : Nat → List Bk} (h : Tab w sb O n bl L) (hb : Below m w w') (hm : w.heap.size ≤ m) : Tab w' sb O n bl L := by
  obtain ⟨bm, V, h, e⟩ := h; exact ⟨bm, V, h.below hb hm, e⟩
theorem Tab.lt {w : World} {sb n : Nat} {O : Nat → Prop} {bl : Int} {L : Nat → List Bk} (h : Tab w sb O n bl L) {k : Nat} (hk : O k) : k < w.heap.size := by
  obtain ⟨bm, V, h, e⟩ := h; exact h.lt ((e k).1 hk)
theorem Tab.sb {w : World} {sb n : Nat} {O : Nat → Prop} {bl : Int} {L : Nat → List Bk} (h : Tab w sb O n bl L) : O sb := by
  obtain ⟨bm, V, h, e⟩ := h; exact (e _).2 (.inl rfl)
theorem Turn.refl (w : World) (O : Nat → Prop) : Turn w w O := ⟨rfl, rfl, rfl, Nat.le_refl _, fun _ _ _ => rfl⟩
theorem Turn.trans {a b c : World} {O O' : Nat → Prop} (h : Turn a b O) (k : Turn b c O') (hO : ∀ k, O' k → O k ∨ a.heap.size ≤ k) : Turn a c O :=
  ⟨k.os.trans h.os, k.tape.trans h.tape, k.output.trans h.output, Nat.le_trans h.size k.size, fun i hi h1 => (k.block i (Nat.lt_of_lt_of_le hi h.size) (fun e => (hO i e).elim h1 (by omega))).trans (h.block i hi h1)⟩
theorem Turn.below {a b c : World} {O : Nat → Prop} (h : Turn a b O) (k : Below b.heap.size b c) : Turn a c O :=
  ⟨k.os.trans h.os, k.tape.trans h.tape, k.output.trans h.output, Nat.le_trans h.size k.size, fun i hi h1 => (k.block i (Nat.lt_of_lt_of_le hi h.size)).trans (h.block i hi h1)⟩
theorem Turn.low {a b : World} (O : Nat → Prop) (k : Below a.heap.size a b) : Turn a b O := (Turn.refl a O).below k
theorem Turn.grown {a b c : World} {O : Nat → Prop} {row : Option Nat} (h : Turn a b O) (k : b.grownBy c row) (hr : ∀ j, row = some j → O j ∨ a.heap.size ≤ j) : Turn a c O :=
  ⟨k.os.trans h.os, k.tape.trans h.tape, k.output.trans h.output, Nat.le_trans h.size k.size, fun i hi h1 =>
    (k.block i (Nat.lt_of_lt_of_le hi h.size) (fun e => (hr i e.symm).elim h1 (by omega))).trans (h.block i hi h1)⟩
theorem Turn.drew {a b : World} {O : Nat → Prop} (h : Turn a b O) : Turn a b.drew O := ⟨h.os, h.tape, h.output, h.size, h.block⟩
theorem Turn.drewN {a b : World} {O : Nat → Prop} (h : Turn a b O) (m : Nat) : Turn a (b.drewN m) O := ⟨h.os, h.tape, h.output, h.size, h.block⟩
theorem Turn.alloc {a b : World} {O : Nat → Prop} (h : Turn a b O) (o : Obj) : Turn a (b.alloc o) O :=
  h.below ((Below.refl _ _).alloc (Nat.le_refl _) o)
theorem Turn.setCell {a b : World} {O : Nat → Prop} (h : Turn a b O) (p : Addr) (hp : O p.block ∨ a.heap.size ≤ p.block) (u : Value) : Turn a (b.setCell p u) O :=
  ⟨h.os, h.tape, h.output, by simpa [World.setCell] using h.size, fun i hi h1 => (Below.heap_setCell _ _ _ _ (by rintro rfl; exact hp.elim h1 (by omega))).trans (h.block i hi h1)⟩
theorem TabAt.cells {w : World} {sb bm n : Nat} {bl : Int} {L : Nat → List Bk} {V : Nat → Value} (h : TabAt w sb bm n bl L V) :
    w.cell? ⟨sb, 0, none⟩ = some (.int .i64 bl) ∧ w.cell? ⟨sb, 1, none⟩ = some (.int .i64 (lenL L n : Int)) ∧ w.cell? ⟨sb, 2, none⟩ = some (.int .i64 (n : Int)) ∧ w.cell? ⟨sb, 3, none⟩ = some (.map (some bm)) ∧
    ∀ i, w.frozen? ⟨sb, i, none⟩ = false := by
  have h1 := h.row
  exact ⟨by simp [World.cell?, h1], by simp [World.cell?, h1], by simp [World.cell?, h1], by simp [World.cell?, h1], fun i => by simp [World.frozen?, h1]⟩
/-- A look-up. -/
theorem zeroS (w : World) : (zeroValue 78).run Try.prog w = .ok nilS w := by kernel_rfl
theorem TabAt.look {w : World} {sb bm n : Nat} {bl : Int} {L : Nat → List Bk} {V : Nat → Value} (h : TabAt w sb bm n bl L V) {x : Int} (h0 : -9223372036854775808 ≤ x) (h1 : x ≤ 9223372036854775807) :
    (Instr.lookup 64 (.map (some bm)) (.int .i64 x) false).run Try.prog w = .ok (rowV n V x) w := by
  obtain ⟨D, hown, hD⟩ := h.map
  obtain ⟨v, ps, hrun, hv⟩ := hown.lookup lawI Try.underlying64 (zeroS w) hdR_nil (keyOf_int_mk Try.underlying3 (wfI h0 h1))
  have e1 := (hdR_inv hv).1
  have e2 : hdD v = hdD (rowV n V x) := by
    have := congrArg Prod.fst e1
    exact this.symm.trans (hD.at_ x)
  have hr : ∃ y, hdR (rowV n V x) = some y := by
    unfold rowV
    split
    · rename_i hx; exact ⟨_, hdR_own (h.rows x.toNat (by omega))⟩
    · exact ⟨_, hdR_nil⟩
  obtain ⟨y, hy⟩ := hr
  rw [hrun, hdD_inj hv hy e2]
theorem TabAt.lookN {w : World} {sb bm n : Nat} {bl : Int} {L : Nat → List Bk} {V : Nat → Value} (h : TabAt w sb bm n bl L V) {i : Nat} (hi : i < n) :
    (Instr.lookup 64 (.map (some bm)) (.int .i64 (i : Int)) false).run Try.prog w = .ok (V i) w := by
  have := h.look (x := (i : Int)) (by omega) (by have := h.n1; omega)
  rwa [rowV_in hi] at this
theorem TabAt.msize {w : World} {sb bm n : Nat} {bl : Int} {L : Nat → List Bk} {V : Nat → Value} (h : TabAt w sb bm n bl L V) {D : DataW Unit} (ho : Owns w bm (Maps.size D) D) (hD : MapIs D n V) : Maps.size D ≤ 1073741824 := by
  have h1 := hD.size_le (ho.canon lawI)
  have h2 : ∀ m, m ≤ n → (liveN V m).length ≤ lenL L m := by
    intro m
    induction m with
    | zero => intro _; exact Nat.zero_le _
    | succ m ih =>
      intro hm
      have := ih (by omega)
      rw [len_succ]
      unfold liveN
      split
      · omega
      · rename_i hv
        have : L m ≠ [] := fun e => hv (nilB_iff.2 (h.nil m (by omega) e))
        have := List.length_pos_iff.2 this
        simp; omega
  have := h2 n (Nat.le_refl _)
  have := h.few; have := h.b1
  omega
end Go.Proofs.Ytilijnalhkeggaa.Hs
