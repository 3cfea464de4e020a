/-
  YtffpfceclhogoaaGreatGH: the contracts and plain facts of several texts, laid together. Conditions: those that each theorem names.
-/
import Derived.Test.YtffpfceclhogoaaGreatGD
import Derived.Test.YtffpfceclhogoaaGreatALay
import Derived.Test.YtffpfceclhogoaaGreatGG
namespace Go.Proofs.YtffpfceclhogoaaGreat.Hp
open Fld Hs
open Go.ChangeShapes Go.WideShapes Go.ChangeAt Go.RowKit Go.Maps Go.Sort Go.Shelf
set_option maxHeartbeats 1000000
set_option maxRecDepth 100000
instance : Inhabited Pg := ⟨Pg.zero⟩
def pgL : List Pg → List Value
  | [] => []
  | p :: l => pgC p ++ pgL l
theorem pgC_len (p : Pg) : (pgC p).length = 11 := rfl
theorem pgC_one (p : Pg) : ∀ u ∈ pgC p, u.oneCell' = true := by
  intro u h
  simp only [pgC, List.mem_cons, List.not_mem_nil, or_false] at h
  rcases h with rfl | rfl | rfl | rfl | rfl | rfl | rfl | rfl | rfl | rfl | rfl <;> rfl
theorem pgL_append : ∀ (l m : List Pg), pgL (l ++ m) = pgL l ++ pgL m
  | [], _ => rfl
  | p :: l, m => by simp [pgL, pgL_append l m]
theorem pgL_length : ∀ l : List Pg, (pgL l).length = l.length * 11
  | [] => rfl
  | p :: l => by simp [pgL, pgC, pgL_length l]; omega
theorem pgL_one : ∀ (l : List Pg), ∀ u ∈ pgL l, u.oneCell' = true
  | [], u, h => by simp [pgL] at h
  | p :: l, u, h => by
    rcases List.mem_append.1 (show u ∈ pgC p ++ pgL l from h) with h | h
    · exact pgC_one p u h
    · exact pgL_one l u h
def pat (l : List Pg) (i : Nat) : Pg := l.getD i Pg.zero
theorem pat_cons (p : Pg) (l : List Pg) (i : Nat) : pat (p :: l) (i + 1) = pat l i := by simp [pat]
theorem pgL_at : ∀ (l : List Pg) (i : Nat), i < l.length → ∀ (j : Nat) (v : Value), (pgC (pat l i))[j]? = some v → (pgL l)[i * 11 + j]? = some v
  | [], i, h => absurd h (Nat.not_lt_zero _)
  | p :: l, 0, _ => fun j v h => by
    rw [Nat.zero_mul, Nat.zero_add]
    have h : (pgC p)[j]? = some v := h
    show (pgC p ++ pgL l)[j]? = some v
    rw [List.getElem?_append_left (List.getElem?_eq_some_iff.1 h).1]; exact h
  | p :: l, i + 1, h => fun j v hj => by
    rw [pat_cons] at hj
    have := pgL_at l i (by simpa using h) j v hj
    rw [show (i + 1) * 11 + j = (i * 11 + j) + 11 by omega]
    show (pgC p ++ pgL l)[(i * 11 + j) + 11]? = some v
    rw [List.getElem?_append_right (by simp [pgC])]
    simpa [pgC] using this
theorem own_page {w : World} {B e g : Nat} {v : Value} {l : List Pg} (h : w.ownsRow B e 11 v l.length (pgL l)) (hg : v.ownBlock = some g) {i : Nat} (hi : i < l.length) : w.cell? ⟨g, i * 11, none⟩ = some (.int .u64 (pat l i).va) ∧ w.cell? ⟨g, i * 11 + 1, none⟩ = some (.int .i64 (pat l i).sz) ∧ w.cell? ⟨g, i * 11 + 2, none⟩ = some (.int .u64 (pat l i).pa) ∧ w.cell? ⟨g, i * 11 + 3, none⟩ = some (.bool (pat l i).att.write) ∧ w.cell? ⟨g, i * 11 + 4, none⟩ = some (.bool (pat l i).att.priv) ∧ w.cell? ⟨g, i * 11 + 5, none⟩ = some (.bool (pat l i).att.exec) ∧ w.cell? ⟨g, i * 11 + 6, none⟩ = some (.bool (pat l i).att.lock) ∧ w.cell? ⟨g, i * 11 + 7, none⟩ = some (.bool (pat l i).att.global) ∧ w.cell? ⟨g, i * 11 + 8, none⟩ = some (.bool (pat l i).att.quiet) ∧ w.cell? ⟨g, i * 11 + 9, none⟩ = some (.bool (pat l i).ref) ∧ w.cell? ⟨g, i * 11 + 10, none⟩ = some (.bool (pat l i).mod) := by
  have hc := h.cells hg
  have hadd : ∀ j, (⟨g, 0, none⟩ : Addr).add j = ⟨g, j, none⟩ := fun j => by unfold Addr.add; split <;> simp_all
  have key : ∀ (j : Nat) (v : Value), (pgC (pat l i))[j]? = some v → w.cell? ⟨g, i * 11 + j, none⟩ = some v := fun j v hj => by
    have := hc _ _ (pgL_at l i hi j v hj); rwa [hadd] at this
  exact ⟨key 0 _ rfl, key 1 _ rfl, key 2 _ rfl, key 3 _ rfl, key 4 _ rfl, key 5 _ rfl, key 6 _ rfl, key 7 _ rfl, key 8 _ rfl, key 9 _ rfl, key 10 _ rfl⟩
theorem flat_pages (ps : List Pg) : (flatK pgC 11 ps.toArray).toList = pgL ps := by
  apply List.ext_getElem?
  intro t
  by_cases ht : t < ps.length * 11
  · have h1 : t / 11 < ps.length := by omega
    have h2 : t % 11 < 11 := Nat.mod_lt _ (by decide)
    have h3 := pgL_at ps (t / 11) h1 (t % 11) ((pgC (pat ps (t / 11)))[t % 11]!) (by
      have h9 : t % 11 < (pgC (pat ps (t / 11))).length := by rw [pgC_len]; exact h2
      rw [List.getElem?_eq_getElem h9, getElem!_pos (pgC (pat ps (t / 11))) (t % 11) h9])
    rw [show t / 11 * 11 + t % 11 = t by omega] at h3
    rw [h3]
    have h4 := get_flatK pgC 11 ps.toArray t (by simpa using ht)
    have h5 : t < (flatK pgC 11 ps.toArray).size := by simpa using ht
    rw [getElem!_pos _ t h5] at h4
    rw [Array.getElem?_toList, Array.getElem?_eq_getElem h5, h4]
    congr 2
    simp [pat, getElem!_pos, h1]
  · rw [List.getElem?_eq_none (by simp; omega), List.getElem?_eq_none (by rw [pgL_length]; omega)]
/-! ### The function -/
def cmpI (a b : Int) : Int := if a < b then -1 else if b < a then 1 else 0
def cmpP (x y : Pg) : Int := cmpI x.va y.va
theorem nan_any (a : Int) (w : World) : Calls Tryz.prog 86 #[.int .u64 a] w fun e w' => e = .returned (.bool false) ∧ w' = w := by
  go_enter Tryz.func86, Tryz.ntmps86
  go_wp2
  go_ret
  exact ⟨ret_bool (by simp), rfl⟩
theorem compare_any (a b : Int) (w : World) : Calls Tryz.prog 48 #[.int .u64 a, .int .u64 b] w fun e w' => e = .returned (.int .i64 (cmpI a b)) ∧ w' = w := by
  by_cases h1 : a < b
  · have H := Lib.hid (show cmpI a b = -1 by unfold cmpI; rw [if_pos h1])
    go_enter Tryz.func48, Tryz.ntmps48
    go_wp2_with (first | (go_at_call 86; refine (nan_any _ _).mono ?_; rintro e w' ⟨rfl, rfl⟩))
    go_ret
    exact ⟨ret_int H.out.symm, rfl⟩
  · by_cases h2 : b < a
    · have H := Lib.hid (show cmpI a b = 1 by unfold cmpI; rw [if_neg h1, if_pos h2])
      go_enter Tryz.func48, Tryz.ntmps48
      go_wp2_with (first | (go_at_call 86; refine (nan_any _ _).mono ?_; rintro e w' ⟨rfl, rfl⟩))
      go_ret
      exact ⟨ret_int H.out.symm, rfl⟩
    · have H := Lib.hid (show cmpI a b = 0 by unfold cmpI; rw [if_neg h1, if_neg h2])
      go_enter Tryz.func48, Tryz.ntmps48
      go_wp2_with (first | (go_at_call 86; refine (nan_any _ _).mono ?_; rintro e w' ⟨rfl, rfl⟩))
      go_ret
      exact ⟨ret_int H.out.symm, rfl⟩
theorem two_grow (w : World) (A B : Obj) : ∃ q os, (w.alloc A).alloc B = grow (w.drewN q) os := ⟨0, #[A, B], by rw [alloc_eq_grow, alloc_eq_grow, grow_grow]; rfl⟩
theorem pcmp_any (x y : Pg) (w : World) : Calls Tryz.prog 47 #[.agg #[.int .u64 x.va, .int .i64 x.sz, .int .u64 x.pa, .bool x.att.write, .bool x.att.priv, .bool x.att.exec, .bool x.att.lock, .bool x.att.global, .bool x.att.quiet, .bool x.ref, .bool x.mod], .agg #[.int .u64 y.va, .int .i64 y.sz, .int .u64 y.pa, .bool y.att.write, .bool y.att.priv, .bool y.att.exec, .bool y.att.lock, .bool y.att.global, .bool y.att.quiet, .bool y.ref, .bool y.mod]] w fun e w' => e = .returned (.int .i64 (cmpP x y)) ∧ ∃ q os, w' = grow (w.drewN q) os := by
  go_enter Tryz.func47, Tryz.ntmps47
  go_wp2_with (first | (go_at_call 48; refine (compare_any _ _ _).mono ?_; rintro e w' ⟨rfl, rfl⟩))
  go_ret
  exact ⟨rfl, two_grow _ _ _⟩
/-! ### The sort -/
theorem lt_is (x y : Pg) : ltOf cmpP x y = decide (x.va < y.va) := by
  show decide (cmpI x.va y.va < 0) = _
  unfold cmpI
  by_cases h : x.va < y.va
  · rw [if_pos h, decide_eq_true h]; rfl
  · rw [if_neg h, decide_eq_false h]; split <;> rfl
theorem swoP : SWO (ltOf cmpP) where
  irrefl x := by rw [lt_is]; simp
  trans x y z h1 h2 := by
    rw [lt_is, decide_eq_true_eq] at *; omega
  ntrans x y z h1 h2 := by
    rw [lt_is, decide_eq_false_iff_not] at *; omega
theorem heap_of_putRow (w : World) (g : Nat) (F cur : Array Value) (t : TypeId) (n : Nat) (os : Array Obj) (hg : w.heap[g]? = some (.cells cur t (0, 0))) :
    (grow (putRow id (Sort.ahead w n) g 0 F) os).heap[g]? = some (.cells (putCells id 0 F cur) t (0, 0)) ∧ (∀ k, k ≠ g → k < w.heap.size → (grow (putRow id (Sort.ahead w n) g 0 F) os).heap[k]? = w.heap[k]?) ∧ w.heap.size ≤ (grow (putRow id (Sort.ahead w n) g 0 F) os).heap.size := by
  have hl := (Array.getElem?_eq_some_iff.1 hg).1
  have hs : (putRow id (Sort.ahead w n) g 0 F).heap.size = w.heap.size := by simp [putRow, mapBlock, Sort.ahead]
  refine ⟨?_, fun k hk hk2 => ?_, by rw [size_grow, hs]; omega⟩
  · rw [heap_grow_old _ _ (by rw [hs]; exact hl)]
    simp [putRow, mapBlock, Sort.ahead, Array.getElem?_modify, hg, onCells]
  · rw [heap_grow_old _ _ (by rw [hs]; exact hk2)]
    simp [putRow, mapBlock, Sort.ahead, Array.getElem?_modify, show ¬ g = k from fun e => hk e.symm]
theorem put_take (F cur : Array Value) (h : F.size ≤ cur.size) : (putCells id 0 F cur).toList.take F.size = F.toList := by
  apply List.ext_getElem?
  intro j
  rw [List.getElem?_take, Array.getElem?_toList, Array.getElem?_toList]
  by_cases hj : j < F.size
  · have hjc : j < cur.size := by omega
    simp only [if_pos hj, putCells, Array.getElem?_mapIdx, Array.getElem?_eq_getElem hjc, Option.map_some]
    rw [if_pos (by omega), Array.getElem?_eq_getElem hj]
    simp [getElem!_pos, hj]
  · simp [hj]
theorem own_grown {C g cap n : Nat} {ps ps' : List Pg} {w : World} (h : w.ownsRow C 38 11 (.slice (some ⟨g, 0, none⟩) ps.length cap) ps.length (pgL ps)) (hp : ps'.length = ps.length) (os : Array Obj) :
    (sortWorldK pgC 11 w g 0 n ps'.toArray os).ownsRow C 38 11 (.slice (some ⟨g, 0, none⟩) ps.length cap) ps.length (pgL ps') ∧ w.grownBy (sortWorldK pgC 11 w g 0 n ps'.toArray os) (some g) := by
  rcases h.2 with ⟨e0, _⟩ | ⟨g', cap', cur, e0, hb, hg, hn, hm, hs, ht⟩
  · cases e0
  · injection e0 with e1 _ e3
    injection e1 with e1
    injection e1 with e1
    subst e1; subst e3
    obtain ⟨a, b, c⟩ := heap_of_putRow w g (flatK pgC 11 ps'.toArray) cur _ n os hg
    have hF : (flatK pgC 11 ps'.toArray).size = ps.length * 11 := by simp [hp]
    refine ⟨⟨by rw [pgL_length, hp], .inr ⟨g, cap, _, rfl, hb, a, hn, hm, by simpa [putCells] using hs, ?_⟩⟩, ⟨rfl, rfl, rfl, c, fun k hk hne => b k (fun e => hne (by rw [e])) hk⟩⟩
    rw [← hF, put_take _ _ (by rw [hF, hs]; exact Nat.mul_le_mul_right _ hn), flat_pages]
theorem holds_pages {C g cap : Nat} {ps : List Pg} {w : World} (h : w.ownsRow C 38 11 (.slice (some ⟨g, 0, none⟩) ps.length cap) ps.length (pgL ps)) : HoldsK pgC 11 w g 0 ps.toArray := by
  intro j hj
  rw [size_flatK] at hj
  have hj' : j < ps.length * 11 := by simpa using hj
  have hc := h.cells rfl
  have hadd : ∀ j, (⟨g, 0, none⟩ : Addr).add j = ⟨g, 0 + j, none⟩ := fun j => by unfold Addr.add; split <;> simp_all
  have hz : j < (flatK pgC 11 ps.toArray).size := by rw [size_flatK]; exact hj
  have h1 : (pgL ps)[j]? = some ((flatK pgC 11 ps.toArray)[j]!) := by
    rw [← flat_pages, Array.getElem?_toList, Array.getElem?_eq_getElem hz, getElem!_pos _ j hz]
  have h2 := hc j _ h1
  rw [hadd] at h2
  refine ⟨h2, ?_⟩
  obtain ⟨cur, hcur⟩ := own_obj h rfl
  simp [World.frozen?, hcur]
theorem psort_any {C g cap : Nat} {ps : List Pg} (hl : ps.length ≤ 1073741824) (w : World) (h : w.ownsRow C 38 11 (.slice (some ⟨g, 0, none⟩) ps.length cap) ps.length (pgL ps)) :
    Calls Tryz.prog 46 #[.slice (some ⟨g, 0, none⟩) ps.length cap, .func (.func 47) #[] #[]] w fun e w' => e = .returned (.tuple #[]) ∧
      ∃ ps', ps'.Perm ps ∧ ps'.Pairwise (fun a b => a.va ≤ b.va) ∧ w'.ownsRow C 38 11 (.slice (some ⟨g, 0, none⟩) ps.length cap) ps.length (pgL ps') ∧ w.grownBy w' (some g) := by
  have hlt := (h.lt g rfl).2
  have key := AnyQ.slices_SortFunc laySortF 11 (fun w => by kernel_rfl) (fun w => by kernel_rfl) pgC pgC_len pgC_one cmpP swoP 47 #[] g 0 cap ps.toArray w
    (enters_of Tryz.func47 (by kernel_rfl) rfl) (fun m os dk _ x y => pcmp_any x y _) (holds_pages h) hlt (by simp; omega)
  refine Calls.mono key ?_
  rintro e w' ⟨he, d', n, os, ⟨p1, p2, p3⟩, hso, hw⟩
  subst hw
  have e1 : d'.toList.length = ps.length := by simpa using p1
  have hd : d' = d'.toList.toArray := by simp
  have ho := own_grown (n := n) h e1 os
  rw [← hd] at ho
  refine ⟨he, d'.toList, ?_, ?_, ho.1, ho.2⟩
  · have e2 : d'.extract 0 ps.toArray.size = d' := by rw [← p1]; simp
    have e3 : ps.toArray.extract 0 ps.toArray.size = ps.toArray := by simp
    rw [e2, e3] at p3
    simpa using p3
  · rw [List.pairwise_iff_getElem]
    intro i j hi hj hij
    have h1 := hso i j (Nat.zero_le _) hij (by rw [← p1]; simpa using hj)
    have hi' : i < d'.size := by simpa using hi
    have hj' : j < d'.size := by simpa using hj
    rw [getElem!_pos _ i hi', getElem!_pos _ j hj'] at h1
    rw [lt_is, decide_eq_false_iff_not] at h1
    simp only [Array.getElem_toList]
    omega
theorem psort_none (cap : Nat) (w : World) : Calls Tryz.prog 46 #[.slice none 0 cap, .func (.func 47) #[] #[]] w fun e w' => e = .returned (.tuple #[]) ∧ w' = w :=
  AnyF.slices_SortFunc_none laySortF none cap _ w
end Go.Proofs.YtffpfceclhogoaaGreat.Hp
namespace Go.Proofs.YtffpfceclhogoaaGreat.Hp
open Fld Hs
open Ts (Stay Soft Firm Lp Sp lastMark)
open Go.ChangeShapes Go.WideShapes Go.ChangeAt Go.RowKit Go.Maps Go.Shelf
attribute [local go_sem] Oper.semAt_some
set_option maxHeartbeats 2000000
set_option maxRecDepth 100000
theorem infoP : (Tryz.prog.info? 38).map (fun i => (i.zero, i.size, i.bytes)) = some (some (.agg #[.int .u64 Pg.zero.va, .int .i64 Pg.zero.sz, .int .u64 Pg.zero.pa, .bool Pg.zero.att.write, .bool Pg.zero.att.priv, .bool Pg.zero.att.exec, .bool Pg.zero.att.lock, .bool Pg.zero.att.global, .bool Pg.zero.att.quiet, .bool Pg.zero.ref, .bool Pg.zero.mod]), 11, 32) := by kernel_rfl
/-- The pages of a space among blocks. -/
def filtP (s : Int) (l : List Bk) : List Pg := (l.filter (fun b => b.k.sp == s)).map Bk.v
theorem filt_len (s : Int) (l : List Bk) : (filtP s l).length ≤ l.length := by
  unfold filtP; rw [List.length_map]; exact List.length_filter_le _ _
theorem filt_take (s : Int) (l : List Bk) {j : Nat} (h : j < l.length) : filtP s (l.take (j + 1)) = if ((at_ l j).k.sp == s) = true then filtP s (l.take j) ++ [(at_ l j).v] else filtP s (l.take j) := by
  unfold filtP
  rw [List.take_add_one, at_eq l j h, List.filter_append, List.map_append]
  by_cases e : ((at_ l j).k.sp == s) = true
  · rw [if_pos e]; simp [e]
  · rw [if_neg e]; simp [e]
/-- What is there between two rounds. -/
structure PS (w : World) (B C sbx pbx xb : Nat) (s : Int) (v : Value) (l : List Bk) (j : Nat) (V : World) : Prop where
  bel : Below w.heap.size w V
  sx : V.heap[sbx]? = some (.cells #[.int .i64 s] 3 (0, 0))
  it : ItAt V B xb v l
  sz : C ≤ V.heap.size
  bx : ∃ u, V.heap[pbx]? = some (.cells #[u] 44 (0, 0)) ∧ V.ownsRow C 38 11 u (filtP s (l.take j)).length (pgL (filtP s (l.take j)))
/-- What does not change over the loop. -/
structure PF (w : World) (C sbx pbx xb : Nat) (v : Value) (l : List Bk) : Prop where
  s0 : w.heap.size ≤ sbx
  p0 : w.heap.size ≤ pbx
  x0 : w.heap.size ≤ xb
  C0 : w.heap.size ≤ C
  s1 : sbx < C
  p1 : pbx < C
  x1 : xb < C
  ne : sbx ≠ pbx
  nx : xb ≠ pbx
  vlt : ∀ g, v.ownBlock = some g → g < C
  vne : v.ownBlock ≠ some pbx
  few : l.length ≤ 1073741824
theorem PS.firm {w : World} {B C sbx pbx xb j F : Nat} {s : Int} {v : Value} {l : List Bk} (hF : w.heap.size ≤ F) : Firm F (PS w B C sbx pbx xb s v l j) := by
  intro V V' h hs
  have keep : ∀ {k : Nat} {cs : Array Value} {t : TypeId} {fr : Nat × Nat}, V.heap[k]? = some (.cells cs t fr) → V'.heap[k]? = V.heap[k]? := fun {k cs t fr} hk =>
    hs.block k (Array.getElem?_eq_some_iff.1 hk).1 (.inr fun o ho => by rw [hk] at ho; cases ho; exact id)
  obtain ⟨u, h1, h2⟩ := h.bx
  exact ⟨⟨hs.os.trans h.bel.os, hs.tape.trans h.bel.tape, hs.output.trans h.bel.output, Nat.le_trans h.bel.size hs.size, fun k hk => (hs.block k (Nat.lt_of_lt_of_le hk h.bel.size) (.inl (by omega))).trans (h.bel.block k hk)⟩,
    (keep h.sx).trans h.sx, ⟨(keep h.it.box).trans h.it.box, own_same h.it.own (fun g hg => by obtain ⟨cur, hc⟩ := own_obj h.it.own hg; exact keep hc)⟩, Nat.le_trans h.sz hs.size,
    u, (keep h1).trans h1, own_same h2 (fun g hg => by obtain ⟨cur, hc⟩ := own_obj h2 hg; exact keep hc)⟩
theorem PS.low {w V V' : World} {B C sbx pbx xb j : Nat} {s : Int} {v : Value} {l : List Bk} (h : PS w B C sbx pbx xb s v l j V) (hb : Below V.heap.size V V') : PS w B C sbx pbx xb s v l j V' :=
  PS.firm (F := w.heap.size) (Nat.le_refl _) _ _ h (Soft.below hb)
/-- A page more stands in the box's row. -/
theorem PS.put {w V W1 : World} {B C sbx pbx xb j : Nat} {s : Int} {v u u' : Value} {l : List Bk} (F : PF w C sbx pbx xb v l) (h : PS w B C sbx pbx xb s v l j V) (hj : j < l.length) (hk : ((at_ l j).k.sp == s) = true)
    (hu : V.heap[pbx]? = some (.cells #[u] 44 (0, 0))) (ho : V.ownsRow C 38 11 u (filtP s (l.take j)).length (pgL (filtP s (l.take j)))) {o : Obj}
    (hn : W1.ownsRow C 38 11 u' ((filtP s (l.take j)).length + 1) (pgL (filtP s (l.take j)) ++ pgC (at_ l j).v)) (hg : (V.alloc o).grownBy W1 u.ownBlock) :
    W1.cell? ⟨pbx, 0, none⟩ = some u ∧ W1.frozen? ⟨pbx, 0, none⟩ = false ∧ PS w B C sbx pbx xb s v l (j + 1) (W1.setCell ⟨pbx, 0, none⟩ u') ∧ Stay C V (W1.setCell ⟨pbx, 0, none⟩ u') := by
  have hlt : ∀ {k o}, V.heap[k]? = some o → k < V.heap.size := fun h => (Array.getElem?_eq_some_iff.1 h).1
  have ha : ∀ k, k < V.heap.size → (V.alloc o).heap[k]? = V.heap[k]? := fun k hk => Below.heap_alloc V _ k hk
  have hsa : (V.alloc o).heap.size = V.heap.size + 1 := by simp
  have hub : ∀ k, u.ownBlock = some k → C ≤ k ∧ ∃ cur, V.heap[k]? = some (.cells cur 38 (0, 0)) := fun k e => ⟨(ho.lt k e).1, own_obj ho e⟩
  have k1 : ∀ k, k < V.heap.size → u.ownBlock ≠ some k → W1.heap[k]? = V.heap[k]? := fun k hk hne => (hg.block k (by omega) (fun e => hne e.symm)).trans (ha k hk)
  have lowne : ∀ k, k < C → u.ownBlock ≠ some k := fun k hk e => by have := (hub k e).1; omega
  have q1 := (k1 pbx (hlt hu) (lowne _ F.p1)).trans hu
  have hs1 : V.heap.size + 1 ≤ W1.heap.size := by have := hg.size; omega
  have k2 : ∀ k, k ≠ pbx → (W1.setCell ⟨pbx, 0, none⟩ u').heap[k]? = W1.heap[k]? := fun k hk => Below.heap_setCell _ _ _ _ hk
  have k3 : ∀ k, k < V.heap.size → u.ownBlock ≠ some k → k ≠ pbx → (W1.setCell ⟨pbx, 0, none⟩ u').heap[k]? = V.heap[k]? := fun k h1 h2 h3 => (k2 k h3).trans (k1 k h1 h2)
  have hsz := h.sz
  have hfl : filtP s (l.take (j + 1)) = filtP s (l.take j) ++ [(at_ l j).v] := by rw [filt_take s l hj, if_pos hk]
  refine ⟨by simp [World.cell?, q1], by simp [World.frozen?, q1], ⟨⟨hg.os.trans h.bel.os, hg.tape.trans h.bel.tape, hg.output.trans h.bel.output, by rw [setCell_size]; exact Nat.le_trans h.bel.size (by omega), fun k hk => ?_⟩, (k3 sbx (hlt h.sx) (lowne _ F.s1) F.ne).trans h.sx, ⟨(k3 xb (hlt h.it.box) (lowne _ F.x1) F.nx).trans h.it.box, own_same h.it.own (fun g e => ?_)⟩, by rw [setCell_size]; omega, u', ?_, ?_⟩, ?_⟩
  · have := F.C0; have := F.p0; have := h.bel.size
    exact (k3 k (by omega) (lowne k (by omega)) (by omega)).trans (h.bel.block k hk)
  · obtain ⟨cur, hc⟩ := own_obj h.it.own e
    exact k3 g (hlt hc) (lowne g (F.vlt g e)) (fun e2 => F.vne (by rw [e, e2]))
  · have h0 := set_row q1 0 u'
    simpa using h0
  · rw [hfl, List.length_append, pgL_append]
    refine own_same (by simpa [pgL] using hn) (fun g e => k2 g ?_)
    rintro rfl
    obtain ⟨c2, h2⟩ := own_obj hn (by simpa using e)
    rw [q1] at h2; injection h2 with h2; injection h2 with _ h2 _; exact absurd h2 (by decide)
  · refine ((Stay.below (V := V) (W := V.alloc o) ((Below.refl _ V).alloc (Nat.le_refl _) _)).trans (Stay.grown hg (fun q hq => .inr fun o' ho' hsp => ?_))).trans (Stay.cell _ _ _ F.p1)
    obtain ⟨_, cur, hcq⟩ := hub q hq
    rw [ha q (hlt hcq), hcq] at ho'
    cases ho'
    rcases ho.2 with ⟨e, _⟩ | ⟨g', cap', cur', e, _, hgg, h1, h2, h3, h4⟩
    · rw [e] at hq; cases hq
    · rw [e] at hq
      obtain rfl : g' = q := by simpa [Value.ownBlock] using hq
      rw [hcq] at hgg
      cases hgg
      have : cur.size = 1 := hsp
      omega
theorem own_mono {w : World} {B C e s n : Nat} {v : Value} {xs : List Value} (hB : B ≤ C) (h : w.ownsRow C e s v n xs) : w.ownsRow B e s v n xs := by
  refine ⟨h.1, ?_⟩
  rcases h.2 with hn | ⟨g, cap, cur, rfl, hb, rest⟩
  · exact .inl hn
  · exact .inr ⟨g, cap, cur, rfl, Nat.le_trans hB hb, rest⟩
theorem put_low {w V : World} {C : Nat} {o : Obj} (h : Below w.heap.size w V) (hC : w.heap.size ≤ C) : Below w.heap.size w (V.putObj C o) :=
  ⟨h.os, h.tape, h.output, by simpa using h.size, fun k hk => (World.putObj_heap_other (by omega)).trans (h.block k hk)⟩
theorem pages_any {hb sb n : Nat} {O : Nat → Prop} {ns bl : Int} {L : Nat → List Bk} (s : Int) (w : World) (h : HX w hb sb n O ns bl L) :
    Calls Tryz.prog 14 #[.pointer (some ⟨hb, 0, none⟩), .int .i64 s] w fun e w' => ∃ v ps, e = .returned v ∧ ps.Perm (filtP s (allL L n)) ∧ ps.Pairwise (fun a b => a.va ≤ b.va) ∧ w'.ownsRow w.heap.size 38 11 v ps.length (pgL ps) ∧ Below w.heap.size w w' := by
  have hx := h
  obtain ⟨bm, V0, ht, hO⟩ := h.tab
  have hfew := ht.few
  have hb1 := ht.b1
  have hll : (allL L n).length = lenL L n := rfl
  have b2 : Below w.heap.size w ((w.alloc (.cells #[.int .i64 s] 3)).alloc (.cells #[.slice none 0 0] 44)) := by (repeat (first | (with_reducible assumption) | (with_reducible exact Below.refl _ _) | (with_reducible refine lo_step ?_ (by assumption)) | (with_reducible refine lo_drew ?_) | (with_reducible refine lo_drewN ?_ _) | (with_reducible refine lo_alloc ?_ _))) 
  have x1 : ((w.alloc (.cells #[.int .i64 s] 3)).alloc (.cells #[.slice none 0 0] 44)).heap[w.heap.size]? = some (.cells #[.int .i64 s] 3 (0, 0)) := blk_low (heap_alloc_new w _) ((Below.refl _ _).alloc (Nat.le_refl _) _)
  have x2 : ((w.alloc (.cells #[.int .i64 s] 3)).alloc (.cells #[.slice none 0 0] 44)).heap[w.heap.size + 1]? = some (.cells #[.slice none 0 0] 44 (0, 0)) := by
    have := heap_alloc_new (w.alloc (.cells #[.int .i64 s] 3)) (.cells #[.slice none 0 0] 44)
    rwa [World.size_alloc] at this
  have s2 : ((w.alloc (.cells #[.int .i64 s] 3)).alloc (.cells #[.slice none 0 0] 44)).heap.size = w.heap.size + 1 + 1 := by simp
  have H2 := hx.low b2
  obtain ⟨c0, c1⟩ := H2.cells
  refine (callsIn_wide (n := 3)).1 ?_
  refine callsIn_of_wp_marks Tryz.func14 rfl trivial ?_ rfl; simp only [Tryz.ntmps14, List.size_toArray, List.length_cons, List.length_nil, Nat.reduceAdd, Nat.reduceSub, Array.replicate_succ, Array.replicate_zero, List.push_toArray, List.append_toArray, List.nil_append, List.cons_append]
  gi_wp2_with fail
  generalize World.alloc (World.alloc w _) _ = W2 at *
  refine ⟨trivial, (callsIn_wide.2 (all_any W2 H2.tab)).mono ?_⟩
  rintro e W4 ⟨xb, v, rfl, hxb, hit, hb4⟩
  have s4 := hb4.size
  have hxl := (Array.getElem?_eq_some_iff.1 hit.box).1
  have F : PF w W4.heap.size w.heap.size (w.heap.size + 1) xb v (allL L n) := ⟨Nat.le_refl _, by omega, by omega, by omega, by omega, by omega, hxl, by omega, by omega, fun g hg => (hit.own.lt g hg).2, fun e => by have := (hit.own.lt _ e).1; omega, by unfold lenL at hfew; omega⟩
  have R0 : PS w W2.heap.size W4.heap.size w.heap.size (w.heap.size + 1) xb s v (allL L n) 0 W4 := ⟨b2.trans (hb4.mono b2.size), blk_low x1 hb4, hit, Nat.le_refl _, .slice none 0 0, blk_low x2 hb4, World.ownsRow_nil _ _ _ 11⟩
  clear x1 x2 hit hxl hxb c0 c1
  gi_wp2_with fail
  refine range_its (n := 3) (gf := 83) (bnd := #[]) (lb := #[.pointer (some ⟨xb, 0, none⟩)]) (enc := encB (allL L n)) rfl (enters_of Tryz.func83 (by kernel_rfl) rfl) (fun q => all_iter q (B := W2.heap.size) (xb := xb) (v := v) (l := allL L n)) (fun _ => rfl)
    (fun i V => PS w W2.heap.size W4.heap.size w.heap.size (w.heap.size + 1) xb s v (allL L n) i V) (fun _ => False) 0
    (fun i V h => h.it) (fun i => PS.firm (by have := b2.size; omega)) (Firm.pure _ _) R0
    (fun i a' V => ∃ kb, a' = { tmps := #[.pointer (some ⟨hb, 0, none⟩), .int .i64 s, undef, .pointer (some ⟨w.heap.size, 0, none⟩), .slice none 0 0, .pointer (some ⟨w.heap.size + 1, 0, none⟩), .pointer (some ⟨kb, 0, none⟩), .pointer (some ⟨kb + 1, 0, none⟩), .pointer (some ⟨hb, 0, none⟩), .pointer (some ⟨hb, 0, none⟩), .pointer (some ⟨hb, 1, none⟩), .pointer (some ⟨sb, 0, none⟩), .func (.func 83) #[] #[.pointer (some ⟨xb, 0, none⟩)], .agg #[.int .i64 (at_ (allL L n) i).k.sp, .int .u64 (at_ (allL L n) i).k.va, .int .i64 (at_ (allL L n) i).k.sz], .agg #[.int .u64 (at_ (allL L n) i).v.va, .int .i64 (at_ (allL L n) i).v.sz, .int .u64 (at_ (allL L n) i).v.pa, .bool (at_ (allL L n) i).v.att.write, .bool (at_ (allL L n) i).v.att.priv, .bool (at_ (allL L n) i).v.att.exec, .bool (at_ (allL L n) i).v.att.lock, .bool (at_ (allL L n) i).v.att.global, .bool (at_ (allL L n) i).v.att.quiet, .bool (at_ (allL L n) i).v.ref, .bool (at_ (allL L n) i).v.mod], undef, undef, undef, undef, undef, undef, undef, undef, undef, undef, undef], defers := [] } ∧ V.heap[kb]? = some (.cells #[.int .i64 (at_ (allL L n) i).k.sp, .int .u64 (at_ (allL L n) i).k.va, .int .i64 (at_ (allL L n) i).k.sz] 89 (0, 0)) ∧ V.heap[kb + 1]? = some (.cells #[.int .u64 (at_ (allL L n) i).v.va, .int .i64 (at_ (allL L n) i).v.sz, .int .u64 (at_ (allL L n) i).v.pa, .bool (at_ (allL L n) i).v.att.write, .bool (at_ (allL L n) i).v.att.priv, .bool (at_ (allL L n) i).v.att.exec, .bool (at_ (allL L n) i).v.att.lock, .bool (at_ (allL L n) i).v.att.global, .bool (at_ (allL L n) i).v.att.quiet, .bool (at_ (allL L n) i).v.ref, .bool (at_ (allL L n) i).v.mod] 38 (0, 0)))
    (fun i a' V V' h hs => by
      obtain ⟨kb, e, hk, hp⟩ := h
      exact ⟨kb, e, (Firm.cells W4.heap.size kb _ _ _) V V' hk hs, (Firm.cells W4.heap.size (kb + 1) _ _ _) V V' hp hs⟩) ?assign ?body ?done ?stop
  case stop => intro V hf; exact hf.elim
  case assign =>
    rintro m2 l2 i V K hI hi hK
    have NL : Below V.heap.size V ((V.alloc (.cells #[.int .i64 (at_ (allL L n) i).k.sp, .int .u64 (at_ (allL L n) i).k.va, .int .i64 (at_ (allL L n) i).k.sz] 89)).alloc (.cells #[.int .u64 (at_ (allL L n) i).v.va, .int .i64 (at_ (allL L n) i).v.sz, .int .u64 (at_ (allL L n) i).v.pa, .bool (at_ (allL L n) i).v.att.write, .bool (at_ (allL L n) i).v.att.priv, .bool (at_ (allL L n) i).v.att.exec, .bool (at_ (allL L n) i).v.att.lock, .bool (at_ (allL L n) i).v.att.global, .bool (at_ (allL L n) i).v.att.quiet, .bool (at_ (allL L n) i).v.ref, .bool (at_ (allL L n) i).v.mod] 38)) := by (repeat (first | (with_reducible assumption) | (with_reducible exact Below.refl _ _) | (with_reducible refine lo_step ?_ (by assumption)) | (with_reducible refine lo_drew ?_) | (with_reducible refine lo_drewN ?_ _) | (with_reducible refine lo_alloc ?_ _))) 
    have NR := blk_low (heap_alloc_new V (.cells #[.int .i64 (at_ (allL L n) i).k.sp, .int .u64 (at_ (allL L n) i).k.va, .int .i64 (at_ (allL L n) i).k.sz] 89)) ((Below.refl _ _).alloc (Nat.le_refl _) (.cells #[.int .u64 (at_ (allL L n) i).v.va, .int .i64 (at_ (allL L n) i).v.sz, .int .u64 (at_ (allL L n) i).v.pa, .bool (at_ (allL L n) i).v.att.write, .bool (at_ (allL L n) i).v.att.priv, .bool (at_ (allL L n) i).v.att.exec, .bool (at_ (allL L n) i).v.att.lock, .bool (at_ (allL L n) i).v.att.global, .bool (at_ (allL L n) i).v.att.quiet, .bool (at_ (allL L n) i).v.ref, .bool (at_ (allL L n) i).v.mod] 38))
    have NP := heap_alloc_new (V.alloc (.cells #[.int .i64 (at_ (allL L n) i).k.sp, .int .u64 (at_ (allL L n) i).k.va, .int .i64 (at_ (allL L n) i).k.sz] 89)) (.cells #[.int .u64 (at_ (allL L n) i).v.va, .int .i64 (at_ (allL L n) i).v.sz, .int .u64 (at_ (allL L n) i).v.pa, .bool (at_ (allL L n) i).v.att.write, .bool (at_ (allL L n) i).v.att.priv, .bool (at_ (allL L n) i).v.att.exec, .bool (at_ (allL L n) i).v.att.lock, .bool (at_ (allL L n) i).v.att.global, .bool (at_ (allL L n) i).v.att.quiet, .bool (at_ (allL L n) i).v.ref, .bool (at_ (allL L n) i).v.mod] 38)
    rw [World.size_alloc] at NP
    have hI3 := hI.low NL
    have hS : Stay W4.heap.size V _ := Stay.below NL
    unfold encB
    gi_wp2
    exact hK _ _ hS hI3 ⟨_, rfl, NR, NP⟩
  case body =>
    rintro m2 l i a' V hI ⟨kb, rfl, hk, hp⟩ hi
    obtain ⟨ik, hik, hz0, hz1, hz2⟩ := info_parts infoP
    obtain ⟨u, hu1, hu2⟩ := hI.bx
    have c1 : V.cell? ⟨w.heap.size, 0, none⟩ = some (.int .i64 s) := by have := hI.sx; simp [World.cell?, this]
    have c2 : V.cell? ⟨w.heap.size + 1, 0, none⟩ = some u := by simp [World.cell?, hu1]
    obtain ⟨k0, k1, k2⟩ := key_cells hk
    obtain ⟨p0, p1, p2, p3, p4, p5, p6, p7, p8, p9, p10⟩ := (RowP.mk hp).cells
    have hft := filt_take s (allL L n) hi
    have hfl := filt_len s ((allL L n).take i)
    have hlen : (filtP s ((allL L n).take i)).length ≤ 1073741824 := by rw [List.length_take] at hfl; omega
    obtain ⟨b, hb⟩ : ∃ b, at_ (allL L n) i = b := ⟨_, rfl⟩
    have HPUT := Lib.hid (fun (hq : ((at_ (allL L n) i).k.sp == s) = true) u' W1 o hn hg => PS.put (W1 := W1) (u' := u') (o := o) F hI hi hq hu1 hu2 hn hg)
    rw [hb] at hft k0 k1 k2 p0 p1 p2 p3 p4 p5 p6 p7 p8 p9 p10 HPUT ⊢
    have hsz := hI.sz
    cases hq : (b.k.sp == s)
    · rw [hq] at hft
      have hI2 : PS w W2.heap.size W4.heap.size w.heap.size (w.heap.size + 1) xb s v (allL L n) (i + 1) V := ⟨hI.bel, hI.sx, hI.it, hI.sz, by rw [hft]; exact hI.bx⟩
      clear hI HPUT hu1 hu2 hk hp hft
      gi_wp2_with fail
      exact ⟨Stay.refl _ _, hI2⟩
    · rw [hq] at hft
      have hone := pgC_one b.v
      have HP := Lib.hid (HPUT.out hq)
      clear hI HPUT hk hp hft hu1 hb
      have hown := hu2.alloc (.cells #[.int .u64 b.v.va, .int .i64 b.v.sz, .int .u64 b.v.pa, .bool b.v.att.write, .bool b.v.att.priv, .bool b.v.att.exec, .bool b.v.att.lock, .bool b.v.att.global, .bool b.v.att.quiet, .bool b.v.ref, .bool b.v.mod] 38)
      have hnew := heap_alloc_new V (.cells #[.int .u64 b.v.va, .int .i64 b.v.sz, .int .u64 b.v.pa, .bool b.v.att.write, .bool b.v.att.priv, .bool b.v.att.exec, .bool b.v.att.lock, .bool b.v.att.global, .bool b.v.att.quiet, .bool b.v.ref, .bool b.v.mod] 38)
      have hbase : W4.heap.size ≤ (V.alloc (.cells #[.int .u64 b.v.va, .int .i64 b.v.sz, .int .u64 b.v.pa, .bool b.v.att.write, .bool b.v.att.priv, .bool b.v.att.exec, .bool b.v.att.lock, .bool b.v.att.global, .bool b.v.att.quiet, .bool b.v.ref, .bool b.v.mod] 38)).heap.size := by rw [World.size_alloc]; omega
      gi_wp2_with (gi_at_builtin; refine wpListIn_append_own _ rfl _ _ 44 rfl W4.heap.size 38 ik _ 11 32 Tryz.underlying44 hik hz0 hz1 hz2 rfl (by decide) u _ _ rfl hown ⟨V.heap.size, 0, none⟩ 1 1 (pgC b.v) rfl rfl (World.news_of_block hnew) hone (by unfold maxLen; omega) (by omega) hbase ?_; intro u' W1 hn hg hiff; obtain ⟨ao, cap', rfl⟩ := own_shape3 hn; obtain ⟨q1, q2, q3, q4⟩ := HP.out _ W1 _ hn hg)
      exact ⟨q4, q3⟩
  case done =>
    rintro V hI hK
    obtain ⟨u, hu1, hu2⟩ := hI.bx
    rw [List.take_length] at hu2
    have c2 : V.cell? ⟨w.heap.size + 1, 0, none⟩ = some u := by simp [World.cell?, hu1]
    have hfl := filt_len s (allL L n)
    have hlen : (filtP s (allL L n)).length ≤ 1073741824 := by have := F.few; omega
    have hbel := hI.bel
    have hC := F.C0
    have hp1 := F.p1
    clear hI
    unfold lastMark
    obtain ⟨ps, hps⟩ : ∃ ps, ps = filtP s (allL L n) := ⟨_, rfl⟩
    rw [← hps] at hu2 hfl hlen
    have HPS := Lib.hid hps
    clear hps
    rcases own_form hu2 with ⟨rfl, h0⟩ | ⟨g, cap, rfl, hgb, hnc, hcm⟩
    · have hpn := Lib.hid (List.eq_nil_of_length_eq_zero h0)
      have hbel2 := Lib.hid (put_low hbel hC (o := .deferred none))
      clear hu1 hu2
      gi_wp2_with fail
      refine ⟨trivial, (callsIn_wide.2 (psort_none 0 V)).mono ?_⟩
      rintro e V2 ⟨rfl, rfl⟩
      gi_wp2_with fail
      refine ⟨by simp, .inl ⟨_, _, rfl, run_takeDeferred hK, ?_⟩⟩
      exact ⟨_, results_tmp rfl _ _ _, .slice none 0 0, [], rfl, by rw [← HPS.out, hpn.out], List.Pairwise.nil, World.ownsRow_nil _ _ _ 11, hbel2.out⟩
    · have hgl := hu2.lt g hgb
      have hgC : g ≠ W4.heap.size := by
        rintro rfl
        obtain ⟨cur, hc⟩ := own_obj hu2 hgb
        rw [hK] at hc; cases hc
      have CSo := Lib.hid (psort_any hlen V hu2)
      have hC1 := (Array.getElem?_eq_some_iff.1 hK).1
      gi_wp2_with fail
      refine ⟨trivial, (callsIn_wide.2 CSo.out).mono ?_⟩
      rintro e V2 ⟨rfl, ps', hperm, hsort, hown2, hg2⟩
      have hK2 := (hg2.block _ hC1 (fun e => hgC (Option.some.inj e).symm)).trans hK
      have hbl : w.heap.size + 1 < V.heap.size := (Array.getElem?_eq_some_iff.1 hu1).1
      have hu3 := (hg2.block _ hbl (fun e => by have := hgl.1; have := Option.some.inj e; omega)).trans hu1
      have c3 : V2.cell? ⟨w.heap.size + 1, 0, none⟩ = some (.slice (some ⟨g, 0, none⟩) ps.length cap) := by simp [World.cell?, hu3]
      have hbel2 := Lib.hid (put_low (hbel.grown hg2 hbel.size (fun k hk => by cases hk; exact Nat.le_trans hC hgl.1)) hC (o := .deferred none))
      have hgq : ∀ q, (Value.slice (some ⟨g, 0, none⟩) ps.length cap).ownBlock = some q → W4.heap.size ≠ q := fun q hq e => hgC (by rw [e]; simpa [Value.ownBlock] using hq)
      have hown3 := Lib.hid (own_mono hC (own_same hown2 (w' := V2.putObj W4.heap.size (.deferred none)) (fun q hq => World.putObj_heap_other (hgq q hq).symm)))
      have hl2 : ps'.length = ps.length := hperm.length_eq
      clear hu1 hu2 hu3 hown2 hg2 CSo c2
      gi_wp2_with fail
      refine ⟨by simp, .inl ⟨_, _, rfl, run_takeDeferred hK2, ?_⟩⟩
      exact ⟨_, results_tmp rfl _ _ _, _, ps', rfl, by rw [← HPS.out]; exact hperm, hsort, by rw [hl2]; exact hown3.out, hbel2.out⟩
end Go.Proofs.YtffpfceclhogoaaGreat.Hp
namespace Go.Proofs.YtffpfceclhogoaaGreat.Hp
open Fld Hs
open Go.ChangeShapes Go.WideShapes Go.ChangeAt Go.RowKit Go.Maps
set_option maxHeartbeats 1000000
set_option maxRecDepth 100000
/-- The pages cut out, one behind the other. -/
def cutsT (n : Nat) (L : Nat → List Bk) (s : Int) : List Pg → Nat → List Bk
  | [] => L
  | p :: ps => cutsT n (cutT n L (keyP s p)) s ps
theorem cuts_append (n : Nat) (s : Int) : ∀ (a b : List Pg) (L : Nat → List Bk), cutsT n L s (a ++ b) = cutsT n (cutsT n L s a) s b
  | [], _, _ => rfl
  | p :: a, b, L => by simp only [List.cons_append, cutsT]; exact cuts_append n s a b _
theorem cuts_take (n : Nat) (L : Nat → List Bk) (s : Int) (ps : List Pg) {j : Nat} (h : j < ps.length) : cutsT n L s (ps.take (j + 1)) = cutT n (cutsT n L s (ps.take j)) (keyP s (pat ps j)) := by
  have e : ps[j]? = some (pat ps j) := by simp [pat, h]
  rw [List.take_add_one, e, cuts_append]; rfl
/-- A hat some of whose keys were cut out since W1. -/
def DS (W1 w : World) (hb sb n : Nat) (O : Nat → Prop) (ns bl : Int) (L : Nat → List Bk) : Prop := ∃ O', HX w hb sb n O' ns bl L ∧ Turn W1 w O ∧ ∀ k, O' k → O k ∨ W1.heap.size ≤ k
section
variable {W1 w w' : World} {hb sb n n' : Nat} {O : Nat → Prop} {ns bl : Int} {L L' : Nat → List Bk}
theorem DS.start (h : HX W1 hb sb n O ns bl L) : DS W1 W1 hb sb n O ns bl L := ⟨O, h, Turn.refl _ _, fun _ h => .inl h⟩
theorem DS.low (h : DS W1 w hb sb n O ns bl L) (hb' : Below w.heap.size w w') : DS W1 w' hb sb n O ns bl L := by
  obtain ⟨O', a, b, c⟩ := h; exact ⟨O', a.low hb', b.below hb', c⟩
theorem DS.to (h : DS W1 w hb sb n O ns bl L) : TabTo W1 w sb O n bl L := by
  obtain ⟨O', a, b, c⟩ := h; exact ⟨O', a.tab, b, c⟩
theorem DS.cell (h : DS W1 w hb sb n O ns bl L) : w.cell? ⟨hb, 1, none⟩ = some (.pointer (some ⟨sb, 0, none⟩)) := by
  obtain ⟨O', a, _⟩ := h; exact a.cells.2
theorem DS.own_ {B e z m : Nat} {v : Value} {xs : List Value} (h : DS W1 w hb sb n O ns bl L) (ho : W1.ownsRow B e z v m xs) (hn : ∀ g, v.ownBlock = some g → ¬ O g) : w.ownsRow B e z v m xs := by
  obtain ⟨O', _, b, _⟩ := h
  exact own_same ho (fun g hg => b.block g (ho.lt g hg).2 (hn g hg))
theorem DS.size (h : DS W1 w hb sb n O ns bl L) : W1.heap.size ≤ w.heap.size := by
  obtain ⟨O', _, b, _⟩ := h; exact b.size
end
/-- .. and a page in a box. -/
def DP (W1 w : World) (hb sb n : Nat) (O : Nat → Prop) (ns bl : Int) (L : Nat → List Bk) (pb : Nat) (p : Pg) : Prop := ∃ O', HX w hb sb n O' ns bl L ∧ Turn W1 w O ∧ (∀ k, O' k → O k ∨ W1.heap.size ≤ k) ∧ RowP w pb p ∧ ¬ O' pb
section
variable {W1 w w' : World} {hb sb n pb : Nat} {O : Nat → Prop} {ns bl : Int} {L : Nat → List Bk} {p : Pg}
theorem DP.new (h : DS W1 w hb sb n O ns bl L) (p : Pg) : DP W1 (w.alloc (.cells #[.int .u64 p.va, .int .i64 p.sz, .int .u64 p.pa, .bool p.att.write, .bool p.att.priv, .bool p.att.exec, .bool p.att.lock, .bool p.att.global, .bool p.att.quiet, .bool p.ref, .bool p.mod] 38)) hb sb n O ns bl L w.heap.size p := by
  obtain ⟨O', a, b, c⟩ := h
  exact ⟨O', a.low (by (repeat (first | (with_reducible assumption) | (with_reducible exact Below.refl _ _) | (with_reducible refine lo_step ?_ (by assumption)) | (with_reducible refine lo_drew ?_) | (with_reducible refine lo_drewN ?_ _) | (with_reducible refine lo_alloc ?_ _))) ), b.alloc _, c, RowP.new w p, fun e => by have := a.tab.lt e; omega⟩
theorem DP.low (h : DP W1 w hb sb n O ns bl L pb p) (hb' : Below w.heap.size w w') : DP W1 w' hb sb n O ns bl L pb p := by
  obtain ⟨O', a, b, c, d, e⟩ := h; exact ⟨O', a.low hb', b.below hb', c, d.low hb', e⟩
theorem DP.cs (h : DP W1 w hb sb n O ns bl L pb p) : w.cell? ⟨hb, 1, none⟩ = some (.pointer (some ⟨sb, 0, none⟩)) ∧ w.cell? ⟨pb, 0, none⟩ = some (.int .u64 p.va) ∧ w.cell? ⟨pb, 1, none⟩ = some (.int .i64 p.sz) ∧ w.cell? ⟨pb, 2, none⟩ = some (.int .u64 p.pa) ∧ w.cell? ⟨pb, 3, none⟩ = some (.bool p.att.write) ∧ w.cell? ⟨pb, 4, none⟩ = some (.bool p.att.priv) ∧ w.cell? ⟨pb, 5, none⟩ = some (.bool p.att.exec) ∧ w.cell? ⟨pb, 6, none⟩ = some (.bool p.att.lock) ∧ w.cell? ⟨pb, 7, none⟩ = some (.bool p.att.global) ∧ w.cell? ⟨pb, 8, none⟩ = some (.bool p.att.quiet) ∧ w.cell? ⟨pb, 9, none⟩ = some (.bool p.ref) ∧ w.cell? ⟨pb, 10, none⟩ = some (.bool p.mod) := by
  obtain ⟨O', a, b, c, d, e⟩ := h; exact ⟨a.cells.2, d.cells⟩
theorem DP.cut (h : DP W1 w hb sb n O ns bl L pb p) (k : Ky) (hk : k.wf) :
    Calls Tryz.prog 73 #[.pointer (some ⟨sb, 0, none⟩), .agg #[.int .i64 k.sp, .int .u64 k.va, .int .i64 k.sz]] w fun e w' => e = .returned (.int .i64 (setE n L k)) ∧ DS W1 w' hb sb n O ns bl (cutT n L k) ∧ (w'.cell? ⟨hb, 1, none⟩ = some (.pointer (some ⟨sb, 0, none⟩)) ∧ w'.cell? ⟨pb, 0, none⟩ = some (.int .u64 p.va) ∧ w'.cell? ⟨pb, 1, none⟩ = some (.int .i64 p.sz) ∧ w'.cell? ⟨pb, 2, none⟩ = some (.int .u64 p.pa) ∧ w'.cell? ⟨pb, 3, none⟩ = some (.bool p.att.write) ∧ w'.cell? ⟨pb, 4, none⟩ = some (.bool p.att.priv) ∧ w'.cell? ⟨pb, 5, none⟩ = some (.bool p.att.exec) ∧ w'.cell? ⟨pb, 6, none⟩ = some (.bool p.att.lock) ∧ w'.cell? ⟨pb, 7, none⟩ = some (.bool p.att.global) ∧ w'.cell? ⟨pb, 8, none⟩ = some (.bool p.att.quiet) ∧ w'.cell? ⟨pb, 9, none⟩ = some (.bool p.ref) ∧ w'.cell? ⟨pb, 10, none⟩ = some (.bool p.mod)) := by
  obtain ⟨O', a, b, c, d, hn⟩ := h
  refine (cut_any k hk w a.tab).mono ?_
  rintro e w' ⟨rfl, hT⟩
  obtain ⟨O2, a2, b2, c2⟩ := a.turned hT
  have hp : RowP w' pb p := ⟨(b2.block pb (Array.getElem?_eq_some_iff.1 d.row).1 hn).trans d.row⟩
  exact ⟨rfl, ⟨O2, a2, b.trans b2 c, fun q hq => (c2 q hq).elim (c q) (fun h => .inr (Nat.le_trans b.size h))⟩, a2.cells.2, hp.cells⟩
end
theorem destroy_any {hb sb n : Nat} {O : Nat → Prop} {ns bl : Int} {L : Nat → List Bk} (s : Int) (s0 : -9223372036854775808 ≤ s) (s1 : s ≤ 9223372036854775807) (hw : ∀ b ∈ allL L n, b.v.wf) (w : World) (h : HX w hb sb n O ns bl L) :
    Calls Tryz.prog 35 #[.pointer (some ⟨hb, 0, none⟩), .int .i64 s] w fun e w' =>
      (isB ns s = false ∧ e = .returned (.tuple #[.slice none 0 0, .int .i64 1]) ∧ TabTo w w' sb O n bl L) ∨
      (isB ns s = true ∧ ∃ v ps, e = .returned (.tuple #[v, .int .i64 0]) ∧ ps.Perm (filtP s (allL L n)) ∧ ps.Pairwise (fun a b => a.va ≤ b.va) ∧ w'.ownsRow w.heap.size 38 11 v ps.length (pgL ps) ∧ ∃ O', Tab w' sb O' n bl (cutsT n L s ps) ∧ Turn w w' O ∧ (∀ k, O' k → O k ∨ w.heap.size ≤ k) ∧ ∀ g, v.ownBlock = some g → ¬ O' g) := by
  have hul : ∀ k, O k → k < w.heap.size := fun k hk => h.tab.lt hk
  have C1 := Lib.hid (fun (W : World) (h : HX W hb sb n O ns bl L) => (by
    obtain ⟨bm, V, h1⟩ := h.read
    exact has_any s W h1 : Calls Tryz.prog 49 #[.pointer (some ⟨hb, 0, none⟩), .int .i64 s] W fun e w' => e = .returned (.bool (isB ns s)) ∧ w' = W))
  have C2 := Lib.hid (fun (W : World) (h : HX W hb sb n O ns bl L) => pages_any s W h)
  have hfew := h.facts
  cases hs : isB ns s
  · rw [hs] at C1
    have hT := Lib.hid (TabTo.low h.tab (Below.refl _ w))
    go_enter Tryz.func35, Tryz.ntmps35
    go_wp2_with fail
    refine (C1.out _ h).mono ?_; rintro e w1 ⟨rfl, rfl⟩
    go_wp2_with fail
    go_ret2
    exact .inl ⟨trivial, rfl, hT.out⟩
  · rw [hs] at C1
    go_enter Tryz.func35, Tryz.ntmps35
    go_wp2_with fail
    refine (C1.out _ h).mono ?_; rintro e w1 ⟨rfl, rfl⟩
    go_wp2_with fail
    refine (C2.out _ h).mono ?_; rintro e W1 ⟨v, ps, rfl, hperm, hsort, hown, hbel⟩
    have D0 := DS.start (h.low hbel)
    have hno : ∀ g, v.ownBlock = some g → ¬ O g := fun g hg ho => by have := hul g ho; have := (hown.lt g hg).1; omega
    have hwf : ∀ j, j < ps.length → (pat ps j).wf := fun j hj => by
      have h1 : pat ps j ∈ ps := List.mem_of_getElem? (by simp [pat, hj] : ps[j]? = some (pat ps j))
      have h2 := hperm.mem_iff.1 h1
      unfold filtP at h2
      obtain ⟨b, hb, e⟩ := List.mem_map.1 h2
      rw [← e]; exact hw b (List.mem_filter.1 hb).1
    have hll : (allL L n).length = lenL L n := rfl
    have hlen : ps.length ≤ 1073741824 := by have h1 := hperm.length_eq; have h2 := filt_len s (allL L n); omega
    obtain ⟨ao, cap, rfl⟩ := own_shape3 hown
    have HP := Lib.hid (And.intro hperm (And.intro hsort (And.intro hown hbel)))
    have HW := Lib.hid hwf
    clear hperm hsort hwf hw C1 C2 hbel h hfew
    have HNO := Lib.hid hno
    have hown' := Lib.hid (fun (V : World) (L' : Nat → List Bk) (h : DS W1 V hb sb n O ns bl L') => h.own_ HP.out.2.2.1 HNO.out)
    clear hno hul hown
    go_wp2_with fail
    go_loopw [18] (fun i wr => ∃ j : Nat, i = .int .i64 (j : Int) ∧ j ≤ ps.length ∧ DS W1 wr hb sb n O ns bl (cutsT n L s (ps.take j))) (fun i _ => ps.length - (RowKit.intOf i).toNat)
    case atStart => exact ⟨0, rfl, Nat.zero_le _, D0⟩
    case round =>
      clear D0
      obtain ⟨j, rfl, hj, D⟩ := hrel
      by_cases hlt : j < ps.length
      · have hlt' : (j : Int) < (ps.length : Int) := by omega
        have hO := hown'.out _ _ D
        have hwj := HW.out j hlt
        have hct := Lib.hid (cuts_take n L s ps hlt)
        rcases own_form hO with ⟨_, h0⟩ | ⟨g, cap2, hv, hgb, hnc, hcm⟩
        · omega
        · obtain ⟨y0, y1, y2, y3, y4, y5, y6, y7, y8, y9, y10⟩ := own_page hO hgb hlt
          simp only [Value.slice.injEq, true_and] at hv
          obtain ⟨rfl, rfl⟩ := hv
          unfold maxLen at hcm
          have P0 := DP.new D (pat ps j)
          have hS := P0.cs
          generalize pat ps j = p at *
          have C2 := Lib.hid (fun (W : World) => hkey_any s p W)
          have C3 := Lib.hid (fun (W : World) (h : DP W1 W hb sb n O ns bl (cutsT n L s (ps.take j)) wr.heap.size p) => h.cut (keyP s p) (keyP_wf s0 s1 hwj))
          clear D hO
          go_wp2_with fail
          generalize World.alloc wr _ = W2 at *
          generalize wr.heap.size = pb at *
          clear y0 y1 y2 y3 y4 y5 y6 y7 y8 y9 y10
          go_region_held3 (fun w1 => w1.cell? ⟨hb, 1, none⟩ = some (.pointer (some ⟨sb, 0, none⟩)) ∧ w1.cell? ⟨pb, 0, none⟩ = some (.int .u64 p.va) ∧ w1.cell? ⟨pb, 1, none⟩ = some (.int .i64 p.sz) ∧ w1.cell? ⟨pb, 2, none⟩ = some (.int .u64 p.pa) ∧ w1.cell? ⟨pb, 3, none⟩ = some (.bool p.att.write) ∧ w1.cell? ⟨pb, 4, none⟩ = some (.bool p.att.priv) ∧ w1.cell? ⟨pb, 5, none⟩ = some (.bool p.att.exec) ∧ w1.cell? ⟨pb, 6, none⟩ = some (.bool p.att.lock) ∧ w1.cell? ⟨pb, 7, none⟩ = some (.bool p.att.global) ∧ w1.cell? ⟨pb, 8, none⟩ = some (.bool p.att.quiet) ∧ w1.cell? ⟨pb, 9, none⟩ = some (.bool p.ref) ∧ w1.cell? ⟨pb, 10, none⟩ = some (.bool p.mod))
            (first | (with_reducible assumption) | (refine (DP.cs (DP.low P0 ?_)); (repeat (first | (with_reducible assumption) | (with_reducible exact Below.refl _ _) | (with_reducible refine lo_step ?_ (by assumption)) | (with_reducible refine lo_drew ?_) | (with_reducible refine lo_drewN ?_ _) | (with_reducible refine lo_alloc ?_ _) | (with_reducible refine lo_set ?_ ?_ _) | (exact Nat.le_refl _) | (exact hs2 _ (Nat.le_refl _)) | (exact hb'.size))) ))
            (first
              | (go_at_call 65; (with_reducible refine (C2.out _).mono ?_); rintro e w' ⟨rfl, hb'⟩)
              | (go_at_call 73; (with_reducible refine (C3.out _ (DP.low P0 (by (repeat (first | (with_reducible assumption) | (with_reducible exact Below.refl _ _) | (with_reducible refine lo_step ?_ (by assumption)) | (with_reducible refine lo_drew ?_) | (with_reducible refine lo_drewN ?_ _) | (with_reducible refine lo_alloc ?_ _) | (with_reducible refine lo_set ?_ ?_ _) | (exact Nat.le_refl _) | (exact hs2 _ (Nat.le_refl _)) | (exact hb'.size))) ))).mono ?_); rintro e w5 ⟨rfl, D5, Q5⟩))
          all_goals
            rw [← hct.out] at D5
            clear Q5 hS P0
            go_wp2_with fail
            go_roundw
            case rel => exact ⟨j + 1, by go_num, by omega, D5⟩
            case measure => simp [RowKit.intOf]; omega
      · obtain rfl : j = ps.length := by omega
        rw [List.take_length] at D
        have hO := Lib.hid (hown'.out _ _ D)
        obtain ⟨O', D1, D2, D3⟩ := D
        have HD := Lib.hid (And.intro D1.tab (And.intro D2 D3))
        clear D1 D2 D3
        go_wp2_with fail
        go_ret2
        refine .inr ⟨trivial, _, ps, rfl, HP.out.1, HP.out.2.1, hO.out, O', HD.out.1, (Turn.low O HP.out.2.2.2).trans HD.out.2.1 (fun k hk => .inl hk), fun k hk => (HD.out.2.2 k hk).imp id (Nat.le_trans HP.out.2.2.2.size), fun g hg ho => ?_⟩
        rcases HD.out.2.2 g ho with h1 | h1
        · exact HNO.out g hg h1
        · have := (HP.out.2.2.1.lt g hg).2; omega
end Go.Proofs.YtffpfceclhogoaaGreat.Hp
namespace Go.Proofs.YtffpfceclhogoaaGreat.Hp
open Fld Hs
open Go.ChangeShapes Go.WideShapes Go.ChangeAt Go.RowKit Go.Maps
set_option maxHeartbeats 1000000
set_option maxRecDepth 100000
def NewHat (w w' : World) (hb sb n : Nat) (ns bl : Int) : Prop := ∃ O, HX w' hb sb n O ns bl (fun _ => []) ∧ Below w.heap.size w w' ∧ (∀ k, O k → w.heap.size ≤ k) ∧ w.heap.size ≤ hb
theorem hnew_any (sp bl ch : Int) (s0 : -9223372036854775808 ≤ sp) (s1 : sp ≤ 9223372036854775807) (hb0 : -9223372036854775808 ≤ bl) (hb1 : bl ≤ 1073741824) (hc0 : -9223372036854775808 ≤ ch) (hc1 : ch ≤ 9223372036854775807) (w : World) :
    Calls Tryz.prog 9 #[.int .i64 sp, .int .i64 bl, .int .i64 ch] w fun e w' => ∃ hb sb, e = .returned (.pointer (some ⟨hb, 0, none⟩)) ∧ NewHat w w' hb sb (max ch 1).toNat (min (max sp 0) 64) (max bl 0) := by
  have CN := Lib.hid (fun w => new_any bl ch hb0 hb1 hc0 hc1 w)
  go_enter Tryz.func9, Tryz.ntmps9
  go_wp2_with fail
  refine (CN.out _).mono ?_; rintro e w1 ⟨rfl, O, h1, h2, h3⟩
  have b1 := h2.alloc h2.size (.cells #[.int .i64 (min (max sp 0) 64), .pointer (some ⟨w.heap.size + 1, 0, none⟩)] 67)
  have r1 := heap_alloc_new w1 (.cells #[.int .i64 (min (max sp 0) 64), .pointer (some ⟨w.heap.size + 1, 0, none⟩)] 67)
  have HN : NewHat w (w1.alloc (.cells #[.int .i64 (min (max sp 0) 64), .pointer (some ⟨w.heap.size + 1, 0, none⟩)] 67)) w1.heap.size (w.heap.size + 1) (max ch 1).toNat (min (max sp 0) 64) (max bl 0) :=
    ⟨O, ⟨h1.below ((Below.refl _ _).alloc (Nat.le_refl _) _) (Nat.le_refl _), r1, fun e => by have := h1.lt e; omega, by omega, by omega⟩, b1, h3, h2.size⟩
  have HH := Lib.hid HN
  clear h1 h2 h3 b1 r1 HN CN
  go_wp2_with fail
  go_ret
  exact ⟨_, _, rfl, HH.out⟩
end Go.Proofs.YtffpfceclhogoaaGreat.Hp
