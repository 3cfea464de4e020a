/-
  The law's own 'all' of layer 11: what a table tells is what a list has. Conditions: a table that is there; the list is what it has.
-/
import Derived.Test.YtilijnalhkeggaaHDh
import Derived.Test.YtilijnalhkeggaaHList
import Derived.Sort.CutIn
namespace Go.Proofs.Ytilijnalhkeggaa.Hs
open Fld
open Ts (Stay Soft Firm Lp Sp lastMark)
open Go.ChangeShapes Go.WideShapes Go.ChangeAt Go.RowKit Go.Maps Go.Shelf
attribute [local go_sem] Oper.semAt_some
set_option maxHeartbeats 2000000
set_option maxRecDepth 100000
/-- Between two rounds: the boxes (list wanted, most, result, number), the table's list, the list wanted. -/
structure AS (w : World) (B xb ib : Nat) (v wv : Value) (l : List Bk) (most : Int) (j : Nat) (V : World) : Prop where
  bel : Below w.heap.size w V
  wx : V.heap[w.heap.size]? = some (.cells #[wv] 58 (0, 0))
  mx : V.heap[w.heap.size + 1]? = some (.cells #[.int .i64 most] 3 (0, 0))
  rx : V.heap[w.heap.size + 1 + 1]? = some (.cells #[.bool false] 4 (0, 0))
  ix : V.heap[ib]? = some (.cells #[.int .i64 (j : Int)] 3 (0, 0))
  it : ItAt V B xb v l
  own : POwn V wv l
theorem AS.firm {w : World} {B xb ib j F : Nat} {v wv : Value} {l : List Bk} {most : Int} (hF : w.heap.size ≤ F) : Firm F (AS w B xb ib v wv l most j) := by
  intro V V' h hs
  have keep : ∀ {k : Nat} {cs : Array Value} {t : TypeId} {fr : Nat × Nat}, V.heap[k]? = some (.cells cs t fr) → V'.heap[k]? = V.heap[k]? := fun {k cs t fr} hk =>
    hs.block k (Array.getElem?_eq_some_iff.1 hk).1 (.inr fun o ho => by rw [hk] at ho; cases ho; exact id)
  exact ⟨⟨hs.os.trans h.bel.os, hs.tape.trans h.bel.tape, hs.output.trans h.bel.output, Nat.le_trans h.bel.size hs.size, fun k hk => (hs.block k (Nat.lt_of_lt_of_le hk h.bel.size) (.inl (by omega))).trans (h.bel.block k hk)⟩,
    (keep h.wx).trans h.wx, (keep h.mx).trans h.mx, (keep h.rx).trans h.rx, (keep h.ix).trans h.ix, ⟨(keep h.it.box).trans h.it.box, own_same h.it.own (fun g hg => by obtain ⟨cur, hc⟩ := own_obj h.it.own hg; exact keep hc)⟩, own_same h.own (fun g hg => by obtain ⟨cur, hc⟩ := own_obj h.own hg; exact keep hc)⟩
theorem AS.low {w V V' : World} {B xb ib j : Nat} {v wv : Value} {l : List Bk} {most : Int} (h : AS w B xb ib v wv l most j V) (hb : Below V.heap.size V V') : AS w B xb ib v wv l most j V' :=
  AS.firm (F := w.heap.size) (Nat.le_refl _) _ _ h (Soft.below hb)
theorem set_one {W : World} {g : Nat} {a : Value} {t : TypeId} (h : W.heap[g]? = some (.cells #[a] t (0, 0))) (x : Value) :
    (W.setCell ⟨g, 0, none⟩ x).heap[g]? = some (.cells #[x] t (0, 0)) ∧ (∀ k, k ≠ g → (W.setCell ⟨g, 0, none⟩ x).heap[k]? = W.heap[k]?) := by
  refine ⟨?_, fun k hk => Below.heap_setCell _ _ _ _ hk⟩
  rw [setCell_eq_setRow W g 0 _ _ _ _ h]
  have h1 := setRow_heap W g _ (#[a].setIfInBounds 0 x) _ _ h
  simpa using h1
/-- The number is counted on. -/
theorem AS.step {w V : World} {B xb ib j : Nat} {v wv : Value} {l : List Bk} {most : Int} (h : AS w B xb ib v wv l most j V) (hib : w.heap.size + 1 + 1 + 1 ≤ ib) : AS w B xb ib v wv l most (j + 1) (V.setCell ⟨ib, 0, none⟩ (.int .i64 ((j : Int) + 1))) := by
  obtain ⟨s1, s2⟩ := set_one h.ix (.int .i64 ((j : Int) + 1))
  refine ⟨h.bel.setCell (by show w.heap.size ≤ ib; omega) _, (s2 _ (by omega)).trans h.wx, (s2 _ (by omega)).trans h.mx, (s2 _ (by omega)).trans h.rx, s1, ⟨(s2 _ fun e => ?_).trans h.it.box, own_same h.it.own (fun g hg => s2 g fun e => ?_)⟩, own_same h.own (fun g hg => s2 g fun e => ?_)⟩
  · have := h.it.box
    rw [e, h.ix] at this; injection this with this; injection this with _ this _; exact absurd this (by decide)
  · obtain ⟨cur, hc⟩ := own_obj h.it.own hg
    rw [e, h.ix] at hc; injection hc with hc; injection hc with _ hc _; exact absurd hc (by decide)
  · obtain ⟨cur, hc⟩ := own_obj h.own hg
    rw [e, h.ix] at hc; injection hc with hc; injection hc with _ hc _; exact absurd hc (by decide)
/-- The end: the result is true. -/
theorem AS.fin {w V : World} {B xb ib j m5 : Nat} {v wv : Value} {l : List Bk} {most : Int} (h : AS w B xb ib v wv l most j V) (hK : V.heap[m5]? = some (.deferred (some []))) (hm : w.heap.size + 1 + 1 + 1 ≤ m5) :
    Below w.heap.size w ((V.setCell ⟨w.heap.size + 1 + 1, 0, none⟩ (.bool true)).putObj m5 (.deferred none)) ∧ ((V.setCell ⟨w.heap.size + 1 + 1, 0, none⟩ (.bool true)).putObj m5 (.deferred none)).heap[w.heap.size + 1 + 1]? = some (.cells #[.bool true] 4 (0, 0)) ∧ (V.setCell ⟨w.heap.size + 1 + 1, 0, none⟩ (.bool true)).heap[m5]? = some (.deferred (some [])) := by
  obtain ⟨s1, s2⟩ := set_one h.rx (.bool true)
  have b1 : Below w.heap.size w (V.setCell ⟨w.heap.size + 1 + 1, 0, none⟩ (.bool true)) := h.bel.setCell (by show w.heap.size ≤ w.heap.size + 1 + 1; omega) _
  refine ⟨⟨b1.os, b1.tape, b1.output, by rw [World.putObj_size]; exact b1.size, fun k hk => (World.putObj_heap_other (by omega)).trans (b1.block k hk)⟩, (World.putObj_heap_other (by omega)).trans s1, (s2 m5 (by omega)).trans hK⟩
theorem AS.sc {w V : World} {B xb ib j kb g2 cap : Nat} {v : Value} {l : List Bk} {most : Int} (h : AS w B xb ib v (.slice (some ⟨g2, 0, none⟩) l.length cap) l most j V) (hk : V.heap[kb]? = some (.cells #[.int .i64 (at_ l j).k.sp, .int .u64 (at_ l j).k.va, .int .i64 (at_ l j).k.sz] 41 (0, 0))) (hj : j < l.length) :
    V.cell? ⟨w.heap.size, 0, none⟩ = some (.slice (some ⟨g2, 0, none⟩) l.length cap) ∧ V.cell? ⟨ib, 0, none⟩ = some (.int .i64 (j : Int)) ∧ (V.cell? ⟨kb, 0, none⟩ = some (.int .i64 (at_ l j).k.sp) ∧ V.cell? ⟨kb, 1, none⟩ = some (.int .u64 (at_ l j).k.va) ∧ V.cell? ⟨kb, 2, none⟩ = some (.int .i64 (at_ l j).k.sz)) ∧ V.cell? ⟨g2, j * 4, none⟩ = some (.int .i64 (at_ l j).k.sp) ∧ V.cell? ⟨g2, j * 4 + 1, none⟩ = some (.int .u64 (at_ l j).k.va) ∧ V.cell? ⟨g2, j * 4 + 2, none⟩ = some (.int .i64 (at_ l j).k.sz) ∧ V.cell? ⟨g2, j * 4 + 3, none⟩ = some (.int .i64 (at_ l j).v) := by
  obtain ⟨a, b, c, d⟩ := pown_cells h.own rfl hj
  have h1 := h.wx; have h2 := h.ix
  exact ⟨by simp [World.cell?, h1], by simp [World.cell?, h2], key_cells hk, a, b, c, d⟩
theorem func_nil (f : Fn) (b c : Array Value) (W : World) : (binOp .eql 85 (.func f b c) .nilFunc).run Try.prog W = .ok (.bool false) W := by
  have h : ∀ d, (Op.equalIn (d + 1) 85 (.func f b c) .nilFunc).run Try.prog W = .ok false W := fun d => by
    have hu := Try.underlying85
    simp [Op.equalIn, run_underlying hu]
  have h2 := h 9999
  unfold binOp
  simp [Op.equal, Op.maxDepth, h2]
theorem res_b {fn : Func} {p : Tmp} (h : fn.results = #[.cell p 4]) (tmps : Array Value) (w : World) (g : Nat) {b : Bool} (hp : tmps.getD p undef = .pointer (some ⟨g, 0, none⟩)) (hR : w.heap[g]? = some (.cells #[.bool b] 4 (0, 0))) :
    (results fn tmps).run Try.prog w = .ok (.bool b) w := by
  have hp' : tmps[p]?.getD undef = .pointer (some ⟨g, 0, none⟩) := by simpa using hp
  have hc : w.cell? ⟨g, 0, none⟩ = some (.bool b) := by simp [World.cell?, hR]
  simp [results, h, hp', asAddr, loadVar, hc]
theorem lall_any {sb n : Nat} {bl most : Int} {L : Nat → List Bk} {O : Nat → Prop} {wv : Value} (w : World) (h : Tab w sb O n bl L) (hw : POwn w wv (allL L n)) :
    Calls Try.prog 27 #[.pointer (some ⟨sb, 0, none⟩), wv, .int .i64 most] w fun e w' => e = .returned (.bool true) ∧ Below w.heap.size w w' := by
  obtain ⟨ao, cap, rfl⟩ := pown_shape hw
  refine (callsIn_wide (n := 3)).1 ?_
  refine callsIn_of_wp_marks Try.func27 rfl trivial ?_ rfl; simp only [Try.ntmps27, List.size_toArray, List.length_cons, List.length_nil, Nat.reduceAdd, Nat.reduceSub, Array.replicate_succ, Array.replicate_zero, List.push_toArray, List.append_toArray, List.nil_append, List.cons_append]
  gi_wp2_with fail
  have s3 : (((w.alloc (.cells #[.slice ao (allL L n).length cap] 58)).alloc (.cells #[.int .i64 most] 3)).alloc (.cells #[.bool false] 4)).heap.size = w.heap.size + 1 + 1 + 1 := by simp
  have b3 : Below w.heap.size w (((w.alloc (.cells #[.slice ao (allL L n).length cap] 58)).alloc (.cells #[.int .i64 most] 3)).alloc (.cells #[.bool false] 4)) := by (repeat (first | (with_reducible assumption) | (with_reducible exact Below.refl _ _) | (with_reducible refine lo_step ?_ (by assumption)) | (with_reducible refine lo_drew ?_) | (with_reducible refine lo_drewN ?_ _) | (with_reducible refine lo_alloc ?_ _))) 
  have x1 : (((w.alloc (.cells #[.slice ao (allL L n).length cap] 58)).alloc (.cells #[.int .i64 most] 3)).alloc (.cells #[.bool false] 4)).heap[w.heap.size]? = some (.cells #[.slice ao (allL L n).length cap] 58 (0, 0)) :=
    blk_low (blk_low (heap_alloc_new w _) ((Below.refl _ _).alloc (Nat.le_refl _) _)) ((Below.refl _ _).alloc (Nat.le_refl _) _)
  have x2 : (((w.alloc (.cells #[.slice ao (allL L n).length cap] 58)).alloc (.cells #[.int .i64 most] 3)).alloc (.cells #[.bool false] 4)).heap[w.heap.size + 1]? = some (.cells #[.int .i64 most] 3 (0, 0)) := by
    refine blk_low ?_ ((Below.refl _ _).alloc (Nat.le_refl _) _)
    have := heap_alloc_new (w.alloc (.cells #[.slice ao (allL L n).length cap] 58)) (.cells #[.int .i64 most] 3)
    rwa [World.size_alloc] at this
  have x3 : (((w.alloc (.cells #[.slice ao (allL L n).length cap] 58)).alloc (.cells #[.int .i64 most] 3)).alloc (.cells #[.bool false] 4)).heap[w.heap.size + 1 + 1]? = some (.cells #[.bool false] 4 (0, 0)) := by
    have := heap_alloc_new ((w.alloc (.cells #[.slice ao (allL L n).length cap] 58)).alloc (.cells #[.int .i64 most] 3)) (.cells #[.bool false] 4)
    rwa [World.size_alloc, World.size_alloc] at this
  generalize World.alloc (World.alloc (World.alloc w _) _) _ = W3 at *
  refine ⟨trivial, (callsIn_wide.2 (all_any W3 (h.below b3 (Nat.le_refl _)))).mono ?_⟩
  rintro e W4 ⟨xb, v, rfl, hxb, hit, hb4⟩
  have s4 := hb4.size
  have hw4 : POwn W4 (.slice ao (allL L n).length cap) (allL L n) := own_same hw (fun g hg => (b3.trans (hb4.mono b3.size)).block g (hw.lt g hg).2)
  obtain ⟨bm, V0, ht, hO⟩ := h
  have hfew := ht.few
  have hb1 := ht.b1
  have hll : (allL L n).length = lenL L n := rfl
  have hlc : (allL L n).length ≤ 1073741824 := by rw [hll]; omega
  clear hll hfew hb1 ht hO hw
  generalize allL L n = l at *
  have NL : Below W4.heap.size W4 (W4.alloc (.cells #[.int .i64 0] 3)) := (Below.refl _ _).alloc (Nat.le_refl _) _
  have A0 : AS w W3.heap.size xb W4.heap.size v (.slice ao l.length cap) l most 0 (W4.alloc (.cells #[.int .i64 0] 3)) := AS.low (V := W4.alloc (.cells #[.int .i64 0] 3)) ⟨b3.trans ((hb4.mono b3.size).trans (NL.mono (by omega))), blk_low (blk_low x1 hb4) NL, blk_low (blk_low x2 hb4) NL, blk_low (blk_low x3 hb4) NL, heap_alloc_new W4 _, hit.low NL, own_same hw4 (fun g hg => NL.block g (hw4.lt g hg).2)⟩ (Below.refl _ _)
  have s5 : (W4.alloc (.cells #[.int .i64 0] 3)).heap.size = W4.heap.size + 1 := by simp
  clear x1 x2 x3 hit hxb hw4 NL
  have hfn := fun (W : World) => func_nil (.func 61) #[] #[.pointer (some ⟨xb, 0, none⟩)] W
  gi_wp2_with fail
  generalize World.alloc W4 _ = W5 at *
  refine range_its (n := 3) (gf := 61) (bnd := #[]) (lb := #[.pointer (some ⟨xb, 0, none⟩)]) (enc := encB l) rfl (enters_of Try.func61 (by kernel_rfl) rfl) (fun q => all_iter q (B := W3.heap.size) (xb := xb) (v := v) (l := l)) (fun _ => rfl)
    (fun j V => AS w W3.heap.size xb W4.heap.size v (.slice ao l.length cap) l most j V) (fun V => ∃ j : Nat, (j : Int) = most ∧ AS w W3.heap.size xb W4.heap.size v (.slice ao l.length cap) l most j V) 0
    (fun i V h => h.it) (fun i => AS.firm (by have := b3.size; omega)) (fun V V' ⟨j, e, hj⟩ hs => ⟨j, e, AS.firm (by have := b3.size; omega) V V' hj hs⟩) A0
    (fun i a' V => ∃ kb, a' = { tmps := #[.pointer (some ⟨sb, 0, none⟩), .slice ao l.length cap, .int .i64 most, undef, .pointer (some ⟨w.heap.size, 0, none⟩), .pointer (some ⟨w.heap.size + 1, 0, none⟩), .pointer (some ⟨w.heap.size + 1 + 1, 0, none⟩), .func (.func 61) #[] #[.pointer (some ⟨xb, 0, none⟩)], .pointer (some ⟨W4.heap.size, 0, none⟩), .pointer (some ⟨kb, 0, none⟩), .int .i64 (at_ l i).v, .pointer (some ⟨sb, 0, none⟩), .func (.func 61) #[] #[.pointer (some ⟨xb, 0, none⟩)], .func (.func 61) #[] #[.pointer (some ⟨xb, 0, none⟩)], .bool false, .func (.func 61) #[] #[.pointer (some ⟨xb, 0, none⟩)], .agg #[.int .i64 (at_ l i).k.sp, .int .u64 (at_ l i).k.va, .int .i64 (at_ l i).k.sz], .int .i64 (at_ l i).v, undef, undef, undef, undef, undef, undef, undef, undef, undef, undef, undef, undef, undef, undef, undef, undef, undef, undef, undef, undef, undef, undef, undef, undef, undef, undef, undef, undef, undef, undef, undef, undef, undef, undef, undef, undef, undef], defers := [] } ∧ V.heap[kb]? = some (.cells #[.int .i64 (at_ l i).k.sp, .int .u64 (at_ l i).k.va, .int .i64 (at_ l i).k.sz] 41 (0, 0)))
    (fun i a' V V' h hs => by
      obtain ⟨kb, e, hk⟩ := h
      exact ⟨kb, e, (Firm.cells W5.heap.size kb _ _ _) V V' hk hs⟩) ?assign ?body ?done ?stop
  case assign =>
    rintro m2 l2 i V K hI hi hK
    have NL : Below V.heap.size V (V.alloc (.cells #[.int .i64 (at_ l i).k.sp, .int .u64 (at_ l i).k.va, .int .i64 (at_ l i).k.sz] 41)) := (Below.refl _ _).alloc (Nat.le_refl _) _
    have NR := heap_alloc_new V (.cells #[.int .i64 (at_ l i).k.sp, .int .u64 (at_ l i).k.va, .int .i64 (at_ l i).k.sz] 41)
    have hI3 := hI.low NL
    have hS : Stay W5.heap.size V _ := Stay.below NL
    unfold encB
    gi_wp2
    exact hK _ _ hS hI3 ⟨_, rfl, NR⟩
  case body =>
    rintro m2 l2 i a' V hI ⟨kb, rfl, hk⟩ hi
    have hi' : (i : Int) < (l.length : Int) := by omega
    have hge : ¬ (l.length : Int) ≤ (i : Int) := by omega
    have hi0 : (0 : Int) ≤ (i : Int) := by omega
    have hbig : (i : Int) + 1 ≤ 1073741824 := by omega
    obtain ⟨g2, cap2, e2, hnc2, hcm2⟩ : ∃ g2 cap2 : Nat, Value.slice ao l.length cap = .slice (some ⟨g2, 0, none⟩) l.length cap2 ∧ l.length ≤ cap2 ∧ cap2 ≤ maxLen := by
      rcases own_form hI.own with ⟨_, h0⟩ | ⟨g2, cap2, e2, _, hnc2, hcm2⟩
      · omega
      · exact ⟨g2, cap2, e2, hnc2, hcm2⟩
    injection e2 with e3 e4 e5
    subst e3 e5
    unfold maxLen at hcm2
    have HKN := kne_is (at_ l i).k (at_ l i).k
    rw [keyEq_self] at HKN
    have CK := Lib.hid (fun w => key_any (at_ l i).k w)
    have hibn : w.heap.size + 1 + 1 + 1 ≤ W4.heap.size := by omega
    have SC := Lib.hid (fun (W : World) (h : AS w W3.heap.size xb W4.heap.size v (.slice (some ⟨g2, 0, none⟩) l.length cap) l most i W) (hk : W.heap[kb]? = some (.cells #[.int .i64 (at_ l i).k.sp, .int .u64 (at_ l i).k.va, .int .i64 (at_ l i).k.sz] 41 (0, 0))) => AS.sc h hk hi)
    have hS0 := SC.out V.drew (hI.low (Below.refl _ V).drew) hk
    have HI := Lib.hid hI
    have HK := Lib.hid hk
    have HS5 := Lib.hid s5
    clear hI hk A0 hfn s3 b3 hb4 s4 s5
    gi_wp2_with fail
    refine region_round_held (S := fun w1 => w1.cell? ⟨w.heap.size, 0, none⟩ = some (.slice (some ⟨g2, 0, none⟩) l.length cap) ∧ w1.cell? ⟨W4.heap.size, 0, none⟩ = some (.int .i64 (i : Int)) ∧ (w1.cell? ⟨kb, 0, none⟩ = some (.int .i64 (at_ l i).k.sp) ∧ w1.cell? ⟨kb, 1, none⟩ = some (.int .u64 (at_ l i).k.va) ∧ w1.cell? ⟨kb, 2, none⟩ = some (.int .i64 (at_ l i).k.sz)) ∧ w1.cell? ⟨g2, i * 4, none⟩ = some (.int .i64 (at_ l i).k.sp) ∧ w1.cell? ⟨g2, i * 4 + 1, none⟩ = some (.int .u64 (at_ l i).k.va) ∧ w1.cell? ⟨g2, i * 4 + 2, none⟩ = some (.int .i64 (at_ l i).k.sz) ∧ w1.cell? ⟨g2, i * 4 + 3, none⟩ = some (.int .i64 (at_ l i).v)) (by kernel_rfl) (by kernel_rfl) (by rintro ⟨a, w, h⟩; exact h) hS0 (fun hHeld => ?_)
    refine wpAnyH_take (i := 0) (v := ?vt0) rfl (by kernel_rfl) (by kernel_rfl) (by kernel_rfl) (fun _ _ _ h => h) (Or.inl ⟨by rfl, ?ht0⟩) (by assumption) ?rt0
    case ht0 => (intro w hSw; (try dsimp only at hSw); go_simp <;> (with_reducible rfl))
    (try simp only [Act.put, List.setIfInBounds_toArray, List.set_cons_zero, List.set_cons_succ, List.getElem_toArray, List.getElem_cons_zero])
    refine wpAnyH_take (i := 1) (v := ?vt1) rfl (by kernel_rfl) (by kernel_rfl) (by kernel_rfl) (fun _ _ _ h => h) (Or.inl ⟨by rfl, ?ht1⟩) (by assumption) ?rt1
    case ht1 => (intro w hSw; (try dsimp only at hSw); go_simp <;> (with_reducible rfl))
    (try simp only [Act.put, List.setIfInBounds_toArray, List.set_cons_zero, List.set_cons_succ, List.getElem_toArray, List.getElem_cons_zero, List.getElem_cons_succ])
    refine wpAnyH_take (i := 2) (v := ?vt2) rfl (by kernel_rfl) (by kernel_rfl) (by kernel_rfl) (fun _ _ _ h => h) (Or.inl ⟨by rfl, ?ht2⟩) (by assumption) ?rt2
    case ht2 => (intro w hSw; (try dsimp only at hSw); go_simp <;> (with_reducible rfl))
    (try simp only [Act.put, List.setIfInBounds_toArray, List.set_cons_zero, List.set_cons_succ, List.getElem_toArray, List.getElem_cons_zero, List.getElem_cons_succ])
    refine wpAnyH_take (i := 3) (v := .bool false) rfl (by kernel_rfl) (by kernel_rfl) (by kernel_rfl) (fun _ _ _ h => h) (Or.inl ⟨by rfl, ?ht3⟩) (by assumption) ?rt3
    case ht3 => (intro w hSw; (try dsimp only at hSw); go_simp)
    (try simp only [Act.put, List.setIfInBounds_toArray, List.set_cons_zero, List.set_cons_succ, List.getElem_toArray, List.getElem_cons_zero, List.getElem_cons_succ])
    refine wpAnyH_take (i := 4) (v := ?vt4) rfl (by kernel_rfl) (by kernel_rfl) (by kernel_rfl) (fun _ _ _ h => h) (Or.inl ⟨by rfl, ?ht4⟩) (by assumption) ?rt4
    case ht4 => (intro w hSw; (try dsimp only at hSw); go_simp <;> (with_reducible rfl))
    (try simp only [Act.put, List.setIfInBounds_toArray, List.set_cons_zero, List.set_cons_succ, List.getElem_toArray, List.getElem_cons_zero, List.getElem_cons_succ])
    refine wpAnyH_take (i := 5) (v := ?vt5) rfl (by kernel_rfl) (by kernel_rfl) (by kernel_rfl) (fun _ _ _ h => h) (Or.inl ⟨by rfl, ?ht5⟩) (by assumption) ?rt5
    case ht5 => (intro w hSw; (try dsimp only at hSw); go_simp <;> (with_reducible rfl))
    (try simp only [Act.put, List.setIfInBounds_toArray, List.set_cons_zero, List.set_cons_succ, List.getElem_toArray, List.getElem_cons_zero, List.getElem_cons_succ])
    refine wpAnyH_take (i := 6) (v := ?vt6) rfl (by kernel_rfl) (by kernel_rfl) (by kernel_rfl) (fun _ _ _ h => h) (Or.inl ⟨by rfl, ?ht6⟩) (by assumption) ?rt6
    case ht6 => (intro w hSw; (try dsimp only at hSw); go_simp <;> (with_reducible rfl))
    (try simp only [Act.put, List.setIfInBounds_toArray, List.set_cons_zero, List.set_cons_succ, List.getElem_toArray, List.getElem_cons_zero, List.getElem_cons_succ])
    refine wpAnyH_take (i := 7) (v := ?vt7) rfl (by kernel_rfl) (by kernel_rfl) (by kernel_rfl) (fun _ _ _ h => h) (Or.inl ⟨by rfl, ?ht7⟩) (by assumption) ?rt7
    case ht7 => (intro w hSw; (try dsimp only at hSw); go_simp <;> (with_reducible rfl))
    (try simp only [Act.put, List.setIfInBounds_toArray, List.set_cons_zero, List.set_cons_succ, List.getElem_toArray, List.getElem_cons_zero, List.getElem_cons_succ])
    refine wpAnyH_take (i := 8) (v := ?vt8) rfl (by kernel_rfl) (by kernel_rfl) (by kernel_rfl) (fun _ _ _ h => h) (Or.inl ⟨by rfl, ?ht8⟩) (by assumption) ?rt8
    case ht8 => (intro w hSw; (try dsimp only at hSw); go_simp <;> (with_reducible rfl))
    (try simp only [Act.put, List.setIfInBounds_toArray, List.set_cons_zero, List.set_cons_succ, List.getElem_toArray, List.getElem_cons_zero, List.getElem_cons_succ])
    refine wpAnyH_take (i := 9) (v := ?vt9) rfl (by kernel_rfl) (by kernel_rfl) (by kernel_rfl) (fun _ _ _ h => h) (Or.inl ⟨by rfl, ?ht9⟩) (by assumption) ?rt9
    case ht9 => (intro w hSw; (try dsimp only at hSw); go_simp <;> (with_reducible rfl))
    (try simp only [Act.put, List.setIfInBounds_toArray, List.set_cons_zero, List.set_cons_succ, List.getElem_toArray, List.getElem_cons_zero, List.getElem_cons_succ])
    refine wpAnyH_take (i := 10) (v := ?vt10) rfl (by kernel_rfl) (by kernel_rfl) (by kernel_rfl) (fun _ _ _ h => h) (Or.inl ⟨by rfl, ?ht10⟩) (by assumption) ?rt10
    case ht10 => (intro w hSw; (try dsimp only at hSw); go_simp <;> (with_reducible rfl))
    (try simp only [Act.put, List.setIfInBounds_toArray, List.set_cons_zero, List.set_cons_succ, List.getElem_toArray, List.getElem_cons_zero, List.getElem_cons_succ])
    refine wpAnyH_ready (rs := [11]) (by kernel_rfl) (by simp) ?_
    refine AllReadyH.cons rfl (fun K hK => ?_) AllReadyH.nil
    go_simp
    refine (CK.out _).mono ?_
    rintro r V1 ⟨rfl, hbV⟩
    have hI1 := HI.out.low (V' := V1) ((Below.refl _ V).drew.trans hbV)
    have hk1 := blk_low HK.out ((Below.refl _ V).drew.trans hbV)
    have hS1 := SC.out V1 hI1 hk1
    (try go_simp)
    refine hK.out _ _ hS1 (fun hHeld => ?_)
    clear hK K
    (try simp only [Act.put, List.setIfInBounds_toArray, List.set_cons_zero, List.set_cons_succ, List.getElem_toArray, List.getElem_cons_zero, List.getElem_cons_succ])
    refine wpAnyH_take (i := 12) (v := .bool false) rfl (by kernel_rfl) (by kernel_rfl) (by kernel_rfl) (fun _ _ _ h => h) (Or.inl ⟨by rfl, ?hu12⟩) (by assumption) ?ru12
    case hu12 => (intro w hSw; (try dsimp only at hSw); go_simp)
    (try simp only [Act.put, List.setIfInBounds_toArray, List.set_cons_zero, List.set_cons_succ, List.getElem_toArray, List.getElem_cons_zero, List.getElem_cons_succ])
    refine wpAnyH_take (i := 13) (v := .bool false) rfl (by kernel_rfl) (by kernel_rfl) (by kernel_rfl) (fun _ _ _ h => h) (Or.inl ⟨by rfl, ?hu13⟩) (by assumption) ?ru13
    case hu13 => (intro w hSw; (try dsimp only at hSw); go_simp)
    (try simp only [Act.put, List.setIfInBounds_toArray, List.set_cons_zero, List.set_cons_succ, List.getElem_toArray, List.getElem_cons_zero, List.getElem_cons_succ])
    refine wpAnyH_take (i := 14) (v := ?vu14) rfl (by kernel_rfl) (by kernel_rfl) (by kernel_rfl) (fun _ _ _ h => h) (Or.inl ⟨by rfl, ?hu14⟩) (by assumption) ?ru14
    case hu14 => (intro w hSw; (try dsimp only at hSw); go_simp <;> (with_reducible rfl))
    (try simp only [Act.put, List.setIfInBounds_toArray, List.set_cons_zero, List.set_cons_succ, List.getElem_toArray, List.getElem_cons_zero, List.getElem_cons_succ])
    refine wpAnyH_take (i := 15) (v := ?vu15) rfl (by kernel_rfl) (by kernel_rfl) (by kernel_rfl) (fun _ _ _ h => h) (Or.inl ⟨by rfl, ?hu15⟩) (by assumption) ?ru15
    case hu15 => (intro w hSw; (try dsimp only at hSw); go_simp <;> (with_reducible rfl))
    (try simp only [Act.put, List.setIfInBounds_toArray, List.set_cons_zero, List.set_cons_succ, List.getElem_toArray, List.getElem_cons_zero, List.getElem_cons_succ])
    refine wpAnyH_take (i := 16) (v := ?vu16) rfl (by kernel_rfl) (by kernel_rfl) (by kernel_rfl) (fun _ _ _ h => h) (Or.inl ⟨by rfl, ?hu16⟩) (by assumption) ?ru16
    case hu16 => (intro w hSw; (try dsimp only at hSw); go_simp <;> (with_reducible rfl))
    (try simp only [Act.put, List.setIfInBounds_toArray, List.set_cons_zero, List.set_cons_succ, List.getElem_toArray, List.getElem_cons_zero, List.getElem_cons_succ])
    refine wpAnyH_take (i := 17) (v := ?vu17) rfl (by kernel_rfl) (by kernel_rfl) (by kernel_rfl) (fun _ _ _ h => h) (Or.inl ⟨by rfl, ?hu17⟩) (by assumption) ?ru17
    case hu17 => (intro w hSw; (try dsimp only at hSw); go_simp <;> (with_reducible rfl))
    (try simp only [Act.put, List.setIfInBounds_toArray, List.set_cons_zero, List.set_cons_succ, List.getElem_toArray, List.getElem_cons_zero, List.getElem_cons_succ])
    refine wpAnyH_take (i := 18) (v := ?vu18) rfl (by kernel_rfl) (by kernel_rfl) (by kernel_rfl) (fun _ _ _ h => h) (Or.inl ⟨by rfl, ?hu18⟩) (by assumption) ?ru18
    case hu18 => (intro w hSw; (try dsimp only at hSw); go_simp <;> (with_reducible rfl))
    (try simp only [Act.put, List.setIfInBounds_toArray, List.set_cons_zero, List.set_cons_succ, List.getElem_toArray, List.getElem_cons_zero, List.getElem_cons_succ])
    refine wpAnyH_take (i := 19) (v := ?vu19) rfl (by kernel_rfl) (by kernel_rfl) (by kernel_rfl) (fun _ _ _ h => h) (Or.inl ⟨by rfl, ?hu19⟩) (by assumption) ?ru19
    case hu19 => (intro w hSw; (try dsimp only at hSw); go_simp <;> (with_reducible rfl))
    (try simp only [Act.put, List.setIfInBounds_toArray, List.set_cons_zero, List.set_cons_succ, List.getElem_toArray, List.getElem_cons_zero, List.getElem_cons_succ])
    refine wpAnyH_take (i := 20) (v := ?vu20) rfl (by kernel_rfl) (by kernel_rfl) (by kernel_rfl) (fun _ _ _ h => h) (Or.inl ⟨by rfl, ?hu20⟩) (by assumption) ?ru20
    case hu20 => (intro w hSw; (try dsimp only at hSw); go_simp <;> (with_reducible rfl))
    (try simp only [Act.put, List.setIfInBounds_toArray, List.set_cons_zero, List.set_cons_succ, List.getElem_toArray, List.getElem_cons_zero, List.getElem_cons_succ])
    refine wpAnyH_take (i := 21) (v := .bool false) rfl (by kernel_rfl) (by kernel_rfl) (by kernel_rfl) (fun _ _ _ h => h) (Or.inl ⟨by rfl, ?hu21⟩) (by assumption) ?ru21
    case hu21 => (intro w hSw; (try dsimp only at hSw); go_simp)
    (try simp only [Act.put, List.setIfInBounds_toArray, List.set_cons_zero, List.set_cons_succ, List.getElem_toArray, List.getElem_cons_zero, List.getElem_cons_succ])
    refine wpAnyH_take (i := 22) (v := .bool false) rfl (by kernel_rfl) (by kernel_rfl) (by kernel_rfl) (fun _ _ _ h => h) (Or.inl ⟨by rfl, ?hu22⟩) (by assumption) ?ru22
    case hu22 => (intro w hSw; (try dsimp only at hSw); go_simp)
    (try simp only [Act.put, List.setIfInBounds_toArray, List.set_cons_zero, List.set_cons_succ, List.getElem_toArray, List.getElem_cons_zero, List.getElem_cons_succ])
    refine wpAnyH_done (by kernel_rfl) ?_ _
    have c1 := hS1.2.1
    have c2 : V1.cell? ⟨w.heap.size + 1, 0, none⟩ = some (.int .i64 most) := by have := hI1.mx; simp [World.cell?, this]
    have z1 : V1.frozen? ⟨W4.heap.size, 0, none⟩ = false := by have := hI1.ix; simp [World.frozen?, this]
    have hA := Lib.hid (hI1.step hibn)
    have hst : Stay W5.heap.size V V1 := Stay.below ((Below.refl _ V).drew.trans hbV)
    have HST := Lib.hid (hst.trans (Stay.cell V1 ⟨W4.heap.size, 0, none⟩ (.int .i64 ((i : Int) + 1)) (by show W4.heap.size < _; rw [HS5.out]; omega)))
    clear hS0 hS1 hI1 hk1 hst CK SC HKN hbV
    by_cases hm : (i : Int) + 1 = most
    · subst hm
      gi_wp2_with fail
      exact ⟨rfl, HST.out, _, by push_cast; rfl, hA.out⟩
    · have hd : ((i : Int) + 1 == most) = false := by simp [hm]
      clear hm
      gi_wp2_with fail
      exact ⟨HST.out, hA.out⟩
  case done =>
    rintro V hI hK
    have q1 : V.cell? ⟨W4.heap.size, 0, none⟩ = some (.int .i64 (l.length : Int)) := by have := hI.ix; simp [World.cell?, this]
    have q2 : V.cell? ⟨w.heap.size, 0, none⟩ = some (.slice ao l.length cap) := by have := hI.wx; simp [World.cell?, this]
    have q3 : V.cell? ⟨w.heap.size + 1 + 1, 0, none⟩ = some (.bool false) := by have := hI.rx; simp [World.cell?, this]
    have z3 : V.frozen? ⟨w.heap.size + 1 + 1, 0, none⟩ = false := by have := hI.rx; simp [World.frozen?, this]
    have FI := Lib.hid (hI.fin hK (by omega))
    clear hI hK A0 s5
    unfold lastMark
    gi_wp2_with fail
    refine ⟨by simp, .inl ⟨_, _, rfl, run_takeDeferred FI.out.2.2, ?_⟩⟩
    exact ⟨_, res_b rfl _ _ _ rfl FI.out.2.1, rfl, FI.out.1⟩
  case stop =>
    rintro V ⟨j, hj, hI⟩ hK
    subst hj
    have q1 : V.cell? ⟨W4.heap.size, 0, none⟩ = some (.int .i64 (j : Int)) := by have := hI.ix; simp [World.cell?, this]
    have q2 : V.cell? ⟨w.heap.size, 0, none⟩ = some (.slice ao l.length cap) := by have := hI.wx; simp [World.cell?, this]
    have q3 : V.cell? ⟨w.heap.size + 1 + 1, 0, none⟩ = some (.bool false) := by have := hI.rx; simp [World.cell?, this]
    have q4 : V.cell? ⟨w.heap.size + 1, 0, none⟩ = some (.int .i64 (j : Int)) := by have := hI.mx; simp [World.cell?, this]
    have z3 : V.frozen? ⟨w.heap.size + 1 + 1, 0, none⟩ = false := by have := hI.rx; simp [World.frozen?, this]
    have FI := Lib.hid (hI.fin hK (by omega))
    clear hI hK A0 s5
    unfold lastMark
    by_cases hj : j = l.length
    · subst hj
      gi_wp2_with fail
      refine ⟨by simp, .inl ⟨_, _, rfl, run_takeDeferred FI.out.2.2, ?_⟩⟩
      exact ⟨_, res_b rfl _ _ _ rfl FI.out.2.1, rfl, FI.out.1⟩
    · have hd : ((j : Int) == (l.length : Int)) = false := by simp; omega
      clear hj
      gi_wp2_with fail
      refine ⟨by simp, .inl ⟨_, _, rfl, run_takeDeferred FI.out.2.2, ?_⟩⟩
      exact ⟨_, res_b rfl _ _ _ rfl FI.out.2.1, rfl, FI.out.1⟩
end Go.Proofs.Ytilijnalhkeggaa.Hs
