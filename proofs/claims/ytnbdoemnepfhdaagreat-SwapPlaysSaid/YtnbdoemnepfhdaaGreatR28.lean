/-
  Contracts and plain facts: NLaw, NGood, NLoop, NRef, NPut, NIns, NIns2, NIns3, NRun, NTie, NOwn, NDRead, NDOwn, NDList, NTwo, NInto, WInto. Conditions: each says its own.
-/
import Derived.Test.YtnbdoemnepfhdaaGreatR25
import Derived.Test.YtnbdoemnepfhdaaGreatR27
import Derived.Laws.StructEq
import Derived.Maps.AppendAt
import Derived.Deep.RegionHeld3
import Derived.Deep.DeepCutAuto
namespace Go.Proofs.YtnbdoemnepfhdaaGreat.Ts
open Fld
open Pt (idxI idx_bd slotI lastI arI ar_bd)
open Tl (ListAt DocAt nthE eleven eleven_one rowL_list rowL rowL_length cell_eleven_new doc_low doc_at list_nil infoE)
open Go.ChangeShapes Go.WideShapes Go.ChangeAt Go.RowKit Go.Shelf
set_option maxRecDepth 100000
set_option maxHeartbeats 2000000
/-! ### What is found of entries that were inserted -/
def insAll (p : Par) (l : List Ent) : Nat → Pl := l.foldl (insT p) (fun _ => Pl.none)
def Fine (p : Par) (l : List Ent) : Prop := ∀ e ∈ l, e.Ok ∧ e.size = p.s
theorem Fine.nil (p : Par) : Fine p [] := fun _ h => absurd h (by simp)
theorem insAll_snoc (p : Par) (l : List Ent) (e : Ent) : insAll p (l ++ [e]) = insT p (insAll p l) e := by
  unfold insAll; rw [List.foldl_append]; rfl
theorem fine_may {p : Par} {e : Ent} (h : e.Ok) (hs : e.size = p.s) : mayT p e = true := by unfold mayT; rw [h.may, hs]; simp
theorem ins_at {p : Par} {T : Nat → Pl} {e : Ent} (h : e.Ok) (hs : e.size = p.s) (i : Nat) : insT p T e i = if i = p.pl e.va then Ent.pl e else T i := by
  unfold insT; rw [if_pos (fine_may h hs)]; rfl
theorem rev_ind {P : List Ent → Prop} (h0 : P []) (h1 : ∀ l e, P l → P (l ++ [e])) : ∀ l, P l := by
  intro l
  rw [← List.reverse_reverse l]
  induction l.reverse with
  | nil => exact h0
  | cons a t ih => rw [List.reverse_cons]; exact h1 _ _ ih
/-- What stands at a place is the last one's that was inserted there, or nothing. -/
theorem insAll_or {p : Par} (l : List Ent) (h : Fine p l) (i : Nat) : (insAll p l i = Pl.none ∧ ∀ e ∈ l, p.pl e.va ≠ i) ∨ ∃ k, k < l.length ∧ p.pl (nthE l k).va = i ∧ insAll p l i = Ent.pl (nthE l k) ∧ (∀ j, k < j → j < l.length → p.pl (nthE l j).va ≠ i) := by
  revert h
  refine rev_ind (P := fun l => Fine p l → (insAll p l i = Pl.none ∧ ∀ e ∈ l, p.pl e.va ≠ i) ∨ ∃ k, k < l.length ∧ p.pl (nthE l k).va = i ∧ insAll p l i = Ent.pl (nthE l k) ∧ (∀ j, k < j → j < l.length → p.pl (nthE l j).va ≠ i)) ?_ ?_ l
  · exact fun _ => .inl ⟨rfl, fun _ h => absurd h (by simp)⟩
  · intro l e ih h
    have hl : Fine p l := fun x hx => h x (List.mem_append_left _ hx)
    obtain ⟨he, hs⟩ := h e (List.mem_append_right _ (by simp))
    rw [insAll_snoc, ins_at he hs]
    have hn : ∀ j, j < l.length → nthE (l ++ [e]) j = nthE l j := fun j hj => by simp [nthE, List.getElem?_append_left hj]
    have he2 : nthE (l ++ [e]) l.length = e := by simp [nthE]
    by_cases hi : i = p.pl e.va
    · rw [if_pos hi]
      exact .inr ⟨l.length, by simp, by rw [he2]; exact hi.symm, by rw [he2], fun j h1 h2 => by simp at h2; omega⟩
    · rw [if_neg hi]
      rcases ih hl with ⟨a, b⟩ | ⟨k, k1, k2, k3, k4⟩
      · refine .inl ⟨a, fun x hx => ?_⟩
        rcases List.mem_append.1 hx with hx | hx
        · exact b x hx
        · rw [List.mem_singleton.1 hx]; exact fun hh => hi hh.symm
      · refine .inr ⟨k, by simp; omega, by rw [hn k k1]; exact k2, by rw [hn k k1]; exact k3, fun j h1 h2 => ?_⟩
        by_cases hj : j < l.length
        · rw [hn j hj]; exact k4 j h1 hj
        · obtain rfl : j = l.length := by simp at h2; omega
          rw [he2]; exact fun hh => hi hh.symm
theorem nth_mem {l : List Ent} {k : Nat} (h : k < l.length) : nthE l k ∈ l := by
  unfold nthE
  rw [List.getD_eq_getElem?_getD, List.getElem?_eq_getElem h]
  exact List.getElem_mem h
/-! ### Entries held against each other -/
end Go.Proofs.YtnbdoemnepfhdaaGreat.Ts

namespace Go.Proofs.YtnbdoemnepfhdaaGreat.Ts
open Fld
open Pt (idxI idx_bd)
open Tl (nthE)
/-- Each place holds nothing, or the words of an entry that may be there. -/
def Gd (p : Par) (T : Nat → Pl) : Prop := ∀ i, T i = Pl.none ∨ ∃ e : Ent, e.Ok ∧ e.size = p.s ∧ p.pl e.va = i ∧ T i = Ent.pl e
theorem gd_all {p : Par} (l : List Ent) (h : Fine p l) : Gd p (insAll p l) := fun i => by
  rcases insAll_or l h i with ⟨a, _⟩ | ⟨k, k1, k2, k3, _⟩
  · exact .inl a
  · obtain ⟨a, b⟩ := h _ (nth_mem k1)
    exact .inr ⟨_, a, b, k2, k3⟩
theorem gd_none (p : Par) : Gd p (fun _ => Pl.none) := fun _ => .inl rfl
theorem own_none {p : Par} {T : Nat → Pl} {i : Nat} (h : T i = Pl.none) : ownB p T i = false := by
  unfold ownB
  rw [h]
  have := locked_no p.s 0 (adrI p.s i Pl.none.t) (by decide)
  rw [show Pl.none = (⟨9223372036854775807, 0⟩ : Pl) from rfl] at *
  rw [this, Bool.and_false]
theorem own_pl {p : Par} (hp : p.Ok) {T : Nat → Pl} {i : Nat} {e : Ent} (h : e.Ok) (hs : e.size = p.s) (hi : p.pl e.va = i) (hT : T i = Ent.pl e) : ownB p T i = true ∧ ownE p T i = e := by
  subst hi
  have hv : e.va % bytesI p.s = 0 := hs ▸ h.vs
  have ht : (Ent.pl e).t % 4194304 = tagI e.va := by
    have := Fld.tag_bd e.va
    show e.tagW % 4194304 = tagI e.va
    unfold Ent.tagW; omega
  have ha := adr_own hp h.v0 h.v1 h.hole hv ht
  unfold ownB ownE
  rw [hT, ha, ← hs]
  obtain ⟨a, b⟩ := rd_self h (base_self h)
  rw [a, b]
  exact ⟨by simp, rfl⟩
/-- What is listed stands at its place. -/
theorem lst_good {p : Par} (hp : p.Ok) {T : Nat → Pl} (h : Gd p T) (k : Nat) : ∀ e ∈ lstP p T k, e.Ok ∧ e.size = p.s ∧ T (p.pl e.va) = Ent.pl e := by
  induction k with
  | zero => exact fun _ h => absurd h (by simp [lstP])
  | succ k ih =>
    rcases h k with a | ⟨e, e1, e2, e3, e4⟩
    · rw [lst_miss (by rw [own_none a]; decide)]; exact ih
    · obtain ⟨o1, o2⟩ := own_pl hp e1 e2 e3 e4
      rw [lst_hit o1, o2]
      intro x hx
      rcases List.mem_append.1 hx with hx | hx
      · exact ih x hx
      · rw [List.mem_singleton.1 hx]; exact ⟨e1, e2, by rw [e3]; exact e4⟩
/-! ### A context's entries gone -/
end Go.Proofs.YtnbdoemnepfhdaaGreat.Ts

namespace Go.Proofs.YtnbdoemnepfhdaaGreat.Ts
open Fld
open Pt (idxI idx_bd slotI lastI arI ar_bd)
open Tl (ListAt DocAt nthE eleven eleven_one rowL_list rowL rowL_length cell_eleven_new doc_low doc_at doc_below list_nil infoE)
open Go.ChangeShapes Go.WideShapes Go.ChangeAt Go.RowKit Go.Shelf
set_option maxRecDepth 100000
set_option maxHeartbeats 2000000
structure PL (W wr : World) (st sb bm : Nat) (p : Par) (T : Nat → Pl) (L : List Bx) (C : Nat) (v : Value) (l : List Ent) : Prop where
  f1 : W.heap.size ≤ st
  f2 : W.heap.size ≤ sb
  f3 : W.heap.size ≤ bm
  bel : Below W.heap.size W wr
  tsb : TsbAt wr st sb bm p T
  rows : Rows W wr L
  own : ListAt wr C v l
  base : W.heap.size ≤ C
theorem list_lt {w : World} {C : Nat} {v : Value} {l : List Ent} (h : ListAt w C v l) : (∃ c, v = .slice none 0 0 ∧ l.length = 0 ∧ c = 0) ∨ ∃ g cap cur, v = .slice (some ⟨g, 0, none⟩) l.length cap ∧ C ≤ g ∧ w.heap[g]? = some (.cells cur 30 (0, 0)) := by
  rcases h.2 with ⟨a, b⟩ | ⟨g, cap, cur, a, b, c, d, e, f, i⟩
  · refine .inl ⟨0, a, ?_, rfl⟩
    first | exact b | exact b.1 | (have := h.1; simp_all)
  · exact .inr ⟨g, cap, cur, a, b, c⟩
theorem list_same {w w' : World} {C : Nat} {v : Value} {l : List Ent} (h : ListAt w C v l) (hs : ∀ g cur, C ≤ g → w.heap[g]? = some (.cells cur 30 (0, 0)) → w'.heap[g]? = w.heap[g]?) : ListAt w' C v l := by
  refine ⟨h.1, ?_⟩
  rcases h.2 with hn | ⟨g, cap, cur, rfl, hb2, hg, rest⟩
  · exact .inl hn
  · exact .inr ⟨g, cap, cur, rfl, hb2, (hs g cur hb2 hg).trans hg, rest⟩
theorem PL.low {W wr w' : World} {st sb bm C : Nat} {p : Par} {T : Nat → Pl} {L : List Bx} {v : Value} {l : List Ent} (h : PL W wr st sb bm p T L C v l) (hb : Below wr.heap.size wr w') : PL W w' st sb bm p T L C v l :=
  ⟨h.f1, h.f2, h.f3, h.bel.trans (hb.mono h.bel.size), h.tsb.low hb, h.rows.low hb, doc_below h.own hb, h.base⟩
theorem PL.drewN {W wr : World} {st sb bm C : Nat} {p : Par} {T : Nat → Pl} {L : List Bx} {v : Value} {l : List Ent} (h : PL W wr st sb bm p T L C v l) (n : Nat) : PL W (wr.drewN n) st sb bm p T L C v l := h.low (drewN_low wr n)
theorem PL.drew {W wr : World} {st sb bm C : Nat} {p : Par} {T : Nat → Pl} {L : List Bx} {v : Value} {l : List Ent} (h : PL W wr st sb bm p T L C v l) : PL W wr.drew st sb bm p T L C v l := h.drewN 1
theorem PL.alloc {W wr : World} {st sb bm C : Nat} {p : Par} {T : Nat → Pl} {L : List Bx} {v : Value} {l : List Ent} (h : PL W wr st sb bm p T L C v l) (o : Obj) : PL W (wr.alloc o) st sb bm p T L C v l := h.low ((Below.refl _ _).alloc (Nat.le_refl _) _)
/-- Eleven stores into a block that is new since X. -/
theorem PL.setNew {W X wr : World} {st sb bm C : Nat} {p : Par} {T : Nat → Pl} {L : List Bx} {v : Value} {l : List Ent} {x0 x1 x2 x3 x4 x5 x6 x7 x8 x9 x10 : Value} (hX : PL W X st sb bm p T L C v l) (h : PL W wr st sb bm p T L C v l) :
    PL W (((((((((((wr.setCell ⟨X.heap.size, 0, none⟩ x0).setCell ⟨X.heap.size, 1, none⟩ x1).setCell ⟨X.heap.size, 2, none⟩ x2).setCell ⟨X.heap.size, 3, none⟩ x3).setCell ⟨X.heap.size, 4, none⟩ x4).setCell ⟨X.heap.size, 5, none⟩ x5).setCell ⟨X.heap.size, 6, none⟩ x6).setCell ⟨X.heap.size, 7, none⟩ x7).setCell ⟨X.heap.size, 8, none⟩ x8).setCell ⟨X.heap.size, 9, none⟩ x9).setCell ⟨X.heap.size, 10, none⟩ x10) st sb bm p T L C v l := by
  have h0 := hX.bel.size
  have h1 := hX.tsb.lt
  refine ⟨h.f1, h.f2, h.f3, ?_, h.tsb.same (row_far (by omega)) (row_far (by omega)) (row_far (by omega)), fun q hq => ?_, ?_, h.base⟩
  · iterate 11 refine below_setN ?_ h0
    exact h.bel
  · obtain ⟨a, b, c⟩ := h.rows q hq
    have := (Array.getElem?_eq_some_iff.1 (hX.rows q hq).1).1
    exact ⟨(row_far (by omega)).trans a, b, c⟩
  · rcases list_lt hX.own with ⟨_, rfl, hl, _⟩ | ⟨g, cap, cur, rfl, hg, hh⟩
    · refine ⟨h.own.1, ?_⟩
      rcases h.own.2 with hn | ⟨g, cap, cur, hv, _⟩
      · exact .inl hn
      · simp at hv
    · have hlt := (Array.getElem?_eq_some_iff.1 hh).1
      refine ⟨h.own.1, ?_⟩
      rcases h.own.2 with ⟨hv, _⟩ | ⟨g', cap', cur', hv, h2, h3, rest⟩
      · simp at hv
      · have hgg := hv
        simp only [Value.slice.injEq, Option.some.injEq, Addr.mk.injEq, and_true, true_and] at hgg
        obtain ⟨rfl, rfl⟩ := hgg
        exact .inr ⟨g, cap, cur', rfl, h2, (row_far (by omega)).trans h3, rest⟩
theorem PL.to {W wr w' : World} {st sb bm C : Nat} {p : Par} {T U : Nat → Pl} {L : List Bx} {v : Value} {l : List Ent} (h : PL W wr st sb bm p T L C v l) (k : TsbTo wr w' st sb bm p U) : ∃ b', PL W w' st sb b' p U L C v l := by
  obtain ⟨b', k1, k2, k3⟩ := k
  have hs := h.bel.size
  have a := h.f2
  have b := h.f3
  refine ⟨b', h.f1, h.f2, by omega, ⟨k3.os.trans h.bel.os, k3.tape.trans h.bel.tape, k3.output.trans h.bel.output, Nat.le_trans hs k3.size, fun i hi => ?_⟩, k1, h.rows.to h.tsb k3, list_same h.own fun g cur _ hg => ?_, h.base⟩
  · rw [k3.block i (by omega) (by omega) (by omega)]; exact h.bel.block i hi
  · obtain ⟨_, n2, n3⟩ := h.tsb.ne_row hg ⟨by decide, by decide⟩
    exact k3.block g (Array.getElem?_eq_some_iff.1 hg).1 n2 n3
theorem PL.start {W wr : World} {st : Nat} {p : Par} {T : Nat → Pl} {L : List Bx} (h : Car W wr st p T L) : ∃ sb bm, PL W wr st sb bm p T L W.heap.size (.slice none 0 0) [] := by
  obtain ⟨⟨sb, bm, a, b, c, d, e⟩, f⟩ := h
  exact ⟨sb, bm, a, b, c, d, e, f, list_nil _ _, Nat.le_refl _⟩
/-- A call that turns the TSB: the boxes that lie there, and an entry in a box, stay. -/
theorem PL.kept {W wr w' : World} {st sb bm C eb : Nat} {p : Par} {T U : Nat → Pl} {L : List Bx} {v : Value} {l : List Ent} {e : Ent} (h : PL W wr st sb bm p T L C v l) (k : TsbTo wr w' st sb bm p U) (hr : RowE wr eb e) : RowE w' eb e := by
  obtain ⟨b', k1, k2, k3⟩ := k
  exact row_turn hr h.tsb k3
theorem PL.append {W wr w1 : World} {st sb bm C : Nat} {p : Par} {T : Nat → Pl} {L : List Bx} {v v' : Value} {l : List Ent} (h : PL W wr st sb bm p T L C v l) (hg : wr.grownBy w1 v.ownBlock) (e : Ent) (ho : ListAt w1 C v' (l ++ [e])) (hL : ∀ q ∈ L, q.2.2 ≠ 30) : PL W w1 st sb bm p T L C v' (l ++ [e]) := by
  have hblk : ∀ g, v.ownBlock = some g → C ≤ g ∧ ∃ cur, wr.heap[g]? = some (.cells cur 30 (0, 0)) := by
    intro g hg2
    rcases list_lt h.own with ⟨_, rfl, _, _⟩ | ⟨g', cap, cur, rfl, a, b⟩
    · simp [Value.ownBlock] at hg2
    · simp [Value.ownBlock] at hg2
      subst hg2
      exact ⟨a, cur, b⟩
  have hl := h.tsb.lt
  have hne : ∀ g, v.ownBlock = some g → g ≠ st ∧ g ≠ sb ∧ g ≠ bm := fun g hg2 => by
    obtain ⟨_, cur, hh⟩ := hblk g hg2
    exact h.tsb.ne_row hh ⟨by decide, by decide⟩
  refine ⟨h.f1, h.f2, h.f3, h.bel.grown hg h.bel.size (fun g hg2 => Nat.le_trans h.base (hblk g hg2).1), h.tsb.same (hg.block _ hl.1 (fun e => (hne _ e.symm).1 rfl)) (hg.block _ hl.2.1 (fun e => (hne _ e.symm).2.1 rfl)) (hg.block _ hl.2.2.1 (fun e => (hne _ e.symm).2.2 rfl)), fun q hq => ?_, ho, h.base⟩
  obtain ⟨a, b, c⟩ := h.rows q hq
  refine ⟨(hg.block _ (Array.getElem?_eq_some_iff.1 a).1 (fun e => ?_)).trans a, b, c⟩
  obtain ⟨_, cur, hh⟩ := hblk _ e.symm
  rw [a] at hh
  injection (Option.some.inj hh) with _ h2
  exact hL q hq h2
/-- The list's cells. -/
theorem PL.cells {W wr : World} {st sb bm C : Nat} {p : Par} {T : Nat → Pl} {L : List Bx} {v : Value} {l : List Ent} (h : PL W wr st sb bm p T L C v l) {i o : Nat} (hi : i < l.length) (ho : i * 11 = o) : ∃ g cap, v = .slice (some ⟨g, 0, none⟩) l.length cap ∧ l.length ≤ cap ∧ cap ≤ maxLen ∧ wr.cell? ⟨g, o, none⟩ = some (.int .i64 (nthE l i).size) ∧ wr.cell? ⟨g, o + 1, none⟩ = some (.int .i64 (nthE l i).ctx) ∧ wr.cell? ⟨g, o + 2, none⟩ = some (.int .u64 (nthE l i).va) ∧ wr.cell? ⟨g, o + 3, none⟩ = some (.int .u64 (nthE l i).pa) ∧ wr.cell? ⟨g, o + 4, none⟩ = some (.bool (nthE l i).att.write) ∧ wr.cell? ⟨g, o + 5, none⟩ = some (.bool (nthE l i).att.priv) ∧ wr.cell? ⟨g, o + 6, none⟩ = some (.bool (nthE l i).att.exec) ∧ wr.cell? ⟨g, o + 7, none⟩ = some (.bool (nthE l i).att.lock) ∧ wr.cell? ⟨g, o + 8, none⟩ = some (.bool (nthE l i).att.global) ∧ wr.cell? ⟨g, o + 9, none⟩ = some (.bool (nthE l i).att.quiet) ∧ wr.cell? ⟨g, o + 10, none⟩ = some (.bool (nthE l i).valid) := by
  obtain ⟨g, cap, hv, a, b, _, _, c, _⟩ := doc_at h.own (by omega)
  exact ⟨g, cap, hv, a, b, c i o hi ho⟩
theorem add_at (g o : Nat) : (⟨g, 0, none⟩ : Addr).add o = ⟨g, o, none⟩ := by unfold Addr.add; split <;> simp_all
/-- What is carried, and what came in. -/
structure PI (w W wr : World) (st sb bm : Nat) (p : Par) (T : Nat → Pl) (L : List Bx) (C : Nat) (v : Value) (l : List Ent) (ib o : Nat) (x : Ent) : Prop where
  pl : PL W wr st sb bm p T L C v l
  inp : wr.cell? ⟨ib, o, none⟩ = some (.int .i64 x.size) ∧ wr.cell? ⟨ib, o + 1, none⟩ = some (.int .i64 x.ctx) ∧ wr.cell? ⟨ib, o + 2, none⟩ = some (.int .u64 x.va) ∧ wr.cell? ⟨ib, o + 3, none⟩ = some (.int .u64 x.pa) ∧ wr.cell? ⟨ib, o + 4, none⟩ = some (.bool x.att.write) ∧ wr.cell? ⟨ib, o + 5, none⟩ = some (.bool x.att.priv) ∧ wr.cell? ⟨ib, o + 6, none⟩ = some (.bool x.att.exec) ∧ wr.cell? ⟨ib, o + 7, none⟩ = some (.bool x.att.lock) ∧ wr.cell? ⟨ib, o + 8, none⟩ = some (.bool x.att.global) ∧ wr.cell? ⟨ib, o + 9, none⟩ = some (.bool x.att.quiet) ∧ wr.cell? ⟨ib, o + 10, none⟩ = some (.bool x.valid)
  old : ib < W.heap.size
theorem PI.low {w W wr w' : World} {st sb bm C ib o : Nat} {p : Par} {T : Nat → Pl} {L : List Bx} {v : Value} {l : List Ent} {x : Ent} (h : PI w W wr st sb bm p T L C v l ib o x) (hb : Below wr.heap.size wr w') : PI w W w' st sb bm p T L C v l ib o x := by
  obtain ⟨q0, q1, q2, q3, q4, q5, q6, q7, q8, q9, q10⟩ := h.inp
  have hc : ∀ {k : Nat} {v : Value}, wr.cell? ⟨ib, k, none⟩ = some v → w'.cell? ⟨ib, k, none⟩ = some v := fun {k v} hh => (hb.cell (p := ⟨ib, k, none⟩) (Nat.lt_of_lt_of_le h.old h.pl.bel.size)).trans hh
  exact ⟨h.pl.low hb, ⟨hc q0, hc q1, hc q2, hc q3, hc q4, hc q5, hc q6, hc q7, hc q8, hc q9, hc q10⟩, h.old⟩
theorem PI.drewN {w W wr : World} {st sb bm C ib o : Nat} {p : Par} {T : Nat → Pl} {L : List Bx} {v : Value} {l : List Ent} {x : Ent} (h : PI w W wr st sb bm p T L C v l ib o x) (n : Nat) : PI w W (wr.drewN n) st sb bm p T L C v l ib o x := h.low (drewN_low wr n)
theorem PI.drew {w W wr : World} {st sb bm C ib o : Nat} {p : Par} {T : Nat → Pl} {L : List Bx} {v : Value} {l : List Ent} {x : Ent} (h : PI w W wr st sb bm p T L C v l ib o x) : PI w W wr.drew st sb bm p T L C v l ib o x := h.drewN 1
theorem PI.alloc {w W wr : World} {st sb bm C ib o : Nat} {p : Par} {T : Nat → Pl} {L : List Bx} {v : Value} {l : List Ent} {x : Ent} (h : PI w W wr st sb bm p T L C v l ib o x) (ob : Obj) : PI w W (wr.alloc ob) st sb bm p T L C v l ib o x := h.low ((Below.refl _ _).alloc (Nat.le_refl _) _)
theorem PI.setNew {w W X wr : World} {st sb bm C ib o : Nat} {p : Par} {T : Nat → Pl} {L : List Bx} {v : Value} {l : List Ent} {x : Ent} {x0 x1 x2 x3 x4 x5 x6 x7 x8 x9 x10 : Value} (hX : PI w W X st sb bm p T L C v l ib o x) (h : PI w W wr st sb bm p T L C v l ib o x) :
    PI w W (((((((((((wr.setCell ⟨X.heap.size, 0, none⟩ x0).setCell ⟨X.heap.size, 1, none⟩ x1).setCell ⟨X.heap.size, 2, none⟩ x2).setCell ⟨X.heap.size, 3, none⟩ x3).setCell ⟨X.heap.size, 4, none⟩ x4).setCell ⟨X.heap.size, 5, none⟩ x5).setCell ⟨X.heap.size, 6, none⟩ x6).setCell ⟨X.heap.size, 7, none⟩ x7).setCell ⟨X.heap.size, 8, none⟩ x8).setCell ⟨X.heap.size, 9, none⟩ x9).setCell ⟨X.heap.size, 10, none⟩ x10) st sb bm p T L C v l ib o x := by
  have hz := hX.pl.bel.size
  have ho := hX.old
  have hne : ib ≠ X.heap.size := by omega
  obtain ⟨q0, q1, q2, q3, q4, q5, q6, q7, q8, q9, q10⟩ := h.inp
  have hc : ∀ {k : Nat} {v : Value}, wr.cell? ⟨ib, k, none⟩ = some v → (((((((((((wr.setCell ⟨X.heap.size, 0, none⟩ x0).setCell ⟨X.heap.size, 1, none⟩ x1).setCell ⟨X.heap.size, 2, none⟩ x2).setCell ⟨X.heap.size, 3, none⟩ x3).setCell ⟨X.heap.size, 4, none⟩ x4).setCell ⟨X.heap.size, 5, none⟩ x5).setCell ⟨X.heap.size, 6, none⟩ x6).setCell ⟨X.heap.size, 7, none⟩ x7).setCell ⟨X.heap.size, 8, none⟩ x8).setCell ⟨X.heap.size, 9, none⟩ x9).setCell ⟨X.heap.size, 10, none⟩ x10).cell? ⟨ib, k, none⟩ = some v := fun {k v} hh => by
    have hrow := row_far (w := wr) (g := X.heap.size) (b := ib) (x0 := x0) (x1 := x1) (x2 := x2) (x3 := x3) (x4 := x4) (x5 := x5) (x6 := x6) (x7 := x7) (x8 := x8) (x9 := x9) (x10 := x10) hne
    unfold World.cell? at hh ⊢
    dsimp only at hh ⊢
    rw [hrow]; exact hh
  exact ⟨PL.setNew hX.pl h.pl, ⟨hc q0, hc q1, hc q2, hc q3, hc q4, hc q5, hc q6, hc q7, hc q8, hc q9, hc q10⟩, h.old⟩
theorem PI.sc {w W wr : World} {st sb bm C ib o tb : Nat} {p : Par} {T : Nat → Pl} {v u n : Value} {s : Int} {l : List Ent} {x : Ent} (h : PI w W wr st sb bm p T [(tb, #[.int .i64 s, n, u], 68)] C v l ib o x) : (wr.cell? ⟨ib, o, none⟩ = some (.int .i64 x.size) ∧ wr.cell? ⟨ib, o + 1, none⟩ = some (.int .i64 x.ctx) ∧ wr.cell? ⟨ib, o + 2, none⟩ = some (.int .u64 x.va) ∧ wr.cell? ⟨ib, o + 3, none⟩ = some (.int .u64 x.pa) ∧ wr.cell? ⟨ib, o + 4, none⟩ = some (.bool x.att.write) ∧ wr.cell? ⟨ib, o + 5, none⟩ = some (.bool x.att.priv) ∧ wr.cell? ⟨ib, o + 6, none⟩ = some (.bool x.att.exec) ∧ wr.cell? ⟨ib, o + 7, none⟩ = some (.bool x.att.lock) ∧ wr.cell? ⟨ib, o + 8, none⟩ = some (.bool x.att.global) ∧ wr.cell? ⟨ib, o + 9, none⟩ = some (.bool x.att.quiet) ∧ wr.cell? ⟨ib, o + 10, none⟩ = some (.bool x.valid)) ∧ wr.cell? ⟨tb, 0, none⟩ = some (.int .i64 s) :=
  ⟨h.inp, cell_row 0 (h.pl.rows _ (List.mem_cons_self ..)).1 rfl⟩
theorem PL.oc {W wr : World} {st sb bm C g n cap : Nat} {p : Par} {T : Nat → Pl} {L : List Bx} {l : List Ent} (h : PL W wr st sb bm p T L C (.slice (some ⟨g, 0, none⟩) n cap) l) {i o : Nat} (hi : i < l.length) (ho : i * 11 = o) : wr.cell? ⟨g, o, none⟩ = some (.int .i64 (nthE l i).size) ∧ wr.cell? ⟨g, o + 1, none⟩ = some (.int .i64 (nthE l i).ctx) ∧ wr.cell? ⟨g, o + 2, none⟩ = some (.int .u64 (nthE l i).va) ∧ wr.cell? ⟨g, o + 3, none⟩ = some (.int .u64 (nthE l i).pa) ∧ wr.cell? ⟨g, o + 4, none⟩ = some (.bool (nthE l i).att.write) ∧ wr.cell? ⟨g, o + 5, none⟩ = some (.bool (nthE l i).att.priv) ∧ wr.cell? ⟨g, o + 6, none⟩ = some (.bool (nthE l i).att.exec) ∧ wr.cell? ⟨g, o + 7, none⟩ = some (.bool (nthE l i).att.lock) ∧ wr.cell? ⟨g, o + 8, none⟩ = some (.bool (nthE l i).att.global) ∧ wr.cell? ⟨g, o + 9, none⟩ = some (.bool (nthE l i).att.quiet) ∧ wr.cell? ⟨g, o + 10, none⟩ = some (.bool (nthE l i).valid) := by
  obtain ⟨g', cap', hv, _, _, c⟩ := h.cells hi ho
  simp only [Value.slice.injEq, Option.some.injEq, Addr.mk.injEq, and_true] at hv
  obtain ⟨rfl, _⟩ := hv
  exact c
end Go.Proofs.YtnbdoemnepfhdaaGreat.Ts

namespace Go.Proofs.YtnbdoemnepfhdaaGreat.Ts
open Fld
open Pt (idxI idx_bd)
open Go.ChangeShapes Go.WideShapes Go.ChangeAt Go.RowKit Go.Shelf
set_option maxRecDepth 100000
set_option maxHeartbeats 2000000
structure Wd where
  i : Nat
  t : Int
  d : Int
def Wd.zero : Wd := ⟨0, 0, 0⟩
def cellW (x : Wd) (k : Nat) : Value := match k with
  | 0 => .int .i64 (x.i : Int)
  | 1 => .int .u64 x.t
  | _ => .int .u64 x.d
def three (x : Wd) : List Value := [.int .i64 (x.i : Int), .int .u64 x.t, .int .u64 x.d]
def nthW (l : List Wd) : Nat → Wd := fun i => l.getD i Wd.zero
def rowW (R : Nat → Wd) (n : Nat) : List Value := (List.range (n * 3)).map fun m => cellW (R (m / 3)) (m % 3)
theorem rowW_length (R : Nat → Wd) (n : Nat) : (rowW R n).length = n * 3 := by simp [rowW]
theorem rowW_get (R : Nat → Wd) {n m : Nat} (h : m < n * 3) : (rowW R n)[m]? = some (cellW (R (m / 3)) (m % 3)) := by
  unfold rowW; rw [List.getElem?_map, List.getElem?_range h]; rfl
theorem three_get (x : Wd) {k : Nat} (hk : k < 3) : (three x)[k]? = some (cellW x k) := by
  have : k = 0 ∨ k = 1 ∨ k = 2 := by omega
  rcases this with rfl | rfl | rfl <;> rfl
theorem rowW_snoc {R : Nat → Wd} {n : Nat} {x : Wd} (h : R n = x) : rowW R (n + 1) = rowW R n ++ three x := by
  apply List.ext_getElem?
  intro m
  by_cases hm : m < n * 3
  · rw [rowW_get R (by omega), List.getElem?_append_left (by rw [rowW_length]; omega), rowW_get R hm]
  · rw [List.getElem?_append_right (by rw [rowW_length]; omega), rowW_length]
    by_cases h2 : m < (n + 1) * 3
    · rw [rowW_get R h2, show m / 3 = n by omega, three_get x (by omega), h, show m - n * 3 = m % 3 by omega]
    · rw [List.getElem?_eq_none (by rw [rowW_length]; omega), List.getElem?_eq_none (by show 3 ≤ _; omega)]
theorem rowW_congr {R S : Nat → Wd} {n : Nat} (h : ∀ k, k < n → R k = S k) : rowW R n = rowW S n := by
  apply List.ext_getElem?
  intro m
  by_cases hm : m < n * 3
  · rw [rowW_get R hm, rowW_get S hm, h _ (by omega)]
  · rw [List.getElem?_eq_none (by rw [rowW_length]; omega), List.getElem?_eq_none (by rw [rowW_length]; omega)]
theorem rowW_list (l : List Wd) (x : Wd) : rowW (nthW (l ++ [x])) (l ++ [x]).length = rowW (nthW l) l.length ++ three x := by
  rw [show (l ++ [x]).length = l.length + 1 by simp, rowW_snoc (x := x) (by simp [nthW])]
  rw [rowW_congr (R := nthW (l ++ [x])) (S := nthW l)]
  intro k hk
  simp [nthW, List.getElem?_append_left hk]
theorem three_one (x : Wd) : ∀ u ∈ three x, u.oneCell' = true := by
  intro u hu
  simp only [three, List.mem_cons, List.not_mem_nil, or_false] at hu
  rcases hu with rfl | rfl | rfl <;> rfl
/-- A list of words that lies in new memory (from block B on). -/
abbrev WsAt (w : World) (B : Nat) (v : Value) (l : List Wd) : Prop := w.ownsRow B 139 3 v l.length (rowW (nthW l) l.length)
theorem ws_nil (w : World) (B : Nat) : WsAt w B (.slice none 0 0) [] := World.ownsRow_nil _ _ _ _
theorem ws_low {w w' : World} {B : Nat} {v : Value} {l : List Wd} (h : WsAt w B v l) (hb : Below w.heap.size w w') : WsAt w' B v l := own_below h hb
theorem ws_base {w : World} {B C : Nat} {v : Value} {l : List Wd} (h : WsAt w B v l) (hC : C ≤ B) : WsAt w C v l := by
  refine ⟨h.1, ?_⟩
  rcases h.2 with hn | ⟨g, cap, cur, rfl, hb2, rest⟩
  · exact .inl hn
  · exact .inr ⟨g, cap, cur, rfl, by omega, rest⟩
theorem ws_same {w w' : World} {C : Nat} {v : Value} {l : List Wd} (h : WsAt w C v l) (hs : ∀ g cur, C ≤ g → w.heap[g]? = some (.cells cur 139 (0, 0)) → w'.heap[g]? = w.heap[g]?) : WsAt w' C v l := by
  refine ⟨h.1, ?_⟩
  rcases h.2 with hn | ⟨g, cap, cur, rfl, hb2, hg, rest⟩
  · exact .inl hn
  · exact .inr ⟨g, cap, cur, rfl, hb2, (hs g cur hb2 hg).trans hg, rest⟩
theorem ws_at {w : World} {B : Nat} {v : Value} {l : List Wd} (h : WsAt w B v l) {i o : Nat} (hi : i < l.length) (ho : i * 3 = o) :
    ∃ g cap, v = .slice (some ⟨g, 0, none⟩) l.length cap ∧ l.length ≤ cap ∧ cap ≤ maxLen ∧ w.cell? ⟨g, o, none⟩ = some (.int .i64 ((nthW l i).i : Int)) ∧ w.cell? ⟨g, o + 1, none⟩ = some (.int .u64 (nthW l i).t) ∧ w.cell? ⟨g, o + 2, none⟩ = some (.int .u64 (nthW l i).d) := by
  have h0 := h
  rcases h.2 with ⟨_, h0⟩ | ⟨g, cap, cur, rfl, hB, hg, h1, h2, _, _⟩
  · omega
  · subst ho
    refine ⟨g, cap, rfl, h1, h2, ?_⟩
    have hc : ∀ k, k < 3 → w.cell? ⟨g, i * 3 + k, none⟩ = some (cellW (nthW l i) k) := fun k hk => by
      rw [h0.cellAt (i * 3 + k) (by omega), rowW_get _ (by omega), show (i * 3 + k) / 3 = i by omega, show (i * 3 + k) % 3 = k by omega]
    exact ⟨hc 0 (by decide), hc 1 (by decide), hc 2 (by decide)⟩
theorem infoW : (Tryz.prog.info? 139).map (fun i => (i.zero, i.size, i.bytes)) = some (some (.agg #[.int .i64 0, .int .u64 0, .int .u64 0]), 3, 24) := by kernel_rfl
theorem cell_three_new (w : World) (x : Wd) (t : TypeId) : ∀ j u, (three x)[j]? = some u → (w.alloc (.cells #[.int .i64 (x.i : Int), .int .u64 x.t, .int .u64 x.d] t)).cell? ((⟨w.heap.size, 0, none⟩ : Addr).add j) = some u := by
  intro j u hj
  rw [add_at]
  have hl := World.alloc_heap_new w (.cells #[.int .i64 (x.i : Int), .int .u64 x.t, .int .u64 x.d] t)
  refine cell_row j hl ?_
  rw [← hj, ← List.getElem?_toArray]; rfl
/-! ### What stands there -/
def getW (l : List Wd) (i : Nat) : Pl := match l.find? (fun x => x.i == i) with
  | some x => ⟨x.t, x.d⟩
  | none => Pl.none
def putW (l : List Wd) (x : Wd) : List Wd := l.filter (fun y => y.i != x.i) ++ (if x.t = 9223372036854775807 ∧ x.d = 0 then [] else [x])
theorem putW_le (l : List Wd) (x : Wd) : (putW l x).length ≤ l.length + 1 := by
  unfold putW
  rw [List.length_append]
  have := List.length_filter_le (fun y : Wd => y.i != x.i) l
  split <;> simp <;> omega
def flt (l : List Wd) (i : Nat) (k : Nat) : List Wd := (l.take k).filter fun y => y.i != i
theorem flt_hit {l : List Wd} {i k : Nat} (hk : k < l.length) (h : (nthW l k).i ≠ i) : flt l i (k + 1) = flt l i k ++ [nthW l k] := by
  unfold flt
  rw [List.take_succ_eq_append_getElem hk, List.filter_append]
  have : nthW l k = l[k] := by simp [nthW, hk]
  rw [this] at h ⊢
  simp [h]
theorem flt_miss {l : List Wd} {i k : Nat} (hk : k < l.length) (h : (nthW l k).i = i) : flt l i (k + 1) = flt l i k := by
  unfold flt
  rw [List.take_succ_eq_append_getElem hk, List.filter_append]
  have : nthW l k = l[k] := by simp [nthW, hk]
  rw [this] at h
  simp [h]
theorem flt_le (l : List Wd) (i k : Nat) : (flt l i k).length ≤ k := Nat.le_trans (List.length_filter_le _ _) (by simp; omega)
theorem get_find {l : List Wd} {i k : Nat} (hk : k < l.length) (hno : ∀ q, q < k → (nthW l q).i ≠ i) (h : (nthW l k).i = i) : getW l i = ⟨(nthW l k).t, (nthW l k).d⟩ := by
  have e : l.find? (fun x => x.i == i) = some (nthW l k) := by
    rw [List.find?_eq_some_iff_getElem]
    have hn : ∀ q (hq : q < l.length), nthW l q = l[q] := fun q hq => by simp [nthW, hq]
    refine ⟨by simp [h], k, hk, (hn k hk).symm, fun q hq => ?_⟩
    have := hno q hq
    rw [hn q (by omega)] at this
    simpa using this
  unfold getW; rw [e]
theorem get_none {l : List Wd} {i : Nat} (hno : ∀ q, q < l.length → (nthW l q).i ≠ i) : getW l i = Pl.none := by
  have e : l.find? (fun x => x.i == i) = none := by
    rw [List.find?_eq_none]
    intro x hx
    obtain ⟨q, hq, rfl⟩ := List.getElem_of_mem hx
    have := hno q hq
    simp [nthW, hq] at this
    simpa using this
  unfold getW; rw [e]
theorem rbad_any (w : World) :
    Calls Tryz.prog 93 #[] w fun e w' => e = .returned (.int .u64 9223372036854775807) ∧ w = w' := by
  go_enter Tryz.func93, Tryz.ntmps93
  go_wp2
  go_ret
  exact ⟨rfl, rfl⟩
theorem rplace_any {p : Par} (hp : p.Ok) (ao : Option Addr) (m cap : Nat) (va : Int) (v0 : 0 ≤ va) (v1 : va ≤ 18446744073709551615) (w : World) :
    Calls Tryz.prog 89 #[.agg #[.int .i64 p.s, .int .i64 (p.n : Int), .slice ao m cap], .int .u64 va] w fun e w' => e = .returned (.int .i64 (p.pl va : Int)) ∧ Below w.heap.size w w' := by
  have CB := Lib.hid (fun w => rbytes_any p.s w)
  have hb := bytes_pos hp.hs
  have hb2 := bytes_bd p.s
  have hnb := hp.n_bd
  have z1 : Below w.heap.size w (w.alloc (.cells #[.int .i64 p.s, .int .i64 (p.n : Int), .slice ao m cap] 68)) := (Below.refl _ _).alloc (Nat.le_refl _) _
  have b1 := World.alloc_heap_new w (.cells #[.int .i64 p.s, .int .i64 (p.n : Int), .slice ao m cap] 68)
  have e0 := cell_row 0 b1 rfl
  have e1 := cell_row 1 b1 rfl
  have hx : 0 ≤ va / bytesI p.s := Int.ediv_nonneg v0 (by omega)
  have hx1 : va / bytesI p.s ≤ 18446744073709551615 := Int.le_trans (Int.ediv_le_self _ v0) v1
  have hi := (hp.idx va)
  have hr : va / bytesI p.s % (p.n : Int) = (p.pl va : Int) := hi.1
  have hn0 : (p.n : Int) ≠ 0 := by omega
  have hb0 : bytesI p.s ≠ 0 := by omega
  generalize bytesI p.s = bb at *
  have hr' := Lib.hid hr
  have hpl := hi.2
  generalize p.pl va = k at *
  clear hi hr
  go_enter Tryz.func89, Tryz.ntmps89
  go_wp2_with fail
  generalize World.alloc w _ = W1 at *
  go_quiet ((go_at_call 86; refine (CB.out _).mono ?_; rintro e w' ⟨rfl, rfl⟩; exact ⟨rfl, _, rfl⟩))
  go_wp2_with fail
  go_ret
  exact ⟨ret_i (by rw [hr'.out]; unfold wrap64; omega), below_drewN z1 _⟩
theorem rget_any {p : Par} (l : List Wd) (B : Nat) (v : Value) (i : Nat) (w : World) (h : WsAt w B v l) :
    Calls Tryz.prog 88 #[.agg #[.int .i64 p.s, .int .i64 (p.n : Int), v], .int .i64 (i : Int)] w fun e w' => e = .returned (.agg #[.int .i64 (i : Int), .int .u64 (getW l i).t, .int .u64 (getW l i).d]) ∧ Below w.heap.size w w' := by
  obtain ⟨ao, cap, rfl⟩ := own_shape h
  obtain ⟨m, hm⟩ : ∃ m, l.length = m := ⟨_, rfl⟩
  rw [hm]
  have HM := Lib.hid hm
  have z1 : Below w.heap.size w ((w.alloc (.cells #[.int .i64 p.s, .int .i64 (p.n : Int), .slice ao m cap] 68)).alloc (.cells #[.int .i64 0, .int .u64 0, .int .u64 0] 139)) := ((Below.refl _ _).alloc (Nat.le_refl _) _).alloc (by simp) _
  have b1 : ((w.alloc (.cells #[.int .i64 p.s, .int .i64 (p.n : Int), .slice ao m cap] 68)).alloc (.cells #[.int .i64 0, .int .u64 0, .int .u64 0] 139)).heap[w.heap.size]? = some (.cells #[.int .i64 p.s, .int .i64 (p.n : Int), .slice ao m cap] 68 (0, 0)) := alloc_old (World.alloc_heap_new _ _) _
  have b2 : ((w.alloc (.cells #[.int .i64 p.s, .int .i64 (p.n : Int), .slice ao m cap] 68)).alloc (.cells #[.int .i64 0, .int .u64 0, .int .u64 0] 139)).heap[w.heap.size + 1]? = some (.cells #[.int .i64 0, .int .u64 0, .int .u64 0] 139 (0, 0)) := alloc_new2 _ _ _
  have h1 := ws_low h z1
  have CB := Lib.hid rbad_any
  clear h hm
  go_enter Tryz.func88, Tryz.ntmps88
  go_wp2_with fail
  generalize World.alloc (World.alloc w _) _ = W1 at *
  have e2 := cell_row 2 b1 rfl
  have r0 := cell_row 0 b2 rfl
  have r1 := cell_row 1 b2 rfl
  have r2 := cell_row 2 b2 rfl
  have fr : ∀ i, W1.frozen? ⟨w.heap.size + 1, i, none⟩ = false := fun i => by simp [World.frozen?, b2]
  go_loopw [5] (fun a wr => W1 = wr ∧ ∃ k : Nat, a = .int .i64 (k : Int) ∧ k ≤ m ∧ ∀ q, q < k → (nthW l q).i ≠ i) (fun a _ => m - (intOf a).toNat)
  case atStart => exact ⟨rfl, 0, rfl, Nat.zero_le _, fun q hq => absurd hq (Nat.not_lt_zero _)⟩
  case round =>
    obtain ⟨rfl, k, rfl, hk, hno⟩ := hrel
    by_cases hkm : k < m
    · have hkl : k < l.length := by rw [HM.out]; exact hkm
      obtain ⟨o, ho⟩ : ∃ o, k * 3 = o := ⟨_, rfl⟩
      obtain ⟨g, cap', hv, hc1, hc2, c0, c1, c2⟩ := ws_at h1 hkl ho
      rw [HM.out] at hv hc1
      simp only [Value.slice.injEq, true_and] at hv
      obtain ⟨rfl, rfl⟩ := hv
      unfold maxLen at hc2
      have hkm' : (k : Int) < (m : Int) := by omega
      have hAE : (⟨g, 0, none⟩ : Addr).add o = ⟨g, o, none⟩ := add_at g o
      by_cases he : (nthW l k).i = i
      · have hG := Lib.hid (get_find hkl hno he)
        have he' : ((nthW l k).i : Int) = (i : Int) := by omega
        rw [he'] at c0
        have HI := Lib.hid he'
        clear he he' hno
        generalize nthW l k = y at *
        go_wp2_with fail
        have q1 := Mem.heap_set b2 (o := 0) (.int .i64 (i : Int))
        have q2 := Mem.heap_set q1 (o := 1) (.int .u64 y.t)
        have q3 := Mem.heap_set q2 (o := 2) (.int .u64 y.d)
        (try simp only [Exit.inBlock, Exit.then])
        refine bodyPost_ret (results_cell_row rfl _ _ _ _ _ (0, 0) _ rfl q3 Tryz.underlying139 (by kernel_rfl) (by kernel_rfl)) rfl ⟨?_, ?_⟩
        · rw [hG.out]; rfl
        · exact ((z1.setCell (p := ⟨w.heap.size + 1, 0, none⟩) (Nat.le_succ _) _).setCell (p := ⟨w.heap.size + 1, 1, none⟩) (Nat.le_succ _) _).setCell (p := ⟨w.heap.size + 1, 2, none⟩) (Nat.le_succ _) _
      · have he' : ¬ ((nthW l k).i : Int) = (i : Int) := by omega
        have hno2 := Lib.hid (show ∀ q, q < k + 1 → (nthW l q).i ≠ i from fun q hq => by
          by_cases h : q = k
          · subst h; exact he
          · exact hno q (by omega))
        clear he hno
        generalize (nthW l k).i = yi at *
        go_wp2_with fail
        go_roundw
        case rel => exact ⟨by trivial, k + 1, by go_num, by omega, hno2.out⟩
        case measure => simp [intOf]; omega
    · obtain rfl : m = k := by omega
      have hG := Lib.hid (get_none (l := l) (i := i) (by intro q hq; rw [HM.out] at hq; exact hno q hq))
      clear hno
      go_wp2_with (go_at_call 93; refine (CB.out _).mono ?_; rintro e w' ⟨rfl, rfl⟩)
      have q1 := Mem.heap_set b2 (o := 0) (.int .i64 (i : Int))
      have q2 := Mem.heap_set q1 (o := 1) (.int .u64 9223372036854775807)
      have q3 := Mem.heap_set q2 (o := 2) (.int .u64 0)
      (try simp only [Exit.inBlock, Exit.then])
      refine bodyPost_ret (results_cell_row rfl _ _ _ _ _ (0, 0) _ rfl q3 Tryz.underlying139 (by kernel_rfl) (by kernel_rfl)) rfl ⟨?_, ?_⟩
      · rw [hG.out]; rfl
      · exact ((z1.setCell (p := ⟨w.heap.size + 1, 0, none⟩) (Nat.le_succ _) _).setCell (p := ⟨w.heap.size + 1, 1, none⟩) (Nat.le_succ _) _).setCell (p := ⟨w.heap.size + 1, 2, none⟩) (Nat.le_succ _) _
end Go.Proofs.YtnbdoemnepfhdaaGreat.Ts

namespace Go.Proofs.YtnbdoemnepfhdaaGreat.Ts
open Fld
open Pt (idxI idx_bd)
open Go.ChangeShapes Go.WideShapes Go.ChangeAt Go.RowKit Go.Shelf
set_option maxRecDepth 100000
set_option maxHeartbeats 2000000
/-- The two boxes of put, and the list under way. -/
structure PW (w wr : World) (p : Par) (v : Value) (x : Wd) (l : List Wd) (u : Value) (f : List Wd) : Prop where
  bel : Below w.heap.size w wr
  b1 : wr.heap[w.heap.size]? = some (.cells #[.int .i64 p.s, .int .i64 (p.n : Int), v] 68 (0, 0))
  b2 : wr.heap[w.heap.size + 1]? = some (.cells #[.int .i64 (x.i : Int), .int .u64 x.t, .int .u64 x.d] 139 (0, 0))
  b3 : wr.heap[w.heap.size + 1 + 1]? = some (.cells #[.int .i64 0, .int .i64 0, .slice none 0 0] 68 (0, 0))
  old : ∃ B, B ≤ w.heap.size ∧ WsAt w B v l
  own : WsAt wr (w.heap.size + 1 + 1 + 1) u f
theorem PW.low {w wr w' : World} {p : Par} {v u : Value} {x : Wd} {l f : List Wd} (h : PW w wr p v x l u f) (hb : Below wr.heap.size wr w') : PW w w' p v x l u f :=
  ⟨h.bel.trans (hb.mono h.bel.size), (hb.block _ (Array.getElem?_eq_some_iff.1 h.b1).1).trans h.b1, (hb.block _ (Array.getElem?_eq_some_iff.1 h.b2).1).trans h.b2, (hb.block _ (Array.getElem?_eq_some_iff.1 h.b3).1).trans h.b3, h.old, ws_low h.own hb⟩
theorem PW.drewN {w wr : World} {p : Par} {v u : Value} {x : Wd} {l f : List Wd} (h : PW w wr p v x l u f) (n : Nat) : PW w (wr.drewN n) p v x l u f := h.low (drewN_low wr n)
theorem PW.alloc {w wr : World} {p : Par} {v u : Value} {x : Wd} {l f : List Wd} (h : PW w wr p v x l u f) (o : Obj) : PW w (wr.alloc o) p v x l u f := h.low ((Below.refl _ _).alloc (Nat.le_refl _) _)
theorem PW.grown {w wr w1 : World} {p : Par} {v u u' : Value} {x : Wd} {l f f' : List Wd} (h : PW w wr p v x l u f) (hg : wr.grownBy w1 u.ownBlock) (ho : WsAt w1 (w.heap.size + 1 + 1 + 1) u' f') : PW w w1 p v x l u' f' := by
  have hfar : ∀ g, u.ownBlock = some g → w.heap.size + 1 + 1 + 1 ≤ g := fun g hg2 => (h.own.lt g hg2).1
  refine ⟨h.bel.grown hg h.bel.size (fun g hg2 => by have := hfar g hg2; omega), ?_, ?_, ?_, h.old, ho⟩
  · exact (hg.block _ (Array.getElem?_eq_some_iff.1 h.b1).1 (fun e => by have := hfar _ e.symm; omega)).trans h.b1
  · exact (hg.block _ (Array.getElem?_eq_some_iff.1 h.b2).1 (fun e => by have := hfar _ e.symm; omega)).trans h.b2
  · exact (hg.block _ (Array.getElem?_eq_some_iff.1 h.b3).1 (fun e => by have := hfar _ e.symm; omega)).trans h.b3
theorem ws_far {w : World} {C b : Nat} {v : Value} {l : List Wd} (h : WsAt w C v l) (hb : b < C) (o : Nat) (u : Value) : WsAt (w.setCell ⟨b, o, none⟩ u) C v l :=
  ws_same h fun g _ hg _ => Below.heap_setCell _ _ _ _ (by show g ≠ b; omega)
/-- The end of put: the list is laid into the box, and that into the result. -/
theorem PW.fin {w wr : World} {p : Par} {v u : Value} {x : Wd} {l f : List Wd} (h : PW w wr p v x l u f) :
    ((((wr.setCell ⟨w.heap.size, 2, none⟩ u).setCell ⟨w.heap.size + 1 + 1, 0, none⟩ (.int .i64 p.s)).setCell ⟨w.heap.size + 1 + 1, 1, none⟩ (.int .i64 (p.n : Int))).setCell ⟨w.heap.size + 1 + 1, 2, none⟩ u).heap[w.heap.size + 1 + 1]? = some (.cells #[.int .i64 p.s, .int .i64 (p.n : Int), u] 68 (0, 0)) ∧
    WsAt ((((wr.setCell ⟨w.heap.size, 2, none⟩ u).setCell ⟨w.heap.size + 1 + 1, 0, none⟩ (.int .i64 p.s)).setCell ⟨w.heap.size + 1 + 1, 1, none⟩ (.int .i64 (p.n : Int))).setCell ⟨w.heap.size + 1 + 1, 2, none⟩ u) w.heap.size u f ∧
    Below w.heap.size w ((((wr.setCell ⟨w.heap.size, 2, none⟩ u).setCell ⟨w.heap.size + 1 + 1, 0, none⟩ (.int .i64 p.s)).setCell ⟨w.heap.size + 1 + 1, 1, none⟩ (.int .i64 (p.n : Int))).setCell ⟨w.heap.size + 1 + 1, 2, none⟩ u) := by
  have q0 := (Below.heap_setCell wr ⟨w.heap.size, 2, none⟩ u (w.heap.size + 1 + 1) (by show _ ≠ w.heap.size; omega)).trans h.b3
  have q1 := Mem.heap_set q0 (o := 0) (.int .i64 p.s)
  have q2 := Mem.heap_set q1 (o := 1) (.int .i64 (p.n : Int))
  have q3 := Mem.heap_set q2 (o := 2) u
  refine ⟨q3, ?_, ?_⟩
  · exact ws_base (ws_far (ws_far (ws_far (ws_far h.own (by omega) _ _) (by omega) _ _) (by omega) _ _) (by omega) _ _) (by omega)
  · exact (((h.bel.setCell (p := ⟨w.heap.size, 2, none⟩) (Nat.le_refl _) _).setCell (p := ⟨w.heap.size + 1 + 1, 0, none⟩) (by show w.heap.size ≤ w.heap.size + 1 + 1; omega) _).setCell (p := ⟨w.heap.size + 1 + 1, 1, none⟩) (by show w.heap.size ≤ w.heap.size + 1 + 1; omega) _).setCell (p := ⟨w.heap.size + 1 + 1, 2, none⟩) (by show w.heap.size ≤ w.heap.size + 1 + 1; omega) _
theorem flt_all {l : List Wd} {m : Nat} (h : l.length = m) (i : Nat) : flt l i m = l.filter fun y => y.i != i := by
  unfold flt; rw [← h, List.take_length]
theorem rput_any {p : Par} (l : List Wd) (B : Nat) (v : Value) (x : Wd) (hl : l.length ≤ 100000) (w : World) (h : WsAt w B v l) (hB : B ≤ w.heap.size) :
    Calls Tryz.prog 91 #[.agg #[.int .i64 p.s, .int .i64 (p.n : Int), v], .agg #[.int .i64 (x.i : Int), .int .u64 x.t, .int .u64 x.d]] w fun e w' => ∃ v', e = .returned (.agg #[.int .i64 p.s, .int .i64 (p.n : Int), v']) ∧ WsAt w' w.heap.size v' (putW l x) ∧ Below w.heap.size w w' := by
  obtain ⟨i0, hi0, hz0, hz1, hz2⟩ := info_parts infoW
  obtain ⟨ao, cap, rfl⟩ := own_shape h
  obtain ⟨m, hm⟩ : ∃ m, l.length = m := ⟨_, rfl⟩
  have HM := Lib.hid hm
  have z1 : Below w.heap.size w (((w.alloc (.cells #[.int .i64 p.s, .int .i64 (p.n : Int), .slice ao l.length cap] 68)).alloc (.cells #[.int .i64 (x.i : Int), .int .u64 x.t, .int .u64 x.d] 139)).alloc (.cells #[.int .i64 0, .int .i64 0, .slice none 0 0] 68)) := (((Below.refl _ _).alloc (Nat.le_refl _) _).alloc (by simp) _).alloc (by simp; omega) _
  have b3 : (((w.alloc (.cells #[.int .i64 p.s, .int .i64 (p.n : Int), .slice ao l.length cap] 68)).alloc (.cells #[.int .i64 (x.i : Int), .int .u64 x.t, .int .u64 x.d] 139)).alloc (.cells #[.int .i64 0, .int .i64 0, .slice none 0 0] 68)).heap[w.heap.size + 1 + 1]? = some (.cells #[.int .i64 0, .int .i64 0, .slice none 0 0] 68 (0, 0)) := by
    have := World.alloc_heap_new ((w.alloc (.cells #[.int .i64 p.s, .int .i64 (p.n : Int), .slice ao l.length cap] 68)).alloc (.cells #[.int .i64 (x.i : Int), .int .u64 x.t, .int .u64 x.d] 139)) (.cells #[.int .i64 0, .int .i64 0, .slice none 0 0] 68)
    rwa [World.size_alloc, World.size_alloc] at this
  have P0 : PW w (((w.alloc (.cells #[.int .i64 p.s, .int .i64 (p.n : Int), .slice ao l.length cap] 68)).alloc (.cells #[.int .i64 (x.i : Int), .int .u64 x.t, .int .u64 x.d] 139)).alloc (.cells #[.int .i64 0, .int .i64 0, .slice none 0 0] 68)) p (.slice ao l.length cap) x l (.slice none 0 0) (flt l x.i 0) :=
    ⟨z1, alloc_old (alloc_old (World.alloc_heap_new _ _) _) _, alloc_old (alloc_new2 _ _ _) _, b3, ⟨B, hB, h⟩, ws_nil _ _⟩
  have CB := Lib.hid rbad_any
  have HA := Lib.hid h
  rw [hm] at P0 hl ⊢
  clear h hm z1 b3
  go_enter Tryz.func91, Tryz.ntmps91
  go_wp2_with fail
  generalize World.alloc (World.alloc (World.alloc w _) _) _ = W1 at *
  go_loopw [5, 6] (fun u a wr => ∃ k : Nat, a = .int .i64 (k : Int) ∧ k ≤ m ∧ PW w wr p (.slice ao m cap) x l u (flt l x.i k)) (fun _ a _ => m - (intOf a).toNat)
  case atStart => exact ⟨0, rfl, Nat.zero_le _, P0⟩
  case round =>
    clear P0
    obtain ⟨k, rfl, hk, PP⟩ := hrel
    have hfl := flt_le l x.i k
    obtain ⟨uo, uc, rfl⟩ := own_shape PP.own
    have e2 := cell_row 2 PP.b1 rfl
    have x0 := cell_row 0 PP.b2 rfl
    by_cases hkm : k < m
    · have hkl : k < l.length := by rw [HM.out]; exact hkm
      obtain ⟨o, ho⟩ : ∃ o, k * 3 = o := ⟨_, rfl⟩
      obtain ⟨g, cap', hv, hc1, hc2, c0, c1, c2⟩ := ws_at HA.out hkl ho
      have hv2 := hv
      rw [HM.out] at hv hc1
      simp only [Value.slice.injEq, true_and] at hv2
      obtain ⟨rfl, rfl⟩ := hv2
      unfold maxLen at hc2
      have hcl : ∀ {b o : Nat} {v : Value}, w.cell? ⟨b, o, none⟩ = some v → wr.cell? ⟨b, o, none⟩ = some v := fun {b o v} hc => (PP.bel.cell (p := ⟨b, o, none⟩) (Tl.lt_cell hc)).trans hc
      replace c0 := hcl c0; replace c1 := hcl c1; replace c2 := hcl c2
      have hkm' : (k : Int) < (m : Int) := by omega
      have hAE : (⟨g, 0, none⟩ : Addr).add o = ⟨g, o, none⟩ := add_at g o
      clear hcl hv
      by_cases he : (nthW l k).i = x.i
      · have hF := Lib.hid (flt_miss hkl he)
        have he' : ((nthW l k).i : Int) = (x.i : Int) := by omega
        rw [he'] at c0
        clear he he'
        go_wp2_with fail
        go_quiet (fail)
        have PQ := PP.drewN nq
        clear PP e2 x0 c0 c1 c2
        go_wp2_with fail
        go_roundw
        case rel => exact ⟨k + 1, by go_num, by omega, by rw [hF.out]; exact PQ⟩
        case measure => simp [intOf]; omega
      · have he' : ¬ ((nthW l k).i : Int) = (x.i : Int) := by omega
        have hF := Lib.hid (flt_hit hkl he)
        clear he
        generalize nthW l k = y at *
        have he2 : (((y.i : Nat) : Int) != (x.i : Int)) = true := bne_iff_ne.2 he'
        go_wp2_with fail
        go_quiet (fail)
        have PQ := PP.drewN nq
        have c0' : (wr.drewN nq).cell? ⟨g, o, none⟩ = some (.int .i64 (y.i : Int)) := c0
        have c1' : (wr.drewN nq).cell? ⟨g, o + 1, none⟩ = some (.int .u64 y.t) := c1
        have c2' : (wr.drewN nq).cell? ⟨g, o + 2, none⟩ = some (.int .u64 y.d) := c2
        clear PP e2 x0 c0 c1 c2
        generalize World.drewN wr nq = W2 at *
        have e2 := cell_row 2 PQ.b1 rfl
        have HC := Lib.hid (cell_three_new W2 y 139)
        have HE := Lib.hid (rowW_list (flt l x.i k) y)
        have HO := Lib.hid (three_one y)
        have P3 := PQ.alloc (.cells #[.int .i64 (y.i : Int), .int .u64 y.t, .int .u64 y.d] 139)
        obtain ⟨mm, hmm⟩ : ∃ mm, (flt l x.i k).length = mm := ⟨_, rfl⟩
        have hO3 : (W2.alloc (.cells #[.int .i64 (y.i : Int), .int .u64 y.t, .int .u64 y.d] 139)).ownsRow (w.heap.size + 1 + 1 + 1) 139 3 (.slice uo mm uc) mm (rowW (nthW (flt l x.i k)) mm) := by have := P3.own; unfold WsAt at this; rw [hmm] at this; exact this
        have hsz := PQ.b3
        have hsz2 := (Array.getElem?_eq_some_iff.1 hsz).1
        rw [hmm] at hfl P3 ⊢
        have HMM := Lib.hid hmm
        clear PQ hmm hsz
        go_wp2_with (at_builtin; (refine wpList_append_own_at _ rfl _ _ 66 rfl (w.heap.size + 1 + 1 + 1) 139 i0 _ 3 24 Tryz.underlying66 hi0 hz0 hz1 hz2 rfl (by decide) _ _ _ rfl (by exact hO3) ⟨W2.heap.size, 0, none⟩ 1 1 (three y) rfl rfl HC.out HO.out (by unfold maxLen; omega) (by omega) (by simp; omega) ?_))
        intro u' w5 hown' hgrow _ _
        have R1 : WsAt w5 (w.heap.size + 1 + 1 + 1) u' (flt l x.i (k + 1)) := by
          unfold WsAt
          rw [hF.out, HE.out, List.length_append, HMM.out]; exact hown'
        have P6 := P3.grown hgrow R1
        clear hown' hgrow hO3 HC HE HO P3 e2 c0' c1' c2'
        go_wp2
        go_roundw
        case rel => exact ⟨k + 1, by go_num, by omega, P6⟩
        case measure => simp [intOf]; omega
    · obtain rfl : m = k := by omega
      have x1 := cell_row 1 PP.b2 rfl
      have x2 := cell_row 2 PP.b2 rfl
      by_cases hxt : x.t = 9223372036854775807
      · by_cases hxd : x.d = 0
        · have hPut := Lib.hid (show putW l x = flt l x.i m by unfold putW; rw [if_pos ⟨hxt, hxd⟩, List.append_nil, flt_all HM.out])
          rw [hxt] at x1
          rw [hxd] at x2
          replace hxt := Lib.hid hxt
          replace hxd := Lib.hid hxd
          go_wp2_with fail
          go_quiet ((go_at_call 93; refine (CB.out _).mono ?_; rintro e w' ⟨rfl, rfl⟩; exact ⟨rfl, _, rfl⟩))
          have PQ := PP.drewN nq
          clear PP e2 x0 x1 x2
          generalize World.drewN wr nq = W2 at *
          have e2 := cell_row 2 PQ.b1 rfl
          have e0 := cell_row 0 PQ.b1 rfl
          have e1 := cell_row 1 PQ.b1 rfl
          have r0 := cell_row 0 PQ.b3 rfl
          have r1 := cell_row 1 PQ.b3 rfl
          have r2 := cell_row 2 PQ.b3 rfl
          have f1 : ∀ i, World.frozen? W2 ⟨w.heap.size, i, none⟩ = false := fun i => by simp [World.frozen?, PQ.b1]
          have f3 : ∀ i, World.frozen? W2 ⟨w.heap.size + 1 + 1, i, none⟩ = false := fun i => by simp [World.frozen?, PQ.b3]
          have hne : w.heap.size ≠ w.heap.size + 1 + 1 := by omega
          go_wp2
          obtain ⟨z1, z2, z3⟩ := PQ.fin
          (try simp only [Exit.inBlock, Exit.then])
          refine bodyPost_ret (results_cell_row rfl _ _ _ _ _ (0, 0) _ rfl z1 Tryz.underlying68 (by kernel_rfl) (by kernel_rfl)) rfl ⟨_, rfl, ?_, z3⟩
          rw [hPut.out]; exact z2
        · have hPut := Lib.hid (show putW l x = flt l x.i m ++ [x] by unfold putW; rw [if_neg (fun h => hxd h.2), flt_all HM.out])
          have hxd2 : (x.d != 0) = true := bne_iff_ne.2 hxd
          have hx1 : wr.cell? ⟨w.heap.size + 1, 1, none⟩ = some (.int .u64 9223372036854775807) := by rw [← hxt]; exact x1
          clear x1
          replace hxt := Lib.hid hxt
          go_wp2_with fail
          go_quiet ((go_at_call 93; refine (CB.out _).mono ?_; rintro e w' ⟨rfl, rfl⟩; exact ⟨rfl, _, rfl⟩))
          have PQ := PP.drewN nq
          clear PP e2 x0 hx1 x2
          generalize World.drewN wr nq = W2 at *
          have y0 := cell_row 0 PQ.b2 rfl
          have y1 := cell_row 1 PQ.b2 rfl
          have y2 := cell_row 2 PQ.b2 rfl
          have HC := Lib.hid (cell_three_new W2 x 139)
          have HE := Lib.hid (rowW_list (flt l x.i m) x)
          have HO := Lib.hid (three_one x)
          have P3 := PQ.alloc (.cells #[.int .i64 (x.i : Int), .int .u64 x.t, .int .u64 x.d] 139)
          obtain ⟨mm, hmm⟩ : ∃ mm, (flt l x.i m).length = mm := ⟨_, rfl⟩
          have hO3 : (W2.alloc (.cells #[.int .i64 (x.i : Int), .int .u64 x.t, .int .u64 x.d] 139)).ownsRow (w.heap.size + 1 + 1 + 1) 139 3 (.slice uo mm uc) mm (rowW (nthW (flt l x.i m)) mm) := by have := P3.own; unfold WsAt at this; rw [hmm] at this; exact this
          have hsz2 := (Array.getElem?_eq_some_iff.1 PQ.b3).1
          rw [hmm] at hfl P3 ⊢
          have HMM := Lib.hid hmm
          clear PQ hmm
          go_wp2_with (at_builtin; (refine wpList_append_own_at _ rfl _ _ 66 rfl (w.heap.size + 1 + 1 + 1) 139 i0 _ 3 24 Tryz.underlying66 hi0 hz0 hz1 hz2 rfl (by decide) _ _ _ rfl (by exact hO3) ⟨W2.heap.size, 0, none⟩ 1 1 (three x) rfl rfl HC.out HO.out (by unfold maxLen; omega) (by omega) (by simp; omega) ?_))
          intro u' w5 hown' hgrow _ _
          have R1 : WsAt w5 (w.heap.size + 1 + 1 + 1) u' (flt l x.i m ++ [x]) := by
            unfold WsAt
            rw [HE.out, List.length_append, HMM.out]; exact hown'
          have P6 := P3.grown hgrow R1
          obtain ⟨uo2, uc2, rfl⟩ := own_shape R1
          clear hown' hgrow hO3 HC HE HO P3 y0 y1 y2 R1
          generalize (flt l x.i m ++ [x]).length = LL at *
          have e2 := cell_row 2 P6.b1 rfl
          have e0 := cell_row 0 P6.b1 rfl
          have e1 := cell_row 1 P6.b1 rfl
          have r0 := cell_row 0 P6.b3 rfl
          have r1 := cell_row 1 P6.b3 rfl
          have r2 := cell_row 2 P6.b3 rfl
          have f1 : ∀ i, World.frozen? w5 ⟨w.heap.size, i, none⟩ = false := fun i => by simp [World.frozen?, P6.b1]
          have f3 : ∀ i, World.frozen? w5 ⟨w.heap.size + 1 + 1, i, none⟩ = false := fun i => by simp [World.frozen?, P6.b3]
          have hne : w.heap.size ≠ w.heap.size + 1 + 1 := by omega
          go_wp2
          obtain ⟨z1, z2, z3⟩ := P6.fin
          (try simp only [Exit.inBlock, Exit.then])
          refine bodyPost_ret (results_cell_row rfl _ _ _ _ _ (0, 0) _ rfl z1 Tryz.underlying68 (by kernel_rfl) (by kernel_rfl)) rfl ⟨_, rfl, ?_, z3⟩
          rw [hPut.out]; exact z2
      · have hPut := Lib.hid (show putW l x = flt l x.i m ++ [x] by unfold putW; rw [if_neg (fun h => hxt h.1), flt_all HM.out])
        have hxt2 : (x.t != 9223372036854775807) = true := bne_iff_ne.2 hxt
        go_wp2_with fail
        go_quiet ((go_at_call 93; refine (CB.out _).mono ?_; rintro e w' ⟨rfl, rfl⟩; exact ⟨rfl, _, rfl⟩))
        have PQ := PP.drewN nq
        clear PP e2 x0 x1 x2
        generalize World.drewN wr nq = W2 at *
        have y0 := cell_row 0 PQ.b2 rfl
        have y1 := cell_row 1 PQ.b2 rfl
        have y2 := cell_row 2 PQ.b2 rfl
        have HC := Lib.hid (cell_three_new W2 x 139)
        have HE := Lib.hid (rowW_list (flt l x.i m) x)
        have HO := Lib.hid (three_one x)
        have P3 := PQ.alloc (.cells #[.int .i64 (x.i : Int), .int .u64 x.t, .int .u64 x.d] 139)
        obtain ⟨mm, hmm⟩ : ∃ mm, (flt l x.i m).length = mm := ⟨_, rfl⟩
        have hO3 : (W2.alloc (.cells #[.int .i64 (x.i : Int), .int .u64 x.t, .int .u64 x.d] 139)).ownsRow (w.heap.size + 1 + 1 + 1) 139 3 (.slice uo mm uc) mm (rowW (nthW (flt l x.i m)) mm) := by have := P3.own; unfold WsAt at this; rw [hmm] at this; exact this
        have hsz2 := (Array.getElem?_eq_some_iff.1 PQ.b3).1
        rw [hmm] at hfl P3 ⊢
        have HMM := Lib.hid hmm
        clear PQ hmm
        go_wp2_with (at_builtin; (refine wpList_append_own_at _ rfl _ _ 66 rfl (w.heap.size + 1 + 1 + 1) 139 i0 _ 3 24 Tryz.underlying66 hi0 hz0 hz1 hz2 rfl (by decide) _ _ _ rfl (by exact hO3) ⟨W2.heap.size, 0, none⟩ 1 1 (three x) rfl rfl HC.out HO.out (by unfold maxLen; omega) (by omega) (by simp; omega) ?_))
        intro u' w5 hown' hgrow _ _
        have R1 : WsAt w5 (w.heap.size + 1 + 1 + 1) u' (flt l x.i m ++ [x]) := by
          unfold WsAt
          rw [HE.out, List.length_append, HMM.out]; exact hown'
        have P6 := P3.grown hgrow R1
        obtain ⟨uo2, uc2, rfl⟩ := own_shape R1
        clear hown' hgrow hO3 HC HE HO P3 y0 y1 y2 R1
        generalize (flt l x.i m ++ [x]).length = LL at *
        have e2 := cell_row 2 P6.b1 rfl
        have e0 := cell_row 0 P6.b1 rfl
        have e1 := cell_row 1 P6.b1 rfl
        have r0 := cell_row 0 P6.b3 rfl
        have r1 := cell_row 1 P6.b3 rfl
        have r2 := cell_row 2 P6.b3 rfl
        have f1 : ∀ i, World.frozen? w5 ⟨w.heap.size, i, none⟩ = false := fun i => by simp [World.frozen?, P6.b1]
        have f3 : ∀ i, World.frozen? w5 ⟨w.heap.size + 1 + 1, i, none⟩ = false := fun i => by simp [World.frozen?, P6.b3]
        have hne : w.heap.size ≠ w.heap.size + 1 + 1 := by omega
        go_wp2
        obtain ⟨z1, z2, z3⟩ := P6.fin
        (try simp only [Exit.inBlock, Exit.then])
        refine bodyPost_ret (results_cell_row rfl _ _ _ _ _ (0, 0) _ rfl z1 Tryz.underlying68 (by kernel_rfl) (by kernel_rfl)) rfl ⟨_, rfl, ?_, z3⟩
        rw [hPut.out]; exact z2
end Go.Proofs.YtnbdoemnepfhdaaGreat.Ts

namespace Go.Proofs.YtnbdoemnepfhdaaGreat.Ts
open Fld
open Pt (idxI idx_bd)
open Go.ChangeShapes Go.WideShapes Go.ChangeAt Go.RowKit Go.Shelf
set_option maxRecDepth 100000
set_option maxHeartbeats 4000000
/-- A box of words under way. -/
structure RW (w : World) (b : Nat) (i : Nat) (t d : Int) : Prop where
  row : w.heap[b]? = some (.cells #[.int .i64 (i : Int), .int .u64 t, .int .u64 d] 139 (0, 0))
theorem RW.new0 (w : World) : RW (w.alloc (.cells #[.int .i64 0, .int .u64 0, .int .u64 0] 139)) w.heap.size 0 0 0 := ⟨World.alloc_heap_new _ _⟩
theorem RW.new (w : World) (i : Nat) (t d : Int) : RW (w.alloc (.cells #[.int .i64 (i : Int), .int .u64 t, .int .u64 d] 139)) w.heap.size i t d := ⟨World.alloc_heap_new _ _⟩
theorem RW.lt {w : World} {b i : Nat} {t d : Int} (h : RW w b i t d) : b < w.heap.size := (Array.getElem?_eq_some_iff.1 h.row).1
theorem RW.drew {w : World} {b i : Nat} {t d : Int} (h : RW w b i t d) : RW w.drew b i t d := ⟨h.row⟩
theorem RW.call {w w' : World} {b i : Nat} {t d : Int} (h : RW w b i t d) (hb : Below w.heap.size w w') : RW w' b i t d := ⟨(hb.block _ h.lt).trans h.row⟩
theorem RW.setAll {w : World} {b i j : Nat} {t d u e : Int} (h : RW w b i t d) : RW (((w.setCell ⟨b, 0, none⟩ (.int .i64 (j : Int))).setCell ⟨b, 1, none⟩ (.int .u64 u)).setCell ⟨b, 2, none⟩ (.int .u64 e)) b j u e := by
  refine ⟨?_⟩
  rw [Mem.heap_set (Mem.heap_set (Mem.heap_set h.row _) _) _]; rfl
theorem three_far {w : World} {g b : Nat} {x0 x1 x2 : Value} (h : b ≠ g) : (((w.setCell ⟨g, 0, none⟩ x0).setCell ⟨g, 1, none⟩ x1).setCell ⟨g, 2, none⟩ x2).heap[b]? = w.heap[b]? := by
  rw [Below.heap_setCell _ _ _ _ h, Below.heap_setCell _ _ _ _ h, Below.heap_setCell _ _ _ _ h]
/-- Boxes, and a list. -/
structure PV (w wr : World) (L : List Bx) (B : Nat) (v : Value) (l : List Wd) : Prop where
  bel : Below w.heap.size w wr
  rows : Rows w wr L
  ws : WsAt wr B v l
theorem PV.low {w wr w' : World} {L : List Bx} {B : Nat} {v : Value} {l : List Wd} (h : PV w wr L B v l) (hb : Below wr.heap.size wr w') : PV w w' L B v l := ⟨h.bel.trans (hb.mono h.bel.size), h.rows.low hb, ws_low h.ws hb⟩
theorem PV.drewN {w wr : World} {L : List Bx} {B : Nat} {v : Value} {l : List Wd} (h : PV w wr L B v l) (n : Nat) : PV w (wr.drewN n) L B v l := h.low (drewN_low wr n)
theorem PV.drew {w wr : World} {L : List Bx} {B : Nat} {v : Value} {l : List Wd} (h : PV w wr L B v l) : PV w wr.drew L B v l := h.drewN 1
theorem PV.alloc {w wr : World} {L : List Bx} {B : Nat} {v : Value} {l : List Wd} (h : PV w wr L B v l) (o : Obj) : PV w (wr.alloc o) L B v l := h.low ((Below.refl _ _).alloc (Nat.le_refl _) _)
theorem PV.setNew {w X wr : World} {L : List Bx} {B : Nat} {v : Value} {l : List Wd} {x0 x1 x2 : Value} (hX : PV w X L B v l) (h : PV w wr L B v l) : PV w (((wr.setCell ⟨X.heap.size, 0, none⟩ x0).setCell ⟨X.heap.size, 1, none⟩ x1).setCell ⟨X.heap.size, 2, none⟩ x2) L B v l := by
  have h0 := hX.bel.size
  refine ⟨((h.bel.setCell (p := ⟨X.heap.size, 0, none⟩) h0 _).setCell (p := ⟨X.heap.size, 1, none⟩) h0 _).setCell (p := ⟨X.heap.size, 2, none⟩) h0 _, fun q hq => ?_, ?_⟩
  · obtain ⟨a, b, c⟩ := h.rows q hq
    have := (Array.getElem?_eq_some_iff.1 (hX.rows q hq).1).1
    exact ⟨(three_far (by omega)).trans a, b, c⟩
  · refine ⟨h.ws.1, ?_⟩
    rcases h.ws.2 with hn | ⟨g, cap, cur, hv, h2, h3, rest⟩
    · exact .inl hn
    · rcases hX.ws.2 with ⟨hv0, _⟩ | ⟨g', cap', cur', hv', h2', h3', _⟩
      · rw [hv] at hv0; simp at hv0
      · rw [hv] at hv'
        simp only [Value.slice.injEq, Option.some.injEq, Addr.mk.injEq, and_true, true_and] at hv'
        obtain ⟨rfl, rfl⟩ := hv'
        have := (Array.getElem?_eq_some_iff.1 h3').1
        exact .inr ⟨g, cap, cur, hv, h2, (three_far (by omega)).trans h3, rest⟩
theorem PV.sc {w wr : World} {L : List Bx} {B : Nat} {v x y u : Value} {l : List Wd} {b : Nat} (h : PV w wr L B v l) (hm : (b, #[x, y, u], 68) ∈ L) : wr.cell? ⟨b, 0, none⟩ = some x ∧ wr.cell? ⟨b, 1, none⟩ = some y ∧ wr.cell? ⟨b, 2, none⟩ = some u := by
  have := (h.rows _ hm).1
  exact ⟨cell_row 0 this rfl, cell_row 1 this rfl, cell_row 2 this rfl⟩
theorem PV.fin {w wr : World} {p : Par} {v' : Value} {C : Nat} {l' : List Wd} (h : Below w.heap.size w wr) (hb : wr.heap[w.heap.size + 1]? = some (.cells #[.int .i64 0, .int .i64 0, .slice none 0 0] 68 (0, 0))) (hw : WsAt wr C v' l') (hC : w.heap.size + 1 < C) :
    (((wr.setCell ⟨w.heap.size + 1, 0, none⟩ (.int .i64 p.s)).setCell ⟨w.heap.size + 1, 1, none⟩ (.int .i64 (p.n : Int))).setCell ⟨w.heap.size + 1, 2, none⟩ v').heap[w.heap.size + 1]? = some (.cells #[.int .i64 p.s, .int .i64 (p.n : Int), v'] 68 (0, 0)) ∧
    WsAt (((wr.setCell ⟨w.heap.size + 1, 0, none⟩ (.int .i64 p.s)).setCell ⟨w.heap.size + 1, 1, none⟩ (.int .i64 (p.n : Int))).setCell ⟨w.heap.size + 1, 2, none⟩ v') w.heap.size v' l' ∧
    Below w.heap.size w (((wr.setCell ⟨w.heap.size + 1, 0, none⟩ (.int .i64 p.s)).setCell ⟨w.heap.size + 1, 1, none⟩ (.int .i64 (p.n : Int))).setCell ⟨w.heap.size + 1, 2, none⟩ v') := by
  have q1 := Mem.heap_set hb (o := 0) (.int .i64 p.s)
  have q2 := Mem.heap_set q1 (o := 1) (.int .i64 (p.n : Int))
  have q3 := Mem.heap_set q2 (o := 2) v'
  refine ⟨q3, ?_, ?_⟩
  · exact ws_base (ws_far (ws_far (ws_far hw hC _ _) hC _ _) hC _ _) (by omega)
  · exact (((h.setCell (p := ⟨w.heap.size + 1, 0, none⟩) (Nat.le_succ _) _).setCell (p := ⟨w.heap.size + 1, 1, none⟩) (Nat.le_succ _) _).setCell (p := ⟨w.heap.size + 1, 2, none⟩) (Nat.le_succ _) _)
/-! ### What they leave -/
def lokW (p : Par) (l : List Wd) (va : Int) : List Wd := putW l ⟨p.pl va, 9223372036854775807, (getW l (p.pl va)).d⟩
def datW (p : Par) (l : List Wd) (e : Ent) : List Wd := putW l ⟨p.pl e.va, (getW l (p.pl e.va)).t, e.dataW⟩
def tagW (p : Par) (l : List Wd) (e : Ent) : List Wd := putW l ⟨p.pl e.va, e.tagW, (getW l (p.pl e.va)).d⟩
def insW (p : Par) (l : List Wd) (e : Ent) : List Wd := tagW p (datW p (lokW p l e.va) e) e
theorem rlock_any {p : Par} (hp : p.Ok) (l : List Wd) (B : Nat) (v : Value) (va : Int) (v0 : 0 ≤ va) (v1 : va ≤ 18446744073709551615) (hl : l.length ≤ 100000) (w : World) (h : WsAt w B v l) (hB : B ≤ w.heap.size) :
    Calls Tryz.prog 57 #[.agg #[.int .i64 p.s, .int .i64 (p.n : Int), v], .int .u64 va] w fun e w' => ∃ v', e = .returned (.agg #[.int .i64 p.s, .int .i64 (p.n : Int), v']) ∧ WsAt w' w.heap.size v' (lokW p l va) ∧ Below w.heap.size w w' := by
  obtain ⟨ao, cap, rfl⟩ := own_shape h
  have z1 : Below w.heap.size w ((w.alloc (.cells #[.int .i64 p.s, .int .i64 (p.n : Int), .slice ao l.length cap] 68)).alloc (.cells #[.int .i64 0, .int .i64 0, .slice none 0 0] 68)) := ((Below.refl _ _).alloc (Nat.le_refl _) _).alloc (by simp) _
  have P1 : PV w ((w.alloc (.cells #[.int .i64 p.s, .int .i64 (p.n : Int), .slice ao l.length cap] 68)).alloc (.cells #[.int .i64 0, .int .i64 0, .slice none 0 0] 68)) [(w.heap.size, #[.int .i64 p.s, .int .i64 (p.n : Int), .slice ao l.length cap], 68), (w.heap.size + 1, #[.int .i64 0, .int .i64 0, .slice none 0 0], 68)] B (.slice ao l.length cap) l :=
    ⟨z1, (Rows.add (t := 68) (Rows.add (t := 68) (L := []) (fun q hq => absurd hq (by simp)) (alloc_new2 _ _ _) ⟨by decide, by decide⟩ (Nat.le_succ _)) (alloc_old (World.alloc_heap_new _ _) _) ⟨by decide, by decide⟩ (Nat.le_refl _)), ws_low h z1⟩
  have CP := Lib.hid (fun W => rplace_any hp ao l.length cap va v0 v1 W)
  have CG := Lib.hid (fun W (hW : WsAt W B (.slice ao l.length cap) l) => Ts.rget_any (p := p) l B _ (p.pl va) W hW)
  have CB := Lib.hid rbad_any
  have hpl := (hp.idx va).2
  have hnb := hp.n_bd
  have hLk := Lib.hid (show lokW p l va = putW l ⟨p.pl va, 9223372036854775807, (getW l (p.pl va)).d⟩ from rfl)
  have CPut := Lib.hid (fun (W : World) (d : Int) (hW : WsAt W B (.slice ao l.length cap) l) (hBW : B ≤ W.heap.size) => Ts.rput_any (p := p) l B _ ⟨p.pl va, 9223372036854775807, d⟩ hl W hW hBW)
  generalize getW l (p.pl va) = G at *
  generalize p.pl va = k at *
  obtain ⟨t0, t1, t2⟩ := P1.sc (List.mem_cons_self ..)
  have h0 := Lib.hid h
  clear h z1
  go_enter Tryz.func57, Tryz.ntmps57
  go_wp2_with fail
  generalize World.alloc (World.alloc w _) _ = W1 at *
  have hds : ∀ W : World, W.drew.heap.size = W.heap.size := fun _ => rfl
  go_cut [5] (fun a wx => ∃ c, a = .pointer (some ⟨c, 0, none⟩) ∧ w.heap.size ≤ c ∧ PV w wx [(w.heap.size, #[.int .i64 p.s, .int .i64 (p.n : Int), .slice ao l.length cap], 68), (w.heap.size + 1, #[.int .i64 0, .int .i64 0, .slice none 0 0], 68)] B (.slice ao l.length cap) l ∧ RW wx c k G.t G.d)
  case first =>
    go_region_held3 (fun w1 => w1.cell? ⟨w.heap.size, 0, none⟩ = some (.int .i64 p.s) ∧ w1.cell? ⟨w.heap.size, 1, none⟩ = some (.int .i64 (p.n : Int)) ∧ w1.cell? ⟨w.heap.size, 2, none⟩ = some (.slice ao l.length cap)) ((refine PV.sc (w := w) (b := w.heap.size) (L := [(w.heap.size, #[.int .i64 p.s, .int .i64 (p.n : Int), .slice ao l.length cap], 68), (w.heap.size + 1, #[.int .i64 0, .int .i64 0, .slice none 0 0], 68)]) (B := B) (v := .slice ao l.length cap) (l := l) ?_ (List.mem_cons_self ..); (repeat (first | (with_reducible assumption) | (with_reducible refine PV.drew ?_) | (with_reducible refine PV.drewN ?_ _) | (with_reducible refine PV.alloc ?_ _) | (with_reducible refine PV.setNew ?_ ?_) | (with_reducible refine PV.low ?_ (by assumption)))) ))
      (first | (go_at_call 89; (with_reducible refine (CP.out _).mono ?_); rintro r w' ⟨rfl, hb⟩; obtain ⟨hcc, hf, hs1, hs2⟩ := bfacts hb; (try have hv : W1.heap.size < w'.heap.size := by (have hsz := hb.size; (try simp only [hds] at hsz); (try simp only [World.size_alloc] at hsz); omega))) | (go_at_call 88; (refine (CG.out _ (PV.ws (w := w) (L := [(w.heap.size, #[.int .i64 p.s, .int .i64 (p.n : Int), .slice ao l.length cap], 68), (w.heap.size + 1, #[.int .i64 0, .int .i64 0, .slice none 0 0], 68)]) (by (repeat (first | (with_reducible assumption) | (with_reducible refine PV.drew ?_) | (with_reducible refine PV.drewN ?_ _) | (with_reducible refine PV.alloc ?_ _) | (with_reducible refine PV.setNew ?_ ?_) | (with_reducible refine PV.low ?_ (by assumption)))) ))).mono ?_); rintro r w' ⟨rfl, hb⟩; obtain ⟨hcc, hf, hs1, hs2⟩ := bfacts hb; (try have hv : W1.heap.size < w'.heap.size := by (have hsz := hb.size; (try simp only [hds] at hsz); (try simp only [World.size_alloc] at hsz); omega))))
    all_goals
      go_wp2_with fail
      go_meet
      refine ⟨_, rfl, ?_, ?_, ?_⟩
      · exact (PV.bel (L := [(w.heap.size, #[.int .i64 p.s, .int .i64 (p.n : Int), .slice ao l.length cap], 68), (w.heap.size + 1, #[.int .i64 0, .int .i64 0, .slice none 0 0], 68)]) (B := B) (v := .slice ao l.length cap) (l := l) (by (repeat (first | (with_reducible assumption) | (with_reducible refine PV.drew ?_) | (with_reducible refine PV.drewN ?_ _) | (with_reducible refine PV.alloc ?_ _) | (with_reducible refine PV.setNew ?_ ?_) | (with_reducible refine PV.low ?_ (by assumption)))) )).size
      · (repeat (first | (with_reducible assumption) | (with_reducible refine PV.drew ?_) | (with_reducible refine PV.drewN ?_ _) | (with_reducible refine PV.alloc ?_ _) | (with_reducible refine PV.setNew ?_ ?_) | (with_reducible refine PV.low ?_ (by assumption)))) 
      · (first | (with_reducible exact RW.new0 _) | (with_reducible exact RW.new _ _ _ _) | (refine RW.setAll (i := 0) (t := 0) (d := 0) ?_; (repeat (first | (with_reducible assumption) | (with_reducible refine RW.call ?_ (by assumption)) | (with_reducible refine RW.drew ?_) | exact RW.new0 _)))) 
  case rest =>
    obtain ⟨c, rfl, hcl, PP, hR⟩ := hcut
    clear P1 t0 t1 t2 CP CG
    have c0 := cell_row 0 hR.row rfl
    have c1 := cell_row 1 hR.row rfl
    have c2 := cell_row 2 hR.row rfl
    have fz : ∀ i, World.frozen? wc ⟨c, i, none⟩ = false := fun i => by simp [World.frozen?, hR.row]
    obtain ⟨t0, t1, t2⟩ := PP.sc (List.mem_cons_self ..)
    have b8 := (PP.rows _ (List.mem_cons_self ..)).1
    have b9 := (PP.rows _ (List.mem_cons_of_mem _ (List.mem_cons_self ..))).1
    have n8 : w.heap.size ≠ c := fun hh => by rw [hh] at b8; have := hR.row.symm.trans b8; simp at this
    have n9 : w.heap.size + 1 ≠ c := fun hh => by rw [hh] at b9; have := hR.row.symm.trans b9; simp at this
    have hlt := (Array.getElem?_eq_some_iff.1 b9).1
    have B9 := PP.bel.setCell (p := ⟨c, 1, none⟩) hcl (.int .u64 9223372036854775807)
    have W9 := ws_low h0.out B9
    have b9' := Lib.hid ((Below.heap_setCell wc ⟨c, 1, none⟩ (.int .u64 9223372036854775807) _ n9).trans b9)
    have hBs : B ≤ (wc.setCell ⟨c, 1, none⟩ (.int .u64 9223372036854775807)).heap.size := by have := B9.size; omega
    have hlt9 : w.heap.size + 1 < (wc.setCell ⟨c, 1, none⟩ (.int .u64 9223372036854775807)).heap.size := by simp; omega
    have CQ := Lib.hid (CPut.out _ G.d W9 hBs)
    clear W9 hBs CPut b8 b9
    go_wp2_with (first | (go_at_call 93; (with_reducible refine (CB.out _).mono ?_); rintro r w' ⟨rfl, rfl⟩) | (go_at_call 91; (with_reducible refine CQ.out.mono ?_); rintro r w' ⟨v', rfl, hw', hb'⟩; have q9 := (hb'.block _ hlt9).trans b9'.out; have r0 := cell_row 0 q9 rfl; have r1 := cell_row 1 q9 rfl; have r2 := cell_row 2 q9 rfl; have f9 : ∀ i, World.frozen? w' ⟨w.heap.size + 1, i, none⟩ = false := (fun i => by simp [World.frozen?, q9]); obtain ⟨ao', cap', rfl⟩ := own_shape hw'; obtain ⟨z1, z2, z3⟩ := PV.fin (p := p) (B9.trans (hb'.mono B9.size)) q9 hw' hlt9) | fail)
    (try simp only [Exit.inBlock, Exit.then])
    refine bodyPost_ret (results_cell_row rfl _ _ _ _ _ (0, 0) _ rfl z1 Tryz.underlying68 (by kernel_rfl) (by kernel_rfl)) rfl ⟨_, rfl, ?_, z3⟩
    rw [hLk.out]; exact z2
end Go.Proofs.YtnbdoemnepfhdaaGreat.Ts

namespace Go.Proofs.YtnbdoemnepfhdaaGreat.Ts
open Fld
open Pt (idxI idx_bd)
open Go.ChangeShapes Go.WideShapes Go.ChangeAt Go.RowKit Go.Shelf
set_option maxRecDepth 100000
set_option maxHeartbeats 4000000
theorem PV.finAt {w wr : World} {b : Nat} {p : Par} {v' : Value} {C : Nat} {l' : List Wd} (hl : w.heap.size ≤ b) (h : Below w.heap.size w wr) (hb : wr.heap[b]? = some (.cells #[.int .i64 0, .int .i64 0, .slice none 0 0] 68 (0, 0))) (hw : WsAt wr C v' l') (hC : b < C) :
    (((wr.setCell ⟨b, 0, none⟩ (.int .i64 p.s)).setCell ⟨b, 1, none⟩ (.int .i64 (p.n : Int))).setCell ⟨b, 2, none⟩ v').heap[b]? = some (.cells #[.int .i64 p.s, .int .i64 (p.n : Int), v'] 68 (0, 0)) ∧
    WsAt (((wr.setCell ⟨b, 0, none⟩ (.int .i64 p.s)).setCell ⟨b, 1, none⟩ (.int .i64 (p.n : Int))).setCell ⟨b, 2, none⟩ v') w.heap.size v' l' ∧
    Below w.heap.size w (((wr.setCell ⟨b, 0, none⟩ (.int .i64 p.s)).setCell ⟨b, 1, none⟩ (.int .i64 (p.n : Int))).setCell ⟨b, 2, none⟩ v') := by
  have q1 := Mem.heap_set hb (o := 0) (.int .i64 p.s)
  have q2 := Mem.heap_set q1 (o := 1) (.int .i64 (p.n : Int))
  have q3 := Mem.heap_set q2 (o := 2) v'
  refine ⟨q3, ?_, ?_⟩
  · exact ws_base (ws_far (ws_far (ws_far hw hC _ _) hC _ _) hC _ _) (by omega)
  · exact (((h.setCell (p := ⟨b, 0, none⟩) hl _).setCell (p := ⟨b, 1, none⟩) hl _).setCell (p := ⟨b, 2, none⟩) hl _)
theorem ok_T : okT 68 := ⟨by decide, by decide⟩
theorem ok_E : okT 30 := ⟨by decide, by decide⟩
/-- The boxes of a call with a list and an entry. -/
abbrev bxE (n : Nat) (p : Par) (v : Value) (e : Ent) : List Bx := [(n, #[.int .i64 p.s, .int .i64 (p.n : Int), v], 68), (n + 1, ecell e, 30), (n + 1 + 1, #[.int .i64 0, .int .i64 0, .slice none 0 0], 68)]
theorem bxE_new (w : World) (p : Par) (v : Value) (e : Ent) (W : World) (hW : W = ((w.alloc (.cells #[.int .i64 p.s, .int .i64 (p.n : Int), v] 68)).alloc (.cells (ecell e) 30)).alloc (.cells #[.int .i64 0, .int .i64 0, .slice none 0 0] 68)) :
    Below w.heap.size w W ∧ Rows w W (bxE w.heap.size p v e) := by
  subst hW
  have z1 : Below w.heap.size w (w.alloc (.cells #[.int .i64 p.s, .int .i64 (p.n : Int), v] 68)) := (Below.refl _ _).alloc (Nat.le_refl _) _
  have z2 := z1.alloc (by simp) (.cells (ecell e) 30)
  refine ⟨z2.alloc (by simp; omega) _, fun q hq => ?_⟩
  simp only [List.mem_cons, List.not_mem_nil, or_false] at hq
  rcases hq with rfl | rfl | rfl
  · exact ⟨alloc_old (alloc_old (World.alloc_heap_new _ _) _) _, ok_T, Nat.le_refl _⟩
  · exact ⟨alloc_old (alloc_new2 _ _ _) _, ok_E, Nat.le_succ _⟩
  · refine ⟨?_, ok_T, by show w.heap.size ≤ w.heap.size + 1 + 1; omega⟩
    have := World.alloc_heap_new ((w.alloc (.cells #[.int .i64 p.s, .int .i64 (p.n : Int), v] 68)).alloc (.cells (ecell e) 30)) (.cells #[.int .i64 0, .int .i64 0, .slice none 0 0] 68)
    rw [World.size_alloc, World.size_alloc] at this
    exact this
theorem PV.four {w wr : World} {L : List Bx} {B : Nat} {v x y u : Value} {l : List Wd} {b b' : Nat} {e : Ent} (h : PV w wr L B v l) (hm : (b, #[x, y, u], 68) ∈ L) (hn : (b', ecell e, 30) ∈ L) : wr.cell? ⟨b, 0, none⟩ = some x ∧ wr.cell? ⟨b, 1, none⟩ = some y ∧ wr.cell? ⟨b, 2, none⟩ = some u ∧ wr.cell? ⟨b', 2, none⟩ = some (.int .u64 e.va) := by
  obtain ⟨a, b, c⟩ := h.sc hm
  exact ⟨a, b, c, cell_row 2 (h.rows _ hn).1 rfl⟩
theorem rputData_any {p : Par} (hp : p.Ok) (l : List Wd) (B : Nat) (v : Value) (e : Ent) (he : e.Fit) (hu : EntU e) (hl : l.length ≤ 100000) (w : World) (h : WsAt w B v l) (hB : B ≤ w.heap.size) :
    Calls Tryz.prog 56 #[.agg #[.int .i64 p.s, .int .i64 (p.n : Int), v], .agg #[.int .i64 e.size, .int .i64 e.ctx, .int .u64 e.va, .int .u64 e.pa, .bool e.att.write, .bool e.att.priv, .bool e.att.exec, .bool e.att.lock, .bool e.att.global, .bool e.att.quiet, .bool e.valid]] w fun r w' => ∃ v', r = .returned (.agg #[.int .i64 p.s, .int .i64 (p.n : Int), v']) ∧ WsAt w' w.heap.size v' (datW p l e) ∧ Below w.heap.size w w' := by
  obtain ⟨ao, cap, rfl⟩ := own_shape h
  obtain ⟨W0, hW0⟩ : ∃ W0, W0 = ((w.alloc (.cells #[.int .i64 p.s, .int .i64 (p.n : Int), .slice ao l.length cap] 68)).alloc (.cells (ecell e) 30)).alloc (.cells #[.int .i64 0, .int .i64 0, .slice none 0 0] 68) := ⟨_, rfl⟩
  obtain ⟨z1, z2⟩ := bxE_new w p (.slice ao l.length cap) e _ hW0
  have P1 : PV w W0 (bxE w.heap.size p (.slice ao l.length cap) e) B (.slice ao l.length cap) l := ⟨z1, z2, ws_low h z1⟩
  have hW := Lib.hid hW0
  clear hW0 z1 z2
  have CP := Lib.hid (fun W => rplace_any hp ao l.length cap e.va hu.v0 hu.v1 W)
  have CG := Lib.hid (fun W (hW : WsAt W B (.slice ao l.length cap) l) => Ts.rget_any (p := p) l B _ (p.pl e.va) W hW)
  have CD := Lib.hid (fun W => rdata_any e he W)
  have hpl := (hp.idx e.va).2
  have hnb := hp.n_bd
  have hLk := Lib.hid (show datW p l e = putW l ⟨p.pl e.va, (getW l (p.pl e.va)).t, e.dataW⟩ from rfl)
  have CPut := Lib.hid (fun (W : World) (d : Int) (hW : WsAt W B (.slice ao l.length cap) l) (hBW : B ≤ W.heap.size) => Ts.rput_any (p := p) l B _ ⟨p.pl e.va, d, e.dataW⟩ hl W hW hBW)
  generalize getW l (p.pl e.va) = G at *
  generalize p.pl e.va = k at *
  obtain ⟨t0, t1, t2⟩ := P1.sc (List.mem_cons_self ..)
  have t5 : W0.cell? ⟨w.heap.size + 1, 2, none⟩ = some (.int .u64 e.va) := cell_row 2 (P1.rows _ (List.mem_cons_of_mem _ (List.mem_cons_self ..))).1 rfl
  have h0 := Lib.hid h
  clear h
  go_enter Tryz.func56, Tryz.ntmps56
  go_wp2_with fail
  generalize hX : World.alloc (World.alloc (World.alloc w _) _) _ = W1
  obtain rfl : W1 = W0 := hX.symm.trans hW.out.symm
  clear hX
  have hds : ∀ W : World, W.drew.heap.size = W.heap.size := fun _ => rfl
  go_cut [5] (fun a wx => ∃ c, a = .pointer (some ⟨c, 0, none⟩) ∧ w.heap.size ≤ c ∧ PV w wx (bxE w.heap.size p (.slice ao l.length cap) e) B (.slice ao l.length cap) l ∧ RW wx c k G.t G.d)
  case first =>
    go_region_held3 (fun w1 => w1.cell? ⟨w.heap.size, 0, none⟩ = some (.int .i64 p.s) ∧ w1.cell? ⟨w.heap.size, 1, none⟩ = some (.int .i64 (p.n : Int)) ∧ w1.cell? ⟨w.heap.size, 2, none⟩ = some (.slice ao l.length cap) ∧ w1.cell? ⟨w.heap.size + 1, 2, none⟩ = some (.int .u64 e.va)) ((refine PV.four (w := w) (L := bxE w.heap.size p (.slice ao l.length cap) e) (B := B) (v := .slice ao l.length cap) (l := l) ?_ (List.mem_cons_self ..) (List.mem_cons_of_mem _ (List.mem_cons_self ..)); (repeat (first | (with_reducible assumption) | (with_reducible refine PV.drew ?_) | (with_reducible refine PV.drewN ?_ _) | (with_reducible refine PV.alloc ?_ _) | (with_reducible refine PV.setNew ?_ ?_) | (with_reducible refine PV.low ?_ (by assumption)))) ))
      (first | (go_at_call 89; (with_reducible refine (CP.out _).mono ?_); rintro r w' ⟨rfl, hb⟩; obtain ⟨hcc, hf, hs1, hs2⟩ := bfacts hb; (try have hv : W0.heap.size < w'.heap.size := by (have hsz := hb.size; (try simp only [hds] at hsz); (try simp only [World.size_alloc] at hsz); omega))) | (go_at_call 88; (refine (CG.out _ (PV.ws (w := w) (L := bxE w.heap.size p (.slice ao l.length cap) e) (by (repeat (first | (with_reducible assumption) | (with_reducible refine PV.drew ?_) | (with_reducible refine PV.drewN ?_ _) | (with_reducible refine PV.alloc ?_ _) | (with_reducible refine PV.setNew ?_ ?_) | (with_reducible refine PV.low ?_ (by assumption)))) ))).mono ?_); rintro r w' ⟨rfl, hb⟩; obtain ⟨hcc, hf, hs1, hs2⟩ := bfacts hb; (try have hv : W0.heap.size < w'.heap.size := by (have hsz := hb.size; (try simp only [hds] at hsz); (try simp only [World.size_alloc] at hsz); omega))))
    all_goals
      go_wp2_with fail
      go_meet
      refine ⟨_, rfl, ?_, ?_, ?_⟩
      · exact (PV.bel (L := bxE w.heap.size p (.slice ao l.length cap) e) (B := B) (v := .slice ao l.length cap) (l := l) (by (repeat (first | (with_reducible assumption) | (with_reducible refine PV.drew ?_) | (with_reducible refine PV.drewN ?_ _) | (with_reducible refine PV.alloc ?_ _) | (with_reducible refine PV.setNew ?_ ?_) | (with_reducible refine PV.low ?_ (by assumption)))) )).size
      · (repeat (first | (with_reducible assumption) | (with_reducible refine PV.drew ?_) | (with_reducible refine PV.drewN ?_ _) | (with_reducible refine PV.alloc ?_ _) | (with_reducible refine PV.setNew ?_ ?_) | (with_reducible refine PV.low ?_ (by assumption)))) 
      · (first | (with_reducible exact RW.new0 _) | (with_reducible exact RW.new _ _ _ _) | (refine RW.setAll (i := 0) (t := 0) (d := 0) ?_; (repeat (first | (with_reducible assumption) | (with_reducible refine RW.call ?_ (by assumption)) | (with_reducible refine RW.drew ?_) | exact RW.new0 _)))) 
  case rest =>
    obtain ⟨c, rfl, hcl, PP, hR⟩ := hcut
    clear P1 t0 t1 t2 t5 CP CG
    have E := (PP.rows _ (List.mem_cons_of_mem _ (List.mem_cons_self ..))).1
    obtain ⟨d0, d1, d2, d3, d4, d5, d6, d7, d8, d9, d10⟩ := RowE.cells (⟨E⟩ : RowE wc (w.heap.size + 1) e)
    have n8 : w.heap.size ≠ c := fun hh => by have b8 := (PP.rows _ (List.mem_cons_self ..)).1; rw [hh] at b8; have := hR.row.symm.trans b8; simp at this
    have n9 : w.heap.size + 1 + 1 ≠ c := fun hh => by have b9 := (PP.rows _ (List.mem_cons_of_mem _ (List.mem_cons_of_mem _ (List.mem_cons_self ..)))).1; rw [hh] at b9; have := hR.row.symm.trans b9; simp at this
    clear E
    have hcs := hR.lt
    go_wp2_with (first | (go_at_call 92; (with_reducible refine (CD.out _).mono ?_); rintro r wd ⟨rfl, hbd⟩; have hR2 := RW.call hR hbd; have P2 := PV.low PP hbd; have x0 := cell_row 0 hR2.row rfl; have x1 := cell_row 1 hR2.row rfl; have x2 := cell_row 2 hR2.row rfl; have fz : ∀ i, World.frozen? wd ⟨c, i, none⟩ = false := (fun i => by simp [World.frozen?, hR2.row]); obtain ⟨y0, y1, y2⟩ := P2.sc (List.mem_cons_self ..); have b9 := (P2.rows _ (List.mem_cons_of_mem _ (List.mem_cons_of_mem _ (List.mem_cons_self ..)))).1; have B9 := P2.bel.setCell (p := ⟨c, 2, none⟩) hcl (.int .u64 e.dataW); have W9 := ws_low h0.out B9; have hlt := (Array.getElem?_eq_some_iff.1 b9).1; have b9' := Lib.hid ((Below.heap_setCell wd ⟨c, 2, none⟩ (.int .u64 e.dataW) _ n9).trans b9); have hlt9 : w.heap.size + 1 + 1 < (wd.setCell ⟨c, 2, none⟩ (.int .u64 e.dataW)).heap.size := (by simp; omega); have CQ := Lib.hid (CPut.out _ G.t W9 (by have := B9.size; omega))) | (go_at_call 91; (with_reducible refine CQ.out.mono ?_); rintro r w' ⟨v', rfl, hw', hb'⟩; have q9 := (hb'.block _ hlt9).trans b9'.out; have r0 := cell_row 0 q9 rfl; have r1 := cell_row 1 q9 rfl; have r2 := cell_row 2 q9 rfl; have f9 : ∀ i, World.frozen? w' ⟨w.heap.size + 1 + 1, i, none⟩ = false := (fun i => by simp [World.frozen?, q9]); obtain ⟨ao', cap', rfl⟩ := own_shape hw'; obtain ⟨z1, z2, z3⟩ := PV.finAt (p := p) (by omega) (B9.trans (hb'.mono B9.size)) q9 hw' hlt9) | fail)
    (try simp only [Exit.inBlock, Exit.then])
    refine bodyPost_ret (results_cell_row rfl _ _ _ _ _ (0, 0) _ rfl z1 Tryz.underlying68 (by kernel_rfl) (by kernel_rfl)) rfl ⟨_, rfl, ?_, z3⟩
    rw [hLk.out]; exact z2
theorem rputTag_any {p : Par} (hp : p.Ok) (l : List Wd) (B : Nat) (v : Value) (e : Ent) (he : e.Fit) (hu : EntU e) (hl : l.length ≤ 100000) (w : World) (h : WsAt w B v l) (hB : B ≤ w.heap.size) :
    Calls Tryz.prog 55 #[.agg #[.int .i64 p.s, .int .i64 (p.n : Int), v], .agg #[.int .i64 e.size, .int .i64 e.ctx, .int .u64 e.va, .int .u64 e.pa, .bool e.att.write, .bool e.att.priv, .bool e.att.exec, .bool e.att.lock, .bool e.att.global, .bool e.att.quiet, .bool e.valid]] w fun r w' => ∃ v', r = .returned (.agg #[.int .i64 p.s, .int .i64 (p.n : Int), v']) ∧ WsAt w' w.heap.size v' (tagW p l e) ∧ Below w.heap.size w w' := by
  obtain ⟨ao, cap, rfl⟩ := own_shape h
  obtain ⟨W0, hW0⟩ : ∃ W0, W0 = ((w.alloc (.cells #[.int .i64 p.s, .int .i64 (p.n : Int), .slice ao l.length cap] 68)).alloc (.cells (ecell e) 30)).alloc (.cells #[.int .i64 0, .int .i64 0, .slice none 0 0] 68) := ⟨_, rfl⟩
  obtain ⟨z1, z2⟩ := bxE_new w p (.slice ao l.length cap) e _ hW0
  have P1 : PV w W0 (bxE w.heap.size p (.slice ao l.length cap) e) B (.slice ao l.length cap) l := ⟨z1, z2, ws_low h z1⟩
  have hW := Lib.hid hW0
  clear hW0 z1 z2
  have CP := Lib.hid (fun W => rplace_any hp ao l.length cap e.va hu.v0 hu.v1 W)
  have CG := Lib.hid (fun W (hW : WsAt W B (.slice ao l.length cap) l) => Ts.rget_any (p := p) l B _ (p.pl e.va) W hW)
  have CD := Lib.hid (fun W => rtage_any e he hu.v0 hu.v1 W)
  have hpl := (hp.idx e.va).2
  have hnb := hp.n_bd
  have hLk := Lib.hid (show tagW p l e = putW l ⟨p.pl e.va, e.tagW, (getW l (p.pl e.va)).d⟩ from rfl)
  have CPut := Lib.hid (fun (W : World) (d : Int) (hW : WsAt W B (.slice ao l.length cap) l) (hBW : B ≤ W.heap.size) => Ts.rput_any (p := p) l B _ ⟨p.pl e.va, e.tagW, d⟩ hl W hW hBW)
  generalize getW l (p.pl e.va) = G at *
  generalize p.pl e.va = k at *
  obtain ⟨t0, t1, t2⟩ := P1.sc (List.mem_cons_self ..)
  have t5 : W0.cell? ⟨w.heap.size + 1, 2, none⟩ = some (.int .u64 e.va) := cell_row 2 (P1.rows _ (List.mem_cons_of_mem _ (List.mem_cons_self ..))).1 rfl
  have h0 := Lib.hid h
  clear h
  go_enter Tryz.func55, Tryz.ntmps55
  go_wp2_with fail
  generalize hX : World.alloc (World.alloc (World.alloc w _) _) _ = W1
  obtain rfl : W1 = W0 := hX.symm.trans hW.out.symm
  clear hX
  have hds : ∀ W : World, W.drew.heap.size = W.heap.size := fun _ => rfl
  go_cut [5] (fun a wx => ∃ c, a = .pointer (some ⟨c, 0, none⟩) ∧ w.heap.size ≤ c ∧ PV w wx (bxE w.heap.size p (.slice ao l.length cap) e) B (.slice ao l.length cap) l ∧ RW wx c k G.t G.d)
  case first =>
    go_region_held3 (fun w1 => w1.cell? ⟨w.heap.size, 0, none⟩ = some (.int .i64 p.s) ∧ w1.cell? ⟨w.heap.size, 1, none⟩ = some (.int .i64 (p.n : Int)) ∧ w1.cell? ⟨w.heap.size, 2, none⟩ = some (.slice ao l.length cap) ∧ w1.cell? ⟨w.heap.size + 1, 2, none⟩ = some (.int .u64 e.va)) ((refine PV.four (w := w) (L := bxE w.heap.size p (.slice ao l.length cap) e) (B := B) (v := .slice ao l.length cap) (l := l) ?_ (List.mem_cons_self ..) (List.mem_cons_of_mem _ (List.mem_cons_self ..)); (repeat (first | (with_reducible assumption) | (with_reducible refine PV.drew ?_) | (with_reducible refine PV.drewN ?_ _) | (with_reducible refine PV.alloc ?_ _) | (with_reducible refine PV.setNew ?_ ?_) | (with_reducible refine PV.low ?_ (by assumption)))) ))
      (first | (go_at_call 89; (with_reducible refine (CP.out _).mono ?_); rintro r w' ⟨rfl, hb⟩; obtain ⟨hcc, hf, hs1, hs2⟩ := bfacts hb; (try have hv : W0.heap.size < w'.heap.size := by (have hsz := hb.size; (try simp only [hds] at hsz); (try simp only [World.size_alloc] at hsz); omega))) | (go_at_call 88; (refine (CG.out _ (PV.ws (w := w) (L := bxE w.heap.size p (.slice ao l.length cap) e) (by (repeat (first | (with_reducible assumption) | (with_reducible refine PV.drew ?_) | (with_reducible refine PV.drewN ?_ _) | (with_reducible refine PV.alloc ?_ _) | (with_reducible refine PV.setNew ?_ ?_) | (with_reducible refine PV.low ?_ (by assumption)))) ))).mono ?_); rintro r w' ⟨rfl, hb⟩; obtain ⟨hcc, hf, hs1, hs2⟩ := bfacts hb; (try have hv : W0.heap.size < w'.heap.size := by (have hsz := hb.size; (try simp only [hds] at hsz); (try simp only [World.size_alloc] at hsz); omega))))
    all_goals
      go_wp2_with fail
      go_meet
      refine ⟨_, rfl, ?_, ?_, ?_⟩
      · exact (PV.bel (L := bxE w.heap.size p (.slice ao l.length cap) e) (B := B) (v := .slice ao l.length cap) (l := l) (by (repeat (first | (with_reducible assumption) | (with_reducible refine PV.drew ?_) | (with_reducible refine PV.drewN ?_ _) | (with_reducible refine PV.alloc ?_ _) | (with_reducible refine PV.setNew ?_ ?_) | (with_reducible refine PV.low ?_ (by assumption)))) )).size
      · (repeat (first | (with_reducible assumption) | (with_reducible refine PV.drew ?_) | (with_reducible refine PV.drewN ?_ _) | (with_reducible refine PV.alloc ?_ _) | (with_reducible refine PV.setNew ?_ ?_) | (with_reducible refine PV.low ?_ (by assumption)))) 
      · (first | (with_reducible exact RW.new0 _) | (with_reducible exact RW.new _ _ _ _) | (refine RW.setAll (i := 0) (t := 0) (d := 0) ?_; (repeat (first | (with_reducible assumption) | (with_reducible refine RW.call ?_ (by assumption)) | (with_reducible refine RW.drew ?_) | exact RW.new0 _)))) 
  case rest =>
    obtain ⟨c, rfl, hcl, PP, hR⟩ := hcut
    clear P1 t0 t1 t2 t5 CP CG
    have E := (PP.rows _ (List.mem_cons_of_mem _ (List.mem_cons_self ..))).1
    obtain ⟨d0, d1, d2, d3, d4, d5, d6, d7, d8, d9, d10⟩ := RowE.cells (⟨E⟩ : RowE wc (w.heap.size + 1) e)
    have n8 : w.heap.size ≠ c := fun hh => by have b8 := (PP.rows _ (List.mem_cons_self ..)).1; rw [hh] at b8; have := hR.row.symm.trans b8; simp at this
    have n9 : w.heap.size + 1 + 1 ≠ c := fun hh => by have b9 := (PP.rows _ (List.mem_cons_of_mem _ (List.mem_cons_of_mem _ (List.mem_cons_self ..)))).1; rw [hh] at b9; have := hR.row.symm.trans b9; simp at this
    clear E
    have hcs := hR.lt
    go_wp2_with (first | (go_at_call 90; (with_reducible refine (CD.out _).mono ?_); rintro r wd ⟨rfl, hbd⟩; have hR2 := RW.call hR hbd; have P2 := PV.low PP hbd; have x0 := cell_row 0 hR2.row rfl; have x1 := cell_row 1 hR2.row rfl; have x2 := cell_row 2 hR2.row rfl; have fz : ∀ i, World.frozen? wd ⟨c, i, none⟩ = false := (fun i => by simp [World.frozen?, hR2.row]); obtain ⟨y0, y1, y2⟩ := P2.sc (List.mem_cons_self ..); have b9 := (P2.rows _ (List.mem_cons_of_mem _ (List.mem_cons_of_mem _ (List.mem_cons_self ..)))).1; have B9 := P2.bel.setCell (p := ⟨c, 1, none⟩) hcl (.int .u64 e.tagW); have W9 := ws_low h0.out B9; have hlt := (Array.getElem?_eq_some_iff.1 b9).1; have b9' := Lib.hid ((Below.heap_setCell wd ⟨c, 1, none⟩ (.int .u64 e.tagW) _ n9).trans b9); have hlt9 : w.heap.size + 1 + 1 < (wd.setCell ⟨c, 1, none⟩ (.int .u64 e.tagW)).heap.size := (by simp; omega); have CQ := Lib.hid (CPut.out _ G.d W9 (by have := B9.size; omega))) | (go_at_call 91; (with_reducible refine CQ.out.mono ?_); rintro r w' ⟨v', rfl, hw', hb'⟩; have q9 := (hb'.block _ hlt9).trans b9'.out; have r0 := cell_row 0 q9 rfl; have r1 := cell_row 1 q9 rfl; have r2 := cell_row 2 q9 rfl; have f9 : ∀ i, World.frozen? w' ⟨w.heap.size + 1 + 1, i, none⟩ = false := (fun i => by simp [World.frozen?, q9]); obtain ⟨ao', cap', rfl⟩ := own_shape hw'; obtain ⟨z1, z2, z3⟩ := PV.finAt (p := p) (by omega) (B9.trans (hb'.mono B9.size)) q9 hw' hlt9) | fail)
    (try simp only [Exit.inBlock, Exit.then])
    refine bodyPost_ret (results_cell_row rfl _ _ _ _ _ (0, 0) _ rfl z1 Tryz.underlying68 (by kernel_rfl) (by kernel_rfl)) rfl ⟨_, rfl, ?_, z3⟩
    rw [hLk.out]; exact z2
end Go.Proofs.YtnbdoemnepfhdaaGreat.Ts

namespace Go.Proofs.YtnbdoemnepfhdaaGreat.Ts
open Fld
open Pt (idxI idx_bd)
open Go.ChangeShapes Go.WideShapes Go.ChangeAt Go.RowKit Go.Shelf
set_option maxRecDepth 100000
set_option maxHeartbeats 4000000
theorem lokW_le (p : Par) (l : List Wd) (va : Int) : (lokW p l va).length ≤ l.length + 1 := putW_le _ _
theorem datW_le (p : Par) (l : List Wd) (e : Ent) : (datW p l e).length ≤ l.length + 1 := putW_le _ _
/-- The boxes of a call with a list and an entry, and a list under way. -/
structure QV (w wr : World) (p : Par) (v0 : Value) (e : Ent) (v : Value) (l : List Wd) : Prop where
  pv : ∃ B, B ≤ wr.heap.size ∧ PV w wr (bxE w.heap.size p v0 e) B v l
theorem QV.low {w wr w' : World} {p : Par} {v0 v : Value} {e : Ent} {l : List Wd} (h : QV w wr p v0 e v l) (hb : Below wr.heap.size wr w') : QV w w' p v0 e v l := by
  obtain ⟨B, hB, P⟩ := h.pv
  exact ⟨B, Nat.le_trans hB hb.size, P.low hb⟩
theorem QV.drewN {w wr : World} {p : Par} {v0 v : Value} {e : Ent} {l : List Wd} (h : QV w wr p v0 e v l) (n : Nat) : QV w (wr.drewN n) p v0 e v l := h.low (drewN_low wr n)
theorem QV.drew {w wr : World} {p : Par} {v0 v : Value} {e : Ent} {l : List Wd} (h : QV w wr p v0 e v l) : QV w wr.drew p v0 e v l := h.drewN 1
theorem QV.alloc {w wr : World} {p : Par} {v0 v : Value} {e : Ent} {l : List Wd} (h : QV w wr p v0 e v l) (o : Obj) : QV w (wr.alloc o) p v0 e v l := h.low ((Below.refl _ _).alloc (Nat.le_refl _) _)
theorem QV.all {w wr : World} {p : Par} {v0 v : Value} {e : Ent} {l : List Wd} (h : QV w wr p v0 e v l) : wr.cell? ⟨w.heap.size, 0, none⟩ = some (.int .i64 p.s) ∧ wr.cell? ⟨w.heap.size, 1, none⟩ = some (.int .i64 (p.n : Int)) ∧ wr.cell? ⟨w.heap.size, 2, none⟩ = some v0 ∧ wr.cell? ⟨w.heap.size + 1, 0, none⟩ = some (.int .i64 e.size) ∧ wr.cell? ⟨w.heap.size + 1, 1, none⟩ = some (.int .i64 e.ctx) ∧ wr.cell? ⟨w.heap.size + 1, 2, none⟩ = some (.int .u64 e.va) ∧ wr.cell? ⟨w.heap.size + 1, 3, none⟩ = some (.int .u64 e.pa) ∧ wr.cell? ⟨w.heap.size + 1, 4, none⟩ = some (.bool e.att.write) ∧ wr.cell? ⟨w.heap.size + 1, 5, none⟩ = some (.bool e.att.priv) ∧ wr.cell? ⟨w.heap.size + 1, 6, none⟩ = some (.bool e.att.exec) ∧ wr.cell? ⟨w.heap.size + 1, 7, none⟩ = some (.bool e.att.lock) ∧ wr.cell? ⟨w.heap.size + 1, 8, none⟩ = some (.bool e.att.global) ∧ wr.cell? ⟨w.heap.size + 1, 9, none⟩ = some (.bool e.att.quiet) ∧ wr.cell? ⟨w.heap.size + 1, 10, none⟩ = some (.bool e.valid) := by
  obtain ⟨B, hB, P⟩ := h.pv
  obtain ⟨a, b, c⟩ := P.sc (List.mem_cons_self ..)
  exact ⟨a, b, c, RowE.cells ⟨(P.rows _ (List.mem_cons_of_mem _ (List.mem_cons_self ..))).1⟩⟩
structure QB (w wr : World) (p : Par) (v0 : Value) (e : Ent) : Prop where
  rows : Rows w wr [(w.heap.size, #[.int .i64 p.s, .int .i64 (p.n : Int), v0], 68), (w.heap.size + 1, ecell e, 30)]
theorem QB.drew {w wr : World} {p : Par} {v0 : Value} {e : Ent} (h : QB w wr p v0 e) : QB w wr.drew p v0 e := ⟨h.rows.low (drewN_low wr 1)⟩
theorem QB.set3 {w wr : World} {p : Par} {v0 : Value} {e : Ent} (h : QB w wr p v0 e) (x y z : Value) : QB w (((wr.setCell ⟨w.heap.size + 1 + 1, 0, none⟩ x).setCell ⟨w.heap.size + 1 + 1, 1, none⟩ y).setCell ⟨w.heap.size + 1 + 1, 2, none⟩ z) p v0 e := by
  refine ⟨fun q hq => ?_⟩
  obtain ⟨a, b, c⟩ := h.rows q hq
  refine ⟨(three_far ?_).trans a, b, c⟩
  simp only [List.mem_cons, List.not_mem_nil, or_false] at hq
  rcases hq with rfl | rfl
  · show w.heap.size ≠ _; omega
  · show w.heap.size + 1 ≠ _; omega
theorem QB.of {w wr : World} {p : Par} {v0 v : Value} {e : Ent} {l : List Wd} (h : QV w wr p v0 e v l) : QB w wr p v0 e := by
  obtain ⟨_, _, P⟩ := h.pv
  refine ⟨fun q hq => P.rows q ?_⟩
  simp only [List.mem_cons, List.not_mem_nil, or_false] at hq ⊢
  rcases hq with h | h
  · exact .inl h
  · exact .inr (.inl h)
theorem QB.all {w wr : World} {p : Par} {v0 : Value} {e : Ent} (h : QB w wr p v0 e) : wr.cell? ⟨w.heap.size, 0, none⟩ = some (.int .i64 p.s) ∧ wr.cell? ⟨w.heap.size, 1, none⟩ = some (.int .i64 (p.n : Int)) ∧ wr.cell? ⟨w.heap.size, 2, none⟩ = some v0 ∧ wr.cell? ⟨w.heap.size + 1, 0, none⟩ = some (.int .i64 e.size) ∧ wr.cell? ⟨w.heap.size + 1, 1, none⟩ = some (.int .i64 e.ctx) ∧ wr.cell? ⟨w.heap.size + 1, 2, none⟩ = some (.int .u64 e.va) ∧ wr.cell? ⟨w.heap.size + 1, 3, none⟩ = some (.int .u64 e.pa) ∧ wr.cell? ⟨w.heap.size + 1, 4, none⟩ = some (.bool e.att.write) ∧ wr.cell? ⟨w.heap.size + 1, 5, none⟩ = some (.bool e.att.priv) ∧ wr.cell? ⟨w.heap.size + 1, 6, none⟩ = some (.bool e.att.exec) ∧ wr.cell? ⟨w.heap.size + 1, 7, none⟩ = some (.bool e.att.lock) ∧ wr.cell? ⟨w.heap.size + 1, 8, none⟩ = some (.bool e.att.global) ∧ wr.cell? ⟨w.heap.size + 1, 9, none⟩ = some (.bool e.att.quiet) ∧ wr.cell? ⟨w.heap.size + 1, 10, none⟩ = some (.bool e.valid) := by
  have h1 := (h.rows _ (List.mem_cons_self ..)).1
  exact ⟨cell_row 0 h1 rfl, cell_row 1 h1 rfl, cell_row 2 h1 rfl, RowE.cells ⟨(h.rows _ (List.mem_cons_of_mem _ (List.mem_cons_self ..))).1⟩⟩
theorem qlock {w W : World} {p : Par} {v0 v : Value} {e : Ent} {l : List Wd} (h : QV w W p v0 e v l) (hp : p.Ok) (hu : EntU e) (hl : l.length ≤ 100000) :
    Calls Tryz.prog 57 #[.agg #[.int .i64 p.s, .int .i64 (p.n : Int), v], .int .u64 e.va] W fun r w' => ∃ v', r = .returned (.agg #[.int .i64 p.s, .int .i64 (p.n : Int), v']) ∧ QV w w' p v0 e v' (lokW p l e.va) := by
  obtain ⟨B, hB, P⟩ := h.pv
  refine (rlock_any hp l B v e.va hu.v0 hu.v1 hl W P.ws hB).mono ?_
  rintro r w' ⟨v', rfl, a, b⟩
  exact ⟨v', rfl, ⟨W.heap.size, b.size, (P.low b).bel, (P.low b).rows, a⟩⟩
theorem qdata {w W : World} {p : Par} {v0 v : Value} {e : Ent} {l : List Wd} (h : QV w W p v0 e v l) (hp : p.Ok) (he : e.Fit) (hu : EntU e) (hl : l.length ≤ 100000) :
    Calls Tryz.prog 56 #[.agg #[.int .i64 p.s, .int .i64 (p.n : Int), v], .agg #[.int .i64 e.size, .int .i64 e.ctx, .int .u64 e.va, .int .u64 e.pa, .bool e.att.write, .bool e.att.priv, .bool e.att.exec, .bool e.att.lock, .bool e.att.global, .bool e.att.quiet, .bool e.valid]] W fun r w' => ∃ v', r = .returned (.agg #[.int .i64 p.s, .int .i64 (p.n : Int), v']) ∧ QV w w' p v0 e v' (datW p l e) := by
  obtain ⟨B, hB, P⟩ := h.pv
  refine (rputData_any hp l B v e he hu hl W P.ws hB).mono ?_
  rintro r w' ⟨v', rfl, a, b⟩
  exact ⟨v', rfl, ⟨W.heap.size, b.size, (P.low b).bel, (P.low b).rows, a⟩⟩
theorem qtag {w W : World} {p : Par} {v0 v : Value} {e : Ent} {l : List Wd} (h : QV w W p v0 e v l) (hp : p.Ok) (he : e.Fit) (hu : EntU e) (hl : l.length ≤ 100000) :
    Calls Tryz.prog 55 #[.agg #[.int .i64 p.s, .int .i64 (p.n : Int), v], .agg #[.int .i64 e.size, .int .i64 e.ctx, .int .u64 e.va, .int .u64 e.pa, .bool e.att.write, .bool e.att.priv, .bool e.att.exec, .bool e.att.lock, .bool e.att.global, .bool e.att.quiet, .bool e.valid]] W fun r w' => ∃ v', r = .returned (.agg #[.int .i64 p.s, .int .i64 (p.n : Int), v']) ∧ QV w w' p v0 e v' (tagW p l e) ∧ ∃ C, w.heap.size + 1 + 1 < C ∧ WsAt w' C v' (tagW p l e) := by
  obtain ⟨B, hB, P⟩ := h.pv
  have hlt := (Array.getElem?_eq_some_iff.1 (P.rows _ (List.mem_cons_of_mem _ (List.mem_cons_of_mem _ (List.mem_cons_self ..)))).1).1
  refine (rputTag_any hp l B v e he hu hl W P.ws hB).mono ?_
  rintro r w' ⟨v', rfl, a, b⟩
  exact ⟨v', rfl, ⟨W.heap.size, b.size, (P.low b).bel, (P.low b).rows, a⟩, W.heap.size, hlt, a⟩
theorem rinsert_any {p : Par} (hp : p.Ok) (l : List Wd) (B : Nat) (v : Value) (e : Ent) (he : e.Fit) (hu : EntU e) (hl : l.length ≤ 99990) (w : World) (h : WsAt w B v l) (hB : B ≤ w.heap.size) :
    Calls Tryz.prog 27 #[.agg #[.int .i64 p.s, .int .i64 (p.n : Int), v], .agg #[.int .i64 e.size, .int .i64 e.ctx, .int .u64 e.va, .int .u64 e.pa, .bool e.att.write, .bool e.att.priv, .bool e.att.exec, .bool e.att.lock, .bool e.att.global, .bool e.att.quiet, .bool e.valid]] w fun r w' => ∃ v', r = .returned (.agg #[.int .i64 p.s, .int .i64 (p.n : Int), v']) ∧ WsAt w' w.heap.size v' (insW p l e) ∧ Below w.heap.size w w' := by
  obtain ⟨ao, cap, rfl⟩ := own_shape h
  obtain ⟨W0, hW0⟩ : ∃ W0, W0 = ((w.alloc (.cells #[.int .i64 p.s, .int .i64 (p.n : Int), .slice ao l.length cap] 68)).alloc (.cells (ecell e) 30)).alloc (.cells #[.int .i64 0, .int .i64 0, .slice none 0 0] 68) := ⟨_, rfl⟩
  obtain ⟨z1, z2⟩ := bxE_new w p (.slice ao l.length cap) e _ hW0
  have P1 : QV w W0 p (.slice ao l.length cap) e (.slice ao l.length cap) l := ⟨B, Nat.le_trans hB z1.size, z1, z2, ws_low h z1⟩
  have hW := Lib.hid hW0
  clear hW0 z1 z2 h
  have g1 := lokW_le p l e.va
  have g2 := datW_le p (lokW p l e.va) e
  have hIns := Lib.hid (show insW p l e = tagW p (datW p (lokW p l e.va) e) e from rfl)
  have CL := Lib.hid (fun (W : World) v (h : QV w W p (.slice ao l.length cap) e v l) => qlock h hp hu (by omega))
  have CD := Lib.hid (fun (W : World) v (h : QV w W p (.slice ao l.length cap) e v (lokW p l e.va)) => qdata h hp he hu (by omega))
  have CT := Lib.hid (fun (W : World) v (h : QV w W p (.slice ao l.length cap) e v (datW p (lokW p l e.va) e)) => qtag h hp he hu (by omega))
  obtain ⟨t0, t1, t2, d0, d1, d2, d3, d4, d5, d6, d7, d8, d9, d10⟩ := P1.all
  generalize tagW p (datW p (lokW p l e.va) e) e = L3 at *
  generalize datW p (lokW p l e.va) e = L2 at *
  generalize lokW p l e.va = L1 at *
  clear hl g1 g2
  go_enter Tryz.func27, Tryz.ntmps27
  go_wp2_with fail
  generalize hX : World.alloc (World.alloc (World.alloc w _) _) _ = W1
  obtain rfl : W1 = W0 := hX.symm.trans hW.out.symm
  clear hX hW
  have hne : w.heap.size ≠ w.heap.size + 1 + 1 := by omega
  have hne2 : w.heap.size + 1 ≠ w.heap.size + 1 + 1 := by omega
  go_region_held3 (fun w1 => w1.cell? ⟨w.heap.size, 0, none⟩ = some (.int .i64 p.s) ∧ w1.cell? ⟨w.heap.size, 1, none⟩ = some (.int .i64 (p.n : Int)) ∧ w1.cell? ⟨w.heap.size, 2, none⟩ = some (.slice ao l.length cap) ∧ w1.cell? ⟨w.heap.size + 1, 0, none⟩ = some (.int .i64 e.size) ∧ w1.cell? ⟨w.heap.size + 1, 1, none⟩ = some (.int .i64 e.ctx) ∧ w1.cell? ⟨w.heap.size + 1, 2, none⟩ = some (.int .u64 e.va) ∧ w1.cell? ⟨w.heap.size + 1, 3, none⟩ = some (.int .u64 e.pa) ∧ w1.cell? ⟨w.heap.size + 1, 4, none⟩ = some (.bool e.att.write) ∧ w1.cell? ⟨w.heap.size + 1, 5, none⟩ = some (.bool e.att.priv) ∧ w1.cell? ⟨w.heap.size + 1, 6, none⟩ = some (.bool e.att.exec) ∧ w1.cell? ⟨w.heap.size + 1, 7, none⟩ = some (.bool e.att.lock) ∧ w1.cell? ⟨w.heap.size + 1, 8, none⟩ = some (.bool e.att.global) ∧ w1.cell? ⟨w.heap.size + 1, 9, none⟩ = some (.bool e.att.quiet) ∧ w1.cell? ⟨w.heap.size + 1, 10, none⟩ = some (.bool e.valid)) ((refine QB.all (w := w) (v0 := .slice ao l.length cap) (e := e) ?_; (repeat (first | (exact QB.of (by assumption)) | (with_reducible refine QB.drew ?_) | (with_reducible refine QB.set3 ?_ _ _ _)))))
    (first | (go_at_call 57; (refine (CL.out _ _ (by (repeat (first | (with_reducible assumption) | (with_reducible refine QV.drew ?_) | (with_reducible refine QV.drewN ?_ _) | (with_reducible refine QV.alloc ?_ _) | (with_reducible refine QV.low ?_ (by assumption)))) )).mono ?_); rintro r w' ⟨v', rfl, hq⟩; obtain ⟨x0, x1, x2, y0, y1, y2, y3, y4, y5, y6, y7, y8, y9, y10⟩ := hq.all) | (go_at_call 56; (refine (CD.out _ _ (by (repeat (first | (with_reducible assumption) | (with_reducible refine QV.drew ?_) | (with_reducible refine QV.drewN ?_ _) | (with_reducible refine QV.alloc ?_ _) | (with_reducible refine QV.low ?_ (by assumption)))) )).mono ?_); rintro r w' ⟨v', rfl, hq⟩; obtain ⟨x0, x1, x2, y0, y1, y2, y3, y4, y5, y6, y7, y8, y9, y10⟩ := hq.all) | (go_at_call 55; (refine (CT.out _ _ (by (repeat (first | (with_reducible assumption) | (with_reducible refine QV.drew ?_) | (with_reducible refine QV.drewN ?_ _) | (with_reducible refine QV.alloc ?_ _) | (with_reducible refine QV.low ?_ (by assumption)))) )).mono ?_); rintro r w' ⟨v', rfl, hq, C, hC, hws⟩; obtain ⟨x0, x1, x2, y0, y1, y2, y3, y4, y5, y6, y7, y8, y9, y10⟩ := hq.all; obtain ⟨B', hB', PP⟩ := hq.pv; obtain ⟨ao', cap', rfl⟩ := own_shape hws; have q9 := (PP.rows _ (List.mem_cons_of_mem _ (List.mem_cons_of_mem _ (List.mem_cons_self ..)))).1; have r0 := cell_row 0 q9 rfl; have r1 := cell_row 1 q9 rfl; have r2 := cell_row 2 q9 rfl; have f9 : ∀ i, World.frozen? w' ⟨w.heap.size + 1 + 1, i, none⟩ = false := (fun i => by simp [World.frozen?, q9]); obtain ⟨z1, z2, z3⟩ := PV.finAt (p := p) (by omega) PP.bel q9 hws hC))
  all_goals
    go_wp2_with fail
    (try simp only [Exit.inBlock, Exit.then])
    refine bodyPost_ret (results_cell_row rfl _ _ _ _ _ (0, 0) _ rfl z1 Tryz.underlying68 (by kernel_rfl) (by kernel_rfl)) rfl ⟨_, rfl, ?_, z3⟩
    rw [hIns.out]; exact z2
end Go.Proofs.YtnbdoemnepfhdaaGreat.Ts

namespace Go.Proofs.YtnbdoemnepfhdaaGreat.Ts
open Fld
open Pt (idxI idx_bd)
open Tl (nthE ListAt DocAt)
open Go.ChangeShapes Go.WideShapes Go.ChangeAt Go.RowKit Go.Shelf
set_option maxRecDepth 100000
set_option maxHeartbeats 2000000
theorem t_w : 68 ≠ 139 := by decide
theorem ws_put {w : World} {C b : Nat} {v : Value} {l : List Wd} {c : Array Value} {t : TypeId} (h : WsAt w C v l) (hb : w.heap[b]? = some (.cells c t (0, 0))) (ht : t ≠ 139) (o : Nat) (u : Value) : WsAt (w.setCell ⟨b, o, none⟩ u) C v l :=
  ws_same h fun g cur _ hg => Below.heap_setCell _ _ _ _ (by
    show g ≠ b
    rintro rfl
    rw [hb] at hg
    simp only [Option.some.injEq, Obj.cells.injEq] at hg
    exact ht hg.2.1)
theorem ws_setNew {X wr : World} {C : Nat} {v : Value} {l : List Wd} {x0 x1 x2 x3 x4 x5 x6 x7 x8 x9 x10 : Value} (hX : WsAt X C v l) (h : WsAt wr C v l) :
    WsAt (((((((((((wr.setCell ⟨X.heap.size, 0, none⟩ x0).setCell ⟨X.heap.size, 1, none⟩ x1).setCell ⟨X.heap.size, 2, none⟩ x2).setCell ⟨X.heap.size, 3, none⟩ x3).setCell ⟨X.heap.size, 4, none⟩ x4).setCell ⟨X.heap.size, 5, none⟩ x5).setCell ⟨X.heap.size, 6, none⟩ x6).setCell ⟨X.heap.size, 7, none⟩ x7).setCell ⟨X.heap.size, 8, none⟩ x8).setCell ⟨X.heap.size, 9, none⟩ x9).setCell ⟨X.heap.size, 10, none⟩ x10) C v l := by
  refine ⟨h.1, ?_⟩
  rcases h.2 with hn | ⟨g, cap, cur, hv, h2, h3, rest⟩
  · exact .inl hn
  · rcases hX.2 with ⟨hv0, _⟩ | ⟨g', cap', cur', hv', h2', h3', _⟩
    · rw [hv] at hv0; simp at hv0
    · rw [hv] at hv'
      simp only [Value.slice.injEq, Option.some.injEq, Addr.mk.injEq, and_true, true_and] at hv'
      obtain ⟨rfl, rfl⟩ := hv'
      have := (Array.getElem?_eq_some_iff.1 h3').1
      exact .inr ⟨g, cap, cur, hv, h2, (row_far (by omega)).trans h3, rest⟩
theorem PL.put {W wr : World} {st sb bm C b : Nat} {p : Par} {T : Nat → Pl} {c : Array Value} {t : TypeId} {L : List Bx} {v : Value} {l : List Ent} (h : PL W wr st sb bm p T ((b, c, t) :: L) C v l) (ht : t ≠ 30) (hne : ∀ q ∈ L, q.1 ≠ b) (o : Nat) (u : Value) : PL W (wr.setCell ⟨b, o, none⟩ u) st sb bm p T ((b, c.setIfInBounds o u, t) :: L) C v l := by
  obtain ⟨x, y, z⟩ := h.rows (b, c, t) (List.mem_cons_self ..)
  obtain ⟨n1, n2, n3⟩ := h.tsb.ne_row x y
  refine ⟨h.f1, h.f2, h.f3, h.bel.setCell (p := ⟨b, o, none⟩) z u, h.tsb.same (Below.heap_setCell _ _ _ _ (Ne.symm n1)) (Below.heap_setCell _ _ _ _ (Ne.symm n2)) (Below.heap_setCell _ _ _ _ (Ne.symm n3)), h.rows.put hne o u, list_same h.own fun g cur _ hg => Below.heap_setCell _ _ _ _ (by
    show g ≠ b
    rintro rfl
    rw [show wr.heap[g]? = some (.cells c t (0, 0)) from x] at hg
    simp only [Option.some.injEq, Obj.cells.injEq] at hg
    exact ht hg.2.1), h.base⟩
theorem ws_put3 {W wr : World} {st sb bm C b D : Nat} {p : Par} {T : Nat → Pl} {x y u x' y' u' : Value} {L : List Bx} {v : Value} {l : List Ent} {rv : Value} {ws : List Wd} (h : PL W wr st sb bm p T ((b, #[x, y, u], 68) :: L) C v l) (hw : WsAt wr D rv ws) : WsAt (((wr.setCell ⟨b, 0, none⟩ x').setCell ⟨b, 1, none⟩ y').setCell ⟨b, 2, none⟩ u') D rv ws := by
  have r0 := (h.rows _ (List.mem_cons_self ..)).1
  have r1 := Mem.heap_set r0 (o := 0) x'
  have r2 := Mem.heap_set r1 (o := 1) y'
  exact ws_put (ws_put (ws_put hw r0 t_w _ _) r1 t_w _ _) r2 t_w _ _
/-- What is carried, what came in, and the document's list. -/
structure DI (w W wr : World) (st sb bm : Nat) (p : Par) (T : Nat → Pl) (L : List Bx) (C : Nat) (v : Value) (l : List Ent) (ib o : Nat) (x : Ent) (D : Nat) (rv : Value) (ws : List Wd) : Prop where
  pi : PI w W wr st sb bm p T L C v l ib o x
  ws : WsAt wr D rv ws
theorem DI.low {w W wr w' : World} {st sb bm C ib o D : Nat} {p : Par} {T : Nat → Pl} {L : List Bx} {v rv : Value} {l : List Ent} {x : Ent} {ws : List Wd} (h : DI w W wr st sb bm p T L C v l ib o x D rv ws) (hb : Below wr.heap.size wr w') : DI w W w' st sb bm p T L C v l ib o x D rv ws := ⟨h.pi.low hb, ws_low h.ws hb⟩
theorem DI.drewN {w W wr : World} {st sb bm C ib o D : Nat} {p : Par} {T : Nat → Pl} {L : List Bx} {v rv : Value} {l : List Ent} {x : Ent} {ws : List Wd} (h : DI w W wr st sb bm p T L C v l ib o x D rv ws) (n : Nat) : DI w W (wr.drewN n) st sb bm p T L C v l ib o x D rv ws := h.low (drewN_low wr n)
theorem DI.drew {w W wr : World} {st sb bm C ib o D : Nat} {p : Par} {T : Nat → Pl} {L : List Bx} {v rv : Value} {l : List Ent} {x : Ent} {ws : List Wd} (h : DI w W wr st sb bm p T L C v l ib o x D rv ws) : DI w W wr.drew st sb bm p T L C v l ib o x D rv ws := h.drewN 1
theorem DI.alloc {w W wr : World} {st sb bm C ib o D : Nat} {p : Par} {T : Nat → Pl} {L : List Bx} {v rv : Value} {l : List Ent} {x : Ent} {ws : List Wd} (h : DI w W wr st sb bm p T L C v l ib o x D rv ws) (ob : Obj) : DI w W (wr.alloc ob) st sb bm p T L C v l ib o x D rv ws := h.low ((Below.refl _ _).alloc (Nat.le_refl _) _)
theorem DI.setNew {w W X wr : World} {st sb bm C ib o D : Nat} {p : Par} {T : Nat → Pl} {L : List Bx} {v rv : Value} {l : List Ent} {x : Ent} {ws : List Wd} {x0 x1 x2 x3 x4 x5 x6 x7 x8 x9 x10 : Value} (hX : DI w W X st sb bm p T L C v l ib o x D rv ws) (h : DI w W wr st sb bm p T L C v l ib o x D rv ws) :
    DI w W (((((((((((wr.setCell ⟨X.heap.size, 0, none⟩ x0).setCell ⟨X.heap.size, 1, none⟩ x1).setCell ⟨X.heap.size, 2, none⟩ x2).setCell ⟨X.heap.size, 3, none⟩ x3).setCell ⟨X.heap.size, 4, none⟩ x4).setCell ⟨X.heap.size, 5, none⟩ x5).setCell ⟨X.heap.size, 6, none⟩ x6).setCell ⟨X.heap.size, 7, none⟩ x7).setCell ⟨X.heap.size, 8, none⟩ x8).setCell ⟨X.heap.size, 9, none⟩ x9).setCell ⟨X.heap.size, 10, none⟩ x10) st sb bm p T L C v l ib o x D rv ws :=
  ⟨PI.setNew hX.pi h.pi, ws_setNew hX.ws h.ws⟩
theorem DI.sc {w W wr : World} {st sb bm C ib o tb D : Nat} {p : Par} {T : Nat → Pl} {v u n rv : Value} {s : Int} {l : List Ent} {x : Ent} {ws : List Wd} (h : DI w W wr st sb bm p T [(tb, #[.int .i64 s, n, u], 68)] C v l ib o x D rv ws) : (wr.cell? ⟨ib, o, none⟩ = some (.int .i64 x.size) ∧ wr.cell? ⟨ib, o + 1, none⟩ = some (.int .i64 x.ctx) ∧ wr.cell? ⟨ib, o + 2, none⟩ = some (.int .u64 x.va) ∧ wr.cell? ⟨ib, o + 3, none⟩ = some (.int .u64 x.pa) ∧ wr.cell? ⟨ib, o + 4, none⟩ = some (.bool x.att.write) ∧ wr.cell? ⟨ib, o + 5, none⟩ = some (.bool x.att.priv) ∧ wr.cell? ⟨ib, o + 6, none⟩ = some (.bool x.att.exec) ∧ wr.cell? ⟨ib, o + 7, none⟩ = some (.bool x.att.lock) ∧ wr.cell? ⟨ib, o + 8, none⟩ = some (.bool x.att.global) ∧ wr.cell? ⟨ib, o + 9, none⟩ = some (.bool x.att.quiet) ∧ wr.cell? ⟨ib, o + 10, none⟩ = some (.bool x.valid)) ∧ wr.cell? ⟨tb, 0, none⟩ = some (.int .i64 s) := h.pi.sc
/-! ### Turns of the TSB with an own list of entries -/
end Go.Proofs.YtnbdoemnepfhdaaGreat.Ts

namespace Go.Proofs.YtnbdoemnepfhdaaGreat.Ts
open Fld
open Pt (idxI idx_bd)
open Tl (nthE)
theorem find_ext {l : List Wd} {f g : Wd → Bool} (h : ∀ x ∈ l, f x = g x) : l.find? f = l.find? g := by
  induction l with
  | nil => rfl
  | cons y l ih =>
    rw [List.find?_cons, List.find?_cons, h y (List.mem_cons_self ..), ih fun x hx => h x (List.mem_cons_of_mem _ hx)]
theorem get_put (l : List Wd) (x : Wd) (j : Nat) : getW (putW l x) j = if j = x.i then ⟨x.t, x.d⟩ else getW l j := by
  unfold getW putW
  rw [List.find?_append, List.find?_filter]
  by_cases hj : j = x.i
  · subst hj
    rw [if_pos rfl]
    have : l.find? (fun a => decide ((a.i != x.i) = true ∧ (a.i == x.i) = true)) = none := by
      rw [List.find?_eq_none]
      intro y _
      by_cases h : y.i = x.i <;> simp [h]
    rw [this]
    by_cases hx : x.t = 9223372036854775807 ∧ x.d = 0
    · rw [if_pos hx]
      simp only [List.find?_nil, Option.or_none]
      unfold Pl.none; rw [hx.1, hx.2]
    · rw [if_neg hx]
      simp
  · rw [if_neg hj]
    have e : l.find? (fun a => decide ((a.i != x.i) = true ∧ (a.i == j) = true)) = l.find? (fun a => a.i == j) := find_ext fun y _ => by
      by_cases h : y.i = j
      · simp [h, hj]
      · simp [h]
    rw [e]
    have n : (if x.t = 9223372036854775807 ∧ x.d = 0 then [] else [x]).find? (fun a => a.i == j) = none := by
      rw [List.find?_eq_none]
      intro y hy
      split at hy
      · simp at hy
      · rw [List.mem_singleton.1 hy]; simp; exact fun h => hj h.symm
    rw [n, Option.or_none]
/-- The document's list tells what the places hold, each place at most once. -/
structure Tie (p : Par) (l : List Wd) (T : Nat → Pl) : Prop where
  tells : ∀ i, i < p.n → getW l i = T i
  one : (l.map (·.i)).Nodup
  lt : ∀ x ∈ l, x.i < p.n
  no : ∀ x ∈ l, ¬ (x.t = 9223372036854775807 ∧ x.d = 0)
theorem tie_nil (p : Par) : Tie p [] (fun _ => Pl.none) := ⟨fun _ _ => rfl, by simp, fun _ h => absurd h (by simp), fun _ h => absurd h (by simp)⟩
theorem tie_put {p : Par} {l : List Wd} {T : Nat → Pl} (h : Tie p l T) {x : Wd} (hx : x.i < p.n) : Tie p (putW l x) (setP T x.i ⟨x.t, x.d⟩) := by
  refine ⟨fun i hi => ?_, ?_, fun y hy => ?_, fun y hy => ?_⟩
  · rw [get_put]
    unfold setP
    by_cases e : i = x.i
    · rw [if_pos e, if_pos e]
    · rw [if_neg e, if_neg e, h.tells i hi]
  · unfold putW
    rw [List.map_append, List.nodup_append]
    refine ⟨h.one.sublist (List.Sublist.map _ List.filter_sublist), ?_, ?_⟩
    · split <;> simp
    · intro a ha b hb hab
      subst hab
      obtain ⟨y, hy, rfl⟩ := List.mem_map.1 ha
      have h1 := (List.mem_filter.1 hy).2
      obtain ⟨z, hz, hzi⟩ := List.mem_map.1 hb
      split at hz
      · simp at hz
      · rw [List.mem_singleton.1 hz] at hzi
        rw [hzi] at h1; simp at h1
  · unfold putW at hy
    rcases List.mem_append.1 hy with hy | hy
    · exact h.lt y (List.mem_filter.1 hy).1
    · split at hy
      · simp at hy
      · rw [List.mem_singleton.1 hy]; exact hx
  · unfold putW at hy
    rcases List.mem_append.1 hy with hy | hy
    · exact h.no y (List.mem_filter.1 hy).1
    · split at hy
      · simp at hy
      · rename_i hn
        rw [List.mem_singleton.1 hy]; exact hn
theorem tie_lok {p : Par} (hp : p.Ok) {l : List Wd} {T : Nat → Pl} (h : Tie p l T) (va : Int) : Tie p (lokW p l va) (lokT p T va) := by
  have hi := (hp.idx va).2
  have := tie_put h (x := ⟨p.pl va, 9223372036854775807, (getW l (p.pl va)).d⟩) hi
  unfold lokW lokT
  rw [h.tells _ hi] at this ⊢
  exact this
theorem tie_dat {p : Par} (hp : p.Ok) {l : List Wd} {T : Nat → Pl} (h : Tie p l T) {e : Ent} (hm : mayT p e = true) : Tie p (datW p l e) (datT p T e) := by
  have hi := (hp.idx e.va).2
  have := tie_put h (x := ⟨p.pl e.va, (getW l (p.pl e.va)).t, e.dataW⟩) hi
  unfold datW datT
  rw [if_pos hm]
  rw [h.tells _ hi] at this ⊢
  exact this
theorem tie_tag {p : Par} (hp : p.Ok) {l : List Wd} {T : Nat → Pl} (h : Tie p l T) {e : Ent} (hm : mayT p e = true) : Tie p (tagW p l e) (tagT p T e) := by
  have hi := (hp.idx e.va).2
  have := tie_put h (x := ⟨p.pl e.va, e.tagW, (getW l (p.pl e.va)).d⟩) hi
  unfold tagW tagT
  rw [if_pos hm]
  rw [h.tells _ hi] at this ⊢
  exact this
theorem tie_ins {p : Par} (hp : p.Ok) {l : List Wd} {T : Nat → Pl} (h : Tie p l T) {e : Ent} (hm : mayT p e = true) : Tie p (insW p l e) (insT p T e) := by
  have := tie_tag hp (tie_dat hp (tie_lok hp h e.va) hm) hm
  rw [ins_row p T e hm] at this
  exact this
/-- Places are few: so is the list. -/
theorem tie_len {p : Par} {l : List Wd} {T : Nat → Pl} (h : Tie p l T) : l.length ≤ p.n := by
  have := Mem.nodup_le p.n (l.map (·.i)) h.one (fun x hx => by
    obtain ⟨y, hy, rfl⟩ := List.mem_map.1 hx
    exact h.lt y hy)
  simpa using this
end Go.Proofs.YtnbdoemnepfhdaaGreat.Ts

namespace Go.Proofs.YtnbdoemnepfhdaaGreat.Ts
open Fld
open Pt (idxI idx_bd)
open Tl (nthE)
theorem pages_least {s : Int} (h : sizeB s = true) : 4194304 / bytesI s = leastI s := by
  rcases sizeB_true h with rfl | rfl | rfl | rfl <;> rfl
def owB (p : Par) (x : Pl) (i : Nat) : Bool := p.pl (adrI p.s i x.t) == i && rdB p.s x (adrI p.s i x.t)
def owE (p : Par) (x : Pl) (i : Nat) : Ent := if owB p x i then rdE p.s x (adrI p.s i x.t) else Ent.zero
theorem ow_own (p : Par) (T : Nat → Pl) (i : Nat) : ownB p T i = owB p (T i) i := rfl
theorem ow_hit {p : Par} {T : Nat → Pl} {i : Nat} (h : ownB p T i = true) : owE p (T i) i = ownE p T i := by
  unfold owE; rw [← ow_own, if_pos h]; rfl
theorem lst_fine {p : Par} (hp : p.Ok) {T : Nat → Pl} (h : Gd p T) : Fine p (lstP p T p.n) := fun e he => by
  obtain ⟨a, b, _⟩ := lst_good hp h p.n e he
  exact ⟨a, b⟩
end Go.Proofs.YtnbdoemnepfhdaaGreat.Ts

namespace Go.Proofs.YtnbdoemnepfhdaaGreat.Ts
open Fld
open Pt (idxI idx_bd)
open Tl (res_ent ret_entB)
open Go.ChangeShapes Go.WideShapes Go.ChangeAt Go.RowKit Go.Shelf
set_option maxRecDepth 100000
set_option maxHeartbeats 4000000
abbrev tcell (p : Par) (v : Value) : Array Value := #[.int .i64 p.s, .int .i64 (p.n : Int), v]
/-- The boxes of a list and of an entry that is answered. -/
abbrev bxZ (b : Nat) (p : Par) (v : Value) : List Bx := [(b, tcell p v, 68), bx (b + 1) Ent.zero]
theorem bxZ_new (w : World) (p : Par) (v : Value) {B : Nat} {l : List Wd} (h : WsAt w B v l) :
    PV w ((w.alloc (.cells #[.int .i64 p.s, .int .i64 (p.n : Int), v] 68)).alloc (.cells #[.int .i64 0, .int .i64 0, .int .u64 0, .int .u64 0, .bool false, .bool false, .bool false, .bool false, .bool false, .bool false, .bool false] 30)) (bxZ w.heap.size p v) B v l := by
  have z1 : Below w.heap.size w ((w.alloc (.cells #[.int .i64 p.s, .int .i64 (p.n : Int), v] 68)).alloc (.cells #[.int .i64 0, .int .i64 0, .int .u64 0, .int .u64 0, .bool false, .bool false, .bool false, .bool false, .bool false, .bool false, .bool false] 30)) := ((Below.refl _ _).alloc (Nat.le_refl _) _).alloc (by simp) _
  exact ⟨z1, Rows.add (t := 68) (Rows.add (t := 30) (c := ecell Ent.zero) (L := []) (fun q hq => absurd hq (by simp)) (alloc_new2 _ _ _) ⟨by decide, by decide⟩ (Nat.le_succ _)) (alloc_old (World.alloc_heap_new _ _) _) ⟨by decide, by decide⟩ (Nat.le_refl _), ws_low h z1⟩
theorem PV.res {w wr : World} {b B : Nat} {p : Par} {v u : Value} {l : List Wd} (h : PV w wr (bxZ b p u) B v l) : RowE wr (b + 1) Ent.zero := ⟨(h.rows _ (List.mem_cons_of_mem _ (List.mem_cons_self ..))).1⟩
theorem PV.box {w wr : World} {b B : Nat} {p : Par} {v u : Value} {l : List Wd} (h : PV w wr (bxZ b p u) B v l) : wr.cell? ⟨b, 0, none⟩ = some (.int .i64 p.s) ∧ wr.cell? ⟨b, 1, none⟩ = some (.int .i64 (p.n : Int)) ∧ wr.cell? ⟨b, 2, none⟩ = some u := h.sc (List.mem_cons_self ..)
theorem below_eleven {w wr : World} {b : Nat} (hb : w.heap.size ≤ b) (h : Below w.heap.size w wr) (x0 x1 x2 x3 x4 x5 x6 x7 x8 x9 x10 : Value) :
    Below w.heap.size w (((((((((((wr.setCell ⟨b, 0, none⟩ x0).setCell ⟨b, 1, none⟩ x1).setCell ⟨b, 2, none⟩ x2).setCell ⟨b, 3, none⟩ x3).setCell ⟨b, 4, none⟩ x4).setCell ⟨b, 5, none⟩ x5).setCell ⟨b, 6, none⟩ x6).setCell ⟨b, 7, none⟩ x7).setCell ⟨b, 8, none⟩ x8).setCell ⟨b, 9, none⟩ x9).setCell ⟨b, 10, none⟩ x10) := by
  iterate 11 refine below_setN ?_ hb
  exact h
theorem oread_any {p : Par} (l : List Wd) (B : Nat) (v : Value) (i : Nat) (x : Pl) (hx : getW l i = x) (U : x.U) (va : Int) (v0 : 0 ≤ va) (v1 : va ≤ 18446744073709551615) (w : World) (h : WsAt w B v l) :
    Calls Tryz.prog 100 #[.agg #[.int .i64 p.s, .int .i64 (p.n : Int), v], .int .i64 (i : Int), .int .u64 va] w fun e w' => e = .returned (.tuple #[.agg #[.int .i64 (rdE p.s x va).size, .int .i64 (rdE p.s x va).ctx, .int .u64 (rdE p.s x va).va, .int .u64 (rdE p.s x va).pa, .bool (rdE p.s x va).att.write, .bool (rdE p.s x va).att.priv, .bool (rdE p.s x va).att.exec, .bool (rdE p.s x va).att.lock, .bool (rdE p.s x va).att.global, .bool (rdE p.s x va).att.quiet, .bool (rdE p.s x va).valid], .bool (rdB p.s x va)]) ∧ Below w.heap.size w w' := by
  obtain ⟨ao, cap, rfl⟩ := own_shape h
  have P1 := bxZ_new w p _ h
  have CG := Lib.hid (fun W (hW : WsAt W B (.slice ao l.length cap) l) => Ts.rget_any (p := p) l B _ i W hW)
  subst hx
  generalize getW l i = x at *
  have CR := Lib.hid (fun W => rread_any x.t x.d va U.t0 U.t1 U.d0 U.d1 v0 v1 W)
  have hB := Lib.hid (show rdB p.s x va = (Ent.readN x.t x.d va == 0 && (Ent.ofW x.t x.d va).size == p.s) from rfl)
  have hE := Lib.hid (show rdE p.s x va = if rdB p.s x va then Ent.ofW x.t x.d va else Ent.zero from rfl)
  have hX := Lib.hid (show Ent.readE x.t x.d va = if Ent.readN x.t x.d va = 0 then Ent.ofW x.t x.d va else Ent.zero from rfl)
  generalize rdE p.s x va = RE at *
  generalize rdB p.s x va = RB at *
  generalize Ent.readN x.t x.d va = RN at *
  generalize Ent.ofW x.t x.d va = RO at *
  generalize Ent.readE x.t x.d va = RX at *
  clear h
  go_enter Tryz.func100, Tryz.ntmps100
  go_wp2_with fail
  generalize World.alloc (World.alloc w _) _ = W1 at *
  obtain ⟨t0, t1, t2⟩ := P1.box
  go_wp2_with fail
  refine (CG.out _ P1.ws).mono ?_; rintro r w1 ⟨rfl, hb1⟩
  have P2 := P1.low hb1
  clear P1 CG hb1 t0 t1 t2
  go_wp2_with fail
  refine (CR.out _).mono ?_; rintro r w2 ⟨rfl, hb2⟩
  have P3 := (P2.alloc _).low hb2
  clear P2 CR hb2
  have N4 := RowE.new w2 RX
  have P4 := P3.alloc (.cells #[.int .i64 RX.size, .int .i64 RX.ctx, .int .u64 RX.va, .int .u64 RX.pa, .bool RX.att.write, .bool RX.att.priv, .bool RX.att.exec, .bool RX.att.lock, .bool RX.att.global, .bool RX.att.quiet, .bool RX.valid] 30)
  clear P3
  obtain ⟨t0, t1, t2⟩ := P4.box
  obtain ⟨d0, d1, d2, d3, d4, d5, d6, d7, d8, d9, d10⟩ := N4.cells
  have R4 := P4.res
  obtain ⟨r0, r1, r2, r3, r4, r5, r6, r7, r8, r9, r10⟩ := R4.cells
  have fr := R4.frozen
  have B4 := P4.bel
  clear P4 N4
  by_cases hn : RN = 0
  · have hXO : RX = RO := by rw [hX.out, if_pos hn]
    subst hXO
    by_cases hs : RX.size = p.s
    · have HRB := Lib.hid (show RB = true by rw [hB.out, hn, hs]; simp)
      have HRE := Lib.hid (show RE = RX by rw [hE.out, HRB.out]; rfl)
      subst hn
      have hs2 : (RX.size != p.s) = false := by rw [hs]; simp
      clear hB hE hX hs
      go_wp2_with fail
      have RR := RowE.setAll (e := RX) R4
      (try simp only [Exit.inBlock, Exit.then])
      refine bodyPost_ret (res_ent rfl _ _ _ _ rfl RR) rfl ?_
      exact ⟨ret_entB HRE.out HRB.out, below_eleven (Nat.le_succ _) B4 _ _ _ _ _ _ _ _ _ _ _⟩
    · have HRB := Lib.hid (show RB = false by rw [hB.out, beq_false_of_ne hs, Bool.and_false])
      have HRE := Lib.hid (show RE = Ent.zero by rw [hE.out, HRB.out]; rfl)
      subst hn
      have hs2 : (RX.size != p.s) = true := bne_iff_ne.2 hs
      clear hB hE hX
      go_wp2_with fail
      have RR := RowE.setAll (e := Ent.zero) R4
      (try simp only [Exit.inBlock, Exit.then])
      refine bodyPost_ret (res_ent rfl _ _ _ _ rfl RR) rfl ?_
      exact ⟨ret_entB HRE.out HRB.out, below_eleven (Nat.le_succ _) B4 _ _ _ _ _ _ _ _ _ _ _⟩
  · have HRB := Lib.hid (show RB = false by rw [hB.out, beq_false_of_ne hn, Bool.false_and])
    have HRE := Lib.hid (show RE = Ent.zero by rw [hE.out, HRB.out]; rfl)
    have hn2 : (RN != 0) = true := bne_iff_ne.2 hn
    clear hB hE hX
    go_wp2_with fail
    have RR := RowE.setAll (e := Ent.zero) R4
    (try simp only [Exit.inBlock, Exit.then])
    refine bodyPost_ret (res_ent rfl _ _ _ _ rfl RR) rfl ?_
    exact ⟨ret_entB HRE.out HRB.out, below_eleven (Nat.le_succ _) B4 _ _ _ _ _ _ _ _ _ _ _⟩
theorem omay_any {p : Par} (ao : Option Addr) (m cap : Nat) (e : Ent) (u : EntU e) (w : World) :
    Calls Tryz.prog 99 #[.agg #[.int .i64 p.s, .int .i64 (p.n : Int), .slice ao m cap], .agg #[.int .i64 e.size, .int .i64 e.ctx, .int .u64 e.va, .int .u64 e.pa, .bool e.att.write, .bool e.att.priv, .bool e.att.exec, .bool e.att.lock, .bool e.att.global, .bool e.att.quiet, .bool e.valid]] w fun r w' => r = .returned (.bool (mayT p e)) ∧ Below w.heap.size w w' := by
  have z1 : Below w.heap.size w ((w.alloc (.cells #[.int .i64 p.s, .int .i64 (p.n : Int), .slice ao m cap] 68)).alloc (.cells #[.int .i64 e.size, .int .i64 e.ctx, .int .u64 e.va, .int .u64 e.pa, .bool e.att.write, .bool e.att.priv, .bool e.att.exec, .bool e.att.lock, .bool e.att.global, .bool e.att.quiet, .bool e.valid] 30)) := ((Below.refl _ _).alloc (Nat.le_refl _) _).alloc (by simp) _
  have b1 : ((w.alloc (.cells #[.int .i64 p.s, .int .i64 (p.n : Int), .slice ao m cap] 68)).alloc (.cells #[.int .i64 e.size, .int .i64 e.ctx, .int .u64 e.va, .int .u64 e.pa, .bool e.att.write, .bool e.att.priv, .bool e.att.exec, .bool e.att.lock, .bool e.att.global, .bool e.att.quiet, .bool e.valid] 30)).heap[w.heap.size]? = some (.cells #[.int .i64 p.s, .int .i64 (p.n : Int), .slice ao m cap] 68 (0, 0)) := alloc_old (World.alloc_heap_new _ _) _
  have R1 := RowE.new (w.alloc (.cells #[.int .i64 p.s, .int .i64 (p.n : Int), .slice ao m cap] 68)) e
  rw [World.size_alloc] at R1
  have CM := Lib.hid (fun W => rmaye_any e u.v0 u.v1 u.p0 u.p1 W)
  have hM := Lib.hid (show mayT p e = (e.mayB && e.size == p.s) from rfl)
  generalize mayT p e = MT at *
  generalize e.mayB = mb at *
  go_enter Tryz.func99, Tryz.ntmps99
  go_wp2_with fail
  generalize World.alloc (World.alloc w _) _ = W1 at *
  obtain ⟨d0, d1, d2, d3, d4, d5, d6, d7, d8, d9, d10⟩ := R1.cells
  go_wp2_with fail
  refine (CM.out _).mono ?_; rintro r w1 ⟨rfl, hb1⟩
  have R2 := R1.call hb1
  have b2 := (hb1.block _ (Array.getElem?_eq_some_iff.1 b1).1).trans b1
  have z2 := z1.trans (hb1.mono z1.size)
  clear R1 b1 z1 hb1 CM d0 d1 d2 d3 d4 d5 d6 d7 d8 d9 d10
  obtain ⟨d0, d1, d2, d3, d4, d5, d6, d7, d8, d9, d10⟩ := R2.cells
  have t0 := cell_row 0 b2 rfl
  cases mb
  · have H := Lib.hid (show false = MT by rw [hM.out]; rfl)
    clear hM
    go_wp2_with fail
    go_ret
    exact ⟨ret_b H.out, z2⟩
  · have H := Lib.hid (show (e.size == p.s) = MT by rw [hM.out]; rfl)
    clear hM
    go_wp2_with fail
    go_ret
    exact ⟨ret_b H.out, z2⟩
end Go.Proofs.YtnbdoemnepfhdaaGreat.Ts

namespace Go.Proofs.YtnbdoemnepfhdaaGreat.Ts
open Fld
open Pt (idxI idx_bd)
open Tl (res_ent ret_entB)
open Go.ChangeShapes Go.WideShapes Go.ChangeAt Go.RowKit Go.Shelf
set_option maxRecDepth 100000
set_option maxHeartbeats 4000000
theorem oown_any {p : Par} (hp : p.Ok) (l : List Wd) (B : Nat) (v : Value) (i : Nat) (hi : i < p.n) (x : Pl) (hx : getW l i = x) (U : x.U) (w : World) (h : WsAt w B v l) :
    Calls Tryz.prog 64 #[.agg #[.int .i64 p.s, .int .i64 (p.n : Int), v], .int .i64 (i : Int)] w fun e w' => e = .returned (.tuple #[.agg #[.int .i64 (owE p x i).size, .int .i64 (owE p x i).ctx, .int .u64 (owE p x i).va, .int .u64 (owE p x i).pa, .bool (owE p x i).att.write, .bool (owE p x i).att.priv, .bool (owE p x i).att.exec, .bool (owE p x i).att.lock, .bool (owE p x i).att.global, .bool (owE p x i).att.quiet, .bool (owE p x i).valid], .bool (owB p x i)]) ∧ Below w.heap.size w w' := by
  obtain ⟨ao, cap, rfl⟩ := own_shape h
  have P1 := bxZ_new w p _ h
  have hnb := hp.n_bd
  obtain ⟨a0, a1, -, -, -⟩ := adr_bd p.s i x.t hp.hs
  have CG := Lib.hid (fun W (hW : WsAt W B (.slice ao l.length cap) l) => Ts.rget_any (p := p) l B _ i W hW)
  rw [hx] at CG
  have CD := Lib.hid (fun W (hW : WsAt W B (.slice ao l.length cap) l) => oread_any (p := p) l B _ i x hx U (adrI p.s i x.t) a0 a1 W hW)
  have CP := Lib.hid (fun W => rplace_any hp ao l.length cap (adrI p.s i x.t) a0 a1 W)
  have CB := Lib.hid (fun W => rbytes_any p.s W)
  have hb1 := bytes_pos hp.hs
  have hb2 := bytes_bd p.s
  have hle := least_pos hp.hs
  have hlb := least_bytes hp.hs
  have hpg := pages_least hp.hs
  have hA := Lib.hid (show adrI p.s i x.t = x.t % 4194304 * 4194304 + (if 2097152 ≤ x.t % 4194304 then 18446726481523507200 else 0) + i % leastI p.s * bytesI p.s from rfl)
  have hB := Lib.hid (show owB p x i = (p.pl (adrI p.s i x.t) == i && rdB p.s x (adrI p.s i x.t)) from rfl)
  have hE := Lib.hid (show owE p x i = if owB p x i then rdE p.s x (adrI p.s i x.t) else Ent.zero from rfl)
  have hE2 := Lib.hid (show rdE p.s x (adrI p.s i x.t) = if rdB p.s x (adrI p.s i x.t) then Ent.ofW x.t x.d (adrI p.s i x.t) else Ent.zero from rfl)
  have t0' := U.t0
  have t1' := U.t1
  generalize owE p x i = RE at *
  generalize owB p x i = RB at *
  generalize rdB p.s x (adrI p.s i x.t) = DB at *
  generalize rdE p.s x (adrI p.s i x.t) = DE at *
  generalize p.pl (adrI p.s i x.t) = pa at *
  generalize adrI p.s i x.t = A at *
  have hm0 : 0 ≤ x.t % 4194304 := by omega
  have hm1 : x.t % 4194304 < 4194304 := by omega
  have hi2 : (i : Int) ≤ 9223372036854775807 := by omega
  have him : 0 ≤ (i : Int) % leastI p.s := Int.emod_nonneg _ (by omega)
  have him2 : (i : Int) % leastI p.s < leastI p.s := Int.emod_lt_of_pos _ (by omega)
  have hprod : 0 ≤ (i : Int) % leastI p.s * bytesI p.s := Int.mul_nonneg him (by omega)
  have hprod2 : (i : Int) % leastI p.s * bytesI p.s ≤ 4194304 := by
    have := Int.mul_le_mul_of_nonneg_right (Int.le_of_lt him2) (show (0 : Int) ≤ bytesI p.s by omega)
    omega
  have hne : bytesI p.s ≠ 0 := by omega
  have hne2 : leastI p.s ≠ 0 := by omega
  clear h hx
  go_enter Tryz.func64, Tryz.ntmps64
  go_wp2_with fail
  generalize World.alloc (World.alloc w _) _ = W1 at *
  obtain ⟨t0, t1, t2⟩ := P1.box
  go_wp2_with fail
  refine (CG.out _ P1.ws).mono ?_; rintro r w1 ⟨rfl, hb1⟩
  have P2 := P1.low hb1
  have P3 := P2.alloc (.cells #[.int .i64 (i : Int), .int .u64 x.t, .int .u64 x.d] 139)
  clear P1 CG hb1 t0 t1 t2 P2
  obtain ⟨t0, t1, t2⟩ := P3.box
  by_cases hc : 2097152 ≤ x.t % 4194304
  · have hS : x.t % 4194304 * 4194304 + 18446726481523507200 + (i : Int) % leastI p.s * bytesI p.s = A := by have := hA.out; rw [if_pos hc] at this; exact this.symm
    have hS0 : 0 ≤ x.t % 4194304 * 4194304 + 18446726481523507200 + (i : Int) % leastI p.s * bytesI p.s := by omega
    have hS1 : x.t % 4194304 * 4194304 + 18446726481523507200 + (i : Int) % leastI p.s * bytesI p.s ≤ 18446744073709551615 := by omega
    have HS := Lib.hid hS
    clear hS
    go_wp2_with (go_at_call 86; refine (CB.out _).mono ?_; rintro e w' ⟨rfl, rfl⟩)
    rw [hpg]
    go_quiet ((go_at_call 86; refine (CB.out _).mono ?_; rintro e w' ⟨rfl, rfl⟩; exact ⟨rfl, _, rfl⟩))
    have P4 := P3.drewN nq
    clear P3 t0 t1 t2
    obtain ⟨t0, t1, t2⟩ := P4.box
    generalize World.drewN _ nq = W4 at *
    go_wp2_with fail
    rw [HS.out]
    clear HS hS0 hS1 hA hprod hprod2 him him2
    refine (CP.out _).mono ?_; rintro r w5 ⟨rfl, hb5⟩
    have P5 := P4.low hb5
    clear P4 CP hb5 t0 t1 t2
    obtain ⟨t0, t1, t2⟩ := P5.box
    have Z5 := P5.res
    obtain ⟨r0, r1, r2, r3, r4, r5, r6, r7, r8, r9, r10⟩ := Z5.cells
    have fr := Z5.frozen
    by_cases hpa : pa = i
    · have hpa2 : (pa : Int) = (i : Int) := by omega
      have HB := Lib.hid (show RB = DB by rw [hB.out, hpa]; simp)
      have HE := Lib.hid (show RE = DE by
        have h1 := hE.out
        have h2 := hE2.out
        rw [HB.out] at h1
        rw [h1]
        cases DB
        · rw [if_neg (by decide)] at h2 ⊢; exact h2.symm
        · rfl)
      clear hB hE hE2
      go_wp2_with fail
      refine (CD.out _ P5.ws).mono ?_; rintro r w6 ⟨rfl, hb6⟩
      have P6 := P5.low hb6
      have B6 := P6.bel
      have Z6 := P6.res
      clear P5 CD hb6 t0 t1 t2 r0 r1 r2 r3 r4 r5 r6 r7 r8 r9 r10 fr Z5 P6
      obtain ⟨r0, r1, r2, r3, r4, r5, r6, r7, r8, r9, r10⟩ := Z6.cells
      have fr := Z6.frozen
      go_wp2_with fail
      have RR := RowE.setAll (e := DE) Z6
      (try simp only [Exit.inBlock, Exit.then])
      refine bodyPost_ret (res_ent rfl _ _ _ _ rfl RR) rfl ?_
      exact ⟨ret_entB HE.out HB.out, below_eleven (Nat.le_succ _) B6 _ _ _ _ _ _ _ _ _ _ _⟩
    · have hpa2 : ¬ (pa : Int) = (i : Int) := by omega
      have HB := Lib.hid (show RB = false by rw [hB.out, beq_false_of_ne hpa]; rfl)
      have HE := Lib.hid (show RE = Ent.zero by rw [hE.out, HB.out]; rfl)
      have B5 := P5.bel
      clear hB hE hE2 CD
      go_wp2_with fail
      have RR := RowE.setAll (e := Ent.zero) Z5
      (try simp only [Exit.inBlock, Exit.then])
      refine bodyPost_ret (res_ent rfl _ _ _ _ rfl RR) rfl ?_
      exact ⟨ret_entB HE.out HB.out, below_eleven (Nat.le_succ _) B5 _ _ _ _ _ _ _ _ _ _ _⟩
  · have hS : x.t % 4194304 * 4194304 + (i : Int) % leastI p.s * bytesI p.s = A := by have := hA.out; rw [if_neg hc, Int.add_zero] at this; exact this.symm
    have hS0 : 0 ≤ x.t % 4194304 * 4194304 + (i : Int) % leastI p.s * bytesI p.s := by omega
    have hS1 : x.t % 4194304 * 4194304 + (i : Int) % leastI p.s * bytesI p.s ≤ 18446744073709551615 := by omega
    have HS := Lib.hid hS
    clear hS
    go_wp2_with (go_at_call 86; refine (CB.out _).mono ?_; rintro e w' ⟨rfl, rfl⟩)
    rw [hpg]
    go_quiet ((go_at_call 86; refine (CB.out _).mono ?_; rintro e w' ⟨rfl, rfl⟩; exact ⟨rfl, _, rfl⟩))
    have P4 := P3.drewN nq
    clear P3 t0 t1 t2
    obtain ⟨t0, t1, t2⟩ := P4.box
    generalize World.drewN _ nq = W4 at *
    go_wp2_with fail
    rw [HS.out]
    clear HS hS0 hS1 hA hprod hprod2 him him2
    refine (CP.out _).mono ?_; rintro r w5 ⟨rfl, hb5⟩
    have P5 := P4.low hb5
    clear P4 CP hb5 t0 t1 t2
    obtain ⟨t0, t1, t2⟩ := P5.box
    have Z5 := P5.res
    obtain ⟨r0, r1, r2, r3, r4, r5, r6, r7, r8, r9, r10⟩ := Z5.cells
    have fr := Z5.frozen
    by_cases hpa : pa = i
    · have hpa2 : (pa : Int) = (i : Int) := by omega
      have HB := Lib.hid (show RB = DB by rw [hB.out, hpa]; simp)
      have HE := Lib.hid (show RE = DE by
        have h1 := hE.out
        have h2 := hE2.out
        rw [HB.out] at h1
        rw [h1]
        cases DB
        · rw [if_neg (by decide)] at h2 ⊢; exact h2.symm
        · rfl)
      clear hB hE hE2
      go_wp2_with fail
      refine (CD.out _ P5.ws).mono ?_; rintro r w6 ⟨rfl, hb6⟩
      have P6 := P5.low hb6
      have B6 := P6.bel
      have Z6 := P6.res
      clear P5 CD hb6 t0 t1 t2 r0 r1 r2 r3 r4 r5 r6 r7 r8 r9 r10 fr Z5 P6
      obtain ⟨r0, r1, r2, r3, r4, r5, r6, r7, r8, r9, r10⟩ := Z6.cells
      have fr := Z6.frozen
      go_wp2_with fail
      have RR := RowE.setAll (e := DE) Z6
      (try simp only [Exit.inBlock, Exit.then])
      refine bodyPost_ret (res_ent rfl _ _ _ _ rfl RR) rfl ?_
      exact ⟨ret_entB HE.out HB.out, below_eleven (Nat.le_succ _) B6 _ _ _ _ _ _ _ _ _ _ _⟩
    · have hpa2 : ¬ (pa : Int) = (i : Int) := by omega
      have HB := Lib.hid (show RB = false by rw [hB.out, beq_false_of_ne hpa]; rfl)
      have HE := Lib.hid (show RE = Ent.zero by rw [hE.out, HB.out]; rfl)
      have B5 := P5.bel
      clear hB hE hE2 CD
      go_wp2_with fail
      have RR := RowE.setAll (e := Ent.zero) Z5
      (try simp only [Exit.inBlock, Exit.then])
      refine bodyPost_ret (res_ent rfl _ _ _ _ rfl RR) rfl ?_
      exact ⟨ret_entB HE.out HB.out, below_eleven (Nat.le_succ _) B5 _ _ _ _ _ _ _ _ _ _ _⟩
end Go.Proofs.YtnbdoemnepfhdaaGreat.Ts

namespace Go.Proofs.YtnbdoemnepfhdaaGreat.Ts
open Fld
open Pt (idxI idx_bd)
open Tl (ListAt DocAt nthE eleven eleven_one rowL_list cell_eleven_new doc_low doc_below list_nil infoE rowL rowL_length)
open Go.ChangeShapes Go.WideShapes Go.ChangeAt Go.RowKit Go.Shelf
set_option maxRecDepth 100000
set_option maxHeartbeats 4000000
theorem list_base {w : World} {B C : Nat} {v : Value} {l : List Ent} (h : ListAt w B v l) (hC : C ≤ B) : ListAt w C v l := by
  refine ⟨h.1, ?_⟩
  rcases h.2 with hn | ⟨g, cap, cur, rfl, hb2, rest⟩
  · exact .inl hn
  · exact .inr ⟨g, cap, cur, rfl, by omega, rest⟩
theorem tie_nil_k {p : Par} {T : Nat → Pl} (h : Tie p [] T) : ∀ k, k ≤ p.n → lstP p T k = [] := by
  intro k
  induction k with
  | zero => exact fun _ => rfl
  | succ k ih =>
    intro hk
    rw [lst_miss (by rw [own_none ((h.tells k (by omega)).symm.trans rfl)]; decide), ih (by omega)]
/-- The box of a list, the list, and a list of entries that is made. -/
structure LX (w wr : World) (p : Par) (u : Value) (B : Nat) (l : List Wd) (v : Value) (o : List Ent) : Prop where
  bel : Below w.heap.size w wr
  row : wr.heap[w.heap.size]? = some (.cells #[.int .i64 p.s, .int .i64 (p.n : Int), u] 68 (0, 0))
  ws : WsAt wr B u l
  own : ListAt wr (w.heap.size + 1) v o
theorem LX.low {w wr w' : World} {p : Par} {u v : Value} {B : Nat} {l : List Wd} {o : List Ent} (h : LX w wr p u B l v o) (hb : Below wr.heap.size wr w') : LX w w' p u B l v o :=
  ⟨h.bel.trans (hb.mono h.bel.size), (hb.block _ (Array.getElem?_eq_some_iff.1 h.row).1).trans h.row, ws_low h.ws hb, doc_below h.own hb⟩
theorem LX.alloc {w wr : World} {p : Par} {u v : Value} {B : Nat} {l : List Wd} {o : List Ent} (h : LX w wr p u B l v o) (ob : Obj) : LX w (wr.alloc ob) p u B l v o := h.low ((Below.refl _ _).alloc (Nat.le_refl _) _)
theorem LX.grown {w wr w1 : World} {p : Par} {u v v' : Value} {B : Nat} {l : List Wd} {o o' : List Ent} (h : LX w wr p u B l v o) (hg : wr.grownBy w1 v.ownBlock) (ho : ListAt w1 (w.heap.size + 1) v' o') : LX w w1 p u B l v' o' := by
  have hblk : ∀ g, v.ownBlock = some g → w.heap.size + 1 ≤ g ∧ ∃ cur, wr.heap[g]? = some (.cells cur 30 (0, 0)) := by
    intro g hg2
    rcases list_lt h.own with ⟨_, rfl, _, _⟩ | ⟨g', cap, cur, rfl, a, b⟩
    · simp [Value.ownBlock] at hg2
    · simp [Value.ownBlock] at hg2
      subst hg2
      exact ⟨a, cur, b⟩
  refine ⟨h.bel.grown hg h.bel.size (fun g hg2 => by have := (hblk g hg2).1; omega), (hg.block _ (Array.getElem?_eq_some_iff.1 h.row).1 (fun e => by have := (hblk _ e.symm).1; omega)).trans h.row, ?_, ho⟩
  refine ws_same h.ws fun g cur _ hh => hg.block _ (Array.getElem?_eq_some_iff.1 hh).1 (fun e => ?_)
  obtain ⟨_, cur', h2⟩ := hblk _ e.symm
  rw [h2] at hh
  injection (Option.some.inj hh) with _ h3
  exact absurd h3 (by decide)
theorem olist_any {p : Par} (hp : p.Ok) {l : List Wd} {B : Nat} {v : Value} {T : Nat → Pl} (ht : Tie p l T) (hU : ∀ i, i < p.n → (T i).U) (w : World) (h : WsAt w B v l) :
    Calls Tryz.prog 37 #[.agg #[.int .i64 p.s, .int .i64 (p.n : Int), v]] w fun e w' => ∃ v', e = .returned v' ∧ ListAt w' w.heap.size v' (lstP p T p.n) ∧ Below w.heap.size w w' := by
  obtain ⟨i0, hi0, hz0, hz1, hz2⟩ := info_parts infoE
  obtain ⟨ao, cap, rfl⟩ := own_shape h
  obtain ⟨m, hm⟩ : ∃ m, l.length = m := ⟨_, rfl⟩
  have HM := Lib.hid hm
  have hnb := hp.n_bd
  have hlen := tie_len ht
  have hNil := Lib.hid (fun (h0 : l.length = 0) k (hk : k ≤ p.n) => tie_nil_k (p := p) (T := T) (by rw [List.eq_nil_of_length_eq_zero h0] at ht; exact ht) k hk)
  rw [hm] at hlen ⊢
  have z1 : Below w.heap.size w (w.alloc (.cells #[.int .i64 p.s, .int .i64 (p.n : Int), .slice ao m cap] 68)) := (Below.refl _ _).alloc (Nat.le_refl _) _
  have P1 : LX w (w.alloc (.cells #[.int .i64 p.s, .int .i64 (p.n : Int), .slice ao m cap] 68)) p (.slice ao m cap) B l (.slice none 0 0) [] := ⟨z1, World.alloc_heap_new _ _, by have := ws_low h z1; rw [hm] at this; exact this, list_nil _ _⟩
  have CO := Lib.hid (fun W k hk v o (hW : LX w W p (.slice ao m cap) B l v o) => oown_any hp l B _ k hk (T k) (ht.tells k hk) (hU k hk) W hW.ws)
  clear h z1 hm
  go_enter Tryz.func37, Tryz.ntmps37
  go_wp2_with fail
  generalize World.alloc w _ = W1 at *
  go_loopw [3, 4] (fun v i wr => ∃ k : Nat, k ≤ p.n ∧ i = .int .i64 (k : Int) ∧ LX w wr p (.slice ao m cap) B l v (lstP p T k)) (fun _ i _ => p.n - (intOf i).toNat)
  case atStart => exact ⟨0, Nat.zero_le _, rfl, P1⟩
  case round =>
    clear P1
    obtain ⟨k, hk, rfl, PP⟩ := hrel
    have t0 := cell_row 0 PP.row rfl
    have t1 := cell_row 1 PP.row rfl
    have t2 := cell_row 2 PP.row rfl
    by_cases hkn : k < p.n
    · have hkn' : (k : Int) < (p.n : Int) := by omega
      by_cases hm0 : m = 0
      · have hl0 : l.length = 0 := by rw [HM.out]; exact hm0
        have hE : lstP p T k = lstP p T p.n := by rw [hNil.out hl0 k hk, hNil.out hl0 p.n (Nat.le_refl _)]
        rw [hE] at PP
        subst hm0
        clear hE hNil
        go_wp2_with fail
        go_ret
        exact ⟨_, rfl, list_base PP.own (Nat.le_succ _), PP.bel⟩
      · have hm1 : (0 : Int) < (m : Int) := by omega
        have CK := Lib.hid (CO.out _ k hkn _ _ PP)
        have hO := Lib.hid (ow_own p T k)
        have hOE := Lib.hid (fun h => ow_hit (p := p) (T := T) (i := k) h)
        have hHit := Lib.hid (fun h => lst_hit (p := p) (T := T) (k := k) h)
        have hMiss := Lib.hid (fun h => lst_miss (p := p) (T := T) (k := k) h)
        have hlk := lst_le p T k
        have hsz := PP.bel.size
        clear CO hNil
        go_wp2_with fail
        refine CK.out.mono ?_; rintro r w2 ⟨rfl, hb2⟩
        have P2 := PP.low hb2
        clear PP CK hb2 t0 t1 t2
        generalize owE p (T k) k = E at *
        generalize ownE p T k = OE at *
        generalize lstP p T k = LK at *
        have t1 := cell_row 1 P2.row rfl
        obtain ⟨ao2, cap2, rfl⟩ := own_shape P2.own
        generalize owB p (T k) k = OB at *
        cases OB
        · have hN := Lib.hid (hMiss.out (by rw [hO.out]; decide))
          have P3 := P2.alloc (.cells #[.int .i64 E.size, .int .i64 E.ctx, .int .u64 E.va, .int .u64 E.pa, .bool E.att.write, .bool E.att.priv, .bool E.att.exec, .bool E.att.lock, .bool E.att.global, .bool E.att.quiet, .bool E.valid] 30)
          clear P2 hMiss hHit hOE hO
          go_wp2_with fail
          go_roundw
          case rel => exact ⟨k + 1, by omega, by go_num, by rw [hN.out]; exact P3⟩
          case measure => simp [intOf]; omega
        · have hN := Lib.hid (hHit.out hO.out)
          have hEE := hOE.out hO.out
          subst hEE
          have P3 := P2.alloc (.cells #[.int .i64 E.size, .int .i64 E.ctx, .int .u64 E.va, .int .u64 E.pa, .bool E.att.write, .bool E.att.priv, .bool E.att.exec, .bool E.att.lock, .bool E.att.global, .bool E.att.quiet, .bool E.valid] 30)
          obtain ⟨d0, d1, d2, d3, d4, d5, d6, d7, d8, d9, d10⟩ := (RowE.new w2 E).cells
          have P4 := P3.alloc (.cells #[.int .i64 E.size, .int .i64 E.ctx, .int .u64 E.va, .int .u64 E.pa, .bool E.att.write, .bool E.att.priv, .bool E.att.exec, .bool E.att.lock, .bool E.att.global, .bool E.att.quiet, .bool E.valid] 30)
          have HC0 := cell_eleven_new (w2.alloc (.cells #[.int .i64 E.size, .int .i64 E.ctx, .int .u64 E.va, .int .u64 E.pa, .bool E.att.write, .bool E.att.priv, .bool E.att.exec, .bool E.att.lock, .bool E.att.global, .bool E.att.quiet, .bool E.valid] 30)) E 30
          rw [World.size_alloc] at HC0
          have HC := Lib.hid HC0
          clear HC0
          have HE := Lib.hid (rowL_list LK E)
          have HO := Lib.hid (eleven_one E)
          obtain ⟨mm, hmm⟩ : ∃ mm, LK.length = mm := ⟨_, rfl⟩
          have hO3 : ((w2.alloc (.cells #[.int .i64 E.size, .int .i64 E.ctx, .int .u64 E.va, .int .u64 E.pa, .bool E.att.write, .bool E.att.priv, .bool E.att.exec, .bool E.att.lock, .bool E.att.global, .bool E.att.quiet, .bool E.valid] 30)).alloc (.cells #[.int .i64 E.size, .int .i64 E.ctx, .int .u64 E.va, .int .u64 E.pa, .bool E.att.write, .bool E.att.priv, .bool E.att.exec, .bool E.att.lock, .bool E.att.global, .bool E.att.quiet, .bool E.valid] 30)).ownsRow (w.heap.size + 1) 30 11 (.slice ao2 mm cap2) mm (rowL (nthE LK) mm) := by have := P4.own; unfold ListAt DocAt at this; rw [hmm] at this; exact this
          have hsz3 := P3.bel.size
          have hsz4 := (Array.getElem?_eq_some_iff.1 P2.row).1
          rw [hmm] at P4 hlk ⊢
          have HMM := Lib.hid hmm
          clear P2 P3 hmm hMiss hHit hOE hO
          go_wp2_with (at_builtin; (refine wpList_append_own_at _ rfl _ _ 35 rfl (w.heap.size + 1) 30 i0 _ 11 40 Tryz.underlying35 hi0 hz0 hz1 hz2 rfl (by decide) _ _ _ rfl (by exact hO3) ⟨w2.heap.size + 1, 0, none⟩ 1 1 (eleven E) rfl rfl HC.out HO.out (by unfold maxLen; omega) (by omega) (by simp; omega) ?_))
          intro v' w5 hown' hgrow _ _
          have R1 : ListAt w5 (w.heap.size + 1) v' (LK ++ [E]) := by
            unfold ListAt DocAt
            rw [HE.out, List.length_append, HMM.out]; exact hown'
          have P6 := P4.grown hgrow R1
          rw [← hN.out] at P6
          clear hown' hgrow hO3 HC HE HO P4 R1 d0 d1 d2 d3 d4 d5 d6 d7 d8 d9 d10
          go_wp2
          go_roundw
          case rel => exact ⟨k + 1, by omega, by go_num, P6⟩
          case measure => simp [intOf]; omega
    · obtain rfl : k = p.n := by omega
      go_wp2_with fail
      go_ret
      exact ⟨_, rfl, list_base PP.own (Nat.le_succ _), PP.bel⟩
/-! ### Locked -/
def cW (l : List Wd) (k : Nat) : Nat := (l.take k).countP (fun x => x.t != 9223372036854775807)
end Go.Proofs.YtnbdoemnepfhdaaGreat.Ts

namespace Go.Proofs.YtnbdoemnepfhdaaGreat.Ts
open Fld
open Pt (idxI idx_bd)
open Tl (ListAt DocAt nthE list_nil)
open Go.ChangeShapes Go.WideShapes Go.ChangeAt Go.RowKit Go.Shelf
set_option maxRecDepth 100000
set_option maxHeartbeats 4000000
theorem TsbAt.two {w : World} {st sb bm st2 sb2 bm2 : Nat} {p q : Par} {T U : Nat → Pl} (h : TsbAt w st sb bm p T) (o : TsbAt w st2 sb2 bm2 q U) : st ≠ sb2 ∧ st ≠ bm2 ∧ sb ≠ bm2 := by
  obtain ⟨g, hm, _⟩ := h.mem
  obtain ⟨m, _, h1⟩ := hm.row
  obtain ⟨g', hm', _⟩ := o.mem
  obtain ⟨m', _, h1'⟩ := hm'.row
  obtain ⟨D', ⟨es', clock', h2', _⟩, _⟩ := hm'.words
  have h0 := h.row.row
  refine ⟨?_, ?_, ?_⟩
  · rintro rfl; rw [h0] at h1'; simp at h1'
  · rintro rfl; rw [h0] at h2'; simp at h2'
  · rintro rfl; rw [h1] at h2'; simp at h2'
/-- Another TSB beside. -/
structure OT (W w : World) (sb bm st2 sb2 bm2 : Nat) (q : Par) (U : Nat → Pl) : Prop where
  f2 : W.heap.size ≤ sb2
  f3 : W.heap.size ≤ bm2
  tsb : TsbAt w st2 sb2 bm2 q U
  n1 : sb ≠ sb2
  n2 : bm ≠ bm2
theorem OT.low {W w w' : World} {sb bm st2 sb2 bm2 : Nat} {q : Par} {U : Nat → Pl} (h : OT W w sb bm st2 sb2 bm2 q U) (hb : Below w.heap.size w w') : OT W w' sb bm st2 sb2 bm2 q U := ⟨h.f2, h.f3, h.tsb.low hb, h.n1, h.n2⟩
theorem OT.drewN {W w : World} {sb bm st2 sb2 bm2 : Nat} {q : Par} {U : Nat → Pl} (h : OT W w sb bm st2 sb2 bm2 q U) (n : Nat) : OT W (w.drewN n) sb bm st2 sb2 bm2 q U := h.low (drewN_low w n)
theorem OT.alloc {W w : World} {sb bm st2 sb2 bm2 : Nat} {q : Par} {U : Nat → Pl} (h : OT W w sb bm st2 sb2 bm2 q U) (o : Obj) : OT W (w.alloc o) sb bm st2 sb2 bm2 q U := h.low ((Below.refl _ _).alloc (Nat.le_refl _) _)
theorem OT.put {W w : World} {sb bm st2 sb2 bm2 b : Nat} {q : Par} {U : Nat → Pl} {c : Array Value} {t : TypeId} (h : OT W w sb bm st2 sb2 bm2 q U) (hb : w.heap[b]? = some (.cells c t (0, 0))) (ht : okT t) (o : Nat) (u : Value) : OT W (w.setCell ⟨b, o, none⟩ u) sb bm st2 sb2 bm2 q U := by
  obtain ⟨n1, n2, n3⟩ := h.tsb.ne_row hb ht
  exact ⟨h.f2, h.f3, h.tsb.same (Below.heap_setCell _ _ _ _ (Ne.symm n1)) (Below.heap_setCell _ _ _ _ (Ne.symm n2)) (Below.heap_setCell _ _ _ _ (Ne.symm n3)), h.n1, h.n2⟩
theorem OT.setNew {W X wr : World} {sb bm st2 sb2 bm2 : Nat} {q : Par} {U : Nat → Pl} {x0 x1 x2 x3 x4 x5 x6 x7 x8 x9 x10 : Value} (hX : OT W X sb bm st2 sb2 bm2 q U) (h : OT W wr sb bm st2 sb2 bm2 q U) :
    OT W (((((((((((wr.setCell ⟨X.heap.size, 0, none⟩ x0).setCell ⟨X.heap.size, 1, none⟩ x1).setCell ⟨X.heap.size, 2, none⟩ x2).setCell ⟨X.heap.size, 3, none⟩ x3).setCell ⟨X.heap.size, 4, none⟩ x4).setCell ⟨X.heap.size, 5, none⟩ x5).setCell ⟨X.heap.size, 6, none⟩ x6).setCell ⟨X.heap.size, 7, none⟩ x7).setCell ⟨X.heap.size, 8, none⟩ x8).setCell ⟨X.heap.size, 9, none⟩ x9).setCell ⟨X.heap.size, 10, none⟩ x10) sb bm st2 sb2 bm2 q U := by
  have h1 := hX.tsb.lt
  exact ⟨h.f2, h.f3, h.tsb.same (row_far (by omega)) (row_far (by omega)) (row_far (by omega)), h.n1, h.n2⟩
theorem PL.nil {W wr : World} {st sb bm C : Nat} {p : Par} {T : Nat → Pl} {L : List Bx} {v : Value} {l : List Ent} (h : PL W wr st sb bm p T L C v l) : PL W wr st sb bm p T L C (.slice none 0 0) [] := ⟨h.f1, h.f2, h.f3, h.bel, h.tsb, h.rows, list_nil _ _, h.base⟩
/-! ### What a law with two TSBs carries -/
structure DO (w W wr : World) (st sb bm : Nat) (p : Par) (T : Nat → Pl) (L : List Bx) (C : Nat) (v : Value) (l : List Ent) (ib o : Nat) (x : Ent) (D : Nat) (rv : Value) (ws : List Wd) (st2 sb2 bm2 : Nat) (q : Par) (U : Nat → Pl) : Prop where
  di : DI w W wr st sb bm p T L C v l ib o x D rv ws
  ot : OT W wr sb bm st2 sb2 bm2 q U
theorem DO.low {w W wr w' : World} {st sb bm C ib o D st2 sb2 bm2 : Nat} {p q : Par} {T U : Nat → Pl} {L : List Bx} {v rv : Value} {l : List Ent} {x : Ent} {ws : List Wd} (h : DO w W wr st sb bm p T L C v l ib o x D rv ws st2 sb2 bm2 q U) (hb : Below wr.heap.size wr w') : DO w W w' st sb bm p T L C v l ib o x D rv ws st2 sb2 bm2 q U := ⟨h.di.low hb, h.ot.low hb⟩
theorem DO.drewN {w W wr : World} {st sb bm C ib o D st2 sb2 bm2 : Nat} {p q : Par} {T U : Nat → Pl} {L : List Bx} {v rv : Value} {l : List Ent} {x : Ent} {ws : List Wd} (h : DO w W wr st sb bm p T L C v l ib o x D rv ws st2 sb2 bm2 q U) (n : Nat) : DO w W (wr.drewN n) st sb bm p T L C v l ib o x D rv ws st2 sb2 bm2 q U := h.low (drewN_low wr n)
theorem DO.drew {w W wr : World} {st sb bm C ib o D st2 sb2 bm2 : Nat} {p q : Par} {T U : Nat → Pl} {L : List Bx} {v rv : Value} {l : List Ent} {x : Ent} {ws : List Wd} (h : DO w W wr st sb bm p T L C v l ib o x D rv ws st2 sb2 bm2 q U) : DO w W wr.drew st sb bm p T L C v l ib o x D rv ws st2 sb2 bm2 q U := h.drewN 1
theorem DO.alloc {w W wr : World} {st sb bm C ib o D st2 sb2 bm2 : Nat} {p q : Par} {T U : Nat → Pl} {L : List Bx} {v rv : Value} {l : List Ent} {x : Ent} {ws : List Wd} (h : DO w W wr st sb bm p T L C v l ib o x D rv ws st2 sb2 bm2 q U) (ob : Obj) : DO w W (wr.alloc ob) st sb bm p T L C v l ib o x D rv ws st2 sb2 bm2 q U := h.low ((Below.refl _ _).alloc (Nat.le_refl _) _)
theorem DO.setNew {w W X wr : World} {st sb bm C ib o D st2 sb2 bm2 : Nat} {p q : Par} {T U : Nat → Pl} {L : List Bx} {v rv : Value} {l : List Ent} {x : Ent} {ws : List Wd} {x0 x1 x2 x3 x4 x5 x6 x7 x8 x9 x10 : Value} (hX : DO w W X st sb bm p T L C v l ib o x D rv ws st2 sb2 bm2 q U) (h : DO w W wr st sb bm p T L C v l ib o x D rv ws st2 sb2 bm2 q U) :
    DO w W (((((((((((wr.setCell ⟨X.heap.size, 0, none⟩ x0).setCell ⟨X.heap.size, 1, none⟩ x1).setCell ⟨X.heap.size, 2, none⟩ x2).setCell ⟨X.heap.size, 3, none⟩ x3).setCell ⟨X.heap.size, 4, none⟩ x4).setCell ⟨X.heap.size, 5, none⟩ x5).setCell ⟨X.heap.size, 6, none⟩ x6).setCell ⟨X.heap.size, 7, none⟩ x7).setCell ⟨X.heap.size, 8, none⟩ x8).setCell ⟨X.heap.size, 9, none⟩ x9).setCell ⟨X.heap.size, 10, none⟩ x10) st sb bm p T L C v l ib o x D rv ws st2 sb2 bm2 q U :=
  ⟨DI.setNew hX.di h.di, OT.setNew hX.ot h.ot⟩
theorem DO.sc {w W wr : World} {st sb bm C ib o tb D st2 sb2 bm2 : Nat} {p q : Par} {T U : Nat → Pl} {M : List Bx} {v u n rv : Value} {s : Int} {l : List Ent} {x : Ent} {ws : List Wd} (h : DO w W wr st sb bm p T ((tb, #[.int .i64 s, n, u], 68) :: M) C v l ib o x D rv ws st2 sb2 bm2 q U) : (wr.cell? ⟨ib, o, none⟩ = some (.int .i64 x.size) ∧ wr.cell? ⟨ib, o + 1, none⟩ = some (.int .i64 x.ctx) ∧ wr.cell? ⟨ib, o + 2, none⟩ = some (.int .u64 x.va) ∧ wr.cell? ⟨ib, o + 3, none⟩ = some (.int .u64 x.pa) ∧ wr.cell? ⟨ib, o + 4, none⟩ = some (.bool x.att.write) ∧ wr.cell? ⟨ib, o + 5, none⟩ = some (.bool x.att.priv) ∧ wr.cell? ⟨ib, o + 6, none⟩ = some (.bool x.att.exec) ∧ wr.cell? ⟨ib, o + 7, none⟩ = some (.bool x.att.lock) ∧ wr.cell? ⟨ib, o + 8, none⟩ = some (.bool x.att.global) ∧ wr.cell? ⟨ib, o + 9, none⟩ = some (.bool x.att.quiet) ∧ wr.cell? ⟨ib, o + 10, none⟩ = some (.bool x.valid)) ∧ wr.cell? ⟨tb, 0, none⟩ = some (.int .i64 s) := ⟨h.di.pi.inp, cell_row 0 (h.di.pi.pl.rows _ (List.mem_cons_self ..)).1 rfl⟩
end Go.Proofs.YtnbdoemnepfhdaaGreat.Ts

namespace Go.Proofs.YtnbdoemnepfhdaaGreat.Ts
open Fld
open Pt (idxI idx_bd)
open Tl (ListAt DocAt nthE list_nil)
open Go.ChangeShapes Go.WideShapes Go.ChangeAt Go.RowKit Go.Shelf
set_option maxRecDepth 100000
set_option maxHeartbeats 4000000
theorem take_nth {l : List Ent} {k : Nat} (h : k < l.length) : l.take (k + 1) = l.take k ++ [nthE l k] := by
  rw [List.take_succ_eq_append_getElem h]
  have : nthE l k = l[k] := by simp [nthE, h]
  rw [this]
end Go.Proofs.YtnbdoemnepfhdaaGreat.Ts

namespace Go.Proofs.YtnbdoemnepfhdaaGreat.Sw
open Fld Ts
open Tl (ListAt DocAt nthE list_nil doc_at doc_below)
open Go.ChangeShapes Go.WideShapes Go.ChangeAt Go.RowKit Go.Shelf
set_option maxRecDepth 100000
set_option maxHeartbeats 4000000
theorem take_nth {l : List Ent} {k : Nat} (h : k < l.length) : l.take (k + 1) = l.take k ++ [nthE l k] := by
  rw [List.take_succ_eq_append_getElem h]
  have : nthE l k = l[k] := by simp [nthE, h]
  rw [this]
/-- What the loop carries: a TSB that has turned, and a list of entries. -/
structure IN (w wr : World) (st sb bm : Nat) (q : Par) (T : Nat → Pl) (v : Value) (l : List Ent) : Prop where
  trn : TsbTo w wr st sb bm q T
  own : ListAt wr w.heap.size v l
theorem TsbTo.turn {w wr : World} {st sb bm : Nat} {q : Par} {T : Nat → Pl} (h : TsbTo w wr st sb bm q T) : w.heap.size ≤ wr.heap.size := by
  obtain ⟨_, _, _, k⟩ := h; exact k.size
theorem to_low {w wr w' : World} {st sb bm : Nat} {q : Par} {T : Nat → Pl} (h : TsbTo w wr st sb bm q T) (hb : Below wr.heap.size wr w') : TsbTo w w' st sb bm q T := by
  obtain ⟨b', k1, k2, k3⟩ := h
  exact ⟨b', k1.low hb, k2, k3.trans (turn_low sb b' hb) k2⟩
theorem IN.low {w wr w' : World} {st sb bm : Nat} {q : Par} {T : Nat → Pl} {v : Value} {l : List Ent} (h : IN w wr st sb bm q T v l) (hb : Below wr.heap.size wr w') : IN w w' st sb bm q T v l := ⟨to_low h.trn hb, doc_below h.own hb⟩
theorem IN.alloc {w wr : World} {st sb bm : Nat} {q : Par} {T : Nat → Pl} {v : Value} {l : List Ent} (h : IN w wr st sb bm q T v l) (o : Obj) : IN w (wr.alloc o) st sb bm q T v l := h.low ((Below.refl _ _).alloc (Nat.le_refl _) _)
theorem IN.oc {w wr : World} {st sb bm g n cap : Nat} {q : Par} {T : Nat → Pl} {l : List Ent} (h : IN w wr st sb bm q T (.slice (some ⟨g, 0, none⟩) n cap) l) {i o : Nat} (hi : i < l.length) (ho : i * 11 = o) : wr.cell? ⟨g, o, none⟩ = some (.int .i64 (nthE l i).size) ∧ wr.cell? ⟨g, o + 1, none⟩ = some (.int .i64 (nthE l i).ctx) ∧ wr.cell? ⟨g, o + 2, none⟩ = some (.int .u64 (nthE l i).va) ∧ wr.cell? ⟨g, o + 3, none⟩ = some (.int .u64 (nthE l i).pa) ∧ wr.cell? ⟨g, o + 4, none⟩ = some (.bool (nthE l i).att.write) ∧ wr.cell? ⟨g, o + 5, none⟩ = some (.bool (nthE l i).att.priv) ∧ wr.cell? ⟨g, o + 6, none⟩ = some (.bool (nthE l i).att.exec) ∧ wr.cell? ⟨g, o + 7, none⟩ = some (.bool (nthE l i).att.lock) ∧ wr.cell? ⟨g, o + 8, none⟩ = some (.bool (nthE l i).att.global) ∧ wr.cell? ⟨g, o + 9, none⟩ = some (.bool (nthE l i).att.quiet) ∧ wr.cell? ⟨g, o + 10, none⟩ = some (.bool (nthE l i).valid) := by
  obtain ⟨g', cap', hv, a, b, _, _, c, _⟩ := doc_at h.own (by omega)
  simp only [Value.slice.injEq, Option.some.injEq, Addr.mk.injEq, and_true] at hv
  obtain ⟨rfl, _⟩ := hv
  exact c i o hi ho
theorem IN.some {w wr : World} {st sb bm : Nat} {q : Par} {T : Nat → Pl} {ao : Option Addr} {n cap : Nat} {l : List Ent} (h : IN w wr st sb bm q T (.slice ao n cap) l) {i : Nat} (hi : i < l.length) : ∃ g, ao = some ⟨g, 0, none⟩ ∧ l.length ≤ cap ∧ cap ≤ maxLen := by
  obtain ⟨g', cap', hv, a, b, _⟩ := doc_at h.own (by omega)
  simp only [Value.slice.injEq] at hv
  obtain ⟨rfl, _, rfl⟩ := hv
  exact ⟨g', rfl, a, b⟩
theorem IN.tsb {w wr : World} {st sb bm : Nat} {q : Par} {T : Nat → Pl} {v : Value} {l : List Ent} (h : IN w wr st sb bm q T v l) : ∃ b', TsbAt wr st sb b' q T ∧ ∀ (w' : World) (U : Nat → Pl), TsbTo wr w' st sb b' q U → IN w w' st sb bm q U v l := by
  obtain ⟨b', k1, k2, k3⟩ := h.trn
  refine ⟨b', k1, fun w' U k => ⟨TsbTo.trans k2 k3 k, ?_⟩⟩
  obtain ⟨b2, m1, m2, m3⟩ := k
  refine list_same h.own fun g cur _ hg => ?_
  obtain ⟨_, n2, n3⟩ := k1.ne_row hg ⟨by decide, by decide⟩
  exact m3.block g (Array.getElem?_eq_some_iff.1 hg).1 n2 n3
theorem pinto_any {w : World} {st sb bm st2 : Nat} {p q : Par} {T : Nat → Pl} (P : TsbAt w st sb bm p T) (O : TsbAt w st2 sb bm q (fun _ => Pl.none)) (hG : Gd p T) (hs : p.s = q.s) :
    Calls Tryz.prog 43 #[.pointer (some ⟨st, 0, none⟩), .pointer (some ⟨st2, 0, none⟩)] w fun e w' => e = .returned (.int .i64 ((lstP p T p.n).length : Int)) ∧ TsbTo w w' st2 sb bm q (insAll q (lstP p T p.n)) := by
  have CL := Lib.hid (tlist_any w P)
  have hPok := P.ok
  have hQok := O.ok
  have hle := lst_le p T p.n
  have hnb := hPok.n_bd
  have hF := Lib.hid (fun e (he : e ∈ lstP p T p.n) => lst_fine hPok hG e he)
  generalize lstP p T p.n = es at *
  obtain ⟨m, hm⟩ : ∃ m, es.length = m := ⟨_, rfl⟩
  have HM := Lib.hid hm
  rw [hm] at hle ⊢
  have hnil : (fun _ => Pl.none) = insAll q (es.take 0) := rfl
  have hall := Lib.hid (show insAll q (es.take m) = insAll q es by rw [← hm, List.take_length])
  clear hm P hG hPok
  go_enter Tryz.func43, Tryz.ntmps43
  go_wp2_with fail
  refine CL.out.mono ?_; rintro e w6 ⟨v6, rfl, hl6, hb6⟩
  obtain ⟨ao, cap, rfl⟩ := own_shape hl6
  have P7 : IN w w6 st2 sb bm q (fun _ => Pl.none) (.slice ao es.length cap) es := ⟨O.to_low hb6, hl6⟩
  rw [hnil] at P7
  rw [HM.out] at P7 ⊢
  clear O CL hl6 hb6 hnil
  go_wp2_with fail
  go_loopw [5, 13] (fun n i wr => ∃ (k : Nat), n = .int .i64 (k : Int) ∧ i = .int .i64 (k : Int) ∧ k ≤ m ∧ IN w wr st2 sb bm q (insAll q (es.take k)) (.slice ao m cap) es) (fun _ i _ => m - (intOf i).toNat)
  case atStart => exact ⟨0, rfl, rfl, Nat.zero_le _, P7⟩
  case round =>
    clear P7
    obtain ⟨k, rfl, rfl, hk, PP⟩ := hrel
    by_cases hkm : k < m
    · have hkl : k < es.length := by rw [HM.out]; exact hkm
      have hkm' : (k : Int) < (m : Int) := by omega
      obtain ⟨g, rfl, hcc1, hcc2⟩ := PP.some hkl
      unfold maxLen at hcc2
      rw [HM.out] at hcc1
      obtain ⟨o, ho⟩ : ∃ o, k * 11 = o := ⟨_, rfl⟩
      have hAK : (⟨g, 0, none⟩ : Addr).add o = ⟨g, o, none⟩ := add_at g o
      obtain ⟨d0, d1, d2, d3, d4, d5, d6, d7, d8, d9, d10⟩ := PP.oc hkl ho
      obtain ⟨okE, szE⟩ := hF.out _ (nth_mem hkl)
      have hT := Lib.hid (take_nth hkl)
      rw [hs] at szE
      generalize nthE es k = E at *
      have uE := wf_u (ok_wf okE)
      have hE0 : errP q E = 0 := by unfold errP; rw [fine_may okE szE]; rfl
      have P3 := PP.alloc (.cells #[.int .i64 E.size, .int .i64 E.ctx, .int .u64 E.va, .int .u64 E.pa, .bool E.att.write, .bool E.att.priv, .bool E.att.exec, .bool E.att.lock, .bool E.att.global, .bool E.att.quiet, .bool E.valid] 30)
      obtain ⟨b3, T3, K3⟩ := P3.tsb
      have CI := Lib.hid (insert_any E uE _ T3)
      rw [hE0, ← insAll_snoc, ← hT.out] at CI
      have K3 := Lib.hid K3
      obtain ⟨f0, f1, f2, f3, f4, f5, f6, f7, f8, f9, f10⟩ := (RowE.new wr E).cells
      clear PP hE0 szE T3 P3
      go_wp2_with fail
      refine CI.out.mono ?_; rintro e w4 ⟨rfl, kt⟩
      have P4 := K3.out _ _ kt
      clear CI K3 kt d0 d1 d2 d3 d4 d5 d6 d7 d8 d9 d10 f0 f1 f2 f3 f4 f5 f6 f7 f8 f9 f10
      go_wp2_with fail
      go_roundw
      case rel => exact ⟨k + 1, by go_num, by go_num, by omega, P4⟩
      case measure => simp [intOf]; omega
    · obtain rfl : m = k := by omega
      rw [hall.out] at PP
      go_wp2_with fail
      go_ret
      exact ⟨rfl, PP.trn⟩
end Go.Proofs.YtnbdoemnepfhdaaGreat.Sw

