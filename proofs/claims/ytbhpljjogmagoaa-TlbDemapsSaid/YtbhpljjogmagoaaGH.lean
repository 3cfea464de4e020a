/-
  YtbhpljjogmagoaaGH: the contracts and plain facts of several texts, laid together. Conditions: those that each theorem names.
-/
import Derived.Test.YtbhpljjogmagoaaGG
import Derived.Deep.RegionHeld3
import Derived.Deep.DeepCutAuto
/-
  The deeds of the laws of layer 6: Insert (kind 0) and Put (kind 1). Conditions: numbers are what Go's types hold.
-/
namespace Go.Proofs.Ytbhpljjogmagoaa.Tl
open Fld
open Go.ChangeShapes Go.WideShapes Go.ChangeAt Go.RowKit Go.Shelf
set_option maxHeartbeats 4000000
set_option maxRecDepth 100000
/-- The deed's box alone. -/
structure DX (w wr : World) (bb db : Nat) (d : DeedV) : Prop where
  box : wr.heap[db]? = some (.cells #[.int .i64 d.kind, .int .i64 d.n, .int .i64 d.ctx, .int .u64 d.va, .int .i64 d.e.size, .int .i64 d.e.ctx, .int .u64 d.e.va, .int .u64 d.e.pa, .bool d.e.att.write, .bool d.e.att.priv, .bool d.e.att.exec, .bool d.e.att.lock, .bool d.e.att.global, .bool d.e.att.quiet, .bool d.e.valid, .bool d.raw] 35 (0, 0))
  far : bb < db
theorem DX.low {w wr w' : World} {bb db : Nat} {d : DeedV} (h : DX w wr bb db d) (hb : Below wr.heap.size wr w') : DX w w' bb db d := ⟨(hb.block _ (Array.getElem?_eq_some_iff.1 h.box).1).trans h.box, h.far⟩
theorem DX.prog {w wr w' : World} {bb db : Nat} {d : DeedV} (h : DX w wr bb db d) (hb : Turn wr w' bb) : DX w w' bb db d := ⟨(hb.block _ (Array.getElem?_eq_some_iff.1 h.box).1 (by have := h.far; omega)).trans h.box, h.far⟩
theorem DX.drew {w wr : World} {bb db : Nat} {d : DeedV} (h : DX w wr bb db d) : DX w wr.drew bb db d := ⟨h.box, h.far⟩
theorem DX.cells {w wr : World} {bb db : Nat} {d : DeedV} (h : DX w wr bb db d) : wr.cell? ⟨db, 0, none⟩ = some (.int .i64 d.kind) ∧ wr.cell? ⟨db, 1, none⟩ = some (.int .i64 d.n) ∧ wr.cell? ⟨db, 2, none⟩ = some (.int .i64 d.ctx) ∧ wr.cell? ⟨db, 3, none⟩ = some (.int .u64 d.va) ∧ wr.cell? ⟨db, 4, none⟩ = some (.int .i64 d.e.size) ∧ wr.cell? ⟨db, 5, none⟩ = some (.int .i64 d.e.ctx) ∧ wr.cell? ⟨db, 6, none⟩ = some (.int .u64 d.e.va) ∧ wr.cell? ⟨db, 7, none⟩ = some (.int .u64 d.e.pa) ∧ wr.cell? ⟨db, 8, none⟩ = some (.bool d.e.att.write) ∧ wr.cell? ⟨db, 9, none⟩ = some (.bool d.e.att.priv) ∧ wr.cell? ⟨db, 10, none⟩ = some (.bool d.e.att.exec) ∧ wr.cell? ⟨db, 11, none⟩ = some (.bool d.e.att.lock) ∧ wr.cell? ⟨db, 12, none⟩ = some (.bool d.e.att.global) ∧ wr.cell? ⟨db, 13, none⟩ = some (.bool d.e.att.quiet) ∧ wr.cell? ⟨db, 14, none⟩ = some (.bool d.e.valid) ∧ wr.cell? ⟨db, 15, none⟩ = some (.bool d.raw) :=
  ⟨cell_of_row _ _ 0 _ _ _ h.box, cell_of_row _ _ 1 _ _ _ h.box, cell_of_row _ _ 2 _ _ _ h.box, cell_of_row _ _ 3 _ _ _ h.box, cell_of_row _ _ 4 _ _ _ h.box, cell_of_row _ _ 5 _ _ _ h.box, cell_of_row _ _ 6 _ _ _ h.box, cell_of_row _ _ 7 _ _ _ h.box, cell_of_row _ _ 8 _ _ _ h.box, cell_of_row _ _ 9 _ _ _ h.box, cell_of_row _ _ 10 _ _ _ h.box, cell_of_row _ _ 11 _ _ _ h.box, cell_of_row _ _ 12 _ _ _ h.box, cell_of_row _ _ 13 _ _ _ h.box, cell_of_row _ _ 14 _ _ _ h.box, cell_of_row _ _ 15 _ _ _ h.box⟩
theorem DS.dx {w wr : World} {sb bb n B db : Nat} {T R : Nat → Ent} {v : Value} {d : DeedV} (h : DS w wr sb bb n T B v R db d) : DX w wr bb db d := ⟨h.box, by have := h.far; omega⟩
theorem DX.zero {w wr : World} {bb db : Nat} {d : DeedV} (h : DX w wr bb db d) : DX wr wr bb db d := ⟨h.box, h.far⟩
theorem does0 {sb bb n B : Nat} {T R : Nat → Ent} {v : Value} (d : DeedV) (hd : d.wf) (hk : d.kind = 0) (w : World) (ht : TlbAt w sb bb n T) (hdoc : DocAt w B v n R) (hR : ∀ k, k < n → (R k).wf) (h1 : bb < B) (h2 : B ≤ w.heap.size) :
    Calls Try.prog 12 #[.pointer (some ⟨sb, 0, none⟩), v, .agg #[.int .i64 d.kind, .int .i64 d.n, .int .i64 d.ctx, .int .u64 d.va, .int .i64 d.e.size, .int .i64 d.e.ctx, .int .u64 d.e.va, .int .u64 d.e.pa, .bool d.e.att.write, .bool d.e.att.priv, .bool d.e.att.exec, .bool d.e.att.lock, .bool d.e.att.global, .bool d.e.att.quiet, .bool d.e.valid, .bool d.raw]] w (Done w sb bb n T B R d) := by
  obtain ⟨g, cap, rfl, _, _, _, _, _, _⟩ := doc_at hdoc ht.pos
  have D0 := DS.start d ht hdoc h1 h2
  have hA := Lib.hid (show act T n d = insT T n d.ent d.n by unfold act; rw [hk]; simp)
  have hA2 := Lib.hid (show act R n d = insT R n d.ent d.n by unfold act; rw [hk]; simp)
  have hp := ht.pos
  have hn := ht.le
  have E := Lib.hid (fun W => entry_any d hd W)
  have I := Lib.hid (fun W (hW : TlbAt W sb bb n T) => ins_any d.ent hd.ent d.n hd.n0 hd.n1 W hW)
  have J := Lib.hid (fun W (hW : DocAt W B (.slice (some ⟨g, 0, none⟩) n cap) n R) (hB : B ≤ W.heap.size) => rins_any B g cap n R d.ent d.n hd.n0 hd.n1 hd.ent hR W hW hB hp hn)
  have hE7 := Lib.hid (show insE R n d.ent = 7 → insT R n d.ent d.n = R ∧ insN R n d.ent d.n = 0 from fun h => by unfold insT insN; rw [if_neg (by rw [h]; decide), if_neg (by rw [h]; decide)]; exact ⟨rfl, rfl⟩)
  have hTR := Lib.hid (fun (h : T = R) => (⟨by rw [h], by rw [h], by rw [h]⟩ : insN T n d.ent d.n = insN R n d.ent d.n ∧ insE T n d.ent = insE R n d.ent ∧ insT T n d.ent d.n = insT R n d.ent d.n))
  generalize insN T n d.ent d.n = nT at *
  generalize insE T n d.ent = eT at *
  generalize insT T n d.ent d.n = T2 at *
  generalize insN R n d.ent d.n = nR at *
  generalize insE R n d.ent = eR at *
  generalize insT R n d.ent d.n = R2 at *
  obtain ⟨c0, c1, c2, c3, c4, c5, c6, c7, c8, c9, c10, c11, c12, c13, c14, c15⟩ := D0.cells
  rw [hk] at c0 D0
  clear ht hdoc
  have far := D0.far
  go_enter Try.func12, Try.ntmps12
  go_wp2_with fail
  generalize World.alloc w _ = w0 at *
  clear hk c0 c1 c2 c3 c4 c5 c6 c7 c8 c9 c10 c11 c12 c13 c14 c15
  have X0 := D0.dx
  go_cut [8, 9] (fun a b wx => a = .int .i64 (nT : Int) ∧ b = .int .i64 eT ∧ DS w wx sb bb n T2 B (.slice (some ⟨g, 0, none⟩) n cap) R w.heap.size d)
  case first =>
    go_region_held3 (fun w1 => w1.cell? ⟨w.heap.size, 0, none⟩ = some (.int .i64 d.kind) ∧ w1.cell? ⟨w.heap.size, 1, none⟩ = some (.int .i64 d.n) ∧ w1.cell? ⟨w.heap.size, 2, none⟩ = some (.int .i64 d.ctx) ∧ w1.cell? ⟨w.heap.size, 3, none⟩ = some (.int .u64 d.va) ∧ w1.cell? ⟨w.heap.size, 4, none⟩ = some (.int .i64 d.e.size) ∧ w1.cell? ⟨w.heap.size, 5, none⟩ = some (.int .i64 d.e.ctx) ∧ w1.cell? ⟨w.heap.size, 6, none⟩ = some (.int .u64 d.e.va) ∧ w1.cell? ⟨w.heap.size, 7, none⟩ = some (.int .u64 d.e.pa) ∧ w1.cell? ⟨w.heap.size, 8, none⟩ = some (.bool d.e.att.write) ∧ w1.cell? ⟨w.heap.size, 9, none⟩ = some (.bool d.e.att.priv) ∧ w1.cell? ⟨w.heap.size, 10, none⟩ = some (.bool d.e.att.exec) ∧ w1.cell? ⟨w.heap.size, 11, none⟩ = some (.bool d.e.att.lock) ∧ w1.cell? ⟨w.heap.size, 12, none⟩ = some (.bool d.e.att.global) ∧ w1.cell? ⟨w.heap.size, 13, none⟩ = some (.bool d.e.att.quiet) ∧ w1.cell? ⟨w.heap.size, 14, none⟩ = some (.bool d.e.valid) ∧ w1.cell? ⟨w.heap.size, 15, none⟩ = some (.bool d.raw)) ((refine DX.cells (w := w) (bb := bb) ?_; (repeat (first | (with_reducible assumption) | (with_reducible refine DX.drew ?_) | (with_reducible refine DX.low ?_ (by assumption)) | (with_reducible refine DX.prog ?_ (by assumption))))))
      (first
        | (go_at_call 29; (with_reducible refine (E.out _).mono ?_); rintro r w' ⟨rfl, hb⟩)
        | (go_at_call 20; (with_reducible refine (I.out _ (D0.drew.low hb).tlb).mono ?_); rintro r w' ⟨rfl, ht, tn⟩))
    all_goals
      have D1 := (D0.drew.low hb).prog ht tn
      go_wp2_with fail
      go_meet
      exact ⟨rfl, rfl, D1⟩
  case rest =>
    obtain ⟨rfl, rfl, D1⟩ := hcut
    clear D0 X0
    have X1 := D1.dx
    go_wp2_with fail
    go_cut [10, 11, 12] (fun a b c wx => b = .int .i64 (nR : Int) ∧ c = .int .i64 eR ∧ DS w wx sb bb n T2 B a R2 w.heap.size d ∧ DocAt wx B (.slice (some ⟨g, 0, none⟩) n cap) n R)
    case first =>
      go_region_held3 (fun w1 => w1.cell? ⟨w.heap.size, 0, none⟩ = some (.int .i64 d.kind) ∧ w1.cell? ⟨w.heap.size, 1, none⟩ = some (.int .i64 d.n) ∧ w1.cell? ⟨w.heap.size, 2, none⟩ = some (.int .i64 d.ctx) ∧ w1.cell? ⟨w.heap.size, 3, none⟩ = some (.int .u64 d.va) ∧ w1.cell? ⟨w.heap.size, 4, none⟩ = some (.int .i64 d.e.size) ∧ w1.cell? ⟨w.heap.size, 5, none⟩ = some (.int .i64 d.e.ctx) ∧ w1.cell? ⟨w.heap.size, 6, none⟩ = some (.int .u64 d.e.va) ∧ w1.cell? ⟨w.heap.size, 7, none⟩ = some (.int .u64 d.e.pa) ∧ w1.cell? ⟨w.heap.size, 8, none⟩ = some (.bool d.e.att.write) ∧ w1.cell? ⟨w.heap.size, 9, none⟩ = some (.bool d.e.att.priv) ∧ w1.cell? ⟨w.heap.size, 10, none⟩ = some (.bool d.e.att.exec) ∧ w1.cell? ⟨w.heap.size, 11, none⟩ = some (.bool d.e.att.lock) ∧ w1.cell? ⟨w.heap.size, 12, none⟩ = some (.bool d.e.att.global) ∧ w1.cell? ⟨w.heap.size, 13, none⟩ = some (.bool d.e.att.quiet) ∧ w1.cell? ⟨w.heap.size, 14, none⟩ = some (.bool d.e.valid) ∧ w1.cell? ⟨w.heap.size, 15, none⟩ = some (.bool d.raw)) ((refine DX.cells (w := w) (bb := bb) ?_; (repeat (first | (with_reducible assumption) | (with_reducible refine DX.drew ?_) | (with_reducible refine DX.low ?_ (by assumption)) | (with_reducible refine DX.prog ?_ (by assumption))))))
        (first
          | (go_at_call 29; (with_reducible refine (E.out _).mono ?_); rintro r w' ⟨rfl, hb⟩)
          | (go_at_call 30; (with_reducible refine (J.out _ (D1.drew.low hb).doc (Nat.le_trans far.2.1 (D1.drew.low hb).turn.size)).mono ?_); rintro r w' ⟨v2, rfl, hd2, hb2⟩))
      all_goals
        have D2 := (D1.drew.low hb).list hb2 hd2
        have d2 := doc_below (D1.drew.low hb).doc hb2
        go_wp2_with fail
        go_meet
        exact ⟨rfl, rfl, D2, d2⟩
    case rest =>
      obtain ⟨rfl, rfl, D2, d2⟩ := hcut
      clear D1 X1 E I J
      by_cases h7 : eR = 7
      · obtain ⟨hR2, hnR⟩ := hE7.out h7
        have D3 := (⟨D2.tlb, d2, D2.box, D2.turn, D2.far⟩ : DS w _ sb bb n T2 B (.slice (some ⟨g, 0, none⟩) n cap) R w.heap.size d)
        have hA3 := Lib.hid (hA2.out.trans hR2)
        have hnR := Lib.hid hnR
        have hTR2 := Lib.hid (fun (h : T = R) => (⟨(hTR.out h).1.trans hnR.out, (hTR.out h).2.1.trans h7⟩ : nT = 0 ∧ eT = 7))
        subst h7
        clear D2 d2 hA2 hE7 hTR hR2
        by_cases h0 : nT = 0
        · subst h0
          by_cases he : eT = 7
          · subst he
            go_wp2_with fail
            go_ret2
            exact done_of D3 hA.out hA3.out (fun _ => rfl)
          · have he2 := Lib.hid he
            go_wp2_with fail
            go_ret2
            exact done_of D3 hA.out hA3.out (fun h => absurd (hTR2.out h).2 he2.out)
        · have h02 := Lib.hid h0
          have h0' : ¬ ((nT : Int) = 0) := by omega
          go_wp2_with fail
          go_ret2
          exact done_of D3 hA.out hA3.out (fun h => absurd (hTR2.out h).1 h02.out)
      · have h72 := Lib.hid h7
        clear d2 hE7
        by_cases h0 : nT = nR
        · subst h0
          by_cases he : eT = eR
          · subst he
            go_wp2_with fail
            go_ret2
            exact done_of D2 hA.out hA2.out (fun _ => rfl)
          · have he2 := Lib.hid he
            go_wp2_with fail
            go_ret2
            exact done_of D2 hA.out hA2.out (fun h => absurd (hTR.out h).2.1 he2.out)
        · have h02 := Lib.hid h0
          have h0' : ¬ ((nT : Int) = (nR : Int)) := by omega
          go_wp2_with fail
          go_ret2
          exact done_of D2 hA.out hA2.out (fun h => absurd (hTR.out h).1 h02.out)
theorem does1 {sb bb n B : Nat} {T R : Nat → Ent} {v : Value} (d : DeedV) (hd : d.wf) (hk : d.kind = 1) (w : World) (ht : TlbAt w sb bb n T) (hdoc : DocAt w B v n R) (hR : ∀ k, k < n → (R k).wf) (h1 : bb < B) (h2 : B ≤ w.heap.size) :
    Calls Try.prog 12 #[.pointer (some ⟨sb, 0, none⟩), v, .agg #[.int .i64 d.kind, .int .i64 d.n, .int .i64 d.ctx, .int .u64 d.va, .int .i64 d.e.size, .int .i64 d.e.ctx, .int .u64 d.e.va, .int .u64 d.e.pa, .bool d.e.att.write, .bool d.e.att.priv, .bool d.e.att.exec, .bool d.e.att.lock, .bool d.e.att.global, .bool d.e.att.quiet, .bool d.e.valid, .bool d.raw]] w (Done w sb bb n T B R d) := by
  obtain ⟨g, cap, rfl, _, _, _, _, _, _⟩ := doc_at hdoc ht.pos
  have D0 := DS.start d ht hdoc h1 h2
  have hA := Lib.hid (show act T n d = putT T n d.n d.ent by unfold act; rw [hk]; simp)
  have hA2 := Lib.hid (show act R n d = putT R n d.n d.ent by unfold act; rw [hk]; simp)
  have hp := ht.pos
  have hn := ht.le
  have E := Lib.hid (fun W => entry_any d hd W)
  have I := Lib.hid (fun W (hW : TlbAt W sb bb n T) => put_any d.n d.ent hd.ent W hW)
  have J := Lib.hid (fun W (hW : DocAt W B (.slice (some ⟨g, 0, none⟩) n cap) n R) (hB : B ≤ W.heap.size) => rput_any B g cap n R d.n d.ent hd.ent hR W hW hB hp hn)
  have hTR := Lib.hid (fun (h : T = R) => (by rw [h] : putE T n d.n d.ent = putE R n d.n d.ent))
  generalize putE T n d.n d.ent = eT at *
  generalize putT T n d.n d.ent = T2 at *
  generalize putE R n d.n d.ent = eR at *
  generalize putT R n d.n d.ent = R2 at *
  obtain ⟨c0, c1, c2, c3, c4, c5, c6, c7, c8, c9, c10, c11, c12, c13, c14, c15⟩ := D0.cells
  rw [hk] at c0 D0
  clear ht hdoc
  have far := D0.far
  go_enter Try.func12, Try.ntmps12
  go_wp2_with fail
  generalize World.alloc w _ = w0 at *
  clear hk c0 c1 c2 c3 c4 c5 c6 c7 c8 c9 c10 c11 c12 c13 c14 c15
  have X0 := D0.dx
  go_cut [13, 14] (fun a b wx => b = .int .i64 eR ∧ DS w wx sb bb n T B a R2 w.heap.size d)
  case first =>
    go_region_held3 (fun w1 => w1.cell? ⟨w.heap.size, 0, none⟩ = some (.int .i64 d.kind) ∧ w1.cell? ⟨w.heap.size, 1, none⟩ = some (.int .i64 d.n) ∧ w1.cell? ⟨w.heap.size, 2, none⟩ = some (.int .i64 d.ctx) ∧ w1.cell? ⟨w.heap.size, 3, none⟩ = some (.int .u64 d.va) ∧ w1.cell? ⟨w.heap.size, 4, none⟩ = some (.int .i64 d.e.size) ∧ w1.cell? ⟨w.heap.size, 5, none⟩ = some (.int .i64 d.e.ctx) ∧ w1.cell? ⟨w.heap.size, 6, none⟩ = some (.int .u64 d.e.va) ∧ w1.cell? ⟨w.heap.size, 7, none⟩ = some (.int .u64 d.e.pa) ∧ w1.cell? ⟨w.heap.size, 8, none⟩ = some (.bool d.e.att.write) ∧ w1.cell? ⟨w.heap.size, 9, none⟩ = some (.bool d.e.att.priv) ∧ w1.cell? ⟨w.heap.size, 10, none⟩ = some (.bool d.e.att.exec) ∧ w1.cell? ⟨w.heap.size, 11, none⟩ = some (.bool d.e.att.lock) ∧ w1.cell? ⟨w.heap.size, 12, none⟩ = some (.bool d.e.att.global) ∧ w1.cell? ⟨w.heap.size, 13, none⟩ = some (.bool d.e.att.quiet) ∧ w1.cell? ⟨w.heap.size, 14, none⟩ = some (.bool d.e.valid) ∧ w1.cell? ⟨w.heap.size, 15, none⟩ = some (.bool d.raw)) ((refine DX.cells (w := w) (bb := bb) ?_; (repeat (first | (with_reducible assumption) | (with_reducible refine DX.drew ?_) | (with_reducible refine DX.low ?_ (by assumption)) | (with_reducible refine DX.prog ?_ (by assumption))))))
      (first
        | (go_at_call 29; (with_reducible refine (E.out _).mono ?_); rintro r w' ⟨rfl, hb⟩)
        | (go_at_call 31; (with_reducible refine (J.out _ (D0.drew.low hb).doc (Nat.le_trans far.2.1 (D0.drew.low hb).turn.size)).mono ?_); rintro r w' ⟨v2, rfl, hd2, hb2⟩))
    all_goals
      have D1 := (D0.drew.low hb).list hb2 hd2
      go_wp2_with fail
      go_meet
      exact ⟨rfl, D1⟩
  case rest =>
    obtain ⟨rfl, D1⟩ := hcut
    clear D0 X0
    have X1 := D1.dx
    go_wp2_with fail
    by_cases he : eT = eR
    · subst he
      go_region_held3 (fun w1 => w1.cell? ⟨w.heap.size, 0, none⟩ = some (.int .i64 d.kind) ∧ w1.cell? ⟨w.heap.size, 1, none⟩ = some (.int .i64 d.n) ∧ w1.cell? ⟨w.heap.size, 2, none⟩ = some (.int .i64 d.ctx) ∧ w1.cell? ⟨w.heap.size, 3, none⟩ = some (.int .u64 d.va) ∧ w1.cell? ⟨w.heap.size, 4, none⟩ = some (.int .i64 d.e.size) ∧ w1.cell? ⟨w.heap.size, 5, none⟩ = some (.int .i64 d.e.ctx) ∧ w1.cell? ⟨w.heap.size, 6, none⟩ = some (.int .u64 d.e.va) ∧ w1.cell? ⟨w.heap.size, 7, none⟩ = some (.int .u64 d.e.pa) ∧ w1.cell? ⟨w.heap.size, 8, none⟩ = some (.bool d.e.att.write) ∧ w1.cell? ⟨w.heap.size, 9, none⟩ = some (.bool d.e.att.priv) ∧ w1.cell? ⟨w.heap.size, 10, none⟩ = some (.bool d.e.att.exec) ∧ w1.cell? ⟨w.heap.size, 11, none⟩ = some (.bool d.e.att.lock) ∧ w1.cell? ⟨w.heap.size, 12, none⟩ = some (.bool d.e.att.global) ∧ w1.cell? ⟨w.heap.size, 13, none⟩ = some (.bool d.e.att.quiet) ∧ w1.cell? ⟨w.heap.size, 14, none⟩ = some (.bool d.e.valid) ∧ w1.cell? ⟨w.heap.size, 15, none⟩ = some (.bool d.raw)) ((refine DX.cells (w := w) (bb := bb) ?_; (repeat (first | (with_reducible assumption) | (with_reducible refine DX.drew ?_) | (with_reducible refine DX.low ?_ (by assumption)) | (with_reducible refine DX.prog ?_ (by assumption))))))
        (first
          | (go_at_call 29; (with_reducible refine (E.out _).mono ?_); rintro r w' ⟨rfl, hb⟩)
          | (go_at_call 32; (with_reducible refine (I.out _ (D1.drew.low hb).tlb).mono ?_); rintro r w' ⟨rfl, ht, tn⟩))
      all_goals
        have D2 := (D1.drew.low hb).prog ht tn
        go_wp2_with fail
        go_ret2
        exact done_of D2 hA.out hA2.out (fun _ => rfl)
    · have he2 := Lib.hid he
      go_region_held3 (fun w1 => w1.cell? ⟨w.heap.size, 0, none⟩ = some (.int .i64 d.kind) ∧ w1.cell? ⟨w.heap.size, 1, none⟩ = some (.int .i64 d.n) ∧ w1.cell? ⟨w.heap.size, 2, none⟩ = some (.int .i64 d.ctx) ∧ w1.cell? ⟨w.heap.size, 3, none⟩ = some (.int .u64 d.va) ∧ w1.cell? ⟨w.heap.size, 4, none⟩ = some (.int .i64 d.e.size) ∧ w1.cell? ⟨w.heap.size, 5, none⟩ = some (.int .i64 d.e.ctx) ∧ w1.cell? ⟨w.heap.size, 6, none⟩ = some (.int .u64 d.e.va) ∧ w1.cell? ⟨w.heap.size, 7, none⟩ = some (.int .u64 d.e.pa) ∧ w1.cell? ⟨w.heap.size, 8, none⟩ = some (.bool d.e.att.write) ∧ w1.cell? ⟨w.heap.size, 9, none⟩ = some (.bool d.e.att.priv) ∧ w1.cell? ⟨w.heap.size, 10, none⟩ = some (.bool d.e.att.exec) ∧ w1.cell? ⟨w.heap.size, 11, none⟩ = some (.bool d.e.att.lock) ∧ w1.cell? ⟨w.heap.size, 12, none⟩ = some (.bool d.e.att.global) ∧ w1.cell? ⟨w.heap.size, 13, none⟩ = some (.bool d.e.att.quiet) ∧ w1.cell? ⟨w.heap.size, 14, none⟩ = some (.bool d.e.valid) ∧ w1.cell? ⟨w.heap.size, 15, none⟩ = some (.bool d.raw)) ((refine DX.cells (w := w) (bb := bb) ?_; (repeat (first | (with_reducible assumption) | (with_reducible refine DX.drew ?_) | (with_reducible refine DX.low ?_ (by assumption)) | (with_reducible refine DX.prog ?_ (by assumption))))))
        (first
          | (go_at_call 29; (with_reducible refine (E.out _).mono ?_); rintro r w' ⟨rfl, hb⟩)
          | (go_at_call 32; (with_reducible refine (I.out _ (D1.drew.low hb).tlb).mono ?_); rintro r w' ⟨rfl, ht, tn⟩))
      all_goals
        have D2 := (D1.drew.low hb).prog ht tn
        go_wp2_with fail
        go_ret2
        exact done_of D2 hA.out hA2.out (fun h => absurd (hTR.out h) he2.out)
end Go.Proofs.Ytbhpljjogmagoaa.Tl
