/-
  YtbhpljjogmagoaaGG: the contracts and plain facts of several texts, laid together. Conditions: those that each theorem names.
-/
import Derived.Test.YtbhpljjogmagoaaGF
import Derived.Deep.RegionHeld3
import Derived.Test.YtbhpljjogmagoaaTGood
import Derived.Laws.StructEq
import Derived.BigQuiet
/-
  Contract of Insert of the document's package for layer 6. Conditions: lists of entries that are there; numbers are what Go's types hold.
-/
namespace Go.Proofs.Ytbhpljjogmagoaa.Tl
open Fld
open Go.ChangeShapes Go.WideShapes Go.ChangeAt Go.RowKit Go.Shelf
set_option maxHeartbeats 4000000
set_option maxRecDepth 100000
/-- Where no lock is in the way, all is stuck just if nothing goes and all have a lock. -/
theorem stuck_doc {R : Nat → Ent} {n : Nat} {e : Ent} (hno : ∀ k, k < n → ((R k).valid && ((R k).att.lock && wayB e (R k))) = false) :
    stuckB R n e = true ↔ (∀ k, k < n → (freeT R n e k).valid = true) ∧ (opens (freeT R n e) n).length = 0 := by
  have h0 : cntE R (fun o => o.att.lock && wayB e o) n = 0 := cntE_zero.2 hno
  unfold stuckB
  rw [h0]
  simp only [Nat.lt_irrefl, decide_false, Bool.false_or, decide_eq_true_eq]
  rw [cntE_all, opens_none]
  constructor
  · intro h
    have hU : ∀ k, k < n → freeT R n e k = R k := fun k hk => by
      have h1 := h k hk
      have h2 := hno k hk
      rw [Bool.and_eq_true] at h1
      rw [h1.1, h1.2] at h2
      simp only [Bool.true_and] at h2
      unfold freeT; rw [dropE_lt hk, h2]; simp
    refine ⟨fun k hk => ?_, fun k hk => ?_⟩
    · rw [hU k hk]; have h1 := h k hk; rw [Bool.and_eq_true] at h1; exact h1.1
    · rw [hU k hk]; have h1 := h k hk; rw [Bool.and_eq_true] at h1; exact h1.2
  · rintro ⟨h1, h2⟩ k hk
    have hU : freeT R n e k = R k := dropE_valid (h1 k hk)
    have a := h1 k hk
    have b := h2 k hk
    rw [hU] at a b
    rw [a, b]; rfl
structure DI (w wr : World) (eb : Nat) (e : Ent) (B g cap n : Nat) (R : Nat → Ent) (v : Value) (U : Nat → Ent) : Prop where
  de : DE w wr eb e B g cap n R
  out : DocAt wr B v n U
theorem DI.low {w wr w' : World} {eb B g cap n : Nat} {e : Ent} {R U : Nat → Ent} {v : Value} (h : DI w wr eb e B g cap n R v U) (hb : Below wr.heap.size wr w') : DI w w' eb e B g cap n R v U := ⟨h.de.low hb, doc_below h.out hb⟩
theorem DI.drew {w wr : World} {eb B g cap n : Nat} {e : Ent} {R U : Nat → Ent} {v : Value} (h : DI w wr eb e B g cap n R v U) : DI w wr.drew eb e B g cap n R v U := ⟨h.de.drew, h.out⟩
theorem DI.sc {w wr : World} {eb B g cap n : Nat} {e : Ent} {R U : Nat → Ent} {v : Value} {i o : Nat} (hi : i < n) (ho : i * 11 = o) (h : DI w wr eb e B g cap n R v U) : wr.cell? ⟨eb, 0, none⟩ = some (.int .i64 e.size) ∧ wr.cell? ⟨eb, 1, none⟩ = some (.int .i64 e.ctx) ∧ wr.cell? ⟨eb, 2, none⟩ = some (.int .u64 e.va) ∧ wr.cell? ⟨eb, 3, none⟩ = some (.int .u64 e.pa) ∧ wr.cell? ⟨eb, 4, none⟩ = some (.bool e.att.write) ∧ wr.cell? ⟨eb, 5, none⟩ = some (.bool e.att.priv) ∧ wr.cell? ⟨eb, 6, none⟩ = some (.bool e.att.exec) ∧ wr.cell? ⟨eb, 7, none⟩ = some (.bool e.att.lock) ∧ wr.cell? ⟨eb, 8, none⟩ = some (.bool e.att.global) ∧ wr.cell? ⟨eb, 9, none⟩ = some (.bool e.att.quiet) ∧ wr.cell? ⟨eb, 10, none⟩ = some (.bool e.valid) ∧ wr.cell? ⟨g, o, none⟩ = some (.int .i64 (R i).size) ∧ wr.cell? ⟨g, o + 1, none⟩ = some (.int .i64 (R i).ctx) ∧ wr.cell? ⟨g, o + 2, none⟩ = some (.int .u64 (R i).va) ∧ wr.cell? ⟨g, o + 3, none⟩ = some (.int .u64 (R i).pa) ∧ wr.cell? ⟨g, o + 4, none⟩ = some (.bool (R i).att.write) ∧ wr.cell? ⟨g, o + 5, none⟩ = some (.bool (R i).att.priv) ∧ wr.cell? ⟨g, o + 6, none⟩ = some (.bool (R i).att.exec) ∧ wr.cell? ⟨g, o + 7, none⟩ = some (.bool (R i).att.lock) ∧ wr.cell? ⟨g, o + 8, none⟩ = some (.bool (R i).att.global) ∧ wr.cell? ⟨g, o + 9, none⟩ = some (.bool (R i).att.quiet) ∧ wr.cell? ⟨g, o + 10, none⟩ = some (.bool (R i).valid) := h.de.sc hi ho
/-- The boxed entry, and one place of a list of numbers. -/
structure DJ (w wr : World) (eb : Nat) (e : Ent) (gi kk : Nat) (q : Int) : Prop where
  bel : Below w.heap.size w wr
  row : RowE wr eb e
  c : wr.cell? ⟨gi, kk, none⟩ = some (.int .i64 q)
theorem DJ.low {w wr w' : World} {eb gi kk : Nat} {e : Ent} {q : Int} (h : DJ w wr eb e gi kk q) (hb : Below wr.heap.size wr w') : DJ w w' eb e gi kk q := ⟨h.bel.trans (hb.mono h.bel.size), h.row.below hb h.row.lt, (hb.cell (p := ⟨gi, kk, none⟩) (lt_cell h.c)).trans h.c⟩
theorem DJ.drew {w wr : World} {eb gi kk : Nat} {e : Ent} {q : Int} (h : DJ w wr eb e gi kk q) : DJ w wr.drew eb e gi kk q := ⟨h.bel.drew, h.row.drew, h.c⟩
theorem DJ.sc {w wr : World} {eb gi kk : Nat} {e : Ent} {q : Int} (h : DJ w wr eb e gi kk q) : wr.cell? ⟨eb, 0, none⟩ = some (.int .i64 e.size) ∧ wr.cell? ⟨eb, 1, none⟩ = some (.int .i64 e.ctx) ∧ wr.cell? ⟨eb, 2, none⟩ = some (.int .u64 e.va) ∧ wr.cell? ⟨eb, 3, none⟩ = some (.int .u64 e.pa) ∧ wr.cell? ⟨eb, 4, none⟩ = some (.bool e.att.write) ∧ wr.cell? ⟨eb, 5, none⟩ = some (.bool e.att.priv) ∧ wr.cell? ⟨eb, 6, none⟩ = some (.bool e.att.exec) ∧ wr.cell? ⟨eb, 7, none⟩ = some (.bool e.att.lock) ∧ wr.cell? ⟨eb, 8, none⟩ = some (.bool e.att.global) ∧ wr.cell? ⟨eb, 9, none⟩ = some (.bool e.att.quiet) ∧ wr.cell? ⟨eb, 10, none⟩ = some (.bool e.valid) ∧ wr.cell? ⟨gi, kk, none⟩ = some (.int .i64 q) := by
  obtain ⟨x0, x1, x2, x3, x4, x5, x6, x7, x8, x9, x10⟩ := h.row.cells
  exact ⟨x0, x1, x2, x3, x4, x5, x6, x7, x8, x9, x10, h.c⟩
theorem ret_vII {v : Value} {i k a b : Int} (h : a = b) (g : i = k) : Ending.returned (.tuple #[v, .int .i64 b, .int .i64 k]) = .returned (.tuple #[v, .int .i64 a, .int .i64 i]) := by subst h; subst g; rfl
theorem grow_ne {wr : World} {C m b : Nat} {v : Value} {xs : List Value} {cs : Array Value} (hO : wr.ownsRow C 3 1 v m xs) (hb : wr.heap[b]? = some (.cells cs 33 (0, 0))) : some b ≠ v.ownBlock := by
  intro h
  rcases hO.2 with ⟨rfl, _⟩ | ⟨g, cap, cur, rfl, _, hg, _⟩
  · cases h
  · simp only [Value.ownBlock, Option.some.injEq] at h
    subst h
    rw [hb] at hg
    injection hg with hg
    injection hg with _ e _
    exact absurd e (by decide)
theorem doc_grow {wr w3 : World} {C m B n : Nat} {v u : Value} {xs : List Value} {R : Nat → Ent} (hO : wr.ownsRow C 3 1 v m xs) (hg : wr.grownBy w3 v.ownBlock) (h : DocAt wr B u n R) : DocAt w3 B u n R := by
  refine ⟨h.1, ?_⟩
  rcases h.2 with hn | ⟨g, cap, cur, rfl, hb2, hgg, rest⟩
  · exact .inl hn
  · exact .inr ⟨g, cap, cur, rfl, hb2, (hg.block g (Array.getElem?_eq_some_iff.1 hgg).1 (grow_ne hO hgg)).trans hgg, rest⟩
theorem DI.grow {w wr w3 : World} {eb B g cap n C m : Nat} {e : Ent} {R U : Nat → Ent} {v u : Value} {xs : List Value} (h : DI w wr eb e B g cap n R u U) (hO : wr.ownsRow C 3 1 v m xs) (hC : w.heap.size ≤ C) (hg : wr.grownBy w3 v.ownBlock) : DI w w3 eb e B g cap n R u U :=
  ⟨⟨h.de.bel.grown hg h.de.bel.size (fun k hk => Nat.le_trans hC (hO.lt k hk).1), ⟨(hg.block eb h.de.row.lt (grow_ne hO h.de.row.row)).trans h.de.row.row⟩, doc_grow hO hg h.de.doc⟩, doc_grow hO hg h.out⟩
theorem rins_any (B g cap n : Nat) (R : Nat → Ent) (e : Ent) (p : Int) (p0 : -9223372036854775808 ≤ p) (p1 : p ≤ 9223372036854775807) (we : e.wf) (hwf : ∀ k, k < n → (R k).wf) (w : World) (h : DocAt w B (.slice (some ⟨g, 0, none⟩) n cap) n R) (hB : B ≤ w.heap.size) (hp : 1 ≤ n) (hn : n ≤ 64) :
    Calls Try.prog 30 #[.slice (some ⟨g, 0, none⟩) n cap, .agg #[.int .i64 e.size, .int .i64 e.ctx, .int .u64 e.va, .int .u64 e.pa, .bool e.att.write, .bool e.att.priv, .bool e.att.exec, .bool e.att.lock, .bool e.att.global, .bool e.att.quiet, .bool e.valid], .int .i64 p] w fun r w' => ∃ v, r = .returned (.tuple #[v, .int .i64 (insN R n e p : Int), .int .i64 (insE R n e)]) ∧ DocAt w' B v n (insT R n e p) ∧ Below w.heap.size w w' := by
  have B1 := box1 w (.cells #[.int .i64 e.size, .int .i64 e.ctx, .int .u64 e.va, .int .u64 e.pa, .bool e.att.write, .bool e.att.priv, .bool e.att.exec, .bool e.att.lock, .bool e.att.global, .bool e.att.quiet, .bool e.valid] 33)
  have R1 := RowE.new w e
  have C1 := Lib.hid (fun W => rmaye_any e we.2.2.1.1 we.2.2.1.2 we.2.2.2.1 we.2.2.2.2 W)
  have CP := Lib.hid (fun (o : Ent) (ho : o.wf) W => rparts_any e o we.2.2.1.1 we.2.2.1.2 ho.2.2.1.1 ho.2.2.1.2 W)
  have hTn := Lib.hid (show insE R n e ≠ 0 → insT R n e p = R ∧ insN R n e p = 0 from fun h => by unfold insT insN; rw [if_neg h, if_neg h]; exact ⟨rfl, rfl⟩)
  have hT0 := Lib.hid (show insE R n e = 0 → insT R n e p = setE (freeT R n e) (roomI (freeT R n e) n p) e ∧ insN R n e p = roomI (freeT R n e) n p from fun h => by unfold insT insN; rw [if_pos h, if_pos h]; exact ⟨rfl, rfl⟩)
  have hcap := doc_cap h hp
  go_enter Try.func30, Try.ntmps30
  go_wp2_with fail
  refine (C1.out _).mono ?_; rintro r w1 ⟨rfl, hb1⟩
  have D1 : DE w w1 w.heap.size e B g cap n R := DE.low ⟨B1, R1, doc_below h B1⟩ hb1
  clear B1 R1 hb1 C1 h
  cases hm : e.mayB
  · have hE := Lib.hid (show insE R n e = 1 by unfold insE; rw [hm]; rfl)
    obtain ⟨hT, hN⟩ := hTn.out (by rw [hE.out]; decide)
    have hT := Lib.hid hT
    have hN := Lib.hid hN
    clear hTn hT0
    go_wp2_with fail
    go_ret3
    exact ⟨_, ret_vII (by rw [hN.out]; rfl) hE.out, by rw [hT.out]; exact D1.doc, D1.bel⟩
  have hE := Lib.hid (show insE R n e = if stuckB R n e then 7 else 0 by unfold insE; rw [hm]; rfl)
  have D2 : DI w w1 w.heap.size e B g cap n R (.slice (some ⟨g, 0, none⟩) n cap) (dropE R (wayB e) 0) := ⟨D1, by rw [dropE_zero]; exact D1.doc⟩
  clear D1
  go_wp2_with fail
  go_loopw [10, 11] (fun v i wr => ∃ j : Nat, j ≤ n ∧ i = .int .i64 (j : Int) ∧ (∀ k, k < j → ((R k).valid && ((R k).att.lock && wayB e (R k))) = false) ∧ DI w wr w.heap.size e B g cap n R v (dropE R (wayB e) j)) (fun _ i _ => n - (intOf i).toNat)
  case atStart => exact ⟨0, by omega, rfl, fun k hk => absurd hk (Nat.not_lt_zero k), D2⟩
  case round =>
    clear D2
    obtain ⟨j, hj, rfl, hno, hD⟩ := hrel
    have hno := Lib.hid hno
    obtain ⟨g2, cap2, rfl, m1, m2, m3, m4, _, _⟩ := doc_at hD.out hp
    unfold maxLen at m2
    by_cases hlt : j < n
    · obtain ⟨o, ho⟩ : ∃ o, j * 11 = o := ⟨_, rfl⟩
      have C := Lib.hid (fun W => CP.out (R j) (hwf j hlt) W)
      have hlt' : (j : Int) < (n : Int) := by omega
      have hAE : (⟨g, 0, none⟩ : Addr).add o = ⟨g, o, none⟩ := by unfold Addr.add; split <;> simp_all
      have hsc := hD.sc hlt ho
      have hno1 := Lib.hid (show ((R j).valid && ((R j).att.lock && wayB e (R j))) = false → ∀ k, k < j + 1 → ((R k).valid && ((R k).att.lock && wayB e (R k))) = false from fun hh k hk => by
        by_cases ek : k = j
        · rw [ek]; exact hh
        · exact hno.out k (by omega))
      have hmiss := Lib.hid (fun h => dropE_miss (T := R) (p := wayB e) (n := j) h)
      have hhit := Lib.hid (fun h => dropE_hit (T := R) (p := wayB e) (n := j) h)
      have hWay := Lib.hid (show wayB e (R j) = !partsB e (R j) from rfl)
      have hcz := Lib.hid (show ((R j).valid && ((R j).att.lock && wayB e (R j))) = true → stuckB R n e = true from fun hh => by
        unfold stuckB
        have : 0 < cntE R (fun o => o.att.lock && wayB e o) n := Nat.pos_of_ne_zero fun h0 => by
          have := cntE_zero.1 h0 j hlt
          rw [hh] at this; cases this
        rw [decide_eq_true this]; rfl)
      clear hno
      generalize partsB e (R j) = PP at *
      go_wp2_with fail
      go_cut [12] (fun p wx => p = .bool PP ∧ DI w wx w.heap.size e B g cap n R (.slice (some ⟨g2, 0, none⟩) n cap2) (dropE R (wayB e) j))
      case first =>
        go_region_held3 (fun w1 => w1.cell? ⟨w.heap.size, 0, none⟩ = some (.int .i64 e.size) ∧ w1.cell? ⟨w.heap.size, 1, none⟩ = some (.int .i64 e.ctx) ∧ w1.cell? ⟨w.heap.size, 2, none⟩ = some (.int .u64 e.va) ∧ w1.cell? ⟨w.heap.size, 3, none⟩ = some (.int .u64 e.pa) ∧ w1.cell? ⟨w.heap.size, 4, none⟩ = some (.bool e.att.write) ∧ w1.cell? ⟨w.heap.size, 5, none⟩ = some (.bool e.att.priv) ∧ w1.cell? ⟨w.heap.size, 6, none⟩ = some (.bool e.att.exec) ∧ w1.cell? ⟨w.heap.size, 7, none⟩ = some (.bool e.att.lock) ∧ w1.cell? ⟨w.heap.size, 8, none⟩ = some (.bool e.att.global) ∧ w1.cell? ⟨w.heap.size, 9, none⟩ = some (.bool e.att.quiet) ∧ w1.cell? ⟨w.heap.size, 10, none⟩ = some (.bool e.valid) ∧ w1.cell? ⟨g, o, none⟩ = some (.int .i64 (R j).size) ∧ w1.cell? ⟨g, o + 1, none⟩ = some (.int .i64 (R j).ctx) ∧ w1.cell? ⟨g, o + 2, none⟩ = some (.int .u64 (R j).va) ∧ w1.cell? ⟨g, o + 3, none⟩ = some (.int .u64 (R j).pa) ∧ w1.cell? ⟨g, o + 4, none⟩ = some (.bool (R j).att.write) ∧ w1.cell? ⟨g, o + 5, none⟩ = some (.bool (R j).att.priv) ∧ w1.cell? ⟨g, o + 6, none⟩ = some (.bool (R j).att.exec) ∧ w1.cell? ⟨g, o + 7, none⟩ = some (.bool (R j).att.lock) ∧ w1.cell? ⟨g, o + 8, none⟩ = some (.bool (R j).att.global) ∧ w1.cell? ⟨g, o + 9, none⟩ = some (.bool (R j).att.quiet) ∧ w1.cell? ⟨g, o + 10, none⟩ = some (.bool (R j).valid)) ((refine DI.sc (w := w) (B := B) (cap := cap) (v := .slice (some ⟨g2, 0, none⟩) n cap2) (U := dropE R (wayB e) j) hlt ho ?_; (repeat (first | (with_reducible assumption) | (with_reducible refine DI.drew ?_) | (with_reducible refine DI.low ?_ (by assumption))))))
          ((go_at_call 19; (with_reducible refine (C.out _).mono ?_); rintro r w' ⟨rfl, hb⟩))
        all_goals
          go_wp2_with fail
          go_meet
          refine ⟨rfl, ?_⟩; (repeat (first | (with_reducible assumption) | (with_reducible refine DI.drew ?_) | (with_reducible refine DI.low ?_ (by assumption))))
      case rest =>
        obtain ⟨rfl, hD2⟩ := hcut
        clear hD hsc C
        obtain ⟨c0, c1, c2, c3, c4, c5, c6, c7, c8, c9, c10⟩ := doc_cells hD2.de.doc hlt ho
        cases hv : (R j).valid
        · have hn1 := Lib.hid (hno1.out (by rw [hv]; rfl))
          have hm2 := Lib.hid (hmiss.out (by rw [hv]; rfl))
          clear hno1 hmiss hhit hcz
          rw [hv] at c10
          go_wp2_with fail
          go_roundw
          case rel => exact ⟨j + 1, by omega, by go_num, hn1.out, by rw [← hm2.out]; exact hD2⟩
          case measure => simp [intOf]; omega
        · cases PP
          · cases hk : (R j).att.lock
            · have hn1 := Lib.hid (hno1.out (by rw [hv, hk]; rfl))
              have hh2 := hhit.out (by rw [hv, hWay.out]; rfl)
              have HW := with_any B g2 cap2 n (dropE R (wayB e) j) j Ent.zero wc hD2.out hn hlt
              rw [hh2] at HW
              have HW := Lib.hid HW
              clear hno1 hmiss hhit hcz hh2
              rw [hv] at c10
              rw [hk] at c7
              go_wp2_with fail
              refine HW.out.mono ?_; rintro r w3 ⟨v3, rfl, hd3, hb3⟩
              have hD3 : DI w w3 w.heap.size e B g cap n R v3 (dropE R (wayB e) (j + 1)) := ⟨hD2.de.low hb3, doc_low hd3 (Nat.le_trans hB hD2.de.bel.size)⟩
              clear hD2 hd3 hb3 HW c0 c1 c2 c3 c4 c5 c6 c7 c8 c9 c10
              go_wp2_with fail
              go_roundw
              case rel => exact ⟨j + 1, by omega, by go_num, hn1.out, hD3⟩
              case measure => simp [intOf]; omega
            · have hE7 := Lib.hid (show insE R n e = 7 by rw [hE.out, hcz.out (by rw [hv, hk, hWay.out]; rfl)]; rfl)
              obtain ⟨hT, hN⟩ := hTn.out (by rw [hE7.out]; decide)
              have hT := Lib.hid hT
              have hN := Lib.hid hN
              clear hno1 hmiss hhit hcz hTn hT0 hE
              rw [hv] at c10
              rw [hk] at c7
              go_wp2_with fail
              go_ret3
              exact ⟨_, ret_vII (by rw [hN.out]; rfl) hE7.out, by rw [hT.out]; exact hD2.de.doc, hD2.de.bel⟩
          · have hn1 := Lib.hid (hno1.out (by rw [hv, hWay.out]; simp))
            have hm2 := Lib.hid (hmiss.out (by rw [hv, hWay.out]; rfl))
            clear hno1 hmiss hhit hcz
            rw [hv] at c10
            go_wp2_with fail
            go_roundw
            case rel => exact ⟨j + 1, by omega, by go_num, hn1.out, by rw [← hm2.out]; exact hD2⟩
            case measure => simp [intOf]; omega
    · obtain rfl : n = j := by omega
      have hst := Lib.hid (stuck_doc hno.out)
      have hU : dropE R (wayB e) n = freeT R n e := rfl
      rw [hU] at hD
      generalize freeT R n e = U at *
      clear hno hU
      obtain ⟨i0, hi, hz0, hz1, hz2⟩ := info_parts infoInt
      go_wp2_with fail
      go_loopw [13, 14] (fun v i wr => ∃ j : Nat, j ≤ n ∧ i = .int .i64 (j : Int) ∧ (∀ k, k < j → (U k).valid = true) ∧ wr.ownsRow w.heap.size 3 1 v (opens U j).length (intsV (opens U j)) ∧ DI w wr w.heap.size e B g cap n R (.slice (some ⟨g2, 0, none⟩) n cap2) U) (fun _ i _ => n - (intOf i).toNat)
      case atStart => exact ⟨0, by omega, rfl, fun k hk => absurd hk (Nat.not_lt_zero k), World.ownsRow_nil _ _ _ _, hD⟩
      case round =>
        clear hD
        obtain ⟨j, hj, rfl, hval, hown, hD⟩ := hrel
        have hlen := opens_length U j
        obtain ⟨ao, cap3, rfl⟩ := own_shape hown
        have hval := Lib.hid hval
        by_cases hlt : j < n
        · obtain ⟨o, ho⟩ : ∃ o, j * 11 = o := ⟨_, rfl⟩
          have hlt' : (j : Int) < (n : Int) := by omega
          have hAE : (⟨g2, 0, none⟩ : Addr).add o = ⟨g2, o, none⟩ := by unfold Addr.add; split <;> simp_all
          obtain ⟨c0, c1, c2, c3, c4, c5, c6, c7, c8, c9, c10⟩ := doc_cells hD.out hlt ho
          cases hv : (U j).valid
          · have hns : stuckB R n e = false := by
              cases hs : stuckB R n e
              · rfl
              · have := (hst.out.1 hs).1 j hlt; rw [hv] at this; cases this
            have hE0 := Lib.hid (show insE R n e = 0 by rw [hE.out, hns]; rfl)
            obtain ⟨hT, hN⟩ := hT0.out hE0.out
            have hrm : roomI U n p = j := by
              have : fst U (fun e => !e.valid) n = j := fst_eq hj (fun k hk => by rw [hval.out k hk]; rfl) (fun _ => by rw [hv]; rfl)
              unfold roomI; rw [this, if_pos hlt]
            rw [hrm] at hT hN
            have hT := Lib.hid hT
            have hN := Lib.hid hN
            have HW := Lib.hid (with_any B g2 cap2 n U j e wr hD.out hn hlt)
            clear hval hst hE hTn hT0 hns hrm hown
            rw [hv] at c10
            obtain ⟨x0, x1, x2, x3, x4, x5, x6, x7, x8, x9, x10⟩ := hD.de.row.cells
            go_wp2_with fail
            refine HW.out.mono ?_; rintro r w3 ⟨v3, rfl, hd3, hb3⟩
            have hB3 := hD.de.bel.trans (hb3.mono hD.de.bel.size)
            have hd4 := doc_low hd3 (Nat.le_trans hB hD.de.bel.size)
            clear hD hd3 hb3 HW c0 c1 c2 c3 c4 c5 c6 c7 c8 c9 c10 x0 x1 x2 x3 x4 x5 x6 x7 x8 x9 x10
            go_wp2_with fail
            go_ret3
            exact ⟨_, ret_vII (by rw [hN.out]) hE0.out, by rw [hT.out]; exact hd4, hB3⟩
          · have hval1 := Lib.hid (show ∀ k, k < j + 1 → (U k).valid = true from fun k hk => by
              by_cases ek : k = j
              · rw [ek]; exact hv
              · exact hval.out k (by omega))
            clear hval
            rw [hv] at c10
            cases hk : (U j).att.lock
            · have HS := Lib.hid (opens_hit (T := U) (n := j) hk)
              rw [hk] at c7
              obtain ⟨m, hm⟩ : ∃ m, (opens U j).length = m := ⟨_, rfl⟩
              have hO1 := hown
              rw [hm] at hO1 hlen ⊢
              have HMM := Lib.hid hm
              clear hm hown
              go_wp2_with (at_builtin; (refine wpList_append_own _ rfl _ _ 45 rfl w.heap.size 3 i0 (.int .i64 0) 1 8 Try.underlying45 hi hz0 hz1 hz2 rfl (by decide) _ _ _ rfl (by exact hO1.alloc _) ⟨wr.heap.size, 0, none⟩ 1 1 [.int .i64 (j : Int)] rfl rfl (by exact news_int wr _ _) (by intro u hu; simp at hu; subst hu; rfl) (by unfold maxLen; omega) (by omega) (by have := hD.de.bel.size; simp; omega) ?_))
              · intro v' w3 hown' hgrow _
                have R3 : w3.ownsRow w.heap.size 3 1 v' (opens U (j + 1)).length (intsV (opens U (j + 1))) := by
                  rw [HS.out, List.length_append, HMM.out, intsV_snoc]; exact hown'
                have hD3 := (hD.low (box1 wr _)).grow (hO1.alloc _) (Nat.le_refl _) hgrow
                clear hown' hgrow hO1 hD c0 c1 c2 c3 c4 c5 c6 c7 c8 c9 c10
                go_wp2_with fail
                go_roundw
                case rel => exact ⟨j + 1, by omega, by go_num, hval1.out, R3, hD3⟩
                case measure => simp [intOf]; omega
            · have HM := Lib.hid (opens_miss (T := U) (n := j) hk)
              rw [hk] at c7
              go_wp2_with fail
              go_roundw
              case rel => exact ⟨j + 1, by omega, by go_num, hval1.out, by rw [HM.out]; exact hown, hD⟩
              case measure => simp [intOf]; omega
        · obtain rfl : n = j := by omega
          by_cases h0 : (opens U n).length = 0
          · have hs : stuckB R n e = true := hst.out.2 ⟨hval.out, h0⟩
            have hE7 := Lib.hid (show insE R n e = 7 by rw [hE.out, hs]; rfl)
            obtain ⟨hT, hN⟩ := hTn.out (by rw [hE7.out]; decide)
            have hT := Lib.hid hT
            have hN := Lib.hid hN
            clear hval hst hE hTn hT0 hs hown
            rw [h0]
            go_wp2_with fail
            go_ret3
            exact ⟨_, ret_vII (by rw [hN.out]; rfl) hE7.out, by rw [hT.out]; exact hD.de.doc, hD.de.bel⟩
          · have hpos : 0 < (opens U n).length := by omega
            have hns : stuckB R n e = false := by
              cases hs : stuckB R n e
              · rfl
              · exact absurd (hst.out.1 hs).2 h0
            have hE0 := Lib.hid (show insE R n e = 0 by rw [hE.out, hns]; rfl)
            obtain ⟨hT, hN⟩ := hT0.out hE0.out
            obtain ⟨gi, cap4, hsl, hcap4, hmx4, hcl⟩ := own_some hown hpos
            have hpk := pickN_lt p hpos
            have hcell := hcl _ hpk
            obtain ⟨q, hq1, hq2, hq3⟩ := pick_at p hpos
            have hall : fst U (fun e => !e.valid) n = n := fst_none.2 fun k hk => by rw [hval.out k hk]; rfl
            have hR : roomI U n p = q := by unfold roomI; rw [hall, if_neg (by omega), hq3]; simp
            have hgl : (opens U n)[pickN U n p] = (q : Int) := by
              rw [List.getD_eq_getElem?_getD, List.getElem?_eq_getElem hpk] at hq3; exact hq3
            rw [hgl] at hcell
            rw [hR] at hT hN
            obtain ⟨m, hm⟩ : ∃ m, (opens U n).length = m := ⟨_, rfl⟩
            have hpd := pickP_bd p0 p1
            have hPN : (pickP p).tmod (m : Int) = (pickN U n p : Int) := by
              unfold pickN; rw [hm, Int.tmod_eq_emod_of_nonneg hpd.1, Int.toNat_of_nonneg (Int.emod_nonneg _ (by omega))]
            simp only [Value.slice.injEq, true_and] at hsl
            obtain ⟨rfl, rfl⟩ := hsl
            rw [hm] at hpk hpos hlen h0 hcap4 ⊢
            unfold maxLen at hmx4
            have hJ : DJ w wr w.heap.size e gi (pickN U n p) (q : Int) := ⟨hD.de.bel, hD.de.row, hcell⟩
            have hdo := Lib.hid hD.out
            have hT := Lib.hid hT
            have hN := Lib.hid hN
            have HW := Lib.hid (fun W (hb : Below wr.heap.size wr W) => with_any B g2 cap2 n U q e W (doc_below hD.out hb) hn hq1)
            generalize pickN U n p = kk at *
            have hAE : (⟨gi, 0, none⟩ : Addr).add kk = ⟨gi, kk, none⟩ := by unfold Addr.add; split <;> simp_all
            clear hown hcl hgl hq3 hcell hval hst hE hTn hT0 hns hall hR hq2 hm
            have hsj := hJ.sc
            by_cases hneg : p < 0
            · have e1 : pickP p = -1 - p := by unfold pickP; rw [if_pos hneg]
              have e2 : (-(p + 1)).tmod (m : Int) = (kk : Int) := by rw [← hPN, e1]; congr 1; omega
              go_wp2_with fail
              go_region_held3 (fun w1 => w1.cell? ⟨w.heap.size, 0, none⟩ = some (.int .i64 e.size) ∧ w1.cell? ⟨w.heap.size, 1, none⟩ = some (.int .i64 e.ctx) ∧ w1.cell? ⟨w.heap.size, 2, none⟩ = some (.int .u64 e.va) ∧ w1.cell? ⟨w.heap.size, 3, none⟩ = some (.int .u64 e.pa) ∧ w1.cell? ⟨w.heap.size, 4, none⟩ = some (.bool e.att.write) ∧ w1.cell? ⟨w.heap.size, 5, none⟩ = some (.bool e.att.priv) ∧ w1.cell? ⟨w.heap.size, 6, none⟩ = some (.bool e.att.exec) ∧ w1.cell? ⟨w.heap.size, 7, none⟩ = some (.bool e.att.lock) ∧ w1.cell? ⟨w.heap.size, 8, none⟩ = some (.bool e.att.global) ∧ w1.cell? ⟨w.heap.size, 9, none⟩ = some (.bool e.att.quiet) ∧ w1.cell? ⟨w.heap.size, 10, none⟩ = some (.bool e.valid) ∧ w1.cell? ⟨gi, kk, none⟩ = some (.int .i64 (q : Int))) ((refine DJ.sc (w := w) ?_; (repeat (first | (with_reducible assumption) | (with_reducible refine DJ.drew ?_) | (with_reducible refine DJ.low ?_ (by assumption))))))
                ((go_at_call 57; (refine (HW.out wr.drew (Below.refl _ _).drew).mono ?_); rintro r w' ⟨v3, rfl, hd3, hb⟩))
              all_goals
                have hB3 : Below w.heap.size w w' := hD.de.bel.trans ((Below.refl _ _).drew.trans (hb.mono (Nat.le_refl _)) |>.mono hD.de.bel.size)
                have hd4 := doc_low hd3 (show B ≤ wr.drew.heap.size from Nat.le_trans hB hD.de.bel.size)
                go_wp2_with fail
                go_ret3
                exact ⟨_, ret_vII (by rw [hN.out]) hE0.out, by rw [hT.out]; exact hd4, hB3⟩
            · have e1 : pickP p = p := by unfold pickP; rw [if_neg hneg]
              rw [e1] at hPN hpd
              go_wp2_with fail
              go_region_held3 (fun w1 => w1.cell? ⟨w.heap.size, 0, none⟩ = some (.int .i64 e.size) ∧ w1.cell? ⟨w.heap.size, 1, none⟩ = some (.int .i64 e.ctx) ∧ w1.cell? ⟨w.heap.size, 2, none⟩ = some (.int .u64 e.va) ∧ w1.cell? ⟨w.heap.size, 3, none⟩ = some (.int .u64 e.pa) ∧ w1.cell? ⟨w.heap.size, 4, none⟩ = some (.bool e.att.write) ∧ w1.cell? ⟨w.heap.size, 5, none⟩ = some (.bool e.att.priv) ∧ w1.cell? ⟨w.heap.size, 6, none⟩ = some (.bool e.att.exec) ∧ w1.cell? ⟨w.heap.size, 7, none⟩ = some (.bool e.att.lock) ∧ w1.cell? ⟨w.heap.size, 8, none⟩ = some (.bool e.att.global) ∧ w1.cell? ⟨w.heap.size, 9, none⟩ = some (.bool e.att.quiet) ∧ w1.cell? ⟨w.heap.size, 10, none⟩ = some (.bool e.valid) ∧ w1.cell? ⟨gi, kk, none⟩ = some (.int .i64 (q : Int))) ((refine DJ.sc (w := w) ?_; (repeat (first | (with_reducible assumption) | (with_reducible refine DJ.drew ?_) | (with_reducible refine DJ.low ?_ (by assumption))))))
                ((go_at_call 57; (refine (HW.out wr.drew (Below.refl _ _).drew).mono ?_); rintro r w' ⟨v3, rfl, hd3, hb⟩))
              all_goals
                have hB3 : Below w.heap.size w w' := hD.de.bel.trans ((Below.refl _ _).drew.trans (hb.mono (Nat.le_refl _)) |>.mono hD.de.bel.size)
                have hd4 := doc_low hd3 (show B ≤ wr.drew.heap.size from Nat.le_trans hB hD.de.bel.size)
                go_wp2_with fail
                go_ret3
                exact ⟨_, ret_vII (by rw [hN.out]) hE0.out, by rw [hT.out]; exact hd4, hB3⟩
end Go.Proofs.Ytbhpljjogmagoaa.Tl
/-
  A deed of the laws of layer 6, and the entry that it speaks of. Conditions: numbers are what Go's types hold.
-/
namespace Go.Proofs.Ytbhpljjogmagoaa.Tl
open Fld
open Go.ChangeShapes Go.WideShapes Go.ChangeAt Go.RowKit Go.Shelf
set_option maxHeartbeats 1000000
set_option maxRecDepth 100000
structure DeedV where
  kind : Int
  n : Int
  ctx : Int
  va : Int
  e : Ent
  raw : Bool
structure DeedV.wf (d : DeedV) : Prop where
  n0 : -9223372036854775808 ≤ d.n
  n1 : d.n ≤ 9223372036854775807
  v0 : 0 ≤ d.va
  v1 : d.va ≤ 18446744073709551615
  e : d.e.wf
def DeedV.ent (d : DeedV) : Ent := if d.raw then d.e else d.e.good
theorem ok_wf {g : Ent} (h : g.Ok) : g.wf := by
  have h1 := h.fit.s0; have h2 := h.fit.s1; have h3 := h.fit.c0; have h4 := h.fit.c1; have h5 := h.fit.p0; have h6 := h.p1
  exact ⟨⟨by omega, by omega⟩, ⟨by omega, by omega⟩, ⟨h.v0, h.v1⟩, ⟨h5, h6⟩⟩
theorem DeedV.wf.ent {d : DeedV} (h : d.wf) : d.ent.wf := by
  unfold DeedV.ent; split
  · exact h.e
  · exact ok_wf (Ent.good_ok _)
/-- What a deed does with places. -/
def act (T : Nat → Ent) (n : Nat) (d : DeedV) : Nat → Ent :=
  if d.kind = 0 then insT T n d.ent d.n else if d.kind = 1 then putT T n d.n d.ent else if d.kind = 2 then dropE T (fun e => e.hitsB d.va d.ctx) n
  else if d.kind = 3 then dropE T (fun e => !e.att.global && e.ctx == d.ctx) n else if d.kind = 4 then dropE T (fun e => !e.att.lock) n else if d.kind = 5 then clearT T n d.n else T
theorem Ok.act {T : Nat → Ent} {n : Nat} (h : Ok T n) {d : DeedV} (hd : d.wf) : Ok (Tl.act T n d) n := by
  unfold Tl.act
  split
  · exact h.ins hd.ent _
  · split
    · exact h.put hd.ent _
    · split
      · exact h.drop _ _
      · split
        · exact h.drop _ _
        · split
          · exact h.drop _ _
          · split
            · exact h.clearT _
            · exact h
theorem entry_any (d : DeedV) (hd : d.wf) (w : World) :
    Calls Try.prog 29 #[.agg #[.int .i64 d.kind, .int .i64 d.n, .int .i64 d.ctx, .int .u64 d.va, .int .i64 d.e.size, .int .i64 d.e.ctx, .int .u64 d.e.va, .int .u64 d.e.pa, .bool d.e.att.write, .bool d.e.att.priv, .bool d.e.att.exec, .bool d.e.att.lock, .bool d.e.att.global, .bool d.e.att.quiet, .bool d.e.valid, .bool d.raw]] w fun r w' => r = .returned (.agg #[.int .i64 d.ent.size, .int .i64 d.ent.ctx, .int .u64 d.ent.va, .int .u64 d.ent.pa, .bool d.ent.att.write, .bool d.ent.att.priv, .bool d.ent.att.exec, .bool d.ent.att.lock, .bool d.ent.att.global, .bool d.ent.att.quiet, .bool d.ent.valid]) ∧ Below w.heap.size w w' := by
  have B0 : Below w.heap.size w ((w.alloc (.cells #[.int .i64 d.kind, .int .i64 d.n, .int .i64 d.ctx, .int .u64 d.va, .int .i64 d.e.size, .int .i64 d.e.ctx, .int .u64 d.e.va, .int .u64 d.e.pa, .bool d.e.att.write, .bool d.e.att.priv, .bool d.e.att.exec, .bool d.e.att.lock, .bool d.e.att.global, .bool d.e.att.quiet, .bool d.e.valid, .bool d.raw] 35)).alloc (.cells #[.int .i64 0, .int .i64 0, .int .u64 0, .int .u64 0, .bool false, .bool false, .bool false, .bool false, .bool false, .bool false, .bool false] 33)) := ((Below.refl _ _).alloc (Nat.le_refl _) _).alloc (by simp) _
  have R0 : RowE ((w.alloc (.cells #[.int .i64 d.kind, .int .i64 d.n, .int .i64 d.ctx, .int .u64 d.va, .int .i64 d.e.size, .int .i64 d.e.ctx, .int .u64 d.e.va, .int .u64 d.e.pa, .bool d.e.att.write, .bool d.e.att.priv, .bool d.e.att.exec, .bool d.e.att.lock, .bool d.e.att.global, .bool d.e.att.quiet, .bool d.e.valid, .bool d.raw] 35)).alloc (.cells #[.int .i64 0, .int .i64 0, .int .u64 0, .int .u64 0, .bool false, .bool false, .bool false, .bool false, .bool false, .bool false, .bool false] 33)) (w.heap.size + 1) Ent.zero := by
    have := RowE.new (w.alloc (.cells #[.int .i64 d.kind, .int .i64 d.n, .int .i64 d.ctx, .int .u64 d.va, .int .i64 d.e.size, .int .i64 d.e.ctx, .int .u64 d.e.va, .int .u64 d.e.pa, .bool d.e.att.write, .bool d.e.att.priv, .bool d.e.att.exec, .bool d.e.att.lock, .bool d.e.att.global, .bool d.e.att.quiet, .bool d.e.valid, .bool d.raw] 35)) Ent.zero
    rwa [World.size_alloc] at this
  have H := good_any d.e hd.e
  cases hr : d.raw
  · have he : d.ent = d.e.good := by unfold DeedV.ent; rw [hr]; rfl
    rw [he]
    rw [hr] at B0 R0
    generalize d.e.good = G at *
    have H := Lib.hid H
    clear he
    go_enter Try.func29, Try.ntmps29
    go_wp2_with fail
    refine (H.out _).mono ?_; rintro r w1 ⟨rfl, hb1⟩
    have R1 := R0.below hb1 R0.lt
    have B1 := B0.trans (hb1.mono B0.size)
    obtain ⟨r0, r1, r2, r3, r4, r5, r6, r7, r8, r9, r10⟩ := R1.cells
    have fr := R1.frozen
    clear R0 B0 hb1 H
    go_wp2_with fail
    have R2 := R1.setAll (e := G)
    (try simp only [Exit.inBlock, Exit.then])
    refine bodyPost_ret (results_cell_row rfl _ _ _ _ _ (0, 0) _ rfl R2.row Try.underlying33 (by kernel_rfl) (by kernel_rfl)) rfl ⟨rfl, ?_⟩
    iterate 11 refine below_setN ?_ (by omega)
    exact B1
  · have he : d.ent = d.e := by unfold DeedV.ent; rw [hr]; rfl
    rw [he]
    clear he H B0 R0
    have R2 := RowE.new (w.alloc (.cells #[.int .i64 d.kind, .int .i64 d.n, .int .i64 d.ctx, .int .u64 d.va, .int .i64 d.e.size, .int .i64 d.e.ctx, .int .u64 d.e.va, .int .u64 d.e.pa, .bool d.e.att.write, .bool d.e.att.priv, .bool d.e.att.exec, .bool d.e.att.lock, .bool d.e.att.global, .bool d.e.att.quiet, .bool d.e.valid, .bool d.raw] 35)) d.e
    have B2 : Below w.heap.size w ((w.alloc (.cells #[.int .i64 d.kind, .int .i64 d.n, .int .i64 d.ctx, .int .u64 d.va, .int .i64 d.e.size, .int .i64 d.e.ctx, .int .u64 d.e.va, .int .u64 d.e.pa, .bool d.e.att.write, .bool d.e.att.priv, .bool d.e.att.exec, .bool d.e.att.lock, .bool d.e.att.global, .bool d.e.att.quiet, .bool d.e.valid, .bool d.raw] 35)).alloc (.cells #[.int .i64 d.e.size, .int .i64 d.e.ctx, .int .u64 d.e.va, .int .u64 d.e.pa, .bool d.e.att.write, .bool d.e.att.priv, .bool d.e.att.exec, .bool d.e.att.lock, .bool d.e.att.global, .bool d.e.att.quiet, .bool d.e.valid] 33)) := ((Below.refl _ _).alloc (Nat.le_refl _) _).alloc (by simp) _
    rw [World.size_alloc] at R2
    rw [hr] at R2 B2
    go_enter Try.func29, Try.ntmps29
    go_wp2_with fail
    (try simp only [Exit.inBlock, Exit.then])
    refine bodyPost_ret (results_cell_row rfl _ _ _ _ _ (0, 0) _ rfl R2.row Try.underlying33 (by kernel_rfl) (by kernel_rfl)) rfl ⟨rfl, ?_⟩
    exact B2
/-- A deed under way: the program's places, the document's list, the deed's box. -/
structure DS (w wr : World) (sb bb n : Nat) (T : Nat → Ent) (B : Nat) (v : Value) (R : Nat → Ent) (db : Nat) (d : DeedV) : Prop where
  tlb : TlbAt wr sb bb n T
  doc : DocAt wr B v n R
  box : wr.heap[db]? = some (.cells #[.int .i64 d.kind, .int .i64 d.n, .int .i64 d.ctx, .int .u64 d.va, .int .i64 d.e.size, .int .i64 d.e.ctx, .int .u64 d.e.va, .int .u64 d.e.pa, .bool d.e.att.write, .bool d.e.att.priv, .bool d.e.att.exec, .bool d.e.att.lock, .bool d.e.att.global, .bool d.e.att.quiet, .bool d.e.valid, .bool d.raw] 35 (0, 0))
  turn : Turn w wr bb
  far : bb < B ∧ B ≤ w.heap.size ∧ w.heap.size ≤ db
theorem DS.lt {w wr : World} {sb bb n B db : Nat} {T R : Nat → Ent} {v : Value} {d : DeedV} (h : DS w wr sb bb n T B v R db d) : db < wr.heap.size := (Array.getElem?_eq_some_iff.1 h.box).1
theorem DS.low {w wr w' : World} {sb bb n B db : Nat} {T R : Nat → Ent} {v : Value} {d : DeedV} (h : DS w wr sb bb n T B v R db d) (hb : Below wr.heap.size wr w') : DS w w' sb bb n T B v R db d :=
  ⟨h.tlb.low hb, doc_below h.doc hb, (hb.block _ h.lt).trans h.box, h.turn.call hb, h.far⟩
theorem DS.prog {w wr w' : World} {sb bb n B db : Nat} {T U R : Nat → Ent} {v : Value} {d : DeedV} (h : DS w wr sb bb n T B v R db d) (ht : TlbAt w' sb bb n U) (hb : Turn wr w' bb) : DS w w' sb bb n U B v R db d :=
  ⟨ht, doc_turn h.doc hb h.far.1, (hb.block _ h.lt (by have := h.far; omega)).trans h.box, h.turn.trans hb, h.far⟩
theorem DS.list {w wr w' : World} {sb bb n B db : Nat} {T R S : Nat → Ent} {v u : Value} {d : DeedV} (h : DS w wr sb bb n T B v R db d) (hb : Below wr.heap.size wr w') (hd : DocAt w' B u n S) : DS w w' sb bb n T B u S db d :=
  ⟨h.tlb.low hb, hd, (hb.block _ h.lt).trans h.box, h.turn.call hb, h.far⟩
theorem DS.drew {w wr : World} {sb bb n B db : Nat} {T R : Nat → Ent} {v : Value} {d : DeedV} (h : DS w wr sb bb n T B v R db d) : DS w wr.drew sb bb n T B v R db d :=
  ⟨h.tlb.drew, h.doc, h.box, h.turn.drew, h.far⟩
theorem DS.drewN {w wr : World} {sb bb n B db : Nat} {T R : Nat → Ent} {v : Value} {d : DeedV} (h : DS w wr sb bb n T B v R db d) (m : Nat) : DS w (wr.drewN m) sb bb n T B v R db d :=
  ⟨h.tlb.same rfl rfl, h.doc, h.box, h.turn.drewN m, h.far⟩
theorem DS.cells {w wr : World} {sb bb n B db : Nat} {T R : Nat → Ent} {v : Value} {d : DeedV} (h : DS w wr sb bb n T B v R db d) : wr.cell? ⟨db, 0, none⟩ = some (.int .i64 d.kind) ∧ wr.cell? ⟨db, 1, none⟩ = some (.int .i64 d.n) ∧ wr.cell? ⟨db, 2, none⟩ = some (.int .i64 d.ctx) ∧ wr.cell? ⟨db, 3, none⟩ = some (.int .u64 d.va) ∧ wr.cell? ⟨db, 4, none⟩ = some (.int .i64 d.e.size) ∧ wr.cell? ⟨db, 5, none⟩ = some (.int .i64 d.e.ctx) ∧ wr.cell? ⟨db, 6, none⟩ = some (.int .u64 d.e.va) ∧ wr.cell? ⟨db, 7, none⟩ = some (.int .u64 d.e.pa) ∧ wr.cell? ⟨db, 8, none⟩ = some (.bool d.e.att.write) ∧ wr.cell? ⟨db, 9, none⟩ = some (.bool d.e.att.priv) ∧ wr.cell? ⟨db, 10, none⟩ = some (.bool d.e.att.exec) ∧ wr.cell? ⟨db, 11, none⟩ = some (.bool d.e.att.lock) ∧ wr.cell? ⟨db, 12, none⟩ = some (.bool d.e.att.global) ∧ wr.cell? ⟨db, 13, none⟩ = some (.bool d.e.att.quiet) ∧ wr.cell? ⟨db, 14, none⟩ = some (.bool d.e.valid) ∧ wr.cell? ⟨db, 15, none⟩ = some (.bool d.raw) :=
  ⟨cell_of_row _ _ 0 _ _ _ h.box, cell_of_row _ _ 1 _ _ _ h.box, cell_of_row _ _ 2 _ _ _ h.box, cell_of_row _ _ 3 _ _ _ h.box, cell_of_row _ _ 4 _ _ _ h.box, cell_of_row _ _ 5 _ _ _ h.box, cell_of_row _ _ 6 _ _ _ h.box, cell_of_row _ _ 7 _ _ _ h.box, cell_of_row _ _ 8 _ _ _ h.box, cell_of_row _ _ 9 _ _ _ h.box, cell_of_row _ _ 10 _ _ _ h.box, cell_of_row _ _ 11 _ _ _ h.box, cell_of_row _ _ 12 _ _ _ h.box, cell_of_row _ _ 13 _ _ _ h.box, cell_of_row _ _ 14 _ _ _ h.box, cell_of_row _ _ 15 _ _ _ h.box⟩
theorem DS.start {w : World} {sb bb n B : Nat} {T R : Nat → Ent} {v : Value} (d : DeedV) (ht : TlbAt w sb bb n T) (hd : DocAt w B v n R) (h1 : bb < B) (h2 : B ≤ w.heap.size) : DS w (w.alloc (.cells #[.int .i64 d.kind, .int .i64 d.n, .int .i64 d.ctx, .int .u64 d.va, .int .i64 d.e.size, .int .i64 d.e.ctx, .int .u64 d.e.va, .int .u64 d.e.pa, .bool d.e.att.write, .bool d.e.att.priv, .bool d.e.att.exec, .bool d.e.att.lock, .bool d.e.att.global, .bool d.e.att.quiet, .bool d.e.valid, .bool d.raw] 35)) sb bb n T B v R w.heap.size d :=
  ⟨ht.low (box1 _ _), doc_below hd (box1 _ _), heap_alloc_new _ _, Turn.of_below _ (box1 _ _), ⟨h1, h2, Nat.le_refl _⟩⟩
/-- What a deed has done. -/
def Done (w : World) (sb bb n : Nat) (T : Nat → Ent) (B : Nat) (R : Nat → Ent) (d : DeedV) (r : Ending) (w' : World) : Prop :=
  ∃ v b, r = .returned (.tuple #[v, .bool b]) ∧ TlbAt w' sb bb n (act T n d) ∧ DocAt w' B v n (act R n d) ∧ Turn w w' bb ∧ (T = R → b = true)
theorem done_of {w wr : World} {sb bb n B db : Nat} {T R U S : Nat → Ent} {v : Value} {b : Bool} {d : DeedV} (h : DS w wr sb bb n U B v S db d) (hU : act T n d = U) (hS : act R n d = S) (hb : T = R → b = true) : Done w sb bb n T B R d (.returned (.tuple #[v, .bool b])) wr :=
  ⟨v, b, rfl, by rw [hU]; exact h.tlb, by rw [hS]; exact h.doc, h.turn, hb⟩
end Go.Proofs.Ytbhpljjogmagoaa.Tl
/-
  The deeds of the laws of layer 6: those that take away (kinds 2 to 5). Conditions: numbers are what Go's types hold.
-/
namespace Go.Proofs.Ytbhpljjogmagoaa.Tl
open Fld
open Go.ChangeShapes Go.WideShapes Go.ChangeAt Go.RowKit Go.Shelf
set_option maxHeartbeats 4000000
set_option maxRecDepth 100000
theorem does2 {sb bb n B : Nat} {T R : Nat → Ent} {v : Value} (d : DeedV) (hd : d.wf) (hk : d.kind = 2) (w : World) (ht : TlbAt w sb bb n T) (hdoc : DocAt w B v n R) (hR : ∀ k, k < n → (R k).wf) (h1 : bb < B) (h2 : B ≤ w.heap.size) :
    Calls Try.prog 12 #[.pointer (some ⟨sb, 0, none⟩), v, .agg #[.int .i64 d.kind, .int .i64 d.n, .int .i64 d.ctx, .int .u64 d.va, .int .i64 d.e.size, .int .i64 d.e.ctx, .int .u64 d.e.va, .int .u64 d.e.pa, .bool d.e.att.write, .bool d.e.att.priv, .bool d.e.att.exec, .bool d.e.att.lock, .bool d.e.att.global, .bool d.e.att.quiet, .bool d.e.valid, .bool d.raw]] w (Done w sb bb n T B R d) := by
  obtain ⟨g, cap, rfl, _, _, _, _, _, _⟩ := doc_at hdoc ht.pos
  have D0 := DS.start d ht hdoc h1 h2
  have hA := Lib.hid (show act T n d = dropE T (fun e => e.hitsB d.va d.ctx) n by unfold act; rw [hk]; simp)
  have hA2 := Lib.hid (show act R n d = dropE R (fun e => e.hitsB d.va d.ctx) n by unfold act; rw [hk]; simp)
  have hp := ht.pos
  have hn := ht.le
  have hz : B ≤ (w.alloc (.cells #[.int .i64 d.kind, .int .i64 d.n, .int .i64 d.ctx, .int .u64 d.va, .int .i64 d.e.size, .int .i64 d.e.ctx, .int .u64 d.e.va, .int .u64 d.e.pa, .bool d.e.att.write, .bool d.e.att.priv, .bool d.e.att.exec, .bool d.e.att.lock, .bool d.e.att.global, .bool d.e.att.quiet, .bool d.e.valid, .bool d.raw] 35)).heap.size := by simp; omega
  have C1 := Lib.hid (rdpage_any B g cap n R d.va d.ctx hd.v0 hd.v1 hR (w.alloc (.cells #[.int .i64 d.kind, .int .i64 d.n, .int .i64 d.ctx, .int .u64 d.va, .int .i64 d.e.size, .int .i64 d.e.ctx, .int .u64 d.e.va, .int .u64 d.e.pa, .bool d.e.att.write, .bool d.e.att.priv, .bool d.e.att.exec, .bool d.e.att.lock, .bool d.e.att.global, .bool d.e.att.quiet, .bool d.e.valid, .bool d.raw] 35)) D0.doc hz hp hn)
  have C2 := Lib.hid (fun W (hW : TlbAt W sb bb n T) => dpage_any d.va d.ctx hd.v0 hd.v1 W hW)
  obtain ⟨c0, c1, c2, c3, c4, c5, c6, c7, c8, c9, c10, c11, c12, c13, c14, c15⟩ := D0.cells
  rw [hk] at c0 C1 D0
  clear ht hdoc
  go_enter Try.func12, Try.ntmps12
  go_wp2_with fail
  refine C1.out.mono ?_; rintro r w1 ⟨v1, rfl, hd1, hb1⟩
  have D1 := D0.list hb1 hd1
  clear D0 hd1 hb1 C1
  clear c0 c1 c2 c3 c4 c5 c6 c7 c8 c9 c10 c11 c12 c13 c14 c15
  obtain ⟨c0, c1, c2, c3, c4, c5, c6, c7, c8, c9, c10, c11, c12, c13, c14, c15⟩ := D1.cells
  go_wp2_with fail
  refine (C2.out w1 D1.tlb).mono ?_; rintro r w2 ⟨rfl, ht2, tn2⟩
  have D2 := D1.prog ht2 tn2
  clear D1 ht2 tn2 C2
  clear c0 c1 c2 c3 c4 c5 c6 c7 c8 c9 c10 c11 c12 c13 c14 c15
  by_cases hq : cntE T (fun e => e.hitsB d.va d.ctx) n = cntE R (fun e => e.hitsB d.va d.ctx) n
  · rw [hq]
    go_wp2_with fail
    go_ret2
    exact done_of D2 hA.out hA2.out (fun _ => rfl)
  · have hq' : ¬ ((cntE T (fun e => e.hitsB d.va d.ctx) n : Int) = (cntE R (fun e => e.hitsB d.va d.ctx) n : Int)) := by omega
    have hq2 := Lib.hid hq
    go_wp2_with fail
    go_ret2
    exact done_of D2 hA.out hA2.out (fun h => absurd (by rw [h]) hq2.out)

theorem does3 {sb bb n B : Nat} {T R : Nat → Ent} {v : Value} (d : DeedV) (_hd : d.wf) (hk : d.kind = 3) (w : World) (ht : TlbAt w sb bb n T) (hdoc : DocAt w B v n R) (hR : ∀ k, k < n → (R k).wf) (h1 : bb < B) (h2 : B ≤ w.heap.size) :
    Calls Try.prog 12 #[.pointer (some ⟨sb, 0, none⟩), v, .agg #[.int .i64 d.kind, .int .i64 d.n, .int .i64 d.ctx, .int .u64 d.va, .int .i64 d.e.size, .int .i64 d.e.ctx, .int .u64 d.e.va, .int .u64 d.e.pa, .bool d.e.att.write, .bool d.e.att.priv, .bool d.e.att.exec, .bool d.e.att.lock, .bool d.e.att.global, .bool d.e.att.quiet, .bool d.e.valid, .bool d.raw]] w (Done w sb bb n T B R d) := by
  obtain ⟨g, cap, rfl, _, _, _, _, _, _⟩ := doc_at hdoc ht.pos
  have D0 := DS.start d ht hdoc h1 h2
  have hA := Lib.hid (show act T n d = dropE T (fun e => !e.att.global && e.ctx == d.ctx) n by unfold act; rw [hk]; simp)
  have hA2 := Lib.hid (show act R n d = dropE R (fun e => !e.att.global && e.ctx == d.ctx) n by unfold act; rw [hk]; simp)
  have hp := ht.pos
  have hn := ht.le
  have hz : B ≤ (w.alloc (.cells #[.int .i64 d.kind, .int .i64 d.n, .int .i64 d.ctx, .int .u64 d.va, .int .i64 d.e.size, .int .i64 d.e.ctx, .int .u64 d.e.va, .int .u64 d.e.pa, .bool d.e.att.write, .bool d.e.att.priv, .bool d.e.att.exec, .bool d.e.att.lock, .bool d.e.att.global, .bool d.e.att.quiet, .bool d.e.valid, .bool d.raw] 35)).heap.size := by simp; omega
  have C1 := Lib.hid (rdctx_any B g cap n R d.ctx hR (w.alloc (.cells #[.int .i64 d.kind, .int .i64 d.n, .int .i64 d.ctx, .int .u64 d.va, .int .i64 d.e.size, .int .i64 d.e.ctx, .int .u64 d.e.va, .int .u64 d.e.pa, .bool d.e.att.write, .bool d.e.att.priv, .bool d.e.att.exec, .bool d.e.att.lock, .bool d.e.att.global, .bool d.e.att.quiet, .bool d.e.valid, .bool d.raw] 35)) D0.doc hz hp hn)
  have C2 := Lib.hid (fun W (hW : TlbAt W sb bb n T) => dctx_any d.ctx W hW)
  obtain ⟨c0, c1, c2, c3, c4, c5, c6, c7, c8, c9, c10, c11, c12, c13, c14, c15⟩ := D0.cells
  rw [hk] at c0 C1 D0
  clear ht hdoc
  go_enter Try.func12, Try.ntmps12
  go_wp2_with fail
  refine C1.out.mono ?_; rintro r w1 ⟨v1, rfl, hd1, hb1⟩
  have D1 := D0.list hb1 hd1
  clear D0 hd1 hb1 C1
  clear c0 c1 c2 c3 c4 c5 c6 c7 c8 c9 c10 c11 c12 c13 c14 c15
  obtain ⟨c0, c1, c2, c3, c4, c5, c6, c7, c8, c9, c10, c11, c12, c13, c14, c15⟩ := D1.cells
  go_wp2_with fail
  refine (C2.out w1 D1.tlb).mono ?_; rintro r w2 ⟨rfl, ht2, tn2⟩
  have D2 := D1.prog ht2 tn2
  clear D1 ht2 tn2 C2
  clear c0 c1 c2 c3 c4 c5 c6 c7 c8 c9 c10 c11 c12 c13 c14 c15
  by_cases hq : cntE T (fun e => !e.att.global && e.ctx == d.ctx) n = cntE R (fun e => !e.att.global && e.ctx == d.ctx) n
  · rw [hq]
    go_wp2_with fail
    go_ret2
    exact done_of D2 hA.out hA2.out (fun _ => rfl)
  · have hq' : ¬ ((cntE T (fun e => !e.att.global && e.ctx == d.ctx) n : Int) = (cntE R (fun e => !e.att.global && e.ctx == d.ctx) n : Int)) := by omega
    have hq2 := Lib.hid hq
    go_wp2_with fail
    go_ret2
    exact done_of D2 hA.out hA2.out (fun h => absurd (by rw [h]) hq2.out)

theorem does4 {sb bb n B : Nat} {T R : Nat → Ent} {v : Value} (d : DeedV) (_hd : d.wf) (hk : d.kind = 4) (w : World) (ht : TlbAt w sb bb n T) (hdoc : DocAt w B v n R) (hR : ∀ k, k < n → (R k).wf) (h1 : bb < B) (h2 : B ≤ w.heap.size) :
    Calls Try.prog 12 #[.pointer (some ⟨sb, 0, none⟩), v, .agg #[.int .i64 d.kind, .int .i64 d.n, .int .i64 d.ctx, .int .u64 d.va, .int .i64 d.e.size, .int .i64 d.e.ctx, .int .u64 d.e.va, .int .u64 d.e.pa, .bool d.e.att.write, .bool d.e.att.priv, .bool d.e.att.exec, .bool d.e.att.lock, .bool d.e.att.global, .bool d.e.att.quiet, .bool d.e.valid, .bool d.raw]] w (Done w sb bb n T B R d) := by
  obtain ⟨g, cap, rfl, _, _, _, _, _, _⟩ := doc_at hdoc ht.pos
  have D0 := DS.start d ht hdoc h1 h2
  have hA := Lib.hid (show act T n d = dropE T (fun e => !e.att.lock) n by unfold act; rw [hk]; simp)
  have hA2 := Lib.hid (show act R n d = dropE R (fun e => !e.att.lock) n by unfold act; rw [hk]; simp)
  have hp := ht.pos
  have hn := ht.le
  have hz : B ≤ (w.alloc (.cells #[.int .i64 d.kind, .int .i64 d.n, .int .i64 d.ctx, .int .u64 d.va, .int .i64 d.e.size, .int .i64 d.e.ctx, .int .u64 d.e.va, .int .u64 d.e.pa, .bool d.e.att.write, .bool d.e.att.priv, .bool d.e.att.exec, .bool d.e.att.lock, .bool d.e.att.global, .bool d.e.att.quiet, .bool d.e.valid, .bool d.raw] 35)).heap.size := by simp; omega
  have C1 := Lib.hid (rdall_any B g cap n R hR (w.alloc (.cells #[.int .i64 d.kind, .int .i64 d.n, .int .i64 d.ctx, .int .u64 d.va, .int .i64 d.e.size, .int .i64 d.e.ctx, .int .u64 d.e.va, .int .u64 d.e.pa, .bool d.e.att.write, .bool d.e.att.priv, .bool d.e.att.exec, .bool d.e.att.lock, .bool d.e.att.global, .bool d.e.att.quiet, .bool d.e.valid, .bool d.raw] 35)) D0.doc hz hp hn)
  have C2 := Lib.hid (fun W (hW : TlbAt W sb bb n T) => dall_any W hW)
  obtain ⟨c0, c1, c2, c3, c4, c5, c6, c7, c8, c9, c10, c11, c12, c13, c14, c15⟩ := D0.cells
  rw [hk] at c0 C1 D0
  clear ht hdoc
  go_enter Try.func12, Try.ntmps12
  go_wp2_with fail
  refine C1.out.mono ?_; rintro r w1 ⟨v1, rfl, hd1, hb1⟩
  have D1 := D0.list hb1 hd1
  clear D0 hd1 hb1 C1
  clear c0 c1 c2 c3 c4 c5 c6 c7 c8 c9 c10 c11 c12 c13 c14 c15
  obtain ⟨c0, c1, c2, c3, c4, c5, c6, c7, c8, c9, c10, c11, c12, c13, c14, c15⟩ := D1.cells
  go_wp2_with fail
  refine (C2.out w1 D1.tlb).mono ?_; rintro r w2 ⟨rfl, ht2, tn2⟩
  have D2 := D1.prog ht2 tn2
  clear D1 ht2 tn2 C2
  clear c0 c1 c2 c3 c4 c5 c6 c7 c8 c9 c10 c11 c12 c13 c14 c15
  by_cases hq : cntE T (fun e => !e.att.lock) n = cntE R (fun e => !e.att.lock) n
  · rw [hq]
    go_wp2_with fail
    go_ret2
    exact done_of D2 hA.out hA2.out (fun _ => rfl)
  · have hq' : ¬ ((cntE T (fun e => !e.att.lock) n : Int) = (cntE R (fun e => !e.att.lock) n : Int)) := by omega
    have hq2 := Lib.hid hq
    go_wp2_with fail
    go_ret2
    exact done_of D2 hA.out hA2.out (fun h => absurd (by rw [h]) hq2.out)

theorem does5 {sb bb n B : Nat} {T R : Nat → Ent} {v : Value} (d : DeedV) (_hd : d.wf) (hk : d.kind = 5) (w : World) (ht : TlbAt w sb bb n T) (hdoc : DocAt w B v n R) (_hR : ∀ k, k < n → (R k).wf) (h1 : bb < B) (h2 : B ≤ w.heap.size) :
    Calls Try.prog 12 #[.pointer (some ⟨sb, 0, none⟩), v, .agg #[.int .i64 d.kind, .int .i64 d.n, .int .i64 d.ctx, .int .u64 d.va, .int .i64 d.e.size, .int .i64 d.e.ctx, .int .u64 d.e.va, .int .u64 d.e.pa, .bool d.e.att.write, .bool d.e.att.priv, .bool d.e.att.exec, .bool d.e.att.lock, .bool d.e.att.global, .bool d.e.att.quiet, .bool d.e.valid, .bool d.raw]] w (Done w sb bb n T B R d) := by
  obtain ⟨g, cap, rfl, _, _, _, _, _, _⟩ := doc_at hdoc ht.pos
  have D0 := DS.start d ht hdoc h1 h2
  have hA := Lib.hid (show act T n d = clearT T n d.n by unfold act; rw [hk]; simp)
  have hA2 := Lib.hid (show act R n d = clearT R n d.n by unfold act; rw [hk]; simp)
  have hp := ht.pos
  have hn := ht.le
  have hz : B ≤ (w.alloc (.cells #[.int .i64 d.kind, .int .i64 d.n, .int .i64 d.ctx, .int .u64 d.va, .int .i64 d.e.size, .int .i64 d.e.ctx, .int .u64 d.e.va, .int .u64 d.e.pa, .bool d.e.att.write, .bool d.e.att.priv, .bool d.e.att.exec, .bool d.e.att.lock, .bool d.e.att.global, .bool d.e.att.quiet, .bool d.e.valid, .bool d.raw] 35)).heap.size := by simp; omega
  have C1 := Lib.hid (rclear_any B g cap n R d.n (w.alloc (.cells #[.int .i64 d.kind, .int .i64 d.n, .int .i64 d.ctx, .int .u64 d.va, .int .i64 d.e.size, .int .i64 d.e.ctx, .int .u64 d.e.va, .int .u64 d.e.pa, .bool d.e.att.write, .bool d.e.att.priv, .bool d.e.att.exec, .bool d.e.att.lock, .bool d.e.att.global, .bool d.e.att.quiet, .bool d.e.valid, .bool d.raw] 35)) D0.doc hz hp hn)
  have C2 := Lib.hid (fun W (hW : TlbAt W sb bb n T) => clear_any d.n W hW)
  obtain ⟨c0, c1, c2, c3, c4, c5, c6, c7, c8, c9, c10, c11, c12, c13, c14, c15⟩ := D0.cells
  rw [hk] at c0 C1 D0
  clear ht hdoc
  go_enter Try.func12, Try.ntmps12
  go_wp2_with fail
  refine C1.out.mono ?_; rintro r w1 ⟨v1, rfl, hd1, hb1⟩
  have D1 := D0.list hb1 hd1
  clear D0 hd1 hb1 C1
  clear c0 c1 c2 c3 c4 c5 c6 c7 c8 c9 c10 c11 c12 c13 c14 c15
  obtain ⟨c0, c1, c2, c3, c4, c5, c6, c7, c8, c9, c10, c11, c12, c13, c14, c15⟩ := D1.cells
  go_wp2_with fail
  refine (C2.out w1 D1.tlb).mono ?_; rintro r w2 ⟨rfl, ht2, tn2⟩
  have D2 := D1.prog ht2 tn2
  clear D1 ht2 tn2 C2
  clear c0 c1 c2 c3 c4 c5 c6 c7 c8 c9 c10 c11 c12 c13 c14 c15
  have hq2 := Lib.hid (fun (h : T = R) => (by rw [h] : (atE T n d.n).valid = (atE R n d.n).valid))
  generalize (atE T n d.n).valid = x at *
  generalize (atE R n d.n).valid = y at *
  cases x <;> cases y
  · go_wp2_with fail
    go_ret2
    exact done_of D2 hA.out hA2.out (fun _ => rfl)
  · go_wp2_with fail
    go_ret2
    exact done_of D2 hA.out hA2.out (fun h => hq2.out h)
  · go_wp2_with fail
    go_ret2
    exact done_of D2 hA.out hA2.out (fun h => (hq2.out h).symm)
  · go_wp2_with fail
    go_ret2
    exact done_of D2 hA.out hA2.out (fun _ => rfl)

end Go.Proofs.Ytbhpljjogmagoaa.Tl
/-
  Two entries are held against each other, whatever they are: there is an answer. Conditions: none.
-/
namespace Go.Proofs.Ytbhpljjogmagoaa.Tl
open Fld
open Go.ChangeShapes Go.WideShapes Go.ChangeAt Go.RowKit Go.Shelf
set_option maxHeartbeats 1000000
set_option maxRecDepth 100000
theorem field_ok {d : Nat} {xs ys : Array Value} {f : Field} {fs : List Field} {a b : Value} {r : Bool} (hn : f.name ≠ "_") (ha : ∀ w, (part f.type xs f.offset).run Try.prog w = .ok a w) (hb : ∀ w, (part f.type ys f.offset).run Try.prog w = .ok b w) (hr : ∀ w, (Op.equalIn d f.type a b).run Try.prog w = .ok r w)
    (hrest : ∃ c, ∀ w, (Op.eqFields d xs ys fs).run Try.prog w = .ok c w) : ∃ c, ∀ w, (Op.eqFields d xs ys (f :: fs)).run Try.prog w = .ok c w := by
  obtain ⟨c, hc⟩ := hrest
  refine ⟨r && c, fun w => ?_⟩
  unfold Op.eqFields
  rw [if_pos hn]
  simp only [Sem.run_bind, ha, hb, hr, Result.andThen_ok]
  cases r
  · simp
  · simp [hc]
theorem att_eq (d : Nat) (a b : Att) : ∃ c, ∀ w, (Op.equalIn (d + 1 + 1) 31 (.agg #[.bool a.write, .bool a.priv, .bool a.exec, .bool a.lock, .bool a.global, .bool a.quiet]) (.agg #[.bool b.write, .bool b.priv, .bool b.exec, .bool b.lock, .bool b.global, .bool b.quiet])).run Try.prog w = .ok c w := by
  have h := run_equalIn_struct (P := Try.prog) (d := d + 1) (t := 31) (xs := #[.bool a.write, .bool a.priv, .bool a.exec, .bool a.lock, .bool a.global, .bool a.quiet]) (ys := #[.bool b.write, .bool b.priv, .bool b.exec, .bool b.lock, .bool b.global, .bool b.quiet]) (ht := by kernel_rfl) (hp := by kernel_rfl)
  simp only [h]
  have hf : (Try.prog.fieldsOf 31).toList = (match Try.prog.underlying 31 with | some (.struct fs) => fs | _ => #[]).toList := rfl
  rw [hf, Try.underlying31]
  refine field_ok (a := .bool a.write) (b := .bool b.write) (r := a.write == b.write) (by decide) (fun w => by go_simp) (fun w => by go_simp) (fun w => run_equalIn_bool' w d 4 _ _ Try.underlying4) ?_
  refine field_ok (a := .bool a.priv) (b := .bool b.priv) (r := a.priv == b.priv) (by decide) (fun w => by go_simp) (fun w => by go_simp) (fun w => run_equalIn_bool' w d 4 _ _ Try.underlying4) ?_
  refine field_ok (a := .bool a.exec) (b := .bool b.exec) (r := a.exec == b.exec) (by decide) (fun w => by go_simp) (fun w => by go_simp) (fun w => run_equalIn_bool' w d 4 _ _ Try.underlying4) ?_
  refine field_ok (a := .bool a.lock) (b := .bool b.lock) (r := a.lock == b.lock) (by decide) (fun w => by go_simp) (fun w => by go_simp) (fun w => run_equalIn_bool' w d 4 _ _ Try.underlying4) ?_
  refine field_ok (a := .bool a.global) (b := .bool b.global) (r := a.global == b.global) (by decide) (fun w => by go_simp) (fun w => by go_simp) (fun w => run_equalIn_bool' w d 4 _ _ Try.underlying4) ?_
  refine field_ok (a := .bool a.quiet) (b := .bool b.quiet) (r := a.quiet == b.quiet) (by decide) (fun w => by go_simp) (fun w => by go_simp) (fun w => run_equalIn_bool' w d 4 _ _ Try.underlying4) ?_
  exact ⟨true, fun w => rfl⟩
theorem ent_eq (a b : Ent) : ∃ c : Bool, ∀ w : World, (binOp .eql 33 (.agg #[.int .i64 a.size, .int .i64 a.ctx, .int .u64 a.va, .int .u64 a.pa, .bool a.att.write, .bool a.att.priv, .bool a.att.exec, .bool a.att.lock, .bool a.att.global, .bool a.att.quiet, .bool a.valid]) (.agg #[.int .i64 b.size, .int .i64 b.ctx, .int .u64 b.va, .int .u64 b.pa, .bool b.att.write, .bool b.att.priv, .bool b.att.exec, .bool b.att.lock, .bool b.att.global, .bool b.att.quiet, .bool b.valid])).run Try.prog w = .ok (.bool c) w := by
  have key : ∃ c, ∀ w, (Op.equalIn 10000 33 (.agg #[.int .i64 a.size, .int .i64 a.ctx, .int .u64 a.va, .int .u64 a.pa, .bool a.att.write, .bool a.att.priv, .bool a.att.exec, .bool a.att.lock, .bool a.att.global, .bool a.att.quiet, .bool a.valid]) (.agg #[.int .i64 b.size, .int .i64 b.ctx, .int .u64 b.va, .int .u64 b.pa, .bool b.att.write, .bool b.att.priv, .bool b.att.exec, .bool b.att.lock, .bool b.att.global, .bool b.att.quiet, .bool b.valid])).run Try.prog w = .ok c w := by
    have h := run_equalIn_struct (P := Try.prog) (d := 9999) (t := 33) (xs := #[.int .i64 a.size, .int .i64 a.ctx, .int .u64 a.va, .int .u64 a.pa, .bool a.att.write, .bool a.att.priv, .bool a.att.exec, .bool a.att.lock, .bool a.att.global, .bool a.att.quiet, .bool a.valid]) (ys := #[.int .i64 b.size, .int .i64 b.ctx, .int .u64 b.va, .int .u64 b.pa, .bool b.att.write, .bool b.att.priv, .bool b.att.exec, .bool b.att.lock, .bool b.att.global, .bool b.att.quiet, .bool b.valid]) (ht := by kernel_rfl) (hp := by kernel_rfl)
    simp only [h]
    have hf : (Try.prog.fieldsOf 33).toList = (match Try.prog.underlying 33 with | some (.struct fs) => fs | _ => #[]).toList := rfl
    rw [hf, Try.underlying33]
    obtain ⟨ca, hca⟩ := att_eq 9997 a.att b.att
    refine field_ok (a := .int .i64 a.size) (b := .int .i64 b.size) (r := a.size == b.size) (by decide) (fun w => by go_simp) (fun w => by go_simp) (fun w => run_equalIn_int w 9998 3 .i64 .i64 _ _ Try.underlying3) ?_
    refine field_ok (a := .int .i64 a.ctx) (b := .int .i64 b.ctx) (r := a.ctx == b.ctx) (by decide) (fun w => by go_simp) (fun w => by go_simp) (fun w => run_equalIn_int w 9998 3 .i64 .i64 _ _ Try.underlying3) ?_
    refine field_ok (a := .int .u64 a.va) (b := .int .u64 b.va) (r := a.va == b.va) (by decide) (fun w => by go_simp) (fun w => by go_simp) (fun w => run_equalIn_int w 9998 29 .u64 .u64 _ _ Try.underlying29) ?_
    refine field_ok (a := .int .u64 a.pa) (b := .int .u64 b.pa) (r := a.pa == b.pa) (by decide) (fun w => by go_simp) (fun w => by go_simp) (fun w => run_equalIn_int w 9998 29 .u64 .u64 _ _ Try.underlying29) ?_
    refine field_ok (a := .agg #[.bool a.att.write, .bool a.att.priv, .bool a.att.exec, .bool a.att.lock, .bool a.att.global, .bool a.att.quiet]) (b := .agg #[.bool b.att.write, .bool b.att.priv, .bool b.att.exec, .bool b.att.lock, .bool b.att.global, .bool b.att.quiet]) (r := ca) (by decide) (fun w => by go_simp) (fun w => by go_simp) hca ?_
    refine field_ok (a := .bool a.valid) (b := .bool b.valid) (r := a.valid == b.valid) (by decide) (fun w => by go_simp) (fun w => by go_simp) (fun w => run_equalIn_bool' w 9998 4 _ _ Try.underlying4) ?_
    exact ⟨true, fun w => rfl⟩
  obtain ⟨c, hc⟩ := key
  exact ⟨c, fun w => by rw [run_eql_struct, hc]; rfl⟩
end Go.Proofs.Ytbhpljjogmagoaa.Tl
/-
  The deeds of the laws of layer 6: Find (all other kinds). Conditions: numbers are what Go's types hold.
-/
namespace Go.Proofs.Ytbhpljjogmagoaa.Tl
open Fld
open Go.ChangeShapes Go.WideShapes Go.ChangeAt Go.RowKit Go.Shelf
set_option maxHeartbeats 4000000
set_option maxRecDepth 100000
theorem doesf {sb bb n B : Nat} {T R : Nat → Ent} {v : Value} (d : DeedV) (hd : d.wf) (k0 : ¬ d.kind = 0) (k1 : ¬ d.kind = 1) (k2 : ¬ d.kind = 2) (k3 : ¬ d.kind = 3) (k4 : ¬ d.kind = 4) (k5 : ¬ d.kind = 5) (w : World) (ht : TlbAt w sb bb n T) (hdoc : DocAt w B v n R) (hR : ∀ k, k < n → (R k).wf) (h1 : bb < B) (h2 : B ≤ w.heap.size) :
    Calls Try.prog 12 #[.pointer (some ⟨sb, 0, none⟩), v, .agg #[.int .i64 d.kind, .int .i64 d.n, .int .i64 d.ctx, .int .u64 d.va, .int .i64 d.e.size, .int .i64 d.e.ctx, .int .u64 d.e.va, .int .u64 d.e.pa, .bool d.e.att.write, .bool d.e.att.priv, .bool d.e.att.exec, .bool d.e.att.lock, .bool d.e.att.global, .bool d.e.att.quiet, .bool d.e.valid, .bool d.raw]] w (Done w sb bb n T B R d) := by
  obtain ⟨g, cap, rfl, _, _, _, _, _, _⟩ := doc_at hdoc ht.pos
  have D0 := DS.start d ht hdoc h1 h2
  have hA := Lib.hid (show act T n d = T by unfold act; rw [if_neg k0, if_neg k1, if_neg k2, if_neg k3, if_neg k4, if_neg k5])
  have hA2 := Lib.hid (show act R n d = R by unfold act; rw [if_neg k0, if_neg k1, if_neg k2, if_neg k3, if_neg k4, if_neg k5])
  have hp := ht.pos
  have hn := ht.le
  have I := Lib.hid (fun W (hW : TlbAt W sb bb n T) => find_any d.va d.ctx hd.v0 hd.v1 W hW)
  have J := Lib.hid (fun W (hW : DocAt W B (.slice (some ⟨g, 0, none⟩) n cap) n R) => rfind_any B g cap n R d.va d.ctx hd.v0 hd.v1 hR W hW hp hn)
  have hTR := Lib.hid (fun (h : T = R) => (⟨by rw [h], by rw [h]⟩ : findE T n d.va d.ctx = findE R n d.va d.ctx ∧ findI T n d.va d.ctx = findI R n d.va d.ctx))
  have hcap := doc_cap hdoc hp
  have hz := Lib.hid (show findI T n d.va d.ctx < 0 → findE T n d.va d.ctx = Ent.zero from fun h => by
    unfold findI at h; unfold findE
    split at h
    · omega
    · rw [if_neg (by assumption)])
  obtain ⟨c0, c1, c2, c3, c4, c5, c6, c7, c8, c9, c10, c11, c12, c13, c14, c15⟩ := D0.cells
  clear ht hdoc
  generalize findE T n d.va d.ctx = eT at *
  generalize findI T n d.va d.ctx = iT at *
  go_enter Try.func12, Try.ntmps12
  go_wp2_with fail
  refine (I.out _ D0.tlb).mono ?_; rintro r w1 ⟨rfl, hb1⟩
  have D1 := D0.low hb1
  clear D0 hb1 I c0 c1 c2 c3 c4 c5 c6 c7 c8 c9 c10 c11 c12 c13 c14 c15 k0 k1 k2 k3 k4 k5
  obtain ⟨c0, c1, c2, c3, c4, c5, c6, c7, c8, c9, c10, c11, c12, c13, c14, c15⟩ := D1.cells
  have D2 := D1.low (box1 w1 (.cells #[.int .i64 eT.size, .int .i64 eT.ctx, .int .u64 eT.va, .int .u64 eT.pa, .bool eT.att.write, .bool eT.att.priv, .bool eT.att.exec, .bool eT.att.lock, .bool eT.att.global, .bool eT.att.quiet, .bool eT.valid] 33))
  have E2 := RowE.new w1 eT
  have hz1 := D1.lt
  clear D1
  go_wp2_with fail
  refine (J.out _ D2.doc).mono ?_; rintro r w3 ⟨rfl, hb3⟩
  have D3 := D2.low hb3
  have E3 := E2.below hb3 E2.lt
  clear D2 E2 hb3 J c0 c1 c2 c3 c4 c5 c6 c7 c8 c9 c10 c11 c12 c13 c14 c15
  generalize w1.heap.size = eb at *
  by_cases hF : findN R n d.va d.ctx < n
  · obtain ⟨q, hq⟩ : ∃ q, findN R n d.va d.ctx = q := ⟨_, rfl⟩
    rw [hq] at hF
    have hiR : findI R n d.va d.ctx = (q : Int) := by unfold findI; rw [hq, if_pos hF]
    have heR : findE R n d.va d.ctx = R q := by unfold findE; rw [hq, if_pos hF]
    rw [hiR, heR] at hTR
    rw [hiR]
    clear hiR heR hq
    obtain ⟨o, ho⟩ : ∃ o, q * 11 = o := ⟨_, rfl⟩
    obtain ⟨c0, c1, c2, c3, c4, c5, c6, c7, c8, c9, c10⟩ := doc_cells D3.doc hF ho
    obtain ⟨e0, e1, e2, e3, e4, e5, e6, e7, e8, e9, e10⟩ := E3.cells
    have hlt' : (q : Int) < (n : Int) := by omega
    have hAE : (⟨g, 0, none⟩ : Addr).add o = ⟨g, o, none⟩ := by unfold Addr.add; split <;> simp_all
    have hl3 := E3.lt
    have hgl := (doc_cap D3.doc hp).2.2.2
    generalize R q = eR at *
    have D4 := D3.low (box1 w3 (.cells #[.int .i64 eR.size, .int .i64 eR.ctx, .int .u64 eR.va, .int .u64 eR.pa, .bool eR.att.write, .bool eR.att.priv, .bool eR.att.exec, .bool eR.att.lock, .bool eR.att.global, .bool eR.att.quiet, .bool eR.valid] 33))
    by_cases hi : iT = (q : Int)
    · subst hi
      by_cases hee : eT = eR
      · subst hee
        go_wp2_with fail
        go_quiet (fail)
        go_wp2_with fail
        go_ret2
        exact done_of (D4.drewN nq) hA.out hA2.out (fun _ => rfl)
      · have hne := Lib.hid (fun (h : T = R) => hee (hTR.out h).1)
        obtain ⟨cc, hbe⟩ := ent_eq eT eR
        clear hee
        go_wp2_with fail
        go_quiet (fail)
        go_wp2_with fail
        go_ret2
        exact done_of (D4.drewN nq) hA.out hA2.out (fun h => absurd h hne.out)
    · have hi2 := Lib.hid hi
      have hdc : decide (iT = (q : Int)) = false := by simpa using hi
      go_wp2_with fail
      go_quiet (fail)
      go_wp2_with fail
      go_ret2
      exact done_of (D4.drewN nq) hA.out hA2.out (fun h => absurd (hTR.out h).2 hi2.out)
  · have hiR : findI R n d.va d.ctx = -1 := by unfold findI; rw [if_neg hF]
    have heR : findE R n d.va d.ctx = Ent.zero := by unfold findE; rw [if_neg hF]
    rw [hiR, heR] at hTR
    rw [hiR]
    clear hiR heR hF
    obtain ⟨kR, hkR⟩ : ∃ k : Int, k = -1 := ⟨_, rfl⟩
    rw [← hkR] at hTR ⊢
    have hk0 : kR < 0 := by omega
    clear hkR
    obtain ⟨e0, e1, e2, e3, e4, e5, e6, e7, e8, e9, e10⟩ := E3.cells
    have hl3 := E3.lt
    have D4 := D3.low (box1 w3 (.cells #[.int .i64 0, .int .i64 0, .int .u64 0, .int .u64 0, .bool false, .bool false, .bool false, .bool false, .bool false, .bool false, .bool false] 33))
    by_cases hi : iT = kR
    · subst hi
      have hee := hz.out hk0
      subst hee
      dsimp only [Ent.zero] at e0 e1 e2 e3 e4 e5 e6 e7 e8 e9 e10
      go_wp2_with fail
      go_quiet (fail)
      go_wp2_with fail
      go_ret2
      exact done_of (D4.drewN nq) hA.out hA2.out (fun _ => rfl)
    · have hi2 := Lib.hid hi
      have hdc : decide (iT = kR) = false := by simpa using hi
      go_wp2_with fail
      go_quiet (fail)
      go_wp2_with fail
      go_ret2
      exact done_of (D4.drewN nq) hA.out hA2.out (fun h => absurd (hTR.out h).2 hi2.out)
end Go.Proofs.Ytbhpljjogmagoaa.Tl
