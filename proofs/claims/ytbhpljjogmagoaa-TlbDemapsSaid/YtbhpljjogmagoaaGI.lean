/-
  YtbhpljjogmagoaaGI: the contracts and plain facts of several texts, laid together. Conditions: those that each theorem names.
-/
import Derived.Test.YtbhpljjogmagoaaGF
import Derived.Test.YtbhpljjogmagoaaGH
import Derived.Test.YtbhpljjogmagoaaGG
import Derived.Test.YtbhpljjogmagoaaGE
/-
  Like of the laws of layer 6: a TLB has what the document's list has. Conditions: both are alike.
-/
namespace Go.Proofs.Ytbhpljjogmagoaa.Tl
open Fld
open Go.ChangeShapes Go.WideShapes Go.ChangeAt Go.RowKit Go.Shelf
set_option maxHeartbeats 2000000
set_option maxRecDepth 100000
theorem atE_lock {T : Nat → Ent} {n j : Nat} (hok : Ok T n) (hj : j < n) : ((T j).att.lock = true ↔ ((T j).valid && (T j).att.lock) = true) := by
  cases hv : (T j).valid
  · rw [hok.zero j hj hv]; simp [Ent.zero]
  · simp
theorem lock_next {T : Nat → Ent} {n q : Nat} (hok : Ok T n) (hq : q < n) : cntE T (fun e => e.att.lock) (q + 1) = cntE T (fun e => e.att.lock) q + if (T q).att.lock then 1 else 0 := by
  show _ + (if ((T q).valid && (T q).att.lock) = true then 1 else 0) = _
  cases hv : (T q).valid
  · rw [hok.zero q hq hv]; simp [Ent.zero]
  · simp
theorem like_any {sb bb n B : Nat} {T : Nat → Ent} {v : Value} (w : World) (ht : TlbAt w sb bb n T) (hdoc : DocAt w B v n T) :
    Calls Try.prog 13 #[.pointer (some ⟨sb, 0, none⟩), v] w fun r w' => r = .returned (.bool true) ∧ Below w.heap.size w w' := by
  obtain ⟨g, cap, rfl, _, _, _, _, _, _⟩ := doc_at hdoc ht.pos
  have hp := ht.pos
  have hn := ht.le
  have hcap := doc_cap hdoc hp
  have A := Lib.hid (fun i W (hW : TlbAt W sb bb n T) => at_any i W hW)
  go_enter Try.func13, Try.ntmps13
  go_wp2_with fail
  go_loopw [5, 6] (fun c i wr => ∃ (j : Nat) (k : Int), j ≤ n + 2 ∧ i = .int .i64 k ∧ k = (j : Int) - 1 ∧ c = .int .i64 (cntE T (fun e => e.att.lock) (min (j - 1) n) : Int) ∧ Below w.heap.size w wr) (fun _ i _ => n + 3 - (intOf i + 1).toNat)
  case atStart => exact ⟨0, -1, by omega, rfl, by omega, rfl, Below.refl _ _⟩
  case round =>
    obtain ⟨j, k, hj, rfl, hk, rfl, hB⟩ := hrel
    have hT := ht.low hB
    have hcl := cntE_le T (fun e => e.att.lock) (min (j - 1) n)
    by_cases hlt : k ≤ (n : Int)
    · by_cases hin : 0 ≤ k ∧ k < (n : Int)
      · obtain ⟨q, rfl⟩ : ∃ q : Nat, k = (q : Int) := ⟨k.toNat, by omega⟩
        obtain rfl : j = q + 1 := by omega
        have hq : q < n := by omega
        have hq' : (q : Int) < (n : Int) := by omega
        have hE : atE T n (q : Int) = T q := by unfold atE hasB; simp [hq]
        have hnx := lock_next ht.ok hq
        rw [show min (q + 1 - 1) n = q by omega] at hcl ⊢
        have hm2 : min (q + 1 + 1 - 1) n = q + 1 := by omega
        have AQ := A.out (q : Int) wr hT
        rw [hE] at AQ
        have AQ := Lib.hid AQ
        have hnx := Lib.hid hnx
        have hm2 := Lib.hid hm2
        clear hk hE hlt hin hj
        generalize cntE T (fun e => e.att.lock) q = c at *
        go_wp2_with fail
        refine AQ.out.mono ?_; rintro r w1 ⟨rfl, hb1⟩
        have hB1 := hB.trans (hb1.mono hB.size)
        have hD := doc_below hdoc hB1
        obtain ⟨o, ho⟩ : ∃ o, q * 11 = o := ⟨_, rfl⟩
        obtain ⟨c0, c1, c2, c3, c4, c5, c6, c7, c8, c9, c10⟩ := doc_cells hD hq ho
        have hgl := (doc_cap hD hp).2.2.2
        have hAE : (⟨g, 0, none⟩ : Addr).add o = ⟨g, o, none⟩ := by unfold Addr.add; split <;> simp_all
        have hB3 : ∀ o1 o2 : Obj, Below w.heap.size w ((w1.alloc o1).alloc o2) := fun o1 o2 => (hB1.alloc hB1.size _).alloc (by have := hB1.size; simp; omega) _
        clear AQ hb1 hD
        generalize T q = e at *
        cases hl : e.att.lock
        · rw [hl] at c7 hnx
          go_wp2_with fail
          go_roundw
          case rel => exact ⟨q + 2, _, by omega, rfl, by omega, by rw [hm2.out, hnx.out]; rfl, hB3 _ _⟩
          case measure => simp [intOf]; omega
        · rw [hl] at c7 hnx
          go_wp2_with fail
          go_roundw
          case rel => exact ⟨q + 2, _, by omega, rfl, by omega, by rw [hm2.out, hnx.out]; go_num, hB3 _ _⟩
          case measure => simp [intOf]; omega
      · have hE : atE T n k = Ent.zero := by unfold atE hasB; rw [show (decide (0 ≤ k) && decide (k < (n : Int))) = false by simp; omega]; rfl
        have AQ := A.out k wr hT
        rw [hE] at AQ
        have AQ := Lib.hid AQ
        have hm2 := Lib.hid (show min (j + 1 - 1) n = min (j - 1) n by omega)
        have hkk : k < 0 ∨ k = (n : Int) := by omega
        have hcc := Lib.hid (show cntE T (fun e => e.att.lock) (min (j + 1 - 1) n) = cntE T (fun e => e.att.lock) (min (j - 1) n) by
          rw [show min (j + 1 - 1) n = min (j - 1) n by omega])
        have hkb : -1 ≤ k := by omega
        replace hk := Lib.hid hk
        generalize cntE T (fun e => e.att.lock) (min (j - 1) n) = c at *
        clear hm2 hE hin
        have hB3 : ∀ (w1 : World) (hb1 : Below wr.heap.size wr w1) (o1 o2 : Obj), Below w.heap.size w ((w1.alloc o1).alloc o2) := fun w1 hb1 o1 o2 => by
          have hB1 := hB.trans (hb1.mono hB.size)
          exact (hB1.alloc hB1.size _).alloc (by have := hB1.size; simp; omega) _
        rcases hkk with hneg | rfl
        · have h00 : decide (0 ≤ k) = false := by simp; omega
          go_wp2_with fail
          refine AQ.out.mono ?_; rintro r w1 ⟨rfl, hb1⟩
          go_wp2_with fail
          go_roundw
          case rel => exact ⟨j + 1, _, by have := hk.out; omega, rfl, by have := hk.out; omega, by rw [hcc.out], hB3 _ hb1 _ _⟩
          case measure => have := hk.out; simp [intOf]; omega
        · go_wp2_with fail
          refine AQ.out.mono ?_; rintro r w1 ⟨rfl, hb1⟩
          go_wp2_with fail
          go_roundw
          case rel => exact ⟨j + 1, _, by have := hk.out; omega, rfl, by have := hk.out; omega, by rw [hcc.out], hB3 _ hb1 _ _⟩
          case measure => have := hk.out; simp [intOf]; omega
    · have hj2 : j = n + 2 := by omega
      subst hj2
      rw [show min (n + 2 - 1) n = n by omega]
      have hk2 : (n : Int) < k := by omega
      have SL := Lib.hid (fun W hW => slots_any (sb := sb) (bb := bb) (n := n) (T := T) W hW)
      have LK := Lib.hid (fun W hW => locked_any (sb := sb) (bb := bb) (n := n) (T := T) W hW)
      have LI := Lib.hid (fun W hW => list_any (sb := sb) (bb := bb) (n := n) (T := T) W hW)
      have RL := Lib.hid (fun W (hW : DocAt W B (.slice (some ⟨g, 0, none⟩) n cap) n T) => rlist_any B g cap n T W hW hp hn)
      have hvl := vals_le T n
      clear hk hlt hcl A
      generalize cntE T (fun e => e.att.lock) n = c at *
      go_wp2_with fail
      refine (SL.out wr hT).mono ?_; rintro r w1 ⟨rfl, rfl⟩
      go_wp2_with fail
      refine (LK.out wr hT).mono ?_; rintro r w2 ⟨rfl, hb2⟩
      have hT2 := hT.low hb2
      have hB2 := hB.trans (hb2.mono hB.size)
      go_wp2_with fail
      refine (LI.out w2 hT2).mono ?_; rintro r w3 ⟨v3, rfl, hl3, hb3⟩
      have hB3 := hB2.trans (hb3.mono hB2.size)
      go_wp2_with fail
      refine (RL.out w3 (doc_below hdoc hB3)).mono ?_; rintro r w4 ⟨v4, rfl, hl4, hb4⟩
      have hB4 := hB3.trans (hb4.mono hB3.size)
      have hl5 := doc_below hl3 hb4
      go_wp2_with fail
      refine (rsame_any (vals T n) v3 v4 _ _ w4 (by omega) hl5 hl4).mono ?_; rintro r w5 ⟨rfl, hb5⟩
      have hB5 := hB4.trans (hb5.mono hB4.size)
      go_wp2_with fail
      go_ret
      exact ⟨rfl, hB5⟩
end Go.Proofs.Ytbhpljjogmagoaa.Tl
/-
  Does of the laws of layer 6, whatever the deed. Conditions: numbers are what Go's types hold.
-/
namespace Go.Proofs.Ytbhpljjogmagoaa.Tl
open Fld
open Go.ChangeShapes Go.WideShapes Go.ChangeAt Go.RowKit Go.Deep
theorem does_any {sb bb n B : Nat} {T R : Nat → Ent} {v : Value} (d : DeedV) (hd : d.wf) (w : World) (ht : TlbAt w sb bb n T) (hdoc : DocAt w B v n R) (hR : ∀ k, k < n → (R k).wf) (h1 : bb < B) (h2 : B ≤ w.heap.size) :
    Calls Try.prog 12 #[.pointer (some ⟨sb, 0, none⟩), v, .agg #[.int .i64 d.kind, .int .i64 d.n, .int .i64 d.ctx, .int .u64 d.va, .int .i64 d.e.size, .int .i64 d.e.ctx, .int .u64 d.e.va, .int .u64 d.e.pa, .bool d.e.att.write, .bool d.e.att.priv, .bool d.e.att.exec, .bool d.e.att.lock, .bool d.e.att.global, .bool d.e.att.quiet, .bool d.e.valid, .bool d.raw]] w (Done w sb bb n T B R d) := by
  by_cases k0 : d.kind = 0
  · exact does0 d hd k0 w ht hdoc hR h1 h2
  by_cases k1 : d.kind = 1
  · exact does1 d hd k1 w ht hdoc hR h1 h2
  by_cases k2 : d.kind = 2
  · exact does2 d hd k2 w ht hdoc hR h1 h2
  by_cases k3 : d.kind = 3
  · exact does3 d hd k3 w ht hdoc hR h1 h2
  by_cases k4 : d.kind = 4
  · exact does4 d hd k4 w ht hdoc hR h1 h2
  by_cases k5 : d.kind = 5
  · exact does5 d hd k5 w ht hdoc hR h1 h2
  exact doesf d hd k0 k1 k2 k3 k4 k5 w ht hdoc hR h1 h2
set_option maxHeartbeats 1000000
set_option maxRecDepth 100000
/-- A deed's cells. -/
def deedL (d : DeedV) : List Value := [.int .i64 d.kind, .int .i64 d.n, .int .i64 d.ctx, .int .u64 d.va] ++ (eleven d.e ++ [.bool d.raw])
/-- What the walk is told of deeds that came in. -/
def IsDeeds (w : World) (a : Option Addr) (len cap : Nat) : Prop :=
  (a = none ∧ len = 0) ∨
  ∃ x : Addr, a = some x ∧ len ≤ cap ∧ cap ≤ maxLen ∧ ∀ i, i < len → ∃ d : DeedV, d.wf ∧ ∀ k v, (deedL d)[k]? = some v → w.cell? (x.add (i * 16 + k)) = some v
theorem cells_deed : Try.prog.cellsOf 35 = 16 := by kernel_rfl
theorem trod_deed {H : Type} {enc : TypeId × Value → H} {w : World} {base : Nat} {spare : Nat → Bool} {held : Bool} {n : Nat} {cs : List Value} {y : DataW H × List MemPlace} (hl : cs.length = 16) (h : DataW.trod enc Try.prog w base spare held n 35 cs = some y) : ∃ d : DeedV, cs = deedL d ∧ d.wf := by
  match cs, hl with
  | [c0, c1, c2, c3, d0, d1, d2, d3, d4, d5, d6, d7, d8, d9, d10, c5], _ =>
    obtain ⟨xs, n, _, hx, _, hlen, hg⟩ := DataW.trod_struct Try.underlying35 h
    match xs, hlen with
    | [y0, y1, y2, y3, y4, y5], _ =>
      have g0 : DataW.trod enc Try.prog w base spare held n 3 [c0] = some y0 := by simpa [cells_int] using hg 0 _ rfl
      have g1 : DataW.trod enc Try.prog w base spare held n 3 [c1] = some y1 := by simpa [cells_int] using hg 1 _ rfl
      have g2 : DataW.trod enc Try.prog w base spare held n 3 [c2] = some y2 := by simpa [cells_int] using hg 2 _ rfl
      have g3 : DataW.trod enc Try.prog w base spare held n 29 [c3] = some y3 := by simpa [cells_int, cells_u64] using hg 3 _ rfl
      have g4 : DataW.trod enc Try.prog w base spare held n 33 [d0, d1, d2, d3, d4, d5, d6, d7, d8, d9, d10] = some y4 := by simpa [cells_int, cells_u64, cells_entry] using hg 4 _ rfl
      have g5 : DataW.trod enc Try.prog w base spare held n 4 [c5] = some y5 := by simpa [cells_int, cells_u64, cells_entry, cells_bool] using hg 5 _ rfl
      obtain ⟨a0, q0, z0, w0⟩ := DataW.trod_int Try.underlying3 g0
      obtain ⟨a1, q1, z1, w1⟩ := DataW.trod_int Try.underlying3 g1
      obtain ⟨a2, q2, z2, w2⟩ := DataW.trod_int Try.underlying3 g2
      obtain ⟨a3, q3, z3, w3⟩ := DataW.trod_int Try.underlying29 g3
      obtain ⟨a5, q5, z5⟩ := DataW.trod_bool Try.underlying4 g5
      obtain ⟨e, he, hw⟩ := trod_ent rfl g4
      simp only [List.cons.injEq, and_true] at q0 q1 q2 q3 q5
      subst q0 q1 q2 q3 q5
      refine ⟨⟨a0, a1, a2, a3, e, a5⟩, ?_, ⟨(bounds_i64 w1).1, (bounds_i64 w1).2, (bounds_u64 w3).1, (bounds_u64 w3).2, Ent.lits_wf hw⟩⟩
      unfold deedL
      rw [← he]; rfl
theorem open_deeds {H : Type} {enc : TypeId × Value → H} {w : World} {base : Nat} {fuel : Nat} {ao : Option Addr} {len cap : Nat} {x : DataW H × List MemPlace} (h : DataW.trod enc Try.prog w base (fun _ => true) true fuel 22 [.slice ao len cap] = some x) : IsDeeds w ao len cap := by
  rcases open_slice Try.underlying22 h with ⟨hcs, _⟩ | ⟨a, l, c, m, n, D, Pl, hcs, hb, hl, hm, hmm, hx, hi⟩
  · simp at hcs; exact .inl ⟨hcs.1, hcs.2.1⟩
  · simp at hcs
    obtain ⟨rfl, rfl, rfl⟩ := hcs
    refine .inr ⟨a, rfl, hl, hm, fun i him => ?_⟩
    obtain ⟨cs', hc, ht'⟩ := hi i (by simp at hmm; omega)
    rw [cells_deed] at hc
    obtain ⟨_, hcl, hat⟩ := World.cells?_some hc
    obtain ⟨e, rfl, he⟩ := trod_deed hcl ht'
    refine ⟨e, he, fun k v hv => ?_⟩
    have hk : k < 16 := (List.getElem?_eq_some_iff.1 hv).1
    have := hat k hk
    rw [Go.Deep.add_add] at this
    rw [this]; exact hv
theorem deeds_at {w : World} {a : Option Addr} {len cap : Nat} (h : IsDeeds w a len cap) (i : Nat) (hi : i < len) :
    ∃ b o, ∃ off, ∃ d : DeedV, a = some ⟨b, off, none⟩ ∧ off + i * 16 = o ∧ len ≤ cap ∧ cap ≤ maxLen ∧ d.wf ∧ w.cell? ⟨b, o, none⟩ = some (.int .i64 d.kind) ∧ w.cell? ⟨b, o + 1, none⟩ = some (.int .i64 d.n) ∧ w.cell? ⟨b, o + 2, none⟩ = some (.int .i64 d.ctx) ∧ w.cell? ⟨b, o + 3, none⟩ = some (.int .u64 d.va) ∧ w.cell? ⟨b, o + 4, none⟩ = some (.int .i64 d.e.size) ∧ w.cell? ⟨b, o + 5, none⟩ = some (.int .i64 d.e.ctx) ∧ w.cell? ⟨b, o + 6, none⟩ = some (.int .u64 d.e.va) ∧ w.cell? ⟨b, o + 7, none⟩ = some (.int .u64 d.e.pa) ∧ w.cell? ⟨b, o + 8, none⟩ = some (.bool d.e.att.write) ∧ w.cell? ⟨b, o + 9, none⟩ = some (.bool d.e.att.priv) ∧ w.cell? ⟨b, o + 10, none⟩ = some (.bool d.e.att.exec) ∧ w.cell? ⟨b, o + 11, none⟩ = some (.bool d.e.att.lock) ∧ w.cell? ⟨b, o + 12, none⟩ = some (.bool d.e.att.global) ∧ w.cell? ⟨b, o + 13, none⟩ = some (.bool d.e.att.quiet) ∧ w.cell? ⟨b, o + 14, none⟩ = some (.bool d.e.valid) ∧ w.cell? ⟨b, o + 15, none⟩ = some (.bool d.raw) := by
  rcases h with ⟨_, h0⟩ | ⟨x, rfl, h1, h2, h3⟩
  · omega
  · obtain ⟨d, hd, hc⟩ := h3 i hi
    obtain ⟨b, off, spot⟩ := x
    have hs : spot = none := by
      obtain ⟨e0, _, hc0⟩ := h3 0 (by omega)
      have z0 := hc0 0 _ rfl
      simpa [Addr.add] using World.cell?_spot z0
    subst hs
    have ad : ∀ j, (⟨b, off, none⟩ : Addr).add j = ⟨b, off + j, none⟩ := fun j => by simp [Addr.add]
    have hc' : ∀ k v, (deedL d)[k]? = some v → w.cell? ⟨b, off + i * 16 + k, none⟩ = some v := fun k v hv => by
      have := hc k v hv; rwa [ad, ← Nat.add_assoc] at this
    exact ⟨b, _, off, d, rfl, rfl, h1, h2, hd, hc' 0 _ rfl, hc' 1 _ rfl, hc' 2 _ rfl, hc' 3 _ rfl, hc' 4 _ rfl, hc' 5 _ rfl, hc' 6 _ rfl, hc' 7 _ rfl, hc' 8 _ rfl, hc' 9 _ rfl, hc' 10 _ rfl, hc' 11 _ rfl, hc' 12 _ rfl, hc' 13 _ rfl, hc' 14 _ rfl, hc' 15 _ rfl⟩
end Go.Proofs.Ytbhpljjogmagoaa.Tl
