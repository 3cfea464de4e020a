/-
  TlbFinds: for every number, all entries, every pick and offset the law returns true, and its arguments read as before. Conditions: none.
-/
import Derived.Test.YtbhpljjogmagoaaRows
import Derived.WalkKit
import Derived.ProofKit
import Derived.OpenShut
import Derived.Test.YtbhpljjogmagoaaGE
import Derived.Deep.DeepCutAuto
import Derived.Deep.RegionHeld3
namespace Go.Proofs.Ytbhpljjogmagoaa.tlbFinds
open Fld Tl
open Go.ChangeShapes Go.WideShapes Go.ChangeAt Go.RowKit Go.Deep Go.Shelf
set_option linter.unusedVariables false

theorem own : ownKnob Try.prog.godebug = none := by kernel_rfl

/-- The places. -/
structure PF (w wr : World) (sb bb N : Nat) (T : Nat → Ent) : Prop where
  bel : Below w.heap.size w wr
  tlb : TlbAt wr sb bb N T
  far : w.heap.size ≤ bb
theorem PF.low {w wr w' : World} {sb bb N : Nat} {T : Nat → Ent} (h : PF w wr sb bb N T) (hb : Below wr.heap.size wr w') : PF w w' sb bb N T := ⟨h.bel.trans (hb.mono h.bel.size), h.tlb.low hb, h.far⟩
theorem PF.prog {w wr w' : World} {sb bb N : Nat} {T U : Nat → Ent} (h : PF w wr sb bb N T) (ht : TlbAt w' sb bb N U) (hb : Turn wr w' bb) : PF w w' sb bb N U := ⟨h.bel.trans (hb.to_below h.far h.bel.size), ht, h.far⟩
/-- The box of the entry beside them. -/
structure PG (w wr : World) (sb bb N : Nat) (T : Nat → Ent) (gb : Nat) (g : Ent) : Prop where
  pf : PF w wr sb bb N T
  row : RowE wr gb g
  ne : gb ≠ bb
theorem PG.low {w wr w' : World} {sb bb N gb : Nat} {T : Nat → Ent} {g : Ent} (h : PG w wr sb bb N T gb g) (hb : Below wr.heap.size wr w') : PG w w' sb bb N T gb g := ⟨h.pf.low hb, h.row.below hb h.row.lt, h.ne⟩
theorem PG.prog {w wr w' : World} {sb bb N gb : Nat} {T U : Nat → Ent} {g : Ent} (h : PG w wr sb bb N T gb g) (ht : TlbAt w' sb bb N U) (hb : Turn wr w' bb) : PG w w' sb bb N U gb g := ⟨h.pf.prog ht hb, row_turn h.row hb h.ne, h.ne⟩
theorem PG.drew {w wr : World} {sb bb N gb : Nat} {T : Nat → Ent} {g : Ent} (h : PG w wr sb bb N T gb g) : PG w wr.drew sb bb N T gb g := ⟨⟨h.pf.bel.drew, h.pf.tlb.same rfl rfl, h.pf.far⟩, h.row.drew, h.ne⟩
theorem PG.drewN {w wr : World} {sb bb N gb : Nat} {T : Nat → Ent} {g : Ent} (h : PG w wr sb bb N T gb g) (m : Nat) : PG w (wr.drewN m) sb bb N T gb g := ⟨⟨below_drewN h.pf.bel m, h.pf.tlb.same rfl rfl, h.pf.far⟩, ⟨h.row.row⟩, h.ne⟩
theorem PG.alloc {w wr : World} {sb bb N gb : Nat} {T : Nat → Ent} {g : Ent} (h : PG w wr sb bb N T gb g) (o : Obj) : PG w (wr.alloc o) sb bb N T gb g := h.low (box1 _ _)
theorem PG.setNew {w X wr : World} {sb bb N gb : Nat} {T : Nat → Ent} {g : Ent} {x0 x1 x2 x3 x4 x5 x6 x7 x8 x9 x10 : Value} (hX : PG w X sb bb N T gb g) (h : PG w wr sb bb N T gb g) :
    PG w (((((((((((wr.setCell ⟨X.heap.size, 0, none⟩ x0).setCell ⟨X.heap.size, 1, none⟩ x1).setCell ⟨X.heap.size, 2, none⟩ x2).setCell ⟨X.heap.size, 3, none⟩ x3).setCell ⟨X.heap.size, 4, none⟩ x4).setCell ⟨X.heap.size, 5, none⟩ x5).setCell ⟨X.heap.size, 6, none⟩ x6).setCell ⟨X.heap.size, 7, none⟩ x7).setCell ⟨X.heap.size, 8, none⟩ x8).setCell ⟨X.heap.size, 9, none⟩ x9).setCell ⟨X.heap.size, 10, none⟩ x10) sb bb N T gb g := by
  have h0 := hX.pf.bel.size
  have h1 := hX.pf.tlb.lt
  have h2 := hX.row.lt
  refine ⟨⟨?_, h.pf.tlb.same (row_far (by omega)) (row_far (by omega)), h.pf.far⟩, ⟨(row_far (by omega)).trans h.row.row⟩, h.ne⟩
  iterate 11 refine below_setN ?_ h0
  exact h.pf.bel
theorem PG.sc {w wr : World} {sb bb N gb : Nat} {T : Nat → Ent} {g : Ent} (h : PG w wr sb bb N T gb g) : wr.cell? ⟨gb, 0, none⟩ = some (.int .i64 g.size) ∧ wr.cell? ⟨gb, 1, none⟩ = some (.int .i64 g.ctx) ∧ wr.cell? ⟨gb, 2, none⟩ = some (.int .u64 g.va) ∧ wr.cell? ⟨gb, 3, none⟩ = some (.int .u64 g.pa) ∧ wr.cell? ⟨gb, 4, none⟩ = some (.bool g.att.write) ∧ wr.cell? ⟨gb, 5, none⟩ = some (.bool g.att.priv) ∧ wr.cell? ⟨gb, 6, none⟩ = some (.bool g.att.exec) ∧ wr.cell? ⟨gb, 7, none⟩ = some (.bool g.att.lock) ∧ wr.cell? ⟨gb, 8, none⟩ = some (.bool g.att.global) ∧ wr.cell? ⟨gb, 9, none⟩ = some (.bool g.att.quiet) ∧ wr.cell? ⟨gb, 10, none⟩ = some (.bool g.valid) := h.row.cells
theorem wrap_i64_bd (x : Int) : -9223372036854775808 ≤ wrap64 x ∧ wrap64 x ≤ 9223372036854775807 := by unfold wrap64; omega
/-! ### The walk -/
set_option maxHeartbeats 4000000 in
set_option maxRecDepth 100000 in
theorem walk (w : World) (a0 : Int) (w0 : (Lit.int .i64 a0).wf = true) (s1 : Option Addr) (len1 cap1 : Nat) (w1 : IsEnts w s1 len1 cap1) (a2 : Int) (w2 : (Lit.int .i64 a2).wf = true) (a3 : Int) (w3 : (Lit.int .u64 a3).wf = true) :
    Calls Try.prog 7 #[.int .i64 a0, .slice s1 len1 cap1, .int .i64 a2, .int .u64 a3] w fun e w' => e = .returned (.bool true) ∧ Below w.heap.size w w' := by
  obtain ⟨x0, x1⟩ := bounds_i64 w0
  obtain ⟨p0, p1⟩ := bounds_i64 w2
  obtain ⟨o0, o1⟩ := bounds_u64 w3
  have w1' := w1
  have hlen : len1 ≤ 9223372036854775807 := by
    rcases w1 with ⟨_, h⟩ | ⟨_, _, h1, h2, _⟩
    · omega
    · unfold maxLen at h2; omega
  clear w0 w1 w2 w3
  have HLV := Lib.hid (fun W => lives_any W)
  have main := Lib.hid (fun (a : Int) (W : World) => new_any a W)
  by_cases hn : 10 < a0
  · go_enter Try.func7, Try.ntmps7
    go_wp2_with fail
    refine (main.out _ _).mono ?_; rintro e W0 ⟨rfl, h0, b0, s0⟩
    generalize hN : newN _ = N at *
    have P0 : PF w W0 (w.heap.size + 1) w.heap.size N (fun _ => Ent.zero) := ⟨b0, h0, Nat.le_refl _⟩
    have hN1 : 1 ≤ N := h0.pos
    have hle := h0.le
    clear h0 b0 s0 main hN
    go_wp2_with fail
    go_loopw [10] (fun i wr => ∃ (j : Nat) (T : Nat → Ent), i = .int .i64 (j : Int) ∧ j ≤ 20 ∧ noLock T N ∧ PF w wr (w.heap.size + 1) w.heap.size N T) (fun i _ => 20 - (intOf i).toNat)
    case atStart => exact ⟨0, _, rfl, by omega, fun _ _ => rfl, P0⟩
    case round =>
      clear P0
      obtain ⟨j, T, rfl, hj, hnl, P⟩ := hrel
      by_cases h12 : (j : Int) < (len1 : Int) ∧ (j : Int) < 20
      · obtain ⟨h1, h2⟩ := h12
        obtain ⟨b, o, off, e, rfl, ho, hlc, hcm, he, hc⟩ := ents_at w1' j (by omega)
        unfold maxLen at hcm
        obtain ⟨g0, hok0, HG⟩ := good_some e he
        have hcl : ∀ {b o : Nat} {v : Value}, w.cell? ⟨b, o, none⟩ = some v → wr.cell? ⟨b, o, none⟩ = some v := fun {b o v} hc => (P.bel.cell (p := ⟨b, o, none⟩) (lt_cell hc)).trans hc
        obtain ⟨c0, c1, c2, c3, c4, c5, c6, c7, c8, c9, c10⟩ := hc
        replace c0 := hcl c0; replace c1 := hcl c1; replace c2 := hcl c2; replace c3 := hcl c3; replace c4 := hcl c4; replace c5 := hcl c5; replace c6 := hcl c6; replace c7 := hcl c7; replace c8 := hcl c8; replace c9 := hcl c9; replace c10 := hcl c10
        have hAE : (⟨b, off, none⟩ : Addr).add (j * 11) = ⟨b, o, none⟩ := by rw [← ho]; unfold Addr.add; split <;> simp_all
        have hok := lockAs_ok hok0 false
        have hgl : (lockAs g0 false).att.lock = false := rfl
        clear hcl hok0 he
        go_wp2_with fail
        refine (HG.out _).mono ?_; rintro r u1 ⟨rfl, hb1⟩
        have P1 := P.low hb1
        clear P hb1 HG c0 c1 c2 c3 c4 c5 c6 c7 c8 c9 c10 hAE ho
        have K1 : PG w (u1.alloc (.cells #[.int .i64 g0.size, .int .i64 g0.ctx, .int .u64 g0.va, .int .u64 g0.pa, .bool g0.att.write, .bool g0.att.priv, .bool g0.att.exec, .bool false, .bool g0.att.global, .bool g0.att.quiet, .bool g0.valid] 33)) (w.heap.size + 1) w.heap.size N T u1.heap.size (lockAs g0 false) :=
          ⟨P1.low (box1 _ _), RowE.new u1 (lockAs g0 false), by have := P1.tlb.lt; omega⟩
        have I := Lib.hid (fun p q0 q1 => ins_any (lockAs g0 false) (okE_wf hok) p q0 q1 _ K1.pf.tlb)
        go_wp2_with fail
        refine (I.out _ (wrap_i64_bd _).1 (wrap_i64_bd _).2).mono ?_; rintro r w4 ⟨rfl, ht4, tn4⟩
        generalize wrap64 (a2 + (j : Int) % 3) = pk at *
        have K4 := K1.prog ht4 tn4
        obtain ⟨hE0, hnl2, hi, hT⟩ := noLock_ins hnl hN1 hok.may hgl pk
        rw [hE0]
        have hob := off_lt hok.size a3
        have hab := at_bd hok hob.1 hob.2
        have hin := (at_in hok hob.1 hob.2).1
        have hhit : (lockAs g0 false).hitsB ((lockAs g0 false).va + offI a3 (lockAs g0 false).size) (lockAs g0 false).ctx = true := by
          unfold Ent.hitsB Ent.holdsB; rw [hin, hok.valid]; simp
        have hok4 := K4.pf.tlb.ok
        rw [← hT] at hhit
        have hF : findN (insT T N (lockAs g0 false) pk) N ((lockAs g0 false).va + offI a3 (lockAs g0 false).size) (lockAs g0 false).ctx = insN T N (lockAs g0 false) pk := find_at hok4 hi (by rw [hT] at hhit ⊢; exact hhit)
        have hfE : findE (insT T N (lockAs g0 false) pk) N ((lockAs g0 false).va + offI a3 (lockAs g0 false).size) (lockAs g0 false).ctx = lockAs g0 false := by unfold findE; rw [hF, if_pos hi, hT]
        have hfI : findI (insT T N (lockAs g0 false) pk) N ((lockAs g0 false).va + offI a3 (lockAs g0 false).size) (lockAs g0 false).ctx = (insN T N (lockAs g0 false) pk : Int) := by unfold findI; rw [hF, if_pos hi]
        have CF := fun W hW => find_any (sb := w.heap.size + 1) (bb := w.heap.size) (n := N) (T := insT T N (lockAs g0 false) pk) ((lockAs g0 false).va + offI a3 (lockAs g0 false).size) (lockAs g0 false).ctx hab.1 hab.2 W hW
        rw [hfE, hfI] at CF
        have CO := Lib.hid (fun W => roff_any a3 (lockAs g0 false).size o0 o1 W)
        have CF := Lib.hid CF
        have hoff := off_bd a3 (lockAs g0 false).size
        clear K1 I ht4 tn4 P1 hE0 hT hF hfE hfI hhit hok4 hin hok hgl hnl
        generalize lockAs g0 false = g at *
        generalize insT T N g pk = T4 at *
        generalize insN T N g pk = i0 at *
        generalize u1.heap.size = gb at *
        have hwr : IntKind.u64.wrap (g.va + offI a3 g.size) = g.va + offI a3 g.size := by rw [IntKind.wrap_u64]; omega
        have hnl2 := Lib.hid hnl2
        have hvl := vals_le T4 N
        obtain ⟨r0, r1, r2, r3, r4, r5, r6, r7, r8, r9, r10⟩ := K4.row.cells
        have hlr := K4.row.lt
        have hds : ∀ W : World, W.drew.heap.size = W.heap.size := fun _ => rfl
        go_wp2_with fail
        go_cut [14, 15] (fun a b wx => ∃ c, a = .pointer (some ⟨c, 0, none⟩) ∧ b = .int .i64 (i0 : Int) ∧ PG w wx (w.heap.size + 1) w.heap.size N T4 gb g ∧ RowE wx c g)
        case first =>
          go_region_held3 (fun w1 => w1.cell? ⟨gb, 0, none⟩ = some (.int .i64 g.size) ∧ w1.cell? ⟨gb, 1, none⟩ = some (.int .i64 g.ctx) ∧ w1.cell? ⟨gb, 2, none⟩ = some (.int .u64 g.va) ∧ w1.cell? ⟨gb, 3, none⟩ = some (.int .u64 g.pa) ∧ w1.cell? ⟨gb, 4, none⟩ = some (.bool g.att.write) ∧ w1.cell? ⟨gb, 5, none⟩ = some (.bool g.att.priv) ∧ w1.cell? ⟨gb, 6, none⟩ = some (.bool g.att.exec) ∧ w1.cell? ⟨gb, 7, none⟩ = some (.bool g.att.lock) ∧ w1.cell? ⟨gb, 8, none⟩ = some (.bool g.att.global) ∧ w1.cell? ⟨gb, 9, none⟩ = some (.bool g.att.quiet) ∧ w1.cell? ⟨gb, 10, none⟩ = some (.bool g.valid)) ((refine PG.sc (w := w) (sb := w.heap.size + 1) (bb := w.heap.size) (N := N) (T := T4) ?_; (repeat (first | (with_reducible assumption) | (with_reducible refine PG.drew ?_) | (with_reducible refine PG.drewN ?_ _) | (with_reducible refine PG.alloc ?_ _) | (with_reducible refine PG.setNew ?_ ?_) | (with_reducible refine PG.low ?_ (by assumption))))))
            (first
              | (go_at_call 26; (with_reducible refine (CO.out _).mono ?_); rintro r w' ⟨rfl, m, rfl⟩)
              | (go_at_call 23; (refine (CF.out _ (PG.pf (w := w) (gb := gb) (g := g) (by (repeat (first | (with_reducible assumption) | (with_reducible refine PG.drew ?_) | (with_reducible refine PG.drewN ?_ _) | (with_reducible refine PG.alloc ?_ _) | (with_reducible refine PG.setNew ?_ ?_) | (with_reducible refine PG.low ?_ (by assumption)))))).tlb).mono ?_); rintro r w' ⟨rfl, hb⟩; obtain ⟨hc, hf, hs1, hs2⟩ := bfacts hb; (try have hv : w4.heap.size < w'.heap.size := by (have hsz := hb.size; (try simp only [hds] at hsz); (try simp only [World.size_alloc] at hsz); omega))))
          all_goals
            go_wp2_with fail
            go_meet
            refine ⟨_, rfl, rfl, ?_, ?_⟩
            · (repeat (first | (with_reducible assumption) | (with_reducible refine PG.drew ?_) | (with_reducible refine PG.drewN ?_ _) | (with_reducible refine PG.alloc ?_ _) | (with_reducible refine PG.setNew ?_ ?_) | (with_reducible refine PG.low ?_ (by assumption))))
            · (first | (with_reducible exact RowE.new _ _) | (refine RowE.setAll (z := Ent.zero) ?_; (repeat (first | (with_reducible refine RowE.call ?_ (by assumption)) | (with_reducible refine RowE.drew ?_) | exact RowE.new _ Ent.zero))))
        case rest =>
          obtain ⟨c, rfl, rfl, K5, R5⟩ := hcut
          clear K4 CO CF r0 r1 r2 r3 r4 r5 r6 r7 r8 r9 r10
          have LI1 := Lib.hid (fun W hW => list_any (sb := w.heap.size + 1) (bb := w.heap.size) (n := N) (T := T4) W hW)
          have SL1 := Lib.hid (fun W hW => slots_any (sb := w.heap.size + 1) (bb := w.heap.size) (n := N) (T := T4) W hW)
          obtain ⟨r0, r1, r2, r3, r4, r5, r6, r7, r8, r9, r10⟩ := K5.row.cells
          obtain ⟨s0, s1, s2, s3, s4, s5, s6, s7, s8, s9, s10⟩ := R5.cells
          go_wp2_with fail
          refine (LI1.out _ K5.pf.tlb).mono ?_; rintro r w6 ⟨v6, rfl, hl6, hb6⟩
          obtain ⟨ao, cap, rfl⟩ := own_shape hl6
          have K6 := K5.low hb6
          clear K5 R5 LI1 hl6 hb6 r0 r1 r2 r3 r4 r5 r6 r7 r8 r9 r10 s0 s1 s2 s3 s4 s5 s6 s7 s8 s9 s10
          go_wp2_with fail
          refine (SL1.out _ K6.pf.tlb).mono ?_; rintro r w7 ⟨rfl, rfl⟩
          have hgt : ¬ ((N : Int) < ((vals T4 N).length : Int)) := by omega
          go_wp2_with fail
          go_roundw
          case rel => first | exact ⟨j + 1, _, by go_num, by omega, hnl2.out, K6.pf⟩ | ((repeat apply Exists.intro); exact ⟨⟨j + 1, _, by go_num, by omega, hnl2.out, K6.pf⟩, rfl⟩)
          case measure => simp [intOf]; omega
      · by_cases h1 : (j : Int) < (len1 : Int)
        · have h2 : ¬ ((j : Int) < 20) := by omega
          clear h12
          go_wp2_with fail
          refine (HLV.out _).mono ?_; rintro r w9 ⟨rfl, hb9⟩
          go_wp2_with fail
          go_ret
          exact ⟨rfl, (P.low hb9).bel⟩
        · clear h12
          go_wp2_with fail
          refine (HLV.out _).mono ?_; rintro r w9 ⟨rfl, hb9⟩
          go_wp2_with fail
          go_ret
          exact ⟨rfl, (P.low hb9).bel⟩
  · go_enter Try.func7, Try.ntmps7
    go_wp2_with fail
    refine (main.out _ _).mono ?_; rintro e W0 ⟨rfl, h0, b0, s0⟩
    generalize hN : newN _ = N at *
    have P0 : PF w W0 (w.heap.size + 1) w.heap.size N (fun _ => Ent.zero) := ⟨b0, h0, Nat.le_refl _⟩
    have hN1 : 1 ≤ N := h0.pos
    have hle := h0.le
    clear h0 b0 s0 main hN
    go_wp2_with fail
    go_loopw [10] (fun i wr => ∃ (j : Nat) (T : Nat → Ent), i = .int .i64 (j : Int) ∧ j ≤ 20 ∧ noLock T N ∧ PF w wr (w.heap.size + 1) w.heap.size N T) (fun i _ => 20 - (intOf i).toNat)
    case atStart => exact ⟨0, _, rfl, by omega, fun _ _ => rfl, P0⟩
    case round =>
      clear P0
      obtain ⟨j, T, rfl, hj, hnl, P⟩ := hrel
      by_cases h12 : (j : Int) < (len1 : Int) ∧ (j : Int) < 20
      · obtain ⟨h1, h2⟩ := h12
        obtain ⟨b, o, off, e, rfl, ho, hlc, hcm, he, hc⟩ := ents_at w1' j (by omega)
        unfold maxLen at hcm
        obtain ⟨g0, hok0, HG⟩ := good_some e he
        have hcl : ∀ {b o : Nat} {v : Value}, w.cell? ⟨b, o, none⟩ = some v → wr.cell? ⟨b, o, none⟩ = some v := fun {b o v} hc => (P.bel.cell (p := ⟨b, o, none⟩) (lt_cell hc)).trans hc
        obtain ⟨c0, c1, c2, c3, c4, c5, c6, c7, c8, c9, c10⟩ := hc
        replace c0 := hcl c0; replace c1 := hcl c1; replace c2 := hcl c2; replace c3 := hcl c3; replace c4 := hcl c4; replace c5 := hcl c5; replace c6 := hcl c6; replace c7 := hcl c7; replace c8 := hcl c8; replace c9 := hcl c9; replace c10 := hcl c10
        have hAE : (⟨b, off, none⟩ : Addr).add (j * 11) = ⟨b, o, none⟩ := by rw [← ho]; unfold Addr.add; split <;> simp_all
        have hok := lockAs_ok hok0 false
        have hgl : (lockAs g0 false).att.lock = false := rfl
        clear hcl hok0 he
        go_wp2_with fail
        refine (HG.out _).mono ?_; rintro r u1 ⟨rfl, hb1⟩
        have P1 := P.low hb1
        clear P hb1 HG c0 c1 c2 c3 c4 c5 c6 c7 c8 c9 c10 hAE ho
        have K1 : PG w (u1.alloc (.cells #[.int .i64 g0.size, .int .i64 g0.ctx, .int .u64 g0.va, .int .u64 g0.pa, .bool g0.att.write, .bool g0.att.priv, .bool g0.att.exec, .bool false, .bool g0.att.global, .bool g0.att.quiet, .bool g0.valid] 33)) (w.heap.size + 1) w.heap.size N T u1.heap.size (lockAs g0 false) :=
          ⟨P1.low (box1 _ _), RowE.new u1 (lockAs g0 false), by have := P1.tlb.lt; omega⟩
        have I := Lib.hid (fun p q0 q1 => ins_any (lockAs g0 false) (okE_wf hok) p q0 q1 _ K1.pf.tlb)
        go_wp2_with fail
        refine (I.out _ (wrap_i64_bd _).1 (wrap_i64_bd _).2).mono ?_; rintro r w4 ⟨rfl, ht4, tn4⟩
        generalize wrap64 (a2 + (j : Int) % 3) = pk at *
        have K4 := K1.prog ht4 tn4
        obtain ⟨hE0, hnl2, hi, hT⟩ := noLock_ins hnl hN1 hok.may hgl pk
        rw [hE0]
        have hob := off_lt hok.size a3
        have hab := at_bd hok hob.1 hob.2
        have hin := (at_in hok hob.1 hob.2).1
        have hhit : (lockAs g0 false).hitsB ((lockAs g0 false).va + offI a3 (lockAs g0 false).size) (lockAs g0 false).ctx = true := by
          unfold Ent.hitsB Ent.holdsB; rw [hin, hok.valid]; simp
        have hok4 := K4.pf.tlb.ok
        rw [← hT] at hhit
        have hF : findN (insT T N (lockAs g0 false) pk) N ((lockAs g0 false).va + offI a3 (lockAs g0 false).size) (lockAs g0 false).ctx = insN T N (lockAs g0 false) pk := find_at hok4 hi (by rw [hT] at hhit ⊢; exact hhit)
        have hfE : findE (insT T N (lockAs g0 false) pk) N ((lockAs g0 false).va + offI a3 (lockAs g0 false).size) (lockAs g0 false).ctx = lockAs g0 false := by unfold findE; rw [hF, if_pos hi, hT]
        have hfI : findI (insT T N (lockAs g0 false) pk) N ((lockAs g0 false).va + offI a3 (lockAs g0 false).size) (lockAs g0 false).ctx = (insN T N (lockAs g0 false) pk : Int) := by unfold findI; rw [hF, if_pos hi]
        have CF := fun W hW => find_any (sb := w.heap.size + 1) (bb := w.heap.size) (n := N) (T := insT T N (lockAs g0 false) pk) ((lockAs g0 false).va + offI a3 (lockAs g0 false).size) (lockAs g0 false).ctx hab.1 hab.2 W hW
        rw [hfE, hfI] at CF
        have CO := Lib.hid (fun W => roff_any a3 (lockAs g0 false).size o0 o1 W)
        have CF := Lib.hid CF
        have hoff := off_bd a3 (lockAs g0 false).size
        clear K1 I ht4 tn4 P1 hE0 hT hF hfE hfI hhit hok4 hin hok hgl hnl
        generalize lockAs g0 false = g at *
        generalize insT T N g pk = T4 at *
        generalize insN T N g pk = i0 at *
        generalize u1.heap.size = gb at *
        have hwr : IntKind.u64.wrap (g.va + offI a3 g.size) = g.va + offI a3 g.size := by rw [IntKind.wrap_u64]; omega
        have hnl2 := Lib.hid hnl2
        have hvl := vals_le T4 N
        obtain ⟨r0, r1, r2, r3, r4, r5, r6, r7, r8, r9, r10⟩ := K4.row.cells
        have hlr := K4.row.lt
        have hds : ∀ W : World, W.drew.heap.size = W.heap.size := fun _ => rfl
        go_wp2_with fail
        go_cut [14, 15] (fun a b wx => ∃ c, a = .pointer (some ⟨c, 0, none⟩) ∧ b = .int .i64 (i0 : Int) ∧ PG w wx (w.heap.size + 1) w.heap.size N T4 gb g ∧ RowE wx c g)
        case first =>
          go_region_held3 (fun w1 => w1.cell? ⟨gb, 0, none⟩ = some (.int .i64 g.size) ∧ w1.cell? ⟨gb, 1, none⟩ = some (.int .i64 g.ctx) ∧ w1.cell? ⟨gb, 2, none⟩ = some (.int .u64 g.va) ∧ w1.cell? ⟨gb, 3, none⟩ = some (.int .u64 g.pa) ∧ w1.cell? ⟨gb, 4, none⟩ = some (.bool g.att.write) ∧ w1.cell? ⟨gb, 5, none⟩ = some (.bool g.att.priv) ∧ w1.cell? ⟨gb, 6, none⟩ = some (.bool g.att.exec) ∧ w1.cell? ⟨gb, 7, none⟩ = some (.bool g.att.lock) ∧ w1.cell? ⟨gb, 8, none⟩ = some (.bool g.att.global) ∧ w1.cell? ⟨gb, 9, none⟩ = some (.bool g.att.quiet) ∧ w1.cell? ⟨gb, 10, none⟩ = some (.bool g.valid)) ((refine PG.sc (w := w) (sb := w.heap.size + 1) (bb := w.heap.size) (N := N) (T := T4) ?_; (repeat (first | (with_reducible assumption) | (with_reducible refine PG.drew ?_) | (with_reducible refine PG.drewN ?_ _) | (with_reducible refine PG.alloc ?_ _) | (with_reducible refine PG.setNew ?_ ?_) | (with_reducible refine PG.low ?_ (by assumption))))))
            (first
              | (go_at_call 26; (with_reducible refine (CO.out _).mono ?_); rintro r w' ⟨rfl, m, rfl⟩)
              | (go_at_call 23; (refine (CF.out _ (PG.pf (w := w) (gb := gb) (g := g) (by (repeat (first | (with_reducible assumption) | (with_reducible refine PG.drew ?_) | (with_reducible refine PG.drewN ?_ _) | (with_reducible refine PG.alloc ?_ _) | (with_reducible refine PG.setNew ?_ ?_) | (with_reducible refine PG.low ?_ (by assumption)))))).tlb).mono ?_); rintro r w' ⟨rfl, hb⟩; obtain ⟨hc, hf, hs1, hs2⟩ := bfacts hb; (try have hv : w4.heap.size < w'.heap.size := by (have hsz := hb.size; (try simp only [hds] at hsz); (try simp only [World.size_alloc] at hsz); omega))))
          all_goals
            go_wp2_with fail
            go_meet
            refine ⟨_, rfl, rfl, ?_, ?_⟩
            · (repeat (first | (with_reducible assumption) | (with_reducible refine PG.drew ?_) | (with_reducible refine PG.drewN ?_ _) | (with_reducible refine PG.alloc ?_ _) | (with_reducible refine PG.setNew ?_ ?_) | (with_reducible refine PG.low ?_ (by assumption))))
            · (first | (with_reducible exact RowE.new _ _) | (refine RowE.setAll (z := Ent.zero) ?_; (repeat (first | (with_reducible refine RowE.call ?_ (by assumption)) | (with_reducible refine RowE.drew ?_) | exact RowE.new _ Ent.zero))))
        case rest =>
          obtain ⟨c, rfl, rfl, K5, R5⟩ := hcut
          clear K4 CO CF r0 r1 r2 r3 r4 r5 r6 r7 r8 r9 r10
          have LI1 := Lib.hid (fun W hW => list_any (sb := w.heap.size + 1) (bb := w.heap.size) (n := N) (T := T4) W hW)
          have SL1 := Lib.hid (fun W hW => slots_any (sb := w.heap.size + 1) (bb := w.heap.size) (n := N) (T := T4) W hW)
          obtain ⟨r0, r1, r2, r3, r4, r5, r6, r7, r8, r9, r10⟩ := K5.row.cells
          obtain ⟨s0, s1, s2, s3, s4, s5, s6, s7, s8, s9, s10⟩ := R5.cells
          go_wp2_with fail
          refine (LI1.out _ K5.pf.tlb).mono ?_; rintro r w6 ⟨v6, rfl, hl6, hb6⟩
          obtain ⟨ao, cap, rfl⟩ := own_shape hl6
          have K6 := K5.low hb6
          clear K5 R5 LI1 hl6 hb6 r0 r1 r2 r3 r4 r5 r6 r7 r8 r9 r10 s0 s1 s2 s3 s4 s5 s6 s7 s8 s9 s10
          go_wp2_with fail
          refine (SL1.out _ K6.pf.tlb).mono ?_; rintro r w7 ⟨rfl, rfl⟩
          have hgt : ¬ ((N : Int) < ((vals T4 N).length : Int)) := by omega
          go_wp2_with fail
          go_roundw
          case rel => first | exact ⟨j + 1, _, by go_num, by omega, hnl2.out, K6.pf⟩ | ((repeat apply Exists.intro); exact ⟨⟨j + 1, _, by go_num, by omega, hnl2.out, K6.pf⟩, rfl⟩)
          case measure => simp [intOf]; omega
      · by_cases h1 : (j : Int) < (len1 : Int)
        · have h2 : ¬ ((j : Int) < 20) := by omega
          clear h12
          go_wp2_with fail
          refine (HLV.out _).mono ?_; rintro r w9 ⟨rfl, hb9⟩
          go_wp2_with fail
          go_ret
          exact ⟨rfl, (P.low hb9).bel⟩
        · clear h12
          go_wp2_with fail
          refine (HLV.out _).mono ?_; rintro r w9 ⟨rfl, hb9⟩
          go_wp2_with fail
          go_ret
          exact ⟨rfl, (P.low hb9).bel⟩

/-! ### The row -/
set_option maxRecDepth 100000 in
theorem lifted (os : Os) (started : os.Started) (H : Type) (enc : TypeId × Value → H) :
    ReturnsInHanded {} Try.checked os 7 .any (Rows.tlbFindsSpec.pre6 enc Try.prog Try.f7 Rows.tlbFindsRow.domain false) (Rows.tlbFindsSpec.post enc Try.prog Try.f7 false true false false) := by
  refine returnsInHanded_of_change (C := Try.checked) own started (by kernel_rfl) Try.func7
    (ChangeSpec.witness6 (enc := enc) (C := Try.checked) false ⟨#[], #[.int .i64 0, .slice none 0 0, .int .i64 0, .int .u64 0], []⟩ 8 (by kernel_rfl) (by kernel_rfl) (by kernel_rfl) (by kernel_rfl)) ?_
  intro W base args ds gs before hval0 hW hcnd _
  have hval : ∀ (j : Nat) t v, Try.f7.params[j]? = some t → args[j]? = some v → Value.okWide Try.prog W .any base t v := hval0
  have hW' := hW
  obtain ⟨p, q, hA0, hV, rfl, hfz, hnd⟩ := hW
  have hA : DataW.TrodAll enc Try.prog W 0 (fun _ => true) true Try.f7.params.toList args.toList ds p := hA0
  rw [Try.params7] at hA hval
  obtain ⟨v0, vs0, d0, ds0, p0, q0, hargs, rfl, rfl, h0, r0⟩ := trodAll_cons hA
  obtain ⟨v1, vs1, d1, ds1, p1, q1, rfl, rfl, rfl, h1, r1⟩ := trodAll_cons r0
  obtain ⟨v2, vs2, d2, ds2, p2, q2, rfl, rfl, rfl, h2, r2⟩ := trodAll_cons r1
  obtain ⟨v3, vs3, d3, ds3, p3, q3, rfl, rfl, rfl, h3, r3⟩ := trodAll_cons r2
  obtain ⟨rfl, rfl, rfl⟩ := trodAll_nil r3
  obtain rfl : args = #[v0, v1, v2, v3] := by cases args; simp_all
  obtain ⟨rfl, rfl⟩ := trodVars_none hV
  obtain ⟨a0, rfl, rfl, rfl, w0⟩ := open_int Try.underlying3 (hval 0 3 v0 rfl rfl) h0
  obtain ⟨s1, len1, cap1, rfl⟩ := okWide_slice Try.underlying25 (hval 1 25 v1 rfl rfl)
  have k1 := h1
  have lt1 : ∀ x ∈ p1, x.block < W.heap.size := by obtain ⟨m, hm⟩ := k1; exact DataW.trod_lt m _ _ _ hm
  have w1 : IsEnts W s1 len1 cap1 := by
    obtain ⟨fuel, hf⟩ := h1
    exact open_ents hf
  obtain ⟨a2, rfl, rfl, rfl, w2⟩ := open_int Try.underlying3 (hval 2 3 v2 rfl rfl) h2
  obtain ⟨a3, rfl, rfl, rfl, w3⟩ := open_int Try.underlying29 (hval 3 29 v3 rfl rfl) h3
  clear hA0 hval0
  simp only [List.append_nil] at hW'
  refine (walk W a0 w0 s1 len1 cap1 w1 a2 w2 a3 w3).mono fun e W' ⟨he, hg⟩ => ?_
  subst he
  exact ⟨_, rfl, _, _, _, [], _, [], hW', trodAll_mk1 (shut_bool Try.underlying4 _), (trodAll_cons_mk (shut_int Try.underlying3 w0) (trodAll_cons_mk (Below.trod laidOut (by kernel_rfl) (of_decide_eq_true (by kernel_rfl)) k1 hg lt1) (trodAll_cons_mk (shut_int Try.underlying3 w2) (trodAll_cons_mk (shut_int Try.underlying29 w3) trodAll_mk0)))), rfl, hg.frame _, fun h => by cases h⟩

theorem over : Rows.tlbFindsRow.holds Try.pinned (OpenSpec.ofChange Rows.tlbFindsSpec) :=
  OpenClaim.holds_of_wide 7 Try.f7 rfl rfl rfl rfl rfl rfl rfl ⟨rfl, rfl, rfl, rfl, rfl⟩ rfl rfl rfl rfl rfl (by kernel_rfl) Try.func7 (by kernel_rfl)
    (of_decide_eq_true (by kernel_rfl)) (by unfold Func.isWrapper; first | (rw [if_pos (by decide +kernel)]; kernel_rfl) | (rw [if_neg (by decide +kernel)]; exact ⟨rfl, rfl⟩))
    (fun os started H enc _ => lifted os started H enc)

theorem proved : Rows.TlbFindsSaid :=
  over
#print axioms proved
end Go.Proofs.Ytbhpljjogmagoaa.tlbFinds
