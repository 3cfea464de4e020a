/-
  TlbLocks: for every number, entry, all entries and every pick the law returns true, and its arguments read as before. Conditions: none.
-/
import Derived.Test.YtbhpljjogmagoaaRows
import Derived.WalkKit
import Derived.ProofKit
import Derived.OpenShut
import Derived.Test.YtbhpljjogmagoaaGE
import Derived.Deep.DeepCutAuto
namespace Go.Proofs.Ytbhpljjogmagoaa.tlbLocks
open Fld Tl
open Go.ChangeShapes Go.WideShapes Go.ChangeAt Go.RowKit Go.Deep Go.Shelf
set_option linter.unusedVariables false

theorem own : ownKnob Try.prog.godebug = none := by kernel_rfl

/-- The boxed entry with its lock, and the places. -/
structure LK (w wr : World) (sb bb N : Nat) (T : Nat → Ent) (gb : Nat) (g : Ent) : Prop where
  bel : Below w.heap.size w wr
  tlb : TlbAt wr sb bb N T
  row : RowE wr gb g
  far : w.heap.size ≤ bb ∧ gb ≠ bb
theorem LK.low {w wr w' : World} {sb bb N gb : Nat} {T : Nat → Ent} {g : Ent} (h : LK w wr sb bb N T gb g) (hb : Below wr.heap.size wr w') : LK w w' sb bb N T gb g := ⟨h.bel.trans (hb.mono h.bel.size), h.tlb.low hb, h.row.below hb h.row.lt, h.far⟩
theorem LK.prog {w wr w' : World} {sb bb N gb : Nat} {T U : Nat → Ent} {g : Ent} (h : LK w wr sb bb N T gb g) (ht : TlbAt w' sb bb N U) (hb : Turn wr w' bb) : LK w w' sb bb N U gb g := ⟨h.bel.trans (hb.to_below h.far.1 h.bel.size), ht, row_turn h.row hb h.far.2, h.far⟩
/-! ### The walk -/
set_option maxHeartbeats 4000000 in
set_option maxRecDepth 100000 in
theorem walk (w : World) (a0 : Int) (w0 : (Lit.int .i64 a0).wf = true) (E1 : Ent) (l1 : E1.lits) (s2 : Option Addr) (len2 cap2 : Nat) (w2 : IsEnts w s2 len2 cap2) (a3 : Int) (w3 : (Lit.int .i64 a3).wf = true) :
    Calls Try.prog 6 #[.int .i64 a0, .agg #[.int .i64 E1.size, .int .i64 E1.ctx, .int .u64 E1.va, .int .u64 E1.pa, .bool E1.att.write, .bool E1.att.priv, .bool E1.att.exec, .bool E1.att.lock, .bool E1.att.global, .bool E1.att.quiet, .bool E1.valid], .slice s2 len2 cap2, .int .i64 a3] w fun e w' => e = .returned (.bool true) ∧ Below w.heap.size w w' := by
  obtain ⟨x0, x1⟩ := bounds_i64 w0
  obtain ⟨p0, p1⟩ := bounds_i64 w3
  have w2' := w2
  have hlen : len2 ≤ 9223372036854775807 := by
    rcases w2 with ⟨_, h⟩ | ⟨_, _, h1, h2, _⟩
    · omega
    · unfold maxLen at h2; omega
  clear w0 w3 w2
  obtain ⟨g0, hok0, HG⟩ := good_some E1 l1
  have HLV := Lib.hid (fun W => lives_any W)
  have hok := lockAs_ok hok0 true
  have main := Lib.hid (fun (a : Int) (W : World) => new_any a W)
  clear l1 hok0
  by_cases hn : 10 < a0
  · go_enter Try.func6, Try.ntmps6
    go_wp2_with fail
    refine (main.out _ _).mono ?_; rintro e W0 ⟨rfl, h0, b0, s0⟩
    simp only [World.size_alloc] at h0 b0 s0
    generalize hN : newN _ = N at *
    have hN1 : 1 ≤ N := h0.pos
    have R0 := (RowE.new w E1).below b0 (by simp)
    have B0 : Below w.heap.size w W0 := (box1 w (.cells #[.int .i64 E1.size, .int .i64 E1.ctx, .int .u64 E1.va, .int .u64 E1.pa, .bool E1.att.write, .bool E1.att.priv, .bool E1.att.exec, .bool E1.att.lock, .bool E1.att.global, .bool E1.att.quiet, .bool E1.valid] 33)).trans (b0.mono (by omega))
    clear hN main b0
    obtain ⟨e0, e1, e2, e3, e4, e5, e6, e7, e8, e9, e10⟩ := R0.cells
    go_wp2_with fail
    refine (HG.out _).mono ?_; rintro r u1 ⟨rfl, hb1⟩
    have h1 := h0.low hb1
    have B1 := B0.trans (hb1.mono B0.size)
    have hz1 : w.heap.size + 1 + 2 ≤ u1.heap.size := Nat.le_trans s0 hb1.size
    clear R0 B0 hb1 HG h0 s0 e0 e1 e2 e3 e4 e5 e6 e7 e8 e9 e10
    go_wp2_with fail
    have K1 : LK w (u1.alloc (.cells #[.int .i64 g0.size, .int .i64 g0.ctx, .int .u64 g0.va, .int .u64 g0.pa, .bool g0.att.write, .bool g0.att.priv, .bool g0.att.exec, .bool true, .bool g0.att.global, .bool g0.att.quiet, .bool g0.valid] 33)) (w.heap.size + 1 + 1) (w.heap.size + 1) N (fun _ => Ent.zero) u1.heap.size (lockAs g0 true) :=
      ⟨B1.alloc B1.size _, h1.low (box1 _ _), RowE.new u1 (lockAs g0 true), ⟨by omega, by omega⟩⟩
    have I := Lib.hid (ins_any (lockAs g0 true) (okE_wf hok) a3 p0 p1 _ K1.tlb)
    refine I.out.mono ?_; rintro r w4 ⟨rfl, ht4, tn4⟩
    have K4 := K1.prog ht4 tn4
    obtain ⟨hE0, hi, hT⟩ := ins_zero hN1 hok.may a3
    have hl : (lockAs g0 true).att.lock = true := rfl
    rw [hE0]
    clear K1 I ht4 tn4 h1 B1 hE0
    generalize lockAs g0 true = g at *
    generalize insT (fun _ => Ent.zero) N g a3 = T1 at *
    generalize insN (fun _ => Ent.zero) N g a3 = i0 at *
    generalize u1.heap.size = gb at *
    have hgv := hok.valid
    have hgm := hok.may
    have hgw := okE_wf hok
    clear hz1 hok
    have hT := Lib.hid hT
    go_wp2_with fail
    go_loopw [13] (fun i wr => ∃ (j : Nat) (T : Nat → Ent), i = .int .i64 (j : Int) ∧ j ≤ 20 ∧ T i0 = g ∧ LK w wr (w.heap.size + 1 + 1) (w.heap.size + 1) N T gb g) (fun i _ => 20 - (intOf i).toNat)
    case atStart => exact ⟨0, _, rfl, by omega, hT.out, K4⟩
    case round =>
      clear K4 hT
      obtain ⟨j, T, rfl, hj, hTg, K⟩ := hrel
      have hTg := Lib.hid hTg
      by_cases h12 : (j : Int) < (len2 : Int) ∧ (j : Int) < 20
      · obtain ⟨h1, h2⟩ := h12
        obtain ⟨b, o, off, e, rfl, ho, hlc, hcm, he, hc⟩ := ents_at w2' j (by omega)
        unfold maxLen at hcm
        obtain ⟨g2, hok2, HG2⟩ := good_some e he
        have hcl : ∀ {b o : Nat} {v : Value}, w.cell? ⟨b, o, none⟩ = some v → wr.cell? ⟨b, o, none⟩ = some v := fun {b o v} hc => (K.bel.cell (p := ⟨b, o, none⟩) (lt_cell hc)).trans hc
        obtain ⟨c0, c1, c2, c3, c4, c5, c6, c7, c8, c9, c10⟩ := hc
        replace c0 := hcl c0; replace c1 := hcl c1; replace c2 := hcl c2; replace c3 := hcl c3; replace c4 := hcl c4; replace c5 := hcl c5; replace c6 := hcl c6; replace c7 := hcl c7; replace c8 := hcl c8; replace c9 := hcl c9; replace c10 := hcl c10
        have hAE : (⟨b, off, none⟩ : Addr).add (j * 11) = ⟨b, o, none⟩ := by rw [← ho]; unfold Addr.add; split <;> simp_all
        have hw2 := okE_wf hok2
        clear hcl hok2 he
        go_wp2_with fail
        refine (HG2.out _).mono ?_; rintro r u5 ⟨rfl, hb5⟩
        have K5 := K.low hb5
        clear K hb5 HG2 c0 c1 c2 c3 c4 c5 c6 c7 c8 c9 c10 hAE ho
        go_wp2_with fail
        refine (ins_any g2 hw2 a3 p0 p1 u5 K5.tlb).mono ?_; rintro r w6 ⟨rfl, ht6, tn6⟩
        have K6 := K5.prog ht6 tn6
        have hT6 : insT T N g2 a3 i0 = g := (ins_keeps hi (by rw [hTg.out]; exact hgv) (by rw [hTg.out]; exact hl) g2 a3).trans hTg.out
        have hT6 := Lib.hid hT6
        clear K5 ht6 tn6 hTg
        generalize insT T N g2 a3 = T6 at *
        generalize insN T N g2 a3 = z1 at *
        generalize insE T N g2 = z2 at *
        have AA := at_any (i0 : Int) w6 K6.tlb
        rw [show atE T6 N (i0 : Int) = g by unfold atE hasB; simp [hi]; exact hT6.out] at AA
        have AA := Lib.hid AA
        go_wp2_with fail
        refine AA.out.mono ?_; rintro r w7 ⟨rfl, hb7⟩
        have K7 := K6.low hb7
        clear AA K6 hb7
        obtain ⟨r0, r1, r2, r3, r4, r5, r6, r7, r8, r9, r10⟩ := K7.row.cells
        have hlr := K7.row.lt
        have K8 := K7.low (box1 w7 (.cells #[.int .i64 g.size, .int .i64 g.ctx, .int .u64 g.va, .int .u64 g.pa, .bool g.att.write, .bool g.att.priv, .bool g.att.exec, .bool g.att.lock, .bool g.att.global, .bool g.att.quiet, .bool g.valid] 33))
        rw [hl, hgv] at K8
        clear K7
        go_wp2_with fail
        go_roundw
        case rel => exact ⟨j + 1, _, by go_num, by omega, hT6.out, K8⟩
        case measure => simp [intOf]; omega
      · have hd7 : dropE T (fun e => !e.att.lock) N i0 = g := by
          rw [dropE_lt hi, hTg.out]; simp [hl]
        have hLL := Lib.hid (left_lock T N)
        have D := Lib.hid (dall_any wr K.tlb)
        have hd7 := Lib.hid hd7
        clear hTg
        generalize dropE T (fun e => !e.att.lock) N = T7 at *
        generalize cntE T (fun e => !e.att.lock) N = z at *
        have hvl := vals_le T7 N
        have hle := K.tlb.le
        by_cases h1 : (j : Int) < (len2 : Int)
        · have h2 : ¬ ((j : Int) < 20) := by omega
          clear h12
          go_wp2_with fail
          refine D.out.mono ?_; rintro r w7 ⟨rfl, ht7, tn7⟩
          have K7 := K.prog ht7 tn7
          have hok7 := K7.tlb.ok
          have hh := hits_self hgm
          have hF : findN T7 N g.va g.ctx = i0 := find_at hok7 hi (by rw [hd7.out]; exact hh)
          have FF := find_any g.va g.ctx hgw.2.2.1.1 hgw.2.2.1.2 w7 K7.tlb
          rw [show findE T7 N g.va g.ctx = g by unfold findE; rw [hF, if_pos hi, hd7.out], show findI T7 N g.va g.ctx = (i0 : Int) by unfold findI; rw [hF, if_pos hi]] at FF
          have FF := Lib.hid FF
          have hC1 := Lib.hid (hits_cnt hok7 hi (va := g.va) (ctx := g.ctx) (by rw [hd7.out]; exact hh))
          have LK1 := Lib.hid (fun W hW => locked_any (sb := w.heap.size + 1 + 1) (bb := w.heap.size + 1) (n := N) (T := T7) W hW)
          have LI1 := Lib.hid (fun W hW => list_any (sb := w.heap.size + 1 + 1) (bb := w.heap.size + 1) (n := N) (T := T7) W hW)
          have DP1 := Lib.hid (fun W hW => dpage_any (sb := w.heap.size + 1 + 1) (bb := w.heap.size + 1) (n := N) (T := T7) g.va g.ctx hgw.2.2.1.1 hgw.2.2.1.2 W hW)
          rw [hLL.out] at LK1
          rw [hC1.out] at DP1
          clear K ht7 tn7 D hd7 hok7 hh hF hLL hC1
          obtain ⟨r0, r1, r2, r3, r4, r5, r6, r7, r8, r9, r10⟩ := K7.row.cells
          go_wp2_with fail
          refine FF.out.mono ?_; rintro r w8 ⟨rfl, hb8⟩
          have K8 := K7.low hb8
          clear FF K7 hb8 r0 r1 r2 r3 r4 r5 r6 r7 r8 r9 r10
          obtain ⟨r0, r1, r2, r3, r4, r5, r6, r7, r8, r9, r10⟩ := K8.row.cells
          have hlr := K8.row.lt
          have K9 := K8.low (box1 w8 (.cells #[.int .i64 g.size, .int .i64 g.ctx, .int .u64 g.va, .int .u64 g.pa, .bool g.att.write, .bool g.att.priv, .bool g.att.exec, .bool g.att.lock, .bool g.att.global, .bool g.att.quiet, .bool g.valid] 33))
          rw [hl, hgv] at K9
          clear K8
          go_wp2_with fail
          refine (LK1.out _ K9.tlb).mono ?_; rintro r w10 ⟨rfl, hb10⟩
          have K10 := K9.low hb10
          clear LK1 K9 hb10 r0 r1 r2 r3 r4 r5 r6 r7 r8 r9 r10
          go_wp2_with fail
          refine (LI1.out _ K10.tlb).mono ?_; rintro r w11 ⟨v11, rfl, hl11, hb11⟩
          have K11 := K10.low hb11
          obtain ⟨ao, cap, rfl⟩ := own_shape hl11
          clear LI1 K10 hb11 hl11
          obtain ⟨r0, r1, r2, r3, r4, r5, r6, r7, r8, r9, r10⟩ := K11.row.cells
          go_wp2_with fail
          refine (DP1.out _ K11.tlb).mono ?_; rintro r w12 ⟨rfl, ht12, tn12⟩
          have K12 := K11.prog ht12 tn12
          clear DP1 K11 ht12 tn12 r0 r1 r2 r3 r4 r5 r6 r7 r8 r9 r10
          go_wp2_with fail
          refine (HLV.out _).mono ?_; rintro r w13 ⟨rfl, hb13⟩
          go_wp2_with fail
          go_ret
          exact ⟨rfl, (K12.low hb13).bel⟩
        · clear h12
          go_wp2_with fail
          refine D.out.mono ?_; rintro r w7 ⟨rfl, ht7, tn7⟩
          have K7 := K.prog ht7 tn7
          have hok7 := K7.tlb.ok
          have hh := hits_self hgm
          have hF : findN T7 N g.va g.ctx = i0 := find_at hok7 hi (by rw [hd7.out]; exact hh)
          have FF := find_any g.va g.ctx hgw.2.2.1.1 hgw.2.2.1.2 w7 K7.tlb
          rw [show findE T7 N g.va g.ctx = g by unfold findE; rw [hF, if_pos hi, hd7.out], show findI T7 N g.va g.ctx = (i0 : Int) by unfold findI; rw [hF, if_pos hi]] at FF
          have FF := Lib.hid FF
          have hC1 := Lib.hid (hits_cnt hok7 hi (va := g.va) (ctx := g.ctx) (by rw [hd7.out]; exact hh))
          have LK1 := Lib.hid (fun W hW => locked_any (sb := w.heap.size + 1 + 1) (bb := w.heap.size + 1) (n := N) (T := T7) W hW)
          have LI1 := Lib.hid (fun W hW => list_any (sb := w.heap.size + 1 + 1) (bb := w.heap.size + 1) (n := N) (T := T7) W hW)
          have DP1 := Lib.hid (fun W hW => dpage_any (sb := w.heap.size + 1 + 1) (bb := w.heap.size + 1) (n := N) (T := T7) g.va g.ctx hgw.2.2.1.1 hgw.2.2.1.2 W hW)
          rw [hLL.out] at LK1
          rw [hC1.out] at DP1
          clear K ht7 tn7 D hd7 hok7 hh hF hLL hC1
          obtain ⟨r0, r1, r2, r3, r4, r5, r6, r7, r8, r9, r10⟩ := K7.row.cells
          go_wp2_with fail
          refine FF.out.mono ?_; rintro r w8 ⟨rfl, hb8⟩
          have K8 := K7.low hb8
          clear FF K7 hb8 r0 r1 r2 r3 r4 r5 r6 r7 r8 r9 r10
          obtain ⟨r0, r1, r2, r3, r4, r5, r6, r7, r8, r9, r10⟩ := K8.row.cells
          have hlr := K8.row.lt
          have K9 := K8.low (box1 w8 (.cells #[.int .i64 g.size, .int .i64 g.ctx, .int .u64 g.va, .int .u64 g.pa, .bool g.att.write, .bool g.att.priv, .bool g.att.exec, .bool g.att.lock, .bool g.att.global, .bool g.att.quiet, .bool g.valid] 33))
          rw [hl, hgv] at K9
          clear K8
          go_wp2_with fail
          refine (LK1.out _ K9.tlb).mono ?_; rintro r w10 ⟨rfl, hb10⟩
          have K10 := K9.low hb10
          clear LK1 K9 hb10 r0 r1 r2 r3 r4 r5 r6 r7 r8 r9 r10
          go_wp2_with fail
          refine (LI1.out _ K10.tlb).mono ?_; rintro r w11 ⟨v11, rfl, hl11, hb11⟩
          have K11 := K10.low hb11
          obtain ⟨ao, cap, rfl⟩ := own_shape hl11
          clear LI1 K10 hb11 hl11
          obtain ⟨r0, r1, r2, r3, r4, r5, r6, r7, r8, r9, r10⟩ := K11.row.cells
          go_wp2_with fail
          refine (DP1.out _ K11.tlb).mono ?_; rintro r w12 ⟨rfl, ht12, tn12⟩
          have K12 := K11.prog ht12 tn12
          clear DP1 K11 ht12 tn12 r0 r1 r2 r3 r4 r5 r6 r7 r8 r9 r10
          go_wp2_with fail
          refine (HLV.out _).mono ?_; rintro r w13 ⟨rfl, hb13⟩
          go_wp2_with fail
          go_ret
          exact ⟨rfl, (K12.low hb13).bel⟩
  · go_enter Try.func6, Try.ntmps6
    go_wp2_with fail
    refine (main.out _ _).mono ?_; rintro e W0 ⟨rfl, h0, b0, s0⟩
    simp only [World.size_alloc] at h0 b0 s0
    generalize hN : newN _ = N at *
    have hN1 : 1 ≤ N := h0.pos
    have R0 := (RowE.new w E1).below b0 (by simp)
    have B0 : Below w.heap.size w W0 := (box1 w (.cells #[.int .i64 E1.size, .int .i64 E1.ctx, .int .u64 E1.va, .int .u64 E1.pa, .bool E1.att.write, .bool E1.att.priv, .bool E1.att.exec, .bool E1.att.lock, .bool E1.att.global, .bool E1.att.quiet, .bool E1.valid] 33)).trans (b0.mono (by omega))
    clear hN main b0
    obtain ⟨e0, e1, e2, e3, e4, e5, e6, e7, e8, e9, e10⟩ := R0.cells
    go_wp2_with fail
    refine (HG.out _).mono ?_; rintro r u1 ⟨rfl, hb1⟩
    have h1 := h0.low hb1
    have B1 := B0.trans (hb1.mono B0.size)
    have hz1 : w.heap.size + 1 + 2 ≤ u1.heap.size := Nat.le_trans s0 hb1.size
    clear R0 B0 hb1 HG h0 s0 e0 e1 e2 e3 e4 e5 e6 e7 e8 e9 e10
    go_wp2_with fail
    have K1 : LK w (u1.alloc (.cells #[.int .i64 g0.size, .int .i64 g0.ctx, .int .u64 g0.va, .int .u64 g0.pa, .bool g0.att.write, .bool g0.att.priv, .bool g0.att.exec, .bool true, .bool g0.att.global, .bool g0.att.quiet, .bool g0.valid] 33)) (w.heap.size + 1 + 1) (w.heap.size + 1) N (fun _ => Ent.zero) u1.heap.size (lockAs g0 true) :=
      ⟨B1.alloc B1.size _, h1.low (box1 _ _), RowE.new u1 (lockAs g0 true), ⟨by omega, by omega⟩⟩
    have I := Lib.hid (ins_any (lockAs g0 true) (okE_wf hok) a3 p0 p1 _ K1.tlb)
    refine I.out.mono ?_; rintro r w4 ⟨rfl, ht4, tn4⟩
    have K4 := K1.prog ht4 tn4
    obtain ⟨hE0, hi, hT⟩ := ins_zero hN1 hok.may a3
    have hl : (lockAs g0 true).att.lock = true := rfl
    rw [hE0]
    clear K1 I ht4 tn4 h1 B1 hE0
    generalize lockAs g0 true = g at *
    generalize insT (fun _ => Ent.zero) N g a3 = T1 at *
    generalize insN (fun _ => Ent.zero) N g a3 = i0 at *
    generalize u1.heap.size = gb at *
    have hgv := hok.valid
    have hgm := hok.may
    have hgw := okE_wf hok
    clear hz1 hok
    have hT := Lib.hid hT
    go_wp2_with fail
    go_loopw [13] (fun i wr => ∃ (j : Nat) (T : Nat → Ent), i = .int .i64 (j : Int) ∧ j ≤ 20 ∧ T i0 = g ∧ LK w wr (w.heap.size + 1 + 1) (w.heap.size + 1) N T gb g) (fun i _ => 20 - (intOf i).toNat)
    case atStart => exact ⟨0, _, rfl, by omega, hT.out, K4⟩
    case round =>
      clear K4 hT
      obtain ⟨j, T, rfl, hj, hTg, K⟩ := hrel
      have hTg := Lib.hid hTg
      by_cases h12 : (j : Int) < (len2 : Int) ∧ (j : Int) < 20
      · obtain ⟨h1, h2⟩ := h12
        obtain ⟨b, o, off, e, rfl, ho, hlc, hcm, he, hc⟩ := ents_at w2' j (by omega)
        unfold maxLen at hcm
        obtain ⟨g2, hok2, HG2⟩ := good_some e he
        have hcl : ∀ {b o : Nat} {v : Value}, w.cell? ⟨b, o, none⟩ = some v → wr.cell? ⟨b, o, none⟩ = some v := fun {b o v} hc => (K.bel.cell (p := ⟨b, o, none⟩) (lt_cell hc)).trans hc
        obtain ⟨c0, c1, c2, c3, c4, c5, c6, c7, c8, c9, c10⟩ := hc
        replace c0 := hcl c0; replace c1 := hcl c1; replace c2 := hcl c2; replace c3 := hcl c3; replace c4 := hcl c4; replace c5 := hcl c5; replace c6 := hcl c6; replace c7 := hcl c7; replace c8 := hcl c8; replace c9 := hcl c9; replace c10 := hcl c10
        have hAE : (⟨b, off, none⟩ : Addr).add (j * 11) = ⟨b, o, none⟩ := by rw [← ho]; unfold Addr.add; split <;> simp_all
        have hw2 := okE_wf hok2
        clear hcl hok2 he
        go_wp2_with fail
        refine (HG2.out _).mono ?_; rintro r u5 ⟨rfl, hb5⟩
        have K5 := K.low hb5
        clear K hb5 HG2 c0 c1 c2 c3 c4 c5 c6 c7 c8 c9 c10 hAE ho
        go_wp2_with fail
        refine (ins_any g2 hw2 a3 p0 p1 u5 K5.tlb).mono ?_; rintro r w6 ⟨rfl, ht6, tn6⟩
        have K6 := K5.prog ht6 tn6
        have hT6 : insT T N g2 a3 i0 = g := (ins_keeps hi (by rw [hTg.out]; exact hgv) (by rw [hTg.out]; exact hl) g2 a3).trans hTg.out
        have hT6 := Lib.hid hT6
        clear K5 ht6 tn6 hTg
        generalize insT T N g2 a3 = T6 at *
        generalize insN T N g2 a3 = z1 at *
        generalize insE T N g2 = z2 at *
        have AA := at_any (i0 : Int) w6 K6.tlb
        rw [show atE T6 N (i0 : Int) = g by unfold atE hasB; simp [hi]; exact hT6.out] at AA
        have AA := Lib.hid AA
        go_wp2_with fail
        refine AA.out.mono ?_; rintro r w7 ⟨rfl, hb7⟩
        have K7 := K6.low hb7
        clear AA K6 hb7
        obtain ⟨r0, r1, r2, r3, r4, r5, r6, r7, r8, r9, r10⟩ := K7.row.cells
        have hlr := K7.row.lt
        have K8 := K7.low (box1 w7 (.cells #[.int .i64 g.size, .int .i64 g.ctx, .int .u64 g.va, .int .u64 g.pa, .bool g.att.write, .bool g.att.priv, .bool g.att.exec, .bool g.att.lock, .bool g.att.global, .bool g.att.quiet, .bool g.valid] 33))
        rw [hl, hgv] at K8
        clear K7
        go_wp2_with fail
        go_roundw
        case rel => exact ⟨j + 1, _, by go_num, by omega, hT6.out, K8⟩
        case measure => simp [intOf]; omega
      · have hd7 : dropE T (fun e => !e.att.lock) N i0 = g := by
          rw [dropE_lt hi, hTg.out]; simp [hl]
        have hLL := Lib.hid (left_lock T N)
        have D := Lib.hid (dall_any wr K.tlb)
        have hd7 := Lib.hid hd7
        clear hTg
        generalize dropE T (fun e => !e.att.lock) N = T7 at *
        generalize cntE T (fun e => !e.att.lock) N = z at *
        have hvl := vals_le T7 N
        have hle := K.tlb.le
        by_cases h1 : (j : Int) < (len2 : Int)
        · have h2 : ¬ ((j : Int) < 20) := by omega
          clear h12
          go_wp2_with fail
          refine D.out.mono ?_; rintro r w7 ⟨rfl, ht7, tn7⟩
          have K7 := K.prog ht7 tn7
          have hok7 := K7.tlb.ok
          have hh := hits_self hgm
          have hF : findN T7 N g.va g.ctx = i0 := find_at hok7 hi (by rw [hd7.out]; exact hh)
          have FF := find_any g.va g.ctx hgw.2.2.1.1 hgw.2.2.1.2 w7 K7.tlb
          rw [show findE T7 N g.va g.ctx = g by unfold findE; rw [hF, if_pos hi, hd7.out], show findI T7 N g.va g.ctx = (i0 : Int) by unfold findI; rw [hF, if_pos hi]] at FF
          have FF := Lib.hid FF
          have hC1 := Lib.hid (hits_cnt hok7 hi (va := g.va) (ctx := g.ctx) (by rw [hd7.out]; exact hh))
          have LK1 := Lib.hid (fun W hW => locked_any (sb := w.heap.size + 1 + 1) (bb := w.heap.size + 1) (n := N) (T := T7) W hW)
          have LI1 := Lib.hid (fun W hW => list_any (sb := w.heap.size + 1 + 1) (bb := w.heap.size + 1) (n := N) (T := T7) W hW)
          have DP1 := Lib.hid (fun W hW => dpage_any (sb := w.heap.size + 1 + 1) (bb := w.heap.size + 1) (n := N) (T := T7) g.va g.ctx hgw.2.2.1.1 hgw.2.2.1.2 W hW)
          rw [hLL.out] at LK1
          rw [hC1.out] at DP1
          clear K ht7 tn7 D hd7 hok7 hh hF hLL hC1
          obtain ⟨r0, r1, r2, r3, r4, r5, r6, r7, r8, r9, r10⟩ := K7.row.cells
          go_wp2_with fail
          refine FF.out.mono ?_; rintro r w8 ⟨rfl, hb8⟩
          have K8 := K7.low hb8
          clear FF K7 hb8 r0 r1 r2 r3 r4 r5 r6 r7 r8 r9 r10
          obtain ⟨r0, r1, r2, r3, r4, r5, r6, r7, r8, r9, r10⟩ := K8.row.cells
          have hlr := K8.row.lt
          have K9 := K8.low (box1 w8 (.cells #[.int .i64 g.size, .int .i64 g.ctx, .int .u64 g.va, .int .u64 g.pa, .bool g.att.write, .bool g.att.priv, .bool g.att.exec, .bool g.att.lock, .bool g.att.global, .bool g.att.quiet, .bool g.valid] 33))
          rw [hl, hgv] at K9
          clear K8
          go_wp2_with fail
          refine (LK1.out _ K9.tlb).mono ?_; rintro r w10 ⟨rfl, hb10⟩
          have K10 := K9.low hb10
          clear LK1 K9 hb10 r0 r1 r2 r3 r4 r5 r6 r7 r8 r9 r10
          go_wp2_with fail
          refine (LI1.out _ K10.tlb).mono ?_; rintro r w11 ⟨v11, rfl, hl11, hb11⟩
          have K11 := K10.low hb11
          obtain ⟨ao, cap, rfl⟩ := own_shape hl11
          clear LI1 K10 hb11 hl11
          obtain ⟨r0, r1, r2, r3, r4, r5, r6, r7, r8, r9, r10⟩ := K11.row.cells
          go_wp2_with fail
          refine (DP1.out _ K11.tlb).mono ?_; rintro r w12 ⟨rfl, ht12, tn12⟩
          have K12 := K11.prog ht12 tn12
          clear DP1 K11 ht12 tn12 r0 r1 r2 r3 r4 r5 r6 r7 r8 r9 r10
          go_wp2_with fail
          refine (HLV.out _).mono ?_; rintro r w13 ⟨rfl, hb13⟩
          go_wp2_with fail
          go_ret
          exact ⟨rfl, (K12.low hb13).bel⟩
        · clear h12
          go_wp2_with fail
          refine D.out.mono ?_; rintro r w7 ⟨rfl, ht7, tn7⟩
          have K7 := K.prog ht7 tn7
          have hok7 := K7.tlb.ok
          have hh := hits_self hgm
          have hF : findN T7 N g.va g.ctx = i0 := find_at hok7 hi (by rw [hd7.out]; exact hh)
          have FF := find_any g.va g.ctx hgw.2.2.1.1 hgw.2.2.1.2 w7 K7.tlb
          rw [show findE T7 N g.va g.ctx = g by unfold findE; rw [hF, if_pos hi, hd7.out], show findI T7 N g.va g.ctx = (i0 : Int) by unfold findI; rw [hF, if_pos hi]] at FF
          have FF := Lib.hid FF
          have hC1 := Lib.hid (hits_cnt hok7 hi (va := g.va) (ctx := g.ctx) (by rw [hd7.out]; exact hh))
          have LK1 := Lib.hid (fun W hW => locked_any (sb := w.heap.size + 1 + 1) (bb := w.heap.size + 1) (n := N) (T := T7) W hW)
          have LI1 := Lib.hid (fun W hW => list_any (sb := w.heap.size + 1 + 1) (bb := w.heap.size + 1) (n := N) (T := T7) W hW)
          have DP1 := Lib.hid (fun W hW => dpage_any (sb := w.heap.size + 1 + 1) (bb := w.heap.size + 1) (n := N) (T := T7) g.va g.ctx hgw.2.2.1.1 hgw.2.2.1.2 W hW)
          rw [hLL.out] at LK1
          rw [hC1.out] at DP1
          clear K ht7 tn7 D hd7 hok7 hh hF hLL hC1
          obtain ⟨r0, r1, r2, r3, r4, r5, r6, r7, r8, r9, r10⟩ := K7.row.cells
          go_wp2_with fail
          refine FF.out.mono ?_; rintro r w8 ⟨rfl, hb8⟩
          have K8 := K7.low hb8
          clear FF K7 hb8 r0 r1 r2 r3 r4 r5 r6 r7 r8 r9 r10
          obtain ⟨r0, r1, r2, r3, r4, r5, r6, r7, r8, r9, r10⟩ := K8.row.cells
          have hlr := K8.row.lt
          have K9 := K8.low (box1 w8 (.cells #[.int .i64 g.size, .int .i64 g.ctx, .int .u64 g.va, .int .u64 g.pa, .bool g.att.write, .bool g.att.priv, .bool g.att.exec, .bool g.att.lock, .bool g.att.global, .bool g.att.quiet, .bool g.valid] 33))
          rw [hl, hgv] at K9
          clear K8
          go_wp2_with fail
          refine (LK1.out _ K9.tlb).mono ?_; rintro r w10 ⟨rfl, hb10⟩
          have K10 := K9.low hb10
          clear LK1 K9 hb10 r0 r1 r2 r3 r4 r5 r6 r7 r8 r9 r10
          go_wp2_with fail
          refine (LI1.out _ K10.tlb).mono ?_; rintro r w11 ⟨v11, rfl, hl11, hb11⟩
          have K11 := K10.low hb11
          obtain ⟨ao, cap, rfl⟩ := own_shape hl11
          clear LI1 K10 hb11 hl11
          obtain ⟨r0, r1, r2, r3, r4, r5, r6, r7, r8, r9, r10⟩ := K11.row.cells
          go_wp2_with fail
          refine (DP1.out _ K11.tlb).mono ?_; rintro r w12 ⟨rfl, ht12, tn12⟩
          have K12 := K11.prog ht12 tn12
          clear DP1 K11 ht12 tn12 r0 r1 r2 r3 r4 r5 r6 r7 r8 r9 r10
          go_wp2_with fail
          refine (HLV.out _).mono ?_; rintro r w13 ⟨rfl, hb13⟩
          go_wp2_with fail
          go_ret
          exact ⟨rfl, (K12.low hb13).bel⟩

/-! ### The row -/
set_option maxRecDepth 100000 in
theorem lifted (os : Os) (started : os.Started) (H : Type) (enc : TypeId × Value → H) :
    ReturnsInHanded {} Try.checked os 6 .any (Rows.tlbLocksSpec.pre6 enc Try.prog Try.f6 Rows.tlbLocksRow.domain false) (Rows.tlbLocksSpec.post enc Try.prog Try.f6 false true false false) := by
  refine returnsInHanded_of_change (C := Try.checked) own started (by kernel_rfl) Try.func6
    (ChangeSpec.witness6 (enc := enc) (C := Try.checked) false ⟨#[], #[.int .i64 0, .agg #[.int .i64 0, .int .i64 0, .int .u64 0, .int .u64 0, .bool false, .bool false, .bool false, .bool false, .bool false, .bool false, .bool false], .slice none 0 0, .int .i64 0], []⟩ 8 (by kernel_rfl) (by kernel_rfl) (by kernel_rfl) (by kernel_rfl)) ?_
  intro W base args ds gs before hval0 hW hcnd _
  have hval : ∀ (j : Nat) t v, Try.f6.params[j]? = some t → args[j]? = some v → Value.okWide Try.prog W .any base t v := hval0
  have hW' := hW
  obtain ⟨p, q, hA0, hV, rfl, hfz, hnd⟩ := hW
  have hA : DataW.TrodAll enc Try.prog W 0 (fun _ => true) true Try.f6.params.toList args.toList ds p := hA0
  rw [Try.params6] at hA hval
  obtain ⟨v0, vs0, d0, ds0, p0, q0, hargs, rfl, rfl, h0, r0⟩ := trodAll_cons hA
  obtain ⟨v1, vs1, d1, ds1, p1, q1, rfl, rfl, rfl, h1, r1⟩ := trodAll_cons r0
  obtain ⟨v2, vs2, d2, ds2, p2, q2, rfl, rfl, rfl, h2, r2⟩ := trodAll_cons r1
  obtain ⟨v3, vs3, d3, ds3, p3, q3, rfl, rfl, rfl, h3, r3⟩ := trodAll_cons r2
  obtain ⟨rfl, rfl, rfl⟩ := trodAll_nil r3
  obtain rfl : args = #[v0, v1, v2, v3] := by cases args; simp_all
  obtain ⟨rfl, rfl⟩ := trodVars_none hV
  obtain ⟨a0, rfl, rfl, rfl, w0⟩ := open_int Try.underlying3 (hval 0 3 v0 rfl rfl) h0
  obtain ⟨E1, rfl, rfl, rfl, l1⟩ := open_entry (hval 1 33 v1 rfl rfl) h1
  obtain ⟨s2, len2, cap2, rfl⟩ := okWide_slice Try.underlying25 (hval 2 25 v2 rfl rfl)
  have k2 := h2
  have lt2 : ∀ x ∈ p2, x.block < W.heap.size := by obtain ⟨m, hm⟩ := k2; exact DataW.trod_lt m _ _ _ hm
  have w2 : IsEnts W s2 len2 cap2 := by
    obtain ⟨fuel, hf⟩ := h2
    exact open_ents hf
  obtain ⟨a3, rfl, rfl, rfl, w3⟩ := open_int Try.underlying3 (hval 3 3 v3 rfl rfl) h3
  clear hA0 hval0
  simp only [List.append_nil] at hW'
  refine (walk W a0 w0 E1 l1 s2 len2 cap2 w2 a3 w3).mono fun e W' ⟨he, hg⟩ => ?_
  subst he
  exact ⟨_, rfl, _, _, _, [], _, [], hW', trodAll_mk1 (shut_bool Try.underlying4 _), (trodAll_cons_mk (shut_int Try.underlying3 w0) (trodAll_cons_mk (shut_entry l1) (trodAll_cons_mk (Below.trod laidOut (by kernel_rfl) (of_decide_eq_true (by kernel_rfl)) k2 hg lt2) (trodAll_cons_mk (shut_int Try.underlying3 w3) trodAll_mk0)))), rfl, hg.frame _, fun h => by cases h⟩

theorem over : Rows.tlbLocksRow.holds Try.pinned (OpenSpec.ofChange Rows.tlbLocksSpec) :=
  OpenClaim.holds_of_wide 6 Try.f6 rfl rfl rfl rfl rfl rfl rfl ⟨rfl, rfl, rfl, rfl, rfl⟩ rfl rfl rfl rfl rfl (by kernel_rfl) Try.func6 (by kernel_rfl)
    (of_decide_eq_true (by kernel_rfl)) (by unfold Func.isWrapper; first | (rw [if_pos (by decide +kernel)]; kernel_rfl) | (rw [if_neg (by decide +kernel)]; exact ⟨rfl, rfl⟩))
    (fun os started H enc _ => lifted os started H enc)

theorem proved : Rows.TlbLocksSaid :=
  over
#print axioms proved
end Go.Proofs.Ytbhpljjogmagoaa.tlbLocks
