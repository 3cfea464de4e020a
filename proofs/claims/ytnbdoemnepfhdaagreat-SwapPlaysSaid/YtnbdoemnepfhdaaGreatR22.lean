/-
  Contracts and plain facts: NProg2, NEntry, NOps, NOps2, NOps3, NIter. Conditions: each says its own.
-/
import Derived.Test.YtnbdoemnepfhdaaGreatR17
import Derived.Test.YtnbdoemnepfhdaaGreatR21
import Derived.Test.YtnbdoemnepfhdaaGreatR19
import Derived.Deep.RegionHeld3
namespace Go.Proofs.YtnbdoemnepfhdaaGreat.Ts
open Fld
open Pt (idxI idx_bd slotI lastI)
open Mem (MemAt MemTo word setW)
open Tl (res_ent ret_entB box_below)
open Go.ChangeShapes Go.WideShapes Go.ChangeAt Go.RowKit
set_option maxHeartbeats 2000000
set_option maxRecDepth 100000
/-- The address, laid bit by bit. -/
theorem adr_walk (s i t : Int) (hs : sizeB s = true) (i0 : 0 ≤ i) (_i1 : i < 4096) (t0 : 0 ≤ t) (_t1 : t ≤ 18446744073709551615) :
    (0 ≤ putI 0 (bitsI s) (22 - bitsI s) i ∧ putI 0 (bitsI s) (22 - bitsI s) i ≤ 18446744073709551615) ∧ (0 ≤ putI (putI 0 (bitsI s) (22 - bitsI s) i) 22 22 t ∧ putI (putI 0 (bitsI s) (22 - bitsI s) i) 22 22 t ≤ 18446744073709551615) ∧
    (getI (putI (putI 0 (bitsI s) (22 - bitsI s) i) 22 22 t) 43 1 == 1) = decide (2097152 ≤ t % 4194304) ∧
    (2097152 ≤ t % 4194304 → bits .or .u64 (putI (putI 0 (bitsI s) (22 - bitsI s) i) 22 22 t) (maskI 44 20) = adrI s i t) ∧
    (¬ 2097152 ≤ t % 4194304 → putI (putI 0 (bitsI s) (22 - bitsI s) i) 22 22 t = adrI s i t) := by
  have h1 : putI 0 (bitsI s) (22 - bitsI s) i = i % leastI s * bytesI s := by
    rcases sizeB_true hs with rfl | rfl | rfl | rfl
    · rw [show bitsI 0 = 13 from rfl, show (22 : Int) - 13 = 9 from rfl, putI_at 0 13 9 i 8192 512 (by decide) (by decide) (by decide) i0 (by decide) (by decide), show leastI 0 = 512 from rfl, show bytesI 0 = 8192 from rfl]; omega
    · rw [show bitsI 1 = 16 from rfl, show (22 : Int) - 16 = 6 from rfl, putI_at 0 16 6 i 65536 64 (by decide) (by decide) (by decide) i0 (by decide) (by decide), show leastI 1 = 64 from rfl, show bytesI 1 = 65536 from rfl]; omega
    · rw [show bitsI 2 = 19 from rfl, show (22 : Int) - 19 = 3 from rfl, putI_at 0 19 3 i 524288 8 (by decide) (by decide) (by decide) i0 (by decide) (by decide), show leastI 2 = 8 from rfl, show bytesI 2 = 524288 from rfl]; omega
    · rw [show bitsI 3 = 22 from rfl, show (22 : Int) - 22 = 0 from rfl, show leastI 3 = 1 from rfl, show bytesI 3 = 4194304 from rfl]
      unfold putI
      rw [if_neg (by decide)]; omega
  have hb : 0 ≤ i % leastI s * bytesI s ∧ i % leastI s * bytesI s < 4194304 := by
    rcases sizeB_true hs with rfl | rfl | rfl | rfl <;> simp only [bytesI, leastI, if_true, Int.reduceEq, if_false] <;> omega
  rw [h1]
  generalize hA : i % leastI s * bytesI s = A at *
  have h2 : putI A 22 22 t = A + t % 4194304 * 4194304 := by
    rw [putI_at A 22 22 t 4194304 4194304 (by decide) (by omega) (by omega) t0 (by decide) (by decide)]; omega
  rw [h2]
  have h3 : getI (A + t % 4194304 * 4194304) 43 1 = if 2097152 ≤ t % 4194304 then 1 else 0 := by
    rw [getI_at _ 43 1 8796093022208 2 (by decide) (by omega) (by decide) (by decide)]
    split <;> omega
  rw [h3]
  refine ⟨by omega, by omega, ?_, fun h => ?_, fun h => ?_⟩
  · by_cases h : 2097152 ≤ t % 4194304 <;> simp [h]
  · rw [or_mask _ 44 20 (by omega) (by omega) (by decide), putI_at _ 44 20 allOnes 17592186044416 1048576 (by decide) (by omega) (by omega) (by decide) (by decide) (by decide)]
    unfold adrI hiI
    rw [if_pos h, hA, show (allOnes : Int) = 18446744073709551615 from rfl]
    omega
  · unfold adrI hiI
    rw [if_neg h, hA]; omega
theorem address_any {st sb : Nat} {p : Par} (hp : p.Ok) (i : Nat) (hi : i < 4096) (t : Int) (t0 : 0 ≤ t) (t1 : t ≤ 18446744073709551615) (w : World) (h : RowP w st sb p) :
    Calls Tryz.prog 70 #[.pointer (some ⟨st, 0, none⟩), .int .i64 (i : Int), .int .u64 t] w fun e w' => e = .returned (.int .u64 (adrI p.s i t)) ∧ ∃ m, w' = w.drewN m := by
  obtain ⟨⟨a0, a1⟩, ⟨b0, b1⟩, hbit, hhi, hlo⟩ := adr_walk p.s i t hp.hs (by omega) (by omega) t0 t1
  have hbt := bits_bd p.s
  have CB := Lib.hid (fun w => bits_any p.s w)
  have C3 := Lib.hid (fun w => bits_any 3 w)
  rw [show bitsI 3 = 22 from rfl] at C3
  have CP1 := Lib.hid (fun w => put_any 0 (bitsI p.s) (22 - bitsI p.s) i (by omega) (by omega) (by omega) (by omega) w)
  generalize putI 0 (bitsI p.s) (22 - bitsI p.s) i = A at *
  have CP2 := Lib.hid (fun w => put_any A 22 22 t a0 a1 t0 t1 w)
  generalize putI A 22 22 t = B at *
  have CG := Lib.hid (fun w => Pt.qbit_any B 43 b0 b1 w)
  rw [hbit] at CG
  have CM := Lib.hid (fun w => mask_any 44 20 w)
  obtain ⟨c0, c1, c2, c3⟩ := h.cells
  generalize maskI 44 20 = K at *
  generalize bitsI p.s = b at *
  generalize adrI p.s i t = R at *
  have hw : IntKind.i64.wrap (22 - b) = 22 - b := by simp [IntKind.wrap, IntKind.signed, IntKind.bits]; omega
  clear h hbit hp
  by_cases hh : 2097152 ≤ t % 4194304
  · have H := Lib.hid (hhi hh)
    rw [decide_eq_true hh] at CG
    clear hhi hlo hh
    go_enter Tryz.func70, Tryz.ntmps70
    go_wp2_with (first | (go_at_call 104; (with_reducible refine (C3.out _).mono ?_); rintro e w' ⟨rfl, rfl⟩) | (go_at_call 104; (with_reducible refine (CB.out _).mono ?_); rintro e w' ⟨rfl, rfl⟩) | (go_at_call 105; (with_reducible refine (CP2.out _).mono ?_); rintro e w' ⟨rfl, rfl⟩) | (go_at_call 105; (with_reducible refine (CP1.out _).mono ?_); rintro e w' ⟨rfl, rfl⟩) | (go_at_call 106; refine (CG.out _).mono ?_; rintro e w' ⟨rfl, m, rfl⟩) | (go_at_call 103; refine (CM.out _).mono ?_; rintro e w' ⟨rfl, rfl⟩))
    go_ret
    exact ⟨ret_u H.out, m, rfl⟩
  · have H := Lib.hid (hlo hh)
    rw [decide_eq_false hh] at CG
    clear hhi hlo hh
    go_enter Tryz.func70, Tryz.ntmps70
    go_wp2_with (first | (go_at_call 104; (with_reducible refine (C3.out _).mono ?_); rintro e w' ⟨rfl, rfl⟩) | (go_at_call 104; (with_reducible refine (CB.out _).mono ?_); rintro e w' ⟨rfl, rfl⟩) | (go_at_call 105; (with_reducible refine (CP2.out _).mono ?_); rintro e w' ⟨rfl, rfl⟩) | (go_at_call 105; (with_reducible refine (CP1.out _).mono ?_); rintro e w' ⟨rfl, rfl⟩) | (go_at_call 106; refine (CG.out _).mono ?_; rintro e w' ⟨rfl, m, rfl⟩) | (go_at_call 103; refine (CM.out _).mono ?_; rintro e w' ⟨rfl, rfl⟩))
    go_ret
    exact ⟨ret_u H.out, m, rfl⟩
theorem empty_any {st sb bm : Nat} {p : Par} {T : Nat → Pl} (w : World) (h : TsbAt w st sb bm p T) {i : Nat} (hi : i < p.n) :
    Calls Tryz.prog 128 #[.pointer (some ⟨st, 0, none⟩), .int .u64 ((p.b + 16 * i : Nat) : Int)] w fun e w' => e = .returned (.tuple #[]) ∧ TsbTo w w' st sb bm p (setP T i Pl.none) := by
  have C := Lib.hid (putPair_at h.drew hi)
  obtain ⟨c0, c1, c2, c3⟩ := h.row.cells
  generalize p.b + 16 * i = A at *
  clear h
  go_enter Tryz.func128, Tryz.ntmps128
  go_region_with (first | (go_at_call 96; refine (tbad_any _).mono ?_; rintro e w' ⟨rfl, rfl⟩) | (go_at_call 140; refine C.out.mono ?_; rintro e w' ⟨rfl, hT⟩))
  all_goals
    go_wp2
    go_end0
    exact ⟨rfl, hT.undrew⟩
end Go.Proofs.YtnbdoemnepfhdaaGreat.Ts

namespace Go.Proofs.YtnbdoemnepfhdaaGreat.Ts
open Fld
open Pt (idxI idx_bd slotI lastI)
open Mem (MemAt MemTo word setW)
open Tl (res_ent ret_entB box_below)
open Go.ChangeShapes Go.WideShapes Go.ChangeAt Go.RowKit
set_option maxHeartbeats 2000000
set_option maxRecDepth 100000
theorem entry_any {st sb bm : Nat} {p : Par} {T : Nat → Pl} (w : World) (h : TsbAt w st sb bm p T) {i : Nat} (hi : i < p.n) (va : Int) (v0 : 0 ≤ va) (v1 : va ≤ 18446744073709551615) :
    Calls Tryz.prog 45 #[.pointer (some ⟨st, 0, none⟩), .int .u64 ((p.b + 16 * i : Nat) : Int), .int .u64 va] w fun e w' => e = .returned (.tuple #[.agg #[.int .i64 (rdE p.s (T i) va).size, .int .i64 (rdE p.s (T i) va).ctx, .int .u64 (rdE p.s (T i) va).va, .int .u64 (rdE p.s (T i) va).pa, .bool (rdE p.s (T i) va).att.write, .bool (rdE p.s (T i) va).att.priv, .bool (rdE p.s (T i) va).att.exec, .bool (rdE p.s (T i) va).att.lock, .bool (rdE p.s (T i) va).att.global, .bool (rdE p.s (T i) va).att.quiet, .bool (rdE p.s (T i) va).valid], .bool (rdB p.s (T i) va)]) ∧ Below w.heap.size w w' := by
  have U := h.U hi
  have B1 : Below w.heap.size w (w.alloc (.cells #[.int .i64 0, .int .i64 0, .int .u64 0, .int .u64 0, .bool false, .bool false, .bool false, .bool false, .bool false, .bool false, .bool false] 30)) := (Below.refl _ _).alloc (Nat.le_refl _) _
  have R1 : RowE (w.alloc (.cells #[.int .i64 0, .int .i64 0, .int .u64 0, .int .u64 0, .bool false, .bool false, .bool false, .bool false, .bool false, .bool false, .bool false] 30)) w.heap.size Ent.zero := RowE.new w Ent.zero
  have H1 := h.low B1
  obtain ⟨c0, c1, c2, c3⟩ := H1.row.cells
  have CP := Lib.hid (pair_at H1 hi)
  have CR := Lib.hid (fun W => tread_any (T i).t (T i).d va U.t0 U.t1 U.d0 U.d1 v0 v1 W)
  have hB := Lib.hid (show rdB p.s (T i) va = (Ent.readN (T i).t (T i).d va == 0 && (Ent.ofW (T i).t (T i).d va).size == p.s) from rfl)
  have hE := Lib.hid (show rdE p.s (T i) va = if rdB p.s (T i) va then Ent.ofW (T i).t (T i).d va else Ent.zero from rfl)
  have hX := Lib.hid (show Ent.readE (T i).t (T i).d va = if Ent.readN (T i).t (T i).d va = 0 then Ent.ofW (T i).t (T i).d va else Ent.zero from rfl)
  generalize rdE p.s (T i) va = RE at *
  generalize rdB p.s (T i) va = RB at *
  generalize Ent.readN (T i).t (T i).d va = RN at *
  generalize Ent.ofW (T i).t (T i).d va = RO at *
  generalize Ent.readE (T i).t (T i).d va = RX at *
  generalize p.b + 16 * i = A at *
  clear h
  go_enter Tryz.func45, Tryz.ntmps45
  go_wp2_with fail
  refine CP.out.mono ?_; rintro r w1 ⟨rfl, n1, rfl⟩
  have R2 := R1.drewN n1
  have B2 := below_drewN B1 n1
  have H2 := H1.drewN n1
  clear R1 B1 H1 CP c0 c1 c2 c3
  generalize World.drewN _ n1 = W2 at *
  go_wp2_with fail
  refine (CR.out _).mono ?_; rintro r w3 ⟨rfl, hb3⟩
  have R3 := R2.below hb3 R2.lt
  have B3 := B2.trans (hb3.mono B2.size)
  have H3 := H2.low hb3
  clear R2 B2 H2 hb3 CR
  have hsz := R3.lt
  by_cases hn : RN = 0
  · have hXO := hX.out
    rw [if_pos hn] at hXO
    subst hXO
    subst hn
    by_cases hs : RX.size = p.s
    · have hRB := hB.out
      rw [show ((0 : Int) == 0) = true from rfl, hs, beq_self_eq_true] at hRB
      have hRE := hE.out
      rw [hRB] at hRE
      have HRB := Lib.hid (show RB = true from hRB)
      have HRE := Lib.hid (show RE = RX from hRE)
      have hs' := Lib.hid hs
      clear hB hE hX hRB hRE hs
      have N4 := RowE.new w3 RX
      have NB : Below w3.heap.size w3 (w3.alloc (.cells #[.int .i64 RX.size, .int .i64 RX.ctx, .int .u64 RX.va, .int .u64 RX.pa, .bool RX.att.write, .bool RX.att.priv, .bool RX.att.exec, .bool RX.att.lock, .bool RX.att.global, .bool RX.att.quiet, .bool RX.valid] 30)) := (Below.refl _ _).alloc (Nat.le_refl _) _
      have R4 := R3.below NB hsz
      have B4 := B3.trans (NB.mono B3.size)
      obtain ⟨q0, q1, q2, q3⟩ := (H3.low NB).row.cells
      obtain ⟨d0, d1, d2, d3, d4, d5, d6, d7, d8, d9, d10⟩ := N4.cells
      clear NB R3 B3 H3
      go_wp2_with fail
      generalize World.alloc w3 _ = W4 at *
      have hs := hs'.out
      go_quiet (fail)
      clear hs
      have R5 := R4.drewN nq
      have B5 := below_drewN B4 nq
      have N5 := N4.drewN nq
      clear R4 B4 N4 d0 d1 d2 d3 d4 d5 d6 d7 d8 d9 d10 q0 q1 q2 q3
      generalize World.drewN _ nq = W5 at *
      obtain ⟨d0, d1, d2, d3, d4, d5, d6, d7, d8, d9, d10⟩ := N5.cells
      obtain ⟨r0, r1, r2, r3, r4, r5, r6, r7, r8, r9, r10⟩ := R5.cells
      have fr : ∀ i, W5.frozen? ⟨w.heap.size, i, none⟩ = false := R5.frozen
      go_wp2_with fail
      have RR := RowE.setAll (e := RX) R5
      (try simp only [Exit.inBlock, Exit.then])
      refine bodyPost_ret (res_ent rfl _ _ _ _ rfl RR) rfl ?_; exact ⟨ret_entB HRE.out HRB.out, box_below (X := w) (Nat.le_refl _) B5⟩
    · have hRB := hB.out
      rw [beq_false_of_ne hs, Bool.and_false] at hRB
      have hRE := hE.out
      rw [hRB] at hRE
      have HRB := Lib.hid (show RB = false from hRB)
      have HRE := Lib.hid (show RE = Ent.zero from hRE)
      have hs' := Lib.hid hs
      clear hB hE hX hRB hRE hs
      have N4 := RowE.new w3 RX
      have NB : Below w3.heap.size w3 (w3.alloc (.cells #[.int .i64 RX.size, .int .i64 RX.ctx, .int .u64 RX.va, .int .u64 RX.pa, .bool RX.att.write, .bool RX.att.priv, .bool RX.att.exec, .bool RX.att.lock, .bool RX.att.global, .bool RX.att.quiet, .bool RX.valid] 30)) := (Below.refl _ _).alloc (Nat.le_refl _) _
      have R4 := R3.below NB hsz
      have B4 := B3.trans (NB.mono B3.size)
      obtain ⟨q0, q1, q2, q3⟩ := (H3.low NB).row.cells
      obtain ⟨d0, d1, d2, d3, d4, d5, d6, d7, d8, d9, d10⟩ := N4.cells
      clear NB R3 B3 H3
      go_wp2_with fail
      generalize World.alloc w3 _ = W4 at *
      have hs := hs'.out
      go_quiet (fail)
      clear hs
      have R5 := R4.drewN nq
      have B5 := below_drewN B4 nq
      clear R4 B4 N4 d0 d1 d2 d3 d4 d5 d6 d7 d8 d9 d10 q0 q1 q2 q3
      have hs2 : (RX.size != p.s) = true := bne_iff_ne.2 hs'.out
      generalize World.drewN _ nq = W5 at *
      obtain ⟨r0, r1, r2, r3, r4, r5, r6, r7, r8, r9, r10⟩ := R5.cells
      have fr : ∀ i, W5.frozen? ⟨w.heap.size, i, none⟩ = false := R5.frozen
      go_wp2_with fail
      have RR := RowE.setAll (e := Ent.zero) R5
      (try simp only [Exit.inBlock, Exit.then])
      refine bodyPost_ret (res_ent rfl _ _ _ _ rfl RR) rfl ?_; exact ⟨ret_entB HRE.out HRB.out, box_below (X := w) (e := Ent.zero) (Nat.le_refl _) B5⟩
  · have hXO := hX.out
    rw [if_neg hn] at hXO
    subst hXO
    have hRB := hB.out
    rw [beq_false_of_ne hn, Bool.false_and] at hRB
    have hRE := hE.out
    rw [hRB] at hRE
    have HRB := Lib.hid (show RB = false from hRB)
    have HRE := Lib.hid (show RE = Ent.zero from hRE)
    clear hB hE hX hRB hRE
    have N4 := RowE.new w3 Ent.zero
    have NB : Below w3.heap.size w3 (w3.alloc (.cells #[.int .i64 0, .int .i64 0, .int .u64 0, .int .u64 0, .bool false, .bool false, .bool false, .bool false, .bool false, .bool false, .bool false] 30)) := (Below.refl _ _).alloc (Nat.le_refl _) _
    have R4 := R3.below NB hsz
    have B4 := B3.trans (NB.mono B3.size)
    obtain ⟨q0, q1, q2, q3⟩ := (H3.low NB).row.cells
    clear NB R3 B3 H3 N4
    go_wp2_with fail
    (try simp only [show Ent.zero.size = 0 from rfl, show Ent.zero.ctx = 0 from rfl, show Ent.zero.va = 0 from rfl, show Ent.zero.pa = 0 from rfl, show Ent.zero.att = ⟨false, false, false, false, false, false⟩ from rfl, show Ent.zero.valid = false from rfl])
    generalize World.alloc w3 _ = W4 at *
    go_quiet (fail)
    have R5 := R4.drewN nq
    have B5 := below_drewN B4 nq
    clear R4 B4 q0 q1 q2 q3
    generalize World.drewN _ nq = W5 at *
    obtain ⟨r0, r1, r2, r3, r4, r5, r6, r7, r8, r9, r10⟩ := R5.cells
    have fr : ∀ i, W5.frozen? ⟨w.heap.size, i, none⟩ = false := R5.frozen
    go_wp2_with fail
    have RR := RowE.setAll (e := Ent.zero) R5
    (try simp only [Exit.inBlock, Exit.then])
    refine bodyPost_ret (res_ent rfl _ _ _ _ rfl RR) rfl ?_; exact ⟨ret_entB HRE.out HRB.out, box_below (X := w) (e := Ent.zero) (Nat.le_refl _) B5⟩
end Go.Proofs.YtnbdoemnepfhdaaGreat.Ts

namespace Go.Proofs.YtnbdoemnepfhdaaGreat.Ts
open Fld
open Pt (idxI idx_bd slotI lastI)
open Mem (MemAt MemTo word setW)
open Tl (res_ent ret_entB box_below)
open Go.ChangeShapes Go.WideShapes Go.ChangeAt Go.RowKit
set_option maxHeartbeats 2000000
set_option maxRecDepth 100000
/-! ### A call under way: the TSB, and a boxed entry -/
structure KX (w wr : World) (st sb bm : Nat) (p : Par) (T : Nat → Pl) : Prop where
  bel : Below w.heap.size w wr
  tsb : TsbAt wr st sb bm p T
theorem KX.drew {w wr : World} {st sb bm : Nat} {p : Par} {T : Nat → Pl} (h : KX w wr st sb bm p T) : KX w wr.drew st sb bm p T := ⟨h.bel.drew, h.tsb.drew⟩
theorem KX.drewN {w wr : World} {st sb bm : Nat} {p : Par} {T : Nat → Pl} (h : KX w wr st sb bm p T) (n : Nat) : KX w (wr.drewN n) st sb bm p T := ⟨below_drewN h.bel n, h.tsb.drewN n⟩
theorem KX.call {w wr w' : World} {st sb bm : Nat} {p : Par} {T : Nat → Pl} (h : KX w wr st sb bm p T) (hb : Below wr.heap.size wr w') : KX w w' st sb bm p T := ⟨h.bel.trans (hb.mono h.bel.size), h.tsb.low hb⟩
theorem KX.sc {w wr : World} {st sb bm : Nat} {p : Par} {T : Nat → Pl} (h : KX w wr st sb bm p T) : wr.cell? ⟨st, 0, none⟩ = some (.pointer (some ⟨sb, 0, none⟩)) ∧ wr.cell? ⟨st, 2, none⟩ = some (.int .i64 p.s) := ⟨h.tsb.row.cells.1, h.tsb.row.cells.2.2.1⟩
/-- The TSB has turned. -/
structure KY (w wr : World) (st sb bm : Nat) (p : Par) (T : Nat → Pl) : Prop where
  too : TsbTo w wr st sb bm p T
theorem KY.sc {w wr : World} {st sb bm : Nat} {p : Par} {T : Nat → Pl} (h : KY w wr st sb bm p T) : wr.cell? ⟨st, 0, none⟩ = some (.pointer (some ⟨sb, 0, none⟩)) ∧ wr.cell? ⟨st, 2, none⟩ = some (.int .i64 p.s) := by
  obtain ⟨b, ht, _⟩ := h.too
  exact ⟨ht.row.cells.1, ht.row.cells.2.2.1⟩
theorem KX.turn {w wr w' : World} {st sb bm : Nat} {p : Par} {T U : Nat → Pl} (h : KX w wr st sb bm p T) (ht : TsbTo wr w' st sb bm p U) : KY w w' st sb bm p U := ⟨TsbTo.unlow h.bel ht⟩
/-- Beside the TSB a boxed entry. -/
structure BX (w wr : World) (eb : Nat) (e : Ent) (st sb bm : Nat) (p : Par) (T : Nat → Pl) : Prop where
  kx : KX w wr st sb bm p T
  box : RowE wr eb e
theorem BX.drew {w wr : World} {eb st sb bm : Nat} {e : Ent} {p : Par} {T : Nat → Pl} (h : BX w wr eb e st sb bm p T) : BX w wr.drew eb e st sb bm p T := ⟨h.kx.drew, h.box.drewN 1⟩
theorem BX.drewN {w wr : World} {eb st sb bm : Nat} {e : Ent} {p : Par} {T : Nat → Pl} (h : BX w wr eb e st sb bm p T) (n : Nat) : BX w (wr.drewN n) eb e st sb bm p T := ⟨h.kx.drewN n, h.box.drewN n⟩
theorem BX.call {w wr w' : World} {eb st sb bm : Nat} {e : Ent} {p : Par} {T : Nat → Pl} (h : BX w wr eb e st sb bm p T) (hb : Below wr.heap.size wr w') : BX w w' eb e st sb bm p T := ⟨h.kx.call hb, h.box.below hb h.box.lt⟩
theorem BX.sc {w wr : World} {eb st sb bm : Nat} {e : Ent} {p : Par} {T : Nat → Pl} (h : BX w wr eb e st sb bm p T) : (wr.cell? ⟨eb, 0, none⟩ = some (.int .i64 e.size) ∧ wr.cell? ⟨eb, 1, none⟩ = some (.int .i64 e.ctx) ∧ wr.cell? ⟨eb, 2, none⟩ = some (.int .u64 e.va) ∧ wr.cell? ⟨eb, 3, none⟩ = some (.int .u64 e.pa) ∧ wr.cell? ⟨eb, 4, none⟩ = some (.bool e.att.write) ∧ wr.cell? ⟨eb, 5, none⟩ = some (.bool e.att.priv) ∧ wr.cell? ⟨eb, 6, none⟩ = some (.bool e.att.exec) ∧ wr.cell? ⟨eb, 7, none⟩ = some (.bool e.att.lock) ∧ wr.cell? ⟨eb, 8, none⟩ = some (.bool e.att.global) ∧ wr.cell? ⟨eb, 9, none⟩ = some (.bool e.att.quiet) ∧ wr.cell? ⟨eb, 10, none⟩ = some (.bool e.valid)) ∧ wr.cell? ⟨st, 0, none⟩ = some (.pointer (some ⟨sb, 0, none⟩)) ∧ wr.cell? ⟨st, 2, none⟩ = some (.int .i64 p.s) := ⟨h.box.cells, h.kx.sc⟩
theorem BX.start {w : World} {st sb bm : Nat} {p : Par} {T : Nat → Pl} (h : TsbAt w st sb bm p T) (e : Ent) : BX w (w.alloc (.cells #[.int .i64 e.size, .int .i64 e.ctx, .int .u64 e.va, .int .u64 e.pa, .bool e.att.write, .bool e.att.priv, .bool e.att.exec, .bool e.att.lock, .bool e.att.global, .bool e.att.quiet, .bool e.valid] 30)) w.heap.size e st sb bm p T :=
  ⟨⟨(Below.refl _ _).alloc (Nat.le_refl _) _, h.low ((Below.refl _ _).alloc (Nat.le_refl _) _)⟩, RowE.new w e⟩
structure BY (w wr : World) (eb : Nat) (e : Ent) (st sb bm : Nat) (p : Par) (T : Nat → Pl) : Prop where
  ky : KY w wr st sb bm p T
  box : RowE wr eb e
theorem BY.sc {w wr : World} {eb st sb bm : Nat} {e : Ent} {p : Par} {T : Nat → Pl} (h : BY w wr eb e st sb bm p T) : (wr.cell? ⟨eb, 0, none⟩ = some (.int .i64 e.size) ∧ wr.cell? ⟨eb, 1, none⟩ = some (.int .i64 e.ctx) ∧ wr.cell? ⟨eb, 2, none⟩ = some (.int .u64 e.va) ∧ wr.cell? ⟨eb, 3, none⟩ = some (.int .u64 e.pa) ∧ wr.cell? ⟨eb, 4, none⟩ = some (.bool e.att.write) ∧ wr.cell? ⟨eb, 5, none⟩ = some (.bool e.att.priv) ∧ wr.cell? ⟨eb, 6, none⟩ = some (.bool e.att.exec) ∧ wr.cell? ⟨eb, 7, none⟩ = some (.bool e.att.lock) ∧ wr.cell? ⟨eb, 8, none⟩ = some (.bool e.att.global) ∧ wr.cell? ⟨eb, 9, none⟩ = some (.bool e.att.quiet) ∧ wr.cell? ⟨eb, 10, none⟩ = some (.bool e.valid)) ∧ wr.cell? ⟨st, 0, none⟩ = some (.pointer (some ⟨sb, 0, none⟩)) ∧ wr.cell? ⟨st, 2, none⟩ = some (.int .i64 p.s) := ⟨h.box.cells, h.ky.sc⟩
theorem row_turn {w w' : World} {st sb bm eb : Nat} {e : Ent} {p : Par} {T : Nat → Pl} (hb : RowE w eb e) (h : TsbAt w st sb bm p T) (ht : Mem.Turn w w' sb bm) : RowE w' eb e := by
  obtain ⟨g, hm, hp⟩ := h.mem
  refine ⟨(ht.block eb hb.lt ?_ ?_).trans hb.row⟩
  · rintro rfl
    obtain ⟨m, _, h1⟩ := hm.row
    rw [hb.row] at h1; simp at h1
  · rintro rfl
    obtain ⟨D, ⟨es, clock, h2, _⟩, _⟩ := hm.words
    rw [hb.row] at h2; cases h2
theorem BX.turn {w wr w' : World} {eb st sb bm : Nat} {e : Ent} {p : Par} {T U : Nat → Pl} (h : BX w wr eb e st sb bm p T) (ht : TsbTo wr w' st sb bm p U) : BY w w' eb e st sb bm p U := by
  refine ⟨h.kx.turn ht, ?_⟩
  obtain ⟨b, _, _, a3⟩ := ht
  exact row_turn h.box h.kx.tsb a3
end Go.Proofs.YtnbdoemnepfhdaaGreat.Ts

namespace Go.Proofs.YtnbdoemnepfhdaaGreat.Ts
open Fld
open Pt (idxI idx_bd slotI lastI)
open Mem (MemAt MemTo word setW)
open Tl (res_ent ret_entB box_below)
open Go.ChangeShapes Go.WideShapes Go.ChangeAt Go.RowKit
set_option maxHeartbeats 2000000
set_option maxRecDepth 100000
/-- May an entry be here? -/
def mayT (p : Par) (e : Ent) : Bool := e.mayB && e.size == p.s
theorem mayT_ok {p : Par} {e : Ent} (h : mayT p e = true) (v0 : 0 ≤ e.va) (v1 : e.va ≤ 18446744073709551615) (p0 : 0 ≤ e.pa) : e.Ok ∧ e.size = p.s := by
  unfold mayT at h
  rw [Bool.and_eq_true, beq_iff_eq] at h
  exact ⟨Ent.ok_of h.1 p0 v0 v1, h.2⟩
theorem may_any {st sb bm : Nat} {p : Par} {T : Nat → Pl} (e : Ent) (v0 : 0 ≤ e.va) (v1 : e.va ≤ 18446744073709551615) (p0 : 0 ≤ e.pa) (p1 : e.pa ≤ 18446744073709551615) (w : World) (h : TsbAt w st sb bm p T) :
    Calls Tryz.prog 58 #[.pointer (some ⟨st, 0, none⟩), .agg #[.int .i64 e.size, .int .i64 e.ctx, .int .u64 e.va, .int .u64 e.pa, .bool e.att.write, .bool e.att.priv, .bool e.att.exec, .bool e.att.lock, .bool e.att.global, .bool e.att.quiet, .bool e.valid]] w fun r w' => r = .returned (.bool (mayT p e)) ∧ Below w.heap.size w w' := by
  have C := Lib.hid (fun W => tmay_any e v0 v1 p0 p1 W)
  have D1 := BX.start h e
  have hM := Lib.hid (show mayT p e = (e.mayB && e.size == p.s) from rfl)
  generalize mayT p e = M at *
  obtain ⟨⟨d0, d1, d2, d3, d4, d5, d6, d7, d8, d9, d10⟩, q0, q2⟩ := D1.sc
  cases hm : e.mayB
  · have HM := Lib.hid (show M = false from by rw [hM.out, hm]; rfl)
    rw [hm] at C
    clear hM hm h
    go_enter Tryz.func58, Tryz.ntmps58
    go_wp2_with fail
    first
      | (go_region_with (go_at_call 94; (with_reducible refine (C.out _).mono ?_); rintro r w' ⟨rfl, hb⟩))
      | fail
    all_goals
      have D2 := D1.drew.call hb
      go_wp2_with fail
      go_ret
      exact ⟨ret_b HM.out.symm, D2.kx.bel⟩
  · rw [hm] at C
    have HM := Lib.hid (show M = (e.size == p.s) from by rw [hM.out, hm]; rfl)
    clear hM hm h
    go_enter Tryz.func58, Tryz.ntmps58
    go_wp2_with fail
    go_region_held3 (fun w1 => (w1.cell? ⟨w.heap.size, 0, none⟩ = some (.int .i64 e.size) ∧ w1.cell? ⟨w.heap.size, 1, none⟩ = some (.int .i64 e.ctx) ∧ w1.cell? ⟨w.heap.size, 2, none⟩ = some (.int .u64 e.va) ∧ w1.cell? ⟨w.heap.size, 3, none⟩ = some (.int .u64 e.pa) ∧ w1.cell? ⟨w.heap.size, 4, none⟩ = some (.bool e.att.write) ∧ w1.cell? ⟨w.heap.size, 5, none⟩ = some (.bool e.att.priv) ∧ w1.cell? ⟨w.heap.size, 6, none⟩ = some (.bool e.att.exec) ∧ w1.cell? ⟨w.heap.size, 7, none⟩ = some (.bool e.att.lock) ∧ w1.cell? ⟨w.heap.size, 8, none⟩ = some (.bool e.att.global) ∧ w1.cell? ⟨w.heap.size, 9, none⟩ = some (.bool e.att.quiet) ∧ w1.cell? ⟨w.heap.size, 10, none⟩ = some (.bool e.valid)) ∧ w1.cell? ⟨st, 0, none⟩ = some (.pointer (some ⟨sb, 0, none⟩)) ∧ w1.cell? ⟨st, 2, none⟩ = some (.int .i64 p.s)) ((refine BX.sc (w := w) (bm := bm) (T := T) ?_; (repeat (first | (with_reducible assumption) | (with_reducible refine BX.drew ?_) | (with_reducible refine BX.call ?_ (by assumption))))))
      ((go_at_call 94; (with_reducible refine (C.out _).mono ?_); rintro r w' ⟨rfl, hb⟩))
    all_goals
      have D2 := D1.drew.call hb
      go_wp2_with fail
      go_ret
      exact ⟨ret_b HM.out.symm, D2.kx.bel⟩
theorem lock_any {st sb bm : Nat} {p : Par} {T : Nat → Pl} (va : Int) (v0 : 0 ≤ va) (v1 : va ≤ 18446744073709551615) (w : World) (h : TsbAt w st sb bm p T) :
    Calls Tryz.prog 59 #[.pointer (some ⟨st, 0, none⟩), .int .u64 va] w fun r w' => r = .returned (.tuple #[]) ∧ TsbTo w w' st sb bm p (setP T (p.pl va) ⟨9223372036854775807, (T (p.pl va)).d⟩) := by
  have hpl := (h.ok.idx va).2
  have K0 : KX w w st sb bm p T := ⟨Below.refl _ _, h⟩
  obtain ⟨q0, q2⟩ := K0.sc
  have CS := Lib.hid (fun W (hW : KX w W st sb bm p T) => tslot_any hW.tsb.ok va v0 v1 W hW.tsb.row)
  have CW := Lib.hid (fun W (hW : KX w W st sb bm p T) => (putTag_at hW.tsb hpl 9223372036854775807 (by omega) (by omega)).mono (fun e W' (q : e = .returned (.int .i64 0) ∧ TsbTo W W' st sb bm p (setP T (p.pl va) ⟨9223372036854775807, (T (p.pl va)).d⟩)) => (⟨q.1, hW.turn q.2⟩ : e = .returned (.int .i64 0) ∧ KY w W' st sb bm p (setP T (p.pl va) ⟨9223372036854775807, (T (p.pl va)).d⟩))))
  generalize setP T (p.pl va) ⟨9223372036854775807, (T (p.pl va)).d⟩ = U at *
  generalize p.b + 16 * p.pl va = A at *
  clear h
  go_enter Tryz.func59, Tryz.ntmps59
  go_region_held3 (fun w1 => w1.cell? ⟨st, 0, none⟩ = some (.pointer (some ⟨sb, 0, none⟩)) ∧ w1.cell? ⟨st, 2, none⟩ = some (.int .i64 p.s)) (first | (refine KX.sc (w := w) (bm := bm) (T := T) ?_; (repeat (first | (with_reducible assumption) | (with_reducible refine KX.drew ?_) | (with_reducible refine KX.drewN ?_ _))); done) | (refine KY.sc (w := w) (bm := bm) (T := U) ?_; with_reducible assumption))
    (first | (go_at_call 46; (with_reducible refine (CS.out _ (by (repeat (first | (with_reducible assumption) | (with_reducible refine KX.drew ?_) | (with_reducible refine KX.drewN ?_ _))))).mono ?_); rintro r w' ⟨rfl, m, rfl⟩) | (go_at_call 96; refine (tbad_any _).mono ?_; rintro e w' ⟨rfl, rfl⟩) | (go_at_call 95; (with_reducible refine (CW.out _ (by (repeat (first | (with_reducible assumption) | (with_reducible refine KX.drew ?_) | (with_reducible refine KX.drewN ?_ _))))).mono ?_); rintro r w' ⟨rfl, hY⟩))
  all_goals
    go_wp2_with fail
    go_end0
    exact ⟨rfl, hY.too⟩
end Go.Proofs.YtnbdoemnepfhdaaGreat.Ts

namespace Go.Proofs.YtnbdoemnepfhdaaGreat.Ts
open Fld
open Pt (idxI idx_bd slotI lastI)
open Mem (MemAt MemTo word setW)
open Tl (res_ent ret_entB box_below)
open Go.ChangeShapes Go.WideShapes Go.ChangeAt Go.RowKit
set_option maxHeartbeats 2000000
set_option maxRecDepth 100000
def datT (p : Par) (T : Nat → Pl) (e : Ent) : Nat → Pl := if mayT p e then setP T (p.pl e.va) ⟨(T (p.pl e.va)).t, e.dataW⟩ else T
def tagT (p : Par) (T : Nat → Pl) (e : Ent) : Nat → Pl := if mayT p e then setP T (p.pl e.va) ⟨e.tagW, (T (p.pl e.va)).d⟩ else T
def insT (p : Par) (T : Nat → Pl) (e : Ent) : Nat → Pl := if mayT p e then setP T (p.pl e.va) (Ent.pl e) else T
def lokT (p : Par) (T : Nat → Pl) (va : Int) : Nat → Pl := setP T (p.pl va) ⟨9223372036854775807, (T (p.pl va)).d⟩
def errP (p : Par) (e : Ent) : Int := if mayT p e then 0 else 1
theorem ins_row (p : Par) (T : Nat → Pl) (e : Ent) (h : mayT p e = true) : tagT p (datT p (lokT p T e.va) e) e = insT p T e := by
  unfold tagT datT insT
  rw [if_pos h, if_pos h, if_pos h]
  unfold lokT
  rw [setP_at, setP_twice, setP_at, setP_twice]; rfl
structure EntU (e : Ent) : Prop where
  v0 : 0 ≤ e.va
  v1 : e.va ≤ 18446744073709551615
  p0 : 0 ≤ e.pa
  p1 : e.pa ≤ 18446744073709551615
theorem putData_any {st sb bm : Nat} {p : Par} {T : Nat → Pl} (e : Ent) (u : EntU e) (w : World) (h : TsbAt w st sb bm p T) :
    Calls Tryz.prog 60 #[.pointer (some ⟨st, 0, none⟩), .agg #[.int .i64 e.size, .int .i64 e.ctx, .int .u64 e.va, .int .u64 e.pa, .bool e.att.write, .bool e.att.priv, .bool e.att.exec, .bool e.att.lock, .bool e.att.global, .bool e.att.quiet, .bool e.valid]] w fun r w' => r = .returned (.int .i64 (errP p e)) ∧ TsbTo w w' st sb bm p (datT p T e) := by
  have D1 := BX.start h e
  have CM := Lib.hid (fun W (hW : BX w W w.heap.size e st sb bm p T) => may_any e u.v0 u.v1 u.p0 u.p1 W hW.kx.tsb)
  have hE := Lib.hid (show errP p e = if mayT p e then 0 else 1 from rfl)
  have hT := Lib.hid (show datT p T e = if mayT p e then setP T (p.pl e.va) ⟨(T (p.pl e.va)).t, e.dataW⟩ else T from rfl)
  generalize errP p e = EE at *
  generalize datT p T e = TT at *
  cases hm : mayT p e
  · rw [hm] at CM
    have HE := Lib.hid (show EE = 1 from by rw [hE.out, hm]; rfl)
    have HT := Lib.hid (show TT = T from by rw [hT.out, hm]; rfl)
    clear hE hT hm h
    obtain ⟨⟨d0, d1, d2, d3, d4, d5, d6, d7, d8, d9, d10⟩, q0, q2⟩ := D1.sc
    go_enter Tryz.func60, Tryz.ntmps60
    go_wp2_with fail
    refine (CM.out _ D1).mono ?_; rintro r w2 ⟨rfl, hb2⟩
    have D2 := D1.call hb2
    go_wp2_with fail
    go_ret
    exact ⟨ret_i HE.out.symm, by rw [HT.out]; exact TsbTo.unlow D2.kx.bel D2.kx.tsb.to⟩
  · obtain ⟨ok, hs⟩ := mayT_ok hm u.v0 u.v1 u.p0
    rw [hm] at CM
    have HE := Lib.hid (show EE = 0 from by rw [hE.out, hm]; rfl)
    have HT := Lib.hid (show TT = setP T (p.pl e.va) ⟨(T (p.pl e.va)).t, e.dataW⟩ from by rw [hT.out, hm]; rfl)
    have hdb := Ent.data_bd ok.fit
    have hpl := (h.ok.idx e.va).2
    have hpb := place_in h.ok hpl 16 (Nat.le_refl _)
    have CD := Lib.hid (fun W => tdata_any e u.p0 u.p1 W)
    rw [Ent.dataG_fit ok.fit ok.valid] at CD
    have CS := Lib.hid (fun W (hW : BX w W w.heap.size e st sb bm p T) => tslot_any hW.kx.tsb.ok e.va u.v0 u.v1 W hW.kx.tsb.row)
    have CW := Lib.hid (fun W (hW : BX w W w.heap.size e st sb bm p T) => (putData_at hW.kx.tsb hpl e.dataW (by omega) (by omega)).mono (fun r W' (q : r = .returned (.int .i64 0) ∧ TsbTo W W' st sb bm p (setP T (p.pl e.va) ⟨(T (p.pl e.va)).t, e.dataW⟩)) => (⟨q.1, hW.turn q.2⟩ : r = .returned (.int .i64 0) ∧ BY w W' w.heap.size e st sb bm p (setP T (p.pl e.va) ⟨(T (p.pl e.va)).t, e.dataW⟩))))
    generalize setP T (p.pl e.va) ⟨(T (p.pl e.va)).t, e.dataW⟩ = U at *
    have hpb' : ((p.b + 16 * p.pl e.va : Nat) : Int) + 8 ≤ 18446744073709551615 := by omega
    generalize p.b + 16 * p.pl e.va = A at *
    rw [show (A : Int) + 8 = IntKind.u64.wrap ((A : Int) + 8) from by simp [IntKind.wrap, IntKind.signed, IntKind.bits]; omega] at CW
    generalize e.dataW = DD at *
    clear hE hT hm h ok hs hpb hpl hdb
    obtain ⟨⟨d0, d1, d2, d3, d4, d5, d6, d7, d8, d9, d10⟩, q0, q2⟩ := D1.sc
    go_enter Tryz.func60, Tryz.ntmps60
    go_wp2_with fail
    refine (CM.out _ D1).mono ?_; rintro r w2 ⟨rfl, hb2⟩
    have D2 := D1.call hb2
    clear D1 hb2 CM d0 d1 d2 d3 d4 d5 d6 d7 d8 d9 d10 q0 q2
    obtain ⟨⟨d0, d1, d2, d3, d4, d5, d6, d7, d8, d9, d10⟩, q0, q2⟩ := D2.sc
    go_wp2_with fail
    go_region_held3 (fun w1 => (w1.cell? ⟨w.heap.size, 0, none⟩ = some (.int .i64 e.size) ∧ w1.cell? ⟨w.heap.size, 1, none⟩ = some (.int .i64 e.ctx) ∧ w1.cell? ⟨w.heap.size, 2, none⟩ = some (.int .u64 e.va) ∧ w1.cell? ⟨w.heap.size, 3, none⟩ = some (.int .u64 e.pa) ∧ w1.cell? ⟨w.heap.size, 4, none⟩ = some (.bool e.att.write) ∧ w1.cell? ⟨w.heap.size, 5, none⟩ = some (.bool e.att.priv) ∧ w1.cell? ⟨w.heap.size, 6, none⟩ = some (.bool e.att.exec) ∧ w1.cell? ⟨w.heap.size, 7, none⟩ = some (.bool e.att.lock) ∧ w1.cell? ⟨w.heap.size, 8, none⟩ = some (.bool e.att.global) ∧ w1.cell? ⟨w.heap.size, 9, none⟩ = some (.bool e.att.quiet) ∧ w1.cell? ⟨w.heap.size, 10, none⟩ = some (.bool e.valid)) ∧ w1.cell? ⟨st, 0, none⟩ = some (.pointer (some ⟨sb, 0, none⟩)) ∧ w1.cell? ⟨st, 2, none⟩ = some (.int .i64 p.s)) (first | (refine BX.sc (w := w) (bm := bm) (T := T) ?_; (repeat (first | (with_reducible assumption) | (with_reducible refine BX.drew ?_) | (with_reducible refine BX.drewN ?_ _) | (with_reducible refine BX.call ?_ (by assumption)))); done) | (refine BY.sc (w := w) (bm := bm) (T := U) ?_; with_reducible assumption))
      (first | (go_at_call 46; (with_reducible refine (CS.out _ (by (repeat (first | (with_reducible assumption) | (with_reducible refine BX.drew ?_) | (with_reducible refine BX.drewN ?_ _) | (with_reducible refine BX.call ?_ (by assumption)))))).mono ?_); rintro r w' ⟨rfl, m, rfl⟩) | (go_at_call 97; (with_reducible refine (CD.out _).mono ?_); rintro e w' ⟨rfl, hb⟩) | (go_at_call 95; (with_reducible refine (CW.out _ (by (repeat (first | (with_reducible assumption) | (with_reducible refine BX.drew ?_) | (with_reducible refine BX.drewN ?_ _) | (with_reducible refine BX.call ?_ (by assumption)))))).mono ?_); rintro r w' ⟨rfl, hY⟩))
    all_goals
      go_wp2_with fail
      go_ret
      exact ⟨ret_i HE.out.symm, by rw [HT.out]; exact hY.ky.too⟩
theorem putTag_any {st sb bm : Nat} {p : Par} {T : Nat → Pl} (e : Ent) (u : EntU e) (w : World) (h : TsbAt w st sb bm p T) :
    Calls Tryz.prog 61 #[.pointer (some ⟨st, 0, none⟩), .agg #[.int .i64 e.size, .int .i64 e.ctx, .int .u64 e.va, .int .u64 e.pa, .bool e.att.write, .bool e.att.priv, .bool e.att.exec, .bool e.att.lock, .bool e.att.global, .bool e.att.quiet, .bool e.valid]] w fun r w' => r = .returned (.int .i64 (errP p e)) ∧ TsbTo w w' st sb bm p (tagT p T e) := by
  have D1 := BX.start h e
  have CM := Lib.hid (fun W (hW : BX w W w.heap.size e st sb bm p T) => may_any e u.v0 u.v1 u.p0 u.p1 W hW.kx.tsb)
  have hE := Lib.hid (show errP p e = if mayT p e then 0 else 1 from rfl)
  have hT := Lib.hid (show tagT p T e = if mayT p e then setP T (p.pl e.va) ⟨e.tagW, (T (p.pl e.va)).d⟩ else T from rfl)
  generalize errP p e = EE at *
  generalize tagT p T e = TT at *
  cases hm : mayT p e
  · rw [hm] at CM
    have HE := Lib.hid (show EE = 1 from by rw [hE.out, hm]; rfl)
    have HT := Lib.hid (show TT = T from by rw [hT.out, hm]; rfl)
    clear hE hT hm h
    obtain ⟨⟨d0, d1, d2, d3, d4, d5, d6, d7, d8, d9, d10⟩, q0, q2⟩ := D1.sc
    go_enter Tryz.func61, Tryz.ntmps61
    go_wp2_with fail
    refine (CM.out _ D1).mono ?_; rintro r w2 ⟨rfl, hb2⟩
    have D2 := D1.call hb2
    go_wp2_with fail
    go_ret
    exact ⟨ret_i HE.out.symm, by rw [HT.out]; exact TsbTo.unlow D2.kx.bel D2.kx.tsb.to⟩
  · obtain ⟨ok, hs⟩ := mayT_ok hm u.v0 u.v1 u.p0
    rw [hm] at CM
    have HE := Lib.hid (show EE = 0 from by rw [hE.out, hm]; rfl)
    have HT := Lib.hid (show TT = setP T (p.pl e.va) ⟨e.tagW, (T (p.pl e.va)).d⟩ from by rw [hT.out, hm]; rfl)
    have hdb := Ent.tag_bd ok.fit
    have hpl := (h.ok.idx e.va).2
    have CD := Lib.hid (fun W => ttag_any e u.v0 u.v1 W)
    rw [Ent.tagG_fit ⟨ok.fit.c0, ok.fit.c1⟩] at CD
    have CS := Lib.hid (fun W (hW : BX w W w.heap.size e st sb bm p T) => tslot_any hW.kx.tsb.ok e.va u.v0 u.v1 W hW.kx.tsb.row)
    have CW := Lib.hid (fun W (hW : BX w W w.heap.size e st sb bm p T) => (putTag_at hW.kx.tsb hpl e.tagW (by omega) (by omega)).mono (fun r W' (q : r = .returned (.int .i64 0) ∧ TsbTo W W' st sb bm p (setP T (p.pl e.va) ⟨e.tagW, (T (p.pl e.va)).d⟩)) => (⟨q.1, hW.turn q.2⟩ : r = .returned (.int .i64 0) ∧ BY w W' w.heap.size e st sb bm p (setP T (p.pl e.va) ⟨e.tagW, (T (p.pl e.va)).d⟩))))
    generalize setP T (p.pl e.va) ⟨e.tagW, (T (p.pl e.va)).d⟩ = U at *
    generalize p.b + 16 * p.pl e.va = A at *
    generalize e.tagW = DD at *
    clear hE hT hm h ok hs hpl hdb
    obtain ⟨⟨d0, d1, d2, d3, d4, d5, d6, d7, d8, d9, d10⟩, q0, q2⟩ := D1.sc
    go_enter Tryz.func61, Tryz.ntmps61
    go_wp2_with fail
    refine (CM.out _ D1).mono ?_; rintro r w2 ⟨rfl, hb2⟩
    have D2 := D1.call hb2
    clear D1 hb2 CM d0 d1 d2 d3 d4 d5 d6 d7 d8 d9 d10 q0 q2
    obtain ⟨⟨d0, d1, d2, d3, d4, d5, d6, d7, d8, d9, d10⟩, q0, q2⟩ := D2.sc
    go_wp2_with fail
    go_region_held3 (fun w1 => (w1.cell? ⟨w.heap.size, 0, none⟩ = some (.int .i64 e.size) ∧ w1.cell? ⟨w.heap.size, 1, none⟩ = some (.int .i64 e.ctx) ∧ w1.cell? ⟨w.heap.size, 2, none⟩ = some (.int .u64 e.va) ∧ w1.cell? ⟨w.heap.size, 3, none⟩ = some (.int .u64 e.pa) ∧ w1.cell? ⟨w.heap.size, 4, none⟩ = some (.bool e.att.write) ∧ w1.cell? ⟨w.heap.size, 5, none⟩ = some (.bool e.att.priv) ∧ w1.cell? ⟨w.heap.size, 6, none⟩ = some (.bool e.att.exec) ∧ w1.cell? ⟨w.heap.size, 7, none⟩ = some (.bool e.att.lock) ∧ w1.cell? ⟨w.heap.size, 8, none⟩ = some (.bool e.att.global) ∧ w1.cell? ⟨w.heap.size, 9, none⟩ = some (.bool e.att.quiet) ∧ w1.cell? ⟨w.heap.size, 10, none⟩ = some (.bool e.valid)) ∧ w1.cell? ⟨st, 0, none⟩ = some (.pointer (some ⟨sb, 0, none⟩)) ∧ w1.cell? ⟨st, 2, none⟩ = some (.int .i64 p.s)) (first | (refine BX.sc (w := w) (bm := bm) (T := T) ?_; (repeat (first | (with_reducible assumption) | (with_reducible refine BX.drew ?_) | (with_reducible refine BX.drewN ?_ _) | (with_reducible refine BX.call ?_ (by assumption)))); done) | (refine BY.sc (w := w) (bm := bm) (T := U) ?_; with_reducible assumption))
      (first | (go_at_call 46; (with_reducible refine (CS.out _ (by (repeat (first | (with_reducible assumption) | (with_reducible refine BX.drew ?_) | (with_reducible refine BX.drewN ?_ _) | (with_reducible refine BX.call ?_ (by assumption)))))).mono ?_); rintro r w' ⟨rfl, m, rfl⟩) | (go_at_call 98; (with_reducible refine (CD.out _).mono ?_); rintro e w' ⟨rfl, hb⟩) | (go_at_call 95; (with_reducible refine (CW.out _ (by (repeat (first | (with_reducible assumption) | (with_reducible refine BX.drew ?_) | (with_reducible refine BX.drewN ?_ _) | (with_reducible refine BX.call ?_ (by assumption)))))).mono ?_); rintro r w' ⟨rfl, hY⟩))
    all_goals
      go_wp2_with fail
      go_ret
      exact ⟨ret_i HE.out.symm, by rw [HT.out]; exact hY.ky.too⟩
theorem insert_any {st sb bm : Nat} {p : Par} {T : Nat → Pl} (e : Ent) (u : EntU e) (w : World) (h : TsbAt w st sb bm p T) :
    Calls Tryz.prog 28 #[.pointer (some ⟨st, 0, none⟩), .agg #[.int .i64 e.size, .int .i64 e.ctx, .int .u64 e.va, .int .u64 e.pa, .bool e.att.write, .bool e.att.priv, .bool e.att.exec, .bool e.att.lock, .bool e.att.global, .bool e.att.quiet, .bool e.valid]] w fun r w' => r = .returned (.int .i64 (errP p e)) ∧ TsbTo w w' st sb bm p (insT p T e) := by
  have D1 := BX.start h e
  have CM := Lib.hid (fun W (hW : BX w W w.heap.size e st sb bm p T) => may_any e u.v0 u.v1 u.p0 u.p1 W hW.kx.tsb)
  have hE := Lib.hid (show errP p e = if mayT p e then 0 else 1 from rfl)
  cases hm : mayT p e
  · rw [hm] at CM
    have HE := Lib.hid (show errP p e = 1 from by rw [hE.out, hm]; rfl)
    have HT := Lib.hid (show insT p T e = T from by unfold insT; rw [hm]; rfl)
    generalize errP p e = EE at *
    generalize insT p T e = TT at *
    clear hE hm h
    obtain ⟨⟨d0, d1, d2, d3, d4, d5, d6, d7, d8, d9, d10⟩, q0, q2⟩ := D1.sc
    go_enter Tryz.func28, Tryz.ntmps28
    go_wp2_with fail
    refine (CM.out _ D1).mono ?_; rintro r w2 ⟨rfl, hb2⟩
    have D2 := D1.call hb2
    go_wp2_with fail
    go_ret
    exact ⟨ret_i HE.out.symm, by rw [HT.out]; exact TsbTo.unlow D2.kx.bel D2.kx.tsb.to⟩
  · rw [hm] at CM
    have HT := Lib.hid (ins_row p T e hm)
    have CL := Lib.hid (fun W (hW : BX w W w.heap.size e st sb bm p T) => lock_any e.va u.v0 u.v1 W hW.kx.tsb)
    rw [show setP T (p.pl e.va) ⟨9223372036854775807, (T (p.pl e.va)).d⟩ = lokT p T e.va from rfl] at CL
    have CD := Lib.hid (fun W b (hW : TsbAt W st sb b p (lokT p T e.va)) => putData_any e u W hW)
    have CT := Lib.hid (fun W b (hW : TsbAt W st sb b p (datT p (lokT p T e.va) e)) => putTag_any e u W hW)
    generalize tagT p (datT p (lokT p T e.va) e) e = T3 at *
    generalize datT p (lokT p T e.va) e = T2 at *
    generalize lokT p T e.va = T1 at *
    generalize insT p T e = TT at *
    clear hE hm h
    obtain ⟨⟨d0, d1, d2, d3, d4, d5, d6, d7, d8, d9, d10⟩, q0, q2⟩ := D1.sc
    generalize errP p e = EE at *
    go_enter Tryz.func28, Tryz.ntmps28
    go_wp2_with fail
    refine (CM.out _ D1).mono ?_; rintro r w2 ⟨rfl, hb2⟩
    have D2 := D1.call hb2
    clear D1 hb2 CM d0 d1 d2 d3 d4 d5 d6 d7 d8 d9 d10 q0 q2
    obtain ⟨⟨d0, d1, d2, d3, d4, d5, d6, d7, d8, d9, d10⟩, q0, q2⟩ := D2.sc
    go_wp2_with fail
    refine (CL.out _ D2).mono ?_; rintro r w3 ⟨rfl, b3, t3, n3, u3⟩
    have x3 := row_turn D2.box D2.kx.tsb u3
    clear CL d0 d1 d2 d3 d4 d5 d6 d7 d8 d9 d10 q0 q2
    obtain ⟨d0, d1, d2, d3, d4, d5, d6, d7, d8, d9, d10⟩ := x3.cells
    go_wp2_with fail
    refine (CD.out _ _ t3).mono ?_; rintro r w4 ⟨rfl, b4, t4, n4, u4⟩
    have x4 := row_turn x3 t3 u4
    clear CD d0 d1 d2 d3 d4 d5 d6 d7 d8 d9 d10 x3
    obtain ⟨d0, d1, d2, d3, d4, d5, d6, d7, d8, d9, d10⟩ := x4.cells
    go_wp2_with fail
    refine (CT.out _ _ t4).mono ?_; rintro r w5 ⟨rfl, hT5⟩
    clear d0 d1 d2 d3 d4 d5 d6 d7 d8 d9 d10 x4
    go_wp2_with fail
    go_ret
    exact ⟨rfl, by rw [← HT.out]; exact TsbTo.unlow D2.kx.bel (TsbTo.trans n3 u3 (TsbTo.trans n4 u4 hT5))⟩
end Go.Proofs.YtnbdoemnepfhdaaGreat.Ts

namespace Go.Proofs.YtnbdoemnepfhdaaGreat.Ts
open Fld
open Pt (idxI idx_bd slotI lastI)
open Mem (MemAt MemTo word setW)
open Go.ChangeShapes Go.WideShapes Go.ChangeAt Go.RowKit Go.Shelf
attribute [local go_sem] Oper.semAt_some
set_option maxRecDepth 100000
set_option maxHeartbeats 2000000
def encP (p : Par) (i : Nat) : Array Value := #[.int .i64 (i : Int), .int .u64 ((p.b + 16 * i : Nat) : Int)]
theorem drewN_low (w : World) (m : Nat) : Below w.heap.size w (w.drewN m) := below_drewN (Below.refl _ _) m
theorem places_iter (n : Nat) {st sb : Nat} {p : Par} (hp : p.Ok) : IterN n 69 #[.pointer (some ⟨st, 0, none⟩)] #[] (encP p) (fun _ => True) p.n (fun _ W => RowP W st sb p) := by
  intro l J W hRd hF _ hY h0
  have hnb := hp.n_bd
  have his := hp.is
  have hle := hp.le
  have hrow := hRd 0 W h0
  obtain ⟨c0, c1, c2, c3⟩ := hrow.cells
  have CL := Lib.hid (fun w (h : RowP w st sb p) => len_any hp w h)
  refine callsIn_of_wp Tryz.func69 rfl (wide_fn _) ?_ rfl
  simp only [Tryz.ntmps69, List.size_toArray, List.length_cons, List.length_nil, Nat.reduceAdd, Nat.reduceSub, Array.replicate_succ, Array.replicate_zero, List.push_toArray, List.append_toArray, List.nil_append, List.cons_append]
  gi_wp2_with ((first | (refine ⟨trivial, ?_⟩; gi_at_call 35) | (refine ⟨trivial, fun h => absurd h (by decide), ?_⟩; gi_at_call 35)); refine (callsIn_wide.2 (CL.out _ hrow)).mono ?_; rintro e w' ⟨rfl, m, rfl⟩)
  have h1 : J 0 (W.drewN m) := (hF 0).low h0 (drewN_low W m)
  clear h0 c0 c1 c2 c3 hrow CL
  gi_loopw [4, 12] (fun a i wr => ∃ k : Nat, a = .int .u64 ((p.b + 16 * k : Nat) : Int) ∧ i = .int .i64 (k : Int) ∧ k ≤ p.n ∧ J k wr) (fun _ i _ => p.n - (intOf i).toNat)
  case atStart => exact ⟨0, by simp, rfl, Nat.zero_le _, h1⟩
  case round =>
    clear h1
    obtain ⟨k, rfl, rfl, hk, hJ⟩ := hrel
    by_cases hlt : k < p.n
    · obtain ⟨fn, tmps, assign, body, hy, hR⟩ := hY (n - 1) k wr hJ hlt trivial
      unfold encP at hy
      have hlt' : (k : Int) < (p.n : Int) := by omega
      have hw := Lib.hid (show (((p.b + 16 * k : Nat) : Int) + 16) = ((p.b + 16 * (k + 1) : Nat) : Int) by omega)
      have hb : ((p.b + 16 * k : Nat) : Int) + 16 ≤ 18446744073709551615 := by omega
      clear hY
      generalize p.b + 16 * k = A at *
      gi_wp2
      refine ⟨fun h => absurd h (by decide), hR.mono ?_⟩
      rintro e W3 ⟨rfl, hJ3, _⟩
      clear hR hy hJ
      gi_wp2
      go_roundw
      case rel => exact ⟨k + 1, congrArg (Value.int .u64) hw.out, by go_num, by omega, hJ3⟩
      case measure => simp [intOf]; omega
    · obtain rfl : k = p.n := by omega
      clear hY
      gi_wp2
      go_end0
      exact ⟨⟨_, rfl⟩, hJ⟩
theorem Firm.sub {B : Nat} {I : World → Prop} (h : Firm B I) {w w' : World} (hb : Below w.heap.size w w') (hi : I w) : I w' := h _ _ hi (Soft.below hb)
/-- The words of the places from one on. -/
def Rest (st sb : Nat) (p : Par) (T0 : Nat → Pl) (i : Nat) (W : World) : Prop := ∃ bm T, TsbAt W st sb bm p T ∧ ∀ j, i ≤ j → j < p.n → T j = T0 j
def encE (p : Par) (T0 : Nat → Pl) (i : Nat) : Array Value := #[.int .u64 ((p.b + 16 * i : Nat) : Int), .agg #[.int .i64 (ownE p T0 i).size, .int .i64 (ownE p T0 i).ctx, .int .u64 (ownE p T0 i).va, .int .u64 (ownE p T0 i).pa, .bool (ownE p T0 i).att.write, .bool (ownE p T0 i).att.priv, .bool (ownE p T0 i).att.exec, .bool (ownE p T0 i).att.lock, .bool (ownE p T0 i).att.global, .bool (ownE p T0 i).att.quiet, .bool (ownE p T0 i).valid]]
theorem entries_iter (n : Nat) {st sb : Nat} {p : Par} (hp : p.Ok) (T0 : Nat → Pl) : IterN n 42 #[.pointer (some ⟨st, 0, none⟩)] #[] (encE p T0) (fun i => ownB p T0 i = true) p.n (Rest st sb p T0) := by
  intro l J W hRd hF hsk hY h0
  have hnb := hp.n_bd
  have his := hp.is
  have hle := hp.le
  refine callsIn_of_wp_marks Tryz.func42 rfl trivial ?_ rfl
  simp only [Tryz.ntmps42, List.size_toArray, List.length_cons, List.length_nil, Nat.reduceAdd, Nat.reduceSub, Array.replicate_succ, Array.replicate_zero, List.push_toArray, List.append_toArray, List.nil_append, List.cons_append]
  have z1 : Below W.heap.size W ((W.alloc (.cells #[.pointer (some ⟨st, 0, none⟩)] 47)).alloc (.cells #[.func (.yield l) #[] #[]] 117)) := ((Below.refl _ _).alloc (Nat.le_refl _) _).alloc (by simp) _
  have b1 : ((W.alloc (.cells #[.pointer (some ⟨st, 0, none⟩)] 47)).alloc (.cells #[.func (.yield l) #[] #[]] 117)).heap[W.heap.size]? = some (.cells #[.pointer (some ⟨st, 0, none⟩)] 47 (0, 0)) := (Below.heap_alloc _ _ _ (by simp)).trans (World.alloc_heap_new _ _)
  have b2 : ((W.alloc (.cells #[.pointer (some ⟨st, 0, none⟩)] 47)).alloc (.cells #[.func (.yield l) #[] #[]] 117)).heap[W.heap.size + 1]? = some (.cells #[.func (.yield l) #[] #[]] 117 (0, 0)) := by
    have := World.alloc_heap_new (W.alloc (.cells #[.pointer (some ⟨st, 0, none⟩)] 47)) (.cells #[.func (.yield l) #[] #[]] 117)
    rwa [World.size_alloc] at this
  have j1 := (hF 0).sub z1 h0
  have s1 : ((W.alloc (.cells #[.pointer (some ⟨st, 0, none⟩)] 47)).alloc (.cells #[.func (.yield l) #[] #[]] 117)).heap.size = W.heap.size + 1 + 1 := by simp
  clear h0
  gi_wp2
  generalize (World.alloc (W.alloc (.cells #[.pointer (some ⟨st, 0, none⟩)] 47)) (.cells #[.func (.yield l) #[] #[]] 117)) = W1 at *
  refine range_it (gf := 69) (bnd := #[.pointer (some ⟨st, 0, none⟩)]) (lb := #[]) rfl (enters_of Tryz.func69 (by kernel_rfl) rfl) (fun n => places_iter n (st := st) (sb := sb) hp) (fun _ => rfl)
    (fun i V => J i V ∧ V.heap[W.heap.size]? = some (.cells #[.pointer (some ⟨st, 0, none⟩)] 47 (0, 0)) ∧ V.heap[W.heap.size + 1]? = some (.cells #[.func (.yield l) #[] #[]] 117 (0, 0)))
    (fun i V h => by obtain ⟨bm, T, ht, _⟩ := hRd i V h.1; exact ht.row)
    (fun i => Firm.and ((hF i).mono (by omega)) (Firm.and (Firm.cells _ _ _ _ _) (Firm.cells _ _ _ _ _)))
    (fun _ _ _ _ h => absurd trivial h) ⟨j1, b1, b2⟩
    (fun i a' _ => a' = { tmps := #[.pointer (some ⟨st, 0, none⟩), .func (.yield l) #[] #[], .pointer (some ⟨W.heap.size, 0, none⟩), .pointer (some ⟨W.heap.size + 1, 0, none⟩), .int .i64 (i : Int), .int .u64 ((p.b + 16 * i : Nat) : Int), undef, undef, undef, .pointer (some ⟨st, 0, none⟩), .func (.func 69) #[.pointer (some ⟨st, 0, none⟩)] #[], .int .i64 (i : Int), .int .u64 ((p.b + 16 * i : Nat) : Int), undef, undef, undef, undef, undef, undef, undef, undef, undef, undef, undef, undef, undef, undef, undef, undef, undef, undef, undef, undef, undef, undef, undef, undef, undef, undef, undef, undef, undef, undef, undef], defers := [] })
    (fun i a' => Firm.pure _ _) ?assign ?body ?done
  case assign =>
    intro m l2 i V K hI hi _ hK
    unfold encP
    gi_wp2
    exact hK _ _ (Stay.refl _ _) hI rfl
  case body =>
    rintro m l2 i a' V ⟨hJ, c1, c2⟩ rfl hi _
    obtain ⟨bm, T, ht, hT⟩ := hRd i V hJ
    have hTi := hT i (Nat.le_refl _) hi
    have hU := ht.U hi
    have e1 : V.cell? ⟨W.heap.size, 0, none⟩ = some (.pointer (some ⟨st, 0, none⟩)) := cell_row 0 c1 rfl
    have e2 : V.cell? ⟨W.heap.size + 1, 0, none⟩ = some (.func (.yield l) #[] #[]) := cell_row 0 c2 rfl
    rw [hTi] at hU
    obtain ⟨v0, v1, _, _, _⟩ := adr_bd p.s (i : Int) (T0 i).t hp.hs
    have CT := Lib.hid (fun n => tag_any (V.drewN n) (ht.drewN n) hi)
    rw [hTi] at CT
    have CA := Lib.hid (fun w (h : RowP w st sb p) => address_any hp i (by omega) (T0 i).t hU.t0 hU.t1 w h)
    have HO := Lib.hid (show ownB p T0 i = (p.pl (adrI p.s i (T0 i).t) == i && rdB p.s (T0 i) (adrI p.s i (T0 i).t)) from rfl)
    have HE := Lib.hid (show ownE p T0 i = rdE p.s (T0 i) (adrI p.s i (T0 i).t) from rfl)
    generalize adrI p.s i (T0 i).t = va at *
    have hix := hp.idx va
    have CI := Lib.hid (fun w => Pt.index_any va p.s p.n v0 v1 hp.hs (by omega) (by omega) w)
    rw [hix.1] at CI
    have CE := Lib.hid (fun w (h : TsbAt w st sb bm p T) => entry_any w h hi va v0 v1)
    rw [hTi] at CE
    have CAn := Lib.hid (fun n => CA.out (V.drewN n) (ht.row.drewN n))
    generalize p.pl va = k at *
    have hk := hix.2
    have hA := Lib.hid (show p.b + 16 * i = p.b + 16 * i from rfl)
    have HY := Lib.hid (fun m V (hj : J i V) (ho : ownB p T0 i = true) => hY m i V hj hi ho)
    have HS := Lib.hid (fun V (hj : J i V) (ho : ¬ ownB p T0 i = true) => hsk i V hj hi ho)
    unfold encE at HY
    rw [HE.out] at HY
    generalize rdE p.s (T0 i) va = RE at *
    generalize rdB p.s (T0 i) va = RB at *
    generalize p.b + 16 * i = A at *
    clear hY hsk HE hA hix CA hTi hT hU
    gi_wp2
    refine region_quiet_round (by kernel_rfl) (by kernel_rfl) (by kernel_rfl) ?_
    repeat (go_big_quiet_step (first | (go_at_call 71; (with_reducible refine (CT.out _).mono ?_); rintro e w' ⟨rfl, rfl⟩; exact ⟨rfl, _, rfl⟩) | (go_at_call 70; (with_reducible refine (CAn.out _).mono ?_); rintro e w' ⟨rfl, m2, rfl⟩; exact ⟨rfl, _, by rw [World.drewN_drewN]⟩)))
    refine wpQuiet_nil ?_
    rintro _ ⟨n1, rfl⟩
    have k1 : Stay W.heap.size V (V.drewN n1) := Stay.below (drewN_low V n1)
    have ht1 := ht.drewN n1
    have hJ1 := (hF i).sub (drewN_low V n1) hJ
    have c11 : (V.drewN n1).heap[W.heap.size]? = some (.cells #[.pointer (some ⟨st, 0, none⟩)] 47 (0, 0)) := c1
    have c12 : (V.drewN n1).heap[W.heap.size + 1]? = some (.cells #[.func (.yield l) #[] #[]] 117 (0, 0)) := c2
    clear CT CAn e1 e2 c1 c2 ht hJ
    generalize World.drewN V n1 = V1 at *
    have e1 : V1.cell? ⟨W.heap.size, 0, none⟩ = some (.pointer (some ⟨st, 0, none⟩)) := cell_row 0 c11 rfl
    obtain ⟨_, _, q2, _⟩ := ht1.row.cells
    have CLn := Lib.hid (fun n => len_any hp (V1.drewN n) (ht1.row.drewN n))
    gi_wp2
    refine region_quiet_round (by kernel_rfl) (by kernel_rfl) (by kernel_rfl) ?_
    repeat (go_big_quiet_step (first | (go_at_call 35; (with_reducible refine (CLn.out _).mono ?_); rintro e w' ⟨rfl, m2, rfl⟩; exact ⟨rfl, _, by rw [World.drewN_drewN]⟩) | (go_at_call 72; (with_reducible refine (CI.out _).mono ?_); rintro e w' ⟨rfl, m2, rfl⟩; exact ⟨rfl, _, by rw [World.drewN_drewN]⟩)))
    refine wpQuiet_nil ?_
    rintro _ ⟨n2, rfl⟩
    have k2 : Stay W.heap.size V (V1.drewN n2) := k1.trans (Stay.below (drewN_low V1 n2))
    have ht2 := ht1.drewN n2
    have hJ2 := (hF i).sub (drewN_low V1 n2) hJ1
    have c21 : (V1.drewN n2).heap[W.heap.size]? = some (.cells #[.pointer (some ⟨st, 0, none⟩)] 47 (0, 0)) := c11
    have c22 : (V1.drewN n2).heap[W.heap.size + 1]? = some (.cells #[.func (.yield l) #[] #[]] 117 (0, 0)) := c12
    clear CLn CI e1 q2 c11 c12 ht1 hJ1 k1
    generalize World.drewN V1 n2 = V2 at *
    have e1 : V2.cell? ⟨W.heap.size, 0, none⟩ = some (.pointer (some ⟨st, 0, none⟩)) := cell_row 0 c21 rfl
    have hsz2 := (Array.getElem?_eq_some_iff.1 c22).1
    by_cases hki : k = i
    · subst hki
      gi_wp2_with (fail)
      (first | (refine ⟨trivial, ?_⟩; gi_at_call 45) | (refine ⟨trivial, fun h => absurd h (by decide), ?_⟩; gi_at_call 45))
      refine (CallsIn.inRound l2 (callsIn_wide.2 (CE.out _ ht2))).mono ?_
      rintro e w3 ⟨rfl, hb3⟩
      have NL : Below w3.heap.size w3 (w3.alloc (.cells #[.int .i64 RE.size, .int .i64 RE.ctx, .int .u64 RE.va, .int .u64 RE.pa, .bool RE.att.write, .bool RE.att.priv, .bool RE.att.exec, .bool RE.att.lock, .bool RE.att.global, .bool RE.att.quiet, .bool RE.valid] 30)) := (Below.refl _ _).alloc (Nat.le_refl _) _
      have NR := RowE.new w3 RE
      have hb4 := hb3.trans (NL.mono hb3.size)
      have k4 := k2.trans (Stay.below (B := W.heap.size) hb4)
      have hJ4 := (hF k).sub hb4 hJ2
      have c41 := (hb4.block _ (by omega)).trans c21
      have c42 := (hb4.block _ (by omega)).trans c22
      clear CE NL hb4 hb3 hJ2 c21 c22 k2 ht2 e1
      cases RB
      · have hno : ¬ ownB p T0 k = true := by
          rw [HO.out, Bool.and_false]; simp
        have hJ5 := HS.out _ hJ4 hno
        clear HO HS HY hno NR
        gi_wp2
        refine ⟨(fun _ h => by cases h), ?_⟩
        gi_wp2
        exact ⟨k4.mono (by omega), hJ5, c41, c42⟩
      · have hyes : ownB p T0 k = true := by
          rw [HO.out, beq_self_eq_true]; rfl
        obtain ⟨fn, tmps, assign, body, hy, hR⟩ := HY.out (m - 1) _ hJ4 hyes
        clear HO HS HY hyes
        have e2 := cell_row 0 c42 rfl
        obtain ⟨d0, d1, d2, d3, d4, d5, d6, d7, d8, d9, d10⟩ := NR.cells
        gi_wp2
        refine ⟨fun h => absurd h (by decide), RoundIn.mono (show RoundIn (Fence.wide.inRound l2) (m - 1) Tryz.prog _ _ _ _ _ _ _ from hR) ?_⟩
        rintro e W5 ⟨rfl, hJ5, k5⟩
        clear hR hy e2 d0 d1 d2 d3 d4 d5 d6 d7 d8 d9 d10 NR
        have c51 := k5 _ _ (Nat.le_refl _) c41 rfl
        have c52 := k5 _ _ (Nat.le_succ _) c42 rfl
        gi_wp2
        exact ⟨(k4.trans k5).mono (by omega), hJ5, c51, c52⟩
    · have hno : ¬ ownB p T0 i = true := by
        rw [HO.out, beq_false_of_ne hki]; simp
      have hJ3 := HS.out _ hJ2 hno
      have hki' : ¬ (k : Int) = (i : Int) := by omega
      clear HO HS HY CE hki hno
      gi_wp2
      exact ⟨k2.mono (by omega), hJ3, c21, c22⟩
  case done =>
    rintro V ⟨hJ, _, _⟩ hK
    unfold lastMark
    gi_wp2
    refine ⟨by simp, .inl ⟨_, _, rfl, run_takeDeferred hK, ?_⟩⟩
    exact ⟨_, results_none rfl _ _ _, ⟨_, rfl⟩, hF _ _ _ hJ (Soft.put hK trivial (by omega))⟩
end Go.Proofs.YtnbdoemnepfhdaaGreat.Ts

