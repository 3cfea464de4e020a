/-
  FaultLess: for all three attributes and accesses the law returns true, and its arguments read as before. Conditions: the table of what kinds of faults are called, and told, holds what the program lays (the card ties it).
-/
import Derived.Test.YtfkbloclogeacaaDoorCards
import Derived.Test.YtfkbloclogeacaaDoorTie
import Derived.WalkKit
import Derived.ProofKit
import Derived.OpenShut
import Derived.Deep.DeepHandedRow
import Derived.Test.YtfkbloclogeacaaDoorJKeep
import Derived.Test.YtfkbloclogeacaaDoorJOpen
namespace Go.Proofs.YtfkbloclogeacaaDoor.faultLess
open Fld Jd
open Go.ChangeShapes Go.WideShapes Go.ChangeAt Go.RowKit Go.Deep
set_option linter.unusedVariables false

theorem own : ownKnob Tryd.prog.godebug = none := by kernel_rfl

/-! ### The walk -/
set_option maxHeartbeats 8000000 in
set_option maxRecDepth 100000 in
theorem walk (w : World) (hT : Tab w) (A0 : Att) (A1 : Att) (A2 : Att) (X3 : Acc) (m3 : X3.lits) :
    Calls Tryd.prog 5 #[.agg #[.bool A0.write, .bool A0.priv, .bool A0.exec, .bool A0.lock, .bool A0.global, .bool A0.quiet], .agg #[.bool A1.write, .bool A1.priv, .bool A1.exec, .bool A1.lock, .bool A1.global, .bool A1.quiet], .agg #[.bool A2.write, .bool A2.priv, .bool A2.exec, .bool A2.lock, .bool A2.global, .bool A2.quiet], .agg #[.int .i64 X3.kind, .bool X3.priv, .int .u64 X3.va]] w fun e w' => e = .returned (.bool true) ∧ Below w.heap.size w w' := by
  obtain ⟨a, ha⟩ : ∃ a, a = A0 := ⟨_, rfl⟩
  obtain ⟨b, hb⟩ : ∃ b, b = A1 := ⟨_, rfl⟩
  obtain ⟨c, hc⟩ : ∃ c, c = A2 := ⟨_, rfl⟩
  subst ha hb hc
  have Cy := Lib.hid (fun W => agood_any X3 false (Acc.lits_wf m3) W)
  have hy := (goodA_facts X3 false (Acc.lits_wf m3)).1
  generalize goodA X3 false = y at *
  have HT := Lib.hid (fun h g => less_trans (a := a) (b := b) (c := c) h g)
  have HL := Lib.hid (fun (h : lessB a b = true) (g : judgeI a y = 0) => (show judgeI b y = 0 by have := less_lets h y hy.1 hy.2 (lets_of g); unfold letsB at this; simpa using this))
  have Cab := Lib.hid (fun W => less_any a b W)
  have Rab := Lib.hid (fun W => rless_any a b W)
  have Cbc := Lib.hid (fun W => less_any b c W)
  have Cac := Lib.hid (fun W => less_any a c W)
  have Caa := Lib.hid (fun W => less_true (less_refl a) W)
  have Ja := Lib.hid (fun W => judge_any a y W)
  have Jb := Lib.hid (fun W => judge_any b y W)
  have CL := Lib.hid (fun W (hW : Tab W) => jlives_any W hW)
  clear hy m3
  generalize lessB a b = AB at *
  generalize lessB b c = BC at *
  generalize lessB a c = AC at *
  generalize judgeI a y = VA at *
  generalize judgeI b y = VB at *
  obtain ⟨K1, s1⟩ := (Blk.nil (Below.refl w.heap.size w) w.heap.size).push (cA a).1 (cA a).2 (by simp)
  obtain ⟨K2, s2⟩ := K1.push (cA b).1 (cA b).2 s1
  obtain ⟨K3, s3⟩ := K2.push (cA c).1 (cA c).2 s2
  obtain ⟨K4, s4⟩ := K3.push (cX X3).1 (cX X3).2 s3
  have K := Lib.hid K4
  clear K1 K2 K3 K4 s1 s2 s3 s4
  go_enter Tryd.func5, Tryd.ntmps5
  go_wp2_with fail
  refine (Cy.out _).mono ?_; rintro r w1 ⟨rfl, hb⟩
  have L1 := K.out.call hb
  clear hb K Cy
  have Z1 := Blk.put (L := [cA a, cA b, cA c]) L1 (Nat.le_refl _) y (b := w.heap.size + 1 + 1 + 1) rfl
  have Z := Lib.hid Z1
  have fr := fun i => row_frozen (L1.row 3 _ rfl) i
  obtain ⟨x0, x1, x2⟩ := L1.acc 3 (b := w.heap.size + 1 + 1 + 1) rfl (x := X3) rfl
  have fr' : ∀ i, w1.frozen? ⟨w.heap.size + 1 + 1 + 1, i, none⟩ = false := fr
  clear fr
  obtain ⟨a0, a1, a2, a3, a4, a5⟩ := L1.att 0 (b := w.heap.size) rfl (a := a) rfl
  obtain ⟨b0, b1, b2, b3, b4, b5⟩ := L1.att 1 (b := w.heap.size + 1) rfl (a := b) rfl
  clear Z1 L1
  go_wp2_with fail
  cases AB
  · refine (Cab.out _).mono ?_; rintro r w2 ⟨rfl, hb⟩
    have L2 := Z.out.call hb
    clear hb fr'
    clear a0 a1 a2 a3 a4 a5 b0 b1 b2 b3 b4 b5 x0 x1 x2
    obtain ⟨b0, b1, b2, b3, b4, b5⟩ := L2.att 1 (b := w.heap.size + 1) rfl (a := b) rfl
    obtain ⟨c0, c1, c2, c3, c4, c5⟩ := L2.att 2 (b := w.heap.size + 1 + 1) rfl (a := c) rfl
    go_wp2_with fail
    refine (Cbc.out _).mono ?_; rintro r w3 ⟨rfl, hb⟩
    have L3 := L2.call hb
    clear hb
    clear  b0 b1 b2 b3 b4 b5 c0 c1 c2 c3 c4 c5
    obtain ⟨a0, a1, a2, a3, a4, a5⟩ := L3.att 0 (b := w.heap.size) rfl (a := a) rfl
    obtain ⟨b0, b1, b2, b3, b4, b5⟩ := L3.att 1 (b := w.heap.size + 1) rfl (a := b) rfl
    go_wp2_with fail
    refine (Rab.out _).mono ?_; rintro r w4 ⟨rfl, hb⟩
    have L4 := L3.call hb
    clear hb
    clear  a0 a1 a2 a3 a4 a5 b0 b1 b2 b3 b4 b5
    obtain ⟨a0, a1, a2, a3, a4, a5⟩ := L4.att 0 (b := w.heap.size) rfl (a := a) rfl
    go_wp2_with fail
    refine (Caa.out _).mono ?_; rintro r w5 ⟨rfl, hb⟩
    have L5 := L4.call hb
    clear hb
    clear  a0 a1 a2 a3 a4 a5
    obtain ⟨a0, a1, a2, a3, a4, a5⟩ := L5.att 0 (b := w.heap.size) rfl (a := a) rfl
    obtain ⟨b0, b1, b2, b3, b4, b5⟩ := L5.att 1 (b := w.heap.size + 1) rfl (a := b) rfl
    obtain ⟨c0, c1, c2, c3, c4, c5⟩ := L5.att 2 (b := w.heap.size + 1 + 1) rfl (a := c) rfl
    obtain ⟨x0, x1, x2⟩ := L5.acc 3 (b := w.heap.size + 1 + 1 + 1) rfl (x := y) rfl
    go_wp2_with fail
    refine (CL.out _ (L5.tab hT)).mono ?_; rintro r w6 ⟨rfl, hb⟩
    have L6 := L5.call hb
    clear hb
    clear  a0 a1 a2 a3 a4 a5 b0 b1 b2 b3 b4 b5 c0 c1 c2 c3 c4 c5 x0 x1 x2
    go_wp2_with fail
    try simp only [Exit.inBlock, Exit.then]
    go_ret
    exact ⟨rfl, L6.below⟩
  · cases BC
    · by_cases hv : VA = 0
      · subst hv
        obtain rfl : VB = 0 := HL.out rfl rfl
        refine (Cab.out _).mono ?_; rintro r w2 ⟨rfl, hb⟩
        have L2 := Z.out.call hb
        clear hb fr'
        clear a0 a1 a2 a3 a4 a5 b0 b1 b2 b3 b4 b5 x0 x1 x2
        obtain ⟨b0, b1, b2, b3, b4, b5⟩ := L2.att 1 (b := w.heap.size + 1) rfl (a := b) rfl
        obtain ⟨c0, c1, c2, c3, c4, c5⟩ := L2.att 2 (b := w.heap.size + 1 + 1) rfl (a := c) rfl
        go_wp2_with fail
        refine (Cbc.out _).mono ?_; rintro r w3 ⟨rfl, hb⟩
        have L3 := L2.call hb
        clear hb
        clear  b0 b1 b2 b3 b4 b5 c0 c1 c2 c3 c4 c5
        obtain ⟨a0, a1, a2, a3, a4, a5⟩ := L3.att 0 (b := w.heap.size) rfl (a := a) rfl
        obtain ⟨b0, b1, b2, b3, b4, b5⟩ := L3.att 1 (b := w.heap.size + 1) rfl (a := b) rfl
        go_wp2_with fail
        refine (Rab.out _).mono ?_; rintro r w4 ⟨rfl, hb⟩
        have L4 := L3.call hb
        clear hb
        clear  a0 a1 a2 a3 a4 a5 b0 b1 b2 b3 b4 b5
        obtain ⟨a0, a1, a2, a3, a4, a5⟩ := L4.att 0 (b := w.heap.size) rfl (a := a) rfl
        go_wp2_with fail
        refine (Caa.out _).mono ?_; rintro r w5 ⟨rfl, hb⟩
        have L5 := L4.call hb
        clear hb
        clear  a0 a1 a2 a3 a4 a5
        obtain ⟨a0, a1, a2, a3, a4, a5⟩ := L5.att 0 (b := w.heap.size) rfl (a := a) rfl
        obtain ⟨b0, b1, b2, b3, b4, b5⟩ := L5.att 1 (b := w.heap.size + 1) rfl (a := b) rfl
        obtain ⟨c0, c1, c2, c3, c4, c5⟩ := L5.att 2 (b := w.heap.size + 1 + 1) rfl (a := c) rfl
        obtain ⟨x0, x1, x2⟩ := L5.acc 3 (b := w.heap.size + 1 + 1 + 1) rfl (x := y) rfl
        go_wp2_with fail
        refine (Ja.out _).mono ?_; rintro r w6 ⟨rfl, hb⟩
        have L6 := L5.call hb
        clear hb
        clear  a0 a1 a2 a3 a4 a5 b0 b1 b2 b3 b4 b5 c0 c1 c2 c3 c4 c5 x0 x1 x2
        obtain ⟨a0, a1, a2, a3, a4, a5⟩ := L6.att 0 (b := w.heap.size) rfl (a := a) rfl
        obtain ⟨b0, b1, b2, b3, b4, b5⟩ := L6.att 1 (b := w.heap.size + 1) rfl (a := b) rfl
        obtain ⟨c0, c1, c2, c3, c4, c5⟩ := L6.att 2 (b := w.heap.size + 1 + 1) rfl (a := c) rfl
        obtain ⟨x0, x1, x2⟩ := L6.acc 3 (b := w.heap.size + 1 + 1 + 1) rfl (x := y) rfl
        go_wp2_with fail
        refine (Jb.out _).mono ?_; rintro r w7 ⟨rfl, hb⟩
        have L7 := L6.call hb
        clear hb
        clear  a0 a1 a2 a3 a4 a5 b0 b1 b2 b3 b4 b5 c0 c1 c2 c3 c4 c5 x0 x1 x2
        obtain ⟨a0, a1, a2, a3, a4, a5⟩ := L7.att 0 (b := w.heap.size) rfl (a := a) rfl
        obtain ⟨b0, b1, b2, b3, b4, b5⟩ := L7.att 1 (b := w.heap.size + 1) rfl (a := b) rfl
        obtain ⟨c0, c1, c2, c3, c4, c5⟩ := L7.att 2 (b := w.heap.size + 1 + 1) rfl (a := c) rfl
        obtain ⟨x0, x1, x2⟩ := L7.acc 3 (b := w.heap.size + 1 + 1 + 1) rfl (x := y) rfl
        go_wp2_with fail
        refine (CL.out _ (L7.tab hT)).mono ?_; rintro r w8 ⟨rfl, hb⟩
        have L8 := L7.call hb
        clear hb
        clear  a0 a1 a2 a3 a4 a5 b0 b1 b2 b3 b4 b5 c0 c1 c2 c3 c4 c5 x0 x1 x2
        go_wp2_with fail
        try simp only [Exit.inBlock, Exit.then]
        go_ret
        exact ⟨rfl, L8.below⟩
      · refine (Cab.out _).mono ?_; rintro r w2 ⟨rfl, hb⟩
        have L2 := Z.out.call hb
        clear hb fr'
        clear a0 a1 a2 a3 a4 a5 b0 b1 b2 b3 b4 b5 x0 x1 x2
        obtain ⟨b0, b1, b2, b3, b4, b5⟩ := L2.att 1 (b := w.heap.size + 1) rfl (a := b) rfl
        obtain ⟨c0, c1, c2, c3, c4, c5⟩ := L2.att 2 (b := w.heap.size + 1 + 1) rfl (a := c) rfl
        go_wp2_with fail
        refine (Cbc.out _).mono ?_; rintro r w3 ⟨rfl, hb⟩
        have L3 := L2.call hb
        clear hb
        clear  b0 b1 b2 b3 b4 b5 c0 c1 c2 c3 c4 c5
        obtain ⟨a0, a1, a2, a3, a4, a5⟩ := L3.att 0 (b := w.heap.size) rfl (a := a) rfl
        obtain ⟨b0, b1, b2, b3, b4, b5⟩ := L3.att 1 (b := w.heap.size + 1) rfl (a := b) rfl
        go_wp2_with fail
        refine (Rab.out _).mono ?_; rintro r w4 ⟨rfl, hb⟩
        have L4 := L3.call hb
        clear hb
        clear  a0 a1 a2 a3 a4 a5 b0 b1 b2 b3 b4 b5
        obtain ⟨a0, a1, a2, a3, a4, a5⟩ := L4.att 0 (b := w.heap.size) rfl (a := a) rfl
        go_wp2_with fail
        refine (Caa.out _).mono ?_; rintro r w5 ⟨rfl, hb⟩
        have L5 := L4.call hb
        clear hb
        clear  a0 a1 a2 a3 a4 a5
        obtain ⟨a0, a1, a2, a3, a4, a5⟩ := L5.att 0 (b := w.heap.size) rfl (a := a) rfl
        obtain ⟨b0, b1, b2, b3, b4, b5⟩ := L5.att 1 (b := w.heap.size + 1) rfl (a := b) rfl
        obtain ⟨c0, c1, c2, c3, c4, c5⟩ := L5.att 2 (b := w.heap.size + 1 + 1) rfl (a := c) rfl
        obtain ⟨x0, x1, x2⟩ := L5.acc 3 (b := w.heap.size + 1 + 1 + 1) rfl (x := y) rfl
        go_wp2_with fail
        refine (Ja.out _).mono ?_; rintro r w6 ⟨rfl, hb⟩
        have L6 := L5.call hb
        clear hb
        clear  a0 a1 a2 a3 a4 a5 b0 b1 b2 b3 b4 b5 c0 c1 c2 c3 c4 c5 x0 x1 x2
        obtain ⟨a0, a1, a2, a3, a4, a5⟩ := L6.att 0 (b := w.heap.size) rfl (a := a) rfl
        obtain ⟨b0, b1, b2, b3, b4, b5⟩ := L6.att 1 (b := w.heap.size + 1) rfl (a := b) rfl
        obtain ⟨c0, c1, c2, c3, c4, c5⟩ := L6.att 2 (b := w.heap.size + 1 + 1) rfl (a := c) rfl
        obtain ⟨x0, x1, x2⟩ := L6.acc 3 (b := w.heap.size + 1 + 1 + 1) rfl (x := y) rfl
        go_wp2_with fail
        refine (CL.out _ (L6.tab hT)).mono ?_; rintro r w7 ⟨rfl, hb⟩
        have L7 := L6.call hb
        clear hb
        clear  a0 a1 a2 a3 a4 a5 b0 b1 b2 b3 b4 b5 c0 c1 c2 c3 c4 c5 x0 x1 x2
        go_wp2_with fail
        try simp only [Exit.inBlock, Exit.then]
        go_ret
        exact ⟨rfl, L7.below⟩
    · obtain rfl : AC = true := HT.out rfl rfl
      by_cases hv : VA = 0
      · subst hv
        obtain rfl : VB = 0 := HL.out rfl rfl
        refine (Cab.out _).mono ?_; rintro r w2 ⟨rfl, hb⟩
        have L2 := Z.out.call hb
        clear hb fr'
        clear a0 a1 a2 a3 a4 a5 b0 b1 b2 b3 b4 b5 x0 x1 x2
        obtain ⟨b0, b1, b2, b3, b4, b5⟩ := L2.att 1 (b := w.heap.size + 1) rfl (a := b) rfl
        obtain ⟨c0, c1, c2, c3, c4, c5⟩ := L2.att 2 (b := w.heap.size + 1 + 1) rfl (a := c) rfl
        go_wp2_with fail
        refine (Cbc.out _).mono ?_; rintro r w3 ⟨rfl, hb⟩
        have L3 := L2.call hb
        clear hb
        clear  b0 b1 b2 b3 b4 b5 c0 c1 c2 c3 c4 c5
        obtain ⟨a0, a1, a2, a3, a4, a5⟩ := L3.att 0 (b := w.heap.size) rfl (a := a) rfl
        obtain ⟨b0, b1, b2, b3, b4, b5⟩ := L3.att 1 (b := w.heap.size + 1) rfl (a := b) rfl
        go_wp2_with fail
        refine (Rab.out _).mono ?_; rintro r w4 ⟨rfl, hb⟩
        have L4 := L3.call hb
        clear hb
        clear  a0 a1 a2 a3 a4 a5 b0 b1 b2 b3 b4 b5
        obtain ⟨a0, a1, a2, a3, a4, a5⟩ := L4.att 0 (b := w.heap.size) rfl (a := a) rfl
        go_wp2_with fail
        refine (Caa.out _).mono ?_; rintro r w5 ⟨rfl, hb⟩
        have L5 := L4.call hb
        clear hb
        clear  a0 a1 a2 a3 a4 a5
        obtain ⟨a0, a1, a2, a3, a4, a5⟩ := L5.att 0 (b := w.heap.size) rfl (a := a) rfl
        obtain ⟨b0, b1, b2, b3, b4, b5⟩ := L5.att 1 (b := w.heap.size + 1) rfl (a := b) rfl
        obtain ⟨c0, c1, c2, c3, c4, c5⟩ := L5.att 2 (b := w.heap.size + 1 + 1) rfl (a := c) rfl
        obtain ⟨x0, x1, x2⟩ := L5.acc 3 (b := w.heap.size + 1 + 1 + 1) rfl (x := y) rfl
        go_wp2_with fail
        refine (Cac.out _).mono ?_; rintro r w6 ⟨rfl, hb⟩
        have L6 := L5.call hb
        clear hb
        clear  a0 a1 a2 a3 a4 a5 b0 b1 b2 b3 b4 b5 c0 c1 c2 c3 c4 c5 x0 x1 x2
        obtain ⟨a0, a1, a2, a3, a4, a5⟩ := L6.att 0 (b := w.heap.size) rfl (a := a) rfl
        obtain ⟨b0, b1, b2, b3, b4, b5⟩ := L6.att 1 (b := w.heap.size + 1) rfl (a := b) rfl
        obtain ⟨c0, c1, c2, c3, c4, c5⟩ := L6.att 2 (b := w.heap.size + 1 + 1) rfl (a := c) rfl
        obtain ⟨x0, x1, x2⟩ := L6.acc 3 (b := w.heap.size + 1 + 1 + 1) rfl (x := y) rfl
        go_wp2_with fail
        refine (Ja.out _).mono ?_; rintro r w7 ⟨rfl, hb⟩
        have L7 := L6.call hb
        clear hb
        clear  a0 a1 a2 a3 a4 a5 b0 b1 b2 b3 b4 b5 c0 c1 c2 c3 c4 c5 x0 x1 x2
        obtain ⟨a0, a1, a2, a3, a4, a5⟩ := L7.att 0 (b := w.heap.size) rfl (a := a) rfl
        obtain ⟨b0, b1, b2, b3, b4, b5⟩ := L7.att 1 (b := w.heap.size + 1) rfl (a := b) rfl
        obtain ⟨c0, c1, c2, c3, c4, c5⟩ := L7.att 2 (b := w.heap.size + 1 + 1) rfl (a := c) rfl
        obtain ⟨x0, x1, x2⟩ := L7.acc 3 (b := w.heap.size + 1 + 1 + 1) rfl (x := y) rfl
        go_wp2_with fail
        refine (Jb.out _).mono ?_; rintro r w8 ⟨rfl, hb⟩
        have L8 := L7.call hb
        clear hb
        clear  a0 a1 a2 a3 a4 a5 b0 b1 b2 b3 b4 b5 c0 c1 c2 c3 c4 c5 x0 x1 x2
        obtain ⟨a0, a1, a2, a3, a4, a5⟩ := L8.att 0 (b := w.heap.size) rfl (a := a) rfl
        obtain ⟨b0, b1, b2, b3, b4, b5⟩ := L8.att 1 (b := w.heap.size + 1) rfl (a := b) rfl
        obtain ⟨c0, c1, c2, c3, c4, c5⟩ := L8.att 2 (b := w.heap.size + 1 + 1) rfl (a := c) rfl
        obtain ⟨x0, x1, x2⟩ := L8.acc 3 (b := w.heap.size + 1 + 1 + 1) rfl (x := y) rfl
        go_wp2_with fail
        refine (CL.out _ (L8.tab hT)).mono ?_; rintro r w9 ⟨rfl, hb⟩
        have L9 := L8.call hb
        clear hb
        clear  a0 a1 a2 a3 a4 a5 b0 b1 b2 b3 b4 b5 c0 c1 c2 c3 c4 c5 x0 x1 x2
        go_wp2_with fail
        try simp only [Exit.inBlock, Exit.then]
        go_ret
        exact ⟨rfl, L9.below⟩
      · refine (Cab.out _).mono ?_; rintro r w2 ⟨rfl, hb⟩
        have L2 := Z.out.call hb
        clear hb fr'
        clear a0 a1 a2 a3 a4 a5 b0 b1 b2 b3 b4 b5 x0 x1 x2
        obtain ⟨b0, b1, b2, b3, b4, b5⟩ := L2.att 1 (b := w.heap.size + 1) rfl (a := b) rfl
        obtain ⟨c0, c1, c2, c3, c4, c5⟩ := L2.att 2 (b := w.heap.size + 1 + 1) rfl (a := c) rfl
        go_wp2_with fail
        refine (Cbc.out _).mono ?_; rintro r w3 ⟨rfl, hb⟩
        have L3 := L2.call hb
        clear hb
        clear  b0 b1 b2 b3 b4 b5 c0 c1 c2 c3 c4 c5
        obtain ⟨a0, a1, a2, a3, a4, a5⟩ := L3.att 0 (b := w.heap.size) rfl (a := a) rfl
        obtain ⟨b0, b1, b2, b3, b4, b5⟩ := L3.att 1 (b := w.heap.size + 1) rfl (a := b) rfl
        go_wp2_with fail
        refine (Rab.out _).mono ?_; rintro r w4 ⟨rfl, hb⟩
        have L4 := L3.call hb
        clear hb
        clear  a0 a1 a2 a3 a4 a5 b0 b1 b2 b3 b4 b5
        obtain ⟨a0, a1, a2, a3, a4, a5⟩ := L4.att 0 (b := w.heap.size) rfl (a := a) rfl
        go_wp2_with fail
        refine (Caa.out _).mono ?_; rintro r w5 ⟨rfl, hb⟩
        have L5 := L4.call hb
        clear hb
        clear  a0 a1 a2 a3 a4 a5
        obtain ⟨a0, a1, a2, a3, a4, a5⟩ := L5.att 0 (b := w.heap.size) rfl (a := a) rfl
        obtain ⟨b0, b1, b2, b3, b4, b5⟩ := L5.att 1 (b := w.heap.size + 1) rfl (a := b) rfl
        obtain ⟨c0, c1, c2, c3, c4, c5⟩ := L5.att 2 (b := w.heap.size + 1 + 1) rfl (a := c) rfl
        obtain ⟨x0, x1, x2⟩ := L5.acc 3 (b := w.heap.size + 1 + 1 + 1) rfl (x := y) rfl
        go_wp2_with fail
        refine (Cac.out _).mono ?_; rintro r w6 ⟨rfl, hb⟩
        have L6 := L5.call hb
        clear hb
        clear  a0 a1 a2 a3 a4 a5 b0 b1 b2 b3 b4 b5 c0 c1 c2 c3 c4 c5 x0 x1 x2
        obtain ⟨a0, a1, a2, a3, a4, a5⟩ := L6.att 0 (b := w.heap.size) rfl (a := a) rfl
        obtain ⟨b0, b1, b2, b3, b4, b5⟩ := L6.att 1 (b := w.heap.size + 1) rfl (a := b) rfl
        obtain ⟨c0, c1, c2, c3, c4, c5⟩ := L6.att 2 (b := w.heap.size + 1 + 1) rfl (a := c) rfl
        obtain ⟨x0, x1, x2⟩ := L6.acc 3 (b := w.heap.size + 1 + 1 + 1) rfl (x := y) rfl
        go_wp2_with fail
        refine (Ja.out _).mono ?_; rintro r w7 ⟨rfl, hb⟩
        have L7 := L6.call hb
        clear hb
        clear  a0 a1 a2 a3 a4 a5 b0 b1 b2 b3 b4 b5 c0 c1 c2 c3 c4 c5 x0 x1 x2
        obtain ⟨a0, a1, a2, a3, a4, a5⟩ := L7.att 0 (b := w.heap.size) rfl (a := a) rfl
        obtain ⟨b0, b1, b2, b3, b4, b5⟩ := L7.att 1 (b := w.heap.size + 1) rfl (a := b) rfl
        obtain ⟨c0, c1, c2, c3, c4, c5⟩ := L7.att 2 (b := w.heap.size + 1 + 1) rfl (a := c) rfl
        obtain ⟨x0, x1, x2⟩ := L7.acc 3 (b := w.heap.size + 1 + 1 + 1) rfl (x := y) rfl
        go_wp2_with fail
        refine (CL.out _ (L7.tab hT)).mono ?_; rintro r w8 ⟨rfl, hb⟩
        have L8 := L7.call hb
        clear hb
        clear  a0 a1 a2 a3 a4 a5 b0 b1 b2 b3 b4 b5 c0 c1 c2 c3 c4 c5 x0 x1 x2
        go_wp2_with fail
        try simp only [Exit.inBlock, Exit.then]
        go_ret
        exact ⟨rfl, L8.below⟩

/-! ### The row -/
theorem contract (H : Type) (enc : TypeId × Value → H) (W : World) (base : Nat) (args : Array Value) (ds gs : List (DataW H)) (before : List MemPlace)
    (hval : ∀ (j : Nat) t v, Tryd.f5.params[j]? = some t → args[j]? = some v → Value.okWide Tryd.prog W .any base t v)
    (hW : DataW.Whole enc Tryd.prog Tryd.f5.params.toList Rows.faultLessSpec.vars false W args.toList ds gs before) (hL : laidMetH Tryd.prog Rows.faultLessRow.laid W) :
    Calls Tryd.prog 5 args W fun e W' => ∃ v, e = .returned v ∧ Rows.faultLessSpec.post enc Tryd.prog Tryd.f5 false true false false W args v W' := by
  have hW' := hW
  obtain ⟨p, q, hA0, hV, rfl, hfz, hnd⟩ := hW
  have hA : DataW.TrodAll enc Tryd.prog W 0 (fun _ => true) true Tryd.f5.params.toList args.toList ds p := hA0
  rw [Tryd.params5] at hA hval
  obtain ⟨v0, vs0, d0, ds0, p0, q0, hargs, rfl, rfl, h0, r0⟩ := trodAll_cons hA
  obtain ⟨v1, vs1, d1, ds1, p1, q1, rfl, rfl, rfl, h1, r1⟩ := trodAll_cons r0
  obtain ⟨v2, vs2, d2, ds2, p2, q2, rfl, rfl, rfl, h2, r2⟩ := trodAll_cons r1
  obtain ⟨v3, vs3, d3, ds3, p3, q3, rfl, rfl, rfl, h3, r3⟩ := trodAll_cons r2
  obtain ⟨rfl, rfl, rfl⟩ := trodAll_nil r3
  obtain rfl : args = #[v0, v1, v2, v3] := by cases args; simp_all
  obtain ⟨rfl, rfl⟩ := trodVars_none hV
  obtain ⟨A0, rfl, rfl, rfl⟩ := open_attr (hval 0 23 v0 rfl rfl) h0
  obtain ⟨A1, rfl, rfl, rfl⟩ := open_attr (hval 1 23 v1 rfl rfl) h1
  obtain ⟨A2, rfl, rfl, rfl⟩ := open_attr (hval 2 23 v2 rfl rfl) h2
  obtain ⟨X3, rfl, rfl, rfl, m3⟩ := open_acc (hval 3 28 v3 rfl rfl) h3
  clear hA0
  simp only [List.append_nil] at hW'
  refine (walk W (tab_of hL) A0 A1 A2 X3 m3).mono fun e W' ⟨he, hg⟩ => ?_
  subst he
  exact ⟨_, rfl, _, _, _, [], _, [], hW', trodAll_mk1 (shut_bool Tryd.underlying4 _), (trodAll_cons_mk (shut_attr A0) (trodAll_cons_mk (shut_attr A1) (trodAll_cons_mk (shut_attr A2) (trodAll_cons_mk (shut_acc m3) trodAll_mk0)))), rfl, hg.frame _, fun h => by cases h⟩

/-- A world for the witness: the settled one, the table holding what its initialiser lays. -/
noncomputable def laidWorld (os : Os) : World :=
  { World.holding Tryd.prog os ⟨#[], #[], []⟩ with heap := (World.holding Tryd.prog os ⟨#[], #[], []⟩).heap.modify 0 fun
      | .cells _ t frozen => .cells #[.string ⟨#[110, 111, 110, 101]⟩, .int .i64 0, .int .i64 0, .int .i64 0, .string ⟨#[104, 111, 108, 101]⟩, .int .i64 48, .int .i64 8, .int .i64 32, .string ⟨#[110, 111, 116, 104, 105, 110, 103]⟩, .int .i64 104, .int .i64 100, .int .i64 0, .string ⟨#[112, 114, 105, 118]⟩, .int .i64 48, .int .i64 8, .int .i64 1, .string ⟨#[113, 117, 105, 101, 116]⟩, .int .i64 48, .int .i64 8, .int .i64 2, .string ⟨#[119, 114, 105, 116, 101]⟩, .int .i64 108, .int .i64 108, .int .i64 0, .string ⟨#[101, 120, 101, 99]⟩, .int .i64 48, .int .i64 8, .int .i64 16] t frozen
      | o => o }
theorem laid_met (os : Os) : laidMet Tryd.prog Rows.faultLessRow.laid ((laidWorld os).forCall (fun _ _ => 0) ⟨#[], #[.agg #[.bool false, .bool false, .bool false, .bool false, .bool false, .bool false], .agg #[.bool false, .bool false, .bool false, .bool false, .bool false, .bool false], .agg #[.bool false, .bool false, .bool false, .bool false, .bool false, .bool false], .agg #[.int .i64 0, .bool false, .int .u64 0]], []⟩).memory :=
  laidMet_of_run' 8 (by kernel_rfl) (by kernel_rfl)
theorem reads (os : Os) {H : Type} (enc : TypeId × Value → H) : ∃ places, DataW.whole enc Tryd.prog ((laidWorld os).forCall (fun _ _ => 0) ⟨#[], #[.agg #[.bool false, .bool false, .bool false, .bool false, .bool false, .bool false], .agg #[.bool false, .bool false, .bool false, .bool false, .bool false, .bool false], .agg #[.bool false, .bool false, .bool false, .bool false, .bool false, .bool false], .agg #[.int .i64 0, .bool false, .int .u64 0]], []⟩).memory Tryd.f5.params.toList Rows.faultLessSpec.vars false (#[.agg #[.bool false, .bool false, .bool false, .bool false, .bool false, .bool false], .agg #[.bool false, .bool false, .bool false, .bool false, .bool false, .bool false], .agg #[.bool false, .bool false, .bool false, .bool false, .bool false, .bool false], .agg #[.int .i64 0, .bool false, .int .u64 0]] : Array Value).toList 8 = some ([.agg [.lit (.bool false), .lit (.bool false), .lit (.bool false), .lit (.bool false), .lit (.bool false), .lit (.bool false)], .agg [.lit (.bool false), .lit (.bool false), .lit (.bool false), .lit (.bool false), .lit (.bool false), .lit (.bool false)], .agg [.lit (.bool false), .lit (.bool false), .lit (.bool false), .lit (.bool false), .lit (.bool false), .lit (.bool false)], .agg [.lit (.int .i64 0), .lit (.bool false), .lit (.int .u64 0)]], [], places) :=
  ⟨[], by kernel_rfl⟩
set_option maxRecDepth 100000 in
theorem lifted (os : Os) (started : os.Started) (H : Type) (enc : TypeId × Value → H) (F : Stop.Interp) :
    ReturnsInHanded {} Tryd.checked os 5 .any ((OpenSpec.ofChange Rows.faultLessSpec).preRow enc Tryd.prog Tryd.f5 Rows.faultLessRow.domain false Rows.faultLessRow.laid) (((OpenSpec.ofChange Rows.faultLessSpec).at F).post enc Tryd.prog Tryd.f5 false true false false) := by
  obtain ⟨places, hx⟩ := reads os enc
  refine returnsInHanded_of_row (C := Tryd.checked) (s := OpenSpec.ofChange Rows.faultLessSpec) own started (by kernel_rfl) Tryd.func5
    (witness_row_at (enc := enc) (C := Tryd.checked) false (laidWorld os) #[.agg #[.bool false, .bool false, .bool false, .bool false, .bool false, .bool false], .agg #[.bool false, .bool false, .bool false, .bool false, .bool false, .bool false], .agg #[.bool false, .bool false, .bool false, .bool false, .bool false, .bool false], .agg #[.int .i64 0, .bool false, .int .u64 0]] rfl (by kernel_rfl) (by kernel_rfl) (by kernel_rfl)
      (OpenSpec.preRow_of_cond 8 hx (by kernel_rfl) (fun k hk => by cases hk) (by kernel_rfl) (laid_met os))) ?_
  intro W base args ds gs before hval hW _ _ _ hL _ _
  exact contract H enc W base args ds gs before hval hW hL
theorem said : Rows.FaultLessSaid :=
  OpenClaim.holds_of_cond 5 Tryd.f5 rfl rfl rfl rfl rfl rfl rfl ⟨rfl, rfl, rfl, rfl, rfl⟩ rfl rfl rfl rfl rfl (by kernel_rfl) Tryd.func5 (by kernel_rfl)
    (of_decide_eq_true (by kernel_rfl)) (by unfold Func.isWrapper; first | (rw [if_pos (by decide +kernel)]; kernel_rfl) | (rw [if_neg (by decide +kernel)]; exact ⟨rfl, rfl⟩))
    (fun os started H enc _ F => by rw [OpenClaim.pre_eq_preRow]; exact lifted os started H enc F)
theorem plain (f : FuncId) (fn : Func) (hf : Tryd.pinned.checked.prog.funcNamed "lookaside/lookasidelaw09.FaultLess" = some f) (hfn : Tryd.pinned.checked.prog.funcs[f]? = some fn) :
    false = Tryd.pinned.checked.prog.looks [] ∧ ∀ (j : Nat) t, fn.params[j]? = some t → Tryd.pinned.checked.prog.wantsStandIn t = false := by
  obtain rfl : f = 5 := Option.some.inj ((show Tryd.prog.funcNamed "lookaside/lookasidelaw09.FaultLess" = some 5 by kernel_rfl).symm.trans hf) |>.symm
  obtain rfl : fn = Tryd.f5 := (Option.some.inj (Tryd.func5.symm.trans hfn)).symm
  refine ⟨by kernel_rfl, fun j t ht => ?_⟩
  rw [Tryd.params5] at ht
  have hm : t ∈ [23, 23, 23, 28] := by simpa using Array.mem_of_getElem? ht
  have hall : ([23, 23, 23, 28].all fun u => !Tryd.prog.wantsStandIn u) = true := by kernel_rfl
  exact (show Tryd.prog.wantsStandIn t = false by simpa using List.all_eq_true.1 hall t hm)
theorem proved : Rows.FaultLessCardSaid :=
  Claim7.holds_tied_plain_at .later [] _ _ _ _ said (fun _ h => by cases h) (by kernel_rfl) (fun _ h => by cases h) faultLess_row_tie rfl ⟨rfl, rfl⟩ (by kernel_rfl) rfl plain (by kernel_rfl)
#print axioms proved
end Go.Proofs.YtfkbloclogeacaaDoor.faultLess
