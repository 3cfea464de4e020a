/-
  The contract of the example that every law of layer 3 asks for at its end. Conditions: none.
-/
import Derived.Test.YtambpmbgepgkdaaTData
import Derived.Test.YtambpmbgepgkdaaTOpen
namespace Go.Proofs.Ytambpmbgepgkdaa.Fld
open Go.ChangeShapes Go.WideShapes Go.ChangeAt Go.RowKit
set_option maxHeartbeats 1000000
set_option maxRecDepth 100000
def exE : Ent := ⟨0, 1, 8192, 16384, ⟨true, false, false, false, false, false⟩, true⟩
theorem exE_may : exE.mayB = true := by kernel_rfl
theorem exE_tag : exE.tagG = 281474976710656 := by kernel_rfl
theorem exE_data : exE.dataG = 9223372036854792194 := (Ent.dataG_fit (Ent.fit exE_may (by decide)) rfl).trans (by kernel_rfl)
theorem tlives_any (w : World) :
    Calls Try.prog 19 #[] w fun e w' => e = .returned (.bool true) ∧ Below w.heap.size w w' := by
  have q1 : ∀ W, Calls Try.prog 14 #[.agg #[.int .i64 0, .int .i64 1, .int .u64 8192, .int .u64 16384, .bool true, .bool false, .bool false, .bool false, .bool false, .bool false, .bool true]] W fun r w' => r = .returned (.int .u64 281474976710656) ∧ Below W.heap.size W w' := fun W => by
    have := ttag_any exE (by decide) (by decide) W; rw [exE_tag] at this; exact this
  have q2 : ∀ W, Calls Try.prog 16 #[.agg #[.int .i64 0, .int .i64 1, .int .u64 8192, .int .u64 16384, .bool true, .bool false, .bool false, .bool false, .bool false, .bool false, .bool true]] W fun r w' => r = .returned (.int .u64 9223372036854792194) ∧ Below W.heap.size W w' := fun W => by
    have := tdata_any exE (by decide) (by decide) W; rw [exE_data] at this; exact this
  have q3 : ∀ W, Calls Try.prog 12 #[.agg #[.int .i64 0, .int .i64 1, .int .u64 8192, .int .u64 16384, .bool true, .bool false, .bool false, .bool false, .bool false, .bool false, .bool true]] W fun r w' => r = .returned (.bool true) ∧ Below W.heap.size W w' := fun W => by
    have := tmay_any exE (by decide) (by decide) (by decide) (by decide) W; rw [exE_may] at this; exact this
  have Q1 := Lib.hid q1
  have Q2 := Lib.hid q2
  have Q3 := Lib.hid q3
  clear q1 q2 q3
  go_enter Try.func19, Try.ntmps19
  go_wp2_with fail
  refine (Q1.out _).mono ?_; rintro r w1 ⟨rfl, hb1⟩
  have hc1 : ∀ o, w1.cell? ⟨w.heap.size, o, none⟩ = _ := fun o => (bcell hb1).1 w.heap.size o (by simp)
  have hz1 : w.heap.size < w1.heap.size := by have := hb1.size; simp at this; omega
  have HB1 := Lib.hid (below_box hb1)
  clear hb1
  go_wp2_with fail
  refine (Q2.out _).mono ?_; rintro r w2 ⟨rfl, hb2⟩
  have hc2 : ∀ o, w2.cell? ⟨w.heap.size, o, none⟩ = _ := fun o => (bcell hb2).1 w.heap.size o (by omega)
  have hz2 : w.heap.size < w2.heap.size := by have := hb2.size; omega
  have HB2 := Lib.hid (HB1.out.trans (hb2.mono (by omega)))
  clear hb2
  go_wp2_with fail
  refine (Q3.out _).mono ?_; rintro r w3 ⟨rfl, hb3⟩
  go_wp2_with fail
  go_ret
  exact ⟨rfl, HB2.out.trans (hb3.mono (by omega))⟩
end Go.Proofs.Ytambpmbgepgkdaa.Fld
