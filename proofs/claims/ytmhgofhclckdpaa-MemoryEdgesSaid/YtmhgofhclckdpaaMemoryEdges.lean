/-
  MemoryEdges: for every size and address the law returns true, and its arguments read as before. Conditions: none.
-/
import Derived.Test.YtmhgofhclckdpaaRows
import Derived.WalkKit
import Derived.ProofKit
import Derived.OpenShut
import Derived.Test.YtmhgofhclckdpaaMEdge
import Derived.ShutString
namespace Go.Proofs.Ytmhgofhclckdpaa.memoryEdges
open Fld
open Go.ChangeShapes Go.WideShapes Go.ChangeAt Go.RowKit
open Go.ChangeMaps (open_string shut_string)
set_option linter.unusedVariables false

theorem own : ownKnob Try.prog.godebug = none := by kernel_rfl

open Mem
/-- The addresses that are asked. -/
def asked (S x : Int) : List Int := [x % 2000, S, IntKind.u64.wrap (S - 1), IntKind.u64.wrap (S - 8), IntKind.u64.wrap (S - 16), 18446744073709551615, 18446744073709551608, 18446744073709551600]
def askC (S x : Int) : Array Value := ((asked S x).map (Value.int .u64)).toArray
theorem asked_at (S x : Int) (h0 : 0 ≤ S) (h1 : S ≤ 1000) (k : Nat) (hk : k < 8) : ∃ y : Int, (askC S x)[k]? = some (.int .u64 y) ∧ 0 ≤ y ∧ y < 18446744073709551616 := by
  have hw : ∀ z, IntKind.u64.wrap z = z % 18446744073709551616 := fun z => IntKind.wrap_u64 z
  have : ∀ y ∈ asked S x, 0 ≤ y ∧ y < 18446744073709551616 := by
    intro y hy
    simp only [asked, hw, List.mem_cons, List.not_mem_nil, or_false] at hy
    rcases hy with rfl | rfl | rfl | rfl | rfl | rfl | rfl | rfl <;> omega
  have hl : k < (asked S x).length := hk
  exact ⟨(asked S x)[k], by simp [askC, List.getElem?_eq_getElem hl], this _ (List.getElem_mem hl)⟩
theorem ek_S {W w : World} {sb S rb ab k : Nat} {g : Nat → Nat} {ac : Array Value} {rt at_ : TypeId} {y : Int} (h : EK W w sb S g rb #[.int .u64 (S : Int), .slice none 0 0] rt ab ac at_) (hk : ac[k]? = some (.int .u64 y)) :
    w.cell? ⟨rb, 0, none⟩ = some (.int .u64 (S : Int)) ∧ w.cell? ⟨rb, 1, none⟩ = some (.slice none 0 0) ∧ w.cell? ⟨ab, k, none⟩ = some (.int .u64 y) ∧ EK W w sb S g rb #[.int .u64 (S : Int), .slice none 0 0] rt ab ac at_ :=
  ⟨by simp [World.cell?, h.r], by simp [World.cell?, h.r], by simp [World.cell?, h.a, hk], h⟩
section
variable {W w : World} {sb S rb ab k : Nat} {ac : Array Value} {rt at_ : TypeId} {y : Int}
theorem es_may (h : w.cell? ⟨rb, 0, none⟩ = some (.int .u64 (S : Int)) ∧ w.cell? ⟨rb, 1, none⟩ = some (.slice none 0 0) ∧ w.cell? ⟨ab, k, none⟩ = some (.int .u64 y) ∧ EK W w sb S (fun _ => 0) rb #[.int .u64 (S : Int), .slice none 0 0] rt ab ac at_) (n st : Int) (h0 : 0 ≤ y) (h1 : y < 18446744073709551616) (hst : 0 < st) (hst1 : st ≤ 16) (n0 : 0 ≤ n) (n1 : n < 18446744073709551616) :
    Calls Try.prog 15 #[.agg #[.int .u64 (S : Int), .slice none 0 0], .int .u64 y, .int .u64 n, .int .u64 st] w fun e w' => e = .returned (.int .i64 (mayI S y st n)) ∧ EK W w' sb S (fun _ => 0) rb #[.int .u64 (S : Int), .slice none 0 0] rt ab ac at_ :=
  h.2.2.2.may y n st none 0 0 h0 h1 hst hst1 n0 n1
theorem es_clear (h : w.cell? ⟨rb, 0, none⟩ = some (.int .u64 (S : Int)) ∧ w.cell? ⟨rb, 1, none⟩ = some (.slice none 0 0) ∧ w.cell? ⟨ab, k, none⟩ = some (.int .u64 y) ∧ EK W w sb S (fun _ => 0) rb #[.int .u64 (S : Int), .slice none 0 0] rt ab ac at_) (h0 : 0 ≤ y) (h1 : y < 18446744073709551616) :
    Calls Try.prog 16 #[.pointer (some ⟨sb, 0, none⟩), .int .u64 y, .int .u64 0] w fun e w' => e = .returned (.int .i64 0) ∧ EK W w' sb S (fun _ => 0) rb #[.int .u64 (S : Int), .slice none 0 0] rt ab ac at_ :=
  h.2.2.2.clear0 y h0 h1
theorem es_copy (h : w.cell? ⟨rb, 0, none⟩ = some (.int .u64 (S : Int)) ∧ w.cell? ⟨rb, 1, none⟩ = some (.slice none 0 0) ∧ w.cell? ⟨ab, k, none⟩ = some (.int .u64 y) ∧ EK W w sb S (fun _ => 0) rb #[.int .u64 (S : Int), .slice none 0 0] rt ab ac at_) (h0 : 0 ≤ y) (h1 : y < 18446744073709551616) :
    Calls Try.prog 17 #[.pointer (some ⟨sb, 0, none⟩), .int .u64 y, .int .u64 0, .int .u64 0] w fun e w' => e = .returned (.int .i64 0) ∧ EK W w' sb S (fun _ => 0) rb #[.int .u64 (S : Int), .slice none 0 0] rt ab ac at_ :=
  h.2.2.2.copy0 y h0 h1
end
theorem start {w w1 w2 : World} {S : Nat} {x : Int} (H1 : Has w w1 (w.heap.size + 1) S (fun _ => 0)) (hb2 : Below w1.heap.size w1 w2) (t t' : TypeId) :
    EK w ((w2.alloc (.cells #[.int .u64 (S : Int), .slice none 0 0] t)).alloc (.cells (askC S x) t')) (w.heap.size + 1) S (fun _ => 0) w2.heap.size #[.int .u64 (S : Int), .slice none 0 0] t (w2.heap.size + 1) (askC S x) t' := by
  have hs : w.heap.size + 1 < w1.heap.size := by obtain ⟨bm, _, _, _, d⟩ := H1; exact d.lt.1
  have hs2 := hb2.size
  refine ⟨(H1.call hb2).call (((Below.refl _ _).alloc (Nat.le_refl _) _).alloc (by simp) _), ?_, ?_, by omega, by omega⟩
  · rw [Below.heap_alloc _ _ _ (by simp)]; exact heap_alloc_new _ _
  · have := heap_alloc_new (w2.alloc (.cells #[.int .u64 (S : Int), .slice none 0 0] t)) (.cells (askC S x) t')
    simpa using this
/-! ### The walk -/
set_option maxHeartbeats 4000000 in
set_option maxRecDepth 100000 in
theorem walk (a0 : Int) (a1 : Int) (w0 : (Lit.int .u64 a0).wf = true) (w1 : (Lit.int .u64 a1).wf = true) (w : World) :
    Calls Try.prog 4 #[.int .u64 a0, .int .u64 a1] w fun e w' => e = .returned (.bool true) ∧ Below w.heap.size w w' := by
  obtain ⟨s0, s1⟩ := bounds_u64 w0
  obtain ⟨x0, x1⟩ := bounds_u64 w1
  clear w0 w1
  obtain ⟨S, hS⟩ : ∃ S : Nat, (S : Int) = a0 % 1001 := ⟨(a0 % 1001).toNat, by omega⟩
  have hS1 : S ≤ 1000 := by omega
  have HS := hS.symm
  clear hS
  have AT := fun k hk => Lib.hid (asked_at (S : Int) a1 (by omega) (by omega) k hk)
  go_enter Try.func4, Try.ntmps4
  go_wp2_with (first | (go_at_call 8; refine (hnew S (by omega) _).mono ?_; rintro e w1 ⟨rfl, H1⟩) | (go_at_call 13; refine (rnew_any (S : Int) (by omega) (by omega) _).mono ?_; rintro e w2 ⟨rfl, hb2⟩))
  have E0 := start (x := a1) H1 hb2 35 22
  clear HS s0 s1 x0 x1
  go_loopw [8] (fun i wr => ∃ k : Nat, k ≤ 8 ∧ i = .int .i64 (k : Int) ∧ EK w wr (w.heap.size + 1) S (fun _ => 0) w2.heap.size #[.int .u64 (S : Int), .slice none 0 0] 35 (w2.heap.size + 1) (askC S a1) 22) (fun i _ => 8 - (intOf i).toNat)
  case atStart => exact ⟨0, by omega, rfl, E0⟩
  case round =>
    obtain ⟨k, hk, rfl, E⟩ := hrel
    by_cases hlt : k < 8
    · obtain ⟨y, hy, y0, y1⟩ := (AT k hlt).out
      have HY := Lib.hid hy
      clear hy
      have hki : (k : Int) < 8 := by omega
      have c3 := (ek_S E HY.out).2.2.1
      go_wp2_with fail
      refine (E.byte y y0 y1).mono ?_
      rintro e w3 ⟨rfl, E3⟩
      have d3 := (ek_S E3 HY.out).2.2.1
      go_wp2_with fail
      refine (E3.word y y0 y1).mono ?_
      rintro e w4 ⟨rfl, E4⟩
      have e3 := (ek_S E4 HY.out).2.2.1
      go_wp2_with fail
      refine (E4.pair y y0 y1).mono ?_
      rintro e w5 ⟨rfl, E5⟩
      go_wp2_with fail
      clear c3 d3 e3 E E3 E4 E0 H1
      have hm1 : ((mayI (S : Int) y 1 1) != (mayI (S : Int) y 1 1)) = false := by simp
      go_region_held3 (fun w1 => w1.cell? ⟨w2.heap.size, 0, none⟩ = some (.int .u64 (S : Int)) ∧ w1.cell? ⟨w2.heap.size, 1, none⟩ = some (.slice none 0 0) ∧ w1.cell? ⟨w2.heap.size + 1, k, none⟩ = some (.int .u64 y) ∧ EK w w1 (w.heap.size + 1) S (fun _ => 0) w2.heap.size #[.int .u64 (S : Int), .slice none 0 0] 35 (w2.heap.size + 1) (askC S a1) 22)
        ((refine ek_S ?_ HY.out; first | assumption | (refine EK.drew ?_; assumption)))
        (first | (go_at_call 15; (with_reducible refine (es_may (by assumption) _ _ y0 y1 (by omega) (by omega) (by omega) (by omega)).mono ?_); rintro e w' ⟨rfl, E'⟩) | (go_at_call 16; (with_reducible refine (es_clear (by assumption) y0 y1).mono ?_); rintro e w' ⟨rfl, E'⟩) | (go_at_call 17; (with_reducible refine (es_copy (by assumption) y0 y1).mono ?_); rintro e w' ⟨rfl, E'⟩))
      go_wp2
      go_roundw
      case rel => exact ⟨k + 1, by omega, by go_num, by assumption⟩
      case measure => simp [intOf]; omega
    · obtain rfl : k = 8 := by omega
      go_wp2_with (go_at_call 12; refine (mlives_any _).mono ?_; rintro e w' ⟨rfl, hb⟩)
      go_ret
      exact ⟨rfl, E.has.below.trans (hb.mono E.has.below.size)⟩

/-! ### The row -/
set_option maxRecDepth 100000 in
theorem lifted (os : Os) (started : os.Started) (H : Type) (enc : TypeId × Value → H) :
    ReturnsInHanded {} Try.checked os 4 .any (Rows.memoryEdgesSpec.pre6 enc Try.prog Try.f4 Rows.memoryEdgesRow.domain false) (Rows.memoryEdgesSpec.post enc Try.prog Try.f4 false true false false) := by
  refine returnsInHanded_of_change (C := Try.checked) own started (by kernel_rfl) Try.func4
    (ChangeSpec.witness6 (enc := enc) (C := Try.checked) false ⟨#[], #[.int .u64 0, .int .u64 0], []⟩ 8 (by kernel_rfl) (by kernel_rfl) (by kernel_rfl) (by kernel_rfl)) ?_
  intro W base args ds gs before hval0 hW hcnd _
  have hval : ∀ (j : Nat) t v, Try.f4.params[j]? = some t → args[j]? = some v → Value.okWide Try.prog W .any base t v := hval0
  have hW' := hW
  obtain ⟨p, q, hA0, hV, rfl, hfz, hnd⟩ := hW
  have hA : DataW.TrodAll enc Try.prog W 0 (fun _ => true) true Try.f4.params.toList args.toList ds p := hA0
  rw [Try.params4] at hA hval
  obtain ⟨v0, vs0, d0, ds0, p0, q0, hargs, rfl, rfl, h0, r0⟩ := trodAll_cons hA
  obtain ⟨v1, vs1, d1, ds1, p1, q1, rfl, rfl, rfl, h1, r1⟩ := trodAll_cons r0
  obtain ⟨rfl, rfl, rfl⟩ := trodAll_nil r1
  obtain rfl : args = #[v0, v1] := by cases args; simp_all
  obtain ⟨rfl, rfl⟩ := trodVars_none hV
  obtain ⟨a0, rfl, rfl, rfl, w0⟩ := open_int Try.underlying22 (hval 0 22 v0 rfl rfl) h0
  obtain ⟨a1, rfl, rfl, rfl, w1⟩ := open_int Try.underlying22 (hval 1 22 v1 rfl rfl) h1
  clear hA0 hval0
  simp only [List.append_nil] at hW'
  refine (walk a0 a1 w0 w1 W).mono fun e W' ⟨he, hg⟩ => ?_
  subst he
  exact ⟨_, rfl, _, _, _, [], [], [], hW', trodAll_mk1 (shut_bool Try.underlying4 _), (trodAll_cons_mk (shut_int Try.underlying22 w0) (trodAll_cons_mk (shut_int Try.underlying22 w1) trodAll_mk0)), rfl, hg.frame _, fun h => by cases h⟩

theorem over : Rows.memoryEdgesRow.holds Try.pinned (OpenSpec.ofChange Rows.memoryEdgesSpec) :=
  OpenClaim.holds_of_wide 4 Try.f4 rfl rfl rfl rfl rfl rfl rfl ⟨rfl, rfl, rfl, rfl, rfl⟩ rfl rfl rfl rfl rfl (by kernel_rfl) Try.func4 (by kernel_rfl)
    (of_decide_eq_true (by kernel_rfl)) (by unfold Func.isWrapper; first | (rw [if_pos (by decide +kernel)]; kernel_rfl) | (rw [if_neg (by decide +kernel)]; exact ⟨rfl, rfl⟩))
    (fun os started H enc _ => lifted os started H enc)

theorem proved : Rows.MemoryEdgesSaid :=
  over
#print axioms proved
end Go.Proofs.Ytmhgofhclckdpaa.memoryEdges
