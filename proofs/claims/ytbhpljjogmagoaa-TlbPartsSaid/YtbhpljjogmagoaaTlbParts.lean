/-
  TlbParts: for every two entries (made such as may be) the law returns true, and its arguments read as before. Conditions: none.
-/
import Derived.Test.YtbhpljjogmagoaaRows
import Derived.WalkKit
import Derived.ProofKit
import Derived.OpenShut
import Derived.Test.YtbhpljjogmagoaaGE
import Derived.Deep.DeepCutAuto
namespace Go.Proofs.Ytbhpljjogmagoaa.tlbParts
open Fld Tl
open Go.ChangeShapes Go.WideShapes Go.ChangeAt Go.RowKit Go.Deep Go.Shelf
set_option linter.unusedVariables false

theorem own : ownKnob Try.prog.godebug = none := by kernel_rfl

theorem both_not {x y : Ent} (hx : x.Ok) (hy : y.Ok) : (((((x.hitsB x.va x.ctx && y.hitsB x.va x.ctx) || (x.hitsB x.va y.ctx && y.hitsB x.va y.ctx)) || (x.hitsB y.va x.ctx && y.hitsB y.va x.ctx)) || (x.hitsB y.va y.ctx && y.hitsB y.va y.ctx))) = !partsB x y := by
  cases hp : partsB x y
  · have hsx := hx.size
    have hsy := hy.size
    have hvx := hx.vs
    have hvy := hy.vs
    unfold partsB at hp
    rw [Bool.or_eq_false_iff, Bool.not_eq_false'] at hp
    obtain ⟨hm, hc⟩ := hp
    have hxx : inB x.va x.va x.size = true := by unfold inB; rw [hsx]; simp
    have hyy : inB y.va y.va y.size = true := by unfold inB; rw [hsy]; simp
    have hor : inB x.va y.va y.size = true ∨ inB y.va x.va x.size = true := by
      unfold meetB inB at hm
      simp only [Bool.and_eq_true, decide_eq_true_eq] at hm
      have hm := hm.2.2
      unfold inB
      rw [hsx, hsy]
      simp only [Bool.true_and, decide_eq_true_eq]
      by_cases h : x.size ≤ y.size
      · rw [Int.max_eq_right h] at hm; exact .inl hm
      · rw [Int.max_eq_left (by omega)] at hm; exact .inr hm.symm
    have key : ∀ va ctx, inB va x.va x.size = true → inB va y.va y.size = true → (x.att.global = true ∨ x.ctx = ctx) → (y.att.global = true ∨ y.ctx = ctx) → (x.hitsB va ctx && y.hitsB va ctx) = true := by
      intro va ctx h1 h2 h3 h4
      unfold Ent.hitsB Ent.holdsB
      rw [h1, h2, hx.valid, hy.valid]
      simp only [Bool.and_self, Bool.true_and, Bool.and_eq_true, Bool.or_eq_true, beq_iff_eq]
      exact ⟨h3, h4⟩
    have hcc : (x.att.global = true ∨ x.ctx = x.ctx) ∧ (y.att.global = true ∨ y.ctx = x.ctx) ∨ (x.att.global = true ∨ x.ctx = y.ctx) ∧ (y.att.global = true ∨ y.ctx = y.ctx) := by
      cases gx : x.att.global
      · cases gy : y.att.global
        · rw [gx, gy] at hc
          simp at hc
          exact .inl ⟨.inr rfl, .inr hc.symm⟩
        · exact .inl ⟨.inr rfl, .inl rfl⟩
      · exact .inr ⟨.inl rfl, .inr rfl⟩
    simp only [Bool.not_false, Bool.or_eq_true]
    rcases hor with hv | hv <;> rcases hcc with ⟨a, b⟩ | ⟨a, b⟩
    · exact .inl (.inl (.inl (key _ _ hxx hv a b)))
    · exact .inl (.inl (.inr (key _ _ hxx hv a b)))
    · exact .inl (.inr (key _ _ hv hyy a b))
    · exact .inr (key _ _ hv hyy a b)
  · have h : ∀ va ctx, (x.hitsB va ctx && y.hitsB va ctx) = false := fun va ctx => by
      cases h1 : x.hitsB va ctx
      · rfl
      · rw [hits_part hp h1]; rfl
    rw [h, h, h, h]; rfl
def orN (f : Nat → Bool) : Nat → Bool
  | 0 => false
  | m + 1 => orN f m || f m
def two (a b : Int) (i : Nat) : Int := if i = 0 then a else b
theorem two_bd {a b : Int} (a0 : 0 ≤ a) (a1 : a ≤ 18446744073709551615) (b0 : 0 ≤ b) (b1 : b ≤ 18446744073709551615) (i : Nat) : 0 ≤ two a b i ∧ two a b i ≤ 18446744073709551615 := by unfold two; split <;> constructor <;> assumption
theorem two_u (a b : Int) {i : Nat} (h : i < 2) : (#[Value.int .u64 a, .int .u64 b])[i]? = some (.int .u64 (two a b i)) := by
  have : i = 0 ∨ i = 1 := by omega
  rcases this with rfl | rfl <;> rfl
theorem two_i (a b : Int) {i : Nat} (h : i < 2) : (#[Value.int .i64 a, .int .i64 b])[i]? = some (.int .i64 (two a b i)) := by
  have : i = 0 ∨ i = 1 := by omega
  rcases this with rfl | rfl <;> rfl
def hitF (x y : Ent) (m : Nat) : Bool := x.hitsB (two x.va y.va (m / 2)) (two x.ctx y.ctx (m % 2)) && y.hitsB (two x.va y.va (m / 2)) (two x.ctx y.ctx (m % 2))
theorem hitF_all {x y : Ent} (hx : x.Ok) (hy : y.Ok) : orN (hitF x y) 4 = !partsB x y := by
  rw [← both_not hx hy]
  show ((((false || hitF x y 0) || hitF x y 1) || hitF x y 2) || hitF x y 3) = _
  rw [Bool.false_or]; rfl
theorem hitF_at (x y : Ent) {i k : Nat} (hk : k < 2) : hitF x y (2 * i + k) = (x.hitsB (two x.va y.va i) (two x.ctx y.ctx k) && y.hitsB (two x.va y.va i) (two x.ctx y.ctx k)) := by
  unfold hitF; rw [show (2 * i + k) / 2 = i by omega, show (2 * i + k) % 2 = k by omega]
/-- The boxes of both entries, and the two lists. -/
structure PQ (w wr : World) (bx b1 b2 by' : Nat) (x y : Ent) : Prop where
  bel : Below w.heap.size w wr
  rx : RowE wr bx x
  ry : RowE wr by' y
  v : wr.heap[b1]? = some (.cells #[.int .u64 x.va, .int .u64 y.va] 29 (0, 0))
  c : wr.heap[b2]? = some (.cells #[.int .i64 x.ctx, .int .i64 y.ctx] 3 (0, 0))
theorem PQ.low {w wr w' : World} {bx b1 b2 by' : Nat} {x y : Ent} (h : PQ w wr bx b1 b2 by' x y) (hb : Below wr.heap.size wr w') : PQ w w' bx b1 b2 by' x y :=
  ⟨h.bel.trans (hb.mono h.bel.size), h.rx.below hb h.rx.lt, h.ry.below hb h.ry.lt, (hb.block _ (Array.getElem?_eq_some_iff.1 h.v).1).trans h.v, (hb.block _ (Array.getElem?_eq_some_iff.1 h.c).1).trans h.c⟩
theorem PQ.drewN {w wr : World} {bx b1 b2 by' : Nat} {x y : Ent} (h : PQ w wr bx b1 b2 by' x y) (m : Nat) : PQ w (wr.drewN m) bx b1 b2 by' x y := ⟨below_drewN h.bel m, ⟨h.rx.row⟩, ⟨h.ry.row⟩, h.v, h.c⟩
theorem PQ.drew {w wr : World} {bx b1 b2 by' : Nat} {x y : Ent} (h : PQ w wr bx b1 b2 by' x y) : PQ w wr.drew bx b1 b2 by' x y := ⟨h.bel.drew, ⟨h.rx.row⟩, ⟨h.ry.row⟩, h.v, h.c⟩
theorem PQ.cv {w wr : World} {bx b1 b2 by' : Nat} {x y : Ent} (h : PQ w wr bx b1 b2 by' x y) {i : Nat} (hi : i < 2) : wr.cell? ⟨b1, i, none⟩ = some (.int .u64 (two x.va y.va i)) := (cell_of_row _ _ i _ _ _ h.v).trans (two_u _ _ hi)
theorem PQ.cc {w wr : World} {bx b1 b2 by' : Nat} {x y : Ent} (h : PQ w wr bx b1 b2 by' x y) {i : Nat} (hi : i < 2) : wr.cell? ⟨b2, i, none⟩ = some (.int .i64 (two x.ctx y.ctx i)) := (cell_of_row _ _ i _ _ _ h.c).trans (two_i _ _ hi)
theorem PQ.sx {w wr : World} {bx b1 b2 by' : Nat} {x y : Ent} {i k : Nat} (hi : i < 2) (hk : k < 2) (h : PQ w wr bx b1 b2 by' x y) : wr.cell? ⟨bx, 0, none⟩ = some (.int .i64 x.size) ∧ wr.cell? ⟨bx, 1, none⟩ = some (.int .i64 x.ctx) ∧ wr.cell? ⟨bx, 2, none⟩ = some (.int .u64 x.va) ∧ wr.cell? ⟨bx, 3, none⟩ = some (.int .u64 x.pa) ∧ wr.cell? ⟨bx, 4, none⟩ = some (.bool x.att.write) ∧ wr.cell? ⟨bx, 5, none⟩ = some (.bool x.att.priv) ∧ wr.cell? ⟨bx, 6, none⟩ = some (.bool x.att.exec) ∧ wr.cell? ⟨bx, 7, none⟩ = some (.bool x.att.lock) ∧ wr.cell? ⟨bx, 8, none⟩ = some (.bool x.att.global) ∧ wr.cell? ⟨bx, 9, none⟩ = some (.bool x.att.quiet) ∧ wr.cell? ⟨bx, 10, none⟩ = some (.bool x.valid) ∧ wr.cell? ⟨b1, i, none⟩ = some (.int .u64 (two x.va y.va i)) ∧ wr.cell? ⟨b2, k, none⟩ = some (.int .i64 (two x.ctx y.ctx k)) := by
  obtain ⟨x0, x1, x2, x3, x4, x5, x6, x7, x8, x9, x10⟩ := h.rx.cells
  exact ⟨x0, x1, x2, x3, x4, x5, x6, x7, x8, x9, x10, h.cv hi, h.cc hk⟩
theorem PQ.sy {w wr : World} {bx b1 b2 by' : Nat} {x y : Ent} {i k : Nat} (hi : i < 2) (hk : k < 2) (h : PQ w wr bx b1 b2 by' x y) : wr.cell? ⟨by', 0, none⟩ = some (.int .i64 y.size) ∧ wr.cell? ⟨by', 1, none⟩ = some (.int .i64 y.ctx) ∧ wr.cell? ⟨by', 2, none⟩ = some (.int .u64 y.va) ∧ wr.cell? ⟨by', 3, none⟩ = some (.int .u64 y.pa) ∧ wr.cell? ⟨by', 4, none⟩ = some (.bool y.att.write) ∧ wr.cell? ⟨by', 5, none⟩ = some (.bool y.att.priv) ∧ wr.cell? ⟨by', 6, none⟩ = some (.bool y.att.exec) ∧ wr.cell? ⟨by', 7, none⟩ = some (.bool y.att.lock) ∧ wr.cell? ⟨by', 8, none⟩ = some (.bool y.att.global) ∧ wr.cell? ⟨by', 9, none⟩ = some (.bool y.att.quiet) ∧ wr.cell? ⟨by', 10, none⟩ = some (.bool y.valid) ∧ wr.cell? ⟨b1, i, none⟩ = some (.int .u64 (two x.va y.va i)) ∧ wr.cell? ⟨b2, k, none⟩ = some (.int .i64 (two x.ctx y.ctx k)) := by
  obtain ⟨x0, x1, x2, x3, x4, x5, x6, x7, x8, x9, x10⟩ := h.ry.cells
  exact ⟨x0, x1, x2, x3, x4, x5, x6, x7, x8, x9, x10, h.cv hi, h.cc hk⟩
/-! ### The walk -/
set_option maxHeartbeats 4000000 in
set_option maxRecDepth 100000 in
theorem walk (w : World) (E0 : Ent) (l0 : E0.lits) (E1 : Ent) (l1 : E1.lits) :
    Calls Try.prog 5 #[.agg #[.int .i64 E0.size, .int .i64 E0.ctx, .int .u64 E0.va, .int .u64 E0.pa, .bool E0.att.write, .bool E0.att.priv, .bool E0.att.exec, .bool E0.att.lock, .bool E0.att.global, .bool E0.att.quiet, .bool E0.valid], .agg #[.int .i64 E1.size, .int .i64 E1.ctx, .int .u64 E1.va, .int .u64 E1.pa, .bool E1.att.write, .bool E1.att.priv, .bool E1.att.exec, .bool E1.att.lock, .bool E1.att.global, .bool E1.att.quiet, .bool E1.valid]] w fun e w' => e = .returned (.bool true) ∧ Below w.heap.size w w' := by
  obtain ⟨x, hox, HX⟩ := good_some E0 l0
  obtain ⟨y, hoy, HY⟩ := good_some E1 l1
  have HO := Lib.hid (hitF_all hox hoy)
  have xv0 := hox.v0
  have xv1 := hox.v1
  have yv0 := hoy.v0
  have yv1 := hoy.v1
  have P1 := fun W => parts_any x y xv0 xv1 yv0 yv1 W
  have P2 := fun W => rparts_any x y xv0 xv1 yv0 yv1 W
  have P3 := fun W => parts_any y x yv0 yv1 xv0 xv1 W
  have P4 := fun W => parts_any x x xv0 xv1 xv0 xv1 W
  rw [parts_comm y x] at P3
  rw [self_parts hox.may] at P4
  have HLV := Lib.hid (fun W => lives_any W)
  clear l0 l1
  generalize partsB x y = P at *
  have P1 := Lib.hid P1
  have P2 := Lib.hid P2
  have P3 := Lib.hid P3
  have P4 := Lib.hid P4
  go_enter Try.func5, Try.ntmps5
  go_wp2_with fail
  refine (HX.out _).mono ?_; rintro r u1 ⟨rfl, hb1⟩
  have hz1 : w.heap.size + 1 < u1.heap.size := by have := hb1.size; simp at this; omega
  have R1 := (RowE.new (w.alloc (.cells #[.int .i64 E0.size, .int .i64 E0.ctx, .int .u64 E0.va, .int .u64 E0.pa, .bool E0.att.write, .bool E0.att.priv, .bool E0.att.exec, .bool E0.att.lock, .bool E0.att.global, .bool E0.att.quiet, .bool E0.valid] 33)) E1).below hb1 (by simp)
  rw [World.size_alloc] at R1
  have B1 := (((Below.refl _ _).alloc (Nat.le_refl _) (.cells #[.int .i64 E0.size, .int .i64 E0.ctx, .int .u64 E0.va, .int .u64 E0.pa, .bool E0.att.write, .bool E0.att.priv, .bool E0.att.exec, .bool E0.att.lock, .bool E0.att.global, .bool E0.att.quiet, .bool E0.valid] 33)).alloc (by simp) (.cells #[.int .i64 E1.size, .int .i64 E1.ctx, .int .u64 E1.va, .int .u64 E1.pa, .bool E1.att.write, .bool E1.att.priv, .bool E1.att.exec, .bool E1.att.lock, .bool E1.att.global, .bool E1.att.quiet, .bool E1.valid] 33) : Below w.heap.size w _).trans (hb1.mono (by simp; omega))
  obtain ⟨e0, e1, e2, e3, e4, e5, e6, e7, e8, e9, e10⟩ := R1.cells
  clear hb1 HX
  go_wp2_with fail
  refine (HY.out _).mono ?_; rintro r u2 ⟨rfl, hb2⟩
  have X2 := (RowE.new u1 x).below hb2 (by simp)
  have hz2 : u1.heap.size < u2.heap.size := by have := hb2.size; simp at this; omega
  have B2 := (B1.alloc B1.size (.cells #[.int .i64 x.size, .int .i64 x.ctx, .int .u64 x.va, .int .u64 x.pa, .bool x.att.write, .bool x.att.priv, .bool x.att.exec, .bool x.att.lock, .bool x.att.global, .bool x.att.quiet, .bool x.valid] 33)).trans (hb2.mono (by have := B1.size; simp; omega))
  clear hb2 HY B1 R1 e0 e1 e2 e3 e4 e5 e6 e7 e8 e9 e10 hz1
  obtain ⟨x0, x1, x2, x3, x4, x5, x6, x7, x8, x9, x10⟩ := X2.cells
  go_wp2_with fail
  refine (P1.out _).mono ?_; rintro r u3 ⟨rfl, hb3⟩
  have X3 := (X2.alloc (.cells #[.int .i64 y.size, .int .i64 y.ctx, .int .u64 y.va, .int .u64 y.pa, .bool y.att.write, .bool y.att.priv, .bool y.att.exec, .bool y.att.lock, .bool y.att.global, .bool y.att.quiet, .bool y.valid] 33) hz2).below hb3 (by simp; omega)
  have Y3 := (RowE.new u2 y).below hb3 (by simp)
  have B3 := (B2.alloc B2.size (.cells #[.int .i64 y.size, .int .i64 y.ctx, .int .u64 y.va, .int .u64 y.pa, .bool y.att.write, .bool y.att.priv, .bool y.att.exec, .bool y.att.lock, .bool y.att.global, .bool y.att.quiet, .bool y.valid] 33)).trans (hb3.mono (by have := B2.size; simp; omega))
  clear hb3 X2 B2 P1 x0 x1 x2 x3 x4 x5 x6 x7 x8 x9 x10
  generalize u1.heap.size = bx at *
  generalize u2.heap.size = by' at *
  obtain ⟨x0, x1, x2, x3, x4, x5, x6, x7, x8, x9, x10⟩ := X3.cells
  obtain ⟨y0, y1, y2, y3, y4, y5, y6, y7, y8, y9, y10⟩ := Y3.cells
  go_wp2_with fail
  refine (P2.out _).mono ?_; rintro r u4 ⟨rfl, hb4⟩
  have X4 := X3.below hb4 X3.lt
  have Y4 := Y3.below hb4 Y3.lt
  have B4 := B3.trans (hb4.mono B3.size)
  clear hb4 X3 Y3 B3 P2 x0 x1 x2 x3 x4 x5 x6 x7 x8 x9 x10 y0 y1 y2 y3 y4 y5 y6 y7 y8 y9 y10
  obtain ⟨x0, x1, x2, x3, x4, x5, x6, x7, x8, x9, x10⟩ := X4.cells
  obtain ⟨y0, y1, y2, y3, y4, y5, y6, y7, y8, y9, y10⟩ := Y4.cells
  go_wp2_with fail
  refine (P3.out _).mono ?_; rintro r u5 ⟨rfl, hb5⟩
  have X5 := X4.below hb5 X4.lt
  have Y5 := Y4.below hb5 Y4.lt
  have B5 := B4.trans (hb5.mono B4.size)
  clear hb5 X4 Y4 B4 P3 x0 x1 x2 x3 x4 x5 x6 x7 x8 x9 x10 y0 y1 y2 y3 y4 y5 y6 y7 y8 y9 y10
  obtain ⟨x0, x1, x2, x3, x4, x5, x6, x7, x8, x9, x10⟩ := X5.cells
  obtain ⟨y0, y1, y2, y3, y4, y5, y6, y7, y8, y9, y10⟩ := Y5.cells
  go_wp2_with fail
  refine (P4.out _).mono ?_; rintro r u6 ⟨rfl, hb6⟩
  have X6 := X5.below hb6 X5.lt
  have Y6 := Y5.below hb6 Y5.lt
  have B6 := B5.trans (hb6.mono B5.size)
  clear hb6 X5 Y5 B5 P4 x0 x1 x2 x3 x4 x5 x6 x7 x8 x9 x10 y0 y1 y2 y3 y4 y5 y6 y7 y8 y9 y10
  obtain ⟨x0, x1, x2, x3, x4, x5, x6, x7, x8, x9, x10⟩ := X6.cells
  obtain ⟨y0, y1, y2, y3, y4, y5, y6, y7, y8, y9, y10⟩ := Y6.cells
  have lx := X6.lt
  have ly := Y6.lt
  have PQ0 : PQ w ((u6.alloc (.cells #[.int .u64 x.va, .int .u64 y.va] 29)).alloc (.cells #[.int .i64 x.ctx, .int .i64 y.ctx] 3)) bx u6.heap.size (u6.heap.size + 1) by' x y :=
    ⟨(B6.alloc B6.size _).alloc (by have := B6.size; simp; omega) _, (X6.alloc _ lx).alloc _ (by simp; omega), (Y6.alloc _ ly).alloc _ (by simp; omega),
      (Below.heap_alloc _ _ _ (by simp)).trans (heap_alloc_new _ _), by have := heap_alloc_new (u6.alloc (.cells #[.int .u64 x.va, .int .u64 y.va] 29)) (.cells #[.int .i64 x.ctx, .int .i64 y.ctx] 3); simpa using this⟩
  clear X6 Y6 B6 hox hoy
  go_wp2_with fail
  generalize World.alloc (World.alloc u6 _) _ = u7 at PQ0 ⊢
  generalize u6.heap.size = b1 at PQ0 ⊢
  clear x0 x1 x2 x3 x4 x5 x6 x7 x8 x9 x10 y0 y1 y2 y3 y4 y5 y6 y7 y8 y9 y10 lx ly hz2
  obtain ⟨b2, hb2⟩ : ∃ b2, b1 + 1 = b2 := ⟨_, rfl⟩
  rw [hb2] at PQ0 ⊢
  clear hb2
  go_loopw [8, 11] (fun v i wr => ∃ j : Nat, j ≤ 2 ∧ i = .int .i64 (j : Int) ∧ v = .bool (orN (hitF x y) (2 * j)) ∧ PQ w wr bx b1 b2 by' x y) (fun _ i _ => 2 - (intOf i).toNat)
  case atStart => exact ⟨0, by omega, rfl, rfl, PQ0⟩
  case round =>
    clear PQ0
    obtain ⟨j, hj, rfl, rfl, hP⟩ := hrel
    by_cases hlt : j < 2
    · have hlt' : (j : Int) < 2 := by omega
      go_wp2_with fail
      go_loopw [8, 12] (fun v i wr => ∃ k : Nat, k ≤ 2 ∧ i = .int .i64 (k : Int) ∧ v = .bool (orN (hitF x y) (2 * j + k)) ∧ PQ w wr bx b1 b2 by' x y) (fun _ i _ => 2 - (intOf i).toNat)
      case atStart => exact ⟨0, by omega, rfl, rfl, hP⟩
      case round =>
        clear hP
        obtain ⟨k, hk, rfl, rfl, hP⟩ := hrel
        by_cases hlk : k < 2
        · have hlk' : (k : Int) < 2 := by omega
          have hv := two_bd xv0 xv1 yv0 yv1 j
          have C1 := Lib.hid (fun W => rhits_any x (two x.va y.va j) (two x.ctx y.ctx k) xv0 xv1 hv.1 hv.2 W)
          have C2 := Lib.hid (fun W => rhits_any y (two x.va y.va j) (two x.ctx y.ctx k) yv0 yv1 hv.1 hv.2 W)
          have HA := Lib.hid (show orN (hitF x y) (2 * j + (k + 1)) = (orN (hitF x y) (2 * j + k) || _) from by rw [← Nat.add_assoc]; show (orN (hitF x y) (2 * j + k) || hitF x y (2 * j + k)) = _; rw [hitF_at x y hlk])
          have cv := hP.cv hlt
          have cc := hP.cc hlk
          have hA1 : (⟨b1, 0, none⟩ : Addr).add j = ⟨b1, j, none⟩ := by unfold Addr.add; split <;> simp_all
          have hA2 : (⟨b2, 0, none⟩ : Addr).add k = ⟨b2, k, none⟩ := by unfold Addr.add; split <;> simp_all
          clear cv cc
          have hsx := hP.sx hlt hlk
          generalize x.hitsB (two x.va y.va j) (two x.ctx y.ctx k) = A at *
          generalize y.hitsB (two x.va y.va j) (two x.ctx y.ctx k) = B at *
          generalize orN (hitF x y) (2 * j + k) = O at *
          go_wp2_with fail
          go_cut [13] (fun p wx => p = .bool A ∧ PQ w wx bx b1 b2 by' x y)
          case first =>
            go_region_held3 (fun w1 => w1.cell? ⟨bx, 0, none⟩ = some (.int .i64 x.size) ∧ w1.cell? ⟨bx, 1, none⟩ = some (.int .i64 x.ctx) ∧ w1.cell? ⟨bx, 2, none⟩ = some (.int .u64 x.va) ∧ w1.cell? ⟨bx, 3, none⟩ = some (.int .u64 x.pa) ∧ w1.cell? ⟨bx, 4, none⟩ = some (.bool x.att.write) ∧ w1.cell? ⟨bx, 5, none⟩ = some (.bool x.att.priv) ∧ w1.cell? ⟨bx, 6, none⟩ = some (.bool x.att.exec) ∧ w1.cell? ⟨bx, 7, none⟩ = some (.bool x.att.lock) ∧ w1.cell? ⟨bx, 8, none⟩ = some (.bool x.att.global) ∧ w1.cell? ⟨bx, 9, none⟩ = some (.bool x.att.quiet) ∧ w1.cell? ⟨bx, 10, none⟩ = some (.bool x.valid) ∧ w1.cell? ⟨b1, j, none⟩ = some (.int .u64 (two x.va y.va j)) ∧ w1.cell? ⟨b2, k, none⟩ = some (.int .i64 (two x.ctx y.ctx k))) ((refine PQ.sx (w := w) (by' := by') hlt hlk ?_; (repeat (first | (with_reducible assumption) | (with_reducible refine PQ.drew ?_) | (with_reducible refine PQ.low ?_ (by assumption))))))
              ((go_at_call 16; (with_reducible refine (C1.out _).mono ?_); rintro r w' ⟨rfl, hb⟩))
            all_goals
              go_wp2_with fail
              go_meet
              refine ⟨rfl, ?_⟩; (repeat (first | (with_reducible assumption) | (with_reducible refine PQ.drew ?_) | (with_reducible refine PQ.low ?_ (by assumption))))
          case rest =>
            obtain ⟨rfl, hP2⟩ := hcut
            clear hP hsx
            have hsy := hP2.sy hlt hlk
            go_wp2_with fail
            go_cut [14] (fun p wx => p = .bool B ∧ PQ w wx bx b1 b2 by' x y)
            case first =>
              go_region_held3 (fun w1 => w1.cell? ⟨by', 0, none⟩ = some (.int .i64 y.size) ∧ w1.cell? ⟨by', 1, none⟩ = some (.int .i64 y.ctx) ∧ w1.cell? ⟨by', 2, none⟩ = some (.int .u64 y.va) ∧ w1.cell? ⟨by', 3, none⟩ = some (.int .u64 y.pa) ∧ w1.cell? ⟨by', 4, none⟩ = some (.bool y.att.write) ∧ w1.cell? ⟨by', 5, none⟩ = some (.bool y.att.priv) ∧ w1.cell? ⟨by', 6, none⟩ = some (.bool y.att.exec) ∧ w1.cell? ⟨by', 7, none⟩ = some (.bool y.att.lock) ∧ w1.cell? ⟨by', 8, none⟩ = some (.bool y.att.global) ∧ w1.cell? ⟨by', 9, none⟩ = some (.bool y.att.quiet) ∧ w1.cell? ⟨by', 10, none⟩ = some (.bool y.valid) ∧ w1.cell? ⟨b1, j, none⟩ = some (.int .u64 (two x.va y.va j)) ∧ w1.cell? ⟨b2, k, none⟩ = some (.int .i64 (two x.ctx y.ctx k))) ((refine PQ.sy (w := w) (bx := bx) hlt hlk ?_; (repeat (first | (with_reducible assumption) | (with_reducible refine PQ.drew ?_) | (with_reducible refine PQ.low ?_ (by assumption))))))
                ((go_at_call 16; (with_reducible refine (C2.out _).mono ?_); rintro r w' ⟨rfl, hb⟩))
              all_goals
                go_wp2_with fail
                go_meet
                refine ⟨rfl, ?_⟩; (repeat (first | (with_reducible assumption) | (with_reducible refine PQ.drew ?_) | (with_reducible refine PQ.low ?_ (by assumption))))
            case rest =>
              obtain ⟨rfl, hP3⟩ := hcut
              clear hP2 hsy
              cases O
              · cases A
                · go_wp2_with fail
                  go_roundw
                  case rel => exact ⟨k + 1, by omega, by go_num, by rw [HA.out]; rfl, hP3⟩
                  case measure => simp [intOf]; omega
                · go_wp2_with fail
                  go_roundw
                  case rel => exact ⟨k + 1, by omega, by go_num, by rw [HA.out]; rfl, hP3⟩
                  case measure => simp [intOf]; omega
              · go_wp2_with fail
                go_roundw
                case rel => exact ⟨k + 1, by omega, by go_num, by rw [HA.out]; rfl, hP3⟩
                case measure => simp [intOf]; omega
        · obtain rfl : k = 2 := by omega
          go_wp2_with fail
          go_roundw
          case rel => exact ⟨j + 1, by omega, by go_num, rfl, hP⟩
          case measure => simp [intOf]; omega
    · obtain rfl : j = 2 := by omega
      have HO2 : orN (hitF x y) (2 * 2) = !P := HO.out
      rw [HO2]
      clear HO HO2
      cases P
      · go_wp2_with fail
        refine (HLV.out _).mono ?_; rintro r u9 ⟨rfl, hb9⟩
        go_wp2_with fail
        go_ret
        exact ⟨rfl, (hP.low hb9).bel⟩
      · go_wp2_with fail
        refine (HLV.out _).mono ?_; rintro r u9 ⟨rfl, hb9⟩
        go_wp2_with fail
        go_ret
        exact ⟨rfl, (hP.low hb9).bel⟩

/-! ### The row -/
set_option maxRecDepth 100000 in
theorem lifted (os : Os) (started : os.Started) (H : Type) (enc : TypeId × Value → H) :
    ReturnsInHanded {} Try.checked os 5 .any (Rows.tlbPartsSpec.pre6 enc Try.prog Try.f5 Rows.tlbPartsRow.domain false) (Rows.tlbPartsSpec.post enc Try.prog Try.f5 false true false false) := by
  refine returnsInHanded_of_change (C := Try.checked) own started (by kernel_rfl) Try.func5
    (ChangeSpec.witness6 (enc := enc) (C := Try.checked) false ⟨#[], #[.agg #[.int .i64 0, .int .i64 0, .int .u64 0, .int .u64 0, .bool false, .bool false, .bool false, .bool false, .bool false, .bool false, .bool false], .agg #[.int .i64 0, .int .i64 0, .int .u64 0, .int .u64 0, .bool false, .bool false, .bool false, .bool false, .bool false, .bool false, .bool false]], []⟩ 8 (by kernel_rfl) (by kernel_rfl) (by kernel_rfl) (by kernel_rfl)) ?_
  intro W base args ds gs before hval0 hW hcnd _
  have hval : ∀ (j : Nat) t v, Try.f5.params[j]? = some t → args[j]? = some v → Value.okWide Try.prog W .any base t v := hval0
  have hW' := hW
  obtain ⟨p, q, hA0, hV, rfl, hfz, hnd⟩ := hW
  have hA : DataW.TrodAll enc Try.prog W 0 (fun _ => true) true Try.f5.params.toList args.toList ds p := hA0
  rw [Try.params5] at hA hval
  obtain ⟨v0, vs0, d0, ds0, p0, q0, hargs, rfl, rfl, h0, r0⟩ := trodAll_cons hA
  obtain ⟨v1, vs1, d1, ds1, p1, q1, rfl, rfl, rfl, h1, r1⟩ := trodAll_cons r0
  obtain ⟨rfl, rfl, rfl⟩ := trodAll_nil r1
  obtain rfl : args = #[v0, v1] := by cases args; simp_all
  obtain ⟨rfl, rfl⟩ := trodVars_none hV
  obtain ⟨E0, rfl, rfl, rfl, l0⟩ := open_entry (hval 0 33 v0 rfl rfl) h0
  obtain ⟨E1, rfl, rfl, rfl, l1⟩ := open_entry (hval 1 33 v1 rfl rfl) h1
  clear hA0 hval0
  simp only [List.append_nil] at hW'
  refine (walk W E0 l0 E1 l1).mono fun e W' ⟨he, hg⟩ => ?_
  subst he
  exact ⟨_, rfl, _, _, _, [], _, [], hW', trodAll_mk1 (shut_bool Try.underlying4 _), (trodAll_cons_mk (shut_entry l0) (trodAll_cons_mk (shut_entry l1) trodAll_mk0)), rfl, hg.frame _, fun h => by cases h⟩

theorem over : Rows.tlbPartsRow.holds Try.pinned (OpenSpec.ofChange Rows.tlbPartsSpec) :=
  OpenClaim.holds_of_wide 5 Try.f5 rfl rfl rfl rfl rfl rfl rfl ⟨rfl, rfl, rfl, rfl, rfl⟩ rfl rfl rfl rfl rfl (by kernel_rfl) Try.func5 (by kernel_rfl)
    (of_decide_eq_true (by kernel_rfl)) (by unfold Func.isWrapper; first | (rw [if_pos (by decide +kernel)]; kernel_rfl) | (rw [if_neg (by decide +kernel)]; exact ⟨rfl, rfl⟩))
    (fun os started H enc _ => lifted os started H enc)

theorem proved : Rows.TlbPartsSaid :=
  over
#print axioms proved
end Go.Proofs.Ytbhpljjogmagoaa.tlbParts
