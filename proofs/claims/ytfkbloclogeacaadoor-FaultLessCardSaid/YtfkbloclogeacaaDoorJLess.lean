/-
  Contracts of package fault's Less, and of the document's. Conditions: none.
-/
import Derived.Test.YtfkbloclogeacaaDoorJOf
import Derived.Deep.LoopGhost
namespace Go.Proofs.YtfkbloclogeacaaDoor.Jd
open Fld
open Go.ChangeShapes Go.WideShapes Go.ChangeAt Go.RowKit
set_option maxHeartbeats 2000000
set_option maxRecDepth 100000
/-- Of the world w only what is new has turned; the attributes a and b stand in its first two new blocks. -/
structure Two (w wr : World) (a b : Att) : Prop where
  below : Below w.heap.size w wr
  ra : wr.heap[w.heap.size]? = some (.cells #[.bool a.write, .bool a.priv, .bool a.exec, .bool a.lock, .bool a.global, .bool a.quiet] 23 (0, 0))
  rb : wr.heap[w.heap.size + 1]? = some (.cells #[.bool b.write, .bool b.priv, .bool b.exec, .bool b.lock, .bool b.global, .bool b.quiet] 23 (0, 0))
theorem row_lt {w : World} {b : Nat} {o : Obj} (h : w.heap[b]? = some o) : b < w.heap.size := (Array.getElem?_eq_some_iff.1 h).1
theorem Two.lt {w wr : World} {a b : Att} (h : Two w wr a b) : w.heap.size + 1 < wr.heap.size := row_lt h.rb
theorem Two.call {w wr w2 : World} {a b : Att} (h : Two w wr a b) (hb : Below wr.heap.size wr w2) : Two w w2 a b :=
  ⟨h.below.trans (hb.mono h.below.size), (hb.block _ (row_lt h.ra)).trans h.ra, (hb.block _ (row_lt h.rb)).trans h.rb⟩
theorem Two.alloc {w wr : World} {a b : Att} (h : Two w wr a b) (o : Obj) : Two w (wr.alloc o) a b := h.call ((Below.refl _ _).alloc (Nat.le_refl _) o)
theorem Two.start (w : World) (a b : Att) : Two w ((w.alloc (.cells #[.bool a.write, .bool a.priv, .bool a.exec, .bool a.lock, .bool a.global, .bool a.quiet] 23)).alloc (.cells #[.bool b.write, .bool b.priv, .bool b.exec, .bool b.lock, .bool b.global, .bool b.quiet] 23)) a b :=
  ⟨((Below.refl _ _).alloc (Nat.le_refl _) _).alloc (by simp) _, (Below.heap_alloc _ _ _ (by simp)).trans (heap_alloc_new _ _), heap_alloc2_new _ _ _⟩
theorem six_cells {w : World} {g : Nat} {t : TypeId} {x0 x1 x2 x3 x4 x5 : Value} (h : w.heap[g]? = some (.cells #[x0, x1, x2, x3, x4, x5] t (0, 0))) :
    w.cell? ⟨g, 0, none⟩ = some x0 ∧ w.cell? ⟨g, 1, none⟩ = some x1 ∧ w.cell? ⟨g, 2, none⟩ = some x2 ∧ w.cell? ⟨g, 3, none⟩ = some x3 ∧ w.cell? ⟨g, 4, none⟩ = some x4 ∧ w.cell? ⟨g, 5, none⟩ = some x5 :=
  ⟨cell_of_row _ _ 0 _ _ _ h, cell_of_row _ _ 1 _ _ _ h, cell_of_row _ _ 2 _ _ _ h, cell_of_row _ _ 3 _ _ _ h, cell_of_row _ _ 4 _ _ _ h, cell_of_row _ _ 5 _ _ _ h⟩
theorem three_cells {w : World} {g : Nat} {t : TypeId} {x0 x1 x2 : Value} (h : w.heap[g]? = some (.cells #[x0, x1, x2] t (0, 0))) :
    w.cell? ⟨g, 0, none⟩ = some x0 ∧ w.cell? ⟨g, 1, none⟩ = some x1 ∧ w.cell? ⟨g, 2, none⟩ = some x2 :=
  ⟨cell_of_row _ _ 0 _ _ _ h, cell_of_row _ _ 1 _ _ _ h, cell_of_row _ _ 2 _ _ _ h⟩
theorem lets_at (a : Att) (k : Int) (p : Bool) (W : World) :
    Calls Tryd.prog 34 #[.agg #[.bool a.write, .bool a.priv, .bool a.exec, .bool a.lock, .bool a.global, .bool a.quiet], .agg #[.int .i64 k, .bool p, .int .u64 0]] W fun e w' => e = .returned (.bool (letsB a ⟨k, p, 0⟩)) ∧ Below W.heap.size W w' := lets_any a ⟨k, p, 0⟩ W
theorem rjudge_at (a : Att) (k : Int) (p : Bool) (W : World) :
    Calls Tryd.prog 12 #[.agg #[.bool a.write, .bool a.priv, .bool a.exec, .bool a.lock, .bool a.global, .bool a.quiet], .agg #[.int .i64 k, .bool p, .int .u64 0]] W fun e w' => e = .returned (.int .i64 (judgeI a ⟨k, p, 0⟩)) ∧ Below W.heap.size W w' := rjudge_any a ⟨k, p, 0⟩ W
theorem index_two (j : Nat) (h : j < 2) : ∃ p : Bool, ((j = 0 ∧ p = false) ∨ (j = 1 ∧ p = true)) ∧ ∀ W, (Instr.index 55 (.agg #[.bool false, .bool true]) (.int .i64 (j : Int))).run Tryd.prog W = .ok (.bool p) W := by
  have : j = 0 ∨ j = 1 := by omega
  rcases this with rfl | rfl
  · exact ⟨false, .inl ⟨rfl, rfl⟩, fun W => by kernel_rfl⟩
  · exact ⟨true, .inr ⟨rfl, rfl⟩, fun W => by kernel_rfl⟩
/-- Of the kinds below k, and of kind k by q kinds of those who ask, no access is let be by a alone. -/
def Upto (a b : Att) (k q : Nat) : Prop := (∀ j : Nat, j < k → ∀ p : Bool, letsB a ⟨(j : Int), p, 0⟩ = true → letsB b ⟨(j : Int), p, 0⟩ = true) ∧ (0 < q → letsB a ⟨(k : Int), false, 0⟩ = true → letsB b ⟨(k : Int), false, 0⟩ = true) ∧ (1 < q → letsB a ⟨(k : Int), true, 0⟩ = true → letsB b ⟨(k : Int), true, 0⟩ = true)
theorem Upto.zero (a b : Att) : Upto a b 0 0 := ⟨fun j h => absurd h (Nat.not_lt_zero j), fun h => absurd h (by omega), fun h => absurd h (by omega)⟩
theorem Upto.next {a b : Att} {k : Nat} (h : Upto a b k 2) : Upto a b (k + 1) 0 :=
  ⟨fun j hj p => by
    by_cases e : j = k
    · subst e; cases p
      · exact h.2.1 (by omega)
      · exact h.2.2 (by omega)
    · exact h.1 j (by omega) p, fun h => absurd h (by omega), fun h => absurd h (by omega)⟩
theorem Upto.more {a b : Att} {k q : Nat} {p : Bool} (h : Upto a b k q) (hp : (q = 0 ∧ p = false) ∨ (q = 1 ∧ p = true)) (hl : letsB a ⟨(k : Int), p, 0⟩ = true → letsB b ⟨(k : Int), p, 0⟩ = true) : Upto a b k (q + 1) := by
  rcases hp with ⟨rfl, rfl⟩ | ⟨rfl, rfl⟩
  · exact ⟨h.1, fun _ => hl, fun h => absurd h (by omega)⟩
  · exact ⟨h.1, fun _ => h.2.1 (by omega), fun _ => hl⟩
theorem Upto.all {a b : Att} (h : Upto a b 4 0) : lessB a b = true := (less_iff a b).2 h.1
theorem less_any (a b : Att) (w : World) :
    Calls Tryd.prog 24 #[.agg #[.bool a.write, .bool a.priv, .bool a.exec, .bool a.lock, .bool a.global, .bool a.quiet], .agg #[.bool b.write, .bool b.priv, .bool b.exec, .bool b.lock, .bool b.global, .bool b.quiet]] w fun e w' => e = .returned (.bool (lessB a b)) ∧ Below w.heap.size w w' := by
  have HN := Lib.hid (fun k hk p h1 h2 => less_no (a := a) (b := b) (k := k) hk (p := p) h1 h2)
  have HA := Lib.hid (fun h => Upto.all (a := a) (b := b) h)
  have S0 := Two.start w a b
  generalize lessB a b = R at *
  go_enter Tryd.func24, Tryd.ntmps24
  go_wp2_with fail
  generalize World.alloc (World.alloc w _) _ = w0 at S0 ⊢
  go_loopg [9] 4 (fun gk i wr => ∃ k : Nat, k + gk = 4 ∧ i = .int .i64 (k : Int) ∧ Hid (Upto a b k 0) ∧ Two w wr a b)
  case atStart => exact ⟨0, rfl, rfl, Lib.hid (Upto.zero a b), S0⟩
  case round =>
    clear S0
    obtain ⟨k, hk, rfl, U0, K0⟩ := hrel
    by_cases hlt : k < 4
    · have hlt' : (k : Int) < 4 := by omega
      obtain ⟨wo, rfl⟩ : ∃ wo : World, wo = wr := ⟨_, rfl⟩
      go_wp2_with fail
      go_loopg [13] 2 (fun gj i wr => ∃ j : Nat, j + gj = 2 ∧ i = .int .i64 (j : Int) ∧ Hid (Upto a b k j) ∧ Two w wr a b)
      case atStart => exact ⟨0, rfl, rfl, U0, K0⟩
      case round =>
        clear U0 K0
        obtain ⟨j, hj, rfl, U1, K1⟩ := hrel
        by_cases hjt : j < 2
        · have hjt' : (j : Int) < 2 := by omega
          obtain ⟨p, hp, hix⟩ := index_two j hjt
          have HP := Lib.hid hp
          clear hp
          have K2 := K1.alloc (.cells #[.int .i64 (k : Int), .bool p, .int .u64 0] 28)
          have X2 := heap_alloc_new wr (.cells #[.int .i64 (k : Int), .bool p, .int .u64 0] 28)
          obtain ⟨a0, a1, a2, a3, a4, a5⟩ := six_cells K1.ra
          have lt := K1.lt
          have lt0 := row_lt K1.ra
          have C1 := Lib.hid (fun W => lets_at a (k : Int) p W)
          have C2 := Lib.hid (fun W => lets_at b (k : Int) p W)
          cases L1 : letsB a ⟨(k : Int), p, 0⟩
          · rw [L1] at C1
            have U2 := Lib.hid (U1.out.more HP.out (fun h => by rw [L1] at h; cases h))
            go_wp2_with fail
            refine (C1.out _).mono ?_; rintro e w2 ⟨rfl, hb⟩
            have K3 := K2.call hb
            go_wp2_with fail
            go_roundg (2 - j - 1)
            case measure => omega
            case rel => exact ⟨j + 1, by omega, by go_num, U2, K3⟩
          · rw [L1] at C1
            go_wp2_with fail
            refine (C1.out _).mono ?_; rintro e w2 ⟨rfl, hb⟩
            have K3 := K2.call hb
            clear a0 a1 a2 a3 a4 a5
            obtain ⟨b0, b1, b2, b3, b4, b5⟩ := six_cells K3.rb
            obtain ⟨x0, x1, x2⟩ := three_cells ((hb.block _ (row_lt X2)).trans X2)
            cases L2 : letsB b ⟨(k : Int), p, 0⟩
            · rw [L2] at C2
              have E := Lib.hid (HN.out k hlt p L1 L2)
              go_wp2_with fail
              refine (C2.out _).mono ?_; rintro e w3 ⟨rfl, hb2⟩
              go_wp2_with fail
              try simp only [Exit.inBlock, Exit.then]
              go_ret
              exact ⟨ret_bool E.out.symm, (K3.call hb2).below⟩
            · rw [L2] at C2
              have U2 := Lib.hid (U1.out.more HP.out (fun _ => L2))
              go_wp2_with fail
              refine (C2.out _).mono ?_; rintro e w3 ⟨rfl, hb2⟩
              go_wp2_with fail
              go_roundg (2 - j - 1)
              case measure => omega
              case rel => exact ⟨j + 1, by omega, by go_num, U2, K3.call hb2⟩
        · obtain rfl : j = 2 := by omega
          have U2 := Lib.hid U1.out.next
          go_wp2_with fail
          go_roundg (4 - k - 1)
          case measure => omega
          case rel => exact ⟨k + 1, by omega, by go_num, U2, K1⟩
    · obtain rfl : k = 4 := by omega
      go_wp2_with fail
      go_ret
      exact ⟨ret_bool (HA.out U0.out).symm, K0.below⟩
end Go.Proofs.YtfkbloclogeacaaDoor.Jd
