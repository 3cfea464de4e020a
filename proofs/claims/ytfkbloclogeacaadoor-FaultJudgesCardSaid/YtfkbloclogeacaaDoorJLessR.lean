/-
  The contract of the document's Less. Conditions: none.
-/
import Derived.Test.YtfkbloclogeacaaDoorJLess
namespace Go.Proofs.YtfkbloclogeacaaDoor.Jd
open Fld
open Go.ChangeShapes Go.WideShapes Go.ChangeAt Go.RowKit
set_option maxHeartbeats 2000000
set_option maxRecDepth 100000
/-- Beside the attributes two accesses of a kind, the one not by the system, the other by it. -/
structure Four (w wr : World) (a b : Att) (xb : Nat) (k : Int) : Prop where
  two : Two w wr a b
  rx : wr.heap[xb]? = some (.cells #[.int .i64 k, .bool false, .int .u64 0] 28 (0, 0))
  ry : wr.heap[xb + 1]? = some (.cells #[.int .i64 k, .bool true, .int .u64 0] 28 (0, 0))
theorem Four.call {w wr w2 : World} {a b : Att} {xb : Nat} {k : Int} (h : Four w wr a b xb k) (hb : Below wr.heap.size wr w2) : Four w w2 a b xb k :=
  ⟨h.two.call hb, (hb.block _ (row_lt h.rx)).trans h.rx, (hb.block _ (row_lt h.ry)).trans h.ry⟩
theorem Four.start {w wr : World} {a b : Att} (h : Two w wr a b) (k : Int) : Four w ((wr.alloc (.cells #[.int .i64 k, .bool false, .int .u64 0] 28)).alloc (.cells #[.int .i64 k, .bool true, .int .u64 0] 28)) a b wr.heap.size k :=
  ⟨(h.alloc _).alloc _, (Below.heap_alloc _ _ _ (by simp)).trans (heap_alloc_new _ _), heap_alloc2_new _ _ _⟩
theorem lets_of {a : Att} {x : Acc} (h : judgeI a x = 0) : letsB a x = true := by unfold letsB; rw [h]; rfl
theorem lets_no {a : Att} {x : Acc} (h : ¬ judgeI a x = 0) : letsB a x = false := by unfold letsB; simpa using h
theorem rless_any (a b : Att) (w : World) :
    Calls Tryd.prog 25 #[.agg #[.bool a.write, .bool a.priv, .bool a.exec, .bool a.lock, .bool a.global, .bool a.quiet], .agg #[.bool b.write, .bool b.priv, .bool b.exec, .bool b.lock, .bool b.global, .bool b.quiet]] w fun e w' => e = .returned (.bool (lessB a b)) ∧ Below w.heap.size w w' := by
  have HN := Lib.hid (fun k hk p h1 h2 => less_no (a := a) (b := b) (k := k) hk (p := p) h1 h2)
  have HA := Lib.hid (fun h => Upto.all (a := a) (b := b) h)
  have S0 := Two.start w a b
  generalize lessB a b = R at *
  go_enter Tryd.func25, Tryd.ntmps25
  go_wp2_with fail
  generalize World.alloc (World.alloc w _) _ = w0 at S0 ⊢
  go_loopg [5] 4 (fun gk i wr => ∃ k : Nat, k + gk = 4 ∧ i = .int .i64 (k : Int) ∧ Hid (Upto a b k 0) ∧ Two w wr a b)
  case atStart => exact ⟨0, rfl, rfl, Lib.hid (Upto.zero a b), S0⟩
  case round =>
    clear S0
    obtain ⟨k, hk, rfl, U0, K0⟩ := hrel
    by_cases hlt : k < 4
    · have hlt' : (k : Int) < 4 := by omega
      obtain ⟨a0, a1, a2, a3, a4, a5⟩ := six_cells K0.ra
      have lt := K0.lt
      have lt0 := row_lt K0.ra
      have F0 := Four.start K0 (k : Int)
      have C1 := Lib.hid (fun W => rjudge_at a (k : Int) false W)
      have C2 := Lib.hid (fun W => rjudge_at b (k : Int) false W)
      have C3 := Lib.hid (fun W => rjudge_at a (k : Int) true W)
      have C4 := Lib.hid (fun W => rjudge_at b (k : Int) true W)
      go_wp2_with fail
      refine (C1.out _).mono ?_; rintro e w1 ⟨rfl, hb⟩
      have F1 := F0.call hb
      clear a0 a1 a2 a3 a4 a5 hb
      obtain ⟨a0, a1, a2, a3, a4, a5⟩ := six_cells F1.two.ra
      obtain ⟨b0, b1, b2, b3, b4, b5⟩ := six_cells F1.two.rb
      obtain ⟨x0, x1, x2⟩ := three_cells F1.rx
      obtain ⟨y0, y1, y2⟩ := three_cells F1.ry
      by_cases h1 : judgeI a ⟨(k : Int), false, 0⟩ = 0
      · have H1 := Lib.hid h1
        go_wp2_with fail
        refine (C2.out _).mono ?_; rintro e w2 ⟨rfl, hb⟩
        have F2 := F1.call hb
        clear a0 a1 a2 a3 a4 a5 b0 b1 b2 b3 b4 b5 x0 x1 x2 y0 y1 y2 hb
        obtain ⟨a0, a1, a2, a3, a4, a5⟩ := six_cells F2.two.ra
        obtain ⟨b0, b1, b2, b3, b4, b5⟩ := six_cells F2.two.rb
        obtain ⟨x0, x1, x2⟩ := three_cells F2.rx
        obtain ⟨y0, y1, y2⟩ := three_cells F2.ry
        by_cases h2 : judgeI b ⟨(k : Int), false, 0⟩ = 0
        · go_wp2_with fail
          refine (C3.out _).mono ?_; rintro e w3 ⟨rfl, hb⟩
          have F3 := F2.call hb
          clear a0 a1 a2 a3 a4 a5 b0 b1 b2 b3 b4 b5 x0 x1 x2 y0 y1 y2 hb
          obtain ⟨a0, a1, a2, a3, a4, a5⟩ := six_cells F3.two.ra
          obtain ⟨b0, b1, b2, b3, b4, b5⟩ := six_cells F3.two.rb
          obtain ⟨x0, x1, x2⟩ := three_cells F3.rx
          obtain ⟨y0, y1, y2⟩ := three_cells F3.ry
          by_cases h3 : judgeI a ⟨(k : Int), true, 0⟩ = 0
          · have H3 := Lib.hid h3
            go_wp2_with fail
            refine (C4.out _).mono ?_; rintro e w4 ⟨rfl, hb⟩
            have F4 := F3.call hb
            clear a0 a1 a2 a3 a4 a5 b0 b1 b2 b3 b4 b5 x0 x1 x2 y0 y1 y2 hb
            obtain ⟨a0, a1, a2, a3, a4, a5⟩ := six_cells F4.two.ra
            obtain ⟨b0, b1, b2, b3, b4, b5⟩ := six_cells F4.two.rb
            obtain ⟨x0, x1, x2⟩ := three_cells F4.rx
            obtain ⟨y0, y1, y2⟩ := three_cells F4.ry
            by_cases h4 : judgeI b ⟨(k : Int), true, 0⟩ = 0
            · have U2 := Lib.hid (((U0.out.more (.inl ⟨rfl, rfl⟩) (fun _ => lets_of h2)).more (.inr ⟨rfl, rfl⟩) (fun _ => lets_of h4)).next)
              go_wp2_with fail
              go_roundg (4 - k - 1)
              case measure => omega
              case rel => exact ⟨k + 1, by omega, by go_num, U2, F4.two⟩
            · have E := Lib.hid (HN.out k hlt true (lets_of h3) (lets_no h4))
              go_wp2_with fail
              try simp only [Exit.inBlock, Exit.then]
              go_ret
              exact ⟨ret_bool E.out.symm, F4.two.below⟩
          · have U2 := Lib.hid (((U0.out.more (.inl ⟨rfl, rfl⟩) (fun _ => lets_of h2)).more (.inr ⟨rfl, rfl⟩) (fun h => by rw [lets_no h3] at h; cases h)).next)
            go_wp2_with fail
            go_roundg (4 - k - 1)
            case measure => omega
            case rel => exact ⟨k + 1, by omega, by go_num, U2, F3.two⟩
        · have E := Lib.hid (HN.out k hlt false (lets_of h1) (lets_no h2))
          go_wp2_with fail
          try simp only [Exit.inBlock, Exit.then]
          go_ret
          exact ⟨ret_bool E.out.symm, F2.two.below⟩
      · go_wp2_with fail
        refine (C3.out _).mono ?_; rintro e w2 ⟨rfl, hb⟩
        have F2 := F1.call hb
        clear a0 a1 a2 a3 a4 a5 b0 b1 b2 b3 b4 b5 x0 x1 x2 y0 y1 y2 hb
        obtain ⟨a0, a1, a2, a3, a4, a5⟩ := six_cells F2.two.ra
        obtain ⟨b0, b1, b2, b3, b4, b5⟩ := six_cells F2.two.rb
        obtain ⟨x0, x1, x2⟩ := three_cells F2.rx
        obtain ⟨y0, y1, y2⟩ := three_cells F2.ry
        by_cases h3 : judgeI a ⟨(k : Int), true, 0⟩ = 0
        · have H3 := Lib.hid h3
          go_wp2_with fail
          refine (C4.out _).mono ?_; rintro e w3 ⟨rfl, hb⟩
          have F3 := F2.call hb
          clear a0 a1 a2 a3 a4 a5 b0 b1 b2 b3 b4 b5 x0 x1 x2 y0 y1 y2 hb
          obtain ⟨a0, a1, a2, a3, a4, a5⟩ := six_cells F3.two.ra
          obtain ⟨b0, b1, b2, b3, b4, b5⟩ := six_cells F3.two.rb
          obtain ⟨x0, x1, x2⟩ := three_cells F3.rx
          obtain ⟨y0, y1, y2⟩ := three_cells F3.ry
          by_cases h4 : judgeI b ⟨(k : Int), true, 0⟩ = 0
          · have U2 := Lib.hid (((U0.out.more (.inl ⟨rfl, rfl⟩) (fun h => by rw [lets_no h1] at h; cases h)).more (.inr ⟨rfl, rfl⟩) (fun _ => lets_of h4)).next)
            go_wp2_with fail
            go_roundg (4 - k - 1)
            case measure => omega
            case rel => exact ⟨k + 1, by omega, by go_num, U2, F3.two⟩
          · have E := Lib.hid (HN.out k hlt true (lets_of h3) (lets_no h4))
            go_wp2_with fail
            try simp only [Exit.inBlock, Exit.then]
            go_ret
            exact ⟨ret_bool E.out.symm, F3.two.below⟩
        · have U2 := Lib.hid (((U0.out.more (.inl ⟨rfl, rfl⟩) (fun h => by rw [lets_no h1] at h; cases h)).more (.inr ⟨rfl, rfl⟩) (fun h => by rw [lets_no h3] at h; cases h)).next)
          go_wp2_with fail
          go_roundg (4 - k - 1)
          case measure => omega
          case rel => exact ⟨k + 1, by omega, by go_num, U2, F2.two⟩
    · obtain rfl : k = 4 := by omega
      go_wp2_with fail
      go_ret
      exact ⟨ret_bool (HA.out U0.out).symm, K0.below⟩
end Go.Proofs.YtfkbloclogeacaaDoor.Jd
