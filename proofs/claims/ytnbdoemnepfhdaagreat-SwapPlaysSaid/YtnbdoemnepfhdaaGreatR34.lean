/-
  Contracts and plain facts: MClear, MClear2. Conditions: each says its own.
-/
import Derived.Test.YtnbdoemnepfhdaaGreatR33
import Derived.StillTailTactics
namespace Go.Proofs.YtnbdoemnepfhdaaGreat.Mem
open Go.ChangeShapes Go.WideShapes Go.ChangeAt Go.RowKit Go.Maps
set_option maxHeartbeats 400000
/-- The bytes g, without those from a on, n of them. -/
def clr (g : Nat → Nat) (a n : Nat) : Nat → Nat := fun x => if a ≤ x ∧ x < a + n then 0 else g x
/-- .. as far as they are in the words ks. -/
def clrP (g : Nat → Nat) (a n : Nat) (ks : List Nat) : Nat → Nat := fun x => if x - x % 8 ∈ ks ∧ a ≤ x ∧ x < a + n then 0 else g x
theorem clr_lt {g : Nat → Nat} (h : ∀ a, g a < 256) (a n x : Nat) : clr g a n x < 256 := by
  unfold clr; split
  · omega
  · exact h x
theorem Good.clr {S : Nat} {g : Nat → Nat} (h : Good S g) (a n : Nat) : Good S (clr g a n) :=
  ⟨h.le, clr_lt h.lt a n, fun x hx => by unfold Mem.clr; split; rfl; exact h.out x hx⟩
theorem Good.clrP {S : Nat} {g : Nat → Nat} (h : Good S g) (a n : Nat) (ks : List Nat) : Good S (clrP g a n ks) :=
  ⟨h.le, fun x => by unfold Mem.clrP; split; omega; exact h.lt x, fun x hx => by unfold Mem.clrP; split; rfl; exact h.out x hx⟩
theorem clrP_nil (g : Nat → Nat) (a n : Nat) : clrP g a n [] = g := by funext x; simp [clrP]
theorem not_cut {g : Nat → Nat} (h : ∀ a, g a < 256) (a n k : Nat) : notN (word g k) (word (cut g a n) k) = word (clr g a n) k := by
  apply Nat.eq_of_testBit_eq; intro i
  rw [notN_testBit, word_testBit _ h, word_testBit _ (cut_lt h a n), word_testBit _ (clr_lt h a n)]
  unfold cut clr
  by_cases hc : a ≤ k + (7 - i / 8) ∧ k + (7 - i / 8) < a + n
  · rw [if_pos hc, if_pos hc]; simp
  · rw [if_neg hc, if_neg hc]; simp
theorem clrP_word {g : Nat → Nat} {a n k : Nat} {ks : List Nat} (hk : k % 8 = 0) (hn : k ∉ ks) : word (clrP g a n ks) k = word g k :=
  word_ext (fun j hj => by
    unfold clrP
    rw [if_neg]
    rintro ⟨h1, _⟩
    rw [show k + j - (k + j) % 8 = k by omega] at h1; exact hn h1)
theorem clrP_step {g : Nat → Nat} (h : ∀ a, g a < 256) {a n k : Nat} {ks : List Nat} (hk : k % 8 = 0) : setW (clrP g a n ks) k (word (clr g a n) k) = clrP g a n (ks ++ [k]) := by
  funext x
  unfold setW
  by_cases hx : k ≤ x ∧ x < k + 8
  · rw [if_pos hx, byteW_word _ (clr_lt h a n) _ _ (by omega), show k + (x - k) = x by omega]
    unfold clr clrP
    have e : x - x % 8 = k := by omega
    rw [e]; simp
  · rw [if_neg hx]
    unfold clrP
    have e : x - x % 8 ≠ k := by omega
    simp [e]
theorem clrP_all {g : Nat → Nat} (h : ∀ a, g a < 256) {a n : Nat} {P : List (Nat × Nat)} (hP : All g a n P) : clrP g a n (P.map Prod.fst) = clr g a n := by
  funext x
  unfold clrP clr
  by_cases hx : a ≤ x ∧ x < a + n
  · rw [if_pos hx]
    by_cases hm : x - x % 8 ∈ P.map Prod.fst
    · rw [if_pos ⟨hm, hx⟩]
    · rw [if_neg (fun hh => hm hh.1)]
      apply Classical.byContradiction; intro hg
      apply hm
      refine List.mem_map.2 ⟨(x - x % 8, word (cut g a n) (x - x % 8)), (hP.mem _ _).2 ⟨by omega, rfl, fun hz => hg ?_, trivial⟩, rfl⟩
      have := word_zero (cut_lt h a n) hz (x % 8) (by omega)
      rw [show x - x % 8 + x % 8 = x by omega] at this
      unfold cut at this; rw [if_pos hx] at this; exact this
  · rw [if_neg hx, if_neg (fun hh => hx hh.2)]
/-- The cells of piece i. -/
theorem flat_at : ∀ (P : List (Nat × Nat)) (i : Nat) (k b : Nat), P[i]? = some (k, b) → (flat P)[i * 2]? = some (.int .u64 (k : Int)) ∧ (flat P)[i * 2 + 1]? = some (.int .u64 (b : Int))
  | [], i, k, b, h => by simp at h
  | p :: r, 0, k, b, h => by simp at h; subst h; exact ⟨rfl, rfl⟩
  | p :: r, i + 1, k, b, h => by
    have := flat_at r i k b (by simpa using h)
    rw [show (i + 1) * 2 = i * 2 + 1 + 1 by omega]
    simpa [flat] using this
theorem own_turn {w w' : World} {sb bm S B n : Nat} {g : Nat → Nat} {v : Value} {xs : List Value} (ho : w.ownsRow B 133 2 v n xs) (h : MemAt w sb bm S g) (t : Turn w w' sb bm) : w'.ownsRow B 133 2 v n xs := by
  refine ⟨ho.1, ?_⟩
  rcases ho.2 with hn | ⟨gb, cap, cur, rfl, hb, hg, rest⟩
  · exact .inl hn
  · refine .inr ⟨gb, cap, cur, rfl, hb, ?_, rest⟩
    rw [t.block gb (lt_of_block hg) (fun e => by
      obtain ⟨m, _, hr⟩ := h.row
      rw [← e, hg] at hr; simp at hr) (fun e => by
      obtain ⟨D, ⟨es, clock, hb2, _⟩, _⟩ := h.words
      rw [← e, hg] at hb2; cases hb2)]
    exact hg
end Go.Proofs.YtnbdoemnepfhdaaGreat.Mem

namespace Go.Proofs.YtnbdoemnepfhdaaGreat.Mem
open Go.ChangeShapes Go.WideShapes Go.ChangeAt Go.RowKit Go.Maps
set_option maxHeartbeats 400000
set_option maxRecDepth 100000
theorem addr_add (b j : Nat) : (⟨b, 0, none⟩ : Addr).add j = ⟨b, j, none⟩ := by
  simp [Addr.add]
  exact fun h => h.symm
theorem take_keys {P : List (Nat × Nat)} {i k b : Nat} (h : P[i]? = some (k, b)) : (P.take (i + 1)).map Prod.fst = (P.take i).map Prod.fst ++ [k] := by
  rw [List.take_add_one, h]; simp
theorem take_new {P : List (Nat × Nat)} {i k b : Nat} (hn : (P.map Prod.fst).Nodup) (h : P[i]? = some (k, b)) : k ∉ (P.take i).map Prod.fst := by
  have e : P.map Prod.fst = (P.take i).map Prod.fst ++ (P.drop i).map Prod.fst := by rw [← List.map_append, List.take_append_drop]
  rw [e] at hn
  have h2 : k ∈ (P.drop i).map Prod.fst := List.mem_map.2 ⟨(k, b), List.mem_of_getElem? (i := 0) (by rw [List.getElem?_drop]; simpa using h), rfl⟩
  exact fun h1 => (List.nodup_append.1 hn).2.2 k h1 k h2 rfl
def clS (S : Nat) (g : Nat → Nat) (a n : Int) : Nat → Nat := if mayI S a 1 n = 0 then clr g a.toNat n.toNat else g
theorem pieces_any (sb bm S : Nat) (g : Nat → Nat) (a n : Nat) (w : World) (h : MemAt w sb bm S g) (ha : n = 0 ∨ a + n ≤ S) :
    Calls Tryz.prog 81 #[.pointer (some ⟨sb, 0, none⟩), .int .u64 (a : Int), .int .u64 (n : Int)] w (GetsL w g a n) := by
  by_cases hn : n = 0
  · subst hn; exact pieces_none sb a g w
  · exact pieces_few sb bm S a n (a + n - 1) g w h (by omega) (by omega) (by omega)
/-- The loop of Clear: so many pieces are gone. -/
structure ClearAt (w wr : World) (sb bm S : Nat) (g : Nat → Nat) (a n : Nat) (v : Value) (P : List (Nat × Nat)) (i : Nat) : Prop where
  mem : MemTo w wr sb bm S (clrP g a n ((P.take i).map Prod.fst))
  own : wr.ownsRow w.heap.size 133 2 v P.length (flat P)
theorem clear_yes (sb bm S a n : Nat) (g : Nat → Nat) (w : World) (h : MemAt w sb bm S g) (h1 : a < 18446744073709551616) (n1 : n < 18446744073709551616) (hm : mayI S a 1 n = 0) :
    Calls Tryz.prog 49 #[.pointer (some ⟨sb, 0, none⟩), .int .u64 (a : Int), .int .u64 (n : Int)] w fun e w' => e = .returned (.int .i64 0) ∧ MemTo w w' sb bm S (clr g a n) := by
  obtain ⟨m2, hm2, c0, c1, c2, f1, f2⟩ := h.cells
  have hS := h.good.le
  obtain ⟨q1, q2⟩ := may_zero hm
  have hm' := hm
  go_enter Tryz.func49, Tryz.ntmps49
  go_wp2_with (first | (go_at_call 80; refine (may_any sb S _ _ _ _ (by omega) (by omega) (by omega) (by omega) (by omega) (by omega) (by omega) (by omega) c0).mono ?_; rintro e w' ⟨rfl, rfl⟩) | (go_at_call 81; refine (pieces_any sb bm S g a n _ h (by omega)).mono ?_; rintro e w1 ⟨v, P, rfl, ⟨ho1, hb1⟩, hP⟩; obtain ⟨ao, cap, rfl⟩ := own_shape ho1))
  have hPl := hP.few h.good
  go_loopw [22] (fun i wr => ∃ k : Nat, k ≤ P.length ∧ i = .int .i64 (k : Int) ∧ ClearAt w wr sb bm S g a n (.slice ao P.length cap) P k) (fun i _ => P.length - (intOf i).toNat)
  case atStart =>
    refine ⟨0, by omega, rfl, ⟨⟨bm, ?_, .inl rfl, (Turn.refl w sb bm).below hb1⟩, ho1⟩⟩
    rw [List.take_zero, List.map_nil, clrP_nil]
    exact h.same (hb1.block _ h.lt.1) (hb1.block _ h.lt.2)
  case round =>
    obtain ⟨i, hi, rfl, ⟨⟨bmi, Mi, bi, ti⟩, oi⟩⟩ := hrel
    by_cases hlt : (i : Int) < (P.length : Int)
    · have hlt' : i < P.length := by omega
      obtain ⟨k, b, hkb⟩ : ∃ k b, P[i]? = some (k, b) := ⟨_, _, List.getElem?_eq_getElem hlt'⟩
      obtain ⟨u1, u2⟩ := flat_at P i k b hkb
      rcases oi.2 with ⟨_, hz⟩ | ⟨gb, cap', cur, hv, hB, hgb, _⟩
      · omega
      obtain ⟨rfl, _⟩ : ao = some ⟨gb, 0, none⟩ ∧ True := by injection hv with hv; exact ⟨hv, trivial⟩
      have cc := oi.cells (g := gb) rfl
      have k1 : wr.cell? ⟨gb, i * 2, none⟩ = some (.int .u64 (k : Int)) := by have := cc _ _ u1; rwa [addr_add] at this
      have k2 : wr.cell? ⟨gb, i * 2 + 1, none⟩ = some (.int .u64 (b : Int)) := by have := cc _ _ u2; rwa [addr_add] at this
      clear cc u1 u2
      have ls := Mi.lt.1
      obtain ⟨hk8, hbw, hb0, _⟩ := (hP.mem k b).1 (List.mem_of_getElem? hkb)
      have hB2 := Lib.hid hbw
      have hK := Lib.hid hkb
      have hks := h.good.word_in (cut_word h.good.lt (hbw ▸ hb0)).2.2
      have bl : b < 18446744073709551616 := by rw [hbw]; exact word_lt _ (cut_lt h.good.lt a n) k
      clear hbw hkb
      obtain ⟨m3, hm3, d0, d1, d2, d3, d4⟩ := Mi.cells
      go_wp2
      obtain ⟨W2, hW2⟩ : ∃ W, W = wr.alloc (.cells #[.int .u64 (k : Int), .int .u64 (b : Int)] 133) := ⟨_, rfl⟩
      have M2 : MemAt W2 sb bmi S (clrP g a n (List.map Prod.fst (List.take i P))) := by rw [hW2]; exact Mi.same (Below.heap_alloc _ _ _ Mi.lt.1) (Below.heap_alloc _ _ _ Mi.lt.2)
      have t2 : Turn w W2 sb bm := by rw [hW2]; exact ti.alloc _
      have o2 : W2.ownsRow w.heap.size 133 2 (.slice (some ⟨gb, 0, none⟩) P.length cap) P.length (flat P) := by rw [hW2]; exact oi.alloc _
      have n1' := cell_two_new wr (.int .u64 (k : Int)) (.int .u64 (b : Int)) 133 0 _ rfl
      have n2' := cell_two_new wr (.int .u64 (k : Int)) (.int .u64 (b : Int)) 133 1 _ rfl
      rw [← hW2] at n1' n2'
      change W2.cell? ⟨wr.heap.size, 0, none⟩ = _ at n1'
      change W2.cell? ⟨wr.heap.size, 1, none⟩ = _ at n2'
      change Code.wp _ _ _ _ (wr.alloc (.cells #[.int .u64 (k : Int), .int .u64 (b : Int)] 133))
      rw [← hW2]
      obtain ⟨m5, hm5, e0, e1, e2, e3, e4⟩ := M2.cells
      generalize wr.heap.size = nb at n1' n2' ⊢
      clear hW2 k1 k2 d0 d1 d2 d3 d4 hgb oi Mi ti
      have hl := (M2.drewN 1).words.look (k : Int) (by omega) (by omega) (by omega)
      rw [Int.toNat_natCast, clrP_word hk8 (take_new hP.nodup hK.out)] at hl
      change (Instr.lookup _ _ _ _).run _ W2.drew = .ok _ W2.drew at hl
      have VW : bits BinOp.andNot IntKind.u64 ((word g k : Nat) : Int) (b : Int) = ((word (clr g a n) k : Nat) : Int) := by
        rw [Fld.bits_andNot_u64_nat _ _ (word_lt g h.good.lt k) bl, ← not_cut h.good.lt, hB2.out]; rfl
      have wl := word_lt _ (clr_lt h.good.lt a n) k
      have TK := Lib.hid (take_keys hK.out)
      have CS := Lib.hid (clrP_step h.good.lt (a := a) (n := n) (ks := (P.take i).map Prod.fst) hk8)
      go_still_tail 13, (by kernel_rfl)
      change wpList _ _ _ _ _ W2.drew
      have M3 : MemAt W2.drew sb bmi S (clrP g a n (List.map Prod.fst (List.take i P))) := M2.drewN 1
      have t3 : Turn w W2.drew sb bm := t2.drewN 1
      have o3 : W2.drew.ownsRow w.heap.size 133 2 (.slice (some ⟨gb, 0, none⟩) P.length cap) P.length (flat P) := o2
      generalize W2.drew = W3 at hl M3 t3 o3 ⊢
      clear n1' n2' e0 e1 e2 e3 e4 M2 t2 o2 hl
      go_wp2_with (go_at_call 82; refine (set_any sb bmi S _ _ _ _ M3 (by omega) (by omega) (by omega) (by omega) (by omega) (by rw [Int.toNat_natCast, Int.toNat_natCast, CS.out]; exact h.good.clrP a n _)).mono ?_; rintro e w4 ⟨rfl, M4⟩)
      rw [Int.toNat_natCast, Int.toNat_natCast, CS.out, ← TK.out] at M4
      go_roundw
      case rel =>
        refine ⟨i + 1, by omega, by go_num, ⟨M4.trans bi t3, ?_⟩⟩
        obtain ⟨b4, _, _, t4⟩ := M4
        exact own_turn o3 M3 t4
      case measure => simp [intOf]; omega
    · obtain rfl : i = P.length := by omega
      go_wp2
      go_ret
      refine ⟨rfl, ?_⟩
      have M5 : MemTo w wr sb bm S (clrP g a n ((P.take P.length).map Prod.fst)) := ⟨bmi, Mi, bi, ti⟩
      rw [List.take_length, clrP_all h.good.lt hP] at M5
      exact M5
theorem clear_any (sb bm S : Nat) (g : Nat → Nat) (a n : Int) (w : World) (h : MemAt w sb bm S g) (a0 : 0 ≤ a) (a1 : a < 18446744073709551616) (n0 : 0 ≤ n) (n1 : n < 18446744073709551616) :
    Calls Tryz.prog 49 #[.pointer (some ⟨sb, 0, none⟩), .int .u64 a, .int .u64 n] w fun e w' => e = .returned (.int .i64 (mayI S a 1 n)) ∧ MemTo w w' sb bm S (clS S g a n) := by
  by_cases hm : mayI S a 1 n = 0
  · have H := Lib.hid (show clS S g a n = clr g a.toNat n.toNat by unfold clS; rw [if_pos hm])
    have := clear_yes sb bm S a.toNat n.toNat g w h (by omega) (by omega) (by rw [Int.toNat_of_nonneg a0, Int.toNat_of_nonneg n0]; exact hm)
    rw [Int.toNat_of_nonneg a0, Int.toNat_of_nonneg n0] at this
    rw [hm, H.out]; exact this
  · have H := Lib.hid (show clS S g a n = g by unfold clS; rw [if_neg hm])
    obtain ⟨m2, hm2, c0, c1, c2, f1, f2⟩ := h.cells
    have hS := h.good.le
    go_enter Tryz.func49, Tryz.ntmps49
    go_wp2_with (go_at_call 80; refine (may_any sb S _ _ _ _ (by omega) (by omega) (by omega) (by omega) (by omega) (by omega) (by omega) (by omega) c0).mono ?_; rintro e w' ⟨rfl, rfl⟩)
    go_ret
    exact ⟨rfl, by rw [H.out]; exact h.to⟩
end Go.Proofs.YtnbdoemnepfhdaaGreat.Mem

