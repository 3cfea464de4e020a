/-
  Contracts of on, Of, Owner, Free, own of the document's package for layer 14. Conditions: a list that is there.
-/
import Derived.Test.YtkbkilkmiigahaaCOwn
namespace Go.Proofs.Ytkbkilkmiigahaa.Cx
open Fld
open Go.ChangeShapes Go.WideShapes Go.ChangeAt Go.RowKit
set_option maxHeartbeats 1000000
abbrev docV (v : Value) (h R : Nat) : Value := .agg #[v, .int .i64 (h : Int), .int .i64 (R : Int)]
abbrev docO (v : Value) (h R : Nat) : Obj := .cells #[v, .int .i64 (h : Int), .int .i64 (R : Int)] 27
abbrev docZ : Obj := .cells #[.slice none 0 0, .int .i64 0, .int .i64 0] 27
/-- The document's list v says whose the numbers are. -/
structure ListT (w : World) (B n : Nat) (T : Nat → Int) (v : Value) : Prop where
  own : w.ownsRow B 3 1 v n (intsV (lstT T n))
  le : n ≤ 8191
theorem ListT.shape {w : World} {B n : Nat} {T : Nat → Int} {v : Value} (h : ListT w B n T v) : ∃ ao cap, v = .slice ao n cap ∧ n ≤ cap ∧ cap ≤ maxLen := by
  rcases h.own.2 with ⟨rfl, rfl⟩ | ⟨g, cap, cur, rfl, _, _, h1, h2, _⟩
  · exact ⟨none, 0, rfl, Nat.le_refl _, by unfold maxLen; omega⟩
  · exact ⟨_, cap, rfl, h1, h2⟩
theorem ListT.at_ {w : World} {B n cap : Nat} {T : Nat → Int} {ao : Option Addr} (h : ListT w B n T (.slice ao n cap)) {j : Nat} (hj : j < n) : ∃ g, ao = some ⟨g, 0, none⟩ ∧ B ≤ g ∧ g < w.heap.size ∧ w.cell? ⟨g, j, none⟩ = some (.int .i64 (T j)) ∧ w.frozen? ⟨g, j, none⟩ = false := by
  rcases h.own.2 with ⟨_, rfl⟩ | ⟨g, cap', cur, hv, hB, hg, _⟩
  · omega
  · injection hv with a _ _
    refine ⟨g, a, hB, (Array.getElem?_eq_some_iff.1 hg).1, ?_, by simp [World.frozen?, hg]⟩
    subst a
    have := h.own.cellAt j (by omega)
    rw [this]
    simp [intsV, lstT, hj]
theorem ListT.low {w w' : World} {B n : Nat} {T : Nat → Int} {v : Value} (h : ListT w B n T v) (k : Below w.heap.size w w') : ListT w' B n T v := ⟨own_below h.own k, h.le⟩
theorem ListT.alloc {w : World} {B n : Nat} {T : Nat → Int} {v : Value} (h : ListT w B n T v) (o : Obj) : ListT (w.alloc o) B n T v := ⟨h.own.alloc _, h.le⟩
theorem load_P {w : World} {g : Nat} {x y z : Value} (hR : w.heap[g]? = some (.cells #[x, y, z] 27 (0, 0))) : (loadVar 27 ⟨g, 0, none⟩).run Try.prog w = .ok (.agg #[x, y, z]) w :=
  run_loadVar_row (P := Try.prog) w g 27 27 _ (0, 0) _ hR Try.underlying27 (by kernel_rfl) (by kernel_rfl)
theorem res_P {fn : Func} {p : Tmp} (h : fn.results = #[.cell p 27]) (tmps : Array Value) (w : World) (g : Nat) {x y z : Value} (hp : tmps.getD p undef = .pointer (some ⟨g, 0, none⟩)) (hR : w.heap[g]? = some (.cells #[x, y, z] 27 (0, 0))) :
    (results fn tmps).run Try.prog w = .ok (.agg #[x, y, z]) w := by
  have hp' : tmps[p]?.getD undef = .pointer (some ⟨g, 0, none⟩) := by simpa using hp
  simp [results, h, hp', asAddr, load_P hR]
theorem res_P1 {fn : Func} {p u : Tmp} (h : fn.results = #[.cell p 27, .tmp u]) (tmps : Array Value) (w : World) (g : Nat) {x y z : Value} (hp : tmps.getD p undef = .pointer (some ⟨g, 0, none⟩)) (hR : w.heap[g]? = some (.cells #[x, y, z] 27 (0, 0))) :
    (results fn tmps).run Try.prog w = .ok (.tuple #[.agg #[x, y, z], tmps.getD u undef]) w := by
  have hp' : tmps[p]?.getD undef = .pointer (some ⟨g, 0, none⟩) := by simpa using hp
  simp [results, h, hp', asAddr, load_P hR]
theorem res_P2 {fn : Func} {p u t : Tmp} (h : fn.results = #[.cell p 27, .tmp u, .tmp t]) (tmps : Array Value) (w : World) (g : Nat) {x y z : Value} (hp : tmps.getD p undef = .pointer (some ⟨g, 0, none⟩)) (hR : w.heap[g]? = some (.cells #[x, y, z] 27 (0, 0))) :
    (results fn tmps).run Try.prog w = .ok (.tuple #[.agg #[x, y, z], tmps.getD u undef, tmps.getD t undef]) w := by
  have hp' : tmps[p]?.getD undef = .pointer (some ⟨g, 0, none⟩) := by simpa using hp
  simp [results, h, hp', asAddr, load_P hR]
theorem ret_P {v : Value} {h g R S : Nat} (e1 : h = g) (e2 : R = S) : Ending.returned (docV v h R) = Ending.returned (docV v g S) := by rw [e1, e2]
theorem two_new (w : World) (o : Obj) (c : Array Value) : ((w.alloc o).alloc (.cells c 27)).heap[w.heap.size + 1]? = some (.cells c 27 (0, 0)) := by
  have := heap_alloc_new (w.alloc o) (.cells c 27)
  simpa using this
theorem two_low (w : World) (o q : Obj) : Below w.heap.size w ((w.alloc o).alloc q) := ((Below.refl _ _).alloc (Nat.le_refl _) _).alloc (by simp) _
theorem on_any (ao : Option Addr) (n cap k R : Nat) (k0 : 1 ≤ k) (k1 : k ≤ n) (hn : n ≤ 8191) (hR : R ≤ 2000000000) (w : World) :
    Calls Try.prog 46 #[docV (.slice ao n cap) k R] w fun e w' => e = .returned (docV (.slice ao n cap) (k % n + 1) (stepR n k R)) ∧ Below w.heap.size w w' := by
  have e := nxt_eq k1
  have hs : stepR n k R = if k % n + 1 = 1 then R + 1 else R := rfl
  rw [e] at hs ⊢
  by_cases h : k = n
  · subst h
    rw [if_pos rfl] at hs ⊢
    rw [if_pos rfl] at hs
    have HS := Lib.hid hs
    clear hs e
    go_enter Try.func46, Try.ntmps46
    go_wp2
    exact bodyPost_ret (res_P rfl _ _ _ rfl (two_new _ _ _)) rfl ⟨ret_P rfl HS.out.symm, two_low _ _ _⟩
  · rw [if_neg h] at hs ⊢
    rw [if_neg (by omega)] at hs
    have HS := Lib.hid hs
    clear hs e
    go_enter Try.func46, Try.ntmps46
    go_wp2
    exact bodyPost_ret (res_P rfl _ _ _ rfl (two_new _ _ _)) rfl ⟨ret_P rfl HS.out.symm, two_low _ _ _⟩
theorem rof_any {B : Nat} {P : Pl} {v : Value} (w : World) (H : ListT w B P.n P.T v) (x : Int) (R : Nat) :
    Calls Try.prog 38 #[docV v P.h R, .int .i64 x] w fun e w' => e = .returned (.int .i64 (P.of x : Int)) ∧ Below w.heap.size w w' := by
  obtain ⟨ao, cap, rfl, hl, hcm⟩ := H.shape
  have hn := H.le
  have B0 : Below w.heap.size w (w.alloc (docO (.slice ao P.n cap) P.h R)) := (Below.refl _ _).alloc (Nat.le_refl _) _
  have H0 := H.alloc (docO (.slice ao P.n cap) P.h R)
  have hof : P.of x = if 0 ≤ x then ofN P.T x P.n else 0 := rfl
  have HO := Lib.hid hof
  clear hof
  unfold maxLen at hcm
  go_enter Try.func38, Try.ntmps38
  go_wp2
  go_loopw [5] (fun i wr => ∃ j : Nat, j ≤ P.n ∧ i = .int .i64 (j : Int) ∧ (∀ q, q < j → P.T q ≠ x ∨ x < 0) ∧ wr = w.alloc (docO (.slice ao P.n cap) P.h R)) (fun i _ => P.n - (intOf i).toNat)
  case atStart => exact ⟨0, Nat.zero_le _, rfl, fun q hq => absurd hq (Nat.not_lt_zero q), rfl⟩
  case round =>
    obtain ⟨j, hj, rfl, hq, rfl⟩ := hrel
    by_cases hlt : j < P.n
    · obtain ⟨g, rfl, hB, hg, hc, _⟩ := H0.at_ hlt
      by_cases hx : P.T j = x
      · by_cases h0 : 0 ≤ x
        · have E := Lib.hid (show P.of x = j + 1 by
            rw [HO.out, if_pos h0]
            exact ofN_at hlt hx (fun i hi => (hq i hi).resolve_right (by omega)))
          rw [hx] at hc
          clear hq HO H0 H
          go_wp2
          go_ret
          exact ⟨by rw [E.out]; rfl, B0⟩
        · have hq2 := Lib.hid (show ∀ q, q < j + 1 → P.T q ≠ x ∨ x < 0 from fun q _ => .inr (by omega))
          rw [hx] at hc
          clear hq HO H0 H
          go_wp2
          go_roundw
          case rel => exact ⟨j + 1, by omega, by go_num, hq2.out, trivial⟩
          case measure => simp [intOf]; omega
      · have hq2 := Lib.hid (show ∀ q, q < j + 1 → P.T q ≠ x ∨ x < 0 from fun q hq1 => by
          by_cases e : q = j
          · subst e; exact .inl hx
          · exact hq q (by omega))
        generalize P.T j = y at *
        clear hq HO H0 H
        go_wp2
        go_roundw
        case rel => exact ⟨j + 1, by omega, by go_num, hq2.out, trivial⟩
        case measure => simp [intOf]; omega
    · have E := Lib.hid (show P.of x = 0 by
        rw [HO.out]
        split
        · rename_i h0
          exact ofN_zero.2 (fun i hi => (hq i (by omega)).resolve_right (by omega))
        · rfl)
      clear hq HO H0 H
      go_wp2
      go_ret
      exact ⟨by rw [E.out]; rfl, B0⟩
theorem rowner_any {B : Nat} {P : Pl} {v : Value} (w : World) (H : ListT w B P.n P.T v) (hT : ∀ i, i < P.n → -1 ≤ P.T i) (m : Int) (R : Nat) :
    Calls Try.prog 41 #[docV v P.h R, .int .i64 m] w fun e w' => (∃ o : Int, e = .returned (.int .i64 o) ∧ P.ownB m = decide (0 ≤ o) ∧ P.ownI m = max o 0 ∧ -1 ≤ o) ∧ Below w.heap.size w w' := by
  obtain ⟨ao, cap, rfl, hl, hcm⟩ := H.shape
  have hn := H.le
  have B0 : Below w.heap.size w (w.alloc (docO (.slice ao P.n cap) P.h R)) := (Below.refl _ _).alloc (Nat.le_refl _) _
  have H0 := H.alloc (docO (.slice ao P.n cap) P.h R)
  unfold maxLen at hcm
  by_cases hm : 1 ≤ m ∧ m ≤ (P.n : Int)
  · obtain ⟨k, rfl⟩ : ∃ k : Nat, m = (k : Int) + 1 := ⟨(m - 1).toNat, by omega⟩
    obtain ⟨g, rfl, hB, hg, hc, _⟩ := H0.at_ (j := k) (by omega)
    have hk := hT k (by omega)
    have e1 : ((k : Int) + 1).toNat - 1 = k := by omega
    have E1 : P.ownB ((k : Int) + 1) = decide (0 ≤ P.T k) := by unfold Pl.ownB; rw [e1, decide_eq_true hm.1, decide_eq_true hm.2]; rfl
    have E2 : P.ownI ((k : Int) + 1) = max (P.T k) 0 := by
      unfold Pl.ownI; rw [E1, e1]
      by_cases h : 0 ≤ P.T k
      · rw [decide_eq_true h, if_pos rfl]; omega
      · rw [decide_eq_false h]; simp; omega
    have E1 := Lib.hid E1
    have E2 := Lib.hid E2
    generalize P.T k = y at *
    obtain ⟨m0, m1⟩ := hm
    clear H0 H hT e1
    go_enter Try.func41, Try.ntmps41
    go_wp2
    go_ret
    exact ⟨⟨y, rfl, E1.out, E2.out, hk⟩, B0⟩
  · have E1 : P.ownB m = false := by
      unfold Pl.ownB
      rw [show (decide (1 ≤ m) && decide (m ≤ (P.n : Int))) = false by rw [Bool.and_eq_false_iff, decide_eq_false_iff_not, decide_eq_false_iff_not]; omega]; rfl
    have E2 := Lib.hid (show P.ownI m = 0 by unfold Pl.ownI; rw [E1]; rfl)
    have E1h := Lib.hid E1
    clear H0 H hT E1
    by_cases m0 : m < 1
    · go_enter Try.func41, Try.ntmps41
      go_wp2
      go_ret
      exact ⟨⟨-1, rfl, by rw [E1h.out]; rfl, by rw [E2.out]; rfl, by omega⟩, B0⟩
    · have m1 : (P.n : Int) < m := by omega
      clear hm
      go_enter Try.func41, Try.ntmps41
      go_wp2
      go_ret
      exact ⟨⟨-1, rfl, by rw [E1h.out]; rfl, by rw [E2.out]; rfl, by omega⟩, B0⟩
theorem rfree_any {B : Nat} {P : Pl} {v : Value} (w : World) (H : ListT w B P.n P.T v) (R : Nat) :
    Calls Try.prog 25 #[docV v P.h R] w fun e w' => e = .returned (.int .i64 (frN P.T P.n : Int)) ∧ Below w.heap.size w w' := by
  obtain ⟨ao, cap, rfl, hl, hcm⟩ := H.shape
  have hn := H.le
  have B0 : Below w.heap.size w (w.alloc (docO (.slice ao P.n cap) P.h R)) := (Below.refl _ _).alloc (Nat.le_refl _) _
  have H0 := H.alloc (docO (.slice ao P.n cap) P.h R)
  unfold maxLen at hcm
  go_enter Try.func25, Try.ntmps25
  go_wp2
  go_loopw [3, 4] (fun c i wr => ∃ j : Nat, j ≤ P.n ∧ i = .int .i64 (j : Int) ∧ c = .int .i64 (frN P.T j : Int) ∧ wr = w.alloc (docO (.slice ao P.n cap) P.h R)) (fun _ i _ => P.n - (intOf i).toNat)
  case atStart => exact ⟨0, Nat.zero_le _, rfl, rfl, rfl⟩
  case round =>
    obtain ⟨j, hj, rfl, rfl, rfl⟩ := hrel
    have hf := frN_le P.T j
    have hfn : frN P.T (j + 1) = frN P.T j + if P.T j < 0 then 1 else 0 := rfl
    by_cases hlt : j < P.n
    · obtain ⟨g, rfl, hB, hg, hc, _⟩ := H0.at_ hlt
      by_cases hx : P.T j < 0
      · rw [if_pos hx] at hfn
        have HF := Lib.hid hfn
        generalize P.T j = y at *
        generalize frN P.T j = c at *
        clear hfn H0 H
        go_wp2
        go_roundw
        case rel => exact ⟨j + 1, by omega, by go_num, by rw [HF.out]; go_num, trivial⟩
        case measure => simp [intOf]; omega
      · rw [if_neg hx] at hfn
        have HF := Lib.hid hfn
        generalize P.T j = y at *
        generalize frN P.T j = c at *
        clear hfn H0 H
        go_wp2
        go_roundw
        case rel => exact ⟨j + 1, by omega, by go_num, by rw [HF.out]; go_num, trivial⟩
        case measure => simp [intOf]; omega
    · obtain rfl : j = P.n := by omega
      clear H0 H hfn
      go_wp2
      go_ret
      exact ⟨rfl, B0⟩
end Go.Proofs.Ytkbkilkmiigahaa.Cx
