/-
  MemoryApart: for every deeds and every place the law returns true, and its arguments read as before. Conditions: none.
-/
import Derived.Test.YtmhgofhclckdpaaRows
import Derived.WalkKit
import Derived.ProofKit
import Derived.OpenShut
import Derived.Test.YtmhgofhclckdpaaMApart
import Derived.ShutString
import Derived.Deep.Slices
import Derived.Deep.Fields
import Derived.ChangeSame
namespace Go.Proofs.Ytmhgofhclckdpaa.memoryApart
open Go.ChangeShapes Go.WideShapes Go.ChangeAt Go.RowKit Go.Deep Mem
set_option linter.unusedVariables false
theorem own : ownKnob Try.prog.godebug = none := by kernel_rfl
theorem laidOut : laidOutB Try.prog = true := by kernel_rfl
/-- What the walk is told of the deeds that came in. -/
def IsDeeds (w : World) (a : Option Addr) (len cap : Nat) : Prop :=
  (a = none ∧ len = 0) ∨
  ∃ x, a = some x ∧ len ≤ cap ∧ cap ≤ maxLen ∧ ∀ i, i < len → ∃ k p q r : Int, w.cell? (x.add (i * 4)) = some (.int .i64 k) ∧ w.cell? (x.add (i * 4 + 1)) = some (.int .u64 p) ∧ w.cell? (x.add (i * 4 + 2)) = some (.int .u64 q) ∧ w.cell? (x.add (i * 4 + 3)) = some (.int .u64 r) ∧ (Lit.int .u64 p).wf = true ∧ (Lit.int .u64 q).wf = true ∧ (Lit.int .u64 r).wf = true
theorem deeds_at {w : World} {a : Option Addr} {len cap : Nat} (h : IsDeeds w a len cap) (i : Nat) (hi : i < len) :
    ∃ b off, ∃ k p q r : Int, a = some ⟨b, off, none⟩ ∧ len ≤ cap ∧ cap ≤ maxLen ∧ w.cell? ⟨b, off + i * 4, none⟩ = some (.int .i64 k) ∧ w.cell? ⟨b, off + i * 4 + 1, none⟩ = some (.int .u64 p) ∧ w.cell? ⟨b, off + i * 4 + 2, none⟩ = some (.int .u64 q) ∧ w.cell? ⟨b, off + i * 4 + 3, none⟩ = some (.int .u64 r) ∧ (0 ≤ p ∧ p ≤ 18446744073709551615) ∧ (0 ≤ q ∧ q ≤ 18446744073709551615) ∧ (0 ≤ r ∧ r ≤ 18446744073709551615) := by
  rcases h with ⟨_, h0⟩ | ⟨x, rfl, h1, h2, h3⟩
  · omega
  · obtain ⟨k, p, q, r, c0, c1, c2, c3, s1, s2, s3⟩ := h3 i hi
    obtain ⟨b, off, spot⟩ := x
    obtain ⟨_, _, _, _, z0, _⟩ := h3 0 (by omega)
    have hs : spot = none := by simpa [Addr.add] using World.cell?_spot z0
    clear z0
    subst hs
    have ad : ∀ j, (⟨b, off, none⟩ : Addr).add j = ⟨b, off + j, none⟩ := fun j => by simp [Addr.add]
    rw [ad] at c0 c1 c2 c3
    exact ⟨b, off, k, p, q, r, rfl, h1, h2, c0, c1, c2, c3, bounds_u64 s1, bounds_u64 s2, bounds_u64 s3⟩
theorem nil_l (w : World) : HasL w 1000 (fun _ => 0) (.slice none 0 0) :=
  ⟨none, 0, [], rfl, World.ownsRow_nil _ _ _ _, ⟨TidyL.nil, fun _ => rfl, ⟨by omega, fun _ => Nat.zero_lt_succ _, fun _ _ => rfl⟩⟩⟩
theorem start {w w1 w2 w3 : World} (M1 : MemAt w1 (w.heap.size + 1) w.heap.size 1000 (fun _ => 0)) (B1 : Below w.heap.size w w1) (M2 : MemAt w2 (w1.heap.size + 1) w1.heap.size 1000 (fun _ => 0)) (B2 : Below w1.heap.size w1 w2) (B3 : Below w2.heap.size w2 w3) :
    AP w (w3.alloc (.cells #[.int .u64 1000, .slice none 0 0] 35)) (w.heap.size + 1) (w1.heap.size + 1) w1.heap.size w3.heap.size (fun _ => 0) (.slice none 0 0) := by
  have l1 := M1.lt
  have l2 := M2.lt
  have z1 := B1.size
  have z2 := B2.size
  have z3 := B3.size
  have b3 := B3.alloc (Nat.le_trans B3.size (Nat.le_refl _)) (.cells #[.int .u64 1000, .slice none 0 0] 35)
  have b13 := B2.trans (b3.mono B2.size)
  refine ⟨B1.trans (b13.mono B1.size), ⟨_, M1.same (b13.block _ l1.1) (b13.block _ l1.2), Nat.le_refl _, by omega⟩, M2.same (b3.block _ l2.1) (b3.block _ l2.2), heap_alloc_new _ _, nil_l _, ⟨by omega, by omega, by omega, by omega, by omega⟩⟩
/-! ### The walk -/
set_option maxHeartbeats 4000000 in
set_option maxRecDepth 100000 in
theorem walk (a0 : Option Addr) (len0 cap0 : Nat) (a1 : Int) (w : World) (w0 : IsDeeds w a0 len0 cap0) (w1 : (Lit.int .u64 a1).wf = true) :
    Calls Try.prog 6 #[.slice a0 len0 cap0, .int .u64 a1] w fun e w' => e = .returned (.bool true) ∧ Below w.heap.size w w' := by
  obtain ⟨x0, x1⟩ := bounds_u64 w1
  clear w1
  have hlen : len0 ≤ 9223372036854775807 := by
    rcases w0 with ⟨_, h⟩ | ⟨_, _, h1, h2, _⟩
    · omega
    · unfold maxLen at h2; omega
  go_enter Try.func6, Try.ntmps6
  go_wp2_with fail
  refine (new_any 1000 (by omega) (by omega) _).mono ?_
  rintro e w1 ⟨rfl, M1, B1⟩
  go_wp2_with fail
  refine (new_any 1000 (by omega) (by omega) _).mono ?_
  rintro e w2 ⟨rfl, M2, B2⟩
  go_wp2_with (go_at_call 13; refine (rnew_any 1000 (by omega) (by omega) _).mono ?_; rintro e w3 ⟨rfl, B3⟩)
  have A0 := start M1 B1 M2 B2 B3
  clear M1 B1 M2 B2 B3
  go_loopw [8] (fun i wr => ∃ k : Nat, k ≤ 20 ∧ i = .int .i64 (k : Int) ∧ ∃ g v, AP w wr (w.heap.size + 1) (w1.heap.size + 1) w1.heap.size w3.heap.size g v) (fun i _ => 20 - (intOf i).toNat)
  case atStart => exact ⟨0, by omega, rfl, _, _, A0⟩
  case round =>
    obtain ⟨k, hk, rfl, g, v, A⟩ := hrel
    clear A0
    obtain ⟨ao, n, cap, rfl⟩ := A.l.shape
    obtain ⟨r0, r1⟩ := A.cells
    by_cases h1 : (k : Int) < (len0 : Int)
    · by_cases h2 : (k : Int) < 20
      · obtain ⟨b, off, kk, p, q, r, rfl, _, _, c0, c1, c2, c3, bp, bq, br⟩ := deeds_at w0 k (by omega)
        have lb : b < w.heap.size := World.block_lt_of_cell? w _ c0
        have AD := A.drew
        go_wp2_with fail
        refine wp_region_held_drew (S := fun w1 => w1.cell? ⟨w3.heap.size, 0, none⟩ = some (.int .u64 1000) ∧ w1.cell? ⟨w3.heap.size, 1, none⟩ = some (.slice ao n cap) ∧ w1.cell? ⟨b, off + k * 4, none⟩ = some (.int .i64 kk) ∧ w1.cell? ⟨b, off + k * 4 + 1, none⟩ = some (.int .u64 p) ∧ w1.cell? ⟨b, off + k * 4 + 2, none⟩ = some (.int .u64 q) ∧ w1.cell? ⟨b, off + k * 4 + 3, none⟩ = some (.int .u64 r)) (by kernel_rfl) (ap_S AD.below AD.r lb c0 c1 c2 c3) (fun hHeld => ?_)
        refine wpAnyH_take (i := 0) (v := ?va0) rfl (by kernel_rfl) (by kernel_rfl) (by kernel_rfl) (fun _ _ _ h => h) (Or.inl ⟨by rfl, ?hya0⟩) (by assumption) ?resta0
        case hya0 => (intro w hSw; (try dsimp only at hSw); go_simp <;> (with_reducible rfl))
        try simp only [Act.put, List.setIfInBounds_toArray, List.set_cons_zero, List.set_cons_succ, List.getElem_toArray, List.getElem_cons_zero]
        refine wpAnyH_take (i := 1) (v := ?va1) rfl (by kernel_rfl) (by kernel_rfl) (by kernel_rfl) (fun _ _ _ h => h) (Or.inl ⟨by rfl, ?hya1⟩) (by assumption) ?resta1
        case hya1 => (intro w hSw; (try dsimp only at hSw); go_simp <;> (with_reducible rfl))
        try simp only [Act.put, List.setIfInBounds_toArray, List.set_cons_zero, List.set_cons_succ, List.getElem_toArray, List.getElem_cons_zero, List.getElem_cons_succ]
        refine wpAnyH_take (i := 2) (v := ?va2) rfl (by kernel_rfl) (by kernel_rfl) (by kernel_rfl) (fun _ _ _ h => h) (Or.inl ⟨by rfl, ?hya2⟩) (by assumption) ?resta2
        case hya2 => (intro w hSw; (try dsimp only at hSw); go_simp <;> (with_reducible rfl))
        try simp only [Act.put, List.setIfInBounds_toArray, List.set_cons_zero, List.set_cons_succ, List.getElem_toArray, List.getElem_cons_zero, List.getElem_cons_succ]
        refine wpAnyH_take (i := 3) (v := ?va3) rfl (by kernel_rfl) (by kernel_rfl) (by kernel_rfl) (fun _ _ _ h => h) (Or.inl ⟨by rfl, ?hya3⟩) (by assumption) ?resta3
        case hya3 => (intro w hSw; (try dsimp only at hSw); go_simp <;> (with_reducible rfl))
        try simp only [Act.put, List.setIfInBounds_toArray, List.set_cons_zero, List.set_cons_succ, List.getElem_toArray, List.getElem_cons_zero, List.getElem_cons_succ]
        refine wpAnyH_take (i := 4) (v := ?va4) rfl (by kernel_rfl) (by kernel_rfl) (by kernel_rfl) (fun _ _ _ h => h) (Or.inl ⟨by rfl, ?hya4⟩) (by assumption) ?resta4
        case hya4 => (intro w hSw; (try dsimp only at hSw); go_simp <;> (with_reducible rfl))
        try simp only [Act.put, List.setIfInBounds_toArray, List.set_cons_zero, List.set_cons_succ, List.getElem_toArray, List.getElem_cons_zero, List.getElem_cons_succ]
        refine wpAnyH_take (i := 5) (v := ?va5) rfl (by kernel_rfl) (by kernel_rfl) (by kernel_rfl) (fun _ _ _ h => h) (Or.inl ⟨by rfl, ?hya5⟩) (by assumption) ?resta5
        case hya5 => (intro w hSw; (try dsimp only at hSw); go_simp <;> (with_reducible rfl))
        try simp only [Act.put, List.setIfInBounds_toArray, List.set_cons_zero, List.set_cons_succ, List.getElem_toArray, List.getElem_cons_zero, List.getElem_cons_succ]
        refine wpAnyH_ready (rs := [6, 10]) (by kernel_rfl) (by simp) ?_
        have AD1 := AD.call ((Below.refl _ _).alloc (Nat.le_refl _) (.cells #[.int .u64 0, .slice none 0 0] 35))
        refine AllReadyH.cons rfl (fun K hK => ?_) (AllReadyH.cons rfl (fun K hK => ?_) AllReadyH.nil)
        · go_simp
          refine (AP.deed AD _ _ _ _ (by omega) (by omega) (by omega) (by omega) (by omega) (by omega)).mono ?_
          rintro e w5 ⟨g', ao2, n2, cap2, rfl, Q, KP⟩
          try go_simp
          refine hK.out _ _ (ap_S Q.below Q.r lb c0 c1 c2 c3) (fun hHeld => ?_)
          clear hK K
          (try simp only [Act.put, List.setIfInBounds_toArray, List.set_cons_zero, List.set_cons_succ, List.getElem_toArray, List.getElem_cons_zero, List.getElem_cons_succ])
          refine wpAnyH_take (i := 7) (v := ?vb7) rfl (by kernel_rfl) (by kernel_rfl) (by kernel_rfl) (fun _ _ _ h => h) (Or.inl ⟨by rfl, ?hyb7⟩) (by assumption) ?restb7
          case hyb7 => (intro w hSw; (try dsimp only at hSw); go_simp <;> (with_reducible rfl))
          (try simp only [Act.put, List.setIfInBounds_toArray, List.set_cons_zero, List.set_cons_succ, List.getElem_toArray, List.getElem_cons_zero, List.getElem_cons_succ])
          refine wpAnyH_take (i := 8) (v := ?vb8) rfl (by kernel_rfl) (by kernel_rfl) (by kernel_rfl) (fun _ _ _ h => h) (Or.inl ⟨by rfl, ?hyb8⟩) (by assumption) ?restb8
          case hyb8 => (intro w hSw; (try dsimp only at hSw); go_simp <;> (with_reducible rfl))
          (try simp only [Act.put, List.setIfInBounds_toArray, List.set_cons_zero, List.set_cons_succ, List.getElem_toArray, List.getElem_cons_zero, List.getElem_cons_succ])
          refine wpAnyH_take (i := 9) (v := ?vb9) rfl (by kernel_rfl) (by kernel_rfl) (by kernel_rfl) (fun _ _ _ h => h) (Or.inl ⟨by rfl, ?hyb9⟩) (by assumption) ?restb9
          case hyb9 => (intro w hSw; (try dsimp only at hSw); go_simp <;> (with_reducible rfl))
          (try simp only [Act.put, List.setIfInBounds_toArray, List.set_cons_zero, List.set_cons_succ, List.getElem_toArray, List.getElem_cons_zero, List.getElem_cons_succ])
          have Q1 := Q.call ((Below.refl _ _).alloc (Nat.le_refl _) (.cells #[.int .u64 0, .slice none 0 0] 35))
          refine wpAnyH_ready (rs := [10]) (by kernel_rfl) (by simp) ?_
          refine AllReadyH.cons rfl (fun K hK => ?_) AllReadyH.nil
          go_simp
          refine hK.out _ _ (ap_S Q1.below Q1.r lb c0 c1 c2 c3) (fun hHeld => ?_)
          clear hK K
          (try simp only [Act.put, List.setIfInBounds_toArray, List.set_cons_zero, List.set_cons_succ, List.getElem_toArray, List.getElem_cons_zero, List.getElem_cons_succ])
          have N6 := Q.fresh
          refine wpAnyH_ready (rs := [11]) (by kernel_rfl) (by simp) ?_
          refine AllReadyH.cons rfl (fun K hK => ?_) AllReadyH.nil
          go_simp
          refine hK.out _ _ (ap_S N6.q.below N6.q.r lb c0 c1 c2 c3) (fun hHeld => ?_)
          clear hK K
          (try simp only [Act.put, List.setIfInBounds_toArray, List.set_cons_zero, List.set_cons_succ, List.getElem_toArray, List.getElem_cons_zero, List.getElem_cons_succ])
          refine wpAnyH_take (i := 12) (v := ?vb12) rfl (by kernel_rfl) (by kernel_rfl) (by kernel_rfl) (fun _ _ _ h => h) (Or.inl ⟨by rfl, ?hyb12⟩) (by assumption) ?restb12
          case hyb12 => (intro w hSw; (try dsimp only at hSw); go_simp <;> (with_reducible rfl))
          (try simp only [Act.put, List.setIfInBounds_toArray, List.set_cons_zero, List.set_cons_succ, List.getElem_toArray, List.getElem_cons_zero, List.getElem_cons_succ])
          refine wpAnyH_done (by kernel_rfl) ?_ _
          generalize w5.alloc (.cells #[.int .u64 1000, .slice ao2 n2 cap2] 35) = W6 at N6 hHeld ⊢
          generalize w5.heap.size = nb at N6 ⊢
          obtain ⟨f0, f1⟩ := N6.cells
          obtain ⟨s0, s1, s2, s3⟩ := N6.q.cells
          have P6 := N6.q.put
          clear hHeld Q Q1 KP AD AD1 A c0 c1 c2 c3 r0 r1
          go_wp2
          go_roundw
          case rel => exact ⟨k + 1, by omega, by go_num, _, _, P6⟩
          case measure => simp [intOf]; omega
        · go_simp
          refine hK.out _ _ (ap_S AD1.below AD1.r lb c0 c1 c2 c3) (fun hHeld => ?_)
          clear hK K
          (try simp only [Act.put, List.setIfInBounds_toArray, List.set_cons_zero, List.set_cons_succ, List.getElem_toArray, List.getElem_cons_zero, List.getElem_cons_succ])
          refine wpAnyH_ready (rs := [6]) (by kernel_rfl) (by simp) ?_
          refine AllReadyH.cons rfl (fun K hK => ?_) AllReadyH.nil
          go_simp
          refine (AP.deed AD1 _ _ _ _ (by omega) (by omega) (by omega) (by omega) (by omega) (by omega)).mono ?_
          rintro e w5 ⟨g', ao2, n2, cap2, rfl, Q, KP⟩
          try go_simp
          refine hK.out _ _ (ap_S Q.below Q.r lb c0 c1 c2 c3) (fun hHeld => ?_)
          clear hK K
          (try simp only [Act.put, List.setIfInBounds_toArray, List.set_cons_zero, List.set_cons_succ, List.getElem_toArray, List.getElem_cons_zero, List.getElem_cons_succ])
          refine wpAnyH_take (i := 7) (v := ?vc7) rfl (by kernel_rfl) (by kernel_rfl) (by kernel_rfl) (fun _ _ _ h => h) (Or.inl ⟨by rfl, ?hyc7⟩) (by assumption) ?restc7
          case hyc7 => (intro w hSw; (try dsimp only at hSw); go_simp <;> (with_reducible rfl))
          (try simp only [Act.put, List.setIfInBounds_toArray, List.set_cons_zero, List.set_cons_succ, List.getElem_toArray, List.getElem_cons_zero, List.getElem_cons_succ])
          refine wpAnyH_take (i := 8) (v := ?vc8) rfl (by kernel_rfl) (by kernel_rfl) (by kernel_rfl) (fun _ _ _ h => h) (Or.inl ⟨by rfl, ?hyc8⟩) (by assumption) ?restc8
          case hyc8 => (intro w hSw; (try dsimp only at hSw); go_simp <;> (with_reducible rfl))
          (try simp only [Act.put, List.setIfInBounds_toArray, List.set_cons_zero, List.set_cons_succ, List.getElem_toArray, List.getElem_cons_zero, List.getElem_cons_succ])
          refine wpAnyH_take (i := 9) (v := ?vc9) rfl (by kernel_rfl) (by kernel_rfl) (by kernel_rfl) (fun _ _ _ h => h) (Or.inl ⟨by rfl, ?hyc9⟩) (by assumption) ?restc9
          case hyc9 => (intro w hSw; (try dsimp only at hSw); go_simp <;> (with_reducible rfl))
          (try simp only [Act.put, List.setIfInBounds_toArray, List.set_cons_zero, List.set_cons_succ, List.getElem_toArray, List.getElem_cons_zero, List.getElem_cons_succ])
          have hn := KP wr.heap.size _ _ (heap_alloc_new _ _) (by have := A.a; obtain ⟨ba, M, _⟩ := A.a; have := M.lt.1; omega)
          have z0 : w5.cell? ⟨wr.heap.size, 0, none⟩ = some (.int .u64 0) := by simp [World.cell?, hn]
          have z1 : w5.cell? ⟨wr.heap.size, 1, none⟩ = some (.slice none 0 0) := by simp [World.cell?, hn]
          have z2 : w5.frozen? ⟨wr.heap.size, 0, none⟩ = false := by simp [World.frozen?, hn]
          have z3 : w5.frozen? ⟨wr.heap.size, 1, none⟩ = false := by simp [World.frozen?, hn]
          have N6 := Q.laid hn (by obtain ⟨ba, M, _⟩ := A.a; have := M.lt.1; omega) (by have := A.b.lt.1; omega) (by have := lt_of_block A.r; omega) A.below.size
          have HN := Lib.hid hn
          clear hn
          refine wpAnyH_ready (rs := [11]) (by kernel_rfl) (by simp) ?_
          refine AllReadyH.cons rfl (fun K hK => ?_) AllReadyH.nil
          go_simp
          refine hK.out _ _ (ap_S N6.q.below N6.q.r lb c0 c1 c2 c3) (fun hHeld => ?_)
          clear hK K
          (try simp only [Act.put, List.setIfInBounds_toArray, List.set_cons_zero, List.set_cons_succ, List.getElem_toArray, List.getElem_cons_zero, List.getElem_cons_succ])
          refine wpAnyH_take (i := 12) (v := ?vc12) rfl (by kernel_rfl) (by kernel_rfl) (by kernel_rfl) (fun _ _ _ h => h) (Or.inl ⟨by rfl, ?hyc12⟩) (by assumption) ?restc12
          case hyc12 => (intro w hSw; (try dsimp only at hSw); go_simp <;> (with_reducible rfl))
          (try simp only [Act.put, List.setIfInBounds_toArray, List.set_cons_zero, List.set_cons_succ, List.getElem_toArray, List.getElem_cons_zero, List.getElem_cons_succ])
          refine wpAnyH_done (by kernel_rfl) ?_ _
          generalize (w5.setCell ⟨wr.heap.size, 0, none⟩ (.int .u64 1000)).setCell ⟨wr.heap.size, 1, none⟩ (.slice ao2 n2 cap2) = W6 at N6 hHeld ⊢
          obtain ⟨f0, f1⟩ := N6.cells
          obtain ⟨s0, s1, s2, s3⟩ := N6.q.cells
          have P6 := N6.q.put
          clear hHeld HN z0 z1 z2 z3 Q KP AD AD1 A c0 c1 c2 c3 r0 r1
          go_wp2
          go_roundw
          case rel => exact ⟨k + 1, by omega, by go_num, _, _, P6⟩
          case measure => simp [intOf]; omega
      · have q1 := h2
        go_wp2_with fail
        refine (AP.usedB A).mono ?_
        rintro e w' ⟨rfl, rfl⟩
        go_wp2_with fail
        refine (AP.clear A).mono ?_
        rintro e w6 ⟨rfl, E⟩
        go_wp2_with fail
        refine (hused E.has [] (by simp) none_support).mono ?_
        rintro e w' ⟨rfl, rfl⟩
        go_wp2_with fail
        refine (hword' E.has (a1 % 100 * 8) 0 (by omega) (by omega) (by omega) (congrArg Nat.cast (word_eq_zero (fun _ _ => rfl)))).mono ?_
        rintro e w' ⟨rfl, rfl⟩
        go_wp2_with (go_at_call 12; refine (mlives_any _).mono ?_; rintro e w' ⟨rfl, hb⟩)
        go_ret
        exact ⟨rfl, E.has.below.trans (hb.mono E.has.below.size)⟩
    · have q1 := h1
      go_wp2_with fail
      refine (AP.usedB A).mono ?_
      rintro e w' ⟨rfl, rfl⟩
      go_wp2_with fail
      refine (AP.clear A).mono ?_
      rintro e w6 ⟨rfl, E⟩
      go_wp2_with fail
      refine (hused E.has [] (by simp) none_support).mono ?_
      rintro e w' ⟨rfl, rfl⟩
      go_wp2_with fail
      refine (hword' E.has (a1 % 100 * 8) 0 (by omega) (by omega) (by omega) (congrArg Nat.cast (word_eq_zero (fun _ _ => rfl)))).mono ?_
      rintro e w' ⟨rfl, rfl⟩
      go_wp2_with (go_at_call 12; refine (mlives_any _).mono ?_; rintro e w' ⟨rfl, hb⟩)
      go_ret
      exact ⟨rfl, E.has.below.trans (hb.mono E.has.below.size)⟩
/-! ### The row -/
theorem open_deeds {H : Type} {enc : TypeId × Value → H} {w : World} {base : Nat} {fuel : Nat} {ao : Option Addr} {len cap : Nat} {x : DataW H × List MemPlace} (h : DataW.trod enc Try.prog w base (fun _ => true) true fuel 46 [.slice ao len cap] = some x) : IsDeeds w ao len cap := by
  rcases open_slice Try.underlying46 h with ⟨hcs, _⟩ | ⟨a, l, c, m, n, D, Pl, hcs, hb, hl, hm, hmm, hx, hi⟩
  · simp at hcs; exact .inl ⟨hcs.1, hcs.2.1⟩
  · simp at hcs
    obtain ⟨rfl, rfl, rfl⟩ := hcs
    refine .inr ⟨a, rfl, hl, hm, fun i him => ?_⟩
    obtain ⟨cs', hc, ht'⟩ := hi i (by simp at hmm; omega)
    rw [show Try.prog.cellsOf 50 = 4 from by kernel_rfl] at hc
    obtain ⟨ys, n', hn', hy, hlen, hyl, hf⟩ := DataW.trod_struct Try.underlying50 ht'
    obtain ⟨_, hcl, hat⟩ := World.cells?_some hc
    have h0 := hf 0 _ rfl
    have h1 := hf 1 _ rfl
    have h2 := hf 2 _ rfl
    have h3 := hf 3 _ rfl
    match cs', hcl with
    | [c0, c1, c2, c3], _ =>
      have e3 : Try.prog.cellsOf 3 = 1 := by kernel_rfl
      have e22 : Try.prog.cellsOf 22 = 1 := by kernel_rfl
      match ys, hyl with
      | [y0, y1, y2, y3], _ =>
        simp [e3, e22] at h0 h1 h2 h3
        obtain ⟨k, q0, _, _⟩ := DataW.trod_int Try.underlying3 h0
        obtain ⟨p, q1, _, s1⟩ := DataW.trod_int Try.underlying22 h1
        obtain ⟨q, q2, _, s2⟩ := DataW.trod_int Try.underlying22 h2
        obtain ⟨r, q3, _, s3⟩ := DataW.trod_int Try.underlying22 h3
        simp at q0 q1 q2 q3
        subst q0 q1 q2 q3
        have t0 := hat 0 (by omega)
        have t1 := hat 1 (by omega)
        have t2 := hat 2 (by omega)
        have t3 := hat 3 (by omega)
        rw [Go.Deep.add_add] at t0 t1 t2 t3
        exact ⟨k, p, q, r, t0, t1, t2, t3, s1, s2, s3⟩
set_option maxRecDepth 100000 in
theorem lifted (os : Os) (started : os.Started) (H : Type) (enc : TypeId × Value → H) :
    ReturnsInHanded {} Try.checked os 6 .any (Rows.memoryApartSpec.pre6 enc Try.prog Try.f6 Rows.memoryApartRow.domain false) (Rows.memoryApartSpec.post enc Try.prog Try.f6 false true false false) := by
  refine returnsInHanded_of_change (C := Try.checked) own started (by kernel_rfl) Try.func6
    (ChangeSpec.witness6 (enc := enc) (C := Try.checked) false ⟨#[], #[.slice none 0 0, .int .u64 0], []⟩ 8 (by kernel_rfl) (by kernel_rfl) (by kernel_rfl) (by kernel_rfl)) ?_
  intro W base args ds gs before hval0 hW hcnd _
  have hval : ∀ (j : Nat) t v, Try.f6.params[j]? = some t → args[j]? = some v → Value.okWide Try.prog W .any base t v := hval0
  have hW' := hW
  obtain ⟨p, q, hA0, hV, rfl, hfz, hnd⟩ := hW
  have hA : DataW.TrodAll enc Try.prog W 0 (fun _ => true) true Try.f6.params.toList args.toList ds p := hA0
  rw [Try.params6] at hA hval
  obtain ⟨v0, vs0, d0, ds0, p0, q0, hargs, rfl, rfl, h0, r0⟩ := trodAll_cons hA
  obtain ⟨v1, vs1, d1, ds1, p1, q1, rfl, rfl, rfl, h1, r1⟩ := trodAll_cons r0
  obtain ⟨rfl, rfl, rfl⟩ := trodAll_nil r1
  obtain rfl : args = #[v0, v1] := by cases args; simp_all
  obtain ⟨rfl, rfl⟩ := trodVars_none hV
  obtain ⟨a0, len0, cap0, rfl⟩ := okWide_slice Try.underlying46 (hval 0 46 v0 rfl rfl)
  have k0 := h0
  have lt0 : ∀ x ∈ p0, x.block < W.heap.size := by obtain ⟨m, hm⟩ := k0; exact DataW.trod_lt m _ _ _ hm
  have w0 : IsDeeds W a0 len0 cap0 := by
    obtain ⟨fuel, hf⟩ := h0
    exact open_deeds hf
  obtain ⟨a1, rfl, rfl, rfl, w1⟩ := open_int Try.underlying22 (hval 1 22 v1 rfl rfl) h1
  clear hA0 hval0
  refine (walk a0 len0 cap0 a1 W w0 w1).mono fun e W' ⟨he, bel⟩ => ?_
  subst he
  exact ⟨_, rfl, _, _, _, [], _, [], hW', trodAll_mk1 (shut_bool Try.underlying4 _), (trodAll_cons_mk (Below.trod laidOut (by kernel_rfl) (of_decide_eq_true (by kernel_rfl)) k0 bel lt0) (trodAll_cons_mk (shut_int Try.underlying22 w1) trodAll_mk0)), rfl, bel.frame _, fun h => by cases h⟩

theorem over : Rows.memoryApartRow.holds Try.pinned (OpenSpec.ofChange Rows.memoryApartSpec) :=
  OpenClaim.holds_of_wide 6 Try.f6 rfl rfl rfl rfl rfl rfl rfl ⟨rfl, rfl, rfl, rfl, rfl⟩ rfl rfl rfl rfl rfl (by kernel_rfl) Try.func6 (by kernel_rfl)
    (of_decide_eq_true (by kernel_rfl)) (by unfold Func.isWrapper; first | (rw [if_pos (by decide +kernel)]; kernel_rfl) | (rw [if_neg (by decide +kernel)]; exact ⟨rfl, rfl⟩))
    (fun os started H enc _ => lifted os started H enc)

theorem proved : Rows.MemoryApartSaid := over
#print axioms proved
end Go.Proofs.Ytmhgofhclckdpaa.memoryApart
