/-
  YtgdagfhdimoklaaGreatGF: the contracts and plain facts of several texts, laid together. Conditions: those that each theorem names.
-/
import Derived.Test.YtgdagfhdimoklaaGreatGE
import Derived.Test.YtgdagfhdimoklaaGreatGD
import Derived.Test.YtgdagfhdimoklaaGreatGA
import Derived.Test.YtgdagfhdimoklaaGreatGB
import Derived.Laws.StructEq
/-
  The iterators of package tsb: places (numbers and where they stand), entries (where a place stands, and the entry that it has at its address). Conditions: they read a TSB that is there; a round may change the places that have been told.
-/
namespace Go.Proofs.YtgdagfhdimoklaaGreat.Ts
open Fld
open Pt (idxI idx_bd slotI lastI)
open Mem (MemAt MemTo word setW)
open Go.ChangeShapes Go.WideShapes Go.ChangeAt Go.RowKit Go.Shelf
attribute [local go_sem] Oper.semAt_some
set_option maxRecDepth 100000
set_option maxHeartbeats 2000000
def encP (p : Par) (i : Nat) : Array Value := #[.int .i64 (i : Int), .int .u64 ((p.b + 16 * i : Nat) : Int)]
theorem drewN_low (w : World) (m : Nat) : Below w.heap.size w (w.drewN m) := below_drewN (Below.refl _ _) m
theorem places_iter (n : Nat) {st sb : Nat} {p : Par} (hp : p.Ok) : IterN n 34 #[.pointer (some ⟨st, 0, none⟩)] #[] (encP p) (fun _ => True) p.n (fun _ W => RowP W st sb p) := by
  intro l J W hRd hF _ hY h0
  have hnb := hp.n_bd
  have his := hp.is
  have hle := hp.le
  have hrow := hRd 0 W h0
  obtain ⟨c0, c1, c2, c3⟩ := hrow.cells
  have CL := Lib.hid (fun w (h : RowP w st sb p) => len_any hp w h)
  refine callsIn_of_wp Tryz.func34 rfl (wide_fn _) ?_ rfl
  simp only [Tryz.ntmps34, List.size_toArray, List.length_cons, List.length_nil, Nat.reduceAdd, Nat.reduceSub, Array.replicate_succ, Array.replicate_zero, List.push_toArray, List.append_toArray, List.nil_append, List.cons_append]
  gi_wp2_with ((first | (refine ⟨trivial, ?_⟩; gi_at_call 7) | (refine ⟨trivial, fun h => absurd h (by decide), ?_⟩; gi_at_call 7)); refine (callsIn_wide.2 (CL.out _ hrow)).mono ?_; rintro e w' ⟨rfl, m, rfl⟩)
  have h1 : J 0 (W.drewN m) := (hF 0).low h0 (drewN_low W m)
  clear h0 c0 c1 c2 c3 hrow CL
  gi_loopw [4, 12] (fun a i wr => ∃ k : Nat, a = .int .u64 ((p.b + 16 * k : Nat) : Int) ∧ i = .int .i64 (k : Int) ∧ k ≤ p.n ∧ J k wr) (fun _ i _ => p.n - (intOf i).toNat)
  case atStart => exact ⟨0, by simp, rfl, Nat.zero_le _, h1⟩
  case round =>
    clear h1
    obtain ⟨k, rfl, rfl, hk, hJ⟩ := hrel
    by_cases hlt : k < p.n
    · obtain ⟨fn, tmps, assign, body, hy, hR⟩ := hY (n - 1) k wr hJ hlt trivial
      unfold encP at hy
      have hlt' : (k : Int) < (p.n : Int) := by omega
      have hw := Lib.hid (show (((p.b + 16 * k : Nat) : Int) + 16) = ((p.b + 16 * (k + 1) : Nat) : Int) by omega)
      have hb : ((p.b + 16 * k : Nat) : Int) + 16 ≤ 18446744073709551615 := by omega
      clear hY
      generalize p.b + 16 * k = A at *
      gi_wp2
      refine ⟨fun h => absurd h (by decide), hR.mono ?_⟩
      rintro e W3 ⟨rfl, hJ3, _⟩
      clear hR hy hJ
      gi_wp2
      go_roundw
      case rel => exact ⟨k + 1, congrArg (Value.int .u64) hw.out, by go_num, by omega, hJ3⟩
      case measure => simp [intOf]; omega
    · obtain rfl : k = p.n := by omega
      clear hY
      gi_wp2
      go_end0
      exact ⟨⟨_, rfl⟩, hJ⟩
theorem Firm.sub {B : Nat} {I : World → Prop} (h : Firm B I) {w w' : World} (hb : Below w.heap.size w w') (hi : I w) : I w' := h _ _ hi (Soft.below hb)
/-- The words of the places from one on. -/
def Rest (st sb : Nat) (p : Par) (T0 : Nat → Pl) (i : Nat) (W : World) : Prop := ∃ bm T, TsbAt W st sb bm p T ∧ ∀ j, i ≤ j → j < p.n → T j = T0 j
def encE (p : Par) (T0 : Nat → Pl) (i : Nat) : Array Value := #[.int .u64 ((p.b + 16 * i : Nat) : Int), .agg #[.int .i64 (ownE p T0 i).size, .int .i64 (ownE p T0 i).ctx, .int .u64 (ownE p T0 i).va, .int .u64 (ownE p T0 i).pa, .bool (ownE p T0 i).att.write, .bool (ownE p T0 i).att.priv, .bool (ownE p T0 i).att.exec, .bool (ownE p T0 i).att.lock, .bool (ownE p T0 i).att.global, .bool (ownE p T0 i).att.quiet, .bool (ownE p T0 i).valid]]
theorem entries_iter (n : Nat) {st sb : Nat} {p : Par} (hp : p.Ok) (T0 : Nat → Pl) : IterN n 38 #[.pointer (some ⟨st, 0, none⟩)] #[] (encE p T0) (fun i => ownB p T0 i = true) p.n (Rest st sb p T0) := by
  intro l J W hRd hF hsk hY h0
  have hnb := hp.n_bd
  have his := hp.is
  have hle := hp.le
  refine callsIn_of_wp_marks Tryz.func38 rfl trivial ?_ rfl
  simp only [Tryz.ntmps38, List.size_toArray, List.length_cons, List.length_nil, Nat.reduceAdd, Nat.reduceSub, Array.replicate_succ, Array.replicate_zero, List.push_toArray, List.append_toArray, List.nil_append, List.cons_append]
  have z1 : Below W.heap.size W ((W.alloc (.cells #[.pointer (some ⟨st, 0, none⟩)] 23)).alloc (.cells #[.func (.yield l) #[] #[]] 101)) := ((Below.refl _ _).alloc (Nat.le_refl _) _).alloc (by simp) _
  have b1 : ((W.alloc (.cells #[.pointer (some ⟨st, 0, none⟩)] 23)).alloc (.cells #[.func (.yield l) #[] #[]] 101)).heap[W.heap.size]? = some (.cells #[.pointer (some ⟨st, 0, none⟩)] 23 (0, 0)) := (Below.heap_alloc _ _ _ (by simp)).trans (World.alloc_heap_new _ _)
  have b2 : ((W.alloc (.cells #[.pointer (some ⟨st, 0, none⟩)] 23)).alloc (.cells #[.func (.yield l) #[] #[]] 101)).heap[W.heap.size + 1]? = some (.cells #[.func (.yield l) #[] #[]] 101 (0, 0)) := by
    have := World.alloc_heap_new (W.alloc (.cells #[.pointer (some ⟨st, 0, none⟩)] 23)) (.cells #[.func (.yield l) #[] #[]] 101)
    rwa [World.size_alloc] at this
  have j1 := (hF 0).sub z1 h0
  have s1 : ((W.alloc (.cells #[.pointer (some ⟨st, 0, none⟩)] 23)).alloc (.cells #[.func (.yield l) #[] #[]] 101)).heap.size = W.heap.size + 1 + 1 := by simp
  clear h0
  gi_wp2
  generalize (World.alloc (W.alloc (.cells #[.pointer (some ⟨st, 0, none⟩)] 23)) (.cells #[.func (.yield l) #[] #[]] 101)) = W1 at *
  refine range_it (gf := 34) (bnd := #[.pointer (some ⟨st, 0, none⟩)]) (lb := #[]) rfl (enters_of Tryz.func34 (by kernel_rfl) rfl) (fun n => places_iter n (st := st) (sb := sb) hp) (fun _ => rfl)
    (fun i V => J i V ∧ V.heap[W.heap.size]? = some (.cells #[.pointer (some ⟨st, 0, none⟩)] 23 (0, 0)) ∧ V.heap[W.heap.size + 1]? = some (.cells #[.func (.yield l) #[] #[]] 101 (0, 0)))
    (fun i V h => by obtain ⟨bm, T, ht, _⟩ := hRd i V h.1; exact ht.row)
    (fun i => Firm.and ((hF i).mono (by omega)) (Firm.and (Firm.cells _ _ _ _ _) (Firm.cells _ _ _ _ _)))
    (fun _ _ _ _ h => absurd trivial h) ⟨j1, b1, b2⟩
    (fun i a' _ => a' = { tmps := #[.pointer (some ⟨st, 0, none⟩), .func (.yield l) #[] #[], .pointer (some ⟨W.heap.size, 0, none⟩), .pointer (some ⟨W.heap.size + 1, 0, none⟩), .int .i64 (i : Int), .int .u64 ((p.b + 16 * i : Nat) : Int), undef, undef, undef, .pointer (some ⟨st, 0, none⟩), .func (.func 34) #[.pointer (some ⟨st, 0, none⟩)] #[], .int .i64 (i : Int), .int .u64 ((p.b + 16 * i : Nat) : Int), undef, undef, undef, undef, undef, undef, undef, undef, undef, undef, undef, undef, undef, undef, undef, undef, undef, undef, undef, undef, undef, undef, undef, undef, undef, undef, undef, undef, undef, undef, undef], defers := [] })
    (fun i a' => Firm.pure _ _) ?assign ?body ?done
  case assign =>
    intro m l2 i V K hI hi _ hK
    unfold encP
    gi_wp2
    exact hK _ _ (Stay.refl _ _) hI rfl
  case body =>
    rintro m l2 i a' V ⟨hJ, c1, c2⟩ rfl hi _
    obtain ⟨bm, T, ht, hT⟩ := hRd i V hJ
    have hTi := hT i (Nat.le_refl _) hi
    have hU := ht.U hi
    have e1 : V.cell? ⟨W.heap.size, 0, none⟩ = some (.pointer (some ⟨st, 0, none⟩)) := cell_row 0 c1 rfl
    have e2 : V.cell? ⟨W.heap.size + 1, 0, none⟩ = some (.func (.yield l) #[] #[]) := cell_row 0 c2 rfl
    rw [hTi] at hU
    obtain ⟨v0, v1, _, _, _⟩ := adr_bd p.s (i : Int) (T0 i).t hp.hs
    have CT := Lib.hid (fun n => tag_any (V.drewN n) (ht.drewN n) hi)
    rw [hTi] at CT
    have CA := Lib.hid (fun w (h : RowP w st sb p) => address_any hp i (by omega) (T0 i).t hU.t0 hU.t1 w h)
    have HO := Lib.hid (show ownB p T0 i = (p.pl (adrI p.s i (T0 i).t) == i && rdB p.s (T0 i) (adrI p.s i (T0 i).t)) from rfl)
    have HE := Lib.hid (show ownE p T0 i = rdE p.s (T0 i) (adrI p.s i (T0 i).t) from rfl)
    generalize adrI p.s i (T0 i).t = va at *
    have hix := hp.idx va
    have CI := Lib.hid (fun w => Pt.index_any va p.s p.n v0 v1 hp.hs (by omega) (by omega) w)
    rw [hix.1] at CI
    have CE := Lib.hid (fun w (h : TsbAt w st sb bm p T) => entry_any w h hi va v0 v1)
    rw [hTi] at CE
    have CAn := Lib.hid (fun n => CA.out (V.drewN n) (ht.row.drewN n))
    generalize p.pl va = k at *
    have hk := hix.2
    have hA := Lib.hid (show p.b + 16 * i = p.b + 16 * i from rfl)
    have HY := Lib.hid (fun m V (hj : J i V) (ho : ownB p T0 i = true) => hY m i V hj hi ho)
    have HS := Lib.hid (fun V (hj : J i V) (ho : ¬ ownB p T0 i = true) => hsk i V hj hi ho)
    unfold encE at HY
    rw [HE.out] at HY
    generalize rdE p.s (T0 i) va = RE at *
    generalize rdB p.s (T0 i) va = RB at *
    generalize p.b + 16 * i = A at *
    clear hY hsk HE hA hix CA hTi hT hU
    gi_wp2
    refine region_quiet_round (by kernel_rfl) (by kernel_rfl) (by kernel_rfl) ?_
    repeat (go_big_quiet_step (first | (go_at_call 35; (with_reducible refine (CT.out _).mono ?_); rintro e w' ⟨rfl, rfl⟩; exact ⟨rfl, _, rfl⟩) | (go_at_call 64; (with_reducible refine (CAn.out _).mono ?_); rintro e w' ⟨rfl, m2, rfl⟩; exact ⟨rfl, _, by rw [World.drewN_drewN]⟩)))
    refine wpQuiet_nil ?_
    rintro _ ⟨n1, rfl⟩
    have k1 : Stay W.heap.size V (V.drewN n1) := Stay.below (drewN_low V n1)
    have ht1 := ht.drewN n1
    have hJ1 := (hF i).sub (drewN_low V n1) hJ
    have c11 : (V.drewN n1).heap[W.heap.size]? = some (.cells #[.pointer (some ⟨st, 0, none⟩)] 23 (0, 0)) := c1
    have c12 : (V.drewN n1).heap[W.heap.size + 1]? = some (.cells #[.func (.yield l) #[] #[]] 101 (0, 0)) := c2
    clear CT CAn e1 e2 c1 c2 ht hJ
    generalize World.drewN V n1 = V1 at *
    have e1 : V1.cell? ⟨W.heap.size, 0, none⟩ = some (.pointer (some ⟨st, 0, none⟩)) := cell_row 0 c11 rfl
    obtain ⟨_, _, q2, _⟩ := ht1.row.cells
    have CLn := Lib.hid (fun n => len_any hp (V1.drewN n) (ht1.row.drewN n))
    gi_wp2
    refine region_quiet_round (by kernel_rfl) (by kernel_rfl) (by kernel_rfl) ?_
    repeat (go_big_quiet_step (first | (go_at_call 7; (with_reducible refine (CLn.out _).mono ?_); rintro e w' ⟨rfl, m2, rfl⟩; exact ⟨rfl, _, by rw [World.drewN_drewN]⟩) | (go_at_call 65; (with_reducible refine (CI.out _).mono ?_); rintro e w' ⟨rfl, m2, rfl⟩; exact ⟨rfl, _, by rw [World.drewN_drewN]⟩)))
    refine wpQuiet_nil ?_
    rintro _ ⟨n2, rfl⟩
    have k2 : Stay W.heap.size V (V1.drewN n2) := k1.trans (Stay.below (drewN_low V1 n2))
    have ht2 := ht1.drewN n2
    have hJ2 := (hF i).sub (drewN_low V1 n2) hJ1
    have c21 : (V1.drewN n2).heap[W.heap.size]? = some (.cells #[.pointer (some ⟨st, 0, none⟩)] 23 (0, 0)) := c11
    have c22 : (V1.drewN n2).heap[W.heap.size + 1]? = some (.cells #[.func (.yield l) #[] #[]] 101 (0, 0)) := c12
    clear CLn CI e1 q2 c11 c12 ht1 hJ1 k1
    generalize World.drewN V1 n2 = V2 at *
    have e1 : V2.cell? ⟨W.heap.size, 0, none⟩ = some (.pointer (some ⟨st, 0, none⟩)) := cell_row 0 c21 rfl
    have hsz2 := (Array.getElem?_eq_some_iff.1 c22).1
    by_cases hki : k = i
    · subst hki
      gi_wp2_with (fail)
      (first | (refine ⟨trivial, ?_⟩; gi_at_call 50) | (refine ⟨trivial, fun h => absurd h (by decide), ?_⟩; gi_at_call 50))
      refine (CallsIn.inRound l2 (callsIn_wide.2 (CE.out _ ht2))).mono ?_
      rintro e w3 ⟨rfl, hb3⟩
      have NL : Below w3.heap.size w3 (w3.alloc (.cells #[.int .i64 RE.size, .int .i64 RE.ctx, .int .u64 RE.va, .int .u64 RE.pa, .bool RE.att.write, .bool RE.att.priv, .bool RE.att.exec, .bool RE.att.lock, .bool RE.att.global, .bool RE.att.quiet, .bool RE.valid] 35)) := (Below.refl _ _).alloc (Nat.le_refl _) _
      have NR := RowE.new w3 RE
      have hb4 := hb3.trans (NL.mono hb3.size)
      have k4 := k2.trans (Stay.below (B := W.heap.size) hb4)
      have hJ4 := (hF k).sub hb4 hJ2
      have c41 := (hb4.block _ (by omega)).trans c21
      have c42 := (hb4.block _ (by omega)).trans c22
      clear CE NL hb4 hb3 hJ2 c21 c22 k2 ht2 e1
      cases RB
      · have hno : ¬ ownB p T0 k = true := by
          rw [HO.out, Bool.and_false]; simp
        have hJ5 := HS.out _ hJ4 hno
        clear HO HS HY hno NR
        gi_wp2
        refine ⟨(fun _ h => by cases h), ?_⟩
        gi_wp2
        exact ⟨k4.mono (by omega), hJ5, c41, c42⟩
      · have hyes : ownB p T0 k = true := by
          rw [HO.out, beq_self_eq_true]; rfl
        obtain ⟨fn, tmps, assign, body, hy, hR⟩ := HY.out (m - 1) _ hJ4 hyes
        clear HO HS HY hyes
        have e2 := cell_row 0 c42 rfl
        obtain ⟨d0, d1, d2, d3, d4, d5, d6, d7, d8, d9, d10⟩ := NR.cells
        gi_wp2
        refine ⟨fun h => absurd h (by decide), RoundIn.mono (show RoundIn (Fence.wide.inRound l2) (m - 1) Tryz.prog _ _ _ _ _ _ _ from hR) ?_⟩
        rintro e W5 ⟨rfl, hJ5, k5⟩
        clear hR hy e2 d0 d1 d2 d3 d4 d5 d6 d7 d8 d9 d10 NR
        have c51 := k5 _ _ (Nat.le_refl _) c41 rfl
        have c52 := k5 _ _ (Nat.le_succ _) c42 rfl
        gi_wp2
        exact ⟨(k4.trans k5).mono (by omega), hJ5, c51, c52⟩
    · have hno : ¬ ownB p T0 i = true := by
        rw [HO.out, beq_false_of_ne hki]; simp
      have hJ3 := HS.out _ hJ2 hno
      have hki' : ¬ (k : Int) = (i : Int) := by omega
      clear HO HS HY CE hki hno
      gi_wp2
      exact ⟨k2.mono (by omega), hJ3, c21, c22⟩
  case done =>
    rintro V ⟨hJ, _, _⟩ hK
    unfold lastMark
    gi_wp2
    refine ⟨by simp, .inl ⟨_, _, rfl, run_takeDeferred hK, ?_⟩⟩
    exact ⟨_, results_none rfl _ _ _, ⟨_, rfl⟩, hF _ _ _ hJ (Soft.put hK trivial (by omega))⟩
end Go.Proofs.YtgdagfhdimoklaaGreat.Ts
/-
  Contracts of Locked and Clear of package tsb. Conditions: they read a TSB that is there.
-/
namespace Go.Proofs.YtgdagfhdimoklaaGreat.Ts
open Fld
open Pt (idxI idx_bd slotI lastI)
open Mem (MemAt MemTo word setW)
open Go.ChangeShapes Go.WideShapes Go.ChangeAt Go.RowKit Go.Shelf
attribute [local go_sem] Oper.semAt_some
set_option maxRecDepth 100000
set_option maxHeartbeats 2000000
theorem Firm.tsb (B st sb bm : Nat) (p : Par) (T : Nat → Pl) : Firm B (fun V => TsbAt V st sb bm p T) := fun _ _ h hs => h.soft hs
theorem Firm.bel {w : World} {B : Nat} (hB : w.heap.size ≤ B) : Firm B (fun V => Below w.heap.size w V) := fun _ _ h hs =>
  ⟨hs.os.trans h.os, hs.tape.trans h.tape, hs.output.trans h.output, Nat.le_trans h.size hs.size, fun k hk => (hs.block k (Nat.lt_of_lt_of_le hk h.size) (.inl (by omega))).trans (h.block k hk)⟩
theorem Firm.turn {w : World} {B : Nat} (sb bm : Nat) (hB : w.heap.size ≤ B) : Firm B (fun V => Mem.Turn w V sb bm) := fun _ _ h hs =>
  ⟨hs.os.trans h.os, hs.tape.trans h.tape, hs.output.trans h.output, Nat.le_trans h.size hs.size, fun k hk h1 h2 => (hs.block k (Nat.lt_of_lt_of_le hk h.size) (.inl (by omega))).trans (h.block k hk h1 h2)⟩
theorem Firm.ex {α : Type} {B : Nat} {I : α → World → Prop} (h : ∀ a, Firm B (I a)) : Firm B (fun V => ∃ a, I a V) := fun V V' ⟨a, ha⟩ hs => ⟨a, h a V V' ha hs⟩
/-- A box of one cell is none of a TSB's blocks. -/
theorem TsbAt.ne_box {w : World} {st sb bm b : Nat} {p : Par} {T : Nat → Pl} (h : TsbAt w st sb bm p T) {v : Value} {t : TypeId} {f : Nat × Nat} (hb : w.heap[b]? = some (.cells #[v] t f)) : b ≠ st ∧ b ≠ sb ∧ b ≠ bm := by
  obtain ⟨g, hm, _⟩ := h.mem
  obtain ⟨m, _, h1⟩ := hm.row
  obtain ⟨D, ⟨es, clock, h2, _⟩, _⟩ := hm.words
  refine ⟨?_, ?_, ?_⟩
  · rintro rfl; rw [h.row.row] at hb; simp at hb
  · rintro rfl; rw [h1] at hb; simp at hb
  · rintro rfl; rw [h2] at hb; cases hb
theorem TsbAt.setBox {w : World} {st sb bm b : Nat} {p : Par} {T : Nat → Pl} (h : TsbAt w st sb bm p T) {v : Value} {t : TypeId} {f : Nat × Nat} (hb : w.heap[b]? = some (.cells #[v] t f)) (u : Value) : TsbAt (w.setCell ⟨b, 0, none⟩ u) st sb bm p T := by
  obtain ⟨a, b, c⟩ := h.ne_box hb
  exact h.same (Below.heap_setCell _ _ _ _ (Ne.symm a)) (Below.heap_setCell _ _ _ _ (Ne.symm b)) (Below.heap_setCell _ _ _ _ (Ne.symm c))
theorem box_turn {w w' : World} {st sb bm b : Nat} {p : Par} {T : Nat → Pl} (h : TsbAt w st sb bm p T) (ht : Mem.Turn w w' sb bm) {v : Value} {t : TypeId} {f : Nat × Nat} (hb : w.heap[b]? = some (.cells #[v] t f)) : w'.heap[b]? = some (.cells #[v] t f) :=
  stay_turn (B := 0) h ht b _ (Nat.zero_le _) hb rfl
theorem box_set {w : World} {b : Nat} {v : Value} {t : TypeId} {f : Nat × Nat} (hb : w.heap[b]? = some (.cells #[v] t f)) (u : Value) : (w.setCell ⟨b, 0, none⟩ u).heap[b]? = some (.cells #[u] t f) := by
  rw [Mem.heap_set hb]; rfl
theorem box_other {w : World} {b c : Nat} {o : Obj} (hb : w.heap[b]? = some o) (h : b ≠ c) (u : Value) : (w.setCell ⟨c, 0, none⟩ u).heap[b]? = some o := (Below.heap_setCell _ _ _ _ h).trans hb
theorem alloc_old {w : World} {b : Nat} {o : Obj} (hb : w.heap[b]? = some o) (o' : Obj) : (w.alloc o').heap[b]? = some o := (Below.heap_alloc _ _ _ (Array.getElem?_eq_some_iff.1 hb).1).trans hb
theorem alloc_new2 (w : World) (o o' : Obj) : ((w.alloc o).alloc o').heap[w.heap.size + 1]? = some o' := by
  have := World.alloc_heap_new (w.alloc o) o'
  rwa [World.size_alloc] at this
theorem locked_any {st sb bm : Nat} {p : Par} {T : Nat → Pl} (w : World) (h : TsbAt w st sb bm p T) :
    Calls Tryz.prog 8 #[.pointer (some ⟨st, 0, none⟩)] w fun e w' => e = .returned (.int .i64 (lckN T p.n : Int)) ∧ Below w.heap.size w w' := by
  have hnb := h.ok.n_bd
  refine (callsIn_wide (n := 3)).1 ?_
  refine callsIn_of_wp_marks Tryz.func8 rfl trivial ?_ rfl; simp only [Tryz.ntmps8, List.size_toArray, List.length_cons, List.length_nil, Nat.reduceAdd, Nat.reduceSub, Array.replicate_succ, Array.replicate_zero, List.push_toArray, List.append_toArray, List.nil_append, List.cons_append]
  have z1 : Below w.heap.size w ((w.alloc (.cells #[.pointer (some ⟨st, 0, none⟩)] 23)).alloc (.cells #[.int .i64 0] 3)) := ((Below.refl _ _).alloc (Nat.le_refl _) _).alloc (by simp) _
  have b1 : ((w.alloc (.cells #[.pointer (some ⟨st, 0, none⟩)] 23)).alloc (.cells #[.int .i64 0] 3)).heap[w.heap.size]? = some (.cells #[.pointer (some ⟨st, 0, none⟩)] 23 (0, 0)) := alloc_old (World.alloc_heap_new _ _) _
  have b2 : ((w.alloc (.cells #[.pointer (some ⟨st, 0, none⟩)] 23)).alloc (.cells #[.int .i64 0] 3)).heap[w.heap.size + 1]? = some (.cells #[.int .i64 0] 3 (0, 0)) := alloc_new2 _ _ _
  have s1 : ((w.alloc (.cells #[.pointer (some ⟨st, 0, none⟩)] 23)).alloc (.cells #[.int .i64 0] 3)).heap.size = w.heap.size + 1 + 1 := by simp
  have h1 := h.low z1
  have hl := h.lt
  have hok := h.ok
  clear h
  gi_wp2
  generalize (World.alloc (w.alloc (.cells #[.pointer (some ⟨st, 0, none⟩)] 23)) (.cells #[.int .i64 0] 3)) = W1 at *
  refine range_it (n := 3) (gf := 34) (bnd := #[.pointer (some ⟨st, 0, none⟩)]) (lb := #[]) rfl (enters_of Tryz.func34 (by kernel_rfl) rfl) (fun n => places_iter n (st := st) (sb := sb) hok) (fun _ => rfl)
    (fun i V => Below w.heap.size w V ∧ TsbAt V st sb bm p T ∧ V.heap[w.heap.size]? = some (.cells #[.pointer (some ⟨st, 0, none⟩)] 23 (0, 0)) ∧ V.heap[w.heap.size + 1]? = some (.cells #[.int .i64 (lckN T i : Int)] 3 (0, 0)))
    (fun i V h => h.2.1.row)
    (fun i => Firm.and (Firm.bel (by omega)) (Firm.and (Firm.tsb _ _ _ _ _ _) (Firm.and (Firm.cells _ _ _ _ _) (Firm.cells _ _ _ _ _))))
    (fun _ _ _ _ h => absurd trivial h) ⟨z1, h1, b1, b2⟩
    (fun i a' _ => a' = { tmps := #[.pointer (some ⟨st, 0, none⟩), .pointer (some ⟨w.heap.size, 0, none⟩), .int .i64 0, .pointer (some ⟨w.heap.size + 1, 0, none⟩), undef, .int .u64 ((p.b + 16 * i : Nat) : Int), .pointer (some ⟨st, 0, none⟩), .func (.func 34) #[.pointer (some ⟨st, 0, none⟩)] #[], .int .i64 (i : Int), .int .u64 ((p.b + 16 * i : Nat) : Int), undef, undef, undef, undef, undef, undef, undef, undef], defers := [] })
    (fun i a' => Firm.pure _ _) ?assign ?body ?done
  case assign =>
    intro m l2 i V K hI hi _ hK
    unfold encP
    gi_wp2
    exact hK _ _ (Stay.refl _ _) hI rfl
  case body =>
    rintro m l2 i a' V ⟨hB, ht, c1, c2⟩ rfl hi _
    have CT := Lib.hid (tag_any V ht hi)
    have e1 := cell_row 0 c1 rfl
    have e2 := cell_row 0 c2 rfl
    have fz : V.frozen? ⟨w.heap.size + 1, 0, none⟩ = false := by simp [World.frozen?, c2]
    have hle := lck_le T i
    generalize p.b + 16 * i = A at *
    by_cases hb : (T i).t = 9223372036854775807
    · have HN := Lib.hid (lck_hit hb)
      rw [hb] at CT
      clear hb
      gi_wp2_with (first | ((first | (refine ⟨trivial, ?_⟩; gi_at_call 35) | (refine ⟨trivial, fun h => absurd h (by decide), ?_⟩; gi_at_call 35)); refine (CallsIn.inRound l2 (callsIn_wide.2 CT.out)).mono ?_; rintro e w' ⟨rfl, rfl⟩) | ((first | (refine ⟨trivial, ?_⟩; gi_at_call 36) | (refine ⟨trivial, fun h => absurd h (by decide), ?_⟩; gi_at_call 36)); refine (CallsIn.inRound l2 (callsIn_wide.2 (tbad_any _))).mono ?_; rintro e w' ⟨rfl, rfl⟩))
      refine ⟨Stay.cell _ _ _ (by show w.heap.size + 1 < _; omega), hB.setCell (p := ⟨w.heap.size + 1, 0, none⟩) (Nat.le_succ _) _, ht.setBox c2 _, box_other c1 (by omega) _, ?_⟩
      rw [HN.out, box_set c2]; simp
    · have HN := Lib.hid (lck_miss hb)
      gi_wp2_with (first | ((first | (refine ⟨trivial, ?_⟩; gi_at_call 35) | (refine ⟨trivial, fun h => absurd h (by decide), ?_⟩; gi_at_call 35)); refine (CallsIn.inRound l2 (callsIn_wide.2 CT.out)).mono ?_; rintro e w' ⟨rfl, rfl⟩) | ((first | (refine ⟨trivial, ?_⟩; gi_at_call 36) | (refine ⟨trivial, fun h => absurd h (by decide), ?_⟩; gi_at_call 36)); refine (CallsIn.inRound l2 (callsIn_wide.2 (tbad_any _))).mono ?_; rintro e w' ⟨rfl, rfl⟩))
      exact ⟨Stay.refl _ _, hB, ht, c1, by rw [HN.out]; exact c2⟩
  case done =>
    rintro V ⟨hB, ht, _, c2⟩ hK
    have e2 := cell_row 0 c2 rfl
    unfold lastMark
    gi_wp2
    refine ⟨by simp, .inl ⟨_, _, rfl, run_takeDeferred hK, ?_⟩⟩
    exact ⟨_, results_tmp rfl _ _ _, rfl, (Firm.bel (B := W1.heap.size) (by omega)) _ _ hB (Soft.put hK trivial (by omega))⟩
theorem clear_any {st sb bm : Nat} {p : Par} {T : Nat → Pl} (w : World) (h : TsbAt w st sb bm p T) :
    Calls Tryz.prog 31 #[.pointer (some ⟨st, 0, none⟩)] w fun e w' => e = .returned (.tuple #[]) ∧ TsbTo w w' st sb bm p (fun _ => Pl.none) := by
  have hnb := h.ok.n_bd
  refine (callsIn_wide (n := 3)).1 ?_
  refine callsIn_of_wp_marks Tryz.func31 rfl trivial ?_ rfl; simp only [Tryz.ntmps31, List.size_toArray, List.length_cons, List.length_nil, Nat.reduceAdd, Nat.reduceSub, Array.replicate_succ, Array.replicate_zero, List.push_toArray, List.append_toArray, List.nil_append, List.cons_append]
  have z1 : Below w.heap.size w (w.alloc (.cells #[.pointer (some ⟨st, 0, none⟩)] 23)) := (Below.refl _ _).alloc (Nat.le_refl _) _
  have b1 : (w.alloc (.cells #[.pointer (some ⟨st, 0, none⟩)] 23)).heap[w.heap.size]? = some (.cells #[.pointer (some ⟨st, 0, none⟩)] 23 (0, 0)) := World.alloc_heap_new _ _
  have s1 : (w.alloc (.cells #[.pointer (some ⟨st, 0, none⟩)] 23)).heap.size = w.heap.size + 1 := by simp
  have h1 := h.low z1
  have hl := h.lt
  have hok := h.ok
  clear h
  gi_wp2
  generalize (World.alloc w (.cells #[.pointer (some ⟨st, 0, none⟩)] 23)) = W1 at *
  refine range_it (n := 3) (gf := 34) (bnd := #[.pointer (some ⟨st, 0, none⟩)]) (lb := #[]) rfl (enters_of Tryz.func34 (by kernel_rfl) rfl) (fun n => places_iter n (st := st) (sb := sb) hok) (fun _ => rfl)
    (fun i V => (∃ b', TsbAt V st sb b' p (fun j => if j < i then Pl.none else T j) ∧ (b' = bm ∨ w.heap.size ≤ b')) ∧ Mem.Turn w V sb bm ∧ V.heap[w.heap.size]? = some (.cells #[.pointer (some ⟨st, 0, none⟩)] 23 (0, 0)))
    (fun i V h => by obtain ⟨⟨b', ht, _⟩, _⟩ := h; exact ht.row)
    (fun i => Firm.and (Firm.ex fun b' => Firm.and (Firm.tsb _ _ _ _ _ _) (Firm.pure _ _)) (Firm.and (Firm.turn _ _ (by omega)) (Firm.cells _ _ _ _ _)))
    (fun _ _ _ _ h => absurd trivial h) ⟨⟨bm, h1.congr (fun _ _ => by simp), .inl rfl⟩, turn_low _ _ z1, b1⟩
    (fun i a' _ => a' = { tmps := #[.pointer (some ⟨st, 0, none⟩), .pointer (some ⟨w.heap.size, 0, none⟩), undef, .int .u64 ((p.b + 16 * i : Nat) : Int), .pointer (some ⟨st, 0, none⟩), .func (.func 34) #[.pointer (some ⟨st, 0, none⟩)] #[], .int .i64 (i : Int), .int .u64 ((p.b + 16 * i : Nat) : Int), undef, undef, undef], defers := [] })
    (fun i a' => Firm.pure _ _) ?assign ?body ?done
  case assign =>
    intro m l2 i V K hI hi _ hK
    unfold encP
    gi_wp2
    exact hK _ _ (Stay.refl _ _) hI rfl
  case body =>
    rintro m l2 i a' V ⟨⟨b', ht, hb'⟩, htn, c1⟩ rfl hi _
    have CE := Lib.hid (empty_any V ht hi)
    have e1 := cell_row 0 c1 rfl
    have hT : setP (fun j => if j < i then Pl.none else T j) i Pl.none = (fun j => if j < i + 1 then Pl.none else T j) := by
      funext j
      show (if j = i then Pl.none else if j < i then Pl.none else T j) = (if j < i + 1 then Pl.none else T j)
      by_cases h1 : j = i
      · subst h1; rw [if_pos rfl, if_pos (by omega)]
      · rw [if_neg h1]
        by_cases h2 : j < i
        · rw [if_pos h2, if_pos (by omega)]
        · rw [if_neg h2, if_neg (by omega)]
    rw [hT] at CE
    have hsz := htn.size
    clear hT
    generalize p.b + 16 * i = A at *
    gi_wp2_with (((first | (refine ⟨trivial, ?_⟩; gi_at_call 57) | (refine ⟨trivial, fun h => absurd h (by decide), ?_⟩; gi_at_call 57)); refine (CallsIn.inRound l2 (callsIn_wide.2 CE.out)).mono ?_; rintro e w' ⟨rfl, b2, t2, n2, u2⟩))
    refine ⟨stay_turn ht u2, ⟨b2, t2, ?_⟩, htn.trans u2 hb', box_turn ht u2 c1⟩
    rcases n2 with rfl | n2
    · exact hb'
    · exact .inr (by omega)
  case done =>
    rintro V ⟨⟨b', ht, hb'⟩, htn, c1⟩ hK
    unfold lastMark
    gi_wp2
    refine ⟨by simp, .inl ⟨_, _, rfl, run_takeDeferred hK, ?_⟩⟩
    have hs := Soft.put (B := W1.heap.size) (o' := .deferred none) hK trivial (by omega)
    exact ⟨_, results_none rfl _ _ _, rfl, b', (ht.soft hs).congr (fun i hi => if_pos hi), hb', (Firm.turn (B := W1.heap.size) _ _ (by omega)) _ _ htn hs⟩
end Go.Proofs.YtgdagfhdimoklaaGreat.Ts
/-
  Contract of New of package tsb. Conditions: it is given a memory that is there.
-/
namespace Go.Proofs.YtgdagfhdimoklaaGreat.Ts
open Fld
open Pt (idxI idx_bd slotI lastI)
open Mem (MemAt MemTo word setW mayI)
open Go.ChangeShapes Go.WideShapes Go.ChangeAt Go.RowKit Go.Shelf
set_option maxRecDepth 100000
set_option maxHeartbeats 2000000
def newE (S b s g : Int) : Int := if placesI s g = 0 then 1 else if mayI S b 16 16 = 0 then mayI S (lastI b (placesI s g)) 16 16 else mayI S b 16 16
theorem ret_vi {v : Value} {i k : Int} (g : i = k) : Ending.returned (.tuple #[v, .int .i64 i]) = .returned (.tuple #[v, .int .i64 k]) := by subst g; rfl
theorem index_two (b L : Int) (k : Nat) (hk : k < 2) (w : World) : (Instr.index 85 (.agg #[.int .u64 b, .int .u64 L]) (.int .i64 (k : Int))).run Tryz.prog w = .ok (.int .u64 (if k = 0 then b else L)) w := by
  have : k = 0 ∨ k = 1 := by omega
  rcases this with rfl | rfl <;> (show _ = _; kernel_rfl)
theorem new_no (S : Nat) (g0 : Nat → Nat) (sb bm : Nat) (b s g : Int) (b0 : 0 ≤ b) (b1 : b ≤ 18446744073709551615) (w : World) (h : MemAt w sb bm S g0) (he : newE S b s g ≠ 0) :
    Calls Tryz.prog 22 #[.pointer (some ⟨sb, 0, none⟩), .int .u64 b, .int .i64 s, .int .i64 g] w fun e w' => e = .returned (.tuple #[.pointer none, .int .i64 (newE S b s g)]) ∧ ∃ m, w' = w.drewN m := by
  have CP := Lib.hid (fun W => places_any s g W)
  by_cases h0 : placesI s g = 0
  · have H := Lib.hid (show (1 : Int) = newE S b s g by unfold newE; rw [if_pos h0])
    rw [h0] at CP
    clear he h
    go_enter Tryz.func22, Tryz.ntmps22
    go_wp2_with (go_at_call 33; refine (CP.out _).mono ?_; rintro e w' ⟨rfl, rfl⟩)
    go_ret2
    exact ⟨ret_vi H.out, 0, rfl⟩
  · have hok : sizeB s = true ∧ 0 ≤ g ∧ g ≤ 3 := by
      by_cases hh : sizeB s = true ∧ 0 ≤ g ∧ g ≤ 3
      · exact hh
      · exact absurd (places_no hh) h0
    have hbd := places_bd hok.1 hok.2.1 hok.2.2
    have HE := Lib.hid (show newE S b s g = if mayI S b 16 16 = 0 then mayI S (lastI b (placesI s g)) 16 16 else mayI S b 16 16 by unfold newE; rw [if_neg h0])
    have CL := Lib.hid (fun W => Pt.last_any b (placesI s g) b0 b1 hbd.1 hbd.2 W)
    have hlb : 0 ≤ lastI b (placesI s g) ∧ lastI b (placesI s g) ≤ 18446744073709551615 := by unfold lastI; split <;> omega
    have C1 := Lib.hid (fun n => Mem.pair_any sb bm S g0 b (w.drewN n) (h.drewN n) b0 (by omega))
    have C2 := Lib.hid (fun n => Mem.pair_any sb bm S g0 (lastI b (placesI s g)) (w.drewN n) (h.drewN n) hlb.1 (by omega))
    generalize newE S b s g = EE at *
    generalize lastI b (placesI s g) = L at *
    generalize placesI s g = n at *
    generalize hm1 : mayI S b 16 16 = E1 at *
    generalize hm2 : mayI S L 16 16 = E2 at *
    generalize Mem.rdP S g0 b 0 = x1 at *
    generalize Mem.rdP S g0 b 8 = x2 at *
    generalize Mem.rdP S g0 L 0 = y1 at *
    generalize Mem.rdP S g0 L 8 = y2 at *
    clear h hm1 hm2 hok
    have hn0 : ¬ n = 0 := h0
    have hix := index_two b L
    go_enter Tryz.func22, Tryz.ntmps22
    go_wp2_with (first | (go_at_call 33; refine (CP.out _).mono ?_; rintro e w' ⟨rfl, rfl⟩) | (go_at_call 48; refine (CL.out _).mono ?_; rintro e w' ⟨rfl, m0, rfl⟩))
    go_loopw [27] (fun i wr => ∃ k m : Nat, i = .int .i64 (k : Int) ∧ k ≤ 2 ∧ (1 ≤ k → E1 = 0) ∧ (2 ≤ k → E2 = 0) ∧ wr = w.drewN m) (fun i _ => 2 - (intOf i).toNat)
    case atStart => exact ⟨0, m0, rfl, by omega, fun h => by omega, fun h => by omega, rfl⟩
    case round =>
      obtain ⟨k, m, rfl, hk, k1, k2, rfl⟩ := hrel
      by_cases hlt : k < 2
      · have C := Lib.hid (fun n => if h : k = 0 then (show Calls Tryz.prog 49 #[.pointer (some ⟨sb, 0, none⟩), .int .u64 (if k = 0 then b else L)] (w.drewN n) fun e w' => e = .returned (.tuple #[.int .u64 (if k = 0 then x1 else y1), .int .u64 (if k = 0 then x2 else y2), .int .i64 (if k = 0 then E1 else E2)]) ∧ ∃ m, w' = (w.drewN n).drewN m by rw [if_pos h, if_pos h, if_pos h, if_pos h]; exact C1.out n) else (show Calls Tryz.prog 49 #[.pointer (some ⟨sb, 0, none⟩), .int .u64 (if k = 0 then b else L)] (w.drewN n) fun e w' => e = .returned (.tuple #[.int .u64 (if k = 0 then x1 else y1), .int .u64 (if k = 0 then x2 else y2), .int .i64 (if k = 0 then E1 else E2)]) ∧ ∃ m, w' = (w.drewN n).drewN m by rw [if_neg h, if_neg h, if_neg h, if_neg h]; exact C2.out n))
        have hi := hix k hlt
        have hE0 := Lib.hid (show (if k = 0 then E1 else E2) = 0 → ((1 ≤ k + 1 → E1 = 0) ∧ (2 ≤ k + 1 → E2 = 0)) from fun hz => by
          by_cases h : k = 0
          · rw [if_pos h] at hz; exact ⟨fun _ => hz, fun h2 => by omega⟩
          · rw [if_neg h] at hz; exact ⟨fun _ => k1 (by omega), fun _ => hz⟩)
        have hE1 := Lib.hid (show (if k = 0 then E1 else E2) ≠ 0 → (if k = 0 then E1 else E2) = EE from fun hz => by
          rw [HE.out]
          by_cases h : k = 0
          · rw [if_pos h] at hz ⊢; rw [if_neg hz]
          · rw [if_neg h] at hz ⊢; rw [if_pos (k1 (by omega))])
        clear hix C1 C2 k1 k2 HE
        generalize (if k = 0 then E1 else E2) = E at *
        generalize (if k = 0 then b else L) = X at *
        generalize (if k = 0 then x1 else y1) = xx at *
        generalize (if k = 0 then x2 else y2) = yy at *
        have hlt' : (k : Int) < 2 := by omega
        by_cases e1 : E = 0
        · have hr := Lib.hid (hE0.out e1)
          rw [e1] at C
          clear e1 hE0 hE1
          go_wp2_with (go_at_call 49; (with_reducible refine (C.out _).mono ?_); rintro e w' ⟨rfl, m2, rfl⟩)
          go_roundw
          case rel => exact ⟨k + 1, m + m2, by go_num, by omega, hr.out.1, hr.out.2, rfl⟩
          case measure => simp [intOf]; omega
        · have HX := Lib.hid (hE1.out e1)
          clear hE0 hE1
          go_wp2_with (go_at_call 49; (with_reducible refine (C.out _).mono ?_); rintro e w' ⟨rfl, m2, rfl⟩)
          go_ret2
          exact ⟨ret_vi HX.out, m + m2, rfl⟩
      · have e1 := k1 (by omega)
        have e2 := k2 (by omega)
        rw [HE.out, if_pos e1] at he
        exact absurd e2 he
theorem may_in {S a : Int} (h : mayI S a 16 16 = 0) : a % 16 = 0 ∧ a + 16 ≤ S := by
  unfold mayI at h; split at h
  · omega
  · split at h <;> omega
theorem new_par {S : Nat} {b s g : Int} (hS : S ≤ 2199023255552) (b0 : 0 ≤ b) (he : newE S b s g = 0) : (⟨S, b.toNat, (placesI s g).toNat, s, g⟩ : Par).Ok := by
  unfold newE at he
  split at he
  · omega
  · rename_i h0
    have hok : sizeB s = true ∧ 0 ≤ g ∧ g ≤ 3 := by
      by_cases hh : sizeB s = true ∧ 0 ≤ g ∧ g ≤ 3
      · exact hh
      · exact absurd (places_no hh) h0
    have hbd := places_bd hok.1 hok.2.1 hok.2.2
    split at he
    · rename_i h1
      have q1 := may_in h1
      have q2 := may_in he
      unfold lastI at q2
      rw [if_pos (by omega)] at q2
      exact ⟨hok.1, hok.2.1, hok.2.2, by show ((placesI s g).toNat : Int) = placesI s g; omega, by show b.toNat % 16 = 0; omega, by show b.toNat + 16 * (placesI s g).toNat ≤ S; omega, hS⟩
    · rename_i h1; exact absurd he h1
theorem new_yes (S : Nat) (g0 : Nat → Nat) (sb bm : Nat) (b s g : Int) (b0 : 0 ≤ b) (b1 : b ≤ 18446744073709551615) (w : World) (h : MemAt w sb bm S g0) (he : newE S b s g = 0) :
    Calls Tryz.prog 22 #[.pointer (some ⟨sb, 0, none⟩), .int .u64 b, .int .i64 s, .int .i64 g] w fun e w' => e = .returned (.tuple #[.pointer (some ⟨w.heap.size, 0, none⟩), .int .i64 0]) ∧ ∃ bm', TsbAt w' w.heap.size sb bm' ⟨S, b.toNat, (placesI s g).toNat, s, g⟩ (fun _ => Pl.none) ∧ (bm' = bm ∨ w.heap.size ≤ bm') ∧ Mem.Turn w w' sb bm := by
  have hok := new_par h.good.le b0 he
  have CP := Lib.hid (fun W => places_any s g W)
  unfold newE at he
  by_cases h0 : placesI s g = 0
  · rw [if_pos h0] at he; exact absurd he (by decide)
  · rw [if_neg h0] at he
    have hn := hok.n_bd
    have hbd : 1 ≤ placesI s g ∧ placesI s g ≤ 4096 := by
      have e1 : 1 ≤ (placesI s g).toNat := hn.1
      have e2 : (placesI s g).toNat ≤ 4096 := hn.2
      omega
    have CL := Lib.hid (fun W => Pt.last_any b (placesI s g) b0 b1 hbd.1 hbd.2 W)
    have hlb : 0 ≤ lastI b (placesI s g) ∧ lastI b (placesI s g) ≤ 18446744073709551615 := by unfold lastI; split <;> omega
    have C1 := Lib.hid (fun n => Mem.pair_any sb bm S g0 b (w.drewN n) (h.drewN n) b0 (by omega))
    have C2 := Lib.hid (fun n => Mem.pair_any sb bm S g0 (lastI b (placesI s g)) (w.drewN n) (h.drewN n) hlb.1 (by omega))
    have e1 : mayI S b 16 16 = 0 := by
      by_cases hh : mayI S b 16 16 = 0
      · exact hh
      · rw [if_neg hh] at he; exact absurd he hh
    rw [if_pos e1] at he
    rw [e1] at C1
    rw [he] at C2
    have HC := Lib.hid (fun W (hW : TsbAt W w.heap.size sb bm ⟨S, b.toNat, (placesI s g).toNat, s, g⟩ (fun i => ⟨((word g0 (b.toNat + 16 * i) : Nat) : Int), ((word g0 (b.toNat + 16 * i + 8) : Nat) : Int)⟩)) => clear_any W hW)
    have HT := Lib.hid (show ∀ m, TsbAt ((w.drewN m).alloc (.cells #[.pointer (some ⟨sb, 0, none⟩), .int .u64 b, .int .i64 s, .int .i64 g] 70)) w.heap.size sb bm ⟨S, b.toNat, (placesI s g).toNat, s, g⟩ (fun i => ⟨((word g0 (b.toNat + 16 * i) : Nat) : Int), ((word g0 (b.toNat + 16 * i + 8) : Nat) : Int)⟩) from fun m => by
      refine ⟨hok, ⟨?_⟩, g0, (h.drewN m).same (Below.heap_alloc _ _ _ h.lt.1) (Below.heap_alloc _ _ _ h.lt.2), fun i _ => ⟨rfl, rfl⟩⟩
      have := World.alloc_heap_new (w.drewN m) (.cells #[.pointer (some ⟨sb, 0, none⟩), .int .u64 b, .int .i64 s, .int .i64 g] 70)
      rw [show ((⟨S, b.toNat, (placesI s g).toNat, s, g⟩ : Par).b : Int) = b from Int.toNat_of_nonneg b0]
      exact this)
    generalize lastI b (placesI s g) = L at *
    generalize (⟨S, b.toNat, (placesI s g).toNat, s, g⟩ : Par) = P at *
    generalize (fun i : Nat => (⟨((word g0 (b.toNat + 16 * i) : Nat) : Int), ((word g0 (b.toNat + 16 * i + 8) : Nat) : Int)⟩ : Pl)) = T0 at *
    generalize placesI s g = n at *
    generalize Mem.rdP S g0 b 0 = x1 at *
    generalize Mem.rdP S g0 b 8 = x2 at *
    generalize Mem.rdP S g0 L 0 = y1 at *
    generalize Mem.rdP S g0 L 8 = y2 at *
    have hlt2 := h.lt
    clear h e1 he hok hn
    have hn0 : ¬ n = 0 := h0
    have hix := index_two b L
    go_enter Tryz.func22, Tryz.ntmps22
    go_wp2_with (first | (go_at_call 33; refine (CP.out _).mono ?_; rintro e w' ⟨rfl, rfl⟩) | (go_at_call 48; refine (CL.out _).mono ?_; rintro e w' ⟨rfl, m0, rfl⟩))
    go_loopw [27] (fun i wr => ∃ k m : Nat, i = .int .i64 (k : Int) ∧ k ≤ 2 ∧ wr = w.drewN m) (fun i _ => 2 - (intOf i).toNat)
    case atStart => exact ⟨0, m0, rfl, by omega, rfl⟩
    case round =>
      obtain ⟨k, m, rfl, hk, rfl⟩ := hrel
      by_cases hlt : k < 2
      · have C := Lib.hid (fun n => if h : k = 0 then (show Calls Tryz.prog 49 #[.pointer (some ⟨sb, 0, none⟩), .int .u64 (if k = 0 then b else L)] (w.drewN n) fun e w' => e = .returned (.tuple #[.int .u64 (if k = 0 then x1 else y1), .int .u64 (if k = 0 then x2 else y2), .int .i64 0]) ∧ ∃ m, w' = (w.drewN n).drewN m by rw [if_pos h, if_pos h, if_pos h]; exact C1.out n) else (show Calls Tryz.prog 49 #[.pointer (some ⟨sb, 0, none⟩), .int .u64 (if k = 0 then b else L)] (w.drewN n) fun e w' => e = .returned (.tuple #[.int .u64 (if k = 0 then x1 else y1), .int .u64 (if k = 0 then x2 else y2), .int .i64 0]) ∧ ∃ m, w' = (w.drewN n).drewN m by rw [if_neg h, if_neg h, if_neg h]; exact C2.out n))
        have hi := hix k hlt
        clear hix C1 C2 HC HT
        generalize (if k = 0 then b else L) = X at *
        generalize (if k = 0 then x1 else y1) = xx at *
        generalize (if k = 0 then x2 else y2) = yy at *
        have hlt' : (k : Int) < 2 := by omega
        go_wp2_with (go_at_call 49; (with_reducible refine (C.out _).mono ?_); rintro e w' ⟨rfl, m2, rfl⟩)
        go_roundw
        case rel => exact ⟨k + 1, m + m2, by go_num, by omega, rfl⟩
        case measure => simp [intOf]; omega
      · have hlt' : ¬ (k : Int) < 2 := by omega
        have ht := HT.out m
        have hb : Below w.heap.size w ((w.drewN m).alloc (.cells #[.pointer (some ⟨sb, 0, none⟩), .int .u64 b, .int .i64 s, .int .i64 g] 70)) := (drewN_low w m).alloc (Nat.le_refl _) _
        clear hix C1 C2 HT
        go_wp2_with fail
        refine (HC.out _ ht).mono ?_
        rintro r w3 ⟨rfl, b3, t3, n3, u3⟩
        clear HC
        go_wp2_with fail
        go_ret2
        refine ⟨rfl, b3, t3, ?_, (turn_low sb bm hb).trans u3 (.inl rfl)⟩
        rcases n3 with rfl | n3
        · exact .inl rfl
        · exact .inr (Nat.le_trans hb.size n3)
end Go.Proofs.YtgdagfhdimoklaaGreat.Ts
/-
  Contracts of List and DropContext of package tsb. Conditions: they read a TSB that is there.
-/
namespace Go.Proofs.YtgdagfhdimoklaaGreat.Ts
open Fld
open Pt (idxI idx_bd slotI lastI)
open Mem (MemAt MemTo word setW)
open Tl (ListAt DocAt nthE eleven eleven_one rowL_list cell_eleven_new doc_low list_nil infoE rowL_length)
open Go.ChangeShapes Go.WideShapes Go.ChangeAt Go.RowKit Go.Shelf
attribute [local go_sem] Oper.semAt_some
set_option maxRecDepth 100000
set_option maxHeartbeats 2000000
theorem Firm.list (B C : Nat) (v : Value) (l : List Ent) : Firm B (fun V => ListAt V C v l) := fun V V' h hs => by
  refine ⟨h.1, ?_⟩
  rcases h.2 with hn | ⟨g, cap, cur, rfl, hb2, hg, rest⟩
  · exact .inl hn
  · exact .inr ⟨g, cap, cur, rfl, hb2, (Firm.cells B g _ _ _) V V' hg hs, rest⟩
theorem Firm.rowE (B b : Nat) (e : Ent) : Firm B (fun V => RowE V b e) := fun V V' h hs => ⟨(Firm.cells B b _ _ _) V V' h.row hs⟩
/-- The list's row is no box. -/
theorem list_spare {V : World} {C : Nat} {v : Value} {l : List Ent} (h : ListAt V C v l) : ∀ j, v.ownBlock = some j → ∀ o, V.heap[j]? = some o → ¬ Sp o := by
  intro j hj o ho hs
  rcases h.2 with ⟨rfl, _⟩ | ⟨g, cap, cur, rfl, hb2, hg, h1, h2, h3, h4⟩
  · simp [Value.ownBlock] at hj
  · simp [Value.ownBlock] at hj
    subst hj
    rw [hg] at ho
    cases ho
    have : cur.size = 1 := hs
    omega
theorem list_far {V : World} {C b : Nat} {v : Value} {l : List Ent} (h : ListAt V C v l) (hb : b < C) (u : Value) : ListAt (V.setCell ⟨b, 0, none⟩ u) C v l := by
  refine ⟨h.1, ?_⟩
  rcases h.2 with hn | ⟨g, cap, cur, rfl, hb2, hg, rest⟩
  · exact .inl hn
  · exact .inr ⟨g, cap, cur, rfl, hb2, (Below.heap_setCell _ _ _ _ (by show g ≠ b; omega)).trans hg, rest⟩
theorem tlist_any {st sb bm : Nat} {p : Par} {T : Nat → Pl} (w : World) (h : TsbAt w st sb bm p T) :
    Calls Tryz.prog 11 #[.pointer (some ⟨st, 0, none⟩)] w fun e w' => ∃ v, e = .returned v ∧ ListAt w' w.heap.size v (lstP p T p.n) ∧ Below w.heap.size w w' := by
  obtain ⟨i0, hi0, hz0, hz1, hz2⟩ := info_parts infoE
  have hnb := h.ok.n_bd
  refine (callsIn_wide (n := 3)).1 ?_
  refine callsIn_of_wp_marks Tryz.func11 rfl trivial ?_ rfl; simp only [Tryz.ntmps11, List.size_toArray, List.length_cons, List.length_nil, Nat.reduceAdd, Nat.reduceSub, Array.replicate_succ, Array.replicate_zero, List.push_toArray, List.append_toArray, List.nil_append, List.cons_append]
  have z1 : Below w.heap.size w (w.alloc (.cells #[.slice none 0 0] 41)) := (Below.refl _ _).alloc (Nat.le_refl _) _
  have b1 : (w.alloc (.cells #[.slice none 0 0] 41)).heap[w.heap.size]? = some (.cells #[.slice none 0 0] 41 (0, 0)) := World.alloc_heap_new _ _
  have s1 : (w.alloc (.cells #[.slice none 0 0] 41)).heap.size = w.heap.size + 1 := by simp
  have h1 := h.low z1
  have hl := h.lt
  have hok := h.ok
  clear h
  gi_wp2
  generalize (World.alloc w (.cells #[.slice none 0 0] 41)) = W1 at *
  refine range_it (n := 3) (gf := 38) (bnd := #[.pointer (some ⟨st, 0, none⟩)]) (lb := #[]) rfl (enters_of Tryz.func38 (by kernel_rfl) rfl) (fun n => entries_iter n (st := st) (sb := sb) hok T) (fun _ => rfl)
    (fun i V => Below w.heap.size w V ∧ TsbAt V st sb bm p T ∧ ∃ v, V.heap[w.heap.size]? = some (.cells #[v] 41 (0, 0)) ∧ ListAt V (w.heap.size + 1) v (lstP p T i))
    (fun i V h => ⟨bm, T, h.2.1, fun _ _ _ => rfl⟩)
    (fun i => Firm.and (Firm.bel (by omega)) (Firm.and (Firm.tsb _ _ _ _ _ _) (Firm.ex fun v => Firm.and (Firm.cells _ _ _ _ _) (Firm.list _ _ _ _))))
    (fun i V h _ hno => by rw [lst_miss hno]; exact h) ⟨z1, h1, _, b1, list_nil _ _⟩
    (fun i a' V => ∃ eb, a' = { tmps := #[.pointer (some ⟨st, 0, none⟩), undef, .slice none 0 0, .pointer (some ⟨w.heap.size, 0, none⟩), undef, .pointer (some ⟨eb, 0, none⟩), .pointer (some ⟨st, 0, none⟩), .func (.func 38) #[.pointer (some ⟨st, 0, none⟩)] #[], .int .u64 ((p.b + 16 * i : Nat) : Int), .agg #[.int .i64 (ownE p T i).size, .int .i64 (ownE p T i).ctx, .int .u64 (ownE p T i).va, .int .u64 (ownE p T i).pa, .bool (ownE p T i).att.write, .bool (ownE p T i).att.priv, .bool (ownE p T i).att.exec, .bool (ownE p T i).att.lock, .bool (ownE p T i).att.global, .bool (ownE p T i).att.quiet, .bool (ownE p T i).valid], undef, undef, undef, undef, undef], defers := [] } ∧ RowE V eb (ownE p T i))
    (fun i a' => Firm.ex fun eb => Firm.and (Firm.pure _ _) (Firm.rowE _ _ _)) ?assign ?body ?done
  case assign =>
    rintro m l2 i V K hI hi _ hK
    have hI2 := hI
    obtain ⟨hB, ht, v, c1, hv⟩ := hI
    generalize hE : ownE p T i = E at *
    have NL : Below V.heap.size V (V.alloc (.cells #[.int .i64 E.size, .int .i64 E.ctx, .int .u64 E.va, .int .u64 E.pa, .bool E.att.write, .bool E.att.priv, .bool E.att.exec, .bool E.att.lock, .bool E.att.global, .bool E.att.quiet, .bool E.valid] 35)) := (Below.refl _ _).alloc (Nat.le_refl _) _
    have NR := RowE.new V E
    have hI3 := (Firm.and (Firm.bel (w := w) (B := W1.heap.size) (by omega)) (Firm.and (Firm.tsb _ _ _ _ _ _) (Firm.ex fun v => Firm.and (Firm.cells _ _ _ _ _) (Firm.list _ _ _ _)))).sub NL hI2
    have hS : Stay W1.heap.size V _ := Stay.below NL
    unfold encE
    rw [hE]
    gi_wp2
    exact hK _ _ hS hI3 ⟨_, rfl, NR⟩
  case body =>
    rintro m l2 i a' V ⟨hB, ht, v, c1, hv⟩ ⟨eb, rfl, hR⟩ hi hown
    have e1 := cell_row 0 c1 rfl
    obtain ⟨d0, d1, d2, d3, d4, d5, d6, d7, d8, d9, d10⟩ := hR.cells
    have fz : V.frozen? ⟨w.heap.size, 0, none⟩ = false := by simp [World.frozen?, c1]
    have hlen := lst_le p T i
    have HS := Lib.hid (lst_hit hown)
    have hspare := Lib.hid (list_spare hv)
    generalize ownE p T i = E at *
    have NL : Below V.heap.size V (V.alloc (.cells #[.int .i64 E.size, .int .i64 E.ctx, .int .u64 E.va, .int .u64 E.pa, .bool E.att.write, .bool E.att.priv, .bool E.att.exec, .bool E.att.lock, .bool E.att.global, .bool E.att.quiet, .bool E.valid] 35)) := (Below.refl _ _).alloc (Nat.le_refl _) _
    have HC := Lib.hid (cell_eleven_new V E 35)
    have HE := Lib.hid (rowL_list (lstP p T i) E)
    have HO := Lib.hid (eleven_one E)
    obtain ⟨mm, hm⟩ : ∃ mm, (lstP p T i).length = mm := ⟨_, rfl⟩
    have hO2 : V.ownsRow (w.heap.size + 1) 35 11 v mm (Tl.rowL (nthE (lstP p T i)) mm) := by rw [← hm]; exact hv
    rw [hm] at hlen
    have HMM := Lib.hid hm
    have hsz := (Array.getElem?_eq_some_iff.1 c1).1
    have hO3 := hO2.alloc (.cells #[.int .i64 E.size, .int .i64 E.ctx, .int .u64 E.va, .int .u64 E.pa, .bool E.att.write, .bool E.att.priv, .bool E.att.exec, .bool E.att.lock, .bool E.att.global, .bool E.att.quiet, .bool E.valid] 35)
    have hB3 := hB.trans (NL.mono hB.size)
    have ht3 := ht.low NL
    have c3 := (NL.block _ hsz).trans c1
    have e3 := cell_row 0 c3 rfl
    have hsp3 := Lib.hid (show ∀ j, v.ownBlock = some j → ∀ o, (V.alloc (.cells #[.int .i64 E.size, .int .i64 E.ctx, .int .u64 E.va, .int .u64 E.pa, .bool E.att.write, .bool E.att.priv, .bool E.att.exec, .bool E.att.lock, .bool E.att.global, .bool E.att.quiet, .bool E.valid] 35)).heap[j]? = some o → ¬ Sp o from fun j hj o ho => by
      have hlt := (hO2.lt j hj).2
      exact hspare.out j hj o ((NL.block _ hlt).symm.trans ho))
    have hS3 := Stay.below (B := W1.heap.size) NL
    clear hm hv hO2 hspare hown hB ht
    gi_wp2_with (gi_at_builtin; (refine wpListIn_append_own _ rfl _ _ 41 rfl (w.heap.size + 1) 35 i0 _ 11 40 Tryz.underlying41 hi0 hz0 hz1 hz2 rfl (by decide) _ _ _ rfl (by exact hO3) ⟨V.heap.size, 0, none⟩ 1 1 (eleven E) rfl rfl HC.out HO.out (by unfold maxLen; omega) (by omega) (by simp; omega) ?_))
    intro v' w1 hown' hgrow _
    have R1 : ListAt w1 (w.heap.size + 1) v' (lstP p T (i + 1)) := by
      unfold ListAt DocAt
      rw [HS.out, HE.out, List.length_append, HMM.out]; exact hown'
    have hfar : ∀ g, v.ownBlock = some g → w.heap.size + 1 ≤ g := fun g hg => (hO3.lt g hg).1
    have R2 : Below w.heap.size w w1 := hB3.grown hgrow hB3.size (fun g hg => by have := hfar g hg; omega)
    have R3 : Stay W1.heap.size V w1 := hS3.trans (Stay.grown hgrow (fun j hj => .inr (hsp3.out j hj)))
    have c4 : w1.heap[w.heap.size]? = some (.cells #[v] 41 (0, 0)) := (hgrow.block _ (Array.getElem?_eq_some_iff.1 c3).1 (fun e => by have := hfar _ e.symm; omega)).trans c3
    have t4 : TsbAt w1 st sb bm p T := by
      have hl3 := ht3.lt
      exact ht3.same (hgrow.block _ hl3.1 (fun e => by have := hfar _ e.symm; omega)) (hgrow.block _ hl3.2.1 (fun e => by have := hfar _ e.symm; omega)) (hgrow.block _ hl3.2.2.1 (fun e => by have := hfar _ e.symm; omega))
    have e4 := cell_row 0 c4 rfl
    have fz4 : w1.frozen? ⟨w.heap.size, 0, none⟩ = false := by simp [World.frozen?, c4]
    obtain ⟨ao2, cap2, rfl⟩ := own_shape R1
    clear hown' hgrow hO3 hB3 HC HE HO hsp3 e3 c3 ht3 hS3 e1 c1 d0 d1 d2 d3 d4 d5 d6 d7 d8 d9 d10 fz
    gi_wp2
    refine ⟨R3.trans (Stay.cell _ _ _ (by show w.heap.size < _; omega)), R2.setCell (p := ⟨w.heap.size, 0, none⟩) (Nat.le_refl _) _, t4.setBox c4 _, _, box_set c4 _, list_far R1 (Nat.lt_succ_self _) _⟩
  case done =>
    rintro V ⟨hB, ht, v, c1, hv⟩ hK
    have e1 := cell_row 0 c1 rfl
    unfold lastMark
    gi_wp2
    refine ⟨by simp, .inl ⟨_, _, rfl, run_takeDeferred hK, ?_⟩⟩
    have hs := Soft.put (B := W1.heap.size) (o' := .deferred none) hK trivial (by omega)
    exact ⟨_, results_tmp rfl _ _ _, _, rfl, doc_low ((Firm.list _ _ _ _) _ _ hv hs) (Nat.le_succ _), (Firm.bel (B := W1.heap.size) (by omega)) _ _ hB hs⟩
theorem gon_miss {p : Par} {T : Nat → Pl} {c : Int} {i : Nat} (h : ¬ ownB p T i = true) : ¬ gonB p T c i = true := fun hh => by
  unfold gonB at hh; rw [Bool.and_eq_true] at hh; exact h hh.1
theorem gon_own {p : Par} {T : Nat → Pl} {c : Int} {i : Nat} (h : ownB p T i = true) : gonB p T c i = ctxB c (ownE p T i) := by
  unfold gonB; rw [h]; rfl
theorem drpN_hit {p : Par} {T : Nat → Pl} {c : Int} {k : Nat} (h : gonB p T c k = true) : drpN p T c (k + 1) = drpN p T c k + 1 := if_pos h
theorem drpN_miss {p : Par} {T : Nat → Pl} {c : Int} {k : Nat} (h : ¬ gonB p T c k = true) : drpN p T c (k + 1) = drpN p T c k := if_neg h
theorem dropContext_any {st sb bm : Nat} {p : Par} {T : Nat → Pl} (c : Int) (w : World) (h : TsbAt w st sb bm p T) :
    Calls Tryz.prog 28 #[.pointer (some ⟨st, 0, none⟩), .int .i64 c] w fun e w' => e = .returned (.int .i64 (drpN p T c p.n : Int)) ∧ TsbTo w w' st sb bm p (drpT p T c p.n) := by
  have hnb := h.ok.n_bd
  refine (callsIn_wide (n := 3)).1 ?_
  refine callsIn_of_wp_marks Tryz.func28 rfl trivial ?_ rfl; simp only [Tryz.ntmps28, List.size_toArray, List.length_cons, List.length_nil, Nat.reduceAdd, Nat.reduceSub, Array.replicate_succ, Array.replicate_zero, List.push_toArray, List.append_toArray, List.nil_append, List.cons_append]
  have z1 : Below w.heap.size w (((w.alloc (.cells #[.pointer (some ⟨st, 0, none⟩)] 23)).alloc (.cells #[.int .i64 c] 3)).alloc (.cells #[.int .i64 0] 3)) := (((Below.refl _ _).alloc (Nat.le_refl _) _).alloc (by simp) _).alloc (by simp; omega) _
  have b1 : (((w.alloc (.cells #[.pointer (some ⟨st, 0, none⟩)] 23)).alloc (.cells #[.int .i64 c] 3)).alloc (.cells #[.int .i64 0] 3)).heap[w.heap.size]? = some (.cells #[.pointer (some ⟨st, 0, none⟩)] 23 (0, 0)) := alloc_old (alloc_old (World.alloc_heap_new _ _) _) _
  have b2 : (((w.alloc (.cells #[.pointer (some ⟨st, 0, none⟩)] 23)).alloc (.cells #[.int .i64 c] 3)).alloc (.cells #[.int .i64 0] 3)).heap[w.heap.size + 1]? = some (.cells #[.int .i64 c] 3 (0, 0)) := alloc_old (alloc_new2 _ _ _) _
  have b3 : (((w.alloc (.cells #[.pointer (some ⟨st, 0, none⟩)] 23)).alloc (.cells #[.int .i64 c] 3)).alloc (.cells #[.int .i64 0] 3)).heap[w.heap.size + 1 + 1]? = some (.cells #[.int .i64 0] 3 (0, 0)) := by
    have := World.alloc_heap_new ((w.alloc (.cells #[.pointer (some ⟨st, 0, none⟩)] 23)).alloc (.cells #[.int .i64 c] 3)) (.cells #[.int .i64 0] 3)
    rwa [World.size_alloc, World.size_alloc] at this
  have s1 : (((w.alloc (.cells #[.pointer (some ⟨st, 0, none⟩)] 23)).alloc (.cells #[.int .i64 c] 3)).alloc (.cells #[.int .i64 0] 3)).heap.size = w.heap.size + 1 + 1 + 1 := by simp
  have h1 := h.low z1
  have hl := h.lt
  have hok := h.ok
  clear h
  gi_wp2
  generalize (World.alloc (World.alloc (w.alloc (.cells #[.pointer (some ⟨st, 0, none⟩)] 23)) (.cells #[.int .i64 c] 3)) (.cells #[.int .i64 0] 3)) = W1 at *
  have FI : ∀ i, Firm W1.heap.size (fun V => (∃ b', TsbAt V st sb b' p (drpT p T c i) ∧ (b' = bm ∨ w.heap.size ≤ b')) ∧ Mem.Turn w V sb bm ∧ V.heap[w.heap.size]? = some (.cells #[.pointer (some ⟨st, 0, none⟩)] 23 (0, 0)) ∧ V.heap[w.heap.size + 1]? = some (.cells #[.int .i64 c] 3 (0, 0)) ∧ V.heap[w.heap.size + 1 + 1]? = some (.cells #[.int .i64 (drpN p T c i : Int)] 3 (0, 0))) := fun i =>
    Firm.and (Firm.ex fun b' => Firm.and (Firm.tsb _ _ _ _ _ _) (Firm.pure _ _)) (Firm.and (Firm.turn _ _ (by omega)) (Firm.and (Firm.cells _ _ _ _ _) (Firm.and (Firm.cells _ _ _ _ _) (Firm.cells _ _ _ _ _))))
  refine range_it (n := 3) (gf := 38) (bnd := #[.pointer (some ⟨st, 0, none⟩)]) (lb := #[]) rfl (enters_of Tryz.func38 (by kernel_rfl) rfl) (fun n => entries_iter n (st := st) (sb := sb) hok T) (fun _ => rfl)
    (fun i V => (∃ b', TsbAt V st sb b' p (drpT p T c i) ∧ (b' = bm ∨ w.heap.size ≤ b')) ∧ Mem.Turn w V sb bm ∧ V.heap[w.heap.size]? = some (.cells #[.pointer (some ⟨st, 0, none⟩)] 23 (0, 0)) ∧ V.heap[w.heap.size + 1]? = some (.cells #[.int .i64 c] 3 (0, 0)) ∧ V.heap[w.heap.size + 1 + 1]? = some (.cells #[.int .i64 (drpN p T c i : Int)] 3 (0, 0)))
    (fun i V h => by obtain ⟨⟨b', ht, _⟩, _⟩ := h; exact ⟨b', _, ht, fun j hj _ => drpT_at hj⟩)
    FI
    (fun i V h _ hno => by rw [drpT_miss (gon_miss hno), drpN_miss (gon_miss hno)]; exact h) ⟨⟨bm, by rw [drpT_zero]; exact h1, .inl rfl⟩, turn_low _ _ z1, b1, b2, b3⟩
    (fun i a' V => ∃ eb, a' = { tmps := #[.pointer (some ⟨st, 0, none⟩), .int .i64 c, .pointer (some ⟨w.heap.size, 0, none⟩), .pointer (some ⟨w.heap.size + 1, 0, none⟩), .int .i64 0, .pointer (some ⟨w.heap.size + 1 + 1, 0, none⟩), .int .u64 ((p.b + 16 * i : Nat) : Int), .pointer (some ⟨eb, 0, none⟩), .pointer (some ⟨st, 0, none⟩), .func (.func 38) #[.pointer (some ⟨st, 0, none⟩)] #[], .int .u64 ((p.b + 16 * i : Nat) : Int), .agg #[.int .i64 (ownE p T i).size, .int .i64 (ownE p T i).ctx, .int .u64 (ownE p T i).va, .int .u64 (ownE p T i).pa, .bool (ownE p T i).att.write, .bool (ownE p T i).att.priv, .bool (ownE p T i).att.exec, .bool (ownE p T i).att.lock, .bool (ownE p T i).att.global, .bool (ownE p T i).att.quiet, .bool (ownE p T i).valid], undef, undef, undef, undef, undef, undef, undef, undef, undef, undef, undef, undef, undef, undef, undef, undef], defers := [] } ∧ RowE V eb (ownE p T i))
    (fun i a' => Firm.ex fun eb => Firm.and (Firm.pure _ _) (Firm.rowE _ _ _)) ?assign ?body ?done
  case assign =>
    rintro m l2 i V K hI hi _ hK
    generalize hE : ownE p T i = E at *
    have NL : Below V.heap.size V (V.alloc (.cells #[.int .i64 E.size, .int .i64 E.ctx, .int .u64 E.va, .int .u64 E.pa, .bool E.att.write, .bool E.att.priv, .bool E.att.exec, .bool E.att.lock, .bool E.att.global, .bool E.att.quiet, .bool E.valid] 35)) := (Below.refl _ _).alloc (Nat.le_refl _) _
    have NR := RowE.new V E
    have hI3 := (FI i).sub NL hI
    have hS : Stay W1.heap.size V _ := Stay.below NL
    unfold encE
    rw [hE]
    gi_wp2
    exact hK _ _ hS hI3 ⟨_, rfl, NR⟩
  case body =>
    rintro m l2 i a' V ⟨⟨b', ht, hb'⟩, htn, c1, c2, c3⟩ ⟨eb, rfl, hR⟩ hi hown
    have e1 := cell_row 0 c1 rfl
    have e2 := cell_row 0 c2 rfl
    obtain ⟨d0, d1, d2, d3, d4, d5, d6, d7, d8, d9, d10⟩ := hR.cells
    have hle := drpN_le p T c i
    have CE := Lib.hid (empty_any V ht hi)
    have HG := Lib.hid (gon_own (c := c) hown)
    have HH := Lib.hid (fun hh : ctxB c (ownE p T i) = true => (⟨drpT_hit (by rw [gon_own hown, hh]), drpN_hit (by rw [gon_own hown, hh])⟩ : drpT p T c (i + 1) = setP (drpT p T c i) i Pl.none ∧ drpN p T c (i + 1) = drpN p T c i + 1))
    have HM := Lib.hid (fun hh : ctxB c (ownE p T i) = false => (⟨drpT_miss (by rw [gon_own hown, hh]; simp), drpN_miss (by rw [gon_own hown, hh]; simp)⟩ : drpT p T c (i + 1) = drpT p T c i ∧ drpN p T c (i + 1) = drpN p T c i))
    have HX := Lib.hid (show ctxB c (ownE p T i) = ((ownE p T i).ctx == c && !(ownE p T i).att.global) from rfl)
    have hsz := htn.size
    generalize ownE p T i = E at *
    generalize p.b + 16 * i = A at *
    by_cases hc : E.ctx = c
    · cases hg : E.att.global
      · have hx := HH.out (by rw [HX.out, hg, hc]; simp)
        have hxN := Lib.hid hx.2
        have hxT := Lib.hid hx.1
        rw [hg] at d8
        have hc' := Lib.hid hc
        rw [hc] at d1
        clear HH HM HX HG hx hc hg
        gi_wp2_with (fail)
        (first | (refine ⟨trivial, ?_⟩; gi_at_call 57) | (refine ⟨trivial, fun h => absurd h (by decide), ?_⟩; gi_at_call 57))
        refine (CallsIn.inRound l2 (callsIn_wide.2 CE.out)).mono ?_
        rintro e w3 ⟨rfl, b2', t2, n2, u2⟩
        have q1 := box_turn ht u2 c1
        have q2 := box_turn ht u2 c2
        have q3 := box_turn ht u2 c3
        have e3 := cell_row 0 q3 rfl
        have fz : w3.frozen? ⟨w.heap.size + 1 + 1, 0, none⟩ = false := by simp [World.frozen?, q3]
        have hst := stay_turn (B := W1.heap.size) ht u2
        have htn2 := htn.trans u2 hb'
        have hb2 : b2' = bm ∨ w.heap.size ≤ b2' := by
          rcases n2 with rfl | n2
          · exact hb'
          · exact .inr (by omega)
        clear CE e1 e2 d0 d1 d2 d3 d4 d5 d6 d7 d8 d9 d10 c1 c2 c3
        gi_wp2
        refine ⟨hst.trans (Stay.cell _ _ _ (by show w.heap.size + 1 + 1 < _; omega)), ⟨b2', by rw [hxT.out]; exact t2.setBox q3 _, hb2⟩, htn2.setCell _ (.inr (.inr (by show w.heap.size ≤ w.heap.size + 1 + 1; omega))) _, box_other q1 (by omega) _, box_other q2 (by omega) _, ?_⟩
        rw [hxN.out, box_set q3]; simp
      · have hx := HM.out (by rw [HX.out, hg]; simp)
        have hx := Lib.hid hx
        rw [hg] at d8
        have hc' := Lib.hid hc
        rw [hc] at d1
        clear HH HM HX HG hc hg
        gi_wp2
        exact ⟨Stay.refl _ _, ⟨b', by rw [hx.out.1]; exact ht, hb'⟩, htn, c1, c2, by rw [hx.out.2]; exact c3⟩
    · have hx := HM.out (by rw [HX.out, beq_false_of_ne hc]; rfl)
      have hx := Lib.hid hx
      clear HH HM HX HG
      gi_wp2
      exact ⟨Stay.refl _ _, ⟨b', by rw [hx.out.1]; exact ht, hb'⟩, htn, c1, c2, by rw [hx.out.2]; exact c3⟩
  case done =>
    rintro V ⟨⟨b', ht, hb'⟩, htn, c1, c2, c3⟩ hK
    have e3 := cell_row 0 c3 rfl
    unfold lastMark
    gi_wp2
    refine ⟨by simp, .inl ⟨_, _, rfl, run_takeDeferred hK, ?_⟩⟩
    have hs := Soft.put (B := W1.heap.size) (o' := .deferred none) hK trivial (by omega)
    exact ⟨_, results_tmp rfl _ _ _, rfl, b', ht.soft hs, hb', (Firm.turn (B := W1.heap.size) _ _ (by omega)) _ _ htn hs⟩
end Go.Proofs.YtgdagfhdimoklaaGreat.Ts
/-
  Contract of Pointer of package point. Conditions: words are below 2 to the 64.
-/
namespace Go.Proofs.YtgdagfhdimoklaaGreat.Pt
open Fld
open Go.ChangeShapes Go.WideShapes Go.ChangeAt Go.RowKit
set_option maxHeartbeats 2000000
set_option maxRecDepth 100000
theorem two_start (w : World) (t : Int) : Two w ((w.alloc (.cells #[.int .u64 t] 31)).alloc (.cells #[.int .i64 0] 3)) t 0 := by
  refine ⟨?_, ?_, ?_⟩
  · exact ((Below.refl _ _).alloc (Nat.le_refl _) _).alloc (by simp) _
  · rw [Below.heap_alloc _ _ _ (by simp)]; exact heap_new _ _
  · have := heap_new (w.alloc (.cells #[.int .u64 t] 31)) (.cells #[.int .i64 0] 3)
    simpa using this
theorem putI_bd (x p s v : Int) (x0 : 0 ≤ x) (x1 : x ≤ 18446744073709551615) : 0 ≤ putI x p s v ∧ putI x p s v ≤ 18446744073709551615 := by
  unfold putI; split
  · have := putN_lt x.toNat p.toNat s.toNat v.toNat; omega
  · exact ⟨x0, x1⟩
end Go.Proofs.YtgdagfhdimoklaaGreat.Pt
/-
  Contracts of the document's own answers for package point, and of the law's small functions: each returns what the plain functions of QMath say, and the world stays but for draws. Conditions: words are below 2 to the 64.
-/
namespace Go.Proofs.YtgdagfhdimoklaaGreat.Pt
open Fld
open Go.ChangeShapes Go.WideShapes Go.ChangeAt Go.RowKit
set_option maxHeartbeats 2000000
set_option maxRecDepth 100000
/-- 512, so many times doubled. -/
def twoI (j : Nat) : Int := ((512 * 2 ^ j : Nat) : Int)
theorem two_succ (j : Nat) : twoI (j + 1) = 2 * twoI j := by unfold twoI; rw [Nat.pow_succ]; omega
theorem two_bd {j : Nat} (h : j ≤ 7) : 512 ≤ twoI j ∧ twoI j ≤ 65536 := by
  unfold twoI
  have : j = 0 ∨ j = 1 ∨ j = 2 ∨ j = 3 ∨ j = 4 ∨ j = 5 ∨ j = 6 ∨ j = 7 := by omega
  rcases this with rfl | rfl | rfl | rfl | rfl | rfl | rfl | rfl <;> decide
theorem two_ent (t : Int) (j : Nat) (h : (j : Int) = t % 8) : twoI j = entI t := by
  rcases ent_or t with ⟨h2, e⟩ | ⟨h2, e⟩ | ⟨h2, e⟩ | ⟨h2, e⟩ | ⟨h2, e⟩ | ⟨h2, e⟩ | ⟨h2, e⟩ | ⟨h2, e⟩ <;> rw [e] <;> rw [h2] at h
  · obtain rfl : j = 0 := by omega
    rfl
  · obtain rfl : j = 1 := by omega
    rfl
  · obtain rfl : j = 2 := by omega
    rfl
  · obtain rfl : j = 3 := by omega
    rfl
  · obtain rfl : j = 4 := by omega
    rfl
  · obtain rfl : j = 5 := by omega
    rfl
  · obtain rfl : j = 6 := by omega
    rfl
  · obtain rfl : j = 7 := by omega
    rfl
end Go.Proofs.YtgdagfhdimoklaaGreat.Pt
/-
  Contracts of Places and Why of the document's package for layer 10, and of the law's example. Conditions: numbers are what Go's types hold.
-/
namespace Go.Proofs.YtgdagfhdimoklaaGreat.Ts
open Fld
open Pt (idxI idx_bd slotI lastI)
open Mem (MemAt MemTo word setW mayI)
open Go.ChangeShapes Go.WideShapes Go.ChangeAt Go.RowKit Go.Shelf
set_option maxRecDepth 100000
set_option maxHeartbeats 2000000
theorem rplaces_any (s g : Int) (w : World) :
    Calls Tryz.prog 47 #[.int .i64 s, .int .i64 g] w fun e w' => e = .returned (.int .i64 (placesI s g)) ∧ Below w.heap.size w w' := by
  have CM := Lib.hid (fun w => rpmay_any s w)
  cases hs : sizeB s
  · have H := Lib.hid (show (0 : Int) = placesI s g from (places_no (by rw [hs]; simp)).symm)
    rw [hs] at CM
    go_enter Tryz.func47, Tryz.ntmps47
    go_wp2_with (go_at_call 75; refine (CM.out _).mono ?_; rintro e w' ⟨rfl, rfl⟩)
    go_ret
    exact ⟨ret_i H.out, Below.refl _ _⟩
  · rw [hs] at CM
    by_cases h0 : g < 0
    · have H := Lib.hid (show (0 : Int) = placesI s g from (places_no (fun h => by omega)).symm)
      go_enter Tryz.func47, Tryz.ntmps47
      go_wp2_with (go_at_call 75; refine (CM.out _).mono ?_; rintro e w' ⟨rfl, rfl⟩)
      go_ret
      exact ⟨ret_i H.out, Below.refl _ _⟩
    · by_cases h1 : 4 ≤ g
      · have H := Lib.hid (show (0 : Int) = placesI s g from (places_no (fun h => by omega)).symm)
        go_enter Tryz.func47, Tryz.ntmps47
        go_wp2_with (go_at_call 75; refine (CM.out _).mono ?_; rintro e w' ⟨rfl, rfl⟩)
        go_ret
        exact ⟨ret_i H.out, Below.refl _ _⟩
      · have hg : g = 0 ∨ g = 1 ∨ g = 2 ∨ g = 3 := by omega
        have BL : ∀ o1 o2, Below w.heap.size w ((w.alloc o1).alloc o2) := fun o1 o2 => ((Below.refl _ _).alloc (Nat.le_refl _) _).alloc (by simp) _
        have BH := Lib.hid BL
        clear BL
        rcases sizeB_true hs with rfl | rfl | rfl | rfl <;> rcases hg with rfl | rfl | rfl | rfl
        all_goals
          clear hs h0 h1
          go_enter Tryz.func47, Tryz.ntmps47
          go_wp2_with (go_at_call 75; refine (CM.out _).mono ?_; rintro e w' ⟨rfl, rfl⟩)
          go_quiet (fail)
          go_wp2
          go_ret
          exact ⟨rfl, below_drewN (BH.out _ _) _⟩
def whyI (S b s g : Int) : Int := if placesI s g = 0 then 1 else if b % 16 = 0 then (if S < 16 * placesI s g ∨ S - 16 * placesI s g < b then 5 else 0) else 4
theorem why_eq {S b s g : Int} (b0 : 0 ≤ b) (S0 : 0 ≤ S) (S1 : S ≤ 2199023255552) : newE S b s g = whyI S b s g := by
  unfold newE whyI
  by_cases h0 : placesI s g = 0
  · rw [if_pos h0, if_pos h0]
  · have hok : sizeB s = true ∧ 0 ≤ g ∧ g ≤ 3 := by
      by_cases hh : sizeB s = true ∧ 0 ≤ g ∧ g ≤ 3
      · exact hh
      · exact absurd (places_no hh) h0
    have hbd := places_bd hok.1 hok.2.1 hok.2.2
    rw [if_neg h0, if_neg h0]
    generalize placesI s g = n at *
    by_cases h1 : b % 16 = 0
    · rw [if_pos h1]
      by_cases h2 : S ≤ b ∨ S - b < 16
      · have e : mayI S b 16 16 = 5 := by unfold mayI; rw [if_neg (by omega), if_pos ⟨by omega, h2⟩]
        rw [e, if_neg (by decide), if_pos (by omega)]
      · have e : mayI S b 16 16 = 0 := by unfold mayI; rw [if_neg (by omega), if_neg (by omega)]
        rw [e, if_pos rfl]
        unfold lastI
        rw [if_pos (by omega)]
        by_cases h3 : S < 16 * n ∨ S - 16 * n < b
        · rw [if_pos h3]
          unfold mayI; rw [if_neg (by omega), if_pos ⟨by omega, by omega⟩]
        · rw [if_neg h3]
          unfold mayI; rw [if_neg (by omega), if_neg (by omega)]
    · rw [if_neg h1]
      have e : mayI S b 16 16 = 4 := by unfold mayI; rw [if_pos h1]
      rw [e, if_neg (by decide)]
end Go.Proofs.YtgdagfhdimoklaaGreat.Ts
/-
  The document's Pointer, Index, Slot and Around, and the law's small functions: each returns what the plain functions of QMath say. Conditions: words are below 2 to the 64.
-/
namespace Go.Proofs.YtgdagfhdimoklaaGreat.Pt
open Fld
open Go.ChangeShapes Go.WideShapes Go.ChangeAt Go.RowKit
set_option maxHeartbeats 2000000
set_option maxRecDepth 100000
theorem raround_any (i n : Int) (_i0 : -9223372036854775808 ≤ i) (_i1 : i ≤ 9223372036854775807) (n0 : 1 ≤ n) (n1 : n ≤ 4096) (w : World) :
    Calls Tryz.prog 19 #[.int .i64 i, .int .i64 n] w fun e w' => e = .returned (.int .i64 (arI i n)) ∧ ∃ n, w' = w.drewN n := by
  have hb := ar_bd i n (by omega)
  have hn : n ≠ 0 := by omega
  rcases tmod_or i n (by omega) with ⟨h, e⟩ | ⟨h, e⟩
  all_goals
    generalize arI i n = r at *
    generalize ht : i.tmod n = t at *
    go_enter Tryz.func19, Tryz.ntmps19
    go_wp2
    go_ret
    exact ⟨rfl, 0, rfl⟩
/-- A number from 1 to 4096, made of any. -/
def smallI (n : Int) : Int := 1 + (if n < 0 then -(n + 1) else n) % 4096
theorem small_bd (n : Int) : 1 ≤ smallI n ∧ smallI n ≤ 4096 := by unfold smallI; omega
end Go.Proofs.YtgdagfhdimoklaaGreat.Pt
/-
  The laws' example, and what begins them. Conditions: none.
-/
namespace Go.Proofs.YtgdagfhdimoklaaGreat.Ts
open Fld
open Pt (idxI idx_bd slotI lastI)
open Mem (MemAt MemTo word setW mayI)
open Go.ChangeShapes Go.WideShapes Go.ChangeAt Go.RowKit Go.Shelf
set_option maxRecDepth 100000
set_option maxHeartbeats 2000000
/-- A TSB that was made since a world W; nothing that was there then has turned. -/
def New (W w : World) (st : Nat) (p : Par) (T : Nat → Pl) : Prop := ∃ sb bm, W.heap.size ≤ st ∧ W.heap.size ≤ sb ∧ W.heap.size ≤ bm ∧ Below W.heap.size W w ∧ TsbAt w st sb bm p T
theorem New.below {W w : World} {st : Nat} {p : Par} {T : Nat → Pl} (h : New W w st p T) : Below W.heap.size W w := by obtain ⟨_, _, _, _, _, h, _⟩ := h; exact h
theorem New.low {W w w' : World} {st : Nat} {p : Par} {T : Nat → Pl} (h : New W w st p T) (hb : Below w.heap.size w w') : New W w' st p T := by
  obtain ⟨sb, bm, a, b, c, d, e⟩ := h
  exact ⟨sb, bm, a, b, c, d.trans (hb.mono d.size), e.low hb⟩
theorem New.drewN {W w : World} {st : Nat} {p : Par} {T : Nat → Pl} (h : New W w st p T) (n : Nat) : New W (w.drewN n) st p T := h.low (drewN_low w n)
theorem New.to {W w w' : World} {st sb bm : Nat} {p : Par} {T U : Nat → Pl} (a : W.heap.size ≤ st) (b : W.heap.size ≤ sb) (c : W.heap.size ≤ bm) (d : Below W.heap.size W w) (_e : TsbAt w st sb bm p T) (k : TsbTo w w' st sb bm p U) : New W w' st p U := by
  obtain ⟨b', k1, k2, k3⟩ := k
  have hs := d.size
  refine ⟨sb, b', a, b, by omega, ⟨k3.os.trans d.os, k3.tape.trans d.tape, k3.output.trans d.output, Nat.le_trans hs k3.size, fun i hi => ?_⟩, k1⟩
  rw [k3.block i (by omega) (by omega) (by omega)]; exact d.block i hi
/-- What else lies there since W, and is none of the TSB's, stays. -/
theorem New.keeps {w w' : World} {st sb bm : Nat} {p : Par} {T : Nat → Pl} {U : Nat → Pl} (e : TsbAt w st sb bm p T) (k : TsbTo w w' st sb bm p U) {eb : Nat} {x : Ent} (h : RowE w eb x) : RowE w' eb x := by
  obtain ⟨b', k1, k2, k3⟩ := k
  exact row_turn h e k3
theorem nnew_turn (S b s g : Int) (S0 : 0 ≤ S) (b0 : 0 ≤ b) (b1 : b ≤ 18446744073709551615) (W w : World) (sb bm : Nat) (hW : Below W.heap.size W w) (a : W.heap.size ≤ sb) (c : W.heap.size ≤ bm) (h : MemAt w sb bm S.toNat (fun _ => 0)) (he : newE S b s g = 0) :
    Calls Tryz.prog 22 #[.pointer (some ⟨sb, 0, none⟩), .int .u64 b, .int .i64 s, .int .i64 g] w fun e w' => e = .returned (.tuple #[.pointer (some ⟨w.heap.size, 0, none⟩), .int .i64 0]) ∧ New W w' w.heap.size ⟨S.toNat, b.toNat, (placesI s g).toNat, s, g⟩ (fun _ => Pl.none) ∧ Mem.Turn w w' sb bm := by
  have hS : ((S.toNat : Nat) : Int) = S := Int.toNat_of_nonneg S0
  refine (new_yes S.toNat _ sb bm b s g b0 b1 w h (by rw [hS]; exact he)).mono ?_
  rintro e w' ⟨rfl, b', t, n, u⟩
  have hs := hW.size
  refine ⟨rfl, ⟨sb, b', hs, a, by omega, ⟨u.os.trans hW.os, u.tape.trans hW.tape, u.output.trans hW.output, Nat.le_trans hs u.size, fun i hi => ?_⟩, t⟩, u⟩
  rw [u.block i (by omega) (by omega) (by omega)]; exact hW.block i hi
theorem nnew_yes (S b s g : Int) (S0 : 0 ≤ S) (b0 : 0 ≤ b) (b1 : b ≤ 18446744073709551615) (W w : World) (sb bm : Nat) (hW : Below W.heap.size W w) (a : W.heap.size ≤ sb) (c : W.heap.size ≤ bm) (h : MemAt w sb bm S.toNat (fun _ => 0)) (he : newE S b s g = 0) :
    Calls Tryz.prog 22 #[.pointer (some ⟨sb, 0, none⟩), .int .u64 b, .int .i64 s, .int .i64 g] w fun e w' => e = .returned (.tuple #[.pointer (some ⟨w.heap.size, 0, none⟩), .int .i64 0]) ∧ New W w' w.heap.size ⟨S.toNat, b.toNat, (placesI s g).toNat, s, g⟩ (fun _ => Pl.none) :=
  (nnew_turn S b s g S0 b0 b1 W w sb bm hW a c h he).mono fun _ _ ⟨x, y, _⟩ => ⟨x, y⟩
def exT : Ent := ⟨0, 1, 8192, 16384, ⟨false, false, false, false, false, false⟩, true⟩
def exP : Par := ⟨8192, 0, 512, 0, 0⟩
theorem exT_u : EntU exT := ⟨by decide, by decide, by decide, by decide⟩
theorem exT_may : mayT exP exT = true := by kernel_rfl
theorem exT_pl : exP.pl 8192 = 1 ∧ exP.pl 8200 = 1 := ⟨by kernel_rfl, by kernel_rfl⟩
theorem exT_find (ok : exP.Ok) : fndB exP (insT exP (fun _ => Pl.none) exT) 8200 1 = true ∧ fndE exP (insT exP (fun _ => Pl.none) exT) 8200 1 = exT ∧ fndB exP (insT exP (fun _ => Pl.none) exT) 8200 2 = false := by
  obtain ⟨eo, es⟩ := mayT_ok exT_may (by decide) (by decide) (by decide)
  have hT : insT exP (fun _ => Pl.none) exT (exP.pl exT.va) = Ent.pl exT := by unfold insT; rw [if_pos exT_may, setP_at]
  have hv : exP.pl 8200 = exP.pl exT.va := by rw [exT_pl.2]; exact exT_pl.1.symm
  have h1 := find_at ok eo es hT (va := 8200) (ctx := 1) (by decide) (by decide) hv
  have h2 := find_at ok eo es hT (va := 8200) (ctx := 2) (by decide) (by decide) hv
  have e1 : exT.hitsB 8200 1 = true := by kernel_rfl
  have e2 : exT.hitsB 8200 2 = false := by kernel_rfl
  exact ⟨h1.1.trans e1, h1.2 e1, h2.1.trans e2⟩
theorem blives_any (w : World) :
    Calls Tryz.prog 13 #[] w fun e w' => e = .returned (.bool true) ∧ Below w.heap.size w w' := by
  have C1 := Lib.hid (fun W => Mem.new_any 8192 (by decide) (by decide) W)
  rw [show (min (8192 : Int) 2199023255552).toNat = (8192 : Int).toNat from rfl] at C1
  have C2 := Lib.hid (fun W W1 sb bm hW a c h => nnew_yes 8192 0 0 0 (by decide) (by decide) (by decide) W W1 sb bm hW a c h (by kernel_rfl))
  rw [show (⟨(8192 : Int).toNat, (0 : Int).toNat, (placesI 0 0).toNat, 0, 0⟩ : Par) = exP from rfl] at C2
  have CI := Lib.hid (fun W st sb bm (h : TsbAt W st sb bm exP (fun _ => Pl.none)) => insert_any exT exT_u W h)
  have C3 := Lib.hid (fun W st sb bm (h : TsbAt W st sb bm exP (insT exP (fun _ => Pl.none) exT)) => (show Calls Tryz.prog 23 #[.pointer (some ⟨st, 0, none⟩), .int .u64 8200, .int .i64 1] W fun e w' => e = .returned (.tuple #[.agg #[.int .i64 exT.size, .int .i64 exT.ctx, .int .u64 exT.va, .int .u64 exT.pa, .bool exT.att.write, .bool exT.att.priv, .bool exT.att.exec, .bool exT.att.lock, .bool exT.att.global, .bool exT.att.quiet, .bool exT.valid], .bool true]) ∧ Below W.heap.size W w' by
    have := find_any 8200 1 (by decide) (by decide) W h
    rw [(exT_find h.ok).1, (exT_find h.ok).2.1] at this; exact this))
  have C4 := Lib.hid (fun W st sb bm (h : TsbAt W st sb bm exP (insT exP (fun _ => Pl.none) exT)) => (show Calls Tryz.prog 23 #[.pointer (some ⟨st, 0, none⟩), .int .u64 8200, .int .i64 2] W fun e w' => e = .returned (.tuple #[.agg #[.int .i64 Ent.zero.size, .int .i64 Ent.zero.ctx, .int .u64 Ent.zero.va, .int .u64 Ent.zero.pa, .bool Ent.zero.att.write, .bool Ent.zero.att.priv, .bool Ent.zero.att.exec, .bool Ent.zero.att.lock, .bool Ent.zero.att.global, .bool Ent.zero.att.quiet, .bool Ent.zero.valid], .bool false]) ∧ Below W.heap.size W w' by
    have := find_any 8200 2 (by decide) (by decide) W h
    rw [(exT_find h.ok).2.2, fndE_no (exT_find h.ok).2.2] at this; exact this))
  have CN := Lib.hid (fun W st sb bm (h : TsbAt W st sb bm exP (insT exP (fun _ => Pl.none) exT)) => len_any h.ok W h.row)
  rw [show errP exP exT = 0 from by unfold errP; rw [if_pos exT_may]] at CI
  rw [show (exP.n : Int) = 512 from rfl] at CN
  generalize insT exP (fun _ => Pl.none) exT = T1 at *
  simp only [exT, Ent.zero] at CI C3 C4
  go_enter Tryz.func13, Tryz.ntmps13
  go_wp2_with fail
  refine (C1.out _).mono ?_; rintro e w1 ⟨rfl, m1, b1⟩
  go_wp2_with fail
  refine (C2.out w w1 _ _ b1 (by omega) (Nat.le_refl _) m1).mono ?_; rintro e w2 ⟨rfl, sb, bm, n1, n2, n3, n4, t2⟩
  have NL : Below w2.heap.size w2 (w2.alloc (.cells #[.int .i64 0, .int .i64 1, .int .u64 8192, .int .u64 16384, .bool false, .bool false, .bool false, .bool false, .bool false, .bool false, .bool true] 35)) := (Below.refl _ _).alloc (Nat.le_refl _) _
  have R0 : RowE (w2.alloc (.cells #[.int .i64 0, .int .i64 1, .int .u64 8192, .int .u64 16384, .bool false, .bool false, .bool false, .bool false, .bool false, .bool false, .bool true] 35)) w2.heap.size exT := RowE.new w2 exT
  have t3 := t2.low NL
  have b3 := n4.trans (NL.mono n4.size)
  clear C1 C2 t2 NL m1 b1
  go_wp2_with fail
  refine (CI.out _ _ _ _ t3).mono ?_; rintro e w4 ⟨rfl, hT4⟩
  have R4 := New.keeps t3 hT4 R0
  have N4 := New.to n1 n2 n3 b3 t3 hT4
  clear CI t3 hT4 R0 b3 n1 n2 n3 n4
  obtain ⟨sb2, bm2, q1, q2, q3, q4, t4⟩ := N4
  go_wp2_with fail
  refine (C3.out _ _ _ _ t4).mono ?_; rintro e w5 ⟨rfl, hb5⟩
  have R5 := R4.below hb5 R4.lt
  have t5 := t4.low hb5
  have b5 := q4.trans (hb5.mono q4.size)
  have NL : Below w5.heap.size w5 (w5.alloc (.cells #[.int .i64 0, .int .i64 1, .int .u64 8192, .int .u64 16384, .bool false, .bool false, .bool false, .bool false, .bool false, .bool false, .bool true] 35)) := (Below.refl _ _).alloc (Nat.le_refl _) _
  have S5 : RowE (w5.alloc (.cells #[.int .i64 0, .int .i64 1, .int .u64 8192, .int .u64 16384, .bool false, .bool false, .bool false, .bool false, .bool false, .bool false, .bool true] 35)) w5.heap.size exT := RowE.new w5 exT
  have R6 := R5.below NL R5.lt
  have t6 := t5.low NL
  have b6 := b5.trans (NL.mono b5.size)
  clear C3 t4 t5 R4 R5 b5 hb5 NL q4
  go_wp2_with fail
  refine (C4.out _ _ _ _ t6).mono ?_; rintro e w7 ⟨rfl, hb7⟩
  have R7 := R6.below hb7 R6.lt
  have S7 := S5.below hb7 S5.lt
  have t7 := t6.low hb7
  have b7 := b6.trans (hb7.mono b6.size)
  have NL : Below w7.heap.size w7 (w7.alloc (.cells #[.int .i64 0, .int .i64 0, .int .u64 0, .int .u64 0, .bool false, .bool false, .bool false, .bool false, .bool false, .bool false, .bool false] 35)) := (Below.refl _ _).alloc (Nat.le_refl _) _
  have R8 := R7.below NL R7.lt
  have S8 := S7.below NL S7.lt
  have t8 := t7.low NL
  have b8 := b7.trans (NL.mono b7.size)
  clear C4 t6 t7 R6 R7 S5 S7 b6 b7 hb7 NL
  go_wp2_with fail
  refine (CN.out _ _ _ _ t8).mono ?_; rintro e w9 ⟨rfl, n9, rfl⟩
  have R9 := R8.drewN n9
  have S9 := S8.drewN n9
  have b9 := below_drewN b8 n9
  clear CN t8 R8 S8 b8
  obtain ⟨r0, r1, r2, r3, r4, r5, r6, r7, r8, r9, r10⟩ := R9.cells
  obtain ⟨s0, s1, s2, s3, s4, s5, s6, s7, s8, s9, s10⟩ := S9.cells
  go_wp2_with fail
  go_ret
  exact ⟨rfl, b9⟩
end Go.Proofs.YtgdagfhdimoklaaGreat.Ts
/-
  What begins the laws: a TSB in a memory of its own, and entries that may be there. Conditions: numbers are what Go's types hold.
-/
namespace Go.Proofs.YtgdagfhdimoklaaGreat.Ts
open Fld
open Pt (idxI idx_bd slotI lastI arI ar_bd raround_any)
open Mem (MemAt MemTo word setW mayI)
open Go.ChangeShapes Go.WideShapes Go.ChangeAt Go.RowKit Go.Shelf
set_option maxRecDepth 100000
set_option maxHeartbeats 2000000
def parB (s g : Int) : Par := ⟨1048576, 65536, (placesI s g).toNat, s, g⟩
theorem begin_ok {s g : Int} (hs : 0 ≤ s ∧ s < 4) (hg : 0 ≤ g ∧ g < 4) : newE 1048576 65536 s g = 0 := by
  have hz : sizeB s = true := sizeB_mk (by omega)
  have hbd := places_bd hz hg.1 (by omega)
  rw [why_eq (by decide) (by decide) (by decide)]
  unfold whyI
  rw [if_neg (by omega), if_pos (by decide), if_neg (by omega)]
theorem rtnew_any (s g : Int) (w : World) :
    Calls Tryz.prog 21 #[.int .i64 s, .int .i64 g] w fun e w' => e = .returned (.agg #[.int .i64 s, .int .i64 (placesI s g), .slice none 0 0]) ∧ Below w.heap.size w w' := by
  have C := Lib.hid (fun W => rplaces_any s g W)
  have z1 : Below w.heap.size w (w.alloc (.cells #[.int .i64 0, .int .i64 0, .slice none 0 0] 26)) := (Below.refl _ _).alloc (Nat.le_refl _) _
  have b1 : (w.alloc (.cells #[.int .i64 0, .int .i64 0, .slice none 0 0] 26)).heap[w.heap.size]? = some (.cells #[.int .i64 0, .int .i64 0, .slice none 0 0] 26 (0, 0)) := World.alloc_heap_new _ _
  generalize placesI s g = n at *
  go_enter Tryz.func21, Tryz.ntmps21
  go_wp2_with fail
  refine (C.out _).mono ?_; rintro e w2 ⟨rfl, hb2⟩
  have b2 := (hb2.block _ (Array.getElem?_eq_some_iff.1 b1).1).trans b1
  have z2 := z1.trans (hb2.mono z1.size)
  clear b1 z1 hb2 C
  have e0 := cell_row 0 b2 rfl
  have e1 := cell_row 1 b2 rfl
  have e2 := cell_row 2 b2 rfl
  have fr : ∀ i, w2.frozen? ⟨w.heap.size, i, none⟩ = false := fun i => by simp [World.frozen?, b2]
  go_wp2
  have b3 : (((w2.setCell ⟨w.heap.size, 0, none⟩ (.int .i64 s)).setCell ⟨w.heap.size, 1, none⟩ (.int .i64 n)).setCell ⟨w.heap.size, 2, none⟩ (.slice none 0 0)).heap[w.heap.size]? = some (.cells #[.int .i64 s, .int .i64 n, .slice none 0 0] 26 (0, 0)) := by
    rw [Mem.heap_set (Mem.heap_set (Mem.heap_set b2 _) _) _]; rfl
  (try simp only [Exit.inBlock, Exit.then])
  refine bodyPost_ret (results_cell_row rfl _ _ _ _ _ (0, 0) _ rfl b3 Tryz.underlying26 (by kernel_rfl) (by kernel_rfl)) rfl ⟨rfl, ?_⟩
  exact ((z2.setCell (p := ⟨w.heap.size, 0, none⟩) (Nat.le_refl _) _).setCell (p := ⟨w.heap.size, 1, none⟩) (Nat.le_refl _) _).setCell (p := ⟨w.heap.size, 2, none⟩) (Nat.le_refl _) _
theorem res_tT {fn : Func} {p u : Tmp} (h : fn.results = #[.tmp u, .cell p 26]) (tmps : Array Value) (w : World) (g : Nat) (x y v : Value) (hp : tmps.getD p undef = .pointer (some ⟨g, 0, none⟩)) (hR : w.heap[g]? = some (.cells #[x, y, v] 26 (0, 0))) :
    (results fn tmps).run Tryz.prog w = .ok (.tuple #[tmps.getD u undef, .agg #[x, y, v]]) w := by
  have hl := run_loadVar_row (P := Tryz.prog) w g 26 26 _ (0, 0) _ hR Tryz.underlying26 (by kernel_rfl) (by kernel_rfl)
  have hp' : tmps[p]?.getD undef = .pointer (some ⟨g, 0, none⟩) := by simpa using hp
  simp [results, h, hp', hl, asAddr, Result.andThen]
/-- Cells of another type are none of a TSB's blocks. -/
theorem TsbAt.ne_row {w : World} {st sb bm b : Nat} {p : Par} {T : Nat → Pl} (h : TsbAt w st sb bm p T) {c : Array Value} {t : TypeId} {f : Nat × Nat} (hb : w.heap[b]? = some (.cells c t f)) (ht : t ≠ 83 ∧ t ≠ 70) : b ≠ st ∧ b ≠ sb ∧ b ≠ bm := by
  obtain ⟨g, hm, _⟩ := h.mem
  obtain ⟨m, _, h1⟩ := hm.row
  obtain ⟨D, ⟨es, clock, h2, _⟩, _⟩ := hm.words
  refine ⟨?_, ?_, ?_⟩
  · rintro rfl; rw [h.row.row] at hb; cases hb; exact ht.2 rfl
  · rintro rfl; rw [h1] at hb; cases hb; exact ht.1 rfl
  · rintro rfl; rw [h2] at hb; cases hb
theorem New.set {W w : World} {st b : Nat} {p : Par} {T : Nat → Pl} (h : New W w st p T) {c : Array Value} {t : TypeId} {f : Nat × Nat} (hb : w.heap[b]? = some (.cells c t f)) (ht : t ≠ 83 ∧ t ≠ 70) (hB : W.heap.size ≤ b) (o : Nat) (u : Value) : New W (w.setCell ⟨b, o, none⟩ u) st p T := by
  obtain ⟨sb, bm, x, y, z, d, e⟩ := h
  obtain ⟨n1, n2, n3⟩ := e.ne_row hb ht
  exact ⟨sb, bm, x, y, z, d.setCell (p := ⟨b, o, none⟩) hB u, e.same (Below.heap_setCell _ _ _ _ (Ne.symm n1)) (Below.heap_setCell _ _ _ _ (Ne.symm n2)) (Below.heap_setCell _ _ _ _ (Ne.symm n3))⟩
theorem New.drew {W w : World} {st : Nat} {p : Par} {T : Nat → Pl} (h : New W w st p T) : New W w.drew st p T := h.drewN 1
theorem begin_any (a b : Int) (a0 : -9223372036854775808 ≤ a) (a1 : a ≤ 9223372036854775807) (b0 : -9223372036854775808 ≤ b) (b1 : b ≤ 9223372036854775807) (w : World) :
    Calls Tryz.prog 5 #[.int .i64 a, .int .i64 b] w fun e w' => ∃ st, e = .returned (.tuple #[.pointer (some ⟨st, 0, none⟩), .agg #[.int .i64 (arI a 4), .int .i64 (placesI (arI a 4) (arI b 4)), .slice none 0 0]]) ∧ New w w' st (parB (arI a 4) (arI b 4)) (fun _ => Pl.none) ∧ w.heap.size + 1 ≤ st := by
  have CA := Lib.hid (fun W => raround_any a 4 a0 a1 (by decide) (by decide) W)
  have CB := Lib.hid (fun W => raround_any b 4 b0 b1 (by decide) (by decide) W)
  have hs := ar_bd a 4 (by decide)
  have hg := ar_bd b 4 (by decide)
  have C1 := Lib.hid (fun W => Mem.new_any 1048576 (by decide) (by decide) W)
  rw [show (min (1048576 : Int) 2199023255552).toNat = (1048576 : Int).toNat from rfl] at C1
  have he := begin_ok hs hg
  have CT := Lib.hid (fun W => rtnew_any (arI a 4) (arI b 4) W)
  have C2 := Lib.hid (fun W W1 sb bm hW p q h => nnew_turn 1048576 65536 (arI a 4) (arI b 4) (by decide) (by decide) (by decide) W W1 sb bm hW p q h he)
  rw [show (⟨(1048576 : Int).toNat, (65536 : Int).toNat, (placesI (arI a 4) (arI b 4)).toNat, arI a 4, arI b 4⟩ : Par) = parB (arI a 4) (arI b 4) from rfl] at C2
  have z1 : Below w.heap.size w (w.alloc (.cells #[.int .i64 0, .int .i64 0, .slice none 0 0] 26)) := (Below.refl _ _).alloc (Nat.le_refl _) _
  have b1 : (w.alloc (.cells #[.int .i64 0, .int .i64 0, .slice none 0 0] 26)).heap[w.heap.size]? = some (.cells #[.int .i64 0, .int .i64 0, .slice none 0 0] 26 (0, 0)) := World.alloc_heap_new _ _
  have s1 : (w.alloc (.cells #[.int .i64 0, .int .i64 0, .slice none 0 0] 26)).heap.size = w.heap.size + 1 := by simp
  generalize parB (arI a 4) (arI b 4) = P at *
  generalize placesI (arI a 4) (arI b 4) = n at *
  generalize arI a 4 = s at *
  generalize arI b 4 = g at *
  clear he
  go_enter Tryz.func5, Tryz.ntmps5
  go_wp2_with (first | (go_at_call 19; (with_reducible refine (CB.out _).mono ?_); rintro e w' ⟨rfl, m2, rfl⟩) | (go_at_call 19; (with_reducible refine (CA.out _).mono ?_); rintro e w' ⟨rfl, m1, rfl⟩) | fail)
  have b0 : ((w.alloc (.cells #[.int .i64 0, .int .i64 0, .slice none 0 0] 26)).drewN (m1 + m2)).heap[w.heap.size]? = some (.cells #[.int .i64 0, .int .i64 0, .slice none 0 0] 26 (0, 0)) := b1
  have z0 := below_drewN z1 (m1 + m2)
  have s0 : ((w.alloc (.cells #[.int .i64 0, .int .i64 0, .slice none 0 0] 26)).drewN (m1 + m2)).heap.size = w.heap.size + 1 := s1
  clear b1 z1 s1 CA CB
  generalize World.drewN _ (m1 + m2) = W0 at *
  refine (C1.out _).mono ?_; rintro e w1 ⟨rfl, h1, hb1⟩
  rw [s0] at h1
  have z1 := z0.trans (hb1.mono z0.size)
  have b1 := (hb1.block _ (by omega)).trans b0
  have hm1 := h1.lt
  clear z0 b0 C1
  go_wp2_with fail
  refine (CT.out _).mono ?_; rintro e w2 ⟨rfl, hb2⟩
  have z2 := z1.trans (hb2.mono z1.size)
  have b2 := (hb2.block _ (Array.getElem?_eq_some_iff.1 b1).1).trans b1
  have h2 := h1.same (hb2.block _ hm1.1) (hb2.block _ hm1.2)
  have NL : Below w2.heap.size w2 (w2.alloc (.cells #[.int .i64 s, .int .i64 n, .slice none 0 0] 26)) := (Below.refl _ _).alloc (Nat.le_refl _) _
  have b3 : (w2.alloc (.cells #[.int .i64 s, .int .i64 n, .slice none 0 0] 26)).heap[w2.heap.size]? = some (.cells #[.int .i64 s, .int .i64 n, .slice none 0 0] 26 (0, 0)) := World.alloc_heap_new _ _
  have z3 := z2.trans (NL.mono z2.size)
  have a3 := (NL.block _ (Array.getElem?_eq_some_iff.1 b2).1).trans b2
  have h3 := h2.same (NL.block _ h2.lt.1) (NL.block _ h2.lt.2)
  have hz2 := hb2.size
  have s3 : (w2.alloc (.cells #[.int .i64 s, .int .i64 n, .slice none 0 0] 26)).heap.size = w2.heap.size + 1 := by simp
  clear CT h1 h2 hb2 NL b1 b2 z1 z2
  go_wp2_with fail
  refine (C2.out w _ _ _ z3 (by omega) (by omega) h3).mono ?_; rintro e w4 ⟨rfl, N4, u4⟩
  have b4 := (u4.block _ (Array.getElem?_eq_some_iff.1 b3).1 (by omega) (by omega)).trans b3
  have a4 := (u4.block _ (Array.getElem?_eq_some_iff.1 a3).1 (by omega) (by omega)).trans a3
  rw [s3] at N4
  clear C2 h3 u4 b3 a3 z3
  have e0 := cell_row 0 b4 rfl
  have e1 := cell_row 1 b4 rfl
  have e2 := cell_row 2 b4 rfl
  have f0 := cell_row 0 a4 rfl
  have f1 := cell_row 1 a4 rfl
  have f2 := cell_row 2 a4 rfl
  have fr : ∀ i, w4.frozen? ⟨w.heap.size, i, none⟩ = false := fun i => by simp [World.frozen?, a4]
  go_wp2_with fail
  go_region
  all_goals
    go_wp2_with fail
    have q1 := Mem.heap_set a4 (o := 0) (.int .i64 s)
    have q2 := Mem.heap_set q1 (o := 1) (.int .i64 n)
    have q3 := Mem.heap_set q2 (o := 2) (.slice none 0 0)
    have N5 := (((N4.set a4 (by decide) (Nat.le_refl _) 0 (.int .i64 s)).set q1 (by decide) (Nat.le_refl _) 1 (.int .i64 n)).set q2 (by decide) (Nat.le_refl _) 2 (.slice none 0 0)).drew
    (try simp only [Exit.inBlock, Exit.then])
    refine bodyPost_ret (res_tT rfl _ _ w.heap.size _ _ _ rfl q3) rfl ⟨_, rfl, N5, by omega⟩
end Go.Proofs.YtgdagfhdimoklaaGreat.Ts
/-
  The entry that a deed of the laws of layer 10 speaks of. Conditions: numbers are what Go's types hold.
-/
namespace Go.Proofs.YtgdagfhdimoklaaGreat.Ts
open Fld
open Go.ChangeShapes Go.WideShapes Go.ChangeAt Go.RowKit Go.Shelf
set_option maxRecDepth 100000
set_option maxHeartbeats 2000000
structure DeedV where
  kind : Int
  ctx : Int
  va : Int
  e : Ent
  raw : Bool
structure DeedV.wf (d : DeedV) : Prop where
  c0 : -9223372036854775808 ≤ d.ctx
  c1 : d.ctx ≤ 9223372036854775807
  v0 : 0 ≤ d.va
  v1 : d.va ≤ 18446744073709551615
  e : d.e.wf
def DeedV.ent (s : Int) (d : DeedV) : Ent := if d.raw then d.e else ({ d.e with size := s } : Ent).good
theorem ok_wf {g : Ent} (h : g.Ok) : g.wf := by
  have h1 := h.fit.s0; have h2 := h.fit.s1; have h3 := h.fit.c0; have h4 := h.fit.c1; have h5 := h.fit.p0; have h6 := h.p1
  exact ⟨⟨by omega, by omega⟩, ⟨by omega, by omega⟩, ⟨h.v0, h.v1⟩, ⟨h5, h6⟩⟩
theorem DeedV.wf.ent {d : DeedV} (h : d.wf) (s : Int) : (d.ent s).wf := by
  unfold DeedV.ent; split
  · exact h.e
  · exact ok_wf (Ent.good_ok _)
theorem wf_u {e : Ent} (h : e.wf) : EntU e := ⟨h.2.2.1.1, h.2.2.1.2, h.2.2.2.1, h.2.2.2.2⟩
theorem nrm_id {s : Int} (h : 0 ≤ s ∧ s < 4) : nrm s 4 = s := by
  rw [← nrm_pos s 4 (by omega)]; omega
theorem made_size (e : Ent) {s : Int} (h : 0 ≤ s ∧ s < 4) : ({ e with size := s } : Ent).good.size = s := nrm_id h
/-- An entry of a size, made such as may be there. -/
def made (s : Int) (e : Ent) : Ent := ({ e with size := s } : Ent).good
theorem made_ok (s : Int) (e : Ent) : (made s e).Ok := Ent.good_ok _
theorem made_may {p : Par} (e : Ent) (h : 0 ≤ p.s ∧ p.s < 4) : mayT p (made p.s e) = true := by
  unfold mayT
  rw [(made_ok p.s e).may, show (made p.s e).size = p.s from made_size e h]
  simp
theorem deed_of {e : Ent} (h : e.wf) : DeedV.wf ⟨0, 0, 0, e, false⟩ := ⟨by show (-9223372036854775808 : Int) ≤ 0; decide, by show (0 : Int) ≤ 9223372036854775807; decide, by show (0 : Int) ≤ 0; decide, by show (0 : Int) ≤ 18446744073709551615; decide, h⟩
theorem dentry_any (d : DeedV) (hd : d.wf) (s : Int) (hs : 0 ≤ s ∧ s < 4) (w : World) :
    Calls Tryz.prog 14 #[.agg #[.int .i64 d.kind, .int .i64 d.ctx, .int .u64 d.va, .int .i64 d.e.size, .int .i64 d.e.ctx, .int .u64 d.e.va, .int .u64 d.e.pa, .bool d.e.att.write, .bool d.e.att.priv, .bool d.e.att.exec, .bool d.e.att.lock, .bool d.e.att.global, .bool d.e.att.quiet, .bool d.e.valid, .bool d.raw], .int .i64 s] w fun r w' => r = .returned (.agg #[.int .i64 (d.ent s).size, .int .i64 (d.ent s).ctx, .int .u64 (d.ent s).va, .int .u64 (d.ent s).pa, .bool (d.ent s).att.write, .bool (d.ent s).att.priv, .bool (d.ent s).att.exec, .bool (d.ent s).att.lock, .bool (d.ent s).att.global, .bool (d.ent s).att.quiet, .bool (d.ent s).valid]) ∧ Below w.heap.size w w' := by
  have B0 : Below w.heap.size w ((w.alloc (.cells #[.int .i64 d.kind, .int .i64 d.ctx, .int .u64 d.va, .int .i64 d.e.size, .int .i64 d.e.ctx, .int .u64 d.e.va, .int .u64 d.e.pa, .bool d.e.att.write, .bool d.e.att.priv, .bool d.e.att.exec, .bool d.e.att.lock, .bool d.e.att.global, .bool d.e.att.quiet, .bool d.e.valid, .bool d.raw] 37)).alloc (.cells #[.int .i64 0, .int .i64 0, .int .u64 0, .int .u64 0, .bool false, .bool false, .bool false, .bool false, .bool false, .bool false, .bool false] 35)) := ((Below.refl _ _).alloc (Nat.le_refl _) _).alloc (by simp) _
  have R0 : RowE ((w.alloc (.cells #[.int .i64 d.kind, .int .i64 d.ctx, .int .u64 d.va, .int .i64 d.e.size, .int .i64 d.e.ctx, .int .u64 d.e.va, .int .u64 d.e.pa, .bool d.e.att.write, .bool d.e.att.priv, .bool d.e.att.exec, .bool d.e.att.lock, .bool d.e.att.global, .bool d.e.att.quiet, .bool d.e.valid, .bool d.raw] 37)).alloc (.cells #[.int .i64 0, .int .i64 0, .int .u64 0, .int .u64 0, .bool false, .bool false, .bool false, .bool false, .bool false, .bool false, .bool false] 35)) (w.heap.size + 1) Ent.zero := by
    have := RowE.new (w.alloc (.cells #[.int .i64 d.kind, .int .i64 d.ctx, .int .u64 d.va, .int .i64 d.e.size, .int .i64 d.e.ctx, .int .u64 d.e.va, .int .u64 d.e.pa, .bool d.e.att.write, .bool d.e.att.priv, .bool d.e.att.exec, .bool d.e.att.lock, .bool d.e.att.global, .bool d.e.att.quiet, .bool d.e.valid, .bool d.raw] 37)) Ent.zero
    rwa [World.size_alloc] at this
  cases hr : d.raw
  · have he : d.ent s = ({ d.e with size := s } : Ent).good := by unfold DeedV.ent; rw [hr]; rfl
    have H := Lib.hid (fun W => good_any ({ d.e with size := s } : Ent) ⟨⟨by show _ ≤ s; omega, by show s ≤ _; omega⟩, hd.e.2⟩ W)
    rw [he]
    rw [hr] at B0 R0
    generalize ({ d.e with size := s } : Ent).good = G at *
    clear he
    have NB : Below w.heap.size w (((w.alloc (.cells #[.int .i64 d.kind, .int .i64 d.ctx, .int .u64 d.va, .int .i64 d.e.size, .int .i64 d.e.ctx, .int .u64 d.e.va, .int .u64 d.e.pa, .bool d.e.att.write, .bool d.e.att.priv, .bool d.e.att.exec, .bool d.e.att.lock, .bool d.e.att.global, .bool d.e.att.quiet, .bool d.e.valid, .bool false] 37)).alloc (.cells #[.int .i64 0, .int .i64 0, .int .u64 0, .int .u64 0, .bool false, .bool false, .bool false, .bool false, .bool false, .bool false, .bool false] 35)).alloc (.cells #[.int .i64 s, .int .i64 d.e.ctx, .int .u64 d.e.va, .int .u64 d.e.pa, .bool d.e.att.write, .bool d.e.att.priv, .bool d.e.att.exec, .bool d.e.att.lock, .bool d.e.att.global, .bool d.e.att.quiet, .bool d.e.valid] 35)) := B0.alloc (by simp; omega) _
    have NR := R0.below ((Below.refl _ _).alloc (Nat.le_refl _) (.cells #[.int .i64 s, .int .i64 d.e.ctx, .int .u64 d.e.va, .int .u64 d.e.pa, .bool d.e.att.write, .bool d.e.att.priv, .bool d.e.att.exec, .bool d.e.att.lock, .bool d.e.att.global, .bool d.e.att.quiet, .bool d.e.valid] 35)) R0.lt
    clear B0 R0
    go_enter Tryz.func14, Tryz.ntmps14
    go_wp2_with fail
    refine (H.out _).mono ?_; rintro r w1 ⟨rfl, hb1⟩
    have R1 := NR.below hb1 NR.lt
    have B1 := NB.trans (hb1.mono NB.size)
    obtain ⟨r0, r1, r2, r3, r4, r5, r6, r7, r8, r9, r10⟩ := R1.cells
    have fr := R1.frozen
    clear NR NB hb1 H
    go_wp2_with fail
    have R2 := R1.setAll (e := G)
    (try simp only [Exit.inBlock, Exit.then])
    refine bodyPost_ret (results_cell_row rfl _ _ _ _ _ (0, 0) _ rfl R2.row Tryz.underlying35 (by kernel_rfl) (by kernel_rfl)) rfl ⟨rfl, ?_⟩
    iterate 11 refine below_setN ?_ (by omega)
    exact B1
  · have he : d.ent s = d.e := by unfold DeedV.ent; rw [hr]; rfl
    rw [he]
    clear he B0 R0
    have R2 := RowE.new (w.alloc (.cells #[.int .i64 d.kind, .int .i64 d.ctx, .int .u64 d.va, .int .i64 d.e.size, .int .i64 d.e.ctx, .int .u64 d.e.va, .int .u64 d.e.pa, .bool d.e.att.write, .bool d.e.att.priv, .bool d.e.att.exec, .bool d.e.att.lock, .bool d.e.att.global, .bool d.e.att.quiet, .bool d.e.valid, .bool d.raw] 37)) d.e
    have B2 : Below w.heap.size w ((w.alloc (.cells #[.int .i64 d.kind, .int .i64 d.ctx, .int .u64 d.va, .int .i64 d.e.size, .int .i64 d.e.ctx, .int .u64 d.e.va, .int .u64 d.e.pa, .bool d.e.att.write, .bool d.e.att.priv, .bool d.e.att.exec, .bool d.e.att.lock, .bool d.e.att.global, .bool d.e.att.quiet, .bool d.e.valid, .bool d.raw] 37)).alloc (.cells #[.int .i64 d.e.size, .int .i64 d.e.ctx, .int .u64 d.e.va, .int .u64 d.e.pa, .bool d.e.att.write, .bool d.e.att.priv, .bool d.e.att.exec, .bool d.e.att.lock, .bool d.e.att.global, .bool d.e.att.quiet, .bool d.e.valid] 35)) := ((Below.refl _ _).alloc (Nat.le_refl _) _).alloc (by simp) _
    rw [World.size_alloc] at R2
    rw [hr] at R2 B2
    go_enter Tryz.func14, Tryz.ntmps14
    go_wp2_with fail
    (try simp only [Exit.inBlock, Exit.then])
    refine bodyPost_ret (results_cell_row rfl _ _ _ _ _ (0, 0) _ rfl R2.row Tryz.underlying35 (by kernel_rfl) (by kernel_rfl)) rfl ⟨rfl, ?_⟩
    exact B2
theorem dmade_any (e : Ent) (he : e.wf) (s : Int) (hs : 0 ≤ s ∧ s < 4) (w : World) :
    Calls Tryz.prog 14 #[.agg #[.int .i64 0, .int .i64 0, .int .u64 0, .int .i64 e.size, .int .i64 e.ctx, .int .u64 e.va, .int .u64 e.pa, .bool e.att.write, .bool e.att.priv, .bool e.att.exec, .bool e.att.lock, .bool e.att.global, .bool e.att.quiet, .bool e.valid, .bool false], .int .i64 s] w fun r w' => r = .returned (.agg #[.int .i64 (made s e).size, .int .i64 (made s e).ctx, .int .u64 (made s e).va, .int .u64 (made s e).pa, .bool (made s e).att.write, .bool (made s e).att.priv, .bool (made s e).att.exec, .bool (made s e).att.lock, .bool (made s e).att.global, .bool (made s e).att.quiet, .bool (made s e).valid]) ∧ Below w.heap.size w w' :=
  dentry_any ⟨0, 0, 0, e, false⟩ (deed_of he) s hs w
end Go.Proofs.YtgdagfhdimoklaaGreat.Ts
/-
  A TSB and boxes that are carried over a law, and what each call does to them. Conditions: numbers are what Go's types hold.
-/
namespace Go.Proofs.YtgdagfhdimoklaaGreat.Ts
open Fld
open Pt (idxI idx_bd slotI lastI arI ar_bd)
open Tl (ListAt DocAt)
open Go.ChangeShapes Go.WideShapes Go.ChangeAt Go.RowKit Go.Shelf
set_option maxRecDepth 100000
set_option maxHeartbeats 2000000
abbrev Bx := Nat × Array Value × TypeId
def okT (t : TypeId) : Prop := t ≠ 83 ∧ t ≠ 70
def ecell (e : Ent) : Array Value := #[.int .i64 e.size, .int .i64 e.ctx, .int .u64 e.va, .int .u64 e.pa, .bool e.att.write, .bool e.att.priv, .bool e.att.exec, .bool e.att.lock, .bool e.att.global, .bool e.att.quiet, .bool e.valid]
abbrev bx (b : Nat) (e : Ent) : Bx := (b, ecell e, 35)
/-- Boxes that lie there. -/
def Rows (W w : World) (L : List Bx) : Prop := ∀ q ∈ L, w.heap[q.1]? = some (.cells q.2.1 q.2.2 (0, 0)) ∧ okT q.2.2 ∧ W.heap.size ≤ q.1
theorem Rows.low {W w w' : World} {L : List Bx} (h : Rows W w L) (hb : Below w.heap.size w w') : Rows W w' L := fun q hq => by
  obtain ⟨a, b, c⟩ := h q hq
  exact ⟨(hb.block _ (Array.getElem?_eq_some_iff.1 a).1).trans a, b, c⟩
theorem Rows.to {W w w' : World} {st sb bm : Nat} {p : Par} {T : Nat → Pl} {L : List Bx} (h : Rows W w L) (e : TsbAt w st sb bm p T) (k : Mem.Turn w w' sb bm) : Rows W w' L := fun q hq => by
  obtain ⟨a, b, c⟩ := h q hq
  obtain ⟨_, n2, n3⟩ := e.ne_row a b
  exact ⟨(k.block _ (Array.getElem?_eq_some_iff.1 a).1 n2 n3).trans a, b, c⟩
theorem Rows.add {W w : World} {L : List Bx} (h : Rows W w L) {b : Nat} {c : Array Value} {t : TypeId} (hb : w.heap[b]? = some (.cells c t (0, 0))) (ht : okT t) (hB : W.heap.size ≤ b) : Rows W w ((b, c, t) :: L) := fun q hq => by
  rcases List.mem_cons.1 hq with rfl | hq
  · exact ⟨hb, ht, hB⟩
  · exact h q hq
theorem Rows.put {W w : World} {L : List Bx} {b : Nat} {c : Array Value} {t : TypeId} (h : Rows W w ((b, c, t) :: L)) (hne : ∀ q ∈ L, q.1 ≠ b) (o : Nat) (u : Value) : Rows W (w.setCell ⟨b, o, none⟩ u) ((b, c.setIfInBounds o u, t) :: L) := fun q hq => by
  rcases List.mem_cons.1 hq with rfl | hq
  · obtain ⟨x, y, z⟩ := h (b, c, t) (List.mem_cons_self ..)
    exact ⟨Mem.heap_set x u, y, z⟩
  · obtain ⟨x, y, z⟩ := h q (List.mem_cons_of_mem _ hq)
    exact ⟨(Below.heap_setCell _ _ _ _ (hne q hq)).trans x, y, z⟩
structure Car (W w : World) (st : Nat) (p : Par) (T : Nat → Pl) (L : List Bx) : Prop where
  new : New W w st p T
  rows : Rows W w L
theorem Car.low {W w w' : World} {st : Nat} {p : Par} {T : Nat → Pl} {L : List Bx} (h : Car W w st p T L) (hb : Below w.heap.size w w') : Car W w' st p T L := ⟨h.new.low hb, h.rows.low hb⟩
theorem Car.drewN {W w : World} {st : Nat} {p : Par} {T : Nat → Pl} {L : List Bx} (h : Car W w st p T L) (n : Nat) : Car W (w.drewN n) st p T L := h.low (drewN_low w n)
theorem Car.drew {W w : World} {st : Nat} {p : Par} {T : Nat → Pl} {L : List Bx} (h : Car W w st p T L) : Car W w.drew st p T L := h.drewN 1
theorem Car.alloc {W w : World} {st : Nat} {p : Par} {T : Nat → Pl} {L : List Bx} (h : Car W w st p T L) (o : Obj) : Car W (w.alloc o) st p T L := h.low ((Below.refl _ _).alloc (Nat.le_refl _) _)
theorem Car.push {W w : World} {st : Nat} {p : Par} {T : Nat → Pl} {L : List Bx} (h : Car W w st p T L) (c : Array Value) (t : TypeId) (ht : okT t) : Car W (w.alloc (.cells c t)) st p T ((w.heap.size, c, t) :: L) :=
  ⟨(h.alloc _).new, (h.alloc _).rows.add (World.alloc_heap_new _ _) ht h.new.below.size⟩
theorem Car.box {W w : World} {st : Nat} {p : Par} {T : Nat → Pl} {L : List Bx} (h : Car W w st p T L) (e : Ent) : Car W (w.alloc (.cells #[.int .i64 e.size, .int .i64 e.ctx, .int .u64 e.va, .int .u64 e.pa, .bool e.att.write, .bool e.att.priv, .bool e.att.exec, .bool e.att.lock, .bool e.att.global, .bool e.att.quiet, .bool e.valid] 35)) st p T (bx w.heap.size e :: L) :=
  h.push (ecell e) 35 ⟨by decide, by decide⟩
theorem Car.sub {W w : World} {st : Nat} {p : Par} {T : Nat → Pl} {L M : List Bx} (h : Car W w st p T L) (hM : ∀ q ∈ M, q ∈ L) : Car W w st p T M := ⟨h.new, fun q hq => h.rows q (hM q hq)⟩
theorem Car.row {W w : World} {st : Nat} {p : Par} {T : Nat → Pl} {L : List Bx} (h : Car W w st p T L) {b : Nat} {e : Ent} (hq : bx b e ∈ L) : RowE w b e := ⟨(h.rows _ hq).1⟩
theorem Car.put {W w : World} {st b : Nat} {p : Par} {T : Nat → Pl} {c : Array Value} {t : TypeId} {L : List Bx} (h : Car W w st p T ((b, c, t) :: L)) (hne : ∀ q ∈ L, q.1 ≠ b) (o : Nat) (u : Value) : Car W (w.setCell ⟨b, o, none⟩ u) st p T ((b, c.setIfInBounds o u, t) :: L) := by
  obtain ⟨x, y, z⟩ := h.rows (b, c, t) (List.mem_cons_self ..)
  exact ⟨h.new.set x y z o u, h.rows.put hne o u⟩
theorem Car.to {W w w' : World} {st sb bm : Nat} {p : Par} {T U : Nat → Pl} {L : List Bx} (h : Car W w st p T L) (a : W.heap.size ≤ st) (b : W.heap.size ≤ sb) (c : W.heap.size ≤ bm) (d : Below W.heap.size W w) (e : TsbAt w st sb bm p T) (k : TsbTo w w' st sb bm p U) : Car W w' st p U L :=
  ⟨New.to a b c d e k, by obtain ⟨_, _, _, u⟩ := k; exact h.rows.to e u⟩
theorem cfind {W w : World} {st : Nat} {p : Par} {T : Nat → Pl} {L : List Bx} (h : Car W w st p T L) (va ctx : Int) (v0 : 0 ≤ va) (v1 : va ≤ 18446744073709551615) :
    Calls Tryz.prog 23 #[.pointer (some ⟨st, 0, none⟩), .int .u64 va, .int .i64 ctx] w fun e w' => e = .returned (.tuple #[.agg #[.int .i64 (fndE p T va ctx).size, .int .i64 (fndE p T va ctx).ctx, .int .u64 (fndE p T va ctx).va, .int .u64 (fndE p T va ctx).pa, .bool (fndE p T va ctx).att.write, .bool (fndE p T va ctx).att.priv, .bool (fndE p T va ctx).att.exec, .bool (fndE p T va ctx).att.lock, .bool (fndE p T va ctx).att.global, .bool (fndE p T va ctx).att.quiet, .bool (fndE p T va ctx).valid], .bool (fndB p T va ctx)]) ∧ Car W w' st p T L := by
  obtain ⟨sb, bm, a, b, c, d, e⟩ := h.new
  exact (find_any va ctx v0 v1 w e).mono fun _ _ ⟨x, y⟩ => ⟨x, h.low y⟩
theorem cinsert {W w : World} {st : Nat} {p : Par} {T : Nat → Pl} {L : List Bx} (h : Car W w st p T L) (e : Ent) (u : EntU e) :
    Calls Tryz.prog 15 #[.pointer (some ⟨st, 0, none⟩), .agg #[.int .i64 e.size, .int .i64 e.ctx, .int .u64 e.va, .int .u64 e.pa, .bool e.att.write, .bool e.att.priv, .bool e.att.exec, .bool e.att.lock, .bool e.att.global, .bool e.att.quiet, .bool e.valid]] w fun r w' => r = .returned (.int .i64 (errP p e)) ∧ Car W w' st p (insT p T e) L := by
  obtain ⟨sb, bm, a, b, c, d, t⟩ := h.new
  exact (insert_any e u w t).mono fun _ _ ⟨x, y⟩ => ⟨x, h.to a b c d t y⟩
theorem clock {W w : World} {st : Nat} {p : Par} {T : Nat → Pl} {L : List Bx} (h : Car W w st p T L) (va : Int) (v0 : 0 ≤ va) (v1 : va ≤ 18446744073709551615) :
    Calls Tryz.prog 29 #[.pointer (some ⟨st, 0, none⟩), .int .u64 va] w fun r w' => r = .returned (.tuple #[]) ∧ Car W w' st p (lokT p T va) L := by
  obtain ⟨sb, bm, a, b, c, d, t⟩ := h.new
  exact (lock_any va v0 v1 w t).mono fun _ _ ⟨x, y⟩ => ⟨x, h.to a b c d t y⟩
theorem cputData {W w : World} {st : Nat} {p : Par} {T : Nat → Pl} {L : List Bx} (h : Car W w st p T L) (e : Ent) (u : EntU e) :
    Calls Tryz.prog 42 #[.pointer (some ⟨st, 0, none⟩), .agg #[.int .i64 e.size, .int .i64 e.ctx, .int .u64 e.va, .int .u64 e.pa, .bool e.att.write, .bool e.att.priv, .bool e.att.exec, .bool e.att.lock, .bool e.att.global, .bool e.att.quiet, .bool e.valid]] w fun r w' => r = .returned (.int .i64 (errP p e)) ∧ Car W w' st p (datT p T e) L := by
  obtain ⟨sb, bm, a, b, c, d, t⟩ := h.new
  exact (putData_any e u w t).mono fun _ _ ⟨x, y⟩ => ⟨x, h.to a b c d t y⟩
theorem cputTag {W w : World} {st : Nat} {p : Par} {T : Nat → Pl} {L : List Bx} (h : Car W w st p T L) (e : Ent) (u : EntU e) :
    Calls Tryz.prog 43 #[.pointer (some ⟨st, 0, none⟩), .agg #[.int .i64 e.size, .int .i64 e.ctx, .int .u64 e.va, .int .u64 e.pa, .bool e.att.write, .bool e.att.priv, .bool e.att.exec, .bool e.att.lock, .bool e.att.global, .bool e.att.quiet, .bool e.valid]] w fun r w' => r = .returned (.int .i64 (errP p e)) ∧ Car W w' st p (tagT p T e) L := by
  obtain ⟨sb, bm, a, b, c, d, t⟩ := h.new
  exact (putTag_any e u w t).mono fun _ _ ⟨x, y⟩ => ⟨x, h.to a b c d t y⟩
theorem cdrop {W w : World} {st : Nat} {p : Par} {T : Nat → Pl} {L : List Bx} (h : Car W w st p T L) (va ctx : Int) (v0 : 0 ≤ va) (v1 : va ≤ 18446744073709551615) :
    Calls Tryz.prog 26 #[.pointer (some ⟨st, 0, none⟩), .int .u64 va, .int .i64 ctx] w fun r w' => r = .returned (.bool (fndB p T va ctx)) ∧ Car W w' st p (dropT p T va ctx) L := by
  obtain ⟨sb, bm, a, b, c, d, t⟩ := h.new
  exact (drop_any va ctx v0 v1 w t).mono fun _ _ ⟨x, y⟩ => ⟨x, h.to a b c d t y⟩
theorem cdropContext {W w : World} {st : Nat} {p : Par} {T : Nat → Pl} {L : List Bx} (h : Car W w st p T L) (ctx : Int) :
    Calls Tryz.prog 28 #[.pointer (some ⟨st, 0, none⟩), .int .i64 ctx] w fun r w' => r = .returned (.int .i64 (drpN p T ctx p.n : Int)) ∧ Car W w' st p (drpT p T ctx p.n) L := by
  obtain ⟨sb, bm, a, b, c, d, t⟩ := h.new
  exact (dropContext_any ctx w t).mono fun _ _ ⟨x, y⟩ => ⟨x, h.to a b c d t y⟩
theorem cclear {W w : World} {st : Nat} {p : Par} {T : Nat → Pl} {L : List Bx} (h : Car W w st p T L) :
    Calls Tryz.prog 31 #[.pointer (some ⟨st, 0, none⟩)] w fun r w' => r = .returned (.tuple #[]) ∧ Car W w' st p (fun _ => Pl.none) L := by
  obtain ⟨sb, bm, a, b, c, d, t⟩ := h.new
  exact (clear_any w t).mono fun _ _ ⟨x, y⟩ => ⟨x, h.to a b c d t y⟩
theorem clocked {W w : World} {st : Nat} {p : Par} {T : Nat → Pl} {L : List Bx} (h : Car W w st p T L) :
    Calls Tryz.prog 8 #[.pointer (some ⟨st, 0, none⟩)] w fun e w' => e = .returned (.int .i64 (lckN T p.n : Int)) ∧ Car W w' st p T L := by
  obtain ⟨sb, bm, a, b, c, d, t⟩ := h.new
  exact (locked_any w t).mono fun _ _ ⟨x, y⟩ => ⟨x, h.low y⟩
theorem clen {W w : World} {st : Nat} {p : Par} {T : Nat → Pl} {L : List Bx} (h : Car W w st p T L) :
    Calls Tryz.prog 7 #[.pointer (some ⟨st, 0, none⟩)] w fun e w' => e = .returned (.int .i64 (p.n : Int)) ∧ Car W w' st p T L := by
  obtain ⟨sb, bm, a, b, c, d, t⟩ := h.new
  refine (len_any t.ok w t.row).mono ?_
  rintro _ _ ⟨x, m, rfl⟩
  exact ⟨x, h.drewN m⟩
/-- The list lies in new memory since the call. -/
theorem clist {W w : World} {st : Nat} {p : Par} {T : Nat → Pl} {L : List Bx} (h : Car W w st p T L) :
    Calls Tryz.prog 11 #[.pointer (some ⟨st, 0, none⟩)] w fun e w' => ∃ v, e = .returned v ∧ ListAt w' w.heap.size v (lstP p T p.n) ∧ Car W w' st p T L := by
  obtain ⟨sb, bm, a, b, c, d, t⟩ := h.new
  refine (tlist_any w t).mono ?_
  rintro _ _ ⟨v, x, y, z⟩
  exact ⟨v, x, y, h.low z⟩
theorem cbegin (a b : Int) (a0 : -9223372036854775808 ≤ a) (a1 : a ≤ 9223372036854775807) (b0 : -9223372036854775808 ≤ b) (b1 : b ≤ 9223372036854775807) (w : World) :
    Calls Tryz.prog 5 #[.int .i64 a, .int .i64 b] w fun e w' => ∃ st, e = .returned (.tuple #[.pointer (some ⟨st, 0, none⟩), .agg #[.int .i64 (arI a 4), .int .i64 (placesI (arI a 4) (arI b 4)), .slice none 0 0]]) ∧ Car w w' st (parB (arI a 4) (arI b 4)) (fun _ => Pl.none) [] := by
  refine (begin_any a b a0 a1 b0 b1 w).mono ?_
  rintro e w' ⟨st, rfl, h, _⟩
  exact ⟨st, rfl, h, fun q hq => absurd hq (by simp)⟩
theorem Car.ok {W w : World} {st : Nat} {p : Par} {T : Nat → Pl} {L : List Bx} (h : Car W w st p T L) : p.Ok := by
  obtain ⟨sb, bm, a, b, c, d, t⟩ := h.new; exact t.ok
theorem hits_self {e : Ent} (h : e.Ok) : e.hitsB e.va e.ctx = true := by
  unfold Ent.hitsB Ent.holdsB
  rw [h.valid, in_walk, h.size]
  simp
end Go.Proofs.YtgdagfhdimoklaaGreat.Ts
/-
  What the laws of layer 10 that insert a few entries need: what is found then, entries held against each other, and what is carried over their loops. Conditions: numbers are what Go's types hold.
-/
namespace Go.Proofs.YtgdagfhdimoklaaGreat.Ts
open Fld
open Pt (idxI idx_bd slotI lastI arI ar_bd)
open Tl (ListAt DocAt nthE eleven eleven_one rowL_list rowL rowL_length cell_eleven_new doc_low doc_at list_nil infoE)
open Go.ChangeShapes Go.WideShapes Go.ChangeAt Go.RowKit Go.Shelf
set_option maxRecDepth 100000
set_option maxHeartbeats 2000000
/-! ### What is found of entries that were inserted -/
def insAll (p : Par) (l : List Ent) : Nat → Pl := l.foldl (insT p) (fun _ => Pl.none)
def Fine (p : Par) (l : List Ent) : Prop := ∀ e ∈ l, e.Ok ∧ e.size = p.s
theorem Fine.nil (p : Par) : Fine p [] := fun _ h => absurd h (by simp)
theorem Fine.snoc {p : Par} {l : List Ent} (h : Fine p l) {e : Ent} (he : e.Ok) (hs : e.size = p.s) : Fine p (l ++ [e]) := fun x hx => by
  rcases List.mem_append.1 hx with hx | hx
  · exact h x hx
  · rw [List.mem_singleton.1 hx]; exact ⟨he, hs⟩
theorem insAll_snoc (p : Par) (l : List Ent) (e : Ent) : insAll p (l ++ [e]) = insT p (insAll p l) e := by
  unfold insAll; rw [List.foldl_append]; rfl
theorem fine_may {p : Par} {e : Ent} (h : e.Ok) (hs : e.size = p.s) : mayT p e = true := by unfold mayT; rw [h.may, hs]; simp
theorem ins_at {p : Par} {T : Nat → Pl} {e : Ent} (h : e.Ok) (hs : e.size = p.s) (i : Nat) : insT p T e i = if i = p.pl e.va then Ent.pl e else T i := by
  unfold insT; rw [if_pos (fine_may h hs)]; rfl
theorem rev_ind {P : List Ent → Prop} (h0 : P []) (h1 : ∀ l e, P l → P (l ++ [e])) : ∀ l, P l := by
  intro l
  rw [← List.reverse_reverse l]
  induction l.reverse with
  | nil => exact h0
  | cons a t ih => rw [List.reverse_cons]; exact h1 _ _ ih
/-- What stands at a place is the last one's that was inserted there, or nothing. -/
theorem insAll_or {p : Par} (l : List Ent) (h : Fine p l) (i : Nat) : (insAll p l i = Pl.none ∧ ∀ e ∈ l, p.pl e.va ≠ i) ∨ ∃ k, k < l.length ∧ p.pl (nthE l k).va = i ∧ insAll p l i = Ent.pl (nthE l k) ∧ (∀ j, k < j → j < l.length → p.pl (nthE l j).va ≠ i) := by
  revert h
  refine rev_ind (P := fun l => Fine p l → (insAll p l i = Pl.none ∧ ∀ e ∈ l, p.pl e.va ≠ i) ∨ ∃ k, k < l.length ∧ p.pl (nthE l k).va = i ∧ insAll p l i = Ent.pl (nthE l k) ∧ (∀ j, k < j → j < l.length → p.pl (nthE l j).va ≠ i)) ?_ ?_ l
  · exact fun _ => .inl ⟨rfl, fun _ h => absurd h (by simp)⟩
  · intro l e ih h
    have hl : Fine p l := fun x hx => h x (List.mem_append_left _ hx)
    obtain ⟨he, hs⟩ := h e (List.mem_append_right _ (by simp))
    rw [insAll_snoc, ins_at he hs]
    have hn : ∀ j, j < l.length → nthE (l ++ [e]) j = nthE l j := fun j hj => by simp [nthE, List.getElem?_append_left hj]
    have he2 : nthE (l ++ [e]) l.length = e := by simp [nthE]
    by_cases hi : i = p.pl e.va
    · rw [if_pos hi]
      exact .inr ⟨l.length, by simp, by rw [he2]; exact hi.symm, by rw [he2], fun j h1 h2 => by simp at h2; omega⟩
    · rw [if_neg hi]
      rcases ih hl with ⟨a, b⟩ | ⟨k, k1, k2, k3, k4⟩
      · refine .inl ⟨a, fun x hx => ?_⟩
        rcases List.mem_append.1 hx with hx | hx
        · exact b x hx
        · rw [List.mem_singleton.1 hx]; exact fun hh => hi hh.symm
      · refine .inr ⟨k, by simp; omega, by rw [hn k k1]; exact k2, by rw [hn k k1]; exact k3, fun j h1 h2 => ?_⟩
        by_cases hj : j < l.length
        · rw [hn j hj]; exact k4 j h1 hj
        · obtain rfl : j = l.length := by simp at h2; omega
          rw [he2]; exact fun hh => hi hh.symm
theorem nth_mem {l : List Ent} {k : Nat} (h : k < l.length) : nthE l k ∈ l := by
  unfold nthE
  rw [List.getD_eq_getElem?_getD, List.getElem?_eq_getElem h]
  exact List.getElem_mem h
theorem last_found {p : Par} (hp : p.Ok) (l : List Ent) (h : Fine p l) {i : Nat} (hi : i < l.length) (hno : ∀ k, i < k → k < l.length → p.pl (nthE l k).va ≠ p.pl (nthE l i).va) :
    fndB p (insAll p l) (nthE l i).va (nthE l i).ctx = true ∧ fndE p (insAll p l) (nthE l i).va (nthE l i).ctx = nthE l i := by
  obtain ⟨he, hs⟩ := h _ (nth_mem hi)
  rcases insAll_or l h (p.pl (nthE l i).va) with ⟨_, b⟩ | ⟨k, k1, k2, k3, k4⟩
  · exact absurd rfl (b _ (nth_mem hi))
  · have hk : k = i := by
      rcases Nat.lt_trichotomy k i with hlt | heq | hgt
      · exact absurd rfl (k4 i hlt hi)
      · exact heq
      · exact absurd k2 (hno k hgt k1)
    subst hk
    have f := find_at hp he hs k3 (va := (nthE l k).va) (ctx := (nthE l k).ctx) he.v0 he.v1 rfl
    exact ⟨f.1.trans (hits_self he), f.2 (hits_self he)⟩
/-- What is found was inserted. -/
theorem found_is {p : Par} (hp : p.Ok) (l : List Ent) (h : Fine p l) {va ctx : Int} (v0 : 0 ≤ va) (v1 : va ≤ 18446744073709551615) :
    fndB p (insAll p l) va ctx = true ↔ ∃ k, k < l.length ∧ (nthE l k).hitsB va ctx = true ∧ nthE l k = fndE p (insAll p l) va ctx := by
  constructor
  · intro hf
    rcases insAll_or l h (p.pl va) with ⟨a, _⟩ | ⟨k, k1, k2, k3, _⟩
    · rw [find_locked (d := 0) (by decide) a] at hf; cases hf
    · obtain ⟨he, hs⟩ := h _ (nth_mem k1)
      have f := find_at hp he hs (by rw [k2]; exact k3) v0 v1 (ctx := ctx) k2.symm
      rw [f.1] at hf
      exact ⟨k, k1, hf, (f.2 hf).symm⟩
  · rintro ⟨k, k1, _, k3⟩
    obtain ⟨he, _⟩ := h _ (nth_mem k1)
    cases hf : fndB p (insAll p l) va ctx
    · rw [fndE_no hf] at k3
      have := he.valid
      rw [k3] at this; cases this
    · rfl
/-! ### Entries held against each other -/
def attEq (a b : Att) : Bool := a.write == b.write && (a.priv == b.priv && (a.exec == b.exec && (a.lock == b.lock && (a.global == b.global && (a.quiet == b.quiet && true)))))
def entEq (a b : Ent) : Bool := a.size == b.size && (a.ctx == b.ctx && (a.va == b.va && (a.pa == b.pa && (attEq a.att b.att && (a.valid == b.valid && true)))))
theorem attEq_iff (a b : Att) : attEq a b = true ↔ a = b := by
  obtain ⟨a1, a2, a3, a4, a5, a6⟩ := a
  obtain ⟨b1, b2, b3, b4, b5, b6⟩ := b
  simp [attEq]
theorem entEq_iff (a b : Ent) : entEq a b = true ↔ a = b := by
  obtain ⟨a1, a2, a3, a4, a5, a6⟩ := a
  obtain ⟨b1, b2, b3, b4, b5, b6⟩ := b
  simp [entEq, attEq_iff]
theorem field_is {d : Nat} {xs ys : Array Value} {f : Field} {fs : List Field} {a b : Value} {r c : Bool} (hn : f.name ≠ "_") (ha : ∀ w, (part f.type xs f.offset).run Tryz.prog w = .ok a w) (hb : ∀ w, (part f.type ys f.offset).run Tryz.prog w = .ok b w) (hr : ∀ w, (Op.equalIn d f.type a b).run Tryz.prog w = .ok r w)
    (hrest : ∀ w, (Op.eqFields d xs ys fs).run Tryz.prog w = .ok c w) : ∀ w, (Op.eqFields d xs ys (f :: fs)).run Tryz.prog w = .ok (r && c) w := by
  intro w
  unfold Op.eqFields
  rw [if_pos hn]
  simp only [Sem.run_bind, ha, hb, hr, Result.andThen_ok]
  cases r
  · simp
  · simp [hrest]
theorem att_is (d : Nat) (a b : Att) : ∀ w, (Op.equalIn (d + 1 + 1) 33 (.agg #[.bool a.write, .bool a.priv, .bool a.exec, .bool a.lock, .bool a.global, .bool a.quiet]) (.agg #[.bool b.write, .bool b.priv, .bool b.exec, .bool b.lock, .bool b.global, .bool b.quiet])).run Tryz.prog w = .ok (attEq a b) w := by
  have h := run_equalIn_struct (P := Tryz.prog) (d := d + 1) (t := 33) (xs := #[.bool a.write, .bool a.priv, .bool a.exec, .bool a.lock, .bool a.global, .bool a.quiet]) (ys := #[.bool b.write, .bool b.priv, .bool b.exec, .bool b.lock, .bool b.global, .bool b.quiet]) (ht := by kernel_rfl) (hp := by kernel_rfl)
  simp only [h]
  have hf : (Tryz.prog.fieldsOf 33).toList = (match Tryz.prog.underlying 33 with | some (.struct fs) => fs | _ => #[]).toList := rfl
  rw [hf, Tryz.underlying33]
  refine field_is (a := .bool a.write) (b := .bool b.write) (r := a.write == b.write) (by decide) (fun w => by go_simp) (fun w => by go_simp) (fun w => run_equalIn_bool' w d 4 _ _ Tryz.underlying4) ?_
  refine field_is (a := .bool a.priv) (b := .bool b.priv) (r := a.priv == b.priv) (by decide) (fun w => by go_simp) (fun w => by go_simp) (fun w => run_equalIn_bool' w d 4 _ _ Tryz.underlying4) ?_
  refine field_is (a := .bool a.exec) (b := .bool b.exec) (r := a.exec == b.exec) (by decide) (fun w => by go_simp) (fun w => by go_simp) (fun w => run_equalIn_bool' w d 4 _ _ Tryz.underlying4) ?_
  refine field_is (a := .bool a.lock) (b := .bool b.lock) (r := a.lock == b.lock) (by decide) (fun w => by go_simp) (fun w => by go_simp) (fun w => run_equalIn_bool' w d 4 _ _ Tryz.underlying4) ?_
  refine field_is (a := .bool a.global) (b := .bool b.global) (r := a.global == b.global) (by decide) (fun w => by go_simp) (fun w => by go_simp) (fun w => run_equalIn_bool' w d 4 _ _ Tryz.underlying4) ?_
  refine field_is (a := .bool a.quiet) (b := .bool b.quiet) (r := a.quiet == b.quiet) (by decide) (fun w => by go_simp) (fun w => by go_simp) (fun w => run_equalIn_bool' w d 4 _ _ Tryz.underlying4) ?_
  exact fun w => rfl
theorem ent_is (a b : Ent) : ∀ w : World, (binOp .eql 35 (.agg #[.int .i64 a.size, .int .i64 a.ctx, .int .u64 a.va, .int .u64 a.pa, .bool a.att.write, .bool a.att.priv, .bool a.att.exec, .bool a.att.lock, .bool a.att.global, .bool a.att.quiet, .bool a.valid]) (.agg #[.int .i64 b.size, .int .i64 b.ctx, .int .u64 b.va, .int .u64 b.pa, .bool b.att.write, .bool b.att.priv, .bool b.att.exec, .bool b.att.lock, .bool b.att.global, .bool b.att.quiet, .bool b.valid])).run Tryz.prog w = .ok (.bool (entEq a b)) w := by
  have key : ∀ w, (Op.equalIn 10000 35 (.agg #[.int .i64 a.size, .int .i64 a.ctx, .int .u64 a.va, .int .u64 a.pa, .bool a.att.write, .bool a.att.priv, .bool a.att.exec, .bool a.att.lock, .bool a.att.global, .bool a.att.quiet, .bool a.valid]) (.agg #[.int .i64 b.size, .int .i64 b.ctx, .int .u64 b.va, .int .u64 b.pa, .bool b.att.write, .bool b.att.priv, .bool b.att.exec, .bool b.att.lock, .bool b.att.global, .bool b.att.quiet, .bool b.valid])).run Tryz.prog w = .ok (entEq a b) w := by
    have h := run_equalIn_struct (P := Tryz.prog) (d := 9999) (t := 35) (xs := #[.int .i64 a.size, .int .i64 a.ctx, .int .u64 a.va, .int .u64 a.pa, .bool a.att.write, .bool a.att.priv, .bool a.att.exec, .bool a.att.lock, .bool a.att.global, .bool a.att.quiet, .bool a.valid]) (ys := #[.int .i64 b.size, .int .i64 b.ctx, .int .u64 b.va, .int .u64 b.pa, .bool b.att.write, .bool b.att.priv, .bool b.att.exec, .bool b.att.lock, .bool b.att.global, .bool b.att.quiet, .bool b.valid]) (ht := by kernel_rfl) (hp := by kernel_rfl)
    simp only [h]
    have hf : (Tryz.prog.fieldsOf 35).toList = (match Tryz.prog.underlying 35 with | some (.struct fs) => fs | _ => #[]).toList := rfl
    rw [hf, Tryz.underlying35]
    refine field_is (a := .int .i64 a.size) (b := .int .i64 b.size) (r := a.size == b.size) (by decide) (fun w => by go_simp) (fun w => by go_simp) (fun w => run_equalIn_int w 9998 3 .i64 .i64 _ _ Tryz.underlying3) ?_
    refine field_is (a := .int .i64 a.ctx) (b := .int .i64 b.ctx) (r := a.ctx == b.ctx) (by decide) (fun w => by go_simp) (fun w => by go_simp) (fun w => run_equalIn_int w 9998 3 .i64 .i64 _ _ Tryz.underlying3) ?_
    refine field_is (a := .int .u64 a.va) (b := .int .u64 b.va) (r := a.va == b.va) (by decide) (fun w => by go_simp) (fun w => by go_simp) (fun w => run_equalIn_int w 9998 31 .u64 .u64 _ _ Tryz.underlying31) ?_
    refine field_is (a := .int .u64 a.pa) (b := .int .u64 b.pa) (r := a.pa == b.pa) (by decide) (fun w => by go_simp) (fun w => by go_simp) (fun w => run_equalIn_int w 9998 31 .u64 .u64 _ _ Tryz.underlying31) ?_
    refine field_is (a := .agg #[.bool a.att.write, .bool a.att.priv, .bool a.att.exec, .bool a.att.lock, .bool a.att.global, .bool a.att.quiet]) (b := .agg #[.bool b.att.write, .bool b.att.priv, .bool b.att.exec, .bool b.att.lock, .bool b.att.global, .bool b.att.quiet]) (r := attEq a.att b.att) (by decide) (fun w => by go_simp) (fun w => by go_simp) (fun w => att_is 9997 a.att b.att w) ?_
    refine field_is (a := .bool a.valid) (b := .bool b.valid) (r := a.valid == b.valid) (by decide) (fun w => by go_simp) (fun w => by go_simp) (fun w => run_equalIn_bool' w 9998 4 _ _ Tryz.underlying4) ?_
    exact fun w => rfl
  intro w
  rw [run_eql_struct, key]; rfl
end Go.Proofs.YtgdagfhdimoklaaGreat.Ts
/-
  What is carried over the loops of the laws of layer 10: a TSB, boxes, and a list that the law made itself. Conditions: numbers are what Go's types hold.
-/
namespace Go.Proofs.YtgdagfhdimoklaaGreat.Ts
open Fld
open Pt (idxI idx_bd slotI lastI arI ar_bd)
open Tl (ListAt DocAt nthE eleven eleven_one rowL_list rowL rowL_length cell_eleven_new doc_low doc_at doc_below list_nil infoE)
open Go.ChangeShapes Go.WideShapes Go.ChangeAt Go.RowKit Go.Shelf
set_option maxRecDepth 100000
set_option maxHeartbeats 2000000
structure PL (W wr : World) (st sb bm : Nat) (p : Par) (T : Nat → Pl) (L : List Bx) (C : Nat) (v : Value) (l : List Ent) : Prop where
  f1 : W.heap.size ≤ st
  f2 : W.heap.size ≤ sb
  f3 : W.heap.size ≤ bm
  bel : Below W.heap.size W wr
  tsb : TsbAt wr st sb bm p T
  rows : Rows W wr L
  own : ListAt wr C v l
  base : W.heap.size ≤ C
theorem list_lt {w : World} {C : Nat} {v : Value} {l : List Ent} (h : ListAt w C v l) : (∃ c, v = .slice none 0 0 ∧ l.length = 0 ∧ c = 0) ∨ ∃ g cap cur, v = .slice (some ⟨g, 0, none⟩) l.length cap ∧ C ≤ g ∧ w.heap[g]? = some (.cells cur 35 (0, 0)) := by
  rcases h.2 with ⟨a, b⟩ | ⟨g, cap, cur, a, b, c, d, e, f, i⟩
  · refine .inl ⟨0, a, ?_, rfl⟩
    first | exact b | exact b.1 | (have := h.1; simp_all)
  · exact .inr ⟨g, cap, cur, a, b, c⟩
theorem list_same {w w' : World} {C : Nat} {v : Value} {l : List Ent} (h : ListAt w C v l) (hs : ∀ g cur, C ≤ g → w.heap[g]? = some (.cells cur 35 (0, 0)) → w'.heap[g]? = w.heap[g]?) : ListAt w' C v l := by
  refine ⟨h.1, ?_⟩
  rcases h.2 with hn | ⟨g, cap, cur, rfl, hb2, hg, rest⟩
  · exact .inl hn
  · exact .inr ⟨g, cap, cur, rfl, hb2, (hs g cur hb2 hg).trans hg, rest⟩
theorem PL.low {W wr w' : World} {st sb bm C : Nat} {p : Par} {T : Nat → Pl} {L : List Bx} {v : Value} {l : List Ent} (h : PL W wr st sb bm p T L C v l) (hb : Below wr.heap.size wr w') : PL W w' st sb bm p T L C v l :=
  ⟨h.f1, h.f2, h.f3, h.bel.trans (hb.mono h.bel.size), h.tsb.low hb, h.rows.low hb, doc_below h.own hb, h.base⟩
theorem PL.drewN {W wr : World} {st sb bm C : Nat} {p : Par} {T : Nat → Pl} {L : List Bx} {v : Value} {l : List Ent} (h : PL W wr st sb bm p T L C v l) (n : Nat) : PL W (wr.drewN n) st sb bm p T L C v l := h.low (drewN_low wr n)
theorem PL.drew {W wr : World} {st sb bm C : Nat} {p : Par} {T : Nat → Pl} {L : List Bx} {v : Value} {l : List Ent} (h : PL W wr st sb bm p T L C v l) : PL W wr.drew st sb bm p T L C v l := h.drewN 1
theorem PL.alloc {W wr : World} {st sb bm C : Nat} {p : Par} {T : Nat → Pl} {L : List Bx} {v : Value} {l : List Ent} (h : PL W wr st sb bm p T L C v l) (o : Obj) : PL W (wr.alloc o) st sb bm p T L C v l := h.low ((Below.refl _ _).alloc (Nat.le_refl _) _)
/-- Eleven stores into a block that is new since X. -/
theorem PL.setNew {W X wr : World} {st sb bm C : Nat} {p : Par} {T : Nat → Pl} {L : List Bx} {v : Value} {l : List Ent} {x0 x1 x2 x3 x4 x5 x6 x7 x8 x9 x10 : Value} (hX : PL W X st sb bm p T L C v l) (h : PL W wr st sb bm p T L C v l) :
    PL W (((((((((((wr.setCell ⟨X.heap.size, 0, none⟩ x0).setCell ⟨X.heap.size, 1, none⟩ x1).setCell ⟨X.heap.size, 2, none⟩ x2).setCell ⟨X.heap.size, 3, none⟩ x3).setCell ⟨X.heap.size, 4, none⟩ x4).setCell ⟨X.heap.size, 5, none⟩ x5).setCell ⟨X.heap.size, 6, none⟩ x6).setCell ⟨X.heap.size, 7, none⟩ x7).setCell ⟨X.heap.size, 8, none⟩ x8).setCell ⟨X.heap.size, 9, none⟩ x9).setCell ⟨X.heap.size, 10, none⟩ x10) st sb bm p T L C v l := by
  have h0 := hX.bel.size
  have h1 := hX.tsb.lt
  refine ⟨h.f1, h.f2, h.f3, ?_, h.tsb.same (row_far (by omega)) (row_far (by omega)) (row_far (by omega)), fun q hq => ?_, ?_, h.base⟩
  · iterate 11 refine below_setN ?_ h0
    exact h.bel
  · obtain ⟨a, b, c⟩ := h.rows q hq
    have := (Array.getElem?_eq_some_iff.1 (hX.rows q hq).1).1
    exact ⟨(row_far (by omega)).trans a, b, c⟩
  · rcases list_lt hX.own with ⟨_, rfl, hl, _⟩ | ⟨g, cap, cur, rfl, hg, hh⟩
    · refine ⟨h.own.1, ?_⟩
      rcases h.own.2 with hn | ⟨g, cap, cur, hv, _⟩
      · exact .inl hn
      · simp at hv
    · have hlt := (Array.getElem?_eq_some_iff.1 hh).1
      refine ⟨h.own.1, ?_⟩
      rcases h.own.2 with ⟨hv, _⟩ | ⟨g', cap', cur', hv, h2, h3, rest⟩
      · simp at hv
      · have hgg := hv
        simp only [Value.slice.injEq, Option.some.injEq, Addr.mk.injEq, and_true, true_and] at hgg
        obtain ⟨rfl, rfl⟩ := hgg
        exact .inr ⟨g, cap, cur', rfl, h2, (row_far (by omega)).trans h3, rest⟩
theorem PL.to {W wr w' : World} {st sb bm C : Nat} {p : Par} {T U : Nat → Pl} {L : List Bx} {v : Value} {l : List Ent} (h : PL W wr st sb bm p T L C v l) (k : TsbTo wr w' st sb bm p U) : ∃ b', PL W w' st sb b' p U L C v l := by
  obtain ⟨b', k1, k2, k3⟩ := k
  have hs := h.bel.size
  have a := h.f2
  have b := h.f3
  refine ⟨b', h.f1, h.f2, by omega, ⟨k3.os.trans h.bel.os, k3.tape.trans h.bel.tape, k3.output.trans h.bel.output, Nat.le_trans hs k3.size, fun i hi => ?_⟩, k1, h.rows.to h.tsb k3, list_same h.own fun g cur _ hg => ?_, h.base⟩
  · rw [k3.block i (by omega) (by omega) (by omega)]; exact h.bel.block i hi
  · obtain ⟨_, n2, n3⟩ := h.tsb.ne_row hg ⟨by decide, by decide⟩
    exact k3.block g (Array.getElem?_eq_some_iff.1 hg).1 n2 n3
theorem PL.car {W wr : World} {st sb bm C : Nat} {p : Par} {T : Nat → Pl} {L : List Bx} {v : Value} {l : List Ent} (h : PL W wr st sb bm p T L C v l) : Car W wr st p T L := ⟨⟨sb, bm, h.f1, h.f2, h.f3, h.bel, h.tsb⟩, h.rows⟩
theorem PL.start {W wr : World} {st : Nat} {p : Par} {T : Nat → Pl} {L : List Bx} (h : Car W wr st p T L) : ∃ sb bm, PL W wr st sb bm p T L W.heap.size (.slice none 0 0) [] := by
  obtain ⟨⟨sb, bm, a, b, c, d, e⟩, f⟩ := h
  exact ⟨sb, bm, a, b, c, d, e, f, list_nil _ _, Nat.le_refl _⟩
/-- A call that turns the TSB: the boxes that lie there, and an entry in a box, stay. -/
theorem PL.kept {W wr w' : World} {st sb bm C eb : Nat} {p : Par} {T U : Nat → Pl} {L : List Bx} {v : Value} {l : List Ent} {e : Ent} (h : PL W wr st sb bm p T L C v l) (k : TsbTo wr w' st sb bm p U) (hr : RowE wr eb e) : RowE w' eb e := by
  obtain ⟨b', k1, k2, k3⟩ := k
  exact row_turn hr h.tsb k3
theorem pinsert {W w : World} {st sb bm C : Nat} {p : Par} {T : Nat → Pl} {L : List Bx} {v : Value} {l : List Ent} (h : PL W w st sb bm p T L C v l) (e : Ent) (u : EntU e) :
    Calls Tryz.prog 15 #[.pointer (some ⟨st, 0, none⟩), .agg #[.int .i64 e.size, .int .i64 e.ctx, .int .u64 e.va, .int .u64 e.pa, .bool e.att.write, .bool e.att.priv, .bool e.att.exec, .bool e.att.lock, .bool e.att.global, .bool e.att.quiet, .bool e.valid]] w fun r w' => r = .returned (.int .i64 (errP p e)) ∧ (∃ b', PL W w' st sb b' p (insT p T e) L C v l) ∧ ∀ eb x, RowE w eb x → RowE w' eb x :=
  (insert_any e u w h.tsb).mono fun _ _ ⟨x, y⟩ => ⟨x, h.to y, fun _ _ hr => h.kept y hr⟩
theorem pfind {W w : World} {st sb bm C : Nat} {p : Par} {T : Nat → Pl} {L : List Bx} {v : Value} {l : List Ent} (h : PL W w st sb bm p T L C v l) (va ctx : Int) (v0 : 0 ≤ va) (v1 : va ≤ 18446744073709551615) :
    Calls Tryz.prog 23 #[.pointer (some ⟨st, 0, none⟩), .int .u64 va, .int .i64 ctx] w fun e w' => e = .returned (.tuple #[.agg #[.int .i64 (fndE p T va ctx).size, .int .i64 (fndE p T va ctx).ctx, .int .u64 (fndE p T va ctx).va, .int .u64 (fndE p T va ctx).pa, .bool (fndE p T va ctx).att.write, .bool (fndE p T va ctx).att.priv, .bool (fndE p T va ctx).att.exec, .bool (fndE p T va ctx).att.lock, .bool (fndE p T va ctx).att.global, .bool (fndE p T va ctx).att.quiet, .bool (fndE p T va ctx).valid], .bool (fndB p T va ctx)]) ∧ Below w.heap.size w w' :=
  find_any va ctx v0 v1 w h.tsb
theorem PL.append {W wr w1 : World} {st sb bm C : Nat} {p : Par} {T : Nat → Pl} {L : List Bx} {v v' : Value} {l : List Ent} (h : PL W wr st sb bm p T L C v l) (hg : wr.grownBy w1 v.ownBlock) (e : Ent) (ho : ListAt w1 C v' (l ++ [e])) (hL : ∀ q ∈ L, q.2.2 ≠ 35) : PL W w1 st sb bm p T L C v' (l ++ [e]) := by
  have hblk : ∀ g, v.ownBlock = some g → C ≤ g ∧ ∃ cur, wr.heap[g]? = some (.cells cur 35 (0, 0)) := by
    intro g hg2
    rcases list_lt h.own with ⟨_, rfl, _, _⟩ | ⟨g', cap, cur, rfl, a, b⟩
    · simp [Value.ownBlock] at hg2
    · simp [Value.ownBlock] at hg2
      subst hg2
      exact ⟨a, cur, b⟩
  have hl := h.tsb.lt
  have hne : ∀ g, v.ownBlock = some g → g ≠ st ∧ g ≠ sb ∧ g ≠ bm := fun g hg2 => by
    obtain ⟨_, cur, hh⟩ := hblk g hg2
    exact h.tsb.ne_row hh ⟨by decide, by decide⟩
  refine ⟨h.f1, h.f2, h.f3, h.bel.grown hg h.bel.size (fun g hg2 => Nat.le_trans h.base (hblk g hg2).1), h.tsb.same (hg.block _ hl.1 (fun e => (hne _ e.symm).1 rfl)) (hg.block _ hl.2.1 (fun e => (hne _ e.symm).2.1 rfl)) (hg.block _ hl.2.2.1 (fun e => (hne _ e.symm).2.2 rfl)), fun q hq => ?_, ho, h.base⟩
  obtain ⟨a, b, c⟩ := h.rows q hq
  refine ⟨(hg.block _ (Array.getElem?_eq_some_iff.1 a).1 (fun e => ?_)).trans a, b, c⟩
  obtain ⟨_, cur, hh⟩ := hblk _ e.symm
  rw [a] at hh
  injection (Option.some.inj hh) with _ h2
  exact hL q hq h2
/-- The list's cells. -/
theorem PL.cells {W wr : World} {st sb bm C : Nat} {p : Par} {T : Nat → Pl} {L : List Bx} {v : Value} {l : List Ent} (h : PL W wr st sb bm p T L C v l) {i o : Nat} (hi : i < l.length) (ho : i * 11 = o) : ∃ g cap, v = .slice (some ⟨g, 0, none⟩) l.length cap ∧ l.length ≤ cap ∧ cap ≤ maxLen ∧ wr.cell? ⟨g, o, none⟩ = some (.int .i64 (nthE l i).size) ∧ wr.cell? ⟨g, o + 1, none⟩ = some (.int .i64 (nthE l i).ctx) ∧ wr.cell? ⟨g, o + 2, none⟩ = some (.int .u64 (nthE l i).va) ∧ wr.cell? ⟨g, o + 3, none⟩ = some (.int .u64 (nthE l i).pa) ∧ wr.cell? ⟨g, o + 4, none⟩ = some (.bool (nthE l i).att.write) ∧ wr.cell? ⟨g, o + 5, none⟩ = some (.bool (nthE l i).att.priv) ∧ wr.cell? ⟨g, o + 6, none⟩ = some (.bool (nthE l i).att.exec) ∧ wr.cell? ⟨g, o + 7, none⟩ = some (.bool (nthE l i).att.lock) ∧ wr.cell? ⟨g, o + 8, none⟩ = some (.bool (nthE l i).att.global) ∧ wr.cell? ⟨g, o + 9, none⟩ = some (.bool (nthE l i).att.quiet) ∧ wr.cell? ⟨g, o + 10, none⟩ = some (.bool (nthE l i).valid) := by
  obtain ⟨g, cap, hv, a, b, _, _, c, _⟩ := doc_at h.own (by omega)
  exact ⟨g, cap, hv, a, b, c i o hi ho⟩
theorem rdE_fnd {p : Par} {T : Nat → Pl} {ctx : Int} (va : Int) (v0 : 0 ≤ va) (v1 : va ≤ 18446744073709551615) : 0 ≤ (fndE p T va ctx).va ∧ (fndE p T va ctx).va ≤ 18446744073709551615 := by
  unfold fndE; split
  · exact rdE_bd _ _ _ v0 v1
  · exact ⟨by decide, by decide⟩
theorem add_at (g o : Nat) : (⟨g, 0, none⟩ : Addr).add o = ⟨g, o, none⟩ := by unfold Addr.add; split <;> simp_all
/-- What is carried, and what came in. -/
structure PI (w W wr : World) (st sb bm : Nat) (p : Par) (T : Nat → Pl) (L : List Bx) (C : Nat) (v : Value) (l : List Ent) (ib o : Nat) (x : Ent) : Prop where
  pl : PL W wr st sb bm p T L C v l
  inp : wr.cell? ⟨ib, o, none⟩ = some (.int .i64 x.size) ∧ wr.cell? ⟨ib, o + 1, none⟩ = some (.int .i64 x.ctx) ∧ wr.cell? ⟨ib, o + 2, none⟩ = some (.int .u64 x.va) ∧ wr.cell? ⟨ib, o + 3, none⟩ = some (.int .u64 x.pa) ∧ wr.cell? ⟨ib, o + 4, none⟩ = some (.bool x.att.write) ∧ wr.cell? ⟨ib, o + 5, none⟩ = some (.bool x.att.priv) ∧ wr.cell? ⟨ib, o + 6, none⟩ = some (.bool x.att.exec) ∧ wr.cell? ⟨ib, o + 7, none⟩ = some (.bool x.att.lock) ∧ wr.cell? ⟨ib, o + 8, none⟩ = some (.bool x.att.global) ∧ wr.cell? ⟨ib, o + 9, none⟩ = some (.bool x.att.quiet) ∧ wr.cell? ⟨ib, o + 10, none⟩ = some (.bool x.valid)
  old : ib < W.heap.size
theorem PI.low {w W wr w' : World} {st sb bm C ib o : Nat} {p : Par} {T : Nat → Pl} {L : List Bx} {v : Value} {l : List Ent} {x : Ent} (h : PI w W wr st sb bm p T L C v l ib o x) (hb : Below wr.heap.size wr w') : PI w W w' st sb bm p T L C v l ib o x := by
  obtain ⟨q0, q1, q2, q3, q4, q5, q6, q7, q8, q9, q10⟩ := h.inp
  have hc : ∀ {k : Nat} {v : Value}, wr.cell? ⟨ib, k, none⟩ = some v → w'.cell? ⟨ib, k, none⟩ = some v := fun {k v} hh => (hb.cell (p := ⟨ib, k, none⟩) (Nat.lt_of_lt_of_le h.old h.pl.bel.size)).trans hh
  exact ⟨h.pl.low hb, ⟨hc q0, hc q1, hc q2, hc q3, hc q4, hc q5, hc q6, hc q7, hc q8, hc q9, hc q10⟩, h.old⟩
theorem PI.drewN {w W wr : World} {st sb bm C ib o : Nat} {p : Par} {T : Nat → Pl} {L : List Bx} {v : Value} {l : List Ent} {x : Ent} (h : PI w W wr st sb bm p T L C v l ib o x) (n : Nat) : PI w W (wr.drewN n) st sb bm p T L C v l ib o x := h.low (drewN_low wr n)
theorem PI.drew {w W wr : World} {st sb bm C ib o : Nat} {p : Par} {T : Nat → Pl} {L : List Bx} {v : Value} {l : List Ent} {x : Ent} (h : PI w W wr st sb bm p T L C v l ib o x) : PI w W wr.drew st sb bm p T L C v l ib o x := h.drewN 1
theorem PI.alloc {w W wr : World} {st sb bm C ib o : Nat} {p : Par} {T : Nat → Pl} {L : List Bx} {v : Value} {l : List Ent} {x : Ent} (h : PI w W wr st sb bm p T L C v l ib o x) (ob : Obj) : PI w W (wr.alloc ob) st sb bm p T L C v l ib o x := h.low ((Below.refl _ _).alloc (Nat.le_refl _) _)
theorem PI.setNew {w W X wr : World} {st sb bm C ib o : Nat} {p : Par} {T : Nat → Pl} {L : List Bx} {v : Value} {l : List Ent} {x : Ent} {x0 x1 x2 x3 x4 x5 x6 x7 x8 x9 x10 : Value} (hX : PI w W X st sb bm p T L C v l ib o x) (h : PI w W wr st sb bm p T L C v l ib o x) :
    PI w W (((((((((((wr.setCell ⟨X.heap.size, 0, none⟩ x0).setCell ⟨X.heap.size, 1, none⟩ x1).setCell ⟨X.heap.size, 2, none⟩ x2).setCell ⟨X.heap.size, 3, none⟩ x3).setCell ⟨X.heap.size, 4, none⟩ x4).setCell ⟨X.heap.size, 5, none⟩ x5).setCell ⟨X.heap.size, 6, none⟩ x6).setCell ⟨X.heap.size, 7, none⟩ x7).setCell ⟨X.heap.size, 8, none⟩ x8).setCell ⟨X.heap.size, 9, none⟩ x9).setCell ⟨X.heap.size, 10, none⟩ x10) st sb bm p T L C v l ib o x := by
  have hz := hX.pl.bel.size
  have ho := hX.old
  have hne : ib ≠ X.heap.size := by omega
  obtain ⟨q0, q1, q2, q3, q4, q5, q6, q7, q8, q9, q10⟩ := h.inp
  have hc : ∀ {k : Nat} {v : Value}, wr.cell? ⟨ib, k, none⟩ = some v → (((((((((((wr.setCell ⟨X.heap.size, 0, none⟩ x0).setCell ⟨X.heap.size, 1, none⟩ x1).setCell ⟨X.heap.size, 2, none⟩ x2).setCell ⟨X.heap.size, 3, none⟩ x3).setCell ⟨X.heap.size, 4, none⟩ x4).setCell ⟨X.heap.size, 5, none⟩ x5).setCell ⟨X.heap.size, 6, none⟩ x6).setCell ⟨X.heap.size, 7, none⟩ x7).setCell ⟨X.heap.size, 8, none⟩ x8).setCell ⟨X.heap.size, 9, none⟩ x9).setCell ⟨X.heap.size, 10, none⟩ x10).cell? ⟨ib, k, none⟩ = some v := fun {k v} hh => by
    have hrow := row_far (w := wr) (g := X.heap.size) (b := ib) (x0 := x0) (x1 := x1) (x2 := x2) (x3 := x3) (x4 := x4) (x5 := x5) (x6 := x6) (x7 := x7) (x8 := x8) (x9 := x9) (x10 := x10) hne
    unfold World.cell? at hh ⊢
    dsimp only at hh ⊢
    rw [hrow]; exact hh
  exact ⟨PL.setNew hX.pl h.pl, ⟨hc q0, hc q1, hc q2, hc q3, hc q4, hc q5, hc q6, hc q7, hc q8, hc q9, hc q10⟩, h.old⟩
theorem PI.sc {w W wr : World} {st sb bm C ib o tb : Nat} {p : Par} {T : Nat → Pl} {v u n : Value} {s : Int} {l : List Ent} {x : Ent} (h : PI w W wr st sb bm p T [(tb, #[.int .i64 s, n, u], 26)] C v l ib o x) : (wr.cell? ⟨ib, o, none⟩ = some (.int .i64 x.size) ∧ wr.cell? ⟨ib, o + 1, none⟩ = some (.int .i64 x.ctx) ∧ wr.cell? ⟨ib, o + 2, none⟩ = some (.int .u64 x.va) ∧ wr.cell? ⟨ib, o + 3, none⟩ = some (.int .u64 x.pa) ∧ wr.cell? ⟨ib, o + 4, none⟩ = some (.bool x.att.write) ∧ wr.cell? ⟨ib, o + 5, none⟩ = some (.bool x.att.priv) ∧ wr.cell? ⟨ib, o + 6, none⟩ = some (.bool x.att.exec) ∧ wr.cell? ⟨ib, o + 7, none⟩ = some (.bool x.att.lock) ∧ wr.cell? ⟨ib, o + 8, none⟩ = some (.bool x.att.global) ∧ wr.cell? ⟨ib, o + 9, none⟩ = some (.bool x.att.quiet) ∧ wr.cell? ⟨ib, o + 10, none⟩ = some (.bool x.valid)) ∧ wr.cell? ⟨tb, 0, none⟩ = some (.int .i64 s) :=
  ⟨h.inp, cell_row 0 (h.pl.rows _ (List.mem_cons_self ..)).1 rfl⟩
theorem PL.oc {W wr : World} {st sb bm C g n cap : Nat} {p : Par} {T : Nat → Pl} {L : List Bx} {l : List Ent} (h : PL W wr st sb bm p T L C (.slice (some ⟨g, 0, none⟩) n cap) l) {i o : Nat} (hi : i < l.length) (ho : i * 11 = o) : wr.cell? ⟨g, o, none⟩ = some (.int .i64 (nthE l i).size) ∧ wr.cell? ⟨g, o + 1, none⟩ = some (.int .i64 (nthE l i).ctx) ∧ wr.cell? ⟨g, o + 2, none⟩ = some (.int .u64 (nthE l i).va) ∧ wr.cell? ⟨g, o + 3, none⟩ = some (.int .u64 (nthE l i).pa) ∧ wr.cell? ⟨g, o + 4, none⟩ = some (.bool (nthE l i).att.write) ∧ wr.cell? ⟨g, o + 5, none⟩ = some (.bool (nthE l i).att.priv) ∧ wr.cell? ⟨g, o + 6, none⟩ = some (.bool (nthE l i).att.exec) ∧ wr.cell? ⟨g, o + 7, none⟩ = some (.bool (nthE l i).att.lock) ∧ wr.cell? ⟨g, o + 8, none⟩ = some (.bool (nthE l i).att.global) ∧ wr.cell? ⟨g, o + 9, none⟩ = some (.bool (nthE l i).att.quiet) ∧ wr.cell? ⟨g, o + 10, none⟩ = some (.bool (nthE l i).valid) := by
  obtain ⟨g', cap', hv, _, _, c⟩ := h.cells hi ho
  simp only [Value.slice.injEq, Option.some.injEq, Addr.mk.injEq, and_true] at hv
  obtain ⟨rfl, _⟩ := hv
  exact c
theorem PL.tc {W wr : World} {st sb bm C tb : Nat} {p : Par} {T : Nat → Pl} {v x y u : Value} {l : List Ent} (h : PL W wr st sb bm p T [(tb, #[x, y, u], 26)] C v l) : wr.cell? ⟨tb, 0, none⟩ = some x ∧ wr.cell? ⟨tb, 1, none⟩ = some y :=
  ⟨cell_row 0 (h.rows _ (List.mem_cons_self ..)).1 rfl, cell_row 1 (h.rows _ (List.mem_cons_self ..)).1 rfl⟩
end Go.Proofs.YtgdagfhdimoklaaGreat.Ts
