/-
  FramesPlays: for every number and all deeds the law returns true, and its arguments read as before. Conditions: none.
-/
import Derived.Test.YtdjpanmokojpdaaRows
import Derived.WalkKit
import Derived.ProofKit
import Derived.OpenShut
import Derived.Test.YtdjpanmokojpdaaFPl
import Derived.ShutString
import Derived.Deep.Slices
import Derived.Deep.Fields
import Derived.ChangeSame
namespace Go.Proofs.Ytdjpanmokojpdaa.framesPlays
open Go.ChangeShapes Go.WideShapes Go.ChangeAt Go.RowKit Go.Deep Fld Frm
set_option linter.unusedVariables false
theorem own : ownKnob Try.prog.godebug = none := by kernel_rfl
theorem laidOut : laidOutB Try.prog = true := by kernel_rfl
/-- What the walk is told of the deeds that came in. -/
def IsDeeds (w : World) (a : Option Addr) (len cap : Nat) : Prop :=
  (a = none ∧ len = 0) ∨
  ∃ x, a = some x ∧ len ≤ cap ∧ cap ≤ maxLen ∧ ∀ i, i < len → ∃ k p q : Int, w.cell? (x.add (i * 3)) = some (.int .i64 k) ∧ w.cell? (x.add (i * 3 + 1)) = some (.int .i64 p) ∧ w.cell? (x.add (i * 3 + 2)) = some (.int .i64 q) ∧ (Lit.int .i64 p).wf = true ∧ (Lit.int .i64 q).wf = true
theorem deeds_at {w : World} {a : Option Addr} {len cap : Nat} (h : IsDeeds w a len cap) (i : Nat) (hi : i < len) :
    ∃ b off, ∃ k p q : Int, a = some ⟨b, off, none⟩ ∧ len ≤ cap ∧ cap ≤ maxLen ∧ w.cell? ⟨b, off + i * 3, none⟩ = some (.int .i64 k) ∧ w.cell? ⟨b, off + i * 3 + 1, none⟩ = some (.int .i64 p) ∧ w.cell? ⟨b, off + i * 3 + 2, none⟩ = some (.int .i64 q) ∧ (-9223372036854775808 ≤ p ∧ p ≤ 9223372036854775807) ∧ (-9223372036854775808 ≤ q ∧ q ≤ 9223372036854775807) := by
  rcases h with ⟨_, h0⟩ | ⟨x, rfl, h1, h2, h3⟩
  · omega
  · obtain ⟨k, p, q, c0, c1, c2, s1, s2⟩ := h3 i hi
    obtain ⟨b, off, spot⟩ := x
    obtain ⟨_, _, _, z0, _⟩ := h3 0 (by omega)
    have hs : spot = none := by simpa [Addr.add] using World.cell?_spot z0
    clear z0
    subst hs
    have ad : ∀ j, (⟨b, off, none⟩ : Addr).add j = ⟨b, off + j, none⟩ := fun j => by simp [Addr.add]
    rw [ad] at c0 c1 c2
    exact ⟨b, off, k, p, q, rfl, h1, h2, c0, c1, c2, bounds_i64 s1, bounds_i64 s2⟩
theorem lst_new (n : Nat) : lst (fun _ => false) n = [] := by
  have := lst_length (fun _ => false) n
  rw [cnt_new] at this
  exact List.eq_nil_of_length_eq_zero (by omega)
theorem in_S {w w9 : World} {rb n b o : Nat} {sl : Value} {x y z : Int} (bel : Below w.heap.size w w9) (hr : BF w w9 rb n sl) (lb : b < w.heap.size) (c0 : w.cell? ⟨b, o, none⟩ = some (.int .i64 x)) (c1 : w.cell? ⟨b, o + 1, none⟩ = some (.int .i64 y)) (c2 : w.cell? ⟨b, o + 2, none⟩ = some (.int .i64 z)) :
    w9.cell? ⟨rb, 0, none⟩ = some (.int .i64 (n : Int)) ∧ w9.cell? ⟨rb, 1, none⟩ = some sl ∧ w9.cell? ⟨b, o, none⟩ = some (.int .i64 x) ∧ w9.cell? ⟨b, o + 1, none⟩ = some (.int .i64 y) ∧ w9.cell? ⟨b, o + 2, none⟩ = some (.int .i64 z) :=
  ⟨hr.c0, hr.c1, (bel.cell (p := ⟨b, o, none⟩) lb).trans c0, (bel.cell (p := ⟨b, o + 1, none⟩) lb).trans c1, (bel.cell (p := ⟨b, o + 2, none⟩) lb).trans c2⟩
/-! ### The walk -/
set_option maxHeartbeats 4000000 in
set_option maxRecDepth 100000 in
theorem walk (a0 : Int) (a1 : Option Addr) (len1 cap1 : Nat) (w : World) (w0 : (Lit.int .i64 a0).wf = true) (w1 : IsDeeds w a1 len1 cap1) :
    Calls Try.prog 3 #[.int .i64 a0, .slice a1 len1 cap1] w fun e w' => e = .returned (.bool true) ∧ Below w.heap.size w w' := by
  obtain ⟨x0, x1⟩ := bounds_i64 w0
  have w1' := w1
  have hlen : len1 ≤ 9223372036854775807 := by
    rcases w1 with ⟨_, h⟩ | ⟨_, _, h1, h2, _⟩
    · omega
    · unfold maxLen at h2; omega
  clear w0 w1
  by_cases hn : 600 < a0
  · go_enter Try.func3, Try.ntmps3
    go_wp2_with fail
    refine (fnew_in _ _).mono ?_
    rintro e W0 ⟨rfl, H0⟩
    have hle := H0.fr.le
    generalize hN : newN _ = N at *
    replace hN := Lib.hid hN
    go_wp2_with (go_at_call 9; refine (rnew_any _ _).mono ?_; rw [hN.out]; rintro e w1 ⟨rfl, hb1⟩; have H1 := H0.below hb1; have h2 : w.heap.size + 2 ≤ w1.heap.size := by have := H1.fr.lt.1; omega)
    have P0 : PR w N (fun _ => false) (.slice none 0 0) [] none 0 w1.heap.size (w1.alloc (.cells #[.int .i64 (N : Int), .slice none 0 0] 27)) := by
      have A1 : ApIn w N (fun _ => false) (.slice none 0 0) [] w1 := ⟨H1, World.ownsRow_nil _ _ _ _, h2⟩
      refine ⟨A1.below ((Below.refl _ _).alloc (Nat.le_refl _) _), ?_, by simp, ?_⟩
      · unfold OwnI; rw [lst_new]; exact World.ownsRow_nil _ _ _ _
      · rw [lst_new]; exact BF.new h2
    clear H0 H1 hb1 h2 hN
    generalize w1.heap.size = rb at *
    go_loopw [7, 8] (fun v i wr => ∃ (j : Nat) (T : Nat → Bool) (l : List (Nat × Nat)) (ao : Option Addr) (cap : Nat), i = .int .i64 (j : Int) ∧ j ≤ 30 ∧ l.length ≤ j ∧ PR w N T v l ao cap rb wr) (fun _ i _ => 30 - (intOf i).toNat)
    case atStart => exact ⟨0, _, _, _, _, rfl, by omega, by simp, P0⟩
    case round =>
      clear P0
      obtain ⟨j, T, l, ao, cap, rfl, hj, hl, P⟩ := hrel
      obtain ⟨ao2, cap2, rfl⟩ := own_shape P.ap.own
      by_cases h1 : (j : Int) < (len1 : Int)
      · by_cases h2 : (j : Int) < 30
        · obtain ⟨b, off, kk, p, q, rfl, hlc, hcm, c0, c1, c2, bp, bq⟩ := deeds_at w1' j (by omega)
          have lb : b < w.heap.size := cell_lt c0
          unfold maxLen at hcm
          have PD := P.drew
          go_wp2_with fail
          refine wp_region_held_drew (S := fun w9 => w9.cell? ⟨rb, 0, none⟩ = some (.int .i64 (N : Int)) ∧ w9.cell? ⟨rb, 1, none⟩ = some (.slice ao (lst T N).length cap) ∧ w9.cell? ⟨b, off + j * 3, none⟩ = some (.int .i64 kk) ∧ w9.cell? ⟨b, off + j * 3 + 1, none⟩ = some (.int .i64 p) ∧ w9.cell? ⟨b, off + j * 3 + 2, none⟩ = some (.int .i64 q)) (by kernel_rfl) (in_S PD.ap.fr.bel PD.r lb c0 c1 c2) (fun hHeld => ?_)
          refine wpAnyH_take (i := 0) (v := ?vxa0) rfl (by kernel_rfl) (by kernel_rfl) (by kernel_rfl) (fun _ _ _ h => h) (Or.inl ⟨by rfl, ?hyxa0⟩) (by assumption) ?restxa0
          case hyxa0 => (intro w hSw; (try dsimp only at hSw); go_simp <;> (with_reducible rfl))
          (try simp only [Act.put, List.setIfInBounds_toArray, List.set_cons_zero, List.set_cons_succ, List.getElem_toArray, List.getElem_cons_zero])
          refine wpAnyH_take (i := 1) (v := ?vxa1) rfl (by kernel_rfl) (by kernel_rfl) (by kernel_rfl) (fun _ _ _ h => h) (Or.inl ⟨by rfl, ?hyxa1⟩) (by assumption) ?restxa1
          case hyxa1 => (intro w hSw; (try dsimp only at hSw); go_simp <;> (with_reducible rfl))
          (try simp only [Act.put, List.setIfInBounds_toArray, List.set_cons_zero, List.set_cons_succ, List.getElem_toArray, List.getElem_cons_zero, List.getElem_cons_succ])
          refine wpAnyH_take (i := 2) (v := ?vxa2) rfl (by kernel_rfl) (by kernel_rfl) (by kernel_rfl) (fun _ _ _ h => h) (Or.inl ⟨by rfl, ?hyxa2⟩) (by assumption) ?restxa2
          case hyxa2 => (intro w hSw; (try dsimp only at hSw); go_simp <;> (with_reducible rfl))
          (try simp only [Act.put, List.setIfInBounds_toArray, List.set_cons_zero, List.set_cons_succ, List.getElem_toArray, List.getElem_cons_zero, List.getElem_cons_succ])
          refine wpAnyH_take (i := 3) (v := ?vxa3) rfl (by kernel_rfl) (by kernel_rfl) (by kernel_rfl) (fun _ _ _ h => h) (Or.inl ⟨by rfl, ?hyxa3⟩) (by assumption) ?restxa3
          case hyxa3 => (intro w hSw; (try dsimp only at hSw); go_simp <;> (with_reducible rfl))
          (try simp only [Act.put, List.setIfInBounds_toArray, List.set_cons_zero, List.set_cons_succ, List.getElem_toArray, List.getElem_cons_zero, List.getElem_cons_succ])
          refine wpAnyH_take (i := 4) (v := ?vxa4) rfl (by kernel_rfl) (by kernel_rfl) (by kernel_rfl) (fun _ _ _ h => h) (Or.inl ⟨by rfl, ?hyxa4⟩) (by assumption) ?restxa4
          case hyxa4 => (intro w hSw; (try dsimp only at hSw); go_simp <;> (with_reducible rfl))
          (try simp only [Act.put, List.setIfInBounds_toArray, List.set_cons_zero, List.set_cons_succ, List.getElem_toArray, List.getElem_cons_zero, List.getElem_cons_succ])
          refine wpAnyH_take (i := 5) (v := ?vxa5) rfl (by kernel_rfl) (by kernel_rfl) (by kernel_rfl) (fun _ _ _ h => h) (Or.inl ⟨by rfl, ?hyxa5⟩) (by assumption) ?restxa5
          case hyxa5 => (intro w hSw; (try dsimp only at hSw); go_simp <;> (with_reducible rfl))
          (try simp only [Act.put, List.setIfInBounds_toArray, List.set_cons_zero, List.set_cons_succ, List.getElem_toArray, List.getElem_cons_zero, List.getElem_cons_succ])
          refine wpAnyH_take (i := 6) (v := ?vxa6) rfl (by kernel_rfl) (by kernel_rfl) (by kernel_rfl) (fun _ _ _ h => h) (Or.inl ⟨by rfl, ?hyxa6⟩) (by assumption) ?restxa6
          case hyxa6 => (intro w hSw; (try dsimp only at hSw); go_simp <;> (with_reducible rfl))
          (try simp only [Act.put, List.setIfInBounds_toArray, List.set_cons_zero, List.set_cons_succ, List.getElem_toArray, List.getElem_cons_zero, List.getElem_cons_succ])
          refine wpAnyH_ready (rs := [7, 12]) (by kernel_rfl) (by simp) ?_
          have PD1 := PD.below ((Below.refl _ _).alloc (Nat.le_refl _) (.cells #[.int .i64 0, .slice none 0 0] 27))
          have NB := BF.new (w := w) (wr := wr.drew) (n := 0) (sl := .slice none 0 0) PD.ap.two
          refine AllReadyH.cons rfl (fun K hK => ?_) (AllReadyH.cons rfl (fun K hK => ?_) AllReadyH.nil)
          · go_simp
            refine (does_any PD.pl hle (by omega) kk p q bp.1 bp.2 bq.1 bq.2).mono ?_
            rintro e w5 ⟨x5, v5, T5, l5, rfl, ⟨A5, ⟨ao5, cap5, rfl, o5⟩, bd5⟩, hl5, K5⟩
            have R5 := PD.r.kp K5
            try go_simp
            refine hK.out _ _ (in_S A5.fr.bel R5 lb c0 c1 c2) (fun hHeld => ?_)
            clear hK K
            (try simp only [Act.put, List.setIfInBounds_toArray, List.set_cons_zero, List.set_cons_succ, List.getElem_toArray, List.getElem_cons_zero, List.getElem_cons_succ])
            refine wpAnyH_take (i := 8) (v := ?vxb8) rfl (by kernel_rfl) (by kernel_rfl) (by kernel_rfl) (fun _ _ _ h => h) (Or.inl ⟨by rfl, ?hyxb8⟩) (by assumption) ?restxb8
            case hyxb8 => (intro w hSw; (try dsimp only at hSw); go_simp <;> (with_reducible rfl))
            (try simp only [Act.put, List.setIfInBounds_toArray, List.set_cons_zero, List.set_cons_succ, List.getElem_toArray, List.getElem_cons_zero, List.getElem_cons_succ])
            refine wpAnyH_take (i := 9) (v := ?vxb9) rfl (by kernel_rfl) (by kernel_rfl) (by kernel_rfl) (fun _ _ _ h => h) (Or.inl ⟨by rfl, ?hyxb9⟩) (by assumption) ?restxb9
            case hyxb9 => (intro w hSw; (try dsimp only at hSw); go_simp <;> (with_reducible rfl))
            (try simp only [Act.put, List.setIfInBounds_toArray, List.set_cons_zero, List.set_cons_succ, List.getElem_toArray, List.getElem_cons_zero, List.getElem_cons_succ])
            refine wpAnyH_take (i := 10) (v := ?vxb10) rfl (by kernel_rfl) (by kernel_rfl) (by kernel_rfl) (fun _ _ _ h => h) (Or.inl ⟨by rfl, ?hyxb10⟩) (by assumption) ?restxb10
            case hyxb10 => (intro w hSw; (try dsimp only at hSw); go_simp <;> (with_reducible rfl))
            (try simp only [Act.put, List.setIfInBounds_toArray, List.set_cons_zero, List.set_cons_succ, List.getElem_toArray, List.getElem_cons_zero, List.getElem_cons_succ])
            refine wpAnyH_take (i := 11) (v := ?vxb11) rfl (by kernel_rfl) (by kernel_rfl) (by kernel_rfl) (fun _ _ _ h => h) (Or.inl ⟨by rfl, ?hyxb11⟩) (by assumption) ?restxb11
            case hyxb11 => (intro w hSw; (try dsimp only at hSw); go_simp <;> (with_reducible rfl))
            (try simp only [Act.put, List.setIfInBounds_toArray, List.set_cons_zero, List.set_cons_succ, List.getElem_toArray, List.getElem_cons_zero, List.getElem_cons_succ])
            refine wpAnyH_ready (rs := [12]) (by kernel_rfl) (by simp) ?_
            refine AllReadyH.cons rfl (fun K hK => ?_) AllReadyH.nil
            go_simp
            refine hK.out _ _ (in_S (A5.fr.bel.alloc A5.fr.bel.size _) (R5.kp (Kp.alloc w w5 _)) lb c0 c1 c2) (fun hHeld => ?_)
            clear hK K
            (try simp only [Act.put, List.setIfInBounds_toArray, List.set_cons_zero, List.set_cons_succ, List.getElem_toArray, List.getElem_cons_zero, List.getElem_cons_succ])
            refine wpAnyH_ready (rs := [13]) (by kernel_rfl) (by simp) ?_
            refine AllReadyH.cons rfl (fun K hK => ?_) AllReadyH.nil
            go_simp
            refine hK.out _ _ (in_S (A5.fr.bel.alloc A5.fr.bel.size _) (R5.kp (Kp.alloc w w5 _)) lb c0 c1 c2) (fun hHeld => ?_)
            clear hK K
            (try simp only [Act.put, List.setIfInBounds_toArray, List.set_cons_zero, List.set_cons_succ, List.getElem_toArray, List.getElem_cons_zero, List.getElem_cons_succ])
            refine wpAnyH_take (i := 14) (v := ?vxb14) rfl (by kernel_rfl) (by kernel_rfl) (by kernel_rfl) (fun _ _ _ h => h) (Or.inl ⟨by rfl, ?hyxb14⟩) (by assumption) ?restxb14
            case hyxb14 => (intro w hSw; (try dsimp only at hSw); go_simp <;> (with_reducible rfl))
            (try simp only [Act.put, List.setIfInBounds_toArray, List.set_cons_zero, List.set_cons_succ, List.getElem_toArray, List.getElem_cons_zero, List.getElem_cons_succ])
            refine wpAnyH_take (i := 15) (v := ?vxb15) rfl (by kernel_rfl) (by kernel_rfl) (by kernel_rfl) (fun _ _ _ h => h) (Or.inl ⟨by rfl, ?hyxb15⟩) (by assumption) ?restxb15
            case hyxb15 => (intro w hSw; (try dsimp only at hSw); go_simp <;> (with_reducible rfl))
            (try simp only [Act.put, List.setIfInBounds_toArray, List.set_cons_zero, List.set_cons_succ, List.getElem_toArray, List.getElem_cons_zero, List.getElem_cons_succ])
            refine wpAnyH_done (by kernel_rfl) ?_ _
            have A6 := A5.below ((Below.refl _ _).alloc (Nat.le_refl _) (.cells #[.int .i64 (N : Int), .slice ao5 (lst T5 N).length cap5] 27))
            have o6 : OwnI (w5.alloc (.cells #[.int .i64 (N : Int), .slice ao5 (lst T5 N).length cap5] 27)) (w.heap.size + 2) ao5 cap5 (lst T5 N) := o5.alloc _
            have R6 := R5.kp (Kp.alloc w w5 (.cells #[.int .i64 (N : Int), .slice ao5 (lst T5 N).length cap5] 27))
            have N6 := BF.new (w := w) (wr := w5) (n := N) (sl := .slice ao5 (lst T5 N).length cap5) A5.two
            have hnr : rb ≠ w5.heap.size := by have := (Array.getElem?_eq_some_iff.1 R5.bk).1; omega
            generalize w5.alloc (.cells #[.int .i64 (N : Int), .slice ao5 (lst T5 N).length cap5] 27) = W6 at A6 o6 R6 N6 hHeld ⊢
            generalize w5.heap.size = nb at N6 hnr ⊢
            clear hHeld P PD PD1 NB R5 A5 o5 K5 c0 c1 c2
            have f0 := N6.c0
            have f1 := N6.c1
            have s0 := R6.c0
            have s1 := R6.c1
            have s2 := R6.f0 0
            have s3 := R6.f0 1
            have P7 := PR.next (ao := ao) (cap := cap) A6 o6 bd5 R6 ⟨rfl, rfl⟩
            clear A6 o6 N6 R6
            obtain ⟨ao6, cap6, rfl⟩ := own_shape P7.ap.own
            go_wp2_with fail
            clear f0 f1 s0 s1 s2 s3
            generalize (W6.setCell ⟨rb, 0, none⟩ (.int .i64 (N : Int))).setCell ⟨rb, 1, none⟩ (.slice ao5 (lst T5 N).length cap5) = W7 at P7 ⊢
            have P8 := P7.drew
            clear P7
            have hll : (lst T5 N).length ≤ N := by have := lst_length T5 N; omega
            have hwr : wrap64 ((N : Int) - ((lst T5 N).length : Int)) = (N : Int) - ((lst T5 N).length : Int) := IntWalk.wrap64_in _ ⟨by omega, by omega⟩
            have hwr2 : IntKind.i64.wrap ((N : Int) - ((lst T5 N).length : Int)) = (N : Int) - ((lst T5 N).length : Int) := by rw [IntKind.wrap_i64]; omega
            have hm1 : (((N : Int) - ((lst T5 N).length : Int)) != (N : Int) - ((lst T5 N).length : Int)) = false := by simp
            have hm2 : ((lng T5 N : Int) != (lng T5 N : Int)) = false := by simp
            have hm3 : ((N : Int) != (N : Int)) = false := by simp
            go_region_held3 (fun w9 => w9.cell? ⟨rb, 0, none⟩ = some (.int .i64 (N : Int)) ∧ w9.cell? ⟨rb, 1, none⟩ = some (.slice ao5 (lst T5 N).length cap5))
              ((refine PR.cells (w := w) (v := .slice ao6 l5.length cap6) (l := l5) ?_; assumption))
              (first | (go_at_call 11; (with_reducible refine (pr_free (by assumption)).mono ?_); rintro e w9 ⟨rfl, rfl⟩) | (go_at_call 12; (with_reducible refine (pr_len (by assumption)).mono ?_); rintro e w9 ⟨rfl, rfl⟩) | (go_at_call 13; (with_reducible refine (pr_longest (by assumption)).mono ?_); rintro e w9 ⟨rfl, P9⟩) | (go_at_call 14; (with_reducible refine (pr_rlongest (by assumption)).mono ?_); rintro e w10 ⟨rfl, P10⟩) | (go_at_call 16; (with_reducible refine (pr_list (by assumption)).mono ?_); rintro e w11 ⟨ao9, cap9, rfl, P11, O11⟩) | (go_at_call 15; (with_reducible refine (pr_same (by assumption) (by assumption)).mono ?_); rintro e w12 ⟨rfl, P12⟩))
            clear hm1 hm2 hm3 hwr hwr2 P8
            go_wp2_with fail
            go_roundw
            case rel => exact ⟨j + 1, T5, l5, ao5, cap5, by go_num, by omega, by omega, by assumption⟩
            case measure => simp [intOf]; omega
          · go_simp
            refine hK.out _ _ (in_S PD1.ap.fr.bel PD1.r lb c0 c1 c2) (fun hHeld => ?_)
            clear hK K
            (try simp only [Act.put, List.setIfInBounds_toArray, List.set_cons_zero, List.set_cons_succ, List.getElem_toArray, List.getElem_cons_zero, List.getElem_cons_succ])
            refine wpAnyH_ready (rs := [7]) (by kernel_rfl) (by simp) ?_
            refine AllReadyH.cons rfl (fun K hK => ?_) AllReadyH.nil
            go_simp
            refine (does_any PD1.pl hle (by omega) kk p q bp.1 bp.2 bq.1 bq.2).mono ?_
            rintro e w5 ⟨x5, v5, T5, l5, rfl, ⟨A5, ⟨ao5, cap5, rfl, o5⟩, bd5⟩, hl5, K5⟩
            have R5 := PD1.r.kp K5
            have NB5 := NB.kp K5
            have hnr : rb ≠ wr.heap.size := by have := (Array.getElem?_eq_some_iff.1 P.r.bk).1; omega
            try go_simp
            refine hK.out _ _ (in_S A5.fr.bel R5 lb c0 c1 c2) (fun hHeld => ?_)
            clear hK K
            (try simp only [Act.put, List.setIfInBounds_toArray, List.set_cons_zero, List.set_cons_succ, List.getElem_toArray, List.getElem_cons_zero, List.getElem_cons_succ])
            refine wpAnyH_take (i := 8) (v := ?vxc8) rfl (by kernel_rfl) (by kernel_rfl) (by kernel_rfl) (fun _ _ _ h => h) (Or.inl ⟨by rfl, ?hyxc8⟩) (by assumption) ?restxc8
            case hyxc8 => (intro w hSw; (try dsimp only at hSw); go_simp <;> (with_reducible rfl))
            (try simp only [Act.put, List.setIfInBounds_toArray, List.set_cons_zero, List.set_cons_succ, List.getElem_toArray, List.getElem_cons_zero, List.getElem_cons_succ])
            refine wpAnyH_take (i := 9) (v := ?vxc9) rfl (by kernel_rfl) (by kernel_rfl) (by kernel_rfl) (fun _ _ _ h => h) (Or.inl ⟨by rfl, ?hyxc9⟩) (by assumption) ?restxc9
            case hyxc9 => (intro w hSw; (try dsimp only at hSw); go_simp <;> (with_reducible rfl))
            (try simp only [Act.put, List.setIfInBounds_toArray, List.set_cons_zero, List.set_cons_succ, List.getElem_toArray, List.getElem_cons_zero, List.getElem_cons_succ])
            refine wpAnyH_take (i := 10) (v := ?vxc10) rfl (by kernel_rfl) (by kernel_rfl) (by kernel_rfl) (fun _ _ _ h => h) (Or.inl ⟨by rfl, ?hyxc10⟩) (by assumption) ?restxc10
            case hyxc10 => (intro w hSw; (try dsimp only at hSw); go_simp <;> (with_reducible rfl))
            (try simp only [Act.put, List.setIfInBounds_toArray, List.set_cons_zero, List.set_cons_succ, List.getElem_toArray, List.getElem_cons_zero, List.getElem_cons_succ])
            refine wpAnyH_take (i := 11) (v := ?vxc11) rfl (by kernel_rfl) (by kernel_rfl) (by kernel_rfl) (fun _ _ _ h => h) (Or.inl ⟨by rfl, ?hyxc11⟩) (by assumption) ?restxc11
            case hyxc11 => (intro w hSw; (try dsimp only at hSw); go_simp <;> (with_reducible rfl))
            (try simp only [Act.put, List.setIfInBounds_toArray, List.set_cons_zero, List.set_cons_succ, List.getElem_toArray, List.getElem_cons_zero, List.getElem_cons_succ])
            have z0 : w5.cell? ⟨wr.heap.size, 0, none⟩ = some (.int .i64 0) := NB5.c0
            have z1 : w5.cell? ⟨wr.heap.size, 1, none⟩ = some (.slice none 0 0) := NB5.c1
            have z2 : w5.frozen? ⟨wr.heap.size, 0, none⟩ = false := NB5.f0 0
            have z3 : w5.frozen? ⟨wr.heap.size, 1, none⟩ = false := NB5.f0 1
            have NB6 : BF w w5 wr.heap.size 0 (.slice none 0 0) := NB5
            have hwn : w.heap.size ≤ wr.heap.size := P.ap.fr.bel.size
            refine wpAnyH_ready (rs := [13]) (by kernel_rfl) (by simp) ?_
            refine AllReadyH.cons rfl (fun K hK => ?_) AllReadyH.nil
            go_simp
            have A6 := laid_ap (k := N) (sl2 := .slice ao5 (lst T5 N).length cap5) A5 NB6
            have o6 := laid_row (k := N) (sl2 := .slice ao5 (lst T5 N).length cap5) o5 NB6
            have R6 := (R5.other (o := 0) hnr (.int .i64 (N : Int))).other (o := 1) hnr (.slice ao5 (lst T5 N).length cap5)
            have N6 := NB6.set (m := N) (sl2 := .slice ao5 (lst T5 N).length cap5)
            refine hK.out _ _ (in_S A6.fr.bel R6 lb c0 c1 c2) (fun hHeld => ?_)
            clear hK K
            (try simp only [Act.put, List.setIfInBounds_toArray, List.set_cons_zero, List.set_cons_succ, List.getElem_toArray, List.getElem_cons_zero, List.getElem_cons_succ])
            refine wpAnyH_take (i := 14) (v := ?vxc14) rfl (by kernel_rfl) (by kernel_rfl) (by kernel_rfl) (fun _ _ _ h => h) (Or.inl ⟨by rfl, ?hyxc14⟩) (by assumption) ?restxc14
            case hyxc14 => (intro w hSw; (try dsimp only at hSw); go_simp <;> (with_reducible rfl))
            (try simp only [Act.put, List.setIfInBounds_toArray, List.set_cons_zero, List.set_cons_succ, List.getElem_toArray, List.getElem_cons_zero, List.getElem_cons_succ])
            refine wpAnyH_take (i := 15) (v := ?vxc15) rfl (by kernel_rfl) (by kernel_rfl) (by kernel_rfl) (fun _ _ _ h => h) (Or.inl ⟨by rfl, ?hyxc15⟩) (by assumption) ?restxc15
            case hyxc15 => (intro w hSw; (try dsimp only at hSw); go_simp <;> (with_reducible rfl))
            (try simp only [Act.put, List.setIfInBounds_toArray, List.set_cons_zero, List.set_cons_succ, List.getElem_toArray, List.getElem_cons_zero, List.getElem_cons_succ])
            refine wpAnyH_done (by kernel_rfl) ?_ _
            clear z0 z1 z2 z3 NB5 NB6
            generalize (w5.setCell ⟨wr.heap.size, 0, none⟩ (.int .i64 (N : Int))).setCell ⟨wr.heap.size, 1, none⟩ (.slice ao5 (lst T5 N).length cap5) = W6 at A6 o6 R6 N6 hHeld ⊢
            generalize wr.heap.size = nb at N6 hnr ⊢
            clear hHeld P PD PD1 NB R5 A5 o5 K5 c0 c1 c2
            have f0 := N6.c0
            have f1 := N6.c1
            have s0 := R6.c0
            have s1 := R6.c1
            have s2 := R6.f0 0
            have s3 := R6.f0 1
            have P7 := PR.next (ao := ao) (cap := cap) A6 o6 bd5 R6 ⟨rfl, rfl⟩
            clear A6 o6 N6 R6
            obtain ⟨ao6, cap6, rfl⟩ := own_shape P7.ap.own
            go_wp2_with fail
            clear f0 f1 s0 s1 s2 s3
            generalize (W6.setCell ⟨rb, 0, none⟩ (.int .i64 (N : Int))).setCell ⟨rb, 1, none⟩ (.slice ao5 (lst T5 N).length cap5) = W7 at P7 ⊢
            have P8 := P7.drew
            clear P7
            have hll : (lst T5 N).length ≤ N := by have := lst_length T5 N; omega
            have hwr : wrap64 ((N : Int) - ((lst T5 N).length : Int)) = (N : Int) - ((lst T5 N).length : Int) := IntWalk.wrap64_in _ ⟨by omega, by omega⟩
            have hwr2 : IntKind.i64.wrap ((N : Int) - ((lst T5 N).length : Int)) = (N : Int) - ((lst T5 N).length : Int) := by rw [IntKind.wrap_i64]; omega
            have hm1 : (((N : Int) - ((lst T5 N).length : Int)) != (N : Int) - ((lst T5 N).length : Int)) = false := by simp
            have hm2 : ((lng T5 N : Int) != (lng T5 N : Int)) = false := by simp
            have hm3 : ((N : Int) != (N : Int)) = false := by simp
            go_region_held3 (fun w9 => w9.cell? ⟨rb, 0, none⟩ = some (.int .i64 (N : Int)) ∧ w9.cell? ⟨rb, 1, none⟩ = some (.slice ao5 (lst T5 N).length cap5))
              ((refine PR.cells (w := w) (v := .slice ao6 l5.length cap6) (l := l5) ?_; assumption))
              (first | (go_at_call 11; (with_reducible refine (pr_free (by assumption)).mono ?_); rintro e w9 ⟨rfl, rfl⟩) | (go_at_call 12; (with_reducible refine (pr_len (by assumption)).mono ?_); rintro e w9 ⟨rfl, rfl⟩) | (go_at_call 13; (with_reducible refine (pr_longest (by assumption)).mono ?_); rintro e w9 ⟨rfl, P9⟩) | (go_at_call 14; (with_reducible refine (pr_rlongest (by assumption)).mono ?_); rintro e w10 ⟨rfl, P10⟩) | (go_at_call 16; (with_reducible refine (pr_list (by assumption)).mono ?_); rintro e w11 ⟨ao9, cap9, rfl, P11, O11⟩) | (go_at_call 15; (with_reducible refine (pr_same (by assumption) (by assumption)).mono ?_); rintro e w12 ⟨rfl, P12⟩))
            clear hm1 hm2 hm3 hwr hwr2 P8
            go_wp2_with fail
            go_roundw
            case rel => exact ⟨j + 1, T5, l5, ao5, cap5, by go_num, by omega, by omega, by assumption⟩
            case measure => simp [intOf]; omega
        · go_wp2_with (go_at_call 17; refine (lives_in P.ap.fr).mono ?_; rintro e w' ⟨rfl, H4⟩)
          go_ret
          exact ⟨rfl, H4.bel⟩
      · go_wp2_with (go_at_call 17; refine (lives_in P.ap.fr).mono ?_; rintro e w' ⟨rfl, H4⟩)
        go_ret
        exact ⟨rfl, H4.bel⟩
  · go_enter Try.func3, Try.ntmps3
    go_wp2_with fail
    refine (fnew_in _ _).mono ?_
    rintro e W0 ⟨rfl, H0⟩
    have hle := H0.fr.le
    generalize hN : newN _ = N at *
    replace hN := Lib.hid hN
    go_wp2_with (go_at_call 9; refine (rnew_any _ _).mono ?_; rw [hN.out]; rintro e w1 ⟨rfl, hb1⟩; have H1 := H0.below hb1; have h2 : w.heap.size + 2 ≤ w1.heap.size := by have := H1.fr.lt.1; omega)
    have P0 : PR w N (fun _ => false) (.slice none 0 0) [] none 0 w1.heap.size (w1.alloc (.cells #[.int .i64 (N : Int), .slice none 0 0] 27)) := by
      have A1 : ApIn w N (fun _ => false) (.slice none 0 0) [] w1 := ⟨H1, World.ownsRow_nil _ _ _ _, h2⟩
      refine ⟨A1.below ((Below.refl _ _).alloc (Nat.le_refl _) _), ?_, by simp, ?_⟩
      · unfold OwnI; rw [lst_new]; exact World.ownsRow_nil _ _ _ _
      · rw [lst_new]; exact BF.new h2
    clear H0 H1 hb1 h2 hN
    generalize w1.heap.size = rb at *
    go_loopw [7, 8] (fun v i wr => ∃ (j : Nat) (T : Nat → Bool) (l : List (Nat × Nat)) (ao : Option Addr) (cap : Nat), i = .int .i64 (j : Int) ∧ j ≤ 30 ∧ l.length ≤ j ∧ PR w N T v l ao cap rb wr) (fun _ i _ => 30 - (intOf i).toNat)
    case atStart => exact ⟨0, _, _, _, _, rfl, by omega, by simp, P0⟩
    case round =>
      clear P0
      obtain ⟨j, T, l, ao, cap, rfl, hj, hl, P⟩ := hrel
      obtain ⟨ao2, cap2, rfl⟩ := own_shape P.ap.own
      by_cases h1 : (j : Int) < (len1 : Int)
      · by_cases h2 : (j : Int) < 30
        · obtain ⟨b, off, kk, p, q, rfl, hlc, hcm, c0, c1, c2, bp, bq⟩ := deeds_at w1' j (by omega)
          have lb : b < w.heap.size := cell_lt c0
          unfold maxLen at hcm
          have PD := P.drew
          go_wp2_with fail
          refine wp_region_held_drew (S := fun w9 => w9.cell? ⟨rb, 0, none⟩ = some (.int .i64 (N : Int)) ∧ w9.cell? ⟨rb, 1, none⟩ = some (.slice ao (lst T N).length cap) ∧ w9.cell? ⟨b, off + j * 3, none⟩ = some (.int .i64 kk) ∧ w9.cell? ⟨b, off + j * 3 + 1, none⟩ = some (.int .i64 p) ∧ w9.cell? ⟨b, off + j * 3 + 2, none⟩ = some (.int .i64 q)) (by kernel_rfl) (in_S PD.ap.fr.bel PD.r lb c0 c1 c2) (fun hHeld => ?_)
          refine wpAnyH_take (i := 0) (v := ?vya0) rfl (by kernel_rfl) (by kernel_rfl) (by kernel_rfl) (fun _ _ _ h => h) (Or.inl ⟨by rfl, ?hyya0⟩) (by assumption) ?restya0
          case hyya0 => (intro w hSw; (try dsimp only at hSw); go_simp <;> (with_reducible rfl))
          (try simp only [Act.put, List.setIfInBounds_toArray, List.set_cons_zero, List.set_cons_succ, List.getElem_toArray, List.getElem_cons_zero])
          refine wpAnyH_take (i := 1) (v := ?vya1) rfl (by kernel_rfl) (by kernel_rfl) (by kernel_rfl) (fun _ _ _ h => h) (Or.inl ⟨by rfl, ?hyya1⟩) (by assumption) ?restya1
          case hyya1 => (intro w hSw; (try dsimp only at hSw); go_simp <;> (with_reducible rfl))
          (try simp only [Act.put, List.setIfInBounds_toArray, List.set_cons_zero, List.set_cons_succ, List.getElem_toArray, List.getElem_cons_zero, List.getElem_cons_succ])
          refine wpAnyH_take (i := 2) (v := ?vya2) rfl (by kernel_rfl) (by kernel_rfl) (by kernel_rfl) (fun _ _ _ h => h) (Or.inl ⟨by rfl, ?hyya2⟩) (by assumption) ?restya2
          case hyya2 => (intro w hSw; (try dsimp only at hSw); go_simp <;> (with_reducible rfl))
          (try simp only [Act.put, List.setIfInBounds_toArray, List.set_cons_zero, List.set_cons_succ, List.getElem_toArray, List.getElem_cons_zero, List.getElem_cons_succ])
          refine wpAnyH_take (i := 3) (v := ?vya3) rfl (by kernel_rfl) (by kernel_rfl) (by kernel_rfl) (fun _ _ _ h => h) (Or.inl ⟨by rfl, ?hyya3⟩) (by assumption) ?restya3
          case hyya3 => (intro w hSw; (try dsimp only at hSw); go_simp <;> (with_reducible rfl))
          (try simp only [Act.put, List.setIfInBounds_toArray, List.set_cons_zero, List.set_cons_succ, List.getElem_toArray, List.getElem_cons_zero, List.getElem_cons_succ])
          refine wpAnyH_take (i := 4) (v := ?vya4) rfl (by kernel_rfl) (by kernel_rfl) (by kernel_rfl) (fun _ _ _ h => h) (Or.inl ⟨by rfl, ?hyya4⟩) (by assumption) ?restya4
          case hyya4 => (intro w hSw; (try dsimp only at hSw); go_simp <;> (with_reducible rfl))
          (try simp only [Act.put, List.setIfInBounds_toArray, List.set_cons_zero, List.set_cons_succ, List.getElem_toArray, List.getElem_cons_zero, List.getElem_cons_succ])
          refine wpAnyH_take (i := 5) (v := ?vya5) rfl (by kernel_rfl) (by kernel_rfl) (by kernel_rfl) (fun _ _ _ h => h) (Or.inl ⟨by rfl, ?hyya5⟩) (by assumption) ?restya5
          case hyya5 => (intro w hSw; (try dsimp only at hSw); go_simp <;> (with_reducible rfl))
          (try simp only [Act.put, List.setIfInBounds_toArray, List.set_cons_zero, List.set_cons_succ, List.getElem_toArray, List.getElem_cons_zero, List.getElem_cons_succ])
          refine wpAnyH_take (i := 6) (v := ?vya6) rfl (by kernel_rfl) (by kernel_rfl) (by kernel_rfl) (fun _ _ _ h => h) (Or.inl ⟨by rfl, ?hyya6⟩) (by assumption) ?restya6
          case hyya6 => (intro w hSw; (try dsimp only at hSw); go_simp <;> (with_reducible rfl))
          (try simp only [Act.put, List.setIfInBounds_toArray, List.set_cons_zero, List.set_cons_succ, List.getElem_toArray, List.getElem_cons_zero, List.getElem_cons_succ])
          refine wpAnyH_ready (rs := [7, 12]) (by kernel_rfl) (by simp) ?_
          have PD1 := PD.below ((Below.refl _ _).alloc (Nat.le_refl _) (.cells #[.int .i64 0, .slice none 0 0] 27))
          have NB := BF.new (w := w) (wr := wr.drew) (n := 0) (sl := .slice none 0 0) PD.ap.two
          refine AllReadyH.cons rfl (fun K hK => ?_) (AllReadyH.cons rfl (fun K hK => ?_) AllReadyH.nil)
          · go_simp
            refine (does_any PD.pl hle (by omega) kk p q bp.1 bp.2 bq.1 bq.2).mono ?_
            rintro e w5 ⟨x5, v5, T5, l5, rfl, ⟨A5, ⟨ao5, cap5, rfl, o5⟩, bd5⟩, hl5, K5⟩
            have R5 := PD.r.kp K5
            try go_simp
            refine hK.out _ _ (in_S A5.fr.bel R5 lb c0 c1 c2) (fun hHeld => ?_)
            clear hK K
            (try simp only [Act.put, List.setIfInBounds_toArray, List.set_cons_zero, List.set_cons_succ, List.getElem_toArray, List.getElem_cons_zero, List.getElem_cons_succ])
            refine wpAnyH_take (i := 8) (v := ?vyb8) rfl (by kernel_rfl) (by kernel_rfl) (by kernel_rfl) (fun _ _ _ h => h) (Or.inl ⟨by rfl, ?hyyb8⟩) (by assumption) ?restyb8
            case hyyb8 => (intro w hSw; (try dsimp only at hSw); go_simp <;> (with_reducible rfl))
            (try simp only [Act.put, List.setIfInBounds_toArray, List.set_cons_zero, List.set_cons_succ, List.getElem_toArray, List.getElem_cons_zero, List.getElem_cons_succ])
            refine wpAnyH_take (i := 9) (v := ?vyb9) rfl (by kernel_rfl) (by kernel_rfl) (by kernel_rfl) (fun _ _ _ h => h) (Or.inl ⟨by rfl, ?hyyb9⟩) (by assumption) ?restyb9
            case hyyb9 => (intro w hSw; (try dsimp only at hSw); go_simp <;> (with_reducible rfl))
            (try simp only [Act.put, List.setIfInBounds_toArray, List.set_cons_zero, List.set_cons_succ, List.getElem_toArray, List.getElem_cons_zero, List.getElem_cons_succ])
            refine wpAnyH_take (i := 10) (v := ?vyb10) rfl (by kernel_rfl) (by kernel_rfl) (by kernel_rfl) (fun _ _ _ h => h) (Or.inl ⟨by rfl, ?hyyb10⟩) (by assumption) ?restyb10
            case hyyb10 => (intro w hSw; (try dsimp only at hSw); go_simp <;> (with_reducible rfl))
            (try simp only [Act.put, List.setIfInBounds_toArray, List.set_cons_zero, List.set_cons_succ, List.getElem_toArray, List.getElem_cons_zero, List.getElem_cons_succ])
            refine wpAnyH_take (i := 11) (v := ?vyb11) rfl (by kernel_rfl) (by kernel_rfl) (by kernel_rfl) (fun _ _ _ h => h) (Or.inl ⟨by rfl, ?hyyb11⟩) (by assumption) ?restyb11
            case hyyb11 => (intro w hSw; (try dsimp only at hSw); go_simp <;> (with_reducible rfl))
            (try simp only [Act.put, List.setIfInBounds_toArray, List.set_cons_zero, List.set_cons_succ, List.getElem_toArray, List.getElem_cons_zero, List.getElem_cons_succ])
            refine wpAnyH_ready (rs := [12]) (by kernel_rfl) (by simp) ?_
            refine AllReadyH.cons rfl (fun K hK => ?_) AllReadyH.nil
            go_simp
            refine hK.out _ _ (in_S (A5.fr.bel.alloc A5.fr.bel.size _) (R5.kp (Kp.alloc w w5 _)) lb c0 c1 c2) (fun hHeld => ?_)
            clear hK K
            (try simp only [Act.put, List.setIfInBounds_toArray, List.set_cons_zero, List.set_cons_succ, List.getElem_toArray, List.getElem_cons_zero, List.getElem_cons_succ])
            refine wpAnyH_ready (rs := [13]) (by kernel_rfl) (by simp) ?_
            refine AllReadyH.cons rfl (fun K hK => ?_) AllReadyH.nil
            go_simp
            refine hK.out _ _ (in_S (A5.fr.bel.alloc A5.fr.bel.size _) (R5.kp (Kp.alloc w w5 _)) lb c0 c1 c2) (fun hHeld => ?_)
            clear hK K
            (try simp only [Act.put, List.setIfInBounds_toArray, List.set_cons_zero, List.set_cons_succ, List.getElem_toArray, List.getElem_cons_zero, List.getElem_cons_succ])
            refine wpAnyH_take (i := 14) (v := ?vyb14) rfl (by kernel_rfl) (by kernel_rfl) (by kernel_rfl) (fun _ _ _ h => h) (Or.inl ⟨by rfl, ?hyyb14⟩) (by assumption) ?restyb14
            case hyyb14 => (intro w hSw; (try dsimp only at hSw); go_simp <;> (with_reducible rfl))
            (try simp only [Act.put, List.setIfInBounds_toArray, List.set_cons_zero, List.set_cons_succ, List.getElem_toArray, List.getElem_cons_zero, List.getElem_cons_succ])
            refine wpAnyH_take (i := 15) (v := ?vyb15) rfl (by kernel_rfl) (by kernel_rfl) (by kernel_rfl) (fun _ _ _ h => h) (Or.inl ⟨by rfl, ?hyyb15⟩) (by assumption) ?restyb15
            case hyyb15 => (intro w hSw; (try dsimp only at hSw); go_simp <;> (with_reducible rfl))
            (try simp only [Act.put, List.setIfInBounds_toArray, List.set_cons_zero, List.set_cons_succ, List.getElem_toArray, List.getElem_cons_zero, List.getElem_cons_succ])
            refine wpAnyH_done (by kernel_rfl) ?_ _
            have A6 := A5.below ((Below.refl _ _).alloc (Nat.le_refl _) (.cells #[.int .i64 (N : Int), .slice ao5 (lst T5 N).length cap5] 27))
            have o6 : OwnI (w5.alloc (.cells #[.int .i64 (N : Int), .slice ao5 (lst T5 N).length cap5] 27)) (w.heap.size + 2) ao5 cap5 (lst T5 N) := o5.alloc _
            have R6 := R5.kp (Kp.alloc w w5 (.cells #[.int .i64 (N : Int), .slice ao5 (lst T5 N).length cap5] 27))
            have N6 := BF.new (w := w) (wr := w5) (n := N) (sl := .slice ao5 (lst T5 N).length cap5) A5.two
            have hnr : rb ≠ w5.heap.size := by have := (Array.getElem?_eq_some_iff.1 R5.bk).1; omega
            generalize w5.alloc (.cells #[.int .i64 (N : Int), .slice ao5 (lst T5 N).length cap5] 27) = W6 at A6 o6 R6 N6 hHeld ⊢
            generalize w5.heap.size = nb at N6 hnr ⊢
            clear hHeld P PD PD1 NB R5 A5 o5 K5 c0 c1 c2
            have f0 := N6.c0
            have f1 := N6.c1
            have s0 := R6.c0
            have s1 := R6.c1
            have s2 := R6.f0 0
            have s3 := R6.f0 1
            have P7 := PR.next (ao := ao) (cap := cap) A6 o6 bd5 R6 ⟨rfl, rfl⟩
            clear A6 o6 N6 R6
            obtain ⟨ao6, cap6, rfl⟩ := own_shape P7.ap.own
            go_wp2_with fail
            clear f0 f1 s0 s1 s2 s3
            generalize (W6.setCell ⟨rb, 0, none⟩ (.int .i64 (N : Int))).setCell ⟨rb, 1, none⟩ (.slice ao5 (lst T5 N).length cap5) = W7 at P7 ⊢
            have P8 := P7.drew
            clear P7
            have hll : (lst T5 N).length ≤ N := by have := lst_length T5 N; omega
            have hwr : wrap64 ((N : Int) - ((lst T5 N).length : Int)) = (N : Int) - ((lst T5 N).length : Int) := IntWalk.wrap64_in _ ⟨by omega, by omega⟩
            have hwr2 : IntKind.i64.wrap ((N : Int) - ((lst T5 N).length : Int)) = (N : Int) - ((lst T5 N).length : Int) := by rw [IntKind.wrap_i64]; omega
            have hm1 : (((N : Int) - ((lst T5 N).length : Int)) != (N : Int) - ((lst T5 N).length : Int)) = false := by simp
            have hm2 : ((lng T5 N : Int) != (lng T5 N : Int)) = false := by simp
            have hm3 : ((N : Int) != (N : Int)) = false := by simp
            go_region_held3 (fun w9 => w9.cell? ⟨rb, 0, none⟩ = some (.int .i64 (N : Int)) ∧ w9.cell? ⟨rb, 1, none⟩ = some (.slice ao5 (lst T5 N).length cap5))
              ((refine PR.cells (w := w) (v := .slice ao6 l5.length cap6) (l := l5) ?_; assumption))
              (first | (go_at_call 11; (with_reducible refine (pr_free (by assumption)).mono ?_); rintro e w9 ⟨rfl, rfl⟩) | (go_at_call 12; (with_reducible refine (pr_len (by assumption)).mono ?_); rintro e w9 ⟨rfl, rfl⟩) | (go_at_call 13; (with_reducible refine (pr_longest (by assumption)).mono ?_); rintro e w9 ⟨rfl, P9⟩) | (go_at_call 14; (with_reducible refine (pr_rlongest (by assumption)).mono ?_); rintro e w10 ⟨rfl, P10⟩) | (go_at_call 16; (with_reducible refine (pr_list (by assumption)).mono ?_); rintro e w11 ⟨ao9, cap9, rfl, P11, O11⟩) | (go_at_call 15; (with_reducible refine (pr_same (by assumption) (by assumption)).mono ?_); rintro e w12 ⟨rfl, P12⟩))
            clear hm1 hm2 hm3 hwr hwr2 P8
            go_wp2_with fail
            go_roundw
            case rel => exact ⟨j + 1, T5, l5, ao5, cap5, by go_num, by omega, by omega, by assumption⟩
            case measure => simp [intOf]; omega
          · go_simp
            refine hK.out _ _ (in_S PD1.ap.fr.bel PD1.r lb c0 c1 c2) (fun hHeld => ?_)
            clear hK K
            (try simp only [Act.put, List.setIfInBounds_toArray, List.set_cons_zero, List.set_cons_succ, List.getElem_toArray, List.getElem_cons_zero, List.getElem_cons_succ])
            refine wpAnyH_ready (rs := [7]) (by kernel_rfl) (by simp) ?_
            refine AllReadyH.cons rfl (fun K hK => ?_) AllReadyH.nil
            go_simp
            refine (does_any PD1.pl hle (by omega) kk p q bp.1 bp.2 bq.1 bq.2).mono ?_
            rintro e w5 ⟨x5, v5, T5, l5, rfl, ⟨A5, ⟨ao5, cap5, rfl, o5⟩, bd5⟩, hl5, K5⟩
            have R5 := PD1.r.kp K5
            have NB5 := NB.kp K5
            have hnr : rb ≠ wr.heap.size := by have := (Array.getElem?_eq_some_iff.1 P.r.bk).1; omega
            try go_simp
            refine hK.out _ _ (in_S A5.fr.bel R5 lb c0 c1 c2) (fun hHeld => ?_)
            clear hK K
            (try simp only [Act.put, List.setIfInBounds_toArray, List.set_cons_zero, List.set_cons_succ, List.getElem_toArray, List.getElem_cons_zero, List.getElem_cons_succ])
            refine wpAnyH_take (i := 8) (v := ?vyc8) rfl (by kernel_rfl) (by kernel_rfl) (by kernel_rfl) (fun _ _ _ h => h) (Or.inl ⟨by rfl, ?hyyc8⟩) (by assumption) ?restyc8
            case hyyc8 => (intro w hSw; (try dsimp only at hSw); go_simp <;> (with_reducible rfl))
            (try simp only [Act.put, List.setIfInBounds_toArray, List.set_cons_zero, List.set_cons_succ, List.getElem_toArray, List.getElem_cons_zero, List.getElem_cons_succ])
            refine wpAnyH_take (i := 9) (v := ?vyc9) rfl (by kernel_rfl) (by kernel_rfl) (by kernel_rfl) (fun _ _ _ h => h) (Or.inl ⟨by rfl, ?hyyc9⟩) (by assumption) ?restyc9
            case hyyc9 => (intro w hSw; (try dsimp only at hSw); go_simp <;> (with_reducible rfl))
            (try simp only [Act.put, List.setIfInBounds_toArray, List.set_cons_zero, List.set_cons_succ, List.getElem_toArray, List.getElem_cons_zero, List.getElem_cons_succ])
            refine wpAnyH_take (i := 10) (v := ?vyc10) rfl (by kernel_rfl) (by kernel_rfl) (by kernel_rfl) (fun _ _ _ h => h) (Or.inl ⟨by rfl, ?hyyc10⟩) (by assumption) ?restyc10
            case hyyc10 => (intro w hSw; (try dsimp only at hSw); go_simp <;> (with_reducible rfl))
            (try simp only [Act.put, List.setIfInBounds_toArray, List.set_cons_zero, List.set_cons_succ, List.getElem_toArray, List.getElem_cons_zero, List.getElem_cons_succ])
            refine wpAnyH_take (i := 11) (v := ?vyc11) rfl (by kernel_rfl) (by kernel_rfl) (by kernel_rfl) (fun _ _ _ h => h) (Or.inl ⟨by rfl, ?hyyc11⟩) (by assumption) ?restyc11
            case hyyc11 => (intro w hSw; (try dsimp only at hSw); go_simp <;> (with_reducible rfl))
            (try simp only [Act.put, List.setIfInBounds_toArray, List.set_cons_zero, List.set_cons_succ, List.getElem_toArray, List.getElem_cons_zero, List.getElem_cons_succ])
            have z0 : w5.cell? ⟨wr.heap.size, 0, none⟩ = some (.int .i64 0) := NB5.c0
            have z1 : w5.cell? ⟨wr.heap.size, 1, none⟩ = some (.slice none 0 0) := NB5.c1
            have z2 : w5.frozen? ⟨wr.heap.size, 0, none⟩ = false := NB5.f0 0
            have z3 : w5.frozen? ⟨wr.heap.size, 1, none⟩ = false := NB5.f0 1
            have NB6 : BF w w5 wr.heap.size 0 (.slice none 0 0) := NB5
            have hwn : w.heap.size ≤ wr.heap.size := P.ap.fr.bel.size
            refine wpAnyH_ready (rs := [13]) (by kernel_rfl) (by simp) ?_
            refine AllReadyH.cons rfl (fun K hK => ?_) AllReadyH.nil
            go_simp
            have A6 := laid_ap (k := N) (sl2 := .slice ao5 (lst T5 N).length cap5) A5 NB6
            have o6 := laid_row (k := N) (sl2 := .slice ao5 (lst T5 N).length cap5) o5 NB6
            have R6 := (R5.other (o := 0) hnr (.int .i64 (N : Int))).other (o := 1) hnr (.slice ao5 (lst T5 N).length cap5)
            have N6 := NB6.set (m := N) (sl2 := .slice ao5 (lst T5 N).length cap5)
            refine hK.out _ _ (in_S A6.fr.bel R6 lb c0 c1 c2) (fun hHeld => ?_)
            clear hK K
            (try simp only [Act.put, List.setIfInBounds_toArray, List.set_cons_zero, List.set_cons_succ, List.getElem_toArray, List.getElem_cons_zero, List.getElem_cons_succ])
            refine wpAnyH_take (i := 14) (v := ?vyc14) rfl (by kernel_rfl) (by kernel_rfl) (by kernel_rfl) (fun _ _ _ h => h) (Or.inl ⟨by rfl, ?hyyc14⟩) (by assumption) ?restyc14
            case hyyc14 => (intro w hSw; (try dsimp only at hSw); go_simp <;> (with_reducible rfl))
            (try simp only [Act.put, List.setIfInBounds_toArray, List.set_cons_zero, List.set_cons_succ, List.getElem_toArray, List.getElem_cons_zero, List.getElem_cons_succ])
            refine wpAnyH_take (i := 15) (v := ?vyc15) rfl (by kernel_rfl) (by kernel_rfl) (by kernel_rfl) (fun _ _ _ h => h) (Or.inl ⟨by rfl, ?hyyc15⟩) (by assumption) ?restyc15
            case hyyc15 => (intro w hSw; (try dsimp only at hSw); go_simp <;> (with_reducible rfl))
            (try simp only [Act.put, List.setIfInBounds_toArray, List.set_cons_zero, List.set_cons_succ, List.getElem_toArray, List.getElem_cons_zero, List.getElem_cons_succ])
            refine wpAnyH_done (by kernel_rfl) ?_ _
            clear z0 z1 z2 z3 NB5 NB6
            generalize (w5.setCell ⟨wr.heap.size, 0, none⟩ (.int .i64 (N : Int))).setCell ⟨wr.heap.size, 1, none⟩ (.slice ao5 (lst T5 N).length cap5) = W6 at A6 o6 R6 N6 hHeld ⊢
            generalize wr.heap.size = nb at N6 hnr ⊢
            clear hHeld P PD PD1 NB R5 A5 o5 K5 c0 c1 c2
            have f0 := N6.c0
            have f1 := N6.c1
            have s0 := R6.c0
            have s1 := R6.c1
            have s2 := R6.f0 0
            have s3 := R6.f0 1
            have P7 := PR.next (ao := ao) (cap := cap) A6 o6 bd5 R6 ⟨rfl, rfl⟩
            clear A6 o6 N6 R6
            obtain ⟨ao6, cap6, rfl⟩ := own_shape P7.ap.own
            go_wp2_with fail
            clear f0 f1 s0 s1 s2 s3
            generalize (W6.setCell ⟨rb, 0, none⟩ (.int .i64 (N : Int))).setCell ⟨rb, 1, none⟩ (.slice ao5 (lst T5 N).length cap5) = W7 at P7 ⊢
            have P8 := P7.drew
            clear P7
            have hll : (lst T5 N).length ≤ N := by have := lst_length T5 N; omega
            have hwr : wrap64 ((N : Int) - ((lst T5 N).length : Int)) = (N : Int) - ((lst T5 N).length : Int) := IntWalk.wrap64_in _ ⟨by omega, by omega⟩
            have hwr2 : IntKind.i64.wrap ((N : Int) - ((lst T5 N).length : Int)) = (N : Int) - ((lst T5 N).length : Int) := by rw [IntKind.wrap_i64]; omega
            have hm1 : (((N : Int) - ((lst T5 N).length : Int)) != (N : Int) - ((lst T5 N).length : Int)) = false := by simp
            have hm2 : ((lng T5 N : Int) != (lng T5 N : Int)) = false := by simp
            have hm3 : ((N : Int) != (N : Int)) = false := by simp
            go_region_held3 (fun w9 => w9.cell? ⟨rb, 0, none⟩ = some (.int .i64 (N : Int)) ∧ w9.cell? ⟨rb, 1, none⟩ = some (.slice ao5 (lst T5 N).length cap5))
              ((refine PR.cells (w := w) (v := .slice ao6 l5.length cap6) (l := l5) ?_; assumption))
              (first | (go_at_call 11; (with_reducible refine (pr_free (by assumption)).mono ?_); rintro e w9 ⟨rfl, rfl⟩) | (go_at_call 12; (with_reducible refine (pr_len (by assumption)).mono ?_); rintro e w9 ⟨rfl, rfl⟩) | (go_at_call 13; (with_reducible refine (pr_longest (by assumption)).mono ?_); rintro e w9 ⟨rfl, P9⟩) | (go_at_call 14; (with_reducible refine (pr_rlongest (by assumption)).mono ?_); rintro e w10 ⟨rfl, P10⟩) | (go_at_call 16; (with_reducible refine (pr_list (by assumption)).mono ?_); rintro e w11 ⟨ao9, cap9, rfl, P11, O11⟩) | (go_at_call 15; (with_reducible refine (pr_same (by assumption) (by assumption)).mono ?_); rintro e w12 ⟨rfl, P12⟩))
            clear hm1 hm2 hm3 hwr hwr2 P8
            go_wp2_with fail
            go_roundw
            case rel => exact ⟨j + 1, T5, l5, ao5, cap5, by go_num, by omega, by omega, by assumption⟩
            case measure => simp [intOf]; omega
        · go_wp2_with (go_at_call 17; refine (lives_in P.ap.fr).mono ?_; rintro e w' ⟨rfl, H4⟩)
          go_ret
          exact ⟨rfl, H4.bel⟩
      · go_wp2_with (go_at_call 17; refine (lives_in P.ap.fr).mono ?_; rintro e w' ⟨rfl, H4⟩)
        go_ret
        exact ⟨rfl, H4.bel⟩
/-! ### The row -/
theorem open_deeds {H : Type} {enc : TypeId × Value → H} {w : World} {base : Nat} {fuel : Nat} {ao : Option Addr} {len cap : Nat} {x : DataW H × List MemPlace} (h : DataW.trod enc Try.prog w base (fun _ => true) true fuel 22 [.slice ao len cap] = some x) : IsDeeds w ao len cap := by
  rcases open_slice Try.underlying22 h with ⟨hcs, _⟩ | ⟨a, l, c, m, n, D, Pl, hcs, hb, hl, hm, hmm, hx, hi⟩
  · simp at hcs; exact .inl ⟨hcs.1, hcs.2.1⟩
  · simp at hcs
    obtain ⟨rfl, rfl, rfl⟩ := hcs
    refine .inr ⟨a, rfl, hl, hm, fun i him => ?_⟩
    obtain ⟨cs', hc, ht'⟩ := hi i (by simp at hmm; omega)
    rw [show Try.prog.cellsOf 33 = 3 from by kernel_rfl] at hc
    obtain ⟨ys, n', hn', hy, hlen, hyl, hf⟩ := DataW.trod_struct Try.underlying33 ht'
    obtain ⟨_, hcl, hat⟩ := World.cells?_some hc
    have h0 := hf 0 _ rfl
    have h1 := hf 1 _ rfl
    have h2 := hf 2 _ rfl
    match cs', hcl with
    | [c0, c1, c2], _ =>
      have e3 : Try.prog.cellsOf 3 = 1 := by kernel_rfl
      match ys, hyl with
      | [y0, y1, y2], _ =>
        simp [e3] at h0 h1 h2
        obtain ⟨k, q0, _, _⟩ := DataW.trod_int Try.underlying3 h0
        obtain ⟨p, q1, _, s1⟩ := DataW.trod_int Try.underlying3 h1
        obtain ⟨q, q2, _, s2⟩ := DataW.trod_int Try.underlying3 h2
        simp at q0 q1 q2
        subst q0 q1 q2
        have t0 := hat 0 (by omega)
        have t1 := hat 1 (by omega)
        have t2 := hat 2 (by omega)
        rw [Go.Deep.add_add] at t0 t1 t2
        exact ⟨k, p, q, t0, t1, t2, s1, s2⟩
set_option maxRecDepth 100000 in
theorem lifted (os : Os) (started : os.Started) (H : Type) (enc : TypeId × Value → H) :
    ReturnsInHanded {} Try.checked os 3 .any (Rows.framesPlaysSpec.pre6 enc Try.prog Try.f3 Rows.framesPlaysRow.domain false) (Rows.framesPlaysSpec.post enc Try.prog Try.f3 false true false false) := by
  refine returnsInHanded_of_change (C := Try.checked) own started (by kernel_rfl) Try.func3
    (ChangeSpec.witness6 (enc := enc) (C := Try.checked) false ⟨#[], #[.int .i64 0, .slice none 0 0], []⟩ 8 (by kernel_rfl) (by kernel_rfl) (by kernel_rfl) (by kernel_rfl)) ?_
  intro W base args ds gs before hval0 hW hcnd _
  have hval : ∀ (j : Nat) t v, Try.f3.params[j]? = some t → args[j]? = some v → Value.okWide Try.prog W .any base t v := hval0
  have hW' := hW
  obtain ⟨p, q, hA0, hV, rfl, hfz, hnd⟩ := hW
  have hA : DataW.TrodAll enc Try.prog W 0 (fun _ => true) true Try.f3.params.toList args.toList ds p := hA0
  rw [Try.params3] at hA hval
  obtain ⟨v0, vs0, d0, ds0, p0, q0, hargs, rfl, rfl, h0, r0⟩ := trodAll_cons hA
  obtain ⟨v1, vs1, d1, ds1, p1, q1, rfl, rfl, rfl, h1, r1⟩ := trodAll_cons r0
  obtain ⟨rfl, rfl, rfl⟩ := trodAll_nil r1
  obtain rfl : args = #[v0, v1] := by cases args; simp_all
  obtain ⟨rfl, rfl⟩ := trodVars_none hV
  obtain ⟨a0, rfl, rfl, rfl, w0⟩ := open_int Try.underlying3 (hval 0 3 v0 rfl rfl) h0
  obtain ⟨a1, len1, cap1, rfl⟩ := okWide_slice Try.underlying22 (hval 1 22 v1 rfl rfl)
  have k1 := h1
  have lt1 : ∀ x ∈ p1, x.block < W.heap.size := by obtain ⟨m, hm⟩ := k1; exact DataW.trod_lt m _ _ _ hm
  have w1 : IsDeeds W a1 len1 cap1 := by
    obtain ⟨fuel, hf⟩ := h1
    exact open_deeds hf
  clear hA0 hval0
  refine (walk a0 a1 len1 cap1 W w0 w1).mono fun e W' ⟨he, bel⟩ => ?_
  subst he
  exact ⟨_, rfl, _, _, _, [], _, [], hW', trodAll_mk1 (shut_bool Try.underlying4 _), (trodAll_cons_mk (shut_int Try.underlying3 w0) (trodAll_cons_mk (Below.trod laidOut (by kernel_rfl) (of_decide_eq_true (by kernel_rfl)) k1 bel lt1) trodAll_mk0)), rfl, bel.frame _, fun h => by cases h⟩

theorem over : Rows.framesPlaysRow.holds Try.pinned (OpenSpec.ofChange Rows.framesPlaysSpec) :=
  OpenClaim.holds_of_wide 3 Try.f3 rfl rfl rfl rfl rfl rfl rfl ⟨rfl, rfl, rfl, rfl, rfl⟩ rfl rfl rfl rfl rfl (by kernel_rfl) Try.func3 (by kernel_rfl)
    (of_decide_eq_true (by kernel_rfl)) (by unfold Func.isWrapper; first | (rw [if_pos (by decide +kernel)]; kernel_rfl) | (rw [if_neg (by decide +kernel)]; exact ⟨rfl, rfl⟩))
    (fun os started H enc _ => lifted os started H enc)

theorem proved : Rows.FramesPlaysSaid := over
#print axioms proved
end Go.Proofs.Ytdjpanmokojpdaa.framesPlays
