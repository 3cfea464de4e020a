/-
  TlbPlays: for every number and all deeds the law returns true, and its arguments read as before. Conditions: none.
-/
import Derived.Test.YtbhpljjogmagoaaRows
import Derived.WalkKit
import Derived.ProofKit
import Derived.OpenShut
import Derived.Test.YtbhpljjogmagoaaGI
import Derived.Test.YtbhpljjogmagoaaGE
namespace Go.Proofs.Ytbhpljjogmagoaa.tlbPlays
open Fld Tl
open Go.ChangeShapes Go.WideShapes Go.ChangeAt Go.RowKit Go.Deep Go.Shelf
set_option linter.unusedVariables false

theorem own : ownKnob Try.prog.godebug = none := by kernel_rfl

/-- Both are alike. -/
structure PR (w wr : World) (sb bb N : Nat) (T : Nat → Ent) (B : Nat) (v : Value) : Prop where
  bel : Below w.heap.size w wr
  tlb : TlbAt wr sb bb N T
  doc : DocAt wr B v N T
  far : w.heap.size ≤ bb ∧ bb < B ∧ B ≤ wr.heap.size
/-! ### The walk -/
set_option maxHeartbeats 4000000 in
set_option maxRecDepth 100000 in
theorem walk (w : World) (a0 : Int) (w0 : (Lit.int .i64 a0).wf = true) (s1 : Option Addr) (len1 cap1 : Nat) (w1 : IsDeeds w s1 len1 cap1) :
    Calls Try.prog 3 #[.int .i64 a0, .slice s1 len1 cap1] w fun e w' => e = .returned (.bool true) ∧ Below w.heap.size w w' := by
  obtain ⟨x0, x1⟩ := bounds_i64 w0
  have w1' := w1
  have hlen : len1 ≤ 9223372036854775807 := by
    rcases w1 with ⟨_, h⟩ | ⟨_, _, h1, h2, _⟩
    · omega
    · unfold maxLen at h2; omega
  clear w0 w1
  have HLV := Lib.hid (fun W => lives_any W)
  have main : ∀ (a : Int) (W : World), Calls Try.prog 10 #[.int .i64 a] W fun e w' => e = .returned (.pointer (some ⟨W.heap.size + 1, 0, none⟩)) ∧ TlbAt w' (W.heap.size + 1) W.heap.size (newN a) (fun _ => Ent.zero) ∧ Below W.heap.size W w' ∧ W.heap.size + 2 ≤ w'.heap.size := fun a W => new_any a W
  have main := Lib.hid main
  by_cases hn : 10 < a0
  · go_enter Try.func3, Try.ntmps3
    go_wp2_with fail
    refine (main.out _ _).mono ?_; rintro e W0 ⟨rfl, h0, b0, s0⟩
    have RN := Lib.hid (fun (a : Int) W => rnew_any a W)
    generalize hN : newN _ = N at *
    replace hN := Lib.hid hN
    go_wp2_with fail
    refine (RN.out _ _).mono ?_; rw [hN.out]; rintro e W1 ⟨v0, rfl, hd1, hb1⟩
    have P0 : PR w W1 (w.heap.size + 1) w.heap.size N (fun _ => Ent.zero) W0.heap.size v0 := ⟨b0.trans (hb1.mono b0.size), h0.low hb1, hd1, ⟨Nat.le_refl _, by omega, hb1.size⟩⟩
    clear RN h0 b0 hd1 hb1 s0 main hN
    generalize W0.heap.size = B at *
    go_wp2_with fail
    go_loopw [6, 7] (fun v i wr => ∃ (j : Nat) (T : Nat → Ent), i = .int .i64 (j : Int) ∧ j ≤ 40 ∧ PR w wr (w.heap.size + 1) w.heap.size N T B v) (fun _ i _ => 40 - (intOf i).toNat)
    case atStart => exact ⟨0, _, rfl, by omega, P0⟩
    case round =>
      clear P0
      obtain ⟨j, T, rfl, hj, P⟩ := hrel
      by_cases h1 : (j : Int) < (len1 : Int)
      · by_cases h2 : (j : Int) < 40
        · obtain ⟨b, o, off, d, rfl, ho, hlc, hcm, hd, hc⟩ := deeds_at w1' j (by omega)
          unfold maxLen at hcm
          have hcl : ∀ {b o : Nat} {v : Value}, w.cell? ⟨b, o, none⟩ = some v → wr.cell? ⟨b, o, none⟩ = some v := fun {b o v} hc => (P.bel.cell (p := ⟨b, o, none⟩) (lt_cell hc)).trans hc
          obtain ⟨c0, c1, c2, c3, c4, c5, c6, c7, c8, c9, c10, c11, c12, c13, c14, c15⟩ := hc
          replace c0 := hcl c0; replace c1 := hcl c1; replace c2 := hcl c2; replace c3 := hcl c3; replace c4 := hcl c4; replace c5 := hcl c5; replace c6 := hcl c6; replace c7 := hcl c7; replace c8 := hcl c8; replace c9 := hcl c9; replace c10 := hcl c10; replace c11 := hcl c11; replace c12 := hcl c12; replace c13 := hcl c13; replace c14 := hcl c14; replace c15 := hcl c15
          have hAE : (⟨b, off, none⟩ : Addr).add (j * 16) = ⟨b, o, none⟩ := by rw [← ho]; unfold Addr.add; split <;> simp_all
          clear hcl
          have DA := Lib.hid (does_any d hd wr P.tlb P.doc P.tlb.ok.wf P.far.2.1 P.far.2.2)
          go_wp2_with fail
          refine DA.out.mono ?_; rintro r w5 ⟨v5, b5, rfl, ht5, hd5, tn5, hb5⟩
          obtain rfl := hb5 rfl
          have P5 : PR w w5 (w.heap.size + 1) w.heap.size N (act T N d) B v5 := ⟨P.bel.trans (tn5.to_below (Nat.le_refl _) P.bel.size), ht5, hd5, ⟨P.far.1, P.far.2.1, Nat.le_trans P.far.2.2 tn5.size⟩⟩
          clear DA ht5 hd5 tn5 hb5 P c0 c1 c2 c3 c4 c5 c6 c7 c8 c9 c10 c11 c12 c13 c14 c15
          go_wp2_with fail
          refine (like_any w5 P5.tlb P5.doc).mono ?_; rintro r w6 ⟨rfl, hb6⟩
          have P6 : PR w w6 (w.heap.size + 1) w.heap.size N (act T N d) B v5 := ⟨P5.bel.trans (hb6.mono P5.bel.size), P5.tlb.low hb6, doc_below P5.doc hb6, ⟨P5.far.1, P5.far.2.1, Nat.le_trans P5.far.2.2 hb6.size⟩⟩
          clear P5 hb6
          go_wp2_with fail
          go_roundw
          case rel => exact ⟨j + 1, _, by go_num, by omega, P6⟩
          case measure => simp [intOf]; omega
        · go_wp2_with fail
          refine (HLV.out _).mono ?_; rintro r w9 ⟨rfl, hb9⟩
          go_wp2_with fail
          go_ret
          exact ⟨rfl, P.bel.trans (hb9.mono P.bel.size)⟩
      · go_wp2_with fail
        refine (HLV.out _).mono ?_; rintro r w9 ⟨rfl, hb9⟩
        go_wp2_with fail
        go_ret
        exact ⟨rfl, P.bel.trans (hb9.mono P.bel.size)⟩
  · go_enter Try.func3, Try.ntmps3
    go_wp2_with fail
    refine (main.out _ _).mono ?_; rintro e W0 ⟨rfl, h0, b0, s0⟩
    have RN := Lib.hid (fun (a : Int) W => rnew_any a W)
    generalize hN : newN _ = N at *
    replace hN := Lib.hid hN
    go_wp2_with fail
    refine (RN.out _ _).mono ?_; rw [hN.out]; rintro e W1 ⟨v0, rfl, hd1, hb1⟩
    have P0 : PR w W1 (w.heap.size + 1) w.heap.size N (fun _ => Ent.zero) W0.heap.size v0 := ⟨b0.trans (hb1.mono b0.size), h0.low hb1, hd1, ⟨Nat.le_refl _, by omega, hb1.size⟩⟩
    clear RN h0 b0 hd1 hb1 s0 main hN
    generalize W0.heap.size = B at *
    go_wp2_with fail
    go_loopw [6, 7] (fun v i wr => ∃ (j : Nat) (T : Nat → Ent), i = .int .i64 (j : Int) ∧ j ≤ 40 ∧ PR w wr (w.heap.size + 1) w.heap.size N T B v) (fun _ i _ => 40 - (intOf i).toNat)
    case atStart => exact ⟨0, _, rfl, by omega, P0⟩
    case round =>
      clear P0
      obtain ⟨j, T, rfl, hj, P⟩ := hrel
      by_cases h1 : (j : Int) < (len1 : Int)
      · by_cases h2 : (j : Int) < 40
        · obtain ⟨b, o, off, d, rfl, ho, hlc, hcm, hd, hc⟩ := deeds_at w1' j (by omega)
          unfold maxLen at hcm
          have hcl : ∀ {b o : Nat} {v : Value}, w.cell? ⟨b, o, none⟩ = some v → wr.cell? ⟨b, o, none⟩ = some v := fun {b o v} hc => (P.bel.cell (p := ⟨b, o, none⟩) (lt_cell hc)).trans hc
          obtain ⟨c0, c1, c2, c3, c4, c5, c6, c7, c8, c9, c10, c11, c12, c13, c14, c15⟩ := hc
          replace c0 := hcl c0; replace c1 := hcl c1; replace c2 := hcl c2; replace c3 := hcl c3; replace c4 := hcl c4; replace c5 := hcl c5; replace c6 := hcl c6; replace c7 := hcl c7; replace c8 := hcl c8; replace c9 := hcl c9; replace c10 := hcl c10; replace c11 := hcl c11; replace c12 := hcl c12; replace c13 := hcl c13; replace c14 := hcl c14; replace c15 := hcl c15
          have hAE : (⟨b, off, none⟩ : Addr).add (j * 16) = ⟨b, o, none⟩ := by rw [← ho]; unfold Addr.add; split <;> simp_all
          clear hcl
          have DA := Lib.hid (does_any d hd wr P.tlb P.doc P.tlb.ok.wf P.far.2.1 P.far.2.2)
          go_wp2_with fail
          refine DA.out.mono ?_; rintro r w5 ⟨v5, b5, rfl, ht5, hd5, tn5, hb5⟩
          obtain rfl := hb5 rfl
          have P5 : PR w w5 (w.heap.size + 1) w.heap.size N (act T N d) B v5 := ⟨P.bel.trans (tn5.to_below (Nat.le_refl _) P.bel.size), ht5, hd5, ⟨P.far.1, P.far.2.1, Nat.le_trans P.far.2.2 tn5.size⟩⟩
          clear DA ht5 hd5 tn5 hb5 P c0 c1 c2 c3 c4 c5 c6 c7 c8 c9 c10 c11 c12 c13 c14 c15
          go_wp2_with fail
          refine (like_any w5 P5.tlb P5.doc).mono ?_; rintro r w6 ⟨rfl, hb6⟩
          have P6 : PR w w6 (w.heap.size + 1) w.heap.size N (act T N d) B v5 := ⟨P5.bel.trans (hb6.mono P5.bel.size), P5.tlb.low hb6, doc_below P5.doc hb6, ⟨P5.far.1, P5.far.2.1, Nat.le_trans P5.far.2.2 hb6.size⟩⟩
          clear P5 hb6
          go_wp2_with fail
          go_roundw
          case rel => exact ⟨j + 1, _, by go_num, by omega, P6⟩
          case measure => simp [intOf]; omega
        · go_wp2_with fail
          refine (HLV.out _).mono ?_; rintro r w9 ⟨rfl, hb9⟩
          go_wp2_with fail
          go_ret
          exact ⟨rfl, P.bel.trans (hb9.mono P.bel.size)⟩
      · go_wp2_with fail
        refine (HLV.out _).mono ?_; rintro r w9 ⟨rfl, hb9⟩
        go_wp2_with fail
        go_ret
        exact ⟨rfl, P.bel.trans (hb9.mono P.bel.size)⟩

/-! ### The row -/
set_option maxRecDepth 100000 in
theorem lifted (os : Os) (started : os.Started) (H : Type) (enc : TypeId × Value → H) :
    ReturnsInHanded {} Try.checked os 3 .any (Rows.tlbPlaysSpec.pre6 enc Try.prog Try.f3 Rows.tlbPlaysRow.domain false) (Rows.tlbPlaysSpec.post enc Try.prog Try.f3 false true false false) := by
  refine returnsInHanded_of_change (C := Try.checked) own started (by kernel_rfl) Try.func3
    (ChangeSpec.witness6 (enc := enc) (C := Try.checked) false ⟨#[], #[.int .i64 0, .slice none 0 0], []⟩ 8 (by kernel_rfl) (by kernel_rfl) (by kernel_rfl) (by kernel_rfl)) ?_
  intro W base args ds gs before hval0 hW hcnd _
  have hval : ∀ (j : Nat) t v, Try.f3.params[j]? = some t → args[j]? = some v → Value.okWide Try.prog W .any base t v := hval0
  have hW' := hW
  obtain ⟨p, q, hA0, hV, rfl, hfz, hnd⟩ := hW
  have hA : DataW.TrodAll enc Try.prog W 0 (fun _ => true) true Try.f3.params.toList args.toList ds p := hA0
  rw [Try.params3] at hA hval
  obtain ⟨v0, vs0, d0, ds0, p0, q0, hargs, rfl, rfl, h0, r0⟩ := trodAll_cons hA
  obtain ⟨v1, vs1, d1, ds1, p1, q1, rfl, rfl, rfl, h1, r1⟩ := trodAll_cons r0
  obtain ⟨rfl, rfl, rfl⟩ := trodAll_nil r1
  obtain rfl : args = #[v0, v1] := by cases args; simp_all
  obtain ⟨rfl, rfl⟩ := trodVars_none hV
  obtain ⟨a0, rfl, rfl, rfl, w0⟩ := open_int Try.underlying3 (hval 0 3 v0 rfl rfl) h0
  obtain ⟨s1, len1, cap1, rfl⟩ := okWide_slice Try.underlying22 (hval 1 22 v1 rfl rfl)
  have k1 := h1
  have lt1 : ∀ x ∈ p1, x.block < W.heap.size := by obtain ⟨m, hm⟩ := k1; exact DataW.trod_lt m _ _ _ hm
  have w1 : IsDeeds W s1 len1 cap1 := by
    obtain ⟨fuel, hf⟩ := h1
    exact open_deeds hf
  clear hA0 hval0
  simp only [List.append_nil] at hW'
  refine (walk W a0 w0 s1 len1 cap1 w1).mono fun e W' ⟨he, hg⟩ => ?_
  subst he
  exact ⟨_, rfl, _, _, _, [], _, [], hW', trodAll_mk1 (shut_bool Try.underlying4 _), (trodAll_cons_mk (shut_int Try.underlying3 w0) (trodAll_cons_mk (Below.trod laidOut (by kernel_rfl) (of_decide_eq_true (by kernel_rfl)) k1 hg lt1) trodAll_mk0)), rfl, hg.frame _, fun h => by cases h⟩

theorem over : Rows.tlbPlaysRow.holds Try.pinned (OpenSpec.ofChange Rows.tlbPlaysSpec) :=
  OpenClaim.holds_of_wide 3 Try.f3 rfl rfl rfl rfl rfl rfl rfl ⟨rfl, rfl, rfl, rfl, rfl⟩ rfl rfl rfl rfl rfl (by kernel_rfl) Try.func3 (by kernel_rfl)
    (of_decide_eq_true (by kernel_rfl)) (by unfold Func.isWrapper; first | (rw [if_pos (by decide +kernel)]; kernel_rfl) | (rw [if_neg (by decide +kernel)]; exact ⟨rfl, rfl⟩))
    (fun os started H enc _ => lifted os started H enc)

theorem proved : Rows.TlbPlaysSaid :=
  over
#print axioms proved
end Go.Proofs.Ytbhpljjogmagoaa.tlbPlays
