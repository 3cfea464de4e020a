/-
  RegsMisses: behind any deeds, for any unit, address and context the law returns true, and its arguments read as before. Conditions: the table of what registers are like holds what the program lays (the card ties it).
-/
import Derived.Test.YtohcmijgakijfaaDoorCards
import Derived.Test.YtohcmijgakijfaaDoorTie
import Derived.WalkKit
import Derived.ProofKit
import Derived.OpenShut
import Derived.Deep.DeepHandedRow
import Derived.Test.YtohcmijgakijfaaDoorRLoop
namespace Go.Proofs.YtohcmijgakijfaaDoor.regsMisses
open Fld Rg
open Go.ChangeShapes Go.WideShapes Go.ChangeAt Go.RowKit Go.Deep
set_option linter.unusedVariables false

theorem own : ownKnob Tryd.prog.godebug = none := by kernel_rfl

theorem misR_val (R : Reg) (u va c : Int) (hu : u = 0 ∨ u = 1) (h0 : 0 ≤ c) (h1 : c < 8192) :
    misE u c = 0 ∧ regV (misR R u va c) (80 + 8 * u) 48 = va / 8192 * 8192 + c ∧ regV (misR R u va c) (80 + 8 * u) 0 = tgtI (va / 8192 * 8192 + c) ∧ regE (80 + 8 * u) 48 = 0 ∧ regE (80 + 8 * u) 0 = 0 := by
  have hE : misE u c = 0 := by unfold misE uB; rw [if_pos ⟨by simpa using hu, h0, by omega⟩]
  refine ⟨hE, ?_⟩
  unfold misR
  rw [hE]
  rcases hu with rfl | rfl <;> exact ⟨rfl, rfl, rfl, rfl⟩
theorem tgt_miss (va c : Int) (h0 : 0 ≤ c) (h1 : c < 8192) : tgtI (va / 8192 * 8192 + c) = c * 281474976710656 + va / 4194304 := by unfold tgtI; omega
/-! ### The walk -/
set_option maxHeartbeats 8000000 in
set_option maxRecDepth 100000 in
theorem walk (w : World) (hT : Tab w) (s0 : Option Addr) (len0 cap0 : Nat) (w0 : IsDeeds w s0 len0 cap0) (a1 : Int) (w1 : (Lit.int .i64 a1).wf = true) (a2 : Int) (w2 : (Lit.int .u64 a2).wf = true) (a3 : Int) (w3 : (Lit.int .i64 a3).wf = true) :
    Calls Tryd.prog 6 #[.slice s0 len0 cap0, .int .i64 a1, .int .u64 a2, .int .i64 a3] w fun e w' => e = .returned (.bool true) ∧ Below w.heap.size w w' := by
  obtain ⟨p0, p1⟩ := bounds_i64 w1
  have hv : U a2 := bounds_u64 w2
  obtain ⟨q0, q1⟩ := bounds_i64 w3
  obtain ⟨v0, v1⟩ := hv
  have hv : U a2 := ⟨v0, v1⟩
  have w0' := w0
  have hlen : len0 ≤ 9223372036854775807 := by
    rcases w0 with ⟨_, h⟩ | ⟨_, _, h1, h2, _⟩
    · omega
    · unfold maxLen at h2; omega
  clear w0 w1 w2 w3
  have bu := nrm_bd a1 2 (by decide)
  have bc := nrm_bd a3 8192 (by decide)
  obtain ⟨u, hu⟩ : ∃ x, nrm a1 2 = x := ⟨_, rfl⟩
  obtain ⟨c, hc⟩ : ∃ x, nrm a3 8192 = x := ⟨_, rfl⟩
  rw [hu] at bu
  rw [hc] at bc
  obtain ⟨bc0, bc1⟩ := bc
  obtain ⟨bu0, bu1⟩ := bu
  have wc : IntKind.u64.wrap c = c := by rw [IntKind.wrap_u64]; omega
  have MV := Lib.hid (fun R => misR_val R u a2 c (by omega) bc0 bc1)
  have MT := Lib.hid (tgt_miss a2 c bc0 bc1)
  have EU := Lib.hid (show (a1 < 0 → -((a1 + 1).tmod 2) = u) ∧ (¬ a1 < 0 → a1 % 2 = u) from ⟨fun h => (nrm_neg _ _ h).trans hu, fun h => (nrm_pos _ _ h).trans hu⟩)
  have EC := Lib.hid (show (a3 < 0 → -((a3 + 1).tmod 8192) = c) ∧ (¬ a3 < 0 → a3 % 8192 = c) from ⟨fun h => (nrm_neg _ _ h).trans hc, fun h => (nrm_pos _ _ h).trans hc⟩)
  clear hu hc
  have NW := Lib.hid (new_any w hT)
  go_enter Tryd.func6, Tryd.ntmps6
  go_wp2_with fail
  refine NW.out.mono ?_; rintro r x1 ⟨rfl, H1, B1⟩
  have P1 := PK.new H1 B1
  clear NW H1 B1
  go_wp2_with fail
  have P2 := PX.start P1
  clear P1
  generalize World.alloc x1 _ = X2 at P2 ⊢
  generalize x1.heap.size = xb at P2 ⊢
  go_loopw [11] (fun i wr => ∃ (j : Nat) (R : Reg), i = .int .i64 (j : Int) ∧ j ≤ 20 ∧ PX w wr (w.heap.size + 1) w.heap.size xb R) (fun i _ => 20 - (intOf i).toNat)
  case atStart => exact ⟨0, _, rfl, by omega, P2⟩
  case round =>
    clear P2
    obtain ⟨j, R, rfl, hj, P⟩ := hrel
    by_cases h1 : (j : Int) < (len0 : Int)
    · by_cases h2 : (j : Int) < 20
      · obtain ⟨b, o, off, d, rfl, ho, hlc, hcm, hd, hbl, hc⟩ := deeds_at w0' j (by omega)
        unfold maxLen at hcm
        have hAE : (⟨b, off, none⟩ : Addr).add (j * 8) = ⟨b, o, none⟩ := by rw [← ho]; unfold Addr.add; split <;> simp_all
        have PD := P.drew
        have SD := old_deed PD.pk.bel hbl hc
        obtain ⟨x0, x1, x2, x3, x4, x5, x6, x7, x8⟩ := nine_cells P.box
        go_wp2_with fail
        refine wp_region_held_drew (S := fun w9 => w9.cell? ⟨b, o, none⟩ = some (.int .i64 d.kind) ∧ w9.cell? ⟨b, o + 1, none⟩ = some (.int .i64 d.asi) ∧ w9.cell? ⟨b, o + 2, none⟩ = some (.int .i64 d.unit) ∧ w9.cell? ⟨b, o + 3, none⟩ = some (.int .i64 d.n) ∧ w9.cell? ⟨b, o + 4, none⟩ = some (.int .u64 d.place) ∧ w9.cell? ⟨b, o + 5, none⟩ = some (.int .u64 d.v) ∧ w9.cell? ⟨b, o + 6, none⟩ = some (.bool d.store) ∧ w9.cell? ⟨b, o + 7, none⟩ = some (.bool d.priv)) (by kernel_rfl) SD (fun hHeld => ?_)
        refine wpAnyH_take (i := 0) (v := ?vra0) rfl (by kernel_rfl) (by kernel_rfl) (by kernel_rfl) (fun _ _ _ h => h) (Or.inl ⟨by rfl, ?hyra0⟩) (by assumption) ?restra0
        case hyra0 => (intro w hSw; (try dsimp only at hSw); go_simp <;> (with_reducible rfl))
        (try simp only [Act.put, List.setIfInBounds_toArray, List.set_cons_zero, List.set_cons_succ, List.getElem_toArray, List.getElem_cons_zero])
        refine wpAnyH_take (i := 2) (v := ?vra2) rfl (by kernel_rfl) (by kernel_rfl) (by kernel_rfl) (fun _ _ _ h => h) (Or.inl ⟨by rfl, ?hyra2⟩) (by assumption) ?restra2
        case hyra2 => (intro w hSw; (try dsimp only at hSw); go_simp <;> (with_reducible rfl))
        (try simp only [Act.put, List.setIfInBounds_toArray, List.set_cons_zero, List.set_cons_succ, List.getElem_toArray, List.getElem_cons_zero, List.getElem_cons_succ])
        refine wpAnyH_take (i := 3) (v := ?vra3) rfl (by kernel_rfl) (by kernel_rfl) (by kernel_rfl) (fun _ _ _ h => h) (Or.inl ⟨by rfl, ?hyra3⟩) (by assumption) ?restra3
        case hyra3 => (intro w hSw; (try dsimp only at hSw); go_simp <;> (with_reducible rfl))
        (try simp only [Act.put, List.setIfInBounds_toArray, List.set_cons_zero, List.set_cons_succ, List.getElem_toArray, List.getElem_cons_zero, List.getElem_cons_succ])
        refine wpAnyH_take (i := 4) (v := ?vra4) rfl (by kernel_rfl) (by kernel_rfl) (by kernel_rfl) (fun _ _ _ h => h) (Or.inl ⟨by rfl, ?hyra4⟩) (by assumption) ?restra4
        case hyra4 => (intro w hSw; (try dsimp only at hSw); go_simp <;> (with_reducible rfl))
        (try simp only [Act.put, List.setIfInBounds_toArray, List.set_cons_zero, List.set_cons_succ, List.getElem_toArray, List.getElem_cons_zero, List.getElem_cons_succ])
        refine wpAnyH_take (i := 5) (v := ?vra5) rfl (by kernel_rfl) (by kernel_rfl) (by kernel_rfl) (fun _ _ _ h => h) (Or.inl ⟨by rfl, ?hyra5⟩) (by assumption) ?restra5
        case hyra5 => (intro w hSw; (try dsimp only at hSw); go_simp <;> (with_reducible rfl))
        (try simp only [Act.put, List.setIfInBounds_toArray, List.set_cons_zero, List.set_cons_succ, List.getElem_toArray, List.getElem_cons_zero, List.getElem_cons_succ])
        refine wpAnyH_ready (rs := [1]) (by kernel_rfl) (by simp) ?_
        refine AllReadyH.cons rfl (fun K hK => ?_) AllReadyH.nil
        go_simp
        (try go_simp)
        refine hK.out _ _ (SD) (fun hHeld => ?_)
        clear hK K
        (try simp only [Act.put, List.setIfInBounds_toArray, List.set_cons_zero, List.set_cons_succ, List.getElem_toArray, List.getElem_cons_zero, List.getElem_cons_succ])
        refine wpAnyH_ready (rs := [6]) (by kernel_rfl) (by simp) ?_
        refine AllReadyH.cons rfl (fun K hK => ?_) AllReadyH.nil
        go_simp
        refine (does_any d hd _ PD.pk.regs).mono ?_
        rintro r w5 ⟨rfl, T5⟩
        have P5 := PD.does T5
        have FR := P5.cells
        obtain ⟨y0, y1, y2, y3, y4, y5, y6, y7, y8⟩ := nine_cells P5.box
        (try go_simp)
        refine hK.out _ _ (old_deed P5.pk.bel hbl hc) (fun hHeld => ?_)
        clear hK K
        (try simp only [Act.put, List.setIfInBounds_toArray, List.set_cons_zero, List.set_cons_succ, List.getElem_toArray, List.getElem_cons_zero, List.getElem_cons_succ])
        refine wpAnyH_take (i := 7) (v := ?vrb7) rfl (by kernel_rfl) (by kernel_rfl) (by kernel_rfl) (fun _ _ _ h => h) (Or.inl ⟨by rfl, ?hyrb7⟩) (by assumption) ?restrb7
        case hyrb7 => (intro w hSw; (try dsimp only at hSw); go_simp <;> (with_reducible rfl))
        (try simp only [Act.put, List.setIfInBounds_toArray, List.set_cons_zero, List.set_cons_succ, List.getElem_toArray, List.getElem_cons_zero, List.getElem_cons_succ])
        refine wpAnyH_take (i := 8) (v := ?vrb8) rfl (by kernel_rfl) (by kernel_rfl) (by kernel_rfl) (fun _ _ _ h => h) (Or.inl ⟨by rfl, ?hyrb8⟩) (by assumption) ?restrb8
        case hyrb8 => (intro w hSw; (try dsimp only at hSw); go_simp <;> (with_reducible rfl))
        (try simp only [Act.put, List.setIfInBounds_toArray, List.set_cons_zero, List.set_cons_succ, List.getElem_toArray, List.getElem_cons_zero, List.getElem_cons_succ])
        refine wpAnyH_take (i := 9) (v := ?vrb9) rfl (by kernel_rfl) (by kernel_rfl) (by kernel_rfl) (fun _ _ _ h => h) (Or.inl ⟨by rfl, ?hyrb9⟩) (by assumption) ?restrb9
        case hyrb9 => (intro w hSw; (try dsimp only at hSw); go_simp <;> (with_reducible rfl))
        (try simp only [Act.put, List.setIfInBounds_toArray, List.set_cons_zero, List.set_cons_succ, List.getElem_toArray, List.getElem_cons_zero, List.getElem_cons_succ])
        have P6 := P5.put
        refine wpAnyH_ready (rs := [10]) (by kernel_rfl) (by simp) ?_
        refine AllReadyH.cons rfl (fun K hK => ?_) AllReadyH.nil
        go_simp
        (try go_simp)
        refine hK.out _ _ (old_deed P6.pk.bel hbl hc) (fun hHeld => ?_)
        clear hK K
        (try simp only [Act.put, List.setIfInBounds_toArray, List.set_cons_zero, List.set_cons_succ, List.getElem_toArray, List.getElem_cons_zero, List.getElem_cons_succ])
        refine wpAnyH_done (by kernel_rfl) ?_ _
        clear hHeld x0 x1 x2 x3 x4 x5 x6 x7 x8 y0 y1 y2 y3 y4 y5 y6 y7 y8 FR P5 T5 SD PD P
        go_wp2_with fail
        go_roundw
        case rel => exact ⟨j + 1, _, by go_num, by omega, P6⟩
        case measure => simp [intOf]; omega
      · skip
        by_cases sa : a1 < 0 <;> by_cases sb : a3 < 0
        all_goals
          first | (have e1 := EU.out.1 sa) | (have e1 := EU.out.2 (by omega))
          first | (have e3 := EC.out.1 sb) | (have e3 := EC.out.2 (by omega))
          clear EU EC
          have P0 := P.pk
          clear P w0' hT
          go_wp2_with fail
          refine (miss_any _ _ R u a2 c hv (by omega) (by omega) _ P0.regs).mono ?_; rintro r y2 ⟨rfl, T2⟩
          have P2 := P0.to T2
          rw [(MV.out R).1]
          clear P0 T2
          go_wp2_with fail
          refine (read_any _ _ _ (80 + 8 * u) 48 (wfI (by omega) (by omega)) (by decide) _ P2.regs).mono ?_; rintro r y3 ⟨rfl, c3⟩
          have P3 := P2.call c3
          rw [(MV.out R).2.1, (MV.out R).2.2.2.1]
          clear P2 c3
          go_wp2_with fail
          refine (read_any _ _ _ (80 + 8 * u) 0 (wfI (by omega) (by omega)) (by decide) _ P3.regs).mono ?_; rintro r y4 ⟨rfl, c4⟩
          have P4 := P3.call c4
          rw [(MV.out R).2.2.1, (MV.out R).2.2.2.2, MT.out]
          clear P3 c4 MV MT
          go_wp2_with fail
          refine (lives_any _ P4.tab).mono ?_; rintro r y5 ⟨rfl, c5⟩
          go_wp2_with fail
          go_ret
          exact ⟨rfl, (P4.call c5).bel⟩
    · skip
      by_cases sa : a1 < 0 <;> by_cases sb : a3 < 0
      all_goals
        first | (have e1 := EU.out.1 sa) | (have e1 := EU.out.2 (by omega))
        first | (have e3 := EC.out.1 sb) | (have e3 := EC.out.2 (by omega))
        clear EU EC
        have P0 := P.pk
        clear P w0' hT
        go_wp2_with fail
        refine (miss_any _ _ R u a2 c hv (by omega) (by omega) _ P0.regs).mono ?_; rintro r y2 ⟨rfl, T2⟩
        have P2 := P0.to T2
        rw [(MV.out R).1]
        clear P0 T2
        go_wp2_with fail
        refine (read_any _ _ _ (80 + 8 * u) 48 (wfI (by omega) (by omega)) (by decide) _ P2.regs).mono ?_; rintro r y3 ⟨rfl, c3⟩
        have P3 := P2.call c3
        rw [(MV.out R).2.1, (MV.out R).2.2.2.1]
        clear P2 c3
        go_wp2_with fail
        refine (read_any _ _ _ (80 + 8 * u) 0 (wfI (by omega) (by omega)) (by decide) _ P3.regs).mono ?_; rintro r y4 ⟨rfl, c4⟩
        have P4 := P3.call c4
        rw [(MV.out R).2.2.1, (MV.out R).2.2.2.2, MT.out]
        clear P3 c4 MV MT
        go_wp2_with fail
        refine (lives_any _ P4.tab).mono ?_; rintro r y5 ⟨rfl, c5⟩
        go_wp2_with fail
        go_ret
        exact ⟨rfl, (P4.call c5).bel⟩

/-! ### The row -/
theorem contract (H : Type) (enc : TypeId × Value → H) (W : World) (base : Nat) (args : Array Value) (ds gs : List (DataW H)) (before : List MemPlace)
    (hval : ∀ (j : Nat) t v, Tryd.f6.params[j]? = some t → args[j]? = some v → Value.okWide Tryd.prog W .any base t v)
    (hW : DataW.Whole enc Tryd.prog Tryd.f6.params.toList Rows.regsMissesSpec.vars false W args.toList ds gs before) (hL : laidMetH Tryd.prog Rows.regsMissesRow.laid W) :
    Calls Tryd.prog 6 args W fun e W' => ∃ v, e = .returned v ∧ Rows.regsMissesSpec.post enc Tryd.prog Tryd.f6 false true false false W args v W' := by
  have hW' := hW
  obtain ⟨p, q, hA0, hV, rfl, hfz, hnd⟩ := hW
  have hA : DataW.TrodAll enc Tryd.prog W 0 (fun _ => true) true Tryd.f6.params.toList args.toList ds p := hA0
  rw [Tryd.params6] at hA hval
  obtain ⟨v0, vs0, d0, ds0, p0, q0, hargs, rfl, rfl, h0, r0⟩ := trodAll_cons hA
  obtain ⟨v1, vs1, d1, ds1, p1, q1, rfl, rfl, rfl, h1, r1⟩ := trodAll_cons r0
  obtain ⟨v2, vs2, d2, ds2, p2, q2, rfl, rfl, rfl, h2, r2⟩ := trodAll_cons r1
  obtain ⟨v3, vs3, d3, ds3, p3, q3, rfl, rfl, rfl, h3, r3⟩ := trodAll_cons r2
  obtain ⟨rfl, rfl, rfl⟩ := trodAll_nil r3
  obtain rfl : args = #[v0, v1, v2, v3] := by cases args; simp_all
  obtain ⟨rfl, rfl⟩ := trodVars_none hV
  obtain ⟨s0, len0, cap0, rfl⟩ := okWide_slice Tryd.underlying22 (hval 0 22 v0 rfl rfl)
  have k0 := h0
  have lt0 : ∀ x ∈ p0, x.block < W.heap.size := by obtain ⟨m, hm⟩ := k0; exact DataW.trod_lt m _ _ _ hm
  have w0 : IsDeeds W s0 len0 cap0 := by
    obtain ⟨fuel, hf⟩ := h0
    exact open_deeds hf
  obtain ⟨a1, rfl, rfl, rfl, w1⟩ := open_int Tryd.underlying3 (hval 1 3 v1 rfl rfl) h1
  obtain ⟨a2, rfl, rfl, rfl, w2⟩ := open_int Tryd.underlying25 (hval 2 25 v2 rfl rfl) h2
  obtain ⟨a3, rfl, rfl, rfl, w3⟩ := open_int Tryd.underlying3 (hval 3 3 v3 rfl rfl) h3
  clear hA0
  simp only [List.append_nil] at hW'
  refine (walk W (tab_of hL) s0 len0 cap0 w0 a1 w1 a2 w2 a3 w3).mono fun e W' ⟨he, hg⟩ => ?_
  subst he
  exact ⟨_, rfl, _, _, _, [], _, [], hW', trodAll_mk1 (shut_bool Tryd.underlying4 _), (trodAll_cons_mk (Below.trod laidOut (by kernel_rfl) (of_decide_eq_true (by kernel_rfl)) k0 hg lt0) (trodAll_cons_mk (shut_int Tryd.underlying3 w1) (trodAll_cons_mk (shut_int Tryd.underlying25 w2) (trodAll_cons_mk (shut_int Tryd.underlying3 w3) trodAll_mk0)))), rfl, hg.frame _, fun h => by cases h⟩

/-- A world for the witness: the settled one, the table holding what its initialiser lays. -/
noncomputable def laidWorld (os : Os) : World :=
  { World.holding Tryd.prog os ⟨#[], #[], []⟩ with heap := (World.holding Tryd.prog os ⟨#[], #[], []⟩).heap.modify 0 fun
      | .cells _ t frozen => .cells #[.int .u64 0, .int .u64 0, .bool true, .int .u64 8, .int .u64 8191, .bool false, .int .u64 16, .int .u64 8191, .bool false, .int .u64 24, .int .u64 16728063, .bool true, .int .u64 32, .int .u64 0, .bool false, .int .u64 40, .int .u64 18446744073709547527, .bool true, .int .u64 48, .int .u64 18446744073709551615, .bool true] t frozen
      | o => o }
theorem laid_met (os : Os) : laidMet Tryd.prog Rows.regsMissesRow.laid ((laidWorld os).forCall (fun _ _ => 0) ⟨#[], #[.slice none 0 0, .int .i64 0, .int .u64 0, .int .i64 0], []⟩).memory :=
  laidMet_of_run' 8 (by kernel_rfl) (by kernel_rfl)
theorem reads (os : Os) {H : Type} (enc : TypeId × Value → H) : ∃ places, DataW.whole enc Tryd.prog ((laidWorld os).forCall (fun _ _ => 0) ⟨#[], #[.slice none 0 0, .int .i64 0, .int .u64 0, .int .i64 0], []⟩).memory Tryd.f6.params.toList Rows.regsMissesSpec.vars false (#[.slice none 0 0, .int .i64 0, .int .u64 0, .int .i64 0] : Array Value).toList 8 = some ([.nil, .lit (.int .i64 0), .lit (.int .u64 0), .lit (.int .i64 0)], [], places) :=
  ⟨[], by kernel_rfl⟩
set_option maxRecDepth 100000 in
theorem lifted (os : Os) (started : os.Started) (H : Type) (enc : TypeId × Value → H) (F : Stop.Interp) :
    ReturnsInHanded {} Tryd.checked os 6 .any ((OpenSpec.ofChange Rows.regsMissesSpec).preRow enc Tryd.prog Tryd.f6 Rows.regsMissesRow.domain false Rows.regsMissesRow.laid) (((OpenSpec.ofChange Rows.regsMissesSpec).at F).post enc Tryd.prog Tryd.f6 false true false false) := by
  obtain ⟨places, hx⟩ := reads os enc
  refine returnsInHanded_of_row (C := Tryd.checked) (s := OpenSpec.ofChange Rows.regsMissesSpec) own started (by kernel_rfl) Tryd.func6
    (witness_row_at (enc := enc) (C := Tryd.checked) false (laidWorld os) #[.slice none 0 0, .int .i64 0, .int .u64 0, .int .i64 0] rfl (by kernel_rfl) (by kernel_rfl) (by kernel_rfl)
      (OpenSpec.preRow_of_cond 8 hx (by kernel_rfl) (fun k hk => by cases hk) (by kernel_rfl) (laid_met os))) ?_
  intro W base args ds gs before hval hW _ _ _ hL _ _
  exact contract H enc W base args ds gs before hval hW hL
theorem said : Rows.RegsMissesSaid :=
  OpenClaim.holds_of_cond 6 Tryd.f6 rfl rfl rfl rfl rfl rfl rfl ⟨rfl, rfl, rfl, rfl, rfl⟩ rfl rfl rfl rfl rfl (by kernel_rfl) Tryd.func6 (by kernel_rfl)
    (of_decide_eq_true (by kernel_rfl)) (by unfold Func.isWrapper; first | (rw [if_pos (by decide +kernel)]; kernel_rfl) | (rw [if_neg (by decide +kernel)]; exact ⟨rfl, rfl⟩))
    (fun os started H enc _ F => by rw [OpenClaim.pre_eq_preRow]; exact lifted os started H enc F)
theorem plain (f : FuncId) (fn : Func) (hf : Tryd.pinned.checked.prog.funcNamed "lookaside/lookasidelaw07.RegsMisses" = some f) (hfn : Tryd.pinned.checked.prog.funcs[f]? = some fn) :
    false = Tryd.pinned.checked.prog.looks [] ∧ ∀ (j : Nat) t, fn.params[j]? = some t → Tryd.pinned.checked.prog.wantsStandIn t = false := by
  obtain rfl : f = 6 := Option.some.inj ((show Tryd.prog.funcNamed "lookaside/lookasidelaw07.RegsMisses" = some 6 by kernel_rfl).symm.trans hf) |>.symm
  obtain rfl : fn = Tryd.f6 := (Option.some.inj (Tryd.func6.symm.trans hfn)).symm
  refine ⟨by kernel_rfl, fun j t ht => ?_⟩
  rw [Tryd.params6] at ht
  have hm : t ∈ [22, 3, 25, 3] := by simpa using Array.mem_of_getElem? ht
  have hall : ([22, 3, 25, 3].all fun u => !Tryd.prog.wantsStandIn u) = true := by kernel_rfl
  exact (show Tryd.prog.wantsStandIn t = false by simpa using List.all_eq_true.1 hall t hm)
theorem proved : Rows.RegsMissesCardSaid :=
  Claim7.holds_tied_plain_at .later [] _ _ _ _ said (fun _ h => by cases h) (by kernel_rfl) (fun _ h => by cases h) regsMisses_row_tie rfl ⟨rfl, rfl⟩ (by kernel_rfl) rfl plain (by kernel_rfl)
#print axioms proved
end Go.Proofs.YtohcmijgakijfaaDoor.regsMisses
