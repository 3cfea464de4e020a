/-
  RegsOwn: behind any deeds, for any register and word the law returns true, and its arguments read as before. Conditions: the table of what registers are like holds what the program lays (the card ties it).
-/
import Derived.Test.YtohcmijgakijfaaDoorCards
import Derived.Test.YtohcmijgakijfaaDoorTie
import Derived.WalkKit
import Derived.ProofKit
import Derived.OpenShut
import Derived.Deep.DeepHandedRow
import Derived.Deep.CutBlock
import Derived.Deep.DeepCutAuto
import Derived.Test.YtohcmijgakijfaaDoorRLoop
namespace Go.Proofs.YtohcmijgakijfaaDoor.regsOwn
open Fld Rg
open Go.ChangeShapes Go.WideShapes Go.ChangeAt Go.RowKit Go.Deep
set_option linter.unusedVariables false

theorem own : ownKnob Tryd.prog.godebug = none := by kernel_rfl

theorem keep_keep (p v : Int) (h : p = 8 ∨ p = 16 ∨ p = 24 ∨ p = 40 ∨ p = 48) : keepI p (keepI p v) = keepI p v := by
  rcases h with rfl | rfl | rfl | rfl | rfl
  · show v % 8192 % 8192 = v % 8192; omega
  · show v % 8192 % 8192 = v % 8192; omega
  · show stI (stI v) = stI v; unfold stI; omega
  · show tsI (tsI v) = tsI v; unfold tsI; omega
  · rfl
theorem wr_rows {a p : Int} (h : wrE a p = 0) : (a = 80 ∧ (p = 24 ∨ p = 40 ∨ p = 48)) ∨ (a = 88 ∧ (p = 8 ∨ p = 16 ∨ p = 24 ∨ p = 40 ∨ p = 48)) := by
  cases hB : isB a p
  · unfold wrE at h; rw [hB] at h; cases h
  · unfold wrE at h; rw [hB] at h
    unfold isB at hB; rw [decide_eq_true_eq] at hB
    have h2 : ¬ (p = 0 ∨ p = 32) := by intro h3; rw [if_pos rfl, if_pos h3] at h; cases h
    omega
theorem wr_again (R : Reg) (a p v : Int) (h : wrE a p = 0) : regE a p = 0 ∧ wrR (wrR R a p v) a p (regV (wrR R a p v) a p) = wrR R a p v := by
  rcases wr_rows h with ⟨rfl, rfl | rfl | rfl⟩ | ⟨rfl, rfl | rfl | rfl | rfl | rfl⟩
  · refine ⟨rfl, ?_⟩
    show ({ R with sI := keepI 24 (keepI 24 v) } : Reg) = { R with sI := keepI 24 v }
    rw [keep_keep _ _ (by decide)]
  · refine ⟨rfl, ?_⟩
    show ({ R with tI := keepI 40 (keepI 40 v) } : Reg) = { R with tI := keepI 40 v }
    rw [keep_keep _ _ (by decide)]
  · refine ⟨rfl, ?_⟩
    show ({ R with aI := keepI 48 (keepI 48 v) } : Reg) = { R with aI := keepI 48 v }
    rw [keep_keep _ _ (by decide)]
  · refine ⟨rfl, ?_⟩
    show ({ R with pr := keepI 8 (keepI 8 v) } : Reg) = { R with pr := keepI 8 v }
    rw [keep_keep _ _ (by decide)]
  · refine ⟨rfl, ?_⟩
    show ({ R with se := keepI 16 (keepI 16 v) } : Reg) = { R with se := keepI 16 v }
    rw [keep_keep _ _ (by decide)]
  · refine ⟨rfl, ?_⟩
    show ({ R with sD := keepI 24 (keepI 24 v) } : Reg) = { R with sD := keepI 24 v }
    rw [keep_keep _ _ (by decide)]
  · refine ⟨rfl, ?_⟩
    show ({ R with tD := keepI 40 (keepI 40 v) } : Reg) = { R with tD := keepI 40 v }
    rw [keep_keep _ _ (by decide)]
  · refine ⟨rfl, ?_⟩
    show ({ R with aD := keepI 48 (keepI 48 v) } : Reg) = { R with aD := keepI 48 v }
    rw [keep_keep _ _ (by decide)]
/-- How many of two lists' first numbers differ. -/
def dif (A B : List Int) : Nat → Nat
  | 0 => 0
  | j + 1 => dif A B j + (if A.getD j 0 = B.getD j 0 then 0 else 1)
theorem dif_le (A B : List Int) : ∀ j, dif A B j ≤ j
  | 0 => Nat.le_refl _
  | j + 1 => by have := dif_le A B j; unfold dif; split <;> omega
theorem getD_at (A : List Int) (j : Nat) (h : j < A.length) : A.getD j 0 = A[j] := by
  rw [List.getD_eq_getElem?_getD, List.getElem?_eq_getElem h]; rfl
theorem dif_same {A B : List Int} {j : Nat} (h1 : j < A.length) (h2 : j < B.length) (h : A[j] = B[j]) : dif A B (j + 1) = dif A B j := by
  show dif A B j + _ = _
  rw [getD_at A j h1, getD_at B j h2, if_pos h]; rfl
theorem dif_other {A B : List Int} {j : Nat} (h1 : j < A.length) (h2 : j < B.length) (h : ¬ A[j] = B[j]) : dif A B (j + 1) = dif A B j + 1 := by
  show dif A B j + _ = _
  rw [getD_at A j h1, getD_at B j h2, if_neg h]
theorem dif_self (A : List Int) : ∀ j, dif A A j = 0
  | 0 => rfl
  | j + 1 => by unfold dif; rw [dif_self A j]; simp
theorem dif_put (R : Reg) (a p v : Int) (h : wrE a p = 0) : dif (allL R) (allL (wrR R a p v)) 11 ≤ (if p = 48 then 2 else 1) := by
  rcases wr_rows h with ⟨rfl, rfl | rfl | rfl⟩ | ⟨rfl, rfl | rfl | rfl | rfl | rfl⟩
  · show dif (allL R) (allL { R with sI := keepI 24 v }) 11 ≤ _
    simp only [dif, allL, List.getD_cons_zero, List.getD_cons_succ]
    simp
    repeat' split
    all_goals omega
  · show dif (allL R) (allL { R with tI := keepI 40 v }) 11 ≤ _
    simp only [dif, allL, List.getD_cons_zero, List.getD_cons_succ]
    simp
    repeat' split
    all_goals omega
  · show dif (allL R) (allL { R with aI := keepI 48 v }) 11 ≤ _
    simp only [dif, allL, List.getD_cons_zero, List.getD_cons_succ]
    simp
    repeat' split
    all_goals omega
  · show dif (allL R) (allL { R with pr := keepI 8 v }) 11 ≤ _
    simp only [dif, allL, List.getD_cons_zero, List.getD_cons_succ]
    simp
    repeat' split
    all_goals omega
  · show dif (allL R) (allL { R with se := keepI 16 v }) 11 ≤ _
    simp only [dif, allL, List.getD_cons_zero, List.getD_cons_succ]
    simp
    repeat' split
    all_goals omega
  · show dif (allL R) (allL { R with sD := keepI 24 v }) 11 ≤ _
    simp only [dif, allL, List.getD_cons_zero, List.getD_cons_succ]
    simp
    repeat' split
    all_goals omega
  · show dif (allL R) (allL { R with tD := keepI 40 v }) 11 ≤ _
    simp only [dif, allL, List.getD_cons_zero, List.getD_cons_succ]
    simp
    repeat' split
    all_goals omega
  · show dif (allL R) (allL { R with aD := keepI 48 v }) 11 ≤ _
    simp only [dif, allL, List.getD_cons_zero, List.getD_cons_succ]
    simp
    repeat' split
    all_goals omega
theorem allL_pos (R : Reg) : 0 < (allL R).length := Nat.succ_pos _
theorem isU_turn {w w' : World} {v : Value} {l : List Int} {g cap bm : Nat} (h : IsU w v l g cap) (t : Turn w w' bm) (hn : 0 < l.length) (hg : g ≠ bm) : IsU w' v l g cap := h.block (t.block g (h.lt hn) hg)
theorem isU_drewN {w : World} {v : Value} {l : List Int} {g cap : Nat} (h : IsU w v l g cap) (n : Nat) : IsU (w.drewN n) v l g cap := ⟨h.eq, h.le, h.max, h.at_⟩
/-! ### The walk -/
set_option maxHeartbeats 8000000 in
set_option maxRecDepth 100000 in
theorem walk (w : World) (hT : Tab w) (s0 : Option Addr) (len0 cap0 : Nat) (w0 : IsDeeds w s0 len0 cap0) (a1 : Int) (w1 : (Lit.int .i64 a1).wf = true) (a2 : Int) (w2 : (Lit.int .u64 a2).wf = true) (a3 : Int) (w3 : (Lit.int .u64 a3).wf = true) :
    Calls Tryd.prog 5 #[.slice s0 len0 cap0, .int .i64 a1, .int .u64 a2, .int .u64 a3] w fun e w' => e = .returned (.bool true) ∧ Below w.heap.size w w' := by
  obtain ⟨p0, p1⟩ := bounds_i64 w1
  have hv2 : U a2 := bounds_u64 w2
  have hv3 : U a3 := bounds_u64 w3
  have wf1 := Lib.hid w1
  have wf2 := Lib.hid w2
  have w0' := w0
  have hlen : len0 ≤ 9223372036854775807 := by
    rcases w0 with ⟨_, h⟩ | ⟨_, _, h1, h2, _⟩
    · omega
    · unfold maxLen at h2; omega
  clear w0 w1 w2 w3
  have NW := Lib.hid (new_any w hT)
  go_enter Tryd.func5, Tryd.ntmps5
  go_wp2_with fail
  refine NW.out.mono ?_; rintro r x1 ⟨rfl, H1, B1⟩
  have P1 := PK.new H1 B1
  clear NW H1 B1
  go_upto_block 0 with fail
  have P2 := PX.start P1
  clear P1
  generalize World.alloc x1 _ = X2 at P2 ⊢
  generalize x1.heap.size = xb at P2 ⊢
  go_cut [11] (fun _ wx => ∃ R : Reg, PK w wx (w.heap.size + 1) w.heap.size R)
  case first =>
    go_wp2_with fail
    go_loopw [11] (fun i wr => ∃ (j : Nat) (R : Reg), i = .int .i64 (j : Int) ∧ j ≤ 20 ∧ PX w wr (w.heap.size + 1) w.heap.size xb R) (fun i _ => 20 - (intOf i).toNat)
    case atStart => exact ⟨0, _, rfl, by omega, P2⟩
    case round =>
      clear P2
      obtain ⟨j, R, rfl, hj, P⟩ := hrel
      by_cases h1 : (j : Int) < (len0 : Int)
      · by_cases h2 : (j : Int) < 20
        · obtain ⟨b, o, off, d, rfl, ho, hlc, hcm, hd, hbl, hc⟩ := deeds_at w0' j (by omega)
          unfold maxLen at hcm
          have hAE : (⟨b, off, none⟩ : Addr).add (j * 8) = ⟨b, o, none⟩ := by rw [← ho]; unfold Addr.add; split <;> simp_all
          have PD := P.drew
          have SD := old_deed PD.pk.bel hbl hc
          obtain ⟨x0, x1, x2, x3, x4, x5, x6, x7, x8⟩ := nine_cells P.box
          go_wp2_with fail
          refine wp_region_held_drew (S := fun w9 => w9.cell? ⟨b, o, none⟩ = some (.int .i64 d.kind) ∧ w9.cell? ⟨b, o + 1, none⟩ = some (.int .i64 d.asi) ∧ w9.cell? ⟨b, o + 2, none⟩ = some (.int .i64 d.unit) ∧ w9.cell? ⟨b, o + 3, none⟩ = some (.int .i64 d.n) ∧ w9.cell? ⟨b, o + 4, none⟩ = some (.int .u64 d.place) ∧ w9.cell? ⟨b, o + 5, none⟩ = some (.int .u64 d.v) ∧ w9.cell? ⟨b, o + 6, none⟩ = some (.bool d.store) ∧ w9.cell? ⟨b, o + 7, none⟩ = some (.bool d.priv)) (by kernel_rfl) SD (fun hHeld => ?_)
          refine wpAnyH_take (i := 0) (v := ?vra0) rfl (by kernel_rfl) (by kernel_rfl) (by kernel_rfl) (fun _ _ _ h => h) (Or.inl ⟨by rfl, ?hyra0⟩) (by assumption) ?restra0
          case hyra0 => (intro w hSw; (try dsimp only at hSw); go_simp <;> (with_reducible rfl))
          (try simp only [Act.put, List.setIfInBounds_toArray, List.set_cons_zero, List.set_cons_succ, List.getElem_toArray, List.getElem_cons_zero])
          refine wpAnyH_take (i := 2) (v := ?vra2) rfl (by kernel_rfl) (by kernel_rfl) (by kernel_rfl) (fun _ _ _ h => h) (Or.inl ⟨by rfl, ?hyra2⟩) (by assumption) ?restra2
          case hyra2 => (intro w hSw; (try dsimp only at hSw); go_simp <;> (with_reducible rfl))
          (try simp only [Act.put, List.setIfInBounds_toArray, List.set_cons_zero, List.set_cons_succ, List.getElem_toArray, List.getElem_cons_zero, List.getElem_cons_succ])
          refine wpAnyH_take (i := 3) (v := ?vra3) rfl (by kernel_rfl) (by kernel_rfl) (by kernel_rfl) (fun _ _ _ h => h) (Or.inl ⟨by rfl, ?hyra3⟩) (by assumption) ?restra3
          case hyra3 => (intro w hSw; (try dsimp only at hSw); go_simp <;> (with_reducible rfl))
          (try simp only [Act.put, List.setIfInBounds_toArray, List.set_cons_zero, List.set_cons_succ, List.getElem_toArray, List.getElem_cons_zero, List.getElem_cons_succ])
          refine wpAnyH_take (i := 4) (v := ?vra4) rfl (by kernel_rfl) (by kernel_rfl) (by kernel_rfl) (fun _ _ _ h => h) (Or.inl ⟨by rfl, ?hyra4⟩) (by assumption) ?restra4
          case hyra4 => (intro w hSw; (try dsimp only at hSw); go_simp <;> (with_reducible rfl))
          (try simp only [Act.put, List.setIfInBounds_toArray, List.set_cons_zero, List.set_cons_succ, List.getElem_toArray, List.getElem_cons_zero, List.getElem_cons_succ])
          refine wpAnyH_take (i := 5) (v := ?vra5) rfl (by kernel_rfl) (by kernel_rfl) (by kernel_rfl) (fun _ _ _ h => h) (Or.inl ⟨by rfl, ?hyra5⟩) (by assumption) ?restra5
          case hyra5 => (intro w hSw; (try dsimp only at hSw); go_simp <;> (with_reducible rfl))
          (try simp only [Act.put, List.setIfInBounds_toArray, List.set_cons_zero, List.set_cons_succ, List.getElem_toArray, List.getElem_cons_zero, List.getElem_cons_succ])
          refine wpAnyH_ready (rs := [1]) (by kernel_rfl) (by simp) ?_
          refine AllReadyH.cons rfl (fun K hK => ?_) AllReadyH.nil
          go_simp
          (try go_simp)
          refine hK.out _ _ (SD) (fun hHeld => ?_)
          clear hK K
          (try simp only [Act.put, List.setIfInBounds_toArray, List.set_cons_zero, List.set_cons_succ, List.getElem_toArray, List.getElem_cons_zero, List.getElem_cons_succ])
          refine wpAnyH_ready (rs := [6]) (by kernel_rfl) (by simp) ?_
          refine AllReadyH.cons rfl (fun K hK => ?_) AllReadyH.nil
          go_simp
          refine (does_any d hd _ PD.pk.regs).mono ?_
          rintro r w5 ⟨rfl, T5⟩
          have P5 := PD.does T5
          have FR := P5.cells
          obtain ⟨y0, y1, y2, y3, y4, y5, y6, y7, y8⟩ := nine_cells P5.box
          (try go_simp)
          refine hK.out _ _ (old_deed P5.pk.bel hbl hc) (fun hHeld => ?_)
          clear hK K
          (try simp only [Act.put, List.setIfInBounds_toArray, List.set_cons_zero, List.set_cons_succ, List.getElem_toArray, List.getElem_cons_zero, List.getElem_cons_succ])
          refine wpAnyH_take (i := 7) (v := ?vrb7) rfl (by kernel_rfl) (by kernel_rfl) (by kernel_rfl) (fun _ _ _ h => h) (Or.inl ⟨by rfl, ?hyrb7⟩) (by assumption) ?restrb7
          case hyrb7 => (intro w hSw; (try dsimp only at hSw); go_simp <;> (with_reducible rfl))
          (try simp only [Act.put, List.setIfInBounds_toArray, List.set_cons_zero, List.set_cons_succ, List.getElem_toArray, List.getElem_cons_zero, List.getElem_cons_succ])
          refine wpAnyH_take (i := 8) (v := ?vrb8) rfl (by kernel_rfl) (by kernel_rfl) (by kernel_rfl) (fun _ _ _ h => h) (Or.inl ⟨by rfl, ?hyrb8⟩) (by assumption) ?restrb8
          case hyrb8 => (intro w hSw; (try dsimp only at hSw); go_simp <;> (with_reducible rfl))
          (try simp only [Act.put, List.setIfInBounds_toArray, List.set_cons_zero, List.set_cons_succ, List.getElem_toArray, List.getElem_cons_zero, List.getElem_cons_succ])
          refine wpAnyH_take (i := 9) (v := ?vrb9) rfl (by kernel_rfl) (by kernel_rfl) (by kernel_rfl) (fun _ _ _ h => h) (Or.inl ⟨by rfl, ?hyrb9⟩) (by assumption) ?restrb9
          case hyrb9 => (intro w hSw; (try dsimp only at hSw); go_simp <;> (with_reducible rfl))
          (try simp only [Act.put, List.setIfInBounds_toArray, List.set_cons_zero, List.set_cons_succ, List.getElem_toArray, List.getElem_cons_zero, List.getElem_cons_succ])
          have P6 := P5.put
          refine wpAnyH_ready (rs := [10]) (by kernel_rfl) (by simp) ?_
          refine AllReadyH.cons rfl (fun K hK => ?_) AllReadyH.nil
          go_simp
          (try go_simp)
          refine hK.out _ _ (old_deed P6.pk.bel hbl hc) (fun hHeld => ?_)
          clear hK K
          (try simp only [Act.put, List.setIfInBounds_toArray, List.set_cons_zero, List.set_cons_succ, List.getElem_toArray, List.getElem_cons_zero, List.getElem_cons_succ])
          refine wpAnyH_done (by kernel_rfl) ?_ _
          clear hHeld x0 x1 x2 x3 x4 x5 x6 x7 x8 y0 y1 y2 y3 y4 y5 y6 y7 y8 FR P5 T5 SD PD P
          go_wp2_with fail
          go_roundw
          case rel => exact ⟨j + 1, _, by go_num, by omega, P6⟩
          case measure => simp [intOf]; omega
        · skip
          go_wp2_with fail
          go_meet
          exact ⟨R, P.pk⟩
      · skip
        go_wp2_with fail
        go_meet
        exact ⟨R, P.pk⟩
  case rest =>
    obtain ⟨R, P⟩ := hcut
    clear w0' hT P2 X2
    have LT := P.regs.lt
    go_wp2_with fail
    refine (all_any _ _ R _ P.regs).mono ?_; rintro r y1 ⟨v1, rfl, o1, b1⟩
    obtain ⟨g1, cap1, U1, hg1⟩ := own_isU o1 (allL_pos _)
    have P1 := P.call b1
    clear P o1 b1
    go_wp2_with fail
    refine (write_any _ _ R a1 a2 a3 hv3 _ P1.regs).mono ?_; rintro r y2 ⟨rfl, T2⟩
    have U2 := isU_turn U1 T2.2 (allL_pos _) (by omega)
    have P2 := P1.to T2
    clear P1 U1 T2 LT
    go_wp2_with fail
    have LT2 := P2.regs.lt
    refine (all_any _ _ _ _ P2.regs).mono ?_; rintro r y3 ⟨v2, rfl, o3, b3⟩
    obtain ⟨g2, cap2, V3, hg2⟩ := own_isU o3 (allL_pos _)
    have U3 := U2.below b3 (allL_pos _)
    have P3 := P2.call b3
    have hg2' : g2 ≠ w.heap.size := by omega
    clear P2 U2 o3 b3 hg2 hg1 LT2
    obtain ⟨ue, ul, um, uc⟩ := U3
    have ve := V3.eq
    have vc := V3.at_
    have vl := V3.le
    have vm := V3.max
    obtain rfl := ue
    obtain rfl := ve
    obtain ⟨A, hA⟩ : ∃ A, allL R = A := ⟨_, rfl⟩
    obtain ⟨B, hB⟩ : ∃ B, allL (wrR R a1 a2 a3) = B := ⟨_, rfl⟩
    have lA : A.length = 11 := by rw [← hA]; rfl
    have lB : B.length = 11 := by rw [← hB]; rfl
    have VV := Lib.hid V3
    rw [hA] at uc ul ⊢
    rw [hB] at vc vl ⊢
    rw [lA] at ul ⊢
    rw [lB] at vl ⊢
    have HA := Lib.hid hA
    have HB := Lib.hid hB
    have LA := Lib.hid lA
    have LB := Lib.hid lB
    have UC := Lib.hid uc
    have VC := Lib.hid vc
    clear hA hB lA lB uc vc V3
    go_wp2_with fail
    go_loopw [15, 16] (fun n i wr => ∃ j : Nat, j ≤ 11 ∧ i = .int .i64 (j : Int) ∧ n = .int .i64 ((dif A B j : Nat) : Int) ∧ ∃ m, wr = y3.drewN m) (fun _ i _ => 11 - (intOf i).toNat)
    case atStart => exact ⟨0, by omega, rfl, rfl, 0, rfl⟩
    case round =>
      obtain ⟨j, hj, rfl, rfl, m, rfl⟩ := hrel
      have dl := dif_le A B j
      by_cases hlt : j < 11
      · have hlt' : (j : Int) < 11 := by omega
        have jA : j < A.length := by rw [LA.out]; exact hlt
        have jB : j < B.length := by rw [LB.out]; exact hlt
        have c1 := UC.out j jA
        have c2 := VC.out j jB
        by_cases hx : A[j] = B[j]
        · have E := Lib.hid (dif_same jA jB hx)
          rw [← hx] at c2
          generalize A[j] = x at *
          clear hx jA jB
          generalize dif A B j = D at *
          go_wp2
          go_quiet (fail)
          go_wp2
          go_roundw
          case rel => exact ⟨j + 1, by omega, by go_num, by rw [E.out], _, rfl⟩
          case measure => simp [intOf]; omega
        · have E := Lib.hid (dif_other jA jB hx)
          generalize A[j] = x at *
          generalize B[j] = y at *
          have hxy : (x != y) = true := by simpa using hx
          clear hx jA jB
          generalize dif A B j = D at *
          go_wp2
          go_quiet (fail)
          go_wp2
          go_roundw
          case rel => exact ⟨j + 1, by omega, by go_num, by rw [E.out]; go_num, _, rfl⟩
          case measure => simp [intOf]; omega
      · obtain rfl : j = 11 := by omega
        clear dl hlt UC VC LA LB
        have P4 := P3.drewN m
        have V4 := isU_drewN VV.out m
        clear P3
        by_cases hE : wrE a1 a2 = 0
        · have hD := dif_put R a1 a2 a3 hE
          rw [HA.out, HB.out] at hD
          have WA := Lib.hid (wr_again R a1 a2 a3 hE)
          have HE := Lib.hid hE
          rw [hE]
          clear hE HA HB VV
          generalize dif A B 11 = D at *
          by_cases h48 : a2 = 48
          · rw [if_pos h48] at hD
            have hD2 : (D : Int) ≤ 2 := by omega
            have e48 : (a2 == 48) = true := by simpa using h48
            clear h48
            go_wp2_with fail
            refine (read_any _ _ _ a1 a2 wf1.out wf2.out _ P4.regs).mono ?_; rintro r y5 ⟨rfl, b5⟩
            have P5 := P4.call b5
            have V5 := V4.below b5 (allL_pos _)
            clear P4 V4 b5
            rw [WA.out.1]
            go_wp2_with fail
            refine (write_any _ _ _ a1 a2 _ (regV_bd _ P5.regs.wf _ _) _ P5.regs).mono ?_; rintro r y6 ⟨rfl, T6⟩
            have V6 := isU_turn V5 T6.2 (allL_pos _) hg2'
            have P6 := P5.to T6
            rw [HE.out]
            rw [WA.out.2] at P6
            clear P5 V5 T6
            go_wp2_with fail
            refine (all_any _ _ _ _ P6.regs).mono ?_; rintro r y7 ⟨v3, rfl, o7, b7⟩
            obtain ⟨g3, cap3, W7, _⟩ := own_isU o7 (allL_pos _)
            have V7 := V6.below b7 (allL_pos _)
            have P7 := P6.call b7
            clear P6 V6 o7 b7
            go_wp2_with fail
            refine (dsame_any (allL (wrR R a1 a2 a3)) v3 _ g3 cap3 g2 cap2 _ (by simp [allL]) W7 V7).mono ?_; rintro r y8 ⟨rfl, m8, rfl⟩
            have P8 := P7.drewN m8
            clear P7 W7 V7
            go_wp2_with fail
            refine (lives_any _ P8.tab).mono ?_; rintro r y9 ⟨rfl, b9⟩
            go_wp2_with fail
            go_ret
            exact ⟨rfl, (P8.call b9).bel⟩
          · rw [if_neg h48] at hD
            have hD2 : (D : Int) ≤ 1 := by omega
            have e48 : (a2 == 48) = false := by simpa using h48
            clear h48
            go_wp2_with fail
            refine (read_any _ _ _ a1 a2 wf1.out wf2.out _ P4.regs).mono ?_; rintro r y5 ⟨rfl, b5⟩
            have P5 := P4.call b5
            have V5 := V4.below b5 (allL_pos _)
            clear P4 V4 b5
            rw [WA.out.1]
            go_wp2_with fail
            refine (write_any _ _ _ a1 a2 _ (regV_bd _ P5.regs.wf _ _) _ P5.regs).mono ?_; rintro r y6 ⟨rfl, T6⟩
            have V6 := isU_turn V5 T6.2 (allL_pos _) hg2'
            have P6 := P5.to T6
            rw [HE.out]
            rw [WA.out.2] at P6
            clear P5 V5 T6
            go_wp2_with fail
            refine (all_any _ _ _ _ P6.regs).mono ?_; rintro r y7 ⟨v3, rfl, o7, b7⟩
            obtain ⟨g3, cap3, W7, _⟩ := own_isU o7 (allL_pos _)
            have V7 := V6.below b7 (allL_pos _)
            have P7 := P6.call b7
            clear P6 V6 o7 b7
            go_wp2_with fail
            refine (dsame_any (allL (wrR R a1 a2 a3)) v3 _ g3 cap3 g2 cap2 _ (by simp [allL]) W7 V7).mono ?_; rintro r y8 ⟨rfl, m8, rfl⟩
            have P8 := P7.drewN m8
            clear P7 W7 V7
            go_wp2_with fail
            refine (lives_any _ P8.tab).mono ?_; rintro r y9 ⟨rfl, b9⟩
            go_wp2_with fail
            go_ret
            exact ⟨rfl, (P8.call b9).bel⟩
        · have eR : wrR R a1 a2 a3 = R := by unfold wrR; rw [if_neg hE]
          have hD : dif A B 11 = 0 := by rw [← HA.out, ← HB.out, eR]; exact dif_self _ _
          rw [hD, show ((0 : Nat) : Int) = 0 from rfl]
          rw [eR] at P4 V4
          have e1 : (wrE a1 a2 == 0) = false := by simpa using hE
          have e2 : (wrE a1 a2 != 0) = true := by simpa using hE
          clear hE HA HB VV eR hD
          generalize wrE a1 a2 = E at *
          by_cases h48 : a2 = 48
          · have e48 : (a2 == 48) = true := by simpa using h48
            clear h48
            go_wp2_with fail
            refine (read_any _ _ _ a1 a2 wf1.out wf2.out _ P4.regs).mono ?_; rintro r y5 ⟨rfl, b5⟩
            have P5 := P4.call b5
            have V5 := V4.below b5 (allL_pos _)
            clear P4 V4 b5
            have P6 := P5
            have V6 := V5
            clear P5 V5
            generalize regV R a1 a2 = rv at *
            generalize regE a1 a2 = re at *
            go_wp2_with fail
            refine (all_any _ _ _ _ P6.regs).mono ?_; rintro r y7 ⟨v3, rfl, o7, b7⟩
            obtain ⟨g3, cap3, W7, _⟩ := own_isU o7 (allL_pos _)
            have V7 := V6.below b7 (allL_pos _)
            have P7 := P6.call b7
            clear P6 V6 o7 b7
            go_wp2_with fail
            refine (dsame_any (allL R) v3 _ g3 cap3 g2 cap2 _ (by simp [allL]) W7 V7).mono ?_; rintro r y8 ⟨rfl, m8, rfl⟩
            have P8 := P7.drewN m8
            clear P7 W7 V7
            go_wp2_with fail
            refine (lives_any _ P8.tab).mono ?_; rintro r y9 ⟨rfl, b9⟩
            go_wp2_with fail
            go_ret
            exact ⟨rfl, (P8.call b9).bel⟩
          · have e48 : (a2 == 48) = false := by simpa using h48
            clear h48
            go_wp2_with fail
            refine (read_any _ _ _ a1 a2 wf1.out wf2.out _ P4.regs).mono ?_; rintro r y5 ⟨rfl, b5⟩
            have P5 := P4.call b5
            have V5 := V4.below b5 (allL_pos _)
            clear P4 V4 b5
            have P6 := P5
            have V6 := V5
            clear P5 V5
            generalize regV R a1 a2 = rv at *
            generalize regE a1 a2 = re at *
            go_wp2_with fail
            refine (all_any _ _ _ _ P6.regs).mono ?_; rintro r y7 ⟨v3, rfl, o7, b7⟩
            obtain ⟨g3, cap3, W7, _⟩ := own_isU o7 (allL_pos _)
            have V7 := V6.below b7 (allL_pos _)
            have P7 := P6.call b7
            clear P6 V6 o7 b7
            go_wp2_with fail
            refine (dsame_any (allL R) v3 _ g3 cap3 g2 cap2 _ (by simp [allL]) W7 V7).mono ?_; rintro r y8 ⟨rfl, m8, rfl⟩
            have P8 := P7.drewN m8
            clear P7 W7 V7
            go_wp2_with fail
            refine (lives_any _ P8.tab).mono ?_; rintro r y9 ⟨rfl, b9⟩
            go_wp2_with fail
            go_ret
            exact ⟨rfl, (P8.call b9).bel⟩

/-! ### The row -/
theorem contract (H : Type) (enc : TypeId × Value → H) (W : World) (base : Nat) (args : Array Value) (ds gs : List (DataW H)) (before : List MemPlace)
    (hval : ∀ (j : Nat) t v, Tryd.f5.params[j]? = some t → args[j]? = some v → Value.okWide Tryd.prog W .any base t v)
    (hW : DataW.Whole enc Tryd.prog Tryd.f5.params.toList Rows.regsOwnSpec.vars false W args.toList ds gs before) (hL : laidMetH Tryd.prog Rows.regsOwnRow.laid W) :
    Calls Tryd.prog 5 args W fun e W' => ∃ v, e = .returned v ∧ Rows.regsOwnSpec.post enc Tryd.prog Tryd.f5 false true false false W args v W' := by
  have hW' := hW
  obtain ⟨p, q, hA0, hV, rfl, hfz, hnd⟩ := hW
  have hA : DataW.TrodAll enc Tryd.prog W 0 (fun _ => true) true Tryd.f5.params.toList args.toList ds p := hA0
  rw [Tryd.params5] at hA hval
  obtain ⟨v0, vs0, d0, ds0, p0, q0, hargs, rfl, rfl, h0, r0⟩ := trodAll_cons hA
  obtain ⟨v1, vs1, d1, ds1, p1, q1, rfl, rfl, rfl, h1, r1⟩ := trodAll_cons r0
  obtain ⟨v2, vs2, d2, ds2, p2, q2, rfl, rfl, rfl, h2, r2⟩ := trodAll_cons r1
  obtain ⟨v3, vs3, d3, ds3, p3, q3, rfl, rfl, rfl, h3, r3⟩ := trodAll_cons r2
  obtain ⟨rfl, rfl, rfl⟩ := trodAll_nil r3
  obtain rfl : args = #[v0, v1, v2, v3] := by cases args; simp_all
  obtain ⟨rfl, rfl⟩ := trodVars_none hV
  obtain ⟨s0, len0, cap0, rfl⟩ := okWide_slice Tryd.underlying22 (hval 0 22 v0 rfl rfl)
  have k0 := h0
  have lt0 : ∀ x ∈ p0, x.block < W.heap.size := by obtain ⟨m, hm⟩ := k0; exact DataW.trod_lt m _ _ _ hm
  have w0 : IsDeeds W s0 len0 cap0 := by
    obtain ⟨fuel, hf⟩ := h0
    exact open_deeds hf
  obtain ⟨a1, rfl, rfl, rfl, w1⟩ := open_int Tryd.underlying3 (hval 1 3 v1 rfl rfl) h1
  obtain ⟨a2, rfl, rfl, rfl, w2⟩ := open_int Tryd.underlying25 (hval 2 25 v2 rfl rfl) h2
  obtain ⟨a3, rfl, rfl, rfl, w3⟩ := open_int Tryd.underlying25 (hval 3 25 v3 rfl rfl) h3
  clear hA0
  simp only [List.append_nil] at hW'
  refine (walk W (tab_of hL) s0 len0 cap0 w0 a1 w1 a2 w2 a3 w3).mono fun e W' ⟨he, hg⟩ => ?_
  subst he
  exact ⟨_, rfl, _, _, _, [], _, [], hW', trodAll_mk1 (shut_bool Tryd.underlying4 _), (trodAll_cons_mk (Below.trod laidOut (by kernel_rfl) (of_decide_eq_true (by kernel_rfl)) k0 hg lt0) (trodAll_cons_mk (shut_int Tryd.underlying3 w1) (trodAll_cons_mk (shut_int Tryd.underlying25 w2) (trodAll_cons_mk (shut_int Tryd.underlying25 w3) trodAll_mk0)))), rfl, hg.frame _, fun h => by cases h⟩

/-- A world for the witness: the settled one, the table holding what its initialiser lays. -/
noncomputable def laidWorld (os : Os) : World :=
  { World.holding Tryd.prog os ⟨#[], #[], []⟩ with heap := (World.holding Tryd.prog os ⟨#[], #[], []⟩).heap.modify 0 fun
      | .cells _ t frozen => .cells #[.int .u64 0, .int .u64 0, .bool true, .int .u64 8, .int .u64 8191, .bool false, .int .u64 16, .int .u64 8191, .bool false, .int .u64 24, .int .u64 16728063, .bool true, .int .u64 32, .int .u64 0, .bool false, .int .u64 40, .int .u64 18446744073709547527, .bool true, .int .u64 48, .int .u64 18446744073709551615, .bool true] t frozen
      | o => o }
theorem laid_met (os : Os) : laidMet Tryd.prog Rows.regsOwnRow.laid ((laidWorld os).forCall (fun _ _ => 0) ⟨#[], #[.slice none 0 0, .int .i64 0, .int .u64 0, .int .u64 0], []⟩).memory :=
  laidMet_of_run' 8 (by kernel_rfl) (by kernel_rfl)
theorem reads (os : Os) {H : Type} (enc : TypeId × Value → H) : ∃ places, DataW.whole enc Tryd.prog ((laidWorld os).forCall (fun _ _ => 0) ⟨#[], #[.slice none 0 0, .int .i64 0, .int .u64 0, .int .u64 0], []⟩).memory Tryd.f5.params.toList Rows.regsOwnSpec.vars false (#[.slice none 0 0, .int .i64 0, .int .u64 0, .int .u64 0] : Array Value).toList 8 = some ([.nil, .lit (.int .i64 0), .lit (.int .u64 0), .lit (.int .u64 0)], [], places) :=
  ⟨[], by kernel_rfl⟩
set_option maxRecDepth 100000 in
theorem lifted (os : Os) (started : os.Started) (H : Type) (enc : TypeId × Value → H) (F : Stop.Interp) :
    ReturnsInHanded {} Tryd.checked os 5 .any ((OpenSpec.ofChange Rows.regsOwnSpec).preRow enc Tryd.prog Tryd.f5 Rows.regsOwnRow.domain false Rows.regsOwnRow.laid) (((OpenSpec.ofChange Rows.regsOwnSpec).at F).post enc Tryd.prog Tryd.f5 false true false false) := by
  obtain ⟨places, hx⟩ := reads os enc
  refine returnsInHanded_of_row (C := Tryd.checked) (s := OpenSpec.ofChange Rows.regsOwnSpec) own started (by kernel_rfl) Tryd.func5
    (witness_row_at (enc := enc) (C := Tryd.checked) false (laidWorld os) #[.slice none 0 0, .int .i64 0, .int .u64 0, .int .u64 0] rfl (by kernel_rfl) (by kernel_rfl) (by kernel_rfl)
      (OpenSpec.preRow_of_cond 8 hx (by kernel_rfl) (fun k hk => by cases hk) (by kernel_rfl) (laid_met os))) ?_
  intro W base args ds gs before hval hW _ _ _ hL _ _
  exact contract H enc W base args ds gs before hval hW hL
theorem said : Rows.RegsOwnSaid :=
  OpenClaim.holds_of_cond 5 Tryd.f5 rfl rfl rfl rfl rfl rfl rfl ⟨rfl, rfl, rfl, rfl, rfl⟩ rfl rfl rfl rfl rfl (by kernel_rfl) Tryd.func5 (by kernel_rfl)
    (of_decide_eq_true (by kernel_rfl)) (by unfold Func.isWrapper; first | (rw [if_pos (by decide +kernel)]; kernel_rfl) | (rw [if_neg (by decide +kernel)]; exact ⟨rfl, rfl⟩))
    (fun os started H enc _ F => by rw [OpenClaim.pre_eq_preRow]; exact lifted os started H enc F)
theorem plain (f : FuncId) (fn : Func) (hf : Tryd.pinned.checked.prog.funcNamed "lookaside/lookasidelaw07.RegsOwn" = some f) (hfn : Tryd.pinned.checked.prog.funcs[f]? = some fn) :
    false = Tryd.pinned.checked.prog.looks [] ∧ ∀ (j : Nat) t, fn.params[j]? = some t → Tryd.pinned.checked.prog.wantsStandIn t = false := by
  obtain rfl : f = 5 := Option.some.inj ((show Tryd.prog.funcNamed "lookaside/lookasidelaw07.RegsOwn" = some 5 by kernel_rfl).symm.trans hf) |>.symm
  obtain rfl : fn = Tryd.f5 := (Option.some.inj (Tryd.func5.symm.trans hfn)).symm
  refine ⟨by kernel_rfl, fun j t ht => ?_⟩
  rw [Tryd.params5] at ht
  have hm : t ∈ [22, 3, 25, 25] := by simpa using Array.mem_of_getElem? ht
  have hall : ([22, 3, 25, 25].all fun u => !Tryd.prog.wantsStandIn u) = true := by kernel_rfl
  exact (show Tryd.prog.wantsStandIn t = false by simpa using List.all_eq_true.1 hall t hm)
theorem proved : Rows.RegsOwnCardSaid :=
  Claim7.holds_tied_plain_at .later [] _ _ _ _ said (fun _ h => by cases h) (by kernel_rfl) (fun _ h => by cases h) regsOwn_row_tie rfl ⟨rfl, rfl⟩ (by kernel_rfl) rfl plain (by kernel_rfl)
#print axioms proved
end Go.Proofs.YtohcmijgakijfaaDoor.regsOwn
