/-
  YtffpfceclhogoaaGreatGN: the contracts and plain facts of several texts, laid together. Conditions: those that each theorem names.
-/
import Derived.Test.YtffpfceclhogoaaGreatGK
import Derived.Deep.RegionWith
import Derived.Deep.DeepCutAuto
namespace Go.Proofs.YtffpfceclhogoaaGreat.Hp
open Fld Hs
open Go.ChangeShapes Go.WideShapes Go.ChangeAt Go.RowKit Go.Maps
set_option maxHeartbeats 1000000
set_option maxRecDepth 100000
def attEq (a b : Att) : Bool := a.write == b.write && (a.priv == b.priv && (a.exec == b.exec && (a.lock == b.lock && (a.global == b.global && (a.quiet == b.quiet && true)))))
def pgEq (a b : Pg) : Bool := a.va == b.va && (a.sz == b.sz && (a.pa == b.pa && (attEq a.att b.att && (a.ref == b.ref && (a.mod == b.mod && true)))))
theorem attEq_iff (a b : Att) : attEq a b = true ↔ a = b := by
  obtain ⟨a1, a2, a3, a4, a5, a6⟩ := a
  obtain ⟨b1, b2, b3, b4, b5, b6⟩ := b
  simp [attEq]
theorem pgEq_iff (a b : Pg) : pgEq a b = true ↔ a = b := by
  obtain ⟨a1, a2, a3, a4, a5, a6⟩ := a
  obtain ⟨b1, b2, b3, b4, b5, b6⟩ := b
  simp [pgEq, attEq_iff]
theorem att_is (d : Nat) (a b : Att) : ∀ w, (Op.equalIn (d + 1 + 1) 36 (.agg #[.bool a.write, .bool a.priv, .bool a.exec, .bool a.lock, .bool a.global, .bool a.quiet]) (.agg #[.bool b.write, .bool b.priv, .bool b.exec, .bool b.lock, .bool b.global, .bool b.quiet])).run Tryz.prog w = .ok (attEq a b) w := by
  have h := run_equalIn_struct (P := Tryz.prog) (d := d + 1) (t := 36) (xs := #[.bool a.write, .bool a.priv, .bool a.exec, .bool a.lock, .bool a.global, .bool a.quiet]) (ys := #[.bool b.write, .bool b.priv, .bool b.exec, .bool b.lock, .bool b.global, .bool b.quiet]) (ht := by kernel_rfl) (hp := by kernel_rfl)
  simp only [h]
  have hf : (Tryz.prog.fieldsOf 36).toList = (match Tryz.prog.underlying 36 with | some (.struct fs) => fs | _ => #[]).toList := rfl
  rw [hf, Tryz.underlying36]
  refine field_is (a := .bool a.write) (b := .bool b.write) (r := a.write == b.write) (by decide) (fun w => by go_simp) (fun w => by go_simp) (fun w => run_equalIn_bool' w d 4 _ _ Tryz.underlying4) ?_
  refine field_is (a := .bool a.priv) (b := .bool b.priv) (r := a.priv == b.priv) (by decide) (fun w => by go_simp) (fun w => by go_simp) (fun w => run_equalIn_bool' w d 4 _ _ Tryz.underlying4) ?_
  refine field_is (a := .bool a.exec) (b := .bool b.exec) (r := a.exec == b.exec) (by decide) (fun w => by go_simp) (fun w => by go_simp) (fun w => run_equalIn_bool' w d 4 _ _ Tryz.underlying4) ?_
  refine field_is (a := .bool a.lock) (b := .bool b.lock) (r := a.lock == b.lock) (by decide) (fun w => by go_simp) (fun w => by go_simp) (fun w => run_equalIn_bool' w d 4 _ _ Tryz.underlying4) ?_
  refine field_is (a := .bool a.global) (b := .bool b.global) (r := a.global == b.global) (by decide) (fun w => by go_simp) (fun w => by go_simp) (fun w => run_equalIn_bool' w d 4 _ _ Tryz.underlying4) ?_
  refine field_is (a := .bool a.quiet) (b := .bool b.quiet) (r := a.quiet == b.quiet) (by decide) (fun w => by go_simp) (fun w => by go_simp) (fun w => run_equalIn_bool' w d 4 _ _ Tryz.underlying4) ?_
  exact fun w => rfl
theorem page_in (a b : Pg) : ∀ w, (Op.equalIn 10000 38 (.agg #[.int .u64 a.va, .int .i64 a.sz, .int .u64 a.pa, .bool a.att.write, .bool a.att.priv, .bool a.att.exec, .bool a.att.lock, .bool a.att.global, .bool a.att.quiet, .bool a.ref, .bool a.mod]) (.agg #[.int .u64 b.va, .int .i64 b.sz, .int .u64 b.pa, .bool b.att.write, .bool b.att.priv, .bool b.att.exec, .bool b.att.lock, .bool b.att.global, .bool b.att.quiet, .bool b.ref, .bool b.mod])).run Tryz.prog w = .ok (pgEq a b) w := by
  have h := run_equalIn_struct (P := Tryz.prog) (d := 9999) (t := 38) (xs := #[.int .u64 a.va, .int .i64 a.sz, .int .u64 a.pa, .bool a.att.write, .bool a.att.priv, .bool a.att.exec, .bool a.att.lock, .bool a.att.global, .bool a.att.quiet, .bool a.ref, .bool a.mod]) (ys := #[.int .u64 b.va, .int .i64 b.sz, .int .u64 b.pa, .bool b.att.write, .bool b.att.priv, .bool b.att.exec, .bool b.att.lock, .bool b.att.global, .bool b.att.quiet, .bool b.ref, .bool b.mod]) (ht := by kernel_rfl) (hp := by kernel_rfl)
  simp only [h]
  have hf : (Tryz.prog.fieldsOf 38).toList = (match Tryz.prog.underlying 38 with | some (.struct fs) => fs | _ => #[]).toList := rfl
  rw [hf, Tryz.underlying38]
  refine field_is (a := .int .u64 a.va) (b := .int .u64 b.va) (r := a.va == b.va) (by decide) (fun w => by go_simp) (fun w => by go_simp) (fun w => run_equalIn_int w 9998 34 .u64 .u64 _ _ Tryz.underlying34) ?_
  refine field_is (a := .int .i64 a.sz) (b := .int .i64 b.sz) (r := a.sz == b.sz) (by decide) (fun w => by go_simp) (fun w => by go_simp) (fun w => run_equalIn_int w 9998 3 .i64 .i64 _ _ Tryz.underlying3) ?_
  refine field_is (a := .int .u64 a.pa) (b := .int .u64 b.pa) (r := a.pa == b.pa) (by decide) (fun w => by go_simp) (fun w => by go_simp) (fun w => run_equalIn_int w 9998 34 .u64 .u64 _ _ Tryz.underlying34) ?_
  refine field_is (a := .agg #[.bool a.att.write, .bool a.att.priv, .bool a.att.exec, .bool a.att.lock, .bool a.att.global, .bool a.att.quiet]) (b := .agg #[.bool b.att.write, .bool b.att.priv, .bool b.att.exec, .bool b.att.lock, .bool b.att.global, .bool b.att.quiet]) (r := attEq a.att b.att) (by decide) (fun w => by go_simp) (fun w => by go_simp) (fun w => att_is 9997 a.att b.att w) ?_
  refine field_is (a := .bool a.ref) (b := .bool b.ref) (r := a.ref == b.ref) (by decide) (fun w => by go_simp) (fun w => by go_simp) (fun w => run_equalIn_bool' w 9998 4 _ _ Tryz.underlying4) ?_
  refine field_is (a := .bool a.mod) (b := .bool b.mod) (r := a.mod == b.mod) (by decide) (fun w => by go_simp) (fun w => by go_simp) (fun w => run_equalIn_bool' w 9998 4 _ _ Tryz.underlying4) ?_
  exact fun w => rfl
theorem page_is (a b : Pg) : ∀ w : World, (binOp .eql 38 (.agg #[.int .u64 a.va, .int .i64 a.sz, .int .u64 a.pa, .bool a.att.write, .bool a.att.priv, .bool a.att.exec, .bool a.att.lock, .bool a.att.global, .bool a.att.quiet, .bool a.ref, .bool a.mod]) (.agg #[.int .u64 b.va, .int .i64 b.sz, .int .u64 b.pa, .bool b.att.write, .bool b.att.priv, .bool b.att.exec, .bool b.att.lock, .bool b.att.global, .bool b.att.quiet, .bool b.ref, .bool b.mod])).run Tryz.prog w = .ok (.bool (pgEq a b)) w := by
  intro w
  rw [run_eql_struct, page_in]; rfl
theorem page_ne (a b : Pg) : ∀ w : World, (binOp .neq 38 (.agg #[.int .u64 a.va, .int .i64 a.sz, .int .u64 a.pa, .bool a.att.write, .bool a.att.priv, .bool a.att.exec, .bool a.att.lock, .bool a.att.global, .bool a.att.quiet, .bool a.ref, .bool a.mod]) (.agg #[.int .u64 b.va, .int .i64 b.sz, .int .u64 b.pa, .bool b.att.write, .bool b.att.priv, .bool b.att.exec, .bool b.att.lock, .bool b.att.global, .bool b.att.quiet, .bool b.ref, .bool b.mod])).run Tryz.prog w = .ok (.bool (!pgEq a b)) w := by
  intro w
  rw [run_neq_struct, page_in]; rfl
/-! ### Same -/
def sameP (a b : List Pg) : Bool := decide (a.length = b.length) && decide (firstN (fun i => !pgEq (pat a i) (pat b i)) a.length = a.length)
theorem same_iff (a b : List Pg) : sameP a b = true ↔ a = b := by
  unfold sameP
  simp only [Bool.and_eq_true, decide_eq_true_eq]
  constructor
  · rintro ⟨h1, h2⟩
    apply List.ext_getElem? 
    intro i
    by_cases hi : i < a.length
    · have h3 := first_no (fun i => !pgEq (pat a i) (pat b i)) a.length i (by rw [h2]; exact hi)
      have h4 := (pgEq_iff _ _).1 (by simpa using h3)
      have ea : a[i]? = some (pat a i) := by simp [pat, hi]
      have eb : b[i]? = some (pat b i) := by simp [pat, h1 ▸ hi]
      rw [ea, eb, h4]
    · rw [List.getElem?_eq_none (by omega), List.getElem?_eq_none (by omega)]
  · rintro rfl
    refine ⟨rfl, first_none (fun i _ => ?_)⟩
    have : pgEq (pat a i) (pat a i) = true := (pgEq_iff _ _).2 rfl
    simp [this]
theorem dsame_any {va vb : Value} {a b : List Pg} {B1 B2 : Nat} (w : World) (ha : w.ownsRow B1 38 11 va a.length (pgL a)) (hb : w.ownsRow B2 38 11 vb b.length (pgL b)) (la : a.length ≤ 1073741824) :
    Calls Tryz.prog 15 #[va, vb] w fun e w' => e = .returned (.bool (sameP a b)) ∧ Below w.heap.size w w' := by
  obtain ⟨ao, ca, rfl⟩ := own_shape3 ha
  obtain ⟨bo, cb, rfl⟩ := own_shape3 hb
  by_cases hl : a.length = b.length
  · have HS := Lib.hid (show sameP a b = decide (firstN (fun i => !pgEq (pat a i) (pat b i)) a.length = a.length) by unfold sameP; rw [decide_eq_true hl]; rfl)
    have HL := Lib.hid hl
    rw [← hl]
    clear hl
    go_enter Tryz.func15, Tryz.ntmps15
    go_wp2_with fail
    
    go_loopw [5] (fun i wr => ∃ (j m : Nat), i = .int .i64 (j : Int) ∧ j ≤ a.length ∧ (∀ i, i < j → (!pgEq (pat a i) (pat b i)) = false) ∧ wr = w.drewN m) (fun i _ => a.length - (RowKit.intOf i).toNat)
    case atStart => exact ⟨0, 0, rfl, Nat.zero_le _, fun i h => absurd h (Nat.not_lt_zero _), rfl⟩
    case round =>
      obtain ⟨j, m, rfl, hj, hno, rfl⟩ := hrel
      by_cases hlt : j < a.length
      · have hlt' : (j : Int) < (a.length : Int) := by omega
        have hltb : j < b.length := by rw [← HL.out]; exact hlt
        rcases own_form ha with ⟨_, h0⟩ | ⟨g, cap, hv, hgb, hnc, hcm⟩
        · omega
        rcases own_form hb with ⟨_, h0⟩ | ⟨k, cap', hv', hgb', hnc', hcm'⟩
        · omega
        obtain ⟨y0, y1, y2, y3, y4, y5, y6, y7, y8, y9, y10⟩ := own_page ha hgb hlt
        obtain ⟨z0, z1, z2, z3, z4, z5, z6, z7, z8, z9, z10⟩ := own_page hb hgb' hltb
        simp only [Value.slice.injEq, true_and] at hv hv'
        obtain ⟨rfl, rfl⟩ := hv
        obtain ⟨rfl, _⟩ := hv'
        have HN := Lib.hid hno
        have PN := page_ne (pat a j) (pat b j)
        clear hno ha hb
        obtain ⟨r, hr⟩ : ∃ r, r = (!pgEq (pat a j) (pat b j)) := ⟨_, rfl⟩
        have HR := Lib.hid hr
        rw [← hr] at PN
        clear hr
        obtain ⟨x, hx⟩ : ∃ x, x = pat a j := ⟨_, rfl⟩
        rw [← hx] at y0 y1 y2 y3 y4 y5 y6 y7 y8 y9 y10 PN
        obtain ⟨y, hy⟩ : ∃ y, y = pat b j := ⟨_, rfl⟩
        rw [← hy] at z0 z1 z2 z3 z4 z5 z6 z7 z8 z9 z10 PN
        clear hx hy
        cases r
        · go_wp2_with fail
          go_region
          go_wp2_with fail
          go_roundw
          case rel => exact ⟨j + 1, m + 1, by go_num, by omega, fun i hi => (by by_cases e : i = j; rw [e]; exact HR.out.symm; exact HN.out i (by omega)), rfl⟩
          case measure => simp [RowKit.intOf]; omega
        · have hS : sameP a b = false := by
            rw [HS.out, first_here hlt HN.out HR.out.symm]; exact decide_eq_false (by omega)
          go_wp2_with fail
          go_region
          go_wp2_with fail
          go_ret
          exact ⟨ret_bool hS.symm, below_drewN (Below.refl _ w) _⟩
      · obtain rfl : j = a.length := by omega
        have hS := Lib.hid (show sameP a b = true by rw [HS.out, first_none hno]; exact decide_eq_true rfl)
        clear hno ha hb
        go_wp2_with fail
        go_ret
        exact ⟨ret_bool hS.out.symm, below_drewN (Below.refl _ w) _⟩
  · have HS := Lib.hid (show sameP a b = false by unfold sameP; rw [decide_eq_false hl]; rfl)
    have hl' : ((a.length : Int) == (b.length : Int)) = false := by simpa using fun e : (a.length : Int) = (b.length : Int) => hl (by omega)
    clear ha hb
    go_enter Tryz.func15, Tryz.ntmps15
    go_wp2_with fail
    go_ret
    exact ⟨ret_bool HS.out.symm, Below.refl _ _⟩
/-! ### Good -/
def absI (a : Int) : Int := if a < 0 then -(a + 1) else a
theorem absI_neg {a : Int} (h : a < 0) : -(a + 1) = absI a := by unfold absI; rw [if_pos h]
theorem absI_pos {a : Int} (h : ¬ a < 0) : a = absI a := by unfold absI; rw [if_neg h]
theorem absI_bd (a : Int) (h0 : -9223372036854775808 ≤ a) (h1 : a ≤ 9223372036854775807) : 0 ≤ absI a ∧ absI a ≤ 9223372036854775807 := by unfold absI; split <;> omega
theorem abs_nrm (a m : Int) : absI a % m = nrm a m := by
  unfold absI nrm
  split
  · rw [show -(a + 1).tmod m = (-(a + 1)).tmod m from (Int.neg_tmod _ _).symm, Int.tmod_eq_emod_of_nonneg (by omega)]
  · rfl
def goodP (p : Pg) : Pg := ⟨baseI (vaI p.va) (nrm p.sz 4), nrm p.sz 4, baseI (p.pa % 2199023255552) (nrm p.sz 4), p.att, p.ref, p.mod⟩
theorem dgood_any (p : Pg) (hp : p.wf) (w : World) :
    Calls Tryz.prog 23 #[.agg #[.int .u64 p.va, .int .i64 p.sz, .int .u64 p.pa, .bool p.att.write, .bool p.att.priv, .bool p.att.exec, .bool p.att.lock, .bool p.att.global, .bool p.att.quiet, .bool p.ref, .bool p.mod]] w fun e w' => e = .returned (.agg #[.int .u64 (goodP p).va, .int .i64 (goodP p).sz, .int .u64 (goodP p).pa, .bool (goodP p).att.write, .bool (goodP p).att.priv, .bool (goodP p).att.exec, .bool (goodP p).att.lock, .bool (goodP p).att.global, .bool (goodP p).att.quiet, .bool (goodP p).ref, .bool (goodP p).mod]) ∧ Below w.heap.size w w' := by
  obtain ⟨v0, v1, s0, s1, p0, p1⟩ := hp
  obtain ⟨v, s, a, ⟨wr, pr, ex, lk, gl, qu⟩, rf, md⟩ := p
  dsimp only at *
  have b1 := nrm_bd s 4 (by omega)
  have aS := absI_bd s s0 s1
  have vb := vaI_bd v
  have Q1 := Lib.hid (rva_any v v0 v1)
  unfold goodP
  dsimp only
  have n1 := abs_nrm s 4
  generalize nrm s 4 = S at *
  have NN := Lib.hid n1
  clear n1
  go_enter Tryz.func23, Tryz.ntmps23
  go_upto_if 7 with (fail)
  go_cut [3] (fun t wx => t = .int .i64 (absI s) ∧ wx = ((w.alloc (.cells #[.int .u64 v, .int .i64 s, .int .u64 a, .bool wr, .bool pr, .bool ex, .bool lk, .bool gl, .bool qu, .bool rf, .bool md] 38)).alloc (.cells #[.int .u64 0, .int .i64 0, .int .u64 0, .bool false, .bool false, .bool false, .bool false, .bool false, .bool false, .bool false, .bool false] 38)))
  case first =>
    by_cases h : s < 0
    · have H := Lib.hid (absI_neg h)
      go_wp2_with fail
      go_meet
      exact ⟨by rw [H.out], rfl⟩
    · have H := Lib.hid (absI_pos h)
      go_wp2_with fail
      go_meet
      exact ⟨by rw [← H.out], rfl⟩
  case rest =>
    obtain ⟨rfl, rfl⟩ := hcut
    have M1 := NN.out
    clear NN
    go_wp2_with fail
    go_region_with (first | (go_at_call 58; refine (Q1.out _).mono ?_; rintro r w2 ⟨rfl, rfl⟩) | (go_at_call 53; refine (rbase_any _ _ vb.1 vb.2 _).mono ?_; rintro r w2 ⟨rfl, n, rfl⟩))
    all_goals
      go_wp2_with fail
      refine (rbase_any _ _ (by omega) (by omega) _).mono ?_; rintro r w2 ⟨rfl, m, rfl⟩
      go_wp2_with fail
      refine bodyPost_ret (v := .agg #[.int .u64 (baseI (vaI v) S), .int .i64 S, .int .u64 (baseI (a % 2199023255552) S), .bool wr, .bool pr, .bool ex, .bool lk, .bool gl, .bool qu, .bool rf, .bool md]) (by simp [results, Tryz.results23, go_sem]) rfl ⟨rfl, ?_⟩
      iterate 12 refine Below.setCell ?_ (by simp) _
      refine below_drewN ?_ _
      refine Below.setCell ?_ (by simp) _
      refine below_drewN ?_ _
      exact ((Below.refl _ _).alloc (Nat.le_refl _) _).alloc (by simp) _
end Go.Proofs.YtffpfceclhogoaaGreat.Hp
namespace Go.Proofs.YtffpfceclhogoaaGreat.Hp
open Fld Hs
open Go.ChangeShapes Go.WideShapes Go.ChangeAt Go.RowKit Go.Maps
set_option maxHeartbeats 2000000
set_option maxRecDepth 100000
theorem dnew_any (sp bl ch : Int) (hc1 : ch ≤ 1000000) (w : World) :
    Calls Tryz.prog 10 #[.int .i64 sp, .int .i64 bl, .int .i64 ch] w fun e w' => ∃ s' U, e = .returned (.agg #[.int .i64 (min (max sp 0) 64), .slice none 0 0, .int .i64 (max bl 0), s']) ∧ DH w' (.slice none 0 0) [] s' (max ch 1).toNat (fun _ => []) U ∧ Below w.heap.size w w' := by
  have CN := Lib.hid (fun w => Hs.rnew_any bl ch hc1 w)
  go_enter Tryz.func10, Tryz.ntmps10
  go_wp2_with fail
  refine (CN.out _).mono ?_; rintro e w1 ⟨s', rfl, hW⟩
  obtain ⟨U, hU⟩ : ∃ U : Nat → Value, U = fun _ => nilS := ⟨_, rfl⟩
  rw [← hU] at hW
  clear hU
  obtain ⟨g, cap, rfl, _, _, _⟩ := hW.ch.form
  have b1 : Below w.heap.size w w1 := lo_step ((Below.refl _ _).alloc (Nat.le_refl _) _) hW.low
  have R1 := blk_low (heap_alloc_new w (.cells #[.int .i64 0, .slice none 0 0, .int .i64 0, .slice none 0 0] 30)) hW.low
  have hc := hW.ch
  clear hW CN
  obtain ⟨r0, r1, r2, r3, rf⟩ := four_H R1
  go_wp2_with fail
  have hdh : DH w1 (.slice none 0 0) [] (.slice (some ⟨g, 0, none⟩) (max ch 1).toNat cap) (max ch 1).toNat (fun _ => []) U := ⟨World.ownsRow_nil _ _ _ 12, hc, by simp, fun x hx => by cases hx⟩
  have hfl := fill_H (ns := min (max sp 0) 64) (bl := max bl 0) hdh b1 (Nat.le_refl _) R1 rfl
  refine bodyPost_ret (results_cell_row rfl _ _ _ _ _ (0, 0) _ rfl hfl.1 Tryz.underlying30 (by kernel_rfl) (by kernel_rfl)) rfl ?_
  exact ⟨_, _, rfl, hfl.2.1, hfl.2.2⟩
def rszN (n : Nat) (m : Int) : Nat := if m < 1 then n else m.toNat
def rszT (n : Nat) (LT : Nat → List Hs.Bk) (m : Int) : Nat → List Hs.Bk := if m < 1 then LT else Hs.resT LT n m.toNat
def rszE (m : Int) : Int := if m < 1 then 1 else 0
theorem tresize_any {s : Value} {n : Nat} {L : Nat → List Hs.Bk} {U : Nat → Value} (bl m : Int) (m1 : m ≤ 1000000) (hg : Hs.Good n L) (w : World) (h : Hs.ChW w s n L U) :
    Calls Tryz.prog 74 #[.agg #[.int .i64 bl, s], .int .i64 m] w fun e w' => ∃ s', e = .returned (.tuple #[.agg #[.int .i64 bl, s'], .int .i64 (rszE m)]) ∧ Hs.DocTo w w' s n U s' (rszN n m) (rszT n L m) := by
  by_cases hm : m < 1
  · unfold rszE rszN rszT; rw [if_pos hm, if_pos hm, if_pos hm]; exact Hs.tresize_no bl m hm w h
  · unfold rszE rszN rszT; rw [if_neg hm, if_neg hm, if_neg hm]
    have := Hs.tresize_yes bl m.toNat (by omega) (by omega) hg w h
    rwa [show ((m.toNat : Nat) : Int) = m by omega] at this
section
variable {v : Value} {l : List SPg} {t : Value} {n : Nat} {LT : Nat → List Hs.Bk} {U : Nat → Value}
theorem dresize_any (ns bl m : Int) (m1 : m ≤ 1000000) (hg : Hs.Good n LT) (w : World) (h : DH w v l t n LT U) :
    Calls Tryz.prog 36 #[.agg #[.int .i64 ns, v, .int .i64 bl, t], .int .i64 m] w fun e w' => ∃ t' U', e = .returned (.tuple #[.agg #[.int .i64 ns, v, .int .i64 bl, t'], .int .i64 (rszE m)]) ∧ DH w' v l t' (rszN n m) (rszT n LT m) U' ∧ Below w.heap.size w w' := by
  obtain ⟨⟨ao, cap, rfl⟩, g2, cap2, rfl⟩ := h.shape
  have hl := h.few
  have X := DX.new h ns bl
  have C4 := Lib.hid (fun (W : World) (h : DX w W w.heap.size ns bl (.slice ao l.length cap) l (.slice (some ⟨g2, 0, none⟩) n cap2) n LT U) => tresize_any bl m m1 hg W h.dh.ch)
  clear h
  have N1 : Below (w.alloc (.cells #[.int .i64 ns, .slice ao l.length cap, .int .i64 bl, .slice (some ⟨g2, 0, none⟩) n cap2] 30)).heap.size (w.alloc (.cells #[.int .i64 ns, .slice ao l.length cap, .int .i64 bl, .slice (some ⟨g2, 0, none⟩) n cap2] 30)) ((w.alloc (.cells #[.int .i64 ns, .slice ao l.length cap, .int .i64 bl, .slice (some ⟨g2, 0, none⟩) n cap2] 30)).alloc (.cells #[.int .i64 0, .slice none 0 0, .int .i64 0, .slice none 0 0] 30)) := (Below.refl _ _).alloc (Nat.le_refl _) _
  have R := heap_alloc_new (w.alloc (.cells #[.int .i64 ns, .slice ao l.length cap, .int .i64 bl, .slice (some ⟨g2, 0, none⟩) n cap2] 30)) (.cells #[.int .i64 0, .slice none 0 0, .int .i64 0, .slice none 0 0] 30)
  rw [World.size_alloc] at R
  have X0 := X.low N1
  clear N1 X
  go_enter Tryz.func36, Tryz.ntmps36
  go_wp2_with fail
  generalize World.alloc (World.alloc w _) _ = W0 at *
  refine (C4.out _ X0).mono ?_; rintro e w6 ⟨s', rfl, hD⟩
  obtain ⟨g6, cap6, rfl⟩ := hD.form
  obtain ⟨U', hc6, _, hb6⟩ := hD
  have X6 := X0.low hb6
  have R6 := blk_low R hb6
  have B7 : Below w6.heap.size w6 (w6.alloc (.cells #[.int .i64 bl, .slice (some ⟨g6, 0, none⟩) (rszN n m) cap6] 28)) := (Below.refl _ _).alloc (Nat.le_refl _) _
  have hc7 := hc6.alloc (.cells #[.int .i64 bl, .slice (some ⟨g6, 0, none⟩) (rszN n m) cap6] 28)
  have X7 := X6.low B7
  have R7 := blk_low R6 B7
  obtain ⟨D8, k8, _, f8⟩ := X7.put2 (Nat.le_refl _) (Below.refl _ _) hc7 bl
  have R8 := (k8 _ (by omega)).trans R7
  have hfl := Lib.hid (fill_H (ns := ns) (bl := bl) D8.dh D8.lo (by omega : w.heap.size ≤ w.heap.size + 1) R8 rfl)
  obtain ⟨z0', z1', z2', z3'⟩ := D8.cs
  obtain ⟨x0, x1, x2, x3⟩ := X7.cs
  obtain ⟨r0, r1, r2, r3, rf⟩ := four_H R8
  obtain ⟨q0, q1, q2, q3, qf⟩ := four_H R7
  have ht7 := heap_alloc_new w6 (.cells #[.int .i64 bl, .slice (some ⟨g6, 0, none⟩) (rszN n m) cap6] 28)
  obtain ⟨t0, t1⟩ := t_two ht7
  have htl : w.heap.size ≠ w6.heap.size ∧ w.heap.size + 1 ≠ w6.heap.size := by have h1 := (Array.getElem?_eq_some_iff.1 R6).1; omega
  clear R X0 hb6 B7 hc7 X7 R7 D8 k8 R8 X6 R6 hc6 ht7
  obtain ⟨ne1, ne2⟩ := htl
  go_wp2_with fail
  refine bodyPost_ret (res_HE rfl _ _ _ _ rfl hfl.out.1 rfl) rfl ?_
  exact ⟨_, _, rfl, hfl.out.2.1, hfl.out.2.2⟩
end
end Go.Proofs.YtffpfceclhogoaaGreat.Hp
namespace Go.Proofs.YtffpfceclhogoaaGreat.Hp
open Fld Hs
open Go.ChangeShapes Go.WideShapes Go.ChangeAt Go.RowKit Go.Maps
set_option maxHeartbeats 2000000
set_option maxRecDepth 100000
theorem infoPp : (Tryz.prog.info? 38).map (fun i => (i.zero, i.size, i.bytes)) = some (some (.agg #[.int .u64 Pg.zero.va, .int .i64 Pg.zero.sz, .int .u64 Pg.zero.pa, .bool Pg.zero.att.write, .bool Pg.zero.att.priv, .bool Pg.zero.att.exec, .bool Pg.zero.att.lock, .bool Pg.zero.att.global, .bool Pg.zero.att.quiet, .bool Pg.zero.ref, .bool Pg.zero.mod]), 11, 32) := by kernel_rfl
theorem pgL_take : ∀ (l : List Pg) (i : Nat), (pgL l).take (i * 11) = pgL (l.take i)
  | l, 0 => by simp [pgL]
  | [], i + 1 => by simp [pgL]
  | x :: l, i + 1 => by
    have := pgL_take l i
    rw [show (i + 1) * 11 = i * 11 + 1 + 1 + 1 + 1 + 1 + 1 + 1 + 1 + 1 + 1 + 1 by omega]
    simpa [pgL, pgC] using this
theorem pgL_drop : ∀ (l : List Pg) (i : Nat), (pgL l).drop (i * 11) = pgL (l.drop i)
  | l, 0 => by simp
  | [], i + 1 => by simp [pgL]
  | x :: l, i + 1 => by
    have := pgL_drop l i
    rw [show (i + 1) * 11 = i * 11 + 1 + 1 + 1 + 1 + 1 + 1 + 1 + 1 + 1 + 1 + 1 by omega]
    simpa [pgL, pgC] using this
theorem p_append0 (ty : TypeId) (base xo : Option Addr) (n cap xc : Nat) (h : n ≤ cap) (w : World) : (Builtin.append_ #[44, 44] ty #[.slice base n cap, .slice xo 0 xc]).run Tryz.prog w = .ok (.slice base n cap) w := by
  obtain ⟨i0, hi, hz0, hz1, hz2⟩ := info_parts infoPp
  cases base <;> cases xo <;> simp [Builtin.append_, run_underlying Tryz.underlying44, sizeOf, typeInfo, hi, Builtin.lenOf, h, Builtin.firstCells, storeCells, loadCells, loadCellsFrom]
theorem p_append_at (ty : TypeId) (W : World) (B : Nat) (v : Value) (xo : Option Addr) (xc : Nat) (l m : List Pg) (ho : W.ownsRow B 38 11 v l.length (pgL l)) (hx : m = [] ∨ ∃ ad, xo = some ad ∧ ∀ j u, (pgL m)[j]? = some u → W.cell? (ad.add j) = some u) (hB : B ≤ W.heap.size) (hle : l.length + m.length ≤ 1073741824) :
    ∃ v' W', (Builtin.append_ #[44, 44] ty #[v, .slice xo m.length xc]).run Tryz.prog W = .ok v' W' ∧ W'.ownsRow B 38 11 v' (l ++ m).length (pgL (l ++ m)) ∧ W.grownBy W' v.ownBlock ∧ (∀ k, v'.ownBlock = some k → v.ownBlock = some k ∨ k = W.heap.size) := by
  obtain ⟨i0, hi, hz0, hz1, hz2⟩ := info_parts infoPp
  by_cases hm : m = []
  · subst hm
    obtain ⟨ao, c1, rfl⟩ := own_shape3 ho
    have hc : l.length ≤ c1 := by
      rcases own_form ho with ⟨hv, h0⟩ | ⟨g, cap, hv, _, h1, _⟩
      · omega
      · cases hv; exact h1
    exact ⟨_, W, p_append0 ty ao xo _ c1 xc hc W, by simpa using ho, Hs.grown_refl _ _, fun k hk => .inl hk⟩
  · have hpos : 0 < m.length := List.length_pos_iff.2 hm
    rcases hx with h0 | ⟨ad, rfl, hnews⟩
    · exact absurd h0 hm
    obtain ⟨g2, cap2, W', hr, h2, h3, h4, _⟩ := run_append_lies (P := Tryz.prog) W 44 ty B 38 i0 _ 11 32 Tryz.underlying44 hi hz0 hz1 hz2 rfl (by decide) v l.length (pgL l) ho ad m.length xc (pgL m) (pgL_length m) hnews (pgL_one m) hpos (by unfold maxLen; omega) (by omega) hB _ rfl
    refine ⟨_, W', hr, by rw [List.length_append, pgL_append]; exact h2, h3, fun k hk => ?_⟩
    obtain rfl : g2 = k := by simpa [Value.ownBlock] using hk
    exact h4
theorem p_append (ty : TypeId) (W : World) (B : Nat) (v : Value) (xo : Option Addr) (xc : Nat) (l m : List Pg) {e B2 : Nat} (ho : W.ownsRow B 38 11 v l.length (pgL l)) (hx : W.ownsRow B2 e 11 (.slice xo m.length xc) m.length (pgL m)) (hB : B ≤ W.heap.size) (hle : l.length + m.length ≤ 1073741824) :
    ∃ v' W', (Builtin.append_ #[44, 44] ty #[v, .slice xo m.length xc]).run Tryz.prog W = .ok v' W' ∧ W'.ownsRow B 38 11 v' (l ++ m).length (pgL (l ++ m)) ∧ W.grownBy W' v.ownBlock ∧ (∀ k, v'.ownBlock = some k → v.ownBlock = some k ∨ k = W.heap.size) := by
  refine p_append_at ty W B v xo xc l m ho ?_ hB hle
  rcases own_form hx with ⟨_, h0⟩ | ⟨g, cap, hv, hg, hnc, hcm⟩
  · exact .inl (List.eq_nil_of_length_eq_zero h0)
  · simp only [Value.slice.injEq, true_and] at hv
    obtain ⟨rfl, rfl⟩ := hv
    exact .inr ⟨_, rfl, hx.cells hg⟩
theorem pcells_take {w : World} {B e g n cap : Nat} {l : List Pg} (h : w.ownsRow B e 11 (.slice (some ⟨g, 0, none⟩) n cap) l.length (pgL l)) (p : Nat) : ∀ j u, (pgL (l.take p))[j]? = some u → w.cell? ((⟨g, 0, none⟩ : Addr).add j) = some u := fun j u hj => by
  refine h.cells rfl j u ?_
  rw [← pgL_take, List.getElem?_take] at hj
  split at hj
  · exact hj
  · cases hj
theorem pcells_drop {w : World} {B e g n cap : Nat} {l : List Pg} (h : w.ownsRow B e 11 (.slice (some ⟨g, 0, none⟩) n cap) l.length (pgL l)) (p : Nat) : ∀ j u, (pgL (l.drop p))[j]? = some u → w.cell? ((⟨g, p * 11, none⟩ : Addr).add j) = some u := fun j u hj => by
  rw [← pgL_drop, List.getElem?_drop] at hj
  have := h.cells rfl _ u hj
  rw [addr_lit] at this ⊢
  rwa [Nat.zero_add] at this
/-! ### plain -/
/-- Where a page of an address belongs among the first k. -/
def kdn (out : List Pg) (va : Int) : Nat → Nat
  | 0 => 0
  | k + 1 => if va < (pat out k).va then kdn out va k else k + 1
def insP (out : List Pg) (p : Pg) : List Pg := out.take (kdn out p.va out.length) ++ [p] ++ out.drop (kdn out p.va out.length)
def stpP (s : Int) (out : List Pg) (x : SPg) : List Pg := if x.sp = s then insP out x.p else out
def dpgs (l : List SPg) (s : Int) : List Pg := l.foldl (stpP s) []
theorem kdn_le (out : List Pg) (va : Int) : ∀ k, kdn out va k ≤ k
  | 0 => Nat.le_refl _
  | k + 1 => by
    unfold kdn; split
    · exact Nat.le_succ_of_le (kdn_le out va k)
    · exact Nat.le_refl _
theorem insP_len (out : List Pg) (p : Pg) : (insP out p).length = out.length + 1 := by
  have := kdn_le out p.va out.length
  unfold insP
  simp only [List.length_append, List.length_take, List.length_drop, List.length_cons, List.length_nil]
  omega
theorem dpgs_succ {l : List SPg} {s : Int} {j : Nat} (h : j < l.length) : dpgs (l.take (j + 1)) s = stpP s (dpgs (l.take j) s) (sat l j) := by
  unfold dpgs
  rw [List.take_add_one, sat_eq l j h]
  simp
theorem dpgs_len (l : List SPg) (s : Int) : ∀ j, j ≤ l.length → (dpgs (l.take j) s).length ≤ j
  | 0, _ => by simp [dpgs]
  | j + 1, h => by
    rw [dpgs_succ (by omega)]
    have := dpgs_len l s j (by omega)
    unfold stpP; split
    · rw [insP_len]; omega
    · omega
end Go.Proofs.YtffpfceclhogoaaGreat.Hp
namespace Go.Proofs.YtffpfceclhogoaaGreat.Hp
open Fld Hs
open Go.ChangeShapes Go.WideShapes Go.ChangeAt Go.RowKit Go.Maps
set_option maxHeartbeats 4000000
set_option maxRecDepth 100000
/-- A hat in a box and a list under way. -/
structure PJ2 (u w : World) (xb : Nat) (ns bl : Int) (v : Value) (l : List SPg) (s : Value) (n : Nat) (LT : Nat → List Hs.Bk) (U : Nat → Value) (o : Value) (L : List Pg) : Prop where
  dx : DX u w xb ns bl v l s n LT U
  own : w.ownsRow u.heap.size 38 11 o L.length (pgL L)
theorem PJ2.low {u w w' : World} {xb : Nat} {ns bl : Int} {v : Value} {l : List SPg} {s : Value} {n : Nat} {LT : Nat → List Hs.Bk} {U : Nat → Value} {o : Value} {L : List Pg} (h : PJ2 u w xb ns bl v l s n LT U o L) (hb : Below w.heap.size w w') : PJ2 u w' xb ns bl v l s n LT U o L :=
  ⟨h.dx.low hb, own_same h.own (fun g hg => hb.block g (h.own.lt g hg).2)⟩
theorem own_lower {w : World} {B B0 e s n : Nat} {v : Value} {xs : List Value} (h : w.ownsRow B e s v n xs) (hb : B0 ≤ B) : w.ownsRow B0 e s v n xs := by
  refine ⟨h.1, ?_⟩
  rcases h.2 with hn | ⟨g, cap, cur, rfl, h0, rest⟩
  · exact .inl hn
  · exact .inr ⟨g, cap, cur, rfl, Nat.le_trans hb h0, rest⟩
section
variable {v : Value} {l : List SPg} {t : Value} {n : Nat} {LT : Nat → List Hs.Bk} {U : Nat → Value}
theorem dpages_any (ns bl s : Int) (w : World) (h : DH w v l t n LT U) :
    Calls Tryz.prog 40 #[.agg #[.int .i64 ns, v, .int .i64 bl, t], .int .i64 s] w fun e w' => ∃ o, e = .returned o ∧ w'.ownsRow w.heap.size 38 11 o (dpgs l s).length (pgL (dpgs l s)) ∧ Below w.heap.size w w' := by
  have X := DX.new h ns bl
  obtain ⟨⟨ao, cap, rfl⟩, g2, cap2, rfl⟩ := h.shape
  have hl := h.few
  clear h
  go_enter Tryz.func40, Tryz.ntmps40
  go_wp2_with fail
  generalize World.alloc w _ = W at *
  go_loopw [5, 6] (fun o i wr => ∃ j : Nat, i = .int .i64 (j : Int) ∧ j ≤ l.length ∧ PJ2 w wr w.heap.size ns bl (.slice ao l.length cap) l (.slice (some ⟨g2, 0, none⟩) n cap2) n LT U o (dpgs (l.take j) s)) (fun _ i _ => l.length - (RowKit.intOf i).toNat)
  case atStart => exact ⟨0, rfl, Nat.zero_le _, X, World.ownsRow_nil _ _ _ 11⟩
  case round =>
    clear X
    obtain ⟨j, rfl, hj, X⟩ := hrel
    obtain ⟨L, hLL⟩ : ∃ L, L = dpgs (l.take j) s := ⟨_, rfl⟩
    rw [← hLL] at X
    obtain ⟨x0, x1, x2, x3⟩ := X.dx.cs
    obtain ⟨oo, oc, rfl⟩ := own_shape3 X.own
    by_cases hlt : j < l.length
    · have hlt' : (j : Int) < (l.length : Int) := by omega
      have hO := X.dx.dh.own
      rcases own_form hO with ⟨_, h0⟩ | ⟨g, cap3, hv, hgb, hnc, hcm⟩
      · omega
      · obtain ⟨y0, y1, y2, y3, y4, y5, y6, y7, y8, y9, y10, y11⟩ := own_sp hO hgb hlt
        simp only [Value.slice.injEq, true_and] at hv
        obtain ⟨rfl, rfl⟩ := hv
        unfold maxLen at hcm
        have hsp := Lib.hid (dpgs_succ (s := s) hlt)
        have hL0 := dpgs_len l s j (by omega)
        rw [← hLL] at hsp hL0
        clear hLL
        by_cases hq : (sat l j).sp = s
        · rw [hq] at y0
          have hI := Lib.hid (show dpgs (l.take (j + 1)) s = insP L (sat l j).p by rw [hsp.out]; unfold stpP; rw [if_pos hq])
          obtain ⟨q, hqq⟩ : ∃ q, q = (sat l j).p := ⟨_, rfl⟩
          rw [← hqq] at y1 y2 y3 y4 y5 y6 y7 y8 y9 y10 y11 hI
          have HQQ := Lib.hid hqq
          clear hqq hsp hq hO
          have XH := Lib.hid X
          go_upto_block 2 with fail
          go_cut [7] (fun k wx => k = .int .i64 ((kdn L q.va L.length : Nat) : Int) ∧ ∃ d, wx = wr.drewN d)
          case first =>
            go_wp2_with fail
            go_loopw [7] (fun k wr2 => ∃ m d : Nat, k = .int .i64 (m : Int) ∧ m ≤ L.length ∧ kdn L q.va L.length = kdn L q.va m ∧ wr2 = wr.drewN d) (fun k _ => (RowKit.intOf k).toNat)
            case atStart => exact ⟨L.length, 0, rfl, Nat.le_refl _, rfl, rfl⟩
            case round =>
              obtain ⟨m, d, rfl, hm, hk, rfl⟩ := hrel
              have HK := Lib.hid hk
              clear hk
              match m, hm, HK with
              | 0, hm, HK =>
                go_wp2_with fail
                go_region
                go_wp2_with fail
                go_meet
                exact ⟨by rw [HK.out]; rfl, d + 1, rfl⟩
              | m + 1, hm, HK =>
                have hmL : m < L.length := by omega
                have hmc : ((m + 1 : Nat) : Int) = (m : Int) + 1 := by omega
                rw [hmc]
                rcases own_form XH.out.own with ⟨_, h0⟩ | ⟨g4, cap4, hv4, hgb4, hnc4, hcm4⟩
                · omega
                obtain ⟨z0, z1, z2, z3, z4, z5, z6, z7, z8, z9, z10⟩ := own_page XH.out.own hgb4 hmL
                simp only [Value.slice.injEq, true_and] at hv4
                obtain ⟨rfl, rfl⟩ := hv4
                unfold maxLen at hcm4
                have hm1 : ((m : Int) + 1 > 0) := by omega
                have hm2 : (m : Int) + 1 - 1 = (m : Int) := by omega
                by_cases hlo : q.va < (pat L m).va
                · have HK2 := Lib.hid (show kdn L q.va L.length = kdn L q.va m by rw [HK.out]; show (if q.va < (pat L m).va then kdn L q.va m else m + 1) = _; rw [if_pos hlo])
                  clear HK
                  go_wp2_with fail
                  go_region
                  go_wp2_with fail
                  refine ⟨⟨m, d + 1, rfl, by omega, HK2.out, rfl⟩, ?_⟩
                  simp [RowKit.intOf]
                · have HK2 := Lib.hid (show kdn L q.va L.length = m + 1 by rw [HK.out]; show (if q.va < (pat L m).va then kdn L q.va m else m + 1) = _; rw [if_neg hlo])
                  clear HK
                  go_wp2_with fail
                  go_region
                  go_wp2_with fail
                  go_meet
                  exact ⟨by rw [HK2.out, hmc], d + 1, rfl⟩
          case rest =>
            obtain ⟨rfl, d, rfl⟩ := hcut
            have X0 := XH.out.low (below_drewN (Below.refl _ wr) d)
            clear XH X y0 y1 y2 y3 y4 y5 y6 y7 y8 y9 y10 y11 x0 x1 x2 x3
            obtain ⟨k, hk⟩ : ∃ k, k = kdn L q.va L.length := ⟨_, rfl⟩
            have hkl : k ≤ L.length := by rw [hk]; exact kdn_le _ _ _
            have hI2 := Lib.hid (show dpgs (l.take (j + 1)) s = (L.take k ++ [q]) ++ L.drop k by rw [hI.out, hk]; rfl)
            rw [← hk]
            clear hk hI
            have hlo := X0.dx.lo.size
            generalize World.drewN wr d = W0 at *
            have hO0 := X0.own
            have htl : (L.take k).length = k := by rw [List.length_take]; omega
            have hdl : (L.drop k).length = L.length - k := List.length_drop
            rcases own_form hO0 with ⟨hv, hn0⟩ | ⟨g4, cap4, hv, hgb4, hnc4, hcm4⟩
            · simp only [Value.slice.injEq] at hv
              obtain ⟨rfl, _, rfl⟩ := hv
              obtain rfl : L = [] := List.eq_nil_of_length_eq_zero hn0
              obtain rfl : k = 0 := by simpa using hkl
              simp only [List.take_nil, List.drop_nil, List.nil_append, List.append_nil, List.length_nil] at hI2 hO0 X0 ⊢
              have hr1 := p_append0 44 none none 0 0 0 (Nat.le_refl _) W0
              have hnew := heap_alloc_new W0 (.cells #[.int .u64 q.va, .int .i64 q.sz, .int .u64 q.pa, .bool q.att.write, .bool q.att.priv, .bool q.att.exec, .bool q.att.lock, .bool q.att.global, .bool q.att.quiet, .bool q.ref, .bool q.mod] 38)
              obtain ⟨v2, W2, hr2, ho2, hg2, _⟩ := p_append_at 44 (W0.alloc (.cells #[.int .u64 q.va, .int .i64 q.sz, .int .u64 q.pa, .bool q.att.write, .bool q.att.priv, .bool q.att.exec, .bool q.att.lock, .bool q.att.global, .bool q.att.quiet, .bool q.ref, .bool q.mod] 38)) W0.heap.size (.slice none 0 0) (some ⟨W0.heap.size, 0, none⟩) 1 [] [q] (World.ownsRow_nil _ _ _ 11) (.inr ⟨_, rfl, World.news_of_block hnew⟩) (by rw [World.size_alloc]; omega) (by simp)
              have b00 : Below W0.heap.size W0 (W0.alloc (.cells #[.int .u64 q.va, .int .i64 q.sz, .int .u64 q.pa, .bool q.att.write, .bool q.att.priv, .bool q.att.exec, .bool q.att.lock, .bool q.att.global, .bool q.att.quiet, .bool q.ref, .bool q.mod] 38)) := (Below.refl _ _).alloc (Nat.le_refl _) _
              have b02 : Below W0.heap.size W0 W2 := b00.grown hg2 b00.size (fun z hz => by cases hz)
              obtain ⟨ao2, c2, rfl⟩ := own_shape3 ho2
              simp only [List.length_nil, List.nil_append, List.length_cons, Nat.zero_add] at hr2 ho2
              have hc2 : 1 ≤ c2 := by
                rcases own_form ho2 with ⟨_, h0⟩ | ⟨_, cap5, hv5, _, h1, _⟩
                · cases h0
                · cases hv5; exact h1
              have hr3 := p_append0 44 ao2 none 1 c2 0 hc2 W2
              have X3 : PJ2 w W2 w.heap.size ns bl (.slice (some ⟨g, 0, none⟩) l.length cap) l (.slice (some ⟨g2, 0, none⟩) n cap2) n LT U (.slice ao2 1 c2) [q] := ⟨X0.dx.low b02, own_lower ho2 hlo⟩
              rw [← hI2.out] at X3
              have XH3 := Lib.hid X3
              obtain ⟨x0, x1, x2, x3⟩ := X0.dx.cs
              obtain ⟨y0, y1, y2, y3, y4, y5, y6, y7, y8, y9, y10, y11⟩ := own_sp X0.dx.dh.own hgb hlt
              rw [← HQQ.out] at y1 y2 y3 y4 y5 y6 y7 y8 y9 y10 y11
              have hjl : (j : Int) < (l.length : Int) := by omega
              have hj0 : (0 : Int) ≤ (j : Int) := by omega
              have HR1 := Lib.hid (show ∀ W, W = W0 → (Builtin.append_ #[44, 44] 44 #[.slice none 0 0, .slice none 0 0]).run Tryz.prog W = .ok (.slice none 0 0) W0 from fun W e => by rw [e]; exact hr1)
              clear hI2 HQQ X3 ho2 hg2 hnew b00 b02 hO0 X0 hr1 htl hdl hlo
              go_upto_region 11 with (at_builtin; refine Lib.wpList_append_run _ rfl _ _ 44 44 rfl _ _ rfl rfl _ _ (HR1.out _ rfl) ?_)
              go_upto_region 12 with (at_builtin; refine Lib.wpList_append_run _ rfl _ _ 44 44 rfl _ _ rfl rfl _ _ hr2 ?_)
              go_wp2_with (at_builtin; refine Lib.wpList_append_run _ rfl _ _ 44 44 rfl _ _ rfl rfl _ _ hr3 ?_)
              exact ⟨⟨j + 1, by go_num, by omega, XH3.out⟩, by simp [RowKit.intOf]; omega⟩
            · simp only [Value.slice.injEq, true_and] at hv
              obtain ⟨rfl, rfl⟩ := hv
              unfold maxLen at hcm4
              obtain ⟨v1, W1, hr1, ho1, hg1, _⟩ := p_append_at 44 W0 W0.heap.size (.slice none 0 0) (some ⟨g4, 0, none⟩) oc [] (L.take k) (World.ownsRow_nil _ _ _ 11) (.inr ⟨_, rfl, pcells_take hO0 k⟩) (Nat.le_refl _) (by simp; omega)
              rw [List.nil_append] at ho1
              have b01 : Below W0.heap.size W0 W1 := ⟨hg1.os, hg1.tape, hg1.output, hg1.size, fun q hq => hg1.block q hq (by simp [Value.ownBlock])⟩
              have X1 := X0.low b01
              have ho1a := ho1.alloc (.cells #[.int .u64 q.va, .int .i64 q.sz, .int .u64 q.pa, .bool q.att.write, .bool q.att.priv, .bool q.att.exec, .bool q.att.lock, .bool q.att.global, .bool q.att.quiet, .bool q.ref, .bool q.mod] 38)
              have hnew := heap_alloc_new W1 (.cells #[.int .u64 q.va, .int .i64 q.sz, .int .u64 q.pa, .bool q.att.write, .bool q.att.priv, .bool q.att.exec, .bool q.att.lock, .bool q.att.global, .bool q.att.quiet, .bool q.ref, .bool q.mod] 38)
              obtain ⟨v2, W2, hr2, ho2, hg2, _⟩ := p_append_at 44 (W1.alloc (.cells #[.int .u64 q.va, .int .i64 q.sz, .int .u64 q.pa, .bool q.att.write, .bool q.att.priv, .bool q.att.exec, .bool q.att.lock, .bool q.att.global, .bool q.att.quiet, .bool q.ref, .bool q.mod] 38)) W0.heap.size v1 (some ⟨W1.heap.size, 0, none⟩) 1 (L.take k) [q] ho1a (.inr ⟨_, rfl, World.news_of_block hnew⟩) (by have := b01.size; rw [World.size_alloc]; omega) (by simp; omega)
              have b02 : Below W0.heap.size W0 W2 := (b01.alloc b01.size _).grown hg2 (b01.alloc b01.size _).size (fun z hz => (ho1.lt z hz).1)
              have X2 := X0.low b02
              have hO2 := X2.own
              obtain ⟨ad, had⟩ : ∃ ad : Addr, ad = if oc = k then (⟨g4, 0, none⟩ : Addr) else ⟨g4, k * 11, none⟩ := ⟨_, rfl⟩
              obtain ⟨v3, W3, hr3, ho3, hg3, _⟩ := p_append_at 44 W2 W0.heap.size v2 (some ad) (oc - k) (L.take k ++ [q]) (L.drop k) ho2 (by
                by_cases hci : oc = k
                · exact .inl (List.eq_nil_of_length_eq_zero (by omega))
                · exact .inr ⟨ad, rfl, by rw [had, if_neg hci]; exact pcells_drop hO2 k⟩) b02.size (by rw [List.length_append, htl, hdl]; simp; omega)
              have b03 : Below W0.heap.size W0 W3 := b02.grown hg3 b02.size (fun z hz => (ho2.lt z hz).1)
              have X3 : PJ2 w W3 w.heap.size ns bl (.slice (some ⟨g, 0, none⟩) l.length cap) l (.slice (some ⟨g2, 0, none⟩) n cap2) n LT U v3 (L.take k ++ [q] ++ L.drop k) := ⟨X0.dx.low b03, own_lower ho3 hlo⟩
              obtain ⟨ao1, c1, rfl⟩ := own_shape3 ho1
              obtain ⟨ao2, c2, rfl⟩ := own_shape3 ho2
              obtain ⟨ao3, c3, rfl⟩ := own_shape3 ho3
              have hlen2 : (L.take k ++ [q]).length = k + 1 := by rw [List.length_append, htl]; rfl
              have hlen3 : (L.take k ++ [q] ++ L.drop k).length = L.length + 1 := by rw [List.length_append, hlen2, hdl]; omega
              rw [htl] at hr1 hr2
              rw [hlen2] at hr2 hr3
              rw [hdl, hlen3] at hr3
              rw [hlen3] at X3
              rw [← hI2.out] at X3
              obtain ⟨x0, x1, x2, x3⟩ := X1.dx.cs
              obtain ⟨y0, y1, y2, y3, y4, y5, y6, y7, y8, y9, y10, y11⟩ := own_sp X1.dx.dh.own hgb hlt
              rw [← HQQ.out] at y1 y2 y3 y4 y5 y6 y7 y8 y9 y10 y11
              have hjl : (j : Int) < (l.length : Int) := by omega
              have hj0 : (0 : Int) ≤ (j : Int) := by omega
              have hk0 : (0 : Int) ≤ (k : Int) := by omega
              have hk1 : (k : Int) ≤ (L.length : Int) := by omega
              have hk2 : (k : Int) ≤ (oc : Int) := by omega
              have hk3 : (L.length : Int) ≤ (oc : Int) := by omega
              have XH3 := Lib.hid X3
              have HR1 := Lib.hid (show ∀ W, W = W0 → (Builtin.append_ #[44, 44] 44 #[.slice none 0 0, .slice (some ⟨g4, 0, none⟩) k oc]).run Tryz.prog W = .ok (.slice ao1 k c1) W1 from fun W e => by rw [e]; exact hr1)
              have HAD := Lib.hid had
              clear had hI2 HQQ X3 ho1 ho1a hg1 ho2 hg2 ho3 hg3 hnew b01 b02 b03 hO2 hO0 X0 X1 X2 hr1 htl hdl hlen2 hlen3 hlo
              by_cases hci : oc = k
              · have had : ad = ⟨g4, 0, none⟩ := by rw [HAD.out, if_pos hci]
                subst had
                subst hci
                rw [show L.length - oc = 0 by omega, Nat.sub_self] at hr3
                go_upto_region 11 with (at_builtin; refine Lib.wpList_append_run _ rfl _ _ 44 44 rfl _ _ rfl rfl _ _ (HR1.out _ rfl) ?_)
                go_upto_region 12 with (at_builtin; refine Lib.wpList_append_run _ rfl _ _ 44 44 rfl _ _ rfl rfl _ _ hr2 ?_)
                go_wp2_with (at_builtin; refine Lib.wpList_append_run _ rfl _ _ 44 44 rfl _ _ rfl rfl _ _ hr3 ?_)
                exact ⟨⟨j + 1, by go_num, by omega, XH3.out⟩, by simp [RowKit.intOf]; omega⟩
              · have had : ad = ⟨g4, k * 11, none⟩ := by rw [HAD.out, if_neg hci]
                subst had
                go_upto_region 11 with (at_builtin; refine Lib.wpList_append_run _ rfl _ _ 44 44 rfl _ _ rfl rfl _ _ (HR1.out _ rfl) ?_)
                go_upto_region 12 with (at_builtin; refine Lib.wpList_append_run _ rfl _ _ 44 44 rfl _ _ rfl rfl _ _ hr2 ?_)
                go_wp2_with (at_builtin; refine Lib.wpList_append_run _ rfl _ _ 44 44 rfl _ _ rfl rfl _ _ hr3 ?_)
                exact ⟨⟨j + 1, by go_num, by omega, XH3.out⟩, by simp [RowKit.intOf]; omega⟩
        · have hne : ((sat l j).sp != s) = true := by simpa using hq
          have hI := Lib.hid (show dpgs (l.take (j + 1)) s = L by rw [hsp.out]; unfold stpP; rw [if_neg hq])
          have XH := Lib.hid X
          clear hsp hq hO X
          go_wp2_with fail
          refine ⟨⟨j + 1, by go_num, by omega, by rw [hI.out]; exact XH.out⟩, ?_⟩
          simp [RowKit.intOf]; omega
    · obtain rfl : j = l.length := by omega
      rw [List.take_length] at hLL
      subst hLL
      have XH := Lib.hid X
      clear X
      go_wp2_with fail
      go_ret
      exact ⟨_, rfl, XH.out.own, XH.out.dx.lo⟩
end
end Go.Proofs.YtffpfceclhogoaaGreat.Hp
