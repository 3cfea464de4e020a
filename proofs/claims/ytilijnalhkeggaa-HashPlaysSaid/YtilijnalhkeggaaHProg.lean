/-
  Contracts of package hash: May, Chain, find. Conditions: a key's numbers are those that Go's types hold; a table that is there.
-/
import Derived.Test.YtilijnalhkeggaaHRow
import Derived.Test.YtilijnalhkeggaaPRef
import Derived.Deep.RegionHeld3
namespace Go.Proofs.Ytilijnalhkeggaa.Hs
open Fld
open Go.ChangeShapes Go.WideShapes Go.ChangeAt Go.RowKit Go.Maps
set_option maxHeartbeats 1000000
set_option maxRecDepth 100000
theorem kmay_any (k : Ky) (h : k.wf) (w : World) :
    Calls Try.prog 17 #[.agg #[.int .i64 k.sp, .int .u64 k.va, .int .i64 k.sz]] w fun e w' => e = .returned (.bool (kmayB k)) ∧ Below w.heap.size w w' := by
  obtain ⟨s0, s1, v0, v1, z0, z1⟩ := h
  by_cases h0 : 0 ≤ k.sp
  · by_cases h1 : k.sp < 64
    · have H := Lib.hid (show kmayB k = startsB k.va k.sz by unfold kmayB; rw [decide_eq_true h0, decide_eq_true h1]; rfl)
      go_enter Try.func17, Try.ntmps17
      go_wp2_with (first | (go_at_call 43; refine (starts_any _ _ v0 v1 _).mono ?_; rintro e w' ⟨rfl, m, rfl⟩))
      go_ret
      exact ⟨ret_bool H.out.symm, below_drewN ((Below.refl _ _).alloc (Nat.le_refl _) _) _⟩
    · have H := Lib.hid (show kmayB k = false by unfold kmayB; rw [decide_eq_false h1]; simp)
      go_enter Try.func17, Try.ntmps17
      go_wp2_with (first | (go_at_call 43; refine (starts_any _ _ v0 v1 _).mono ?_; rintro e w' ⟨rfl, m, rfl⟩))
      go_ret
      exact ⟨ret_bool H.out.symm, (Below.refl _ _).alloc (Nat.le_refl _) _⟩
  · have H := Lib.hid (show kmayB k = false by unfold kmayB; rw [decide_eq_false h0]; rfl)
    go_enter Try.func17, Try.ntmps17
    go_wp2_with (first | (go_at_call 43; refine (starts_any _ _ v0 v1 _).mono ?_; rintro e w' ⟨rfl, m, rfl⟩))
    go_ret
    exact ⟨ret_bool H.out.symm, (Below.refl _ _).alloc (Nat.le_refl _) _⟩
/-- What Chain answers. -/
def chI (k : Ky) (n : Nat) : Int := if sizeB k.sz then sumI k % 18446744073709551616 % (n : Int) else 0
def chN (k : Ky) (n : Nat) : Nat := (chI k n).toNat
theorem chI_bd (k : Ky) {n : Nat} (hn : 1 ≤ n) : 0 ≤ chI k n ∧ chI k n < n := by
  unfold chI
  split
  · exact ⟨Int.emod_nonneg _ (by omega), Int.emod_lt_of_pos _ (by omega)⟩
  · omega
theorem chN_lt (k : Ky) {n : Nat} (hn : 1 ≤ n) : chN k n < n := by have := chI_bd k hn; unfold chN; omega
theorem chI_nat (k : Ky) {n : Nat} (hn : 1 ≤ n) : chI k n = (chN k n : Int) := by have := chI_bd k hn; unfold chN; omega
theorem chI_ok {k : Ky} (h : k.Ok) (n : Nat) : chI k n = chainI k n := by
  obtain ⟨_, _, c, _⟩ := kmay_parts h.may
  obtain ⟨_, _, a, b⟩ := sum_bd h
  unfold chI chainI
  rw [if_pos c, Int.emod_eq_of_lt (b := 18446744073709551616) a (by omega)]
theorem chN_ok {k : Ky} (h : k.Ok) (n : Nat) : chN k n = chainN k n := by unfold chN chainN; rw [chI_ok h]
theorem chain_any (k : Ky) (h : k.wf) (n : Nat) (hn : 1 ≤ n) (hn1 : n ≤ 9223372036854775807) (w : World) :
    Calls Try.prog 15 #[.agg #[.int .i64 k.sp, .int .u64 k.va, .int .i64 k.sz], .int .i64 (n : Int)] w fun e w' => e = .returned (.int .i64 (chI k n)) ∧ Below w.heap.size w w' := by
  obtain ⟨s0, s1, v0, v1, z0, z1⟩ := h
  have k1 : ¬ (n : Int) < 1 := by omega
  cases hs : sizeB k.sz
  · have H := Lib.hid (show chI k n = 0 by unfold chI; rw [hs]; rfl)
    go_enter Try.func15, Try.ntmps15
    go_wp2_with (first | (go_at_call 41; refine (same_sym (pmay_any k.sz _)).mono ?_; rintro e w' ⟨rfl, rfl⟩; rw [hs]) | (go_at_call 41; refine (pmay_any k.sz _).mono ?_; rintro e w' ⟨rfl, rfl⟩))
    go_ret
    exact ⟨ret_int H.out.symm, (Below.refl _ _).alloc (Nat.le_refl _) _⟩
  · have hz := sizeB_true hs
    have hB : 8192 ≤ bytesI k.sz ∧ bytesI k.sz ≤ 4194304 := by rcases hz with e | e | e | e <;> rw [e] <;> decide
    have H := Lib.hid (show chI k n = (k.va / bytesI k.sz + 7 * k.sz + 31 * k.sp) % 18446744073709551616 % (n : Int) by unfold chI sumI; rw [if_pos hs])
    have CB := Lib.hid (fun w => bytes_any k.sz w)
    have hq0 : 0 ≤ k.va / bytesI k.sz := Int.ediv_nonneg v0 (by omega)
    have hq1 : k.va / bytesI k.sz ≤ 18446744073709551615 := Int.le_trans (Int.ediv_le_self _ v0) v1
    have hnz : ¬ bytesI k.sz = 0 := by omega
    generalize bytesI k.sz = B at *
    go_enter Try.func15, Try.ntmps15
    go_wp2_with (first | (go_at_call 41; refine (same_sym (pmay_any k.sz _)).mono ?_; rintro e w' ⟨rfl, rfl⟩; rw [hs]))
    go_quiet (first | (go_at_call 42; exact Calls.quiet_of_same (same_sym (CB.out _))))
    go_wp2
    go_ret
    have e : IntKind.u64.wrap (IntKind.u64.wrap (k.va / B + 7 * k.sz) + IntKind.u64.wrap (31 * IntKind.u64.wrap k.sp)) = (k.va / B + 7 * k.sz + 31 * k.sp) % 18446744073709551616 := by
      simp only [IntKind.wrap_u64]; omega
    refine ⟨ret_int ?_, below_drewN ((Below.refl _ _).alloc (Nat.le_refl _) _) _⟩
    rw [e, H.out]
    have e1 : 0 ≤ (k.va / B + 7 * k.sz + 31 * k.sp) % 18446744073709551616 := Int.emod_nonneg _ (by omega)
    generalize (k.va / B + 7 * k.sz + 31 * k.sp) % 18446744073709551616 = S at *
    rw [Int.tmod_eq_emod_of_nonneg e1]
    have e2 : 0 ≤ S % (n : Int) := Int.emod_nonneg _ (by omega)
    have e3 : S % (n : Int) < n := Int.emod_lt_of_pos _ (by omega)
    unfold wrap64; omega
/-! ### Keys held against each other -/
theorem field_is {d : Nat} {xs ys : Array Value} {f : Field} {fs : List Field} {a b : Value} {r c : Bool} (hn : f.name ≠ "_") (ha : ∀ w, (part f.type xs f.offset).run Try.prog w = .ok a w) (hb : ∀ w, (part f.type ys f.offset).run Try.prog w = .ok b w) (hr : ∀ w, (Op.equalIn d f.type a b).run Try.prog w = .ok r w)
    (hrest : ∀ w, (Op.eqFields d xs ys fs).run Try.prog w = .ok c w) : ∀ w, (Op.eqFields d xs ys (f :: fs)).run Try.prog w = .ok (r && c) w := by
  intro w
  unfold Op.eqFields
  rw [if_pos hn]
  simp only [Sem.run_bind, ha, hb, hr, Result.andThen_ok]
  cases r
  · simp
  · simp [hrest]
theorem key_and (a b : Ky) : keyEq a b = (a.sp == b.sp && (a.va == b.va && (a.sz == b.sz && true))) := by
  unfold keyEq; cases (a.sp == b.sp) <;> cases (a.va == b.va) <;> cases (a.sz == b.sz) <;> rfl
theorem key_is (a b : Ky) : ∀ w : World, (binOp .eql 41 (.agg #[.int .i64 a.sp, .int .u64 a.va, .int .i64 a.sz]) (.agg #[.int .i64 b.sp, .int .u64 b.va, .int .i64 b.sz])).run Try.prog w = .ok (.bool (keyEq a b)) w := by
  have key : ∀ w, (Op.equalIn 10000 41 (.agg #[.int .i64 a.sp, .int .u64 a.va, .int .i64 a.sz]) (.agg #[.int .i64 b.sp, .int .u64 b.va, .int .i64 b.sz])).run Try.prog w = .ok (keyEq a b) w := by
    have h := run_equalIn_struct (P := Try.prog) (d := 9999) (t := 41) (xs := #[.int .i64 a.sp, .int .u64 a.va, .int .i64 a.sz]) (ys := #[.int .i64 b.sp, .int .u64 b.va, .int .i64 b.sz]) (ht := by kernel_rfl) (hp := by kernel_rfl)
    simp only [h]
    have hf : (Try.prog.fieldsOf 41).toList = (match Try.prog.underlying 41 with | some (.struct fs) => fs | _ => #[]).toList := rfl
    rw [hf, Try.underlying41, key_and]
    refine field_is (a := .int .i64 a.sp) (b := .int .i64 b.sp) (r := a.sp == b.sp) (by decide) (fun w => by go_simp) (fun w => by go_simp) (fun w => run_equalIn_int w 9998 3 .i64 .i64 _ _ Try.underlying3) ?_
    refine field_is (a := .int .u64 a.va) (b := .int .u64 b.va) (r := a.va == b.va) (by decide) (fun w => by go_simp) (fun w => by go_simp) (fun w => run_equalIn_int w 9998 31 .u64 .u64 _ _ Try.underlying31) ?_
    refine field_is (a := .int .i64 a.sz) (b := .int .i64 b.sz) (r := a.sz == b.sz) (by decide) (fun w => by go_simp) (fun w => by go_simp) (fun w => run_equalIn_int w 9998 3 .i64 .i64 _ _ Try.underlying3) ?_
    exact fun w => rfl
  intro w
  rw [run_eql_struct, key]; rfl
theorem kk_is (a b : Ky) : ∀ w : World, (binOp .eql 33 (.agg #[.int .i64 a.sp, .int .u64 a.va, .int .i64 a.sz]) (.agg #[.int .i64 b.sp, .int .u64 b.va, .int .i64 b.sz])).run Try.prog w = .ok (.bool (keyEq a b)) w := by
  have key : ∀ w, (Op.equalIn 10000 33 (.agg #[.int .i64 a.sp, .int .u64 a.va, .int .i64 a.sz]) (.agg #[.int .i64 b.sp, .int .u64 b.va, .int .i64 b.sz])).run Try.prog w = .ok (keyEq a b) w := by
    have h := run_equalIn_struct (P := Try.prog) (d := 9999) (t := 33) (xs := #[.int .i64 a.sp, .int .u64 a.va, .int .i64 a.sz]) (ys := #[.int .i64 b.sp, .int .u64 b.va, .int .i64 b.sz]) (ht := by kernel_rfl) (hp := by kernel_rfl)
    simp only [h]
    have hf : (Try.prog.fieldsOf 33).toList = (match Try.prog.underlying 33 with | some (.struct fs) => fs | _ => #[]).toList := rfl
    rw [hf, Try.underlying33, key_and]
    refine field_is (a := .int .i64 a.sp) (b := .int .i64 b.sp) (r := a.sp == b.sp) (by decide) (fun w => by go_simp) (fun w => by go_simp) (fun w => run_equalIn_int w 9998 3 .i64 .i64 _ _ Try.underlying3) ?_
    refine field_is (a := .int .u64 a.va) (b := .int .u64 b.va) (r := a.va == b.va) (by decide) (fun w => by go_simp) (fun w => by go_simp) (fun w => run_equalIn_int w 9998 31 .u64 .u64 _ _ Try.underlying31) ?_
    refine field_is (a := .int .i64 a.sz) (b := .int .i64 b.sz) (r := a.sz == b.sz) (by decide) (fun w => by go_simp) (fun w => by go_simp) (fun w => run_equalIn_int w 9998 3 .i64 .i64 _ _ Try.underlying3) ?_
    exact fun w => rfl
  intro w
  rw [run_eql_struct, key]; rfl
/-! ### find -/
/-- A table, and a key in a box. -/
structure FK (w : World) (sb bm n : Nat) (bl : Int) (L : Nat → List Bk) (V : Nat → Value) (hs : Nat) (k : Ky) : Prop where
  tab : TabAt w sb bm n bl L V
  box : w.heap[hs]? = some (.cells #[.int .i64 k.sp, .int .u64 k.va, .int .i64 k.sz] 41 (0, 0))
section
variable {w : World} {sb bm n : Nat} {bl : Int} {L : Nat → List Bk} {V : Nat → Value} {hs : Nat} {k : Ky}
theorem FK.drew (h : FK w sb bm n bl L V hs k) : FK w.drew sb bm n bl L V hs k := ⟨h.tab.drew, h.box⟩
theorem FK.drewN (h : FK w sb bm n bl L V hs k) (m : Nat) : FK (w.drewN m) sb bm n bl L V hs k := ⟨h.tab.drewN m, h.box⟩
theorem FK.call {w' : World} (h : FK w sb bm n bl L V hs k) (hb : Below w.heap.size w w') : FK w' sb bm n bl L V hs k :=
  ⟨h.tab.below hb (Nat.le_refl _), (hb.block _ (Array.getElem?_eq_some_iff.1 h.box).1).trans h.box⟩
theorem FK.new (h : TabAt w sb bm n bl L V) (k : Ky) : FK (w.alloc (.cells #[.int .i64 k.sp, .int .u64 k.va, .int .i64 k.sz] 41)) sb bm n bl L V w.heap.size k :=
  ⟨h.alloc _, heap_alloc_new w _⟩
theorem FK.cells (h : FK w sb bm n bl L V hs k) : w.cell? ⟨hs, 0, none⟩ = some (.int .i64 k.sp) ∧ w.cell? ⟨hs, 1, none⟩ = some (.int .u64 k.va) ∧ w.cell? ⟨hs, 2, none⟩ = some (.int .i64 k.sz) := by
  have := h.box
  exact ⟨by simp [World.cell?, this], by simp [World.cell?, this], by simp [World.cell?, this]⟩
theorem FK.lt (h : FK w sb bm n bl L V hs k) : hs < w.heap.size := (Array.getElem?_eq_some_iff.1 h.box).1
theorem FK.all (h : FK w sb bm n bl L V hs k) {c : Nat} (hc : c < n) {v : Value} (hv : V c = v) : w.cell? ⟨sb, 2, none⟩ = some (.int .i64 (n : Int)) ∧ w.cell? ⟨sb, 3, none⟩ = some (.map (some bm)) ∧ w.cell? ⟨hs, 0, none⟩ = some (.int .i64 k.sp) ∧ w.cell? ⟨hs, 1, none⟩ = some (.int .u64 k.va) ∧ w.cell? ⟨hs, 2, none⟩ = some (.int .i64 k.sz) ∧ (Instr.lookup 64 (.map (some bm)) (.int .i64 (c : Int)) false).run Try.prog w = .ok v w := by
  rw [← hv]
  obtain ⟨_, _, a, b, _⟩ := h.tab.cells
  obtain ⟨d, e, f⟩ := h.cells
  exact ⟨a, b, d, e, f, h.tab.lookN hc⟩
end
theorem bk_few {w : World} {sb bm n : Nat} {bl : Int} {L : Nat → List Bk} {V : Nat → Value} (h : TabAt w sb bm n bl L V) {c : Nat} (hc : c < n) : (L c).length ≤ 1073741824 := by
  have := len_one L hc; have := h.few; have := h.b1; omega
theorem below_undrew {w w' : World} (h : Below w.drew.heap.size w.drew w') : Below w.heap.size w w' := ⟨h.os, h.tape, h.output, h.size, h.block⟩
theorem ret_vi {v : Value} {a b : Int} (h : a = b) : Ending.returned (.tuple #[v, .int .i64 a]) = .returned (.tuple #[v, .int .i64 b]) := by rw [h]
theorem find_any {sb bm n : Nat} {bl : Int} {L : Nat → List Bk} {V : Nat → Value} (k : Ky) (hk : k.wf) (w : World) (h : TabAt w sb bm n bl L V) :
    Calls Try.prog 46 #[.pointer (some ⟨sb, 0, none⟩), .agg #[.int .i64 k.sp, .int .u64 k.va, .int .i64 k.sz]] w fun e w' => e = .returned (.tuple #[V (chN k n), .int .i64 (placeI (L (chN k n)) k)]) ∧ Below w.heap.size w w' := by
  have hn := h.n0
  have hn1 := h.n1
  have CC := Lib.hid (fun w => chain_any k hk n hn hn1 w)
  rw [chI_nat k hn] at CC
  have hc := chN_lt k hn
  have F := FK.new h k
  have B1 : Below w.heap.size w (w.alloc (.cells #[.int .i64 k.sp, .int .u64 k.va, .int .i64 k.sz] 41)) := (Below.refl _ _).alloc (Nat.le_refl _) _
  have s1 : (w.alloc (.cells #[.int .i64 k.sp, .int .u64 k.va, .int .i64 k.sz] 41)).heap.size = w.heap.size + 1 := by simp
  generalize chN k n = c at *
  obtain ⟨l, hl⟩ : ∃ l, L c = l := ⟨_, rfl⟩
  obtain ⟨v, hv0⟩ : ∃ v, V c = v := ⟨_, rfl⟩
  rw [hl, hv0]
  have HV := Lib.hid hv0
  have HL := Lib.hid hl
  go_enter Try.func46, Try.ntmps46
  go_wp2_with fail
  generalize World.alloc w _ = W1 at *
  have fa := F.all hc hv0
  go_region_held3 (fun w1 => w1.cell? ⟨sb, 2, none⟩ = some (.int .i64 (n : Int)) ∧ w1.cell? ⟨sb, 3, none⟩ = some (.map (some bm)) ∧ w1.cell? ⟨w.heap.size, 0, none⟩ = some (.int .i64 k.sp) ∧ w1.cell? ⟨w.heap.size, 1, none⟩ = some (.int .u64 k.va) ∧ w1.cell? ⟨w.heap.size, 2, none⟩ = some (.int .i64 k.sz) ∧ (Instr.lookup 64 (.map (some bm)) (.int .i64 (c : Int)) false).run Try.prog w1 = .ok v w1)
    ((refine FK.all (L := L) (bl := bl) (V := V) ?_ hc hv0; repeat (first | assumption | (refine FK.drew ?_))))
    (first | (go_at_call 15; (with_reducible refine (CC.out _).mono ?_); rintro e w3 ⟨rfl, hb3⟩; have F3 := F.drew.call hb3))
  have Q := F3.tab
  have hB3 : Below w.heap.size w w3 := B1.trans ((below_undrew hb3).mono (show w.heap.size ≤ W1.heap.size by omega))
  have K0 := F3
  clear fa CC hb3 B1 s1 F h
  have ho := Q.rows c hc
  have hle := bk_few Q hc
  rw [HL.out] at ho hle
  rw [HV.out] at ho
  clear HL HV hl hv0
  rcases own_form ho with ⟨rfl, h0⟩ | ⟨g, cap, rfl, hgb, hnc, hcm⟩
  · obtain rfl : l = [] := List.eq_nil_of_length_eq_zero h0
    clear Q ho K0 F3
    go_wp2_with fail
    go_loopw [21] (fun i wr => i = .int .i64 0 ∧ wr = w3) (fun i _ => 0)
    case atStart => exact ⟨rfl, rfl⟩
    case round =>
      obtain ⟨rfl, rfl⟩ := hrel
      go_wp2_with fail
      go_ret2
      exact ⟨rfl, hB3⟩
  · have hcell := fun i hi => own_rowC ho hgb (i := i) hi
    obtain ⟨x0, x1, x2⟩ := K0.cells
    clear Q ho K0 F3
    go_wp2_with fail
    go_loopw [21] (fun i wr => ∃ j m : Nat, j ≤ l.length ∧ i = .int .i64 (j : Int) ∧ (∀ i, i < j → keyEq (at_ l i).k k = false) ∧ wr = w3.drewN m) (fun i _ => l.length - (intOf i).toNat)
    case atStart => exact ⟨0, 0, by omega, rfl, fun k hk => absurd hk (Nat.not_lt_zero k), rfl⟩
    case round =>
      obtain ⟨j, m, hj, rfl, hno, rfl⟩ := hrel
      by_cases hlt : j < l.length
      · obtain ⟨y0, y1, y2, y3⟩ := hcell j hlt
        have hlt' : (j : Int) < (l.length : Int) := by omega
        have hj0 : (0 : Int) ≤ (j : Int) := by omega
        go_wp2_with fail
        have HK := key_is (at_ l j).k k
        have HN := Lib.hid hno
        clear hno
        cases hq : keyEq (at_ l j).k k
        · rw [hq] at HK
          go_quiet (fail)
          go_wp2_with fail
          go_roundw
          case rel => exact ⟨j + 1, m + nq, by omega, by go_num, fun k hk => (by by_cases e : k = j; rw [e]; exact hq; exact HN.out k (by omega)), rfl⟩
          case measure => simp [intOf]; omega
        · rw [hq] at HK
          obtain ⟨_, _, p3⟩ := place_here hlt HN.out hq
          go_quiet (fail)
          go_wp2_with fail
          go_ret2
          exact ⟨ret_vi p3.symm, by rw [World.drewN_drewN]; exact below_drewN hB3 _⟩
      · obtain rfl : l.length = j := by omega
        obtain ⟨p1, p2⟩ := place_none hno
        go_wp2_with fail
        go_ret2
        exact ⟨ret_vi p2.symm, below_drewN hB3 _⟩
end Go.Proofs.Ytilijnalhkeggaa.Hs
