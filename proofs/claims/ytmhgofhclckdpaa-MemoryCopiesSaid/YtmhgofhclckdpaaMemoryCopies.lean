/-
  MemoryCopies: for every bytes, places and number the law returns true, and its arguments read as before. Conditions: none.
-/
import Derived.Test.YtmhgofhclckdpaaRows
import Derived.WalkKit
import Derived.ProofKit
import Derived.OpenShut
import Derived.Test.YtmhgofhclckdpaaMEdge
import Derived.Deep.OwnRows
import Derived.ShutString
import Derived.ChangeOld
import Derived.Below
namespace Go.Proofs.Ytmhgofhclckdpaa.memoryCopies
open Fld
open Go.ChangeShapes Go.WideShapes Go.ChangeAt Go.RowKit
open Go.ChangeMaps (open_string shut_string)
set_option linter.unusedVariables false

theorem own : ownKnob Try.prog.godebug = none := by kernel_rfl
theorem laidOut : laidOutB Try.prog = true := by kernel_rfl

/-- WHAT THE WALK IS TOLD OF A SLICE OF INTEGERS THAT CAME IN: it is nil; or it leads to a row of 'cap' cells, the numbers 'zs' (the first 'len' are its elements, the rest its spare room), each fitting its kind. -/
def IsRow (k : IntKind) (w : World) (a : Option Addr) (len cap : Nat) (zs : List Int) : Prop :=
  (a = none ∧ len = 0 ∧ cap = 0 ∧ zs = []) ∨
  ∃ x, a = some x ∧ len ≤ cap ∧ cap ≤ maxLen ∧ zs.length = cap ∧ (∀ i, i < zs.length → w.cell? (x.add i) = some (.int k (zs.getD i 0))) ∧ ∀ n ∈ zs, (Lit.int k n).wf = true

open Mem
/-- A row of 300 bytes. -/
def rowF (h : Nat → Nat) : Array Value := ((List.range 300).map (fun i => Value.int .u8 ((h i : Nat) : Int))).toArray
theorem rowF_get (h : Nat → Nat) (j : Nat) (hj : j < 300) : (rowF h)[j]? = some (.int .u8 ((h j : Nat) : Int)) := by
  simp [rowF, List.getElem?_range hj]
theorem rowF_set (h : Nat → Nat) (j v : Nat) : (rowF h).setIfInBounds j (.int .u8 ((v : Nat) : Int)) = rowF (setB h j v) := by
  apply Array.ext_getElem?
  intro i
  rw [Array.getElem?_setIfInBounds]
  by_cases hi : i < 300
  · rw [rowF_get _ _ hi, rowF_get _ _ hi]
    by_cases e : j = i
    · subst e; simp [rowF, setB, hi]
    · have e2 : ¬ i = j := fun x => e x.symm
      simp [e, setB, e2]
  · have z : ∀ h : Nat → Nat, (rowF h)[i]? = none := fun h => by simp [rowF]; omega
    have zs : ¬ i < (rowF h).size := by simp [rowF]; omega
    rw [z, z]; split
    · rename_i e; subst e; simp [zs]
    · rfl
theorem made_row : madeCells #[Value.int .u8 0] 300 = rowF (fun _ => 0) := by kernel_rfl
theorem infoB : (Try.prog.info? 5).map (fun i => (i.zero, i.size, i.bytes)) = some (some (.int .u8 0), 1, 1) := by kernel_rfl
/-- The bytes z stand from 50 on, k of them. -/
def fill (z : Nat → Nat) (k : Nat) : Nat → Nat := fun a => if 50 ≤ a ∧ a < 50 + k then z (a - 50) else 0
theorem fill_zero (z : Nat → Nat) : fill z 0 = fun _ => 0 := by funext a; unfold fill; rw [if_neg (by omega)]
theorem fill_step (z : Nat → Nat) (k : Nat) : setB (fill z k) (50 + k) (z k) = fill z (k + 1) := by
  funext a; unfold setB fill
  by_cases e : a = 50 + k
  · rw [if_pos e, if_pos (by omega)]; congr 1; omega
  · rw [if_neg e]
    by_cases h : 50 ≤ a ∧ a < 50 + k
    · rw [if_pos h, if_pos (by omega)]
    · rw [if_neg h, if_neg (by omega)]
abbrev EO (W w : World) (sb S : Nat) (g : Nat → Nat) (ob : Nat) (h : Nat → Nat) : Prop := EK W w sb S g ob (rowF h) 5 ob (rowF h) 5
theorem EO.cell {W w : World} {sb S ob : Nat} {g h : Nat → Nat} (e : EO W w sb S g ob h) (j : Nat) (hj : j < 300) : w.cell? ⟨ob, j, none⟩ = some (.int .u8 ((h j : Nat) : Int)) := by
  simp [World.cell?, e.r, rowF_get h j hj]
theorem EO.free {W w : World} {sb S ob : Nat} {g h : Nat → Nat} (e : EO W w sb S g ob h) (j : Nat) : w.frozen? ⟨ob, j, none⟩ = false := by simp [World.frozen?, e.r]
theorem EO.store {W w : World} {sb S ob : Nat} {g h : Nat → Nat} (e : EO W w sb S g ob h) (hob : W.heap.size ≤ ob) (j v : Nat) : EO W (w.setCell ⟨ob, j, none⟩ (.int .u8 ((v : Nat) : Int))) sb S g ob (setB h j v) := by
  have hr := heap_set e.r (o := j) (.int .u8 ((v : Nat) : Int))
  rw [rowF_set] at hr
  obtain ⟨bm, a1, b1, c1, d1⟩ := e.has
  have nb : bm ≠ ob := fun e1 => by
    obtain ⟨D, ⟨es, clock, hb2, _⟩, _⟩ := d1.words
    rw [e1, e.r] at hb2; cases hb2
  exact ⟨⟨bm, a1, b1, c1.setCell hob _, d1.same (Below.heap_setCell _ _ _ _ e.rs.symm) (Below.heap_setCell _ _ _ _ nb)⟩, hr, hr, e.rs, e.rs⟩
theorem EO.putByte {W w : World} {sb S ob : Nat} {g h : Nat → Nat} (e : EO W w sb S g ob h) (a v : Int) (h0 : 0 ≤ a) (h1 : a + 1 ≤ S) (v0 : 0 ≤ v) (v1 : v < 256) :
    Calls Try.prog 18 #[.pointer (some ⟨sb, 0, none⟩), .int .u64 a, .int .u8 v] w fun r w' => r = .returned (.int .i64 0) ∧ EO W w' sb S (setB g a.toNat v.toNat) ob h := by
  obtain ⟨bm, a1, b1, c1, d1⟩ := e.has
  have hS := d1.good.le
  have hm : mayI S a 1 1 = 0 := may_ok (by omega) h1
  refine (putByte_any sb bm S g a v w d1 h0 (by omega) v0 v1).mono ?_
  rintro r w' ⟨rfl, M⟩
  unfold stB at M; rw [if_pos hm] at M
  exact ⟨by rw [hm], EK.to e a1 b1 c1 d1 M⟩
theorem start {w w1 : World} (H1 : Has w w1 (w.heap.size + 1) 300 (fun _ => 0)) : EO w (w1.alloc (.cells (rowF (fun _ => 0)) 5)) (w.heap.size + 1) 300 (fun _ => 0) w1.heap.size (fun _ => 0) := by
  have hs : w.heap.size + 1 < w1.heap.size := by obtain ⟨bm, _, _, _, d⟩ := H1; exact d.lt.1
  have hn : (w1.alloc (.cells (rowF (fun _ => 0)) 5)).heap[w1.heap.size]? = some (.cells (rowF (fun _ => 0)) 5 (0, 0)) := heap_alloc_new _ _
  exact ⟨H1.call ((Below.refl _ _).alloc (Nat.le_refl _) _), hn, hn, by omega, by omega⟩
def zf (zs : List Int) (j : Nat) : Nat := (zs.getD j 0).toNat
/-- What the walk needs of the bytes that came in. -/
theorem row_at {w : World} {a : Option Addr} {len cap : Nat} {zs : List Int} (h : IsRow .u8 w a len cap zs) (hp : 0 < len) :
    ∃ b off, a = some ⟨b, off, none⟩ ∧ len ≤ cap ∧ cap ≤ maxLen ∧ ∀ j, j < len → w.cell? ⟨b, off + j, none⟩ = some (.int .u8 ((zf zs j : Nat) : Int)) ∧ zf zs j < 256 := by
  rcases h with ⟨_, h0, _⟩ | ⟨x, rfl, h1, h2, h3, h4, h5⟩
  · omega
  · obtain ⟨b, off, rfl, hc⟩ := ints_at h4 (by omega)
    refine ⟨b, off, rfl, h1, h2, fun j hj => ?_⟩
    have hw := h5 (zs.getD j 0) (by rw [List.getD_eq_getElem?_getD, List.getElem?_eq_getElem (by omega)]; exact List.getElem_mem _)
    have hb := bounds_u8 hw
    unfold zf; exact ⟨by rw [hc j (by omega), Int.toNat_of_nonneg hb.1], by omega⟩
/-! ### The walk -/
set_option maxHeartbeats 4000000 in
set_option maxRecDepth 100000 in
theorem walk (a0 : Option Addr) (len0 cap0 : Nat) (z0 : List Int) (a1 : Int) (a2 : Int) (a3 : Int) (w : World) (w0 : IsRow .u8 w a0 len0 cap0 z0) (w1 : (Lit.int .u64 a1).wf = true) (w2 : (Lit.int .u64 a2).wf = true) (w3 : (Lit.int .u64 a3).wf = true) :
    Calls Try.prog 5 #[.slice a0 len0 cap0, .int .u64 a1, .int .u64 a2, .int .u64 a3] w fun e w' => e = .returned (.bool true) ∧ Below w.heap.size w w' := by
  obtain ⟨f0, f1⟩ := bounds_u64 w1
  obtain ⟨t0, t1⟩ := bounds_u64 w2
  obtain ⟨n0, n1⟩ := bounds_u64 w3
  clear w1 w2 w3
  obtain ⟨F, HF⟩ : ∃ F : Nat, a1 % 101 = (F : Int) := ⟨(a1 % 101).toNat, by omega⟩
  obtain ⟨T, HT⟩ : ∃ F : Nat, a2 % 101 = (F : Int) := ⟨(a2 % 101).toNat, by omega⟩
  obtain ⟨N, HN⟩ : ∃ F : Nat, a3 % 101 = (F : Int) := ⟨(a3 % 101).toNat, by omega⟩
  have F1 : F ≤ 100 := by omega
  have T1 : T ≤ 100 := by omega
  have N1 : N ≤ 100 := by omega
  have hmk : ∀ w : World, (Instr.makeSlice 43 (.int .i64 300) (.int .i64 300)).run Try.prog w = .ok (.slice (some ⟨w.heap.size, 0, none⟩) 300 300) (w.alloc (.cells (rowF (fun _ => 0)) 5)) := fun w => by
    rw [← made_row]; exact run_make_row' (P := Try.prog) 43 5 (.int .u8 0) 1 Try.underlying43 infoB rfl .i64 .i64 300 (by decide) (by decide) w
  have hlen : len0 ≤ 9223372036854775807 := by
    rcases w0 with ⟨_, h, _⟩ | ⟨_, _, h1, h2, _⟩
    · omega
    · unfold maxLen at h2; omega
  by_cases cc : 60 < len0
  · obtain ⟨b, off, rfl, hlc, hcm, hcell⟩ := row_at w0 (by omega)
    unfold maxLen at hcm
    go_enter Try.func5, Try.ntmps5
    go_wp2_with (go_at_call 8; refine (hnew 300 (by omega) _).mono ?_; rintro e w1 ⟨rfl, H1⟩)
    have hob : w.heap.size ≤ w1.heap.size := H1.below.size
    have E0 := start H1
    rw [← fill_zero (zf z0)] at E0
    clear hmk f0 f1 t0 t1 n0 n1 H1
    go_loopw [11] (fun i wr => ∃ k : Nat, k ≤ 60 ∧ i = .int .i64 (k : Int) ∧ EO w wr (w.heap.size + 1) 300 (fill (zf z0) k) w1.heap.size (fill (zf z0) k)) (fun i _ => 60 - (intOf i).toNat)
    case atStart => exact ⟨0, by omega, rfl, E0⟩
    case round =>
      obtain ⟨k, hk, rfl, E⟩ := hrel
      by_cases hlt : (k : Int) < 60
      · have hlt' : k < 60 := by omega
        obtain ⟨g1, g2⟩ := hcell k (by omega)
        have gw := (E.has.below.cell (p := ⟨b, off + k, none⟩) (World.block_lt_of_cell? w _ g1)).trans g1
        go_wp2_with fail
        refine (EO.putByte E _ _ (by omega) (by omega) (by omega) (by omega)).mono ?_
        rintro e w2 ⟨rfl, E2⟩
        have gw2 := (E2.has.below.cell (p := ⟨b, off + k, none⟩) (World.block_lt_of_cell? w _ g1)).trans g1
        have o1 := EO.cell E2 (50 + k) (by omega)
        have o2 := EO.free E2 (50 + k)
        rw [Int.toNat_natCast, show (50 + (k : Int)).toNat = 50 + k by omega, fill_step] at E2
        have E3 := EO.store E2 hob (50 + k) (zf z0 k)
        rw [fill_step] at E3
        go_wp2
        go_roundw
        case rel => exact ⟨k + 1, by omega, by go_num, E3⟩
        case measure => simp [intOf]; omega
      · obtain rfl : 60 = k := by omega
        clear E0
        have hm0 : cpErr 300 (F : Int) (T : Int) (N : Int) = 0 := by
          unfold cpErr; rw [if_pos (may_ok (by omega) (by omega))]; exact may_ok (by omega) (by omega)
        go_wp2_with (go_at_call 17; refine (E.copy _ _ _ (by omega) (by omega) (by omega) (by omega) (by omega) (by omega)).mono ?_; rintro e w2 ⟨rfl, E2⟩)
        have hcs : cpS 300 (fill (zf z0) 60) (F : Int) (T : Int) (N : Int) = cp (fill (zf z0) 60) F T N := by
          unfold cpS; rw [if_pos hm0, Int.toNat_natCast, Int.toNat_natCast, Int.toNat_natCast]
        rw [hcs] at E2
        clear hcs hm0
        have E2 : EO w w2 (w.heap.size + 1) 300 (cp (fill (zf z0) 60) F T N) w1.heap.size (fill (zf z0) 60) := E2
        generalize fill (zf z0) 60 = g at E E2
        clear E
        go_loopw [12] (fun i wr => ∃ k : Nat, k ≤ 300 ∧ i = .int .i64 (k : Int) ∧ EO w wr (w.heap.size + 1) 300 (cp g F T N) w1.heap.size g) (fun i _ => 300 - (intOf i).toNat)
        case atStart => exact ⟨0, by omega, rfl, E2⟩
        case round =>
          obtain ⟨k, hk, rfl, E⟩ := hrel
          by_cases hlt : (k : Int) < 300
          · have o1 := EO.cell E k (by omega)
            have bm : mayI ((300 : Nat) : Int) (k : Int) 1 1 = 0 := may_ok (by omega) (by omega)
            have bm' : mayI (300 : Int) (k : Int) 1 1 = 0 := bm
            by_cases c1 : (T : Int) ≤ (k : Int)
            · by_cases c2 : (k : Int) < (T : Int) + (N : Int)
              · have o3 := EO.cell E (F + k - T) (by omega)
                have hb : rdB 300 (cp g F T N) (k : Int) = ((g (F + k - T) : Nat) : Int) := by
                  unfold rdB cp; rw [if_pos bm, Int.toNat_natCast, if_pos (by omega), show F + k - T = k - T + F by omega]
                go_wp2_with (go_at_call 11; refine (E.byte _ (by omega) (by omega)).mono ?_; rintro e w3 ⟨rfl, E3⟩)
                go_roundw
                case rel => exact ⟨k + 1, by omega, by go_num, E3⟩
                case measure => simp [intOf]; omega
              · have hb : rdB 300 (cp g F T N) (k : Int) = ((g k : Nat) : Int) := by
                  unfold rdB cp; rw [if_pos bm, Int.toNat_natCast, if_neg (by omega)]
                go_wp2_with (go_at_call 11; refine (E.byte _ (by omega) (by omega)).mono ?_; rintro e w3 ⟨rfl, E3⟩)
                go_roundw
                case rel => exact ⟨k + 1, by omega, by go_num, E3⟩
                case measure => simp [intOf]; omega
            · have hb : rdB 300 (cp g F T N) (k : Int) = ((g k : Nat) : Int) := by
                unfold rdB cp; rw [if_pos bm, Int.toNat_natCast, if_neg (by omega)]
              go_wp2_with (go_at_call 11; refine (E.byte _ (by omega) (by omega)).mono ?_; rintro e w3 ⟨rfl, E3⟩)
              go_roundw
              case rel => exact ⟨k + 1, by omega, by go_num, E3⟩
              case measure => simp [intOf]; omega
          · go_wp2_with (go_at_call 12; refine (mlives_any _).mono ?_; rintro e w' ⟨rfl, hb⟩)
            go_ret
            exact ⟨rfl, E.has.below.trans (hb.mono E.has.below.size)⟩
  · have cc2 : (len0 : Int) ≤ 60 := by omega
    go_enter Try.func5, Try.ntmps5
    go_wp2_with (go_at_call 8; refine (hnew 300 (by omega) _).mono ?_; rintro e w1 ⟨rfl, H1⟩)
    have hob : w.heap.size ≤ w1.heap.size := H1.below.size
    have E0 := start H1
    rw [← fill_zero (zf z0)] at E0
    clear hmk f0 f1 t0 t1 n0 n1 H1
    go_loopw [11] (fun i wr => ∃ k : Nat, k ≤ len0 ∧ i = .int .i64 (k : Int) ∧ EO w wr (w.heap.size + 1) 300 (fill (zf z0) k) w1.heap.size (fill (zf z0) k)) (fun i _ => len0 - (intOf i).toNat)
    case atStart => exact ⟨0, by omega, rfl, E0⟩
    case round =>
      obtain ⟨k, hk, rfl, E⟩ := hrel
      by_cases hlt : (k : Int) < (len0 : Int)
      · have hlt' : k < len0 := by omega
        obtain ⟨b, off, rfl, hlc, hcm, hcell⟩ := row_at w0 (by omega)
        unfold maxLen at hcm
        obtain ⟨g1, g2⟩ := hcell k (by omega)
        have gw := (E.has.below.cell (p := ⟨b, off + k, none⟩) (World.block_lt_of_cell? w _ g1)).trans g1
        go_wp2_with fail
        refine (EO.putByte E _ _ (by omega) (by omega) (by omega) (by omega)).mono ?_
        rintro e w2 ⟨rfl, E2⟩
        have gw2 := (E2.has.below.cell (p := ⟨b, off + k, none⟩) (World.block_lt_of_cell? w _ g1)).trans g1
        have o1 := EO.cell E2 (50 + k) (by omega)
        have o2 := EO.free E2 (50 + k)
        rw [Int.toNat_natCast, show (50 + (k : Int)).toNat = 50 + k by omega, fill_step] at E2
        have E3 := EO.store E2 hob (50 + k) (zf z0 k)
        rw [fill_step] at E3
        go_wp2
        go_roundw
        case rel => exact ⟨k + 1, by omega, by go_num, E3⟩
        case measure => simp [intOf]; omega
      · obtain rfl : len0 = k := by omega
        clear E0
        have hm0 : cpErr 300 (F : Int) (T : Int) (N : Int) = 0 := by
          unfold cpErr; rw [if_pos (may_ok (by omega) (by omega))]; exact may_ok (by omega) (by omega)
        go_wp2_with (go_at_call 17; refine (E.copy _ _ _ (by omega) (by omega) (by omega) (by omega) (by omega) (by omega)).mono ?_; rintro e w2 ⟨rfl, E2⟩)
        have hcs : cpS 300 (fill (zf z0) len0) (F : Int) (T : Int) (N : Int) = cp (fill (zf z0) len0) F T N := by
          unfold cpS; rw [if_pos hm0, Int.toNat_natCast, Int.toNat_natCast, Int.toNat_natCast]
        rw [hcs] at E2
        clear hcs hm0
        have E2 : EO w w2 (w.heap.size + 1) 300 (cp (fill (zf z0) len0) F T N) w1.heap.size (fill (zf z0) len0) := E2
        generalize fill (zf z0) len0 = g at E E2
        clear E
        go_loopw [12] (fun i wr => ∃ k : Nat, k ≤ 300 ∧ i = .int .i64 (k : Int) ∧ EO w wr (w.heap.size + 1) 300 (cp g F T N) w1.heap.size g) (fun i _ => 300 - (intOf i).toNat)
        case atStart => exact ⟨0, by omega, rfl, E2⟩
        case round =>
          obtain ⟨k, hk, rfl, E⟩ := hrel
          by_cases hlt : (k : Int) < 300
          · have o1 := EO.cell E k (by omega)
            have bm : mayI ((300 : Nat) : Int) (k : Int) 1 1 = 0 := may_ok (by omega) (by omega)
            have bm' : mayI (300 : Int) (k : Int) 1 1 = 0 := bm
            by_cases c1 : (T : Int) ≤ (k : Int)
            · by_cases c2 : (k : Int) < (T : Int) + (N : Int)
              · have o3 := EO.cell E (F + k - T) (by omega)
                have hb : rdB 300 (cp g F T N) (k : Int) = ((g (F + k - T) : Nat) : Int) := by
                  unfold rdB cp; rw [if_pos bm, Int.toNat_natCast, if_pos (by omega), show F + k - T = k - T + F by omega]
                go_wp2_with (go_at_call 11; refine (E.byte _ (by omega) (by omega)).mono ?_; rintro e w3 ⟨rfl, E3⟩)
                go_roundw
                case rel => exact ⟨k + 1, by omega, by go_num, E3⟩
                case measure => simp [intOf]; omega
              · have hb : rdB 300 (cp g F T N) (k : Int) = ((g k : Nat) : Int) := by
                  unfold rdB cp; rw [if_pos bm, Int.toNat_natCast, if_neg (by omega)]
                go_wp2_with (go_at_call 11; refine (E.byte _ (by omega) (by omega)).mono ?_; rintro e w3 ⟨rfl, E3⟩)
                go_roundw
                case rel => exact ⟨k + 1, by omega, by go_num, E3⟩
                case measure => simp [intOf]; omega
            · have hb : rdB 300 (cp g F T N) (k : Int) = ((g k : Nat) : Int) := by
                unfold rdB cp; rw [if_pos bm, Int.toNat_natCast, if_neg (by omega)]
              go_wp2_with (go_at_call 11; refine (E.byte _ (by omega) (by omega)).mono ?_; rintro e w3 ⟨rfl, E3⟩)
              go_roundw
              case rel => exact ⟨k + 1, by omega, by go_num, E3⟩
              case measure => simp [intOf]; omega
          · go_wp2_with (go_at_call 12; refine (mlives_any _).mono ?_; rintro e w' ⟨rfl, hb⟩)
            go_ret
            exact ⟨rfl, E.has.below.trans (hb.mono E.has.below.size)⟩

/-! ### The row -/
set_option maxRecDepth 100000 in
theorem lifted (os : Os) (started : os.Started) (H : Type) (enc : TypeId × Value → H) :
    ReturnsInHanded {} Try.checked os 5 .any (Rows.memoryCopiesSpec.pre6 enc Try.prog Try.f5 Rows.memoryCopiesRow.domain false) (Rows.memoryCopiesSpec.post enc Try.prog Try.f5 false true false false) := by
  refine returnsInHanded_of_change (C := Try.checked) own started (by kernel_rfl) Try.func5
    (ChangeSpec.witness6 (enc := enc) (C := Try.checked) false ⟨#[], #[.slice none 0 0, .int .u64 0, .int .u64 0, .int .u64 0], []⟩ 8 (by kernel_rfl) (by kernel_rfl) (by kernel_rfl) (by kernel_rfl)) ?_
  intro W base args ds gs before hval0 hW hcnd _
  have hval : ∀ (j : Nat) t v, Try.f5.params[j]? = some t → args[j]? = some v → Value.okWide Try.prog W .any base t v := hval0
  have hW' := hW
  obtain ⟨p, q, hA0, hV, rfl, hfz, hnd⟩ := hW
  have hA : DataW.TrodAll enc Try.prog W 0 (fun _ => true) true Try.f5.params.toList args.toList ds p := hA0
  rw [Try.params5] at hA hval
  obtain ⟨v0, vs0, d0, ds0, p0, q0, hargs, rfl, rfl, h0, r0⟩ := trodAll_cons hA
  obtain ⟨v1, vs1, d1, ds1, p1, q1, rfl, rfl, rfl, h1, r1⟩ := trodAll_cons r0
  obtain ⟨v2, vs2, d2, ds2, p2, q2, rfl, rfl, rfl, h2, r2⟩ := trodAll_cons r1
  obtain ⟨v3, vs3, d3, ds3, p3, q3, rfl, rfl, rfl, h3, r3⟩ := trodAll_cons r2
  obtain ⟨rfl, rfl, rfl⟩ := trodAll_nil r3
  obtain rfl : args = #[v0, v1, v2, v3] := by cases args; simp_all
  obtain ⟨rfl, rfl⟩ := trodVars_none hV
  obtain ⟨a0, len0, cap0, rfl⟩ := okWide_slice Try.underlying43 (hval 0 43 v0 rfl rfl)
  have k0 := h0
  have lt0 : ∀ x ∈ p0, x.block < W.heap.size := by obtain ⟨m, hm⟩ := k0; exact DataW.trod_lt m _ _ _ hm
  obtain ⟨z0, w0⟩ : ∃ zs, IsRow .u8 W a0 len0 cap0 zs := by
    obtain ⟨fuel, hf⟩ := h0
    rcases open_ints Try.underlying43 Try.underlying5 (by kernel_rfl) hf with ⟨hcs, _⟩ | ⟨x, l, c, zs, hcs, _, hl, hm, hz, _, hcell, hwz⟩
    · simp [Value.cells] at hcs
      obtain ⟨rfl, rfl, rfl⟩ := hcs
      exact ⟨[], .inl ⟨rfl, rfl, rfl, rfl⟩⟩
    · simp [Value.cells] at hcs
      obtain ⟨rfl, rfl, rfl⟩ := hcs
      exact ⟨zs, .inr ⟨_, rfl, hl, hm, by simpa using hz, hcell, hwz⟩⟩
  obtain ⟨a1, rfl, rfl, rfl, w1⟩ := open_int Try.underlying22 (hval 1 22 v1 rfl rfl) h1
  obtain ⟨a2, rfl, rfl, rfl, w2⟩ := open_int Try.underlying22 (hval 2 22 v2 rfl rfl) h2
  obtain ⟨a3, rfl, rfl, rfl, w3⟩ := open_int Try.underlying22 (hval 3 22 v3 rfl rfl) h3
  clear hA0 hval0
  refine (walk a0 len0 cap0 z0 a1 a2 a3 W w0 w1 w2 w3).mono fun e W' ⟨he, bel⟩ => ?_
  subst he
  exact ⟨_, rfl, _, _, _, [], _, [], hW', trodAll_mk1 (shut_bool Try.underlying4 _), (trodAll_cons_mk (Below.trod laidOut (by kernel_rfl) (of_decide_eq_true (by kernel_rfl)) k0 bel lt0) (trodAll_cons_mk (shut_int Try.underlying22 w1) (trodAll_cons_mk (shut_int Try.underlying22 w2) (trodAll_cons_mk (shut_int Try.underlying22 w3) trodAll_mk0)))), rfl, bel.frame _, fun h => by cases h⟩

theorem over : Rows.memoryCopiesRow.holds Try.pinned (OpenSpec.ofChange Rows.memoryCopiesSpec) :=
  OpenClaim.holds_of_wide 5 Try.f5 rfl rfl rfl rfl rfl rfl rfl ⟨rfl, rfl, rfl, rfl, rfl⟩ rfl rfl rfl rfl rfl (by kernel_rfl) Try.func5 (by kernel_rfl)
    (of_decide_eq_true (by kernel_rfl)) (by unfold Func.isWrapper; first | (rw [if_pos (by decide +kernel)]; kernel_rfl) | (rw [if_neg (by decide +kernel)]; exact ⟨rfl, rfl⟩))
    (fun os started H enc _ => lifted os started H enc)

theorem proved : Rows.MemoryCopiesSaid := over
#print axioms proved
end Go.Proofs.Ytmhgofhclckdpaa.memoryCopies
