/-
  YtffpfceclhogoaaGreatGK: the contracts and plain facts of several texts, laid together. Conditions: those that each theorem names.
-/
import Derived.Test.YtffpfceclhogoaaGreatGH
import Derived.Test.YtffpfceclhogoaaGreatGJ
namespace Go.Proofs.YtffpfceclhogoaaGreat.Hp
open Fld Hs
open Go.ChangeShapes Go.WideShapes Go.ChangeAt Go.RowKit Go.Maps
set_option maxHeartbeats 1000000
set_option maxRecDepth 100000
structure SPg where
  sp : Int
  p : Pg
def SPg.zero : SPg := ⟨0, Pg.zero⟩
structure SPg.wf (x : SPg) : Prop where
  s0 : -9223372036854775808 ≤ x.sp
  s1 : x.sp ≤ 9223372036854775807
  p : x.p.wf
def spC (x : SPg) : List Value := [.int .i64 x.sp, .int .u64 x.p.va, .int .i64 x.p.sz, .int .u64 x.p.pa, .bool x.p.att.write, .bool x.p.att.priv, .bool x.p.att.exec, .bool x.p.att.lock, .bool x.p.att.global, .bool x.p.att.quiet, .bool x.p.ref, .bool x.p.mod]
def spL : List SPg → List Value
  | [] => []
  | x :: l => spC x ++ spL l
theorem spC_one (x : SPg) : ∀ u ∈ spC x, u.oneCell' = true := by
  intro u h
  simp only [spC, List.mem_cons, List.not_mem_nil, or_false] at h
  rcases h with rfl | rfl | rfl | rfl | rfl | rfl | rfl | rfl | rfl | rfl | rfl | rfl <;> rfl
theorem spL_append : ∀ (l m : List SPg), spL (l ++ m) = spL l ++ spL m
  | [], _ => rfl
  | x :: l, m => by simp [spL, spL_append l m]
theorem spL_length : ∀ l : List SPg, (spL l).length = l.length * 12
  | [] => rfl
  | x :: l => by simp [spL, spC, spL_length l]; omega
theorem spL_one : ∀ (l : List SPg), ∀ u ∈ spL l, u.oneCell' = true
  | [], u, h => by simp [spL] at h
  | x :: l, u, h => by
    rcases List.mem_append.1 (show u ∈ spC x ++ spL l from h) with h | h
    · exact spC_one x u h
    · exact spL_one l u h
theorem spL_drop : ∀ (l : List SPg) (i : Nat), (spL l).drop (i * 12) = spL (l.drop i)
  | l, 0 => by simp
  | [], i + 1 => by simp [spL]
  | x :: l, i + 1 => by
    have := spL_drop l i
    rw [show (i + 1) * 12 = i * 12 + 1 + 1 + 1 + 1 + 1 + 1 + 1 + 1 + 1 + 1 + 1 + 1 by omega]
    simpa [spL, spC] using this
theorem spL_take : ∀ (l : List SPg) (i : Nat), (spL l).take (i * 12) = spL (l.take i)
  | l, 0 => by simp [spL]
  | [], i + 1 => by simp [spL]
  | x :: l, i + 1 => by
    have := spL_take l i
    rw [show (i + 1) * 12 = i * 12 + 1 + 1 + 1 + 1 + 1 + 1 + 1 + 1 + 1 + 1 + 1 + 1 by omega]
    simpa [spL, spC] using this
def sat (l : List SPg) (i : Nat) : SPg := l.getD i SPg.zero
theorem sat_eq (l : List SPg) (i : Nat) (h : i < l.length) : l[i]? = some (sat l i) := by simp [sat, h]
theorem sat_mem {l : List SPg} {i : Nat} (h : i < l.length) : sat l i ∈ l := List.mem_of_getElem? (sat_eq l i h)
theorem sat_cons (x : SPg) (l : List SPg) (i : Nat) : sat (x :: l) (i + 1) = sat l i := by simp [sat]
theorem spL_at : ∀ (l : List SPg) (i : Nat), i < l.length → ∀ (j : Nat) (v : Value), (spC (sat l i))[j]? = some v → (spL l)[i * 12 + j]? = some v
  | [], i, h => absurd h (Nat.not_lt_zero _)
  | x :: l, 0, _ => fun j v h => by
    rw [Nat.zero_mul, Nat.zero_add]
    have h : (spC x)[j]? = some v := h
    show (spC x ++ spL l)[j]? = some v
    rw [List.getElem?_append_left (List.getElem?_eq_some_iff.1 h).1]; exact h
  | x :: l, i + 1, h => fun j v hj => by
    rw [sat_cons] at hj
    have := spL_at l i (by simpa using h) j v hj
    rw [show (i + 1) * 12 + j = (i * 12 + j) + 12 by omega]
    show (spC x ++ spL l)[(i * 12 + j) + 12]? = some v
    rw [List.getElem?_append_right (by simp [spC])]
    simpa [spC] using this
abbrev SOwn (w : World) (v : Value) (l : List SPg) : Prop := w.ownsRow 0 97 12 v l.length (spL l)
theorem own_sp {w : World} {g : Nat} {v : Value} {l : List SPg} (h : SOwn w v l) (hg : v.ownBlock = some g) {i : Nat} (hi : i < l.length) : w.cell? ⟨g, i * 12, none⟩ = some (.int .i64 (sat l i).sp) ∧ w.cell? ⟨g, i * 12 + 1, none⟩ = some (.int .u64 (sat l i).p.va) ∧ w.cell? ⟨g, i * 12 + 2, none⟩ = some (.int .i64 (sat l i).p.sz) ∧ w.cell? ⟨g, i * 12 + 3, none⟩ = some (.int .u64 (sat l i).p.pa) ∧ w.cell? ⟨g, i * 12 + 4, none⟩ = some (.bool (sat l i).p.att.write) ∧ w.cell? ⟨g, i * 12 + 5, none⟩ = some (.bool (sat l i).p.att.priv) ∧ w.cell? ⟨g, i * 12 + 6, none⟩ = some (.bool (sat l i).p.att.exec) ∧ w.cell? ⟨g, i * 12 + 7, none⟩ = some (.bool (sat l i).p.att.lock) ∧ w.cell? ⟨g, i * 12 + 8, none⟩ = some (.bool (sat l i).p.att.global) ∧ w.cell? ⟨g, i * 12 + 9, none⟩ = some (.bool (sat l i).p.att.quiet) ∧ w.cell? ⟨g, i * 12 + 10, none⟩ = some (.bool (sat l i).p.ref) ∧ w.cell? ⟨g, i * 12 + 11, none⟩ = some (.bool (sat l i).p.mod) := by
  have hc := h.cells hg
  have hadd : ∀ j, (⟨g, 0, none⟩ : Addr).add j = ⟨g, j, none⟩ := fun j => by unfold Addr.add; split <;> simp_all
  have key : ∀ (j : Nat) (v : Value), (spC (sat l i))[j]? = some v → w.cell? ⟨g, i * 12 + j, none⟩ = some v := fun j v hj => by
    have := hc _ _ (spL_at l i hi j v hj); rwa [hadd] at this
  exact ⟨key 0 _ rfl, key 1 _ rfl, key 2 _ rfl, key 3 _ rfl, key 4 _ rfl, key 5 _ rfl, key 6 _ rfl, key 7 _ rfl, key 8 _ rfl, key 9 _ rfl, key 10 _ rfl, key 11 _ rfl⟩
/-- A hat of the document's: v the slice of its pages l, s the slice of its chains. -/
structure DH (w : World) (v : Value) (l : List SPg) (s : Value) (n : Nat) (LT : Nat → List Hs.Bk) (U : Nat → Value) : Prop where
  own : SOwn w v l
  ch : Hs.ChW w s n LT U
  few : l.length ≤ 1073741824
  wf : ∀ x ∈ l, x.wf
section
variable {w w' : World} {v : Value} {l : List SPg} {s : Value} {n : Nat} {LT : Nat → List Hs.Bk} {U : Nat → Value}
theorem DH.low (h : DH w v l s n LT U) (hb : Below w.heap.size w w') : DH w' v l s n LT U := ⟨own_same h.own (fun g hg => hb.block g (h.own.lt g hg).2), h.ch.low hb, h.few, h.wf⟩
end
/-- .. in a box. -/
structure DX (u w : World) (xb : Nat) (ns bl : Int) (v : Value) (l : List SPg) (s : Value) (n : Nat) (LT : Nat → List Hs.Bk) (U : Nat → Value) : Prop where
  dh : DH w v l s n LT U
  hx : w.heap[xb]? = some (.cells #[.int .i64 ns, v, .int .i64 bl, s] 30 (0, 0))
  lo : Below u.heap.size u w
section
variable {u w w' : World} {xb : Nat} {ns bl : Int} {v : Value} {l : List SPg} {s : Value} {n : Nat} {LT : Nat → List Hs.Bk} {U : Nat → Value}
theorem DX.new (h : DH w v l s n LT U) (ns bl : Int) : DX w (w.alloc (.cells #[.int .i64 ns, v, .int .i64 bl, s] 30)) w.heap.size ns bl v l s n LT U := ⟨h.low (by (repeat (first | (with_reducible assumption) | (with_reducible exact Below.refl _ _) | (with_reducible refine lo_step ?_ (by assumption)) | (with_reducible refine lo_drew ?_) | (with_reducible refine lo_drewN ?_ _) | (with_reducible refine lo_alloc ?_ _))) ), heap_alloc_new _ _, by (repeat (first | (with_reducible assumption) | (with_reducible exact Below.refl _ _) | (with_reducible refine lo_step ?_ (by assumption)) | (with_reducible refine lo_drew ?_) | (with_reducible refine lo_drewN ?_ _) | (with_reducible refine lo_alloc ?_ _))) ⟩
theorem DX.low (h : DX u w xb ns bl v l s n LT U) (hb : Below w.heap.size w w') : DX u w' xb ns bl v l s n LT U := ⟨h.dh.low hb, blk_low h.hx hb, lo_step h.lo hb⟩
theorem DX.cs (h : DX u w xb ns bl v l s n LT U) : w.cell? ⟨xb, 0, none⟩ = some (.int .i64 ns) ∧ w.cell? ⟨xb, 1, none⟩ = some v ∧ w.cell? ⟨xb, 2, none⟩ = some (.int .i64 bl) ∧ w.cell? ⟨xb, 3, none⟩ = some s := by
  have := h.hx
  exact ⟨by simp [World.cell?, this], by simp [World.cell?, this], by simp [World.cell?, this], by simp [World.cell?, this]⟩
/-- The slices' shapes. -/
theorem DH.shape (h : DH w v l s n LT U) : (∃ ao cap, v = .slice ao l.length cap) ∧ ∃ g cap, s = .slice (some ⟨g, 0, none⟩) n cap := by
  obtain ⟨g, cap, e, _⟩ := h.ch.form
  exact ⟨own_shape3 h.own, g, cap, e⟩
end
theorem dis_any (v s0 : Value) (ns bl s : Int) {n m : Nat} {ao so : Option Addr} {c c2 : Nat} (hv : v = .slice ao n c) (hs : s0 = .slice so m c2) (w : World) : Calls Tryz.prog 66 #[.agg #[.int .i64 ns, v, .int .i64 bl, s0], .int .i64 s] w fun e w' => e = .returned (.bool (isB ns s)) ∧ Below w.heap.size w w' := by
  subst hv hs
  have b1 : Below w.heap.size w (w.alloc (.cells #[.int .i64 ns, .slice ao n c, .int .i64 bl, .slice so m c2] 30)) := by (repeat (first | (with_reducible assumption) | (with_reducible exact Below.refl _ _) | (with_reducible refine lo_step ?_ (by assumption)) | (with_reducible refine lo_drew ?_) | (with_reducible refine lo_drewN ?_ _) | (with_reducible refine lo_alloc ?_ _))) 
  by_cases h0 : 0 ≤ s
  · by_cases h1 : s < ns
    · have H := Lib.hid (show isB ns s = true by unfold isB; rw [decide_eq_true h0, decide_eq_true h1]; rfl)
      go_enter Tryz.func66, Tryz.ntmps66
      go_wp2
      go_ret
      exact ⟨ret_bool H.out.symm, b1⟩
    · have H := Lib.hid (show isB ns s = false by unfold isB; rw [decide_eq_false h1]; simp)
      go_enter Tryz.func66, Tryz.ntmps66
      go_wp2
      go_ret
      exact ⟨ret_bool H.out.symm, b1⟩
  · have H := Lib.hid (show isB ns s = false by unfold isB; rw [decide_eq_false h0]; rfl)
    go_enter Tryz.func66, Tryz.ntmps66
    go_wp2
    go_ret
    exact ⟨ret_bool H.out.symm, b1⟩
theorem dkey_any (s va z : Int) (v0 : 0 ≤ va) (v1 : va ≤ 18446744073709551615) (w : World) : Calls Tryz.prog 69 #[.int .i64 s, .int .u64 va, .int .i64 z] w fun e w' => e = .returned (.agg #[.int .i64 s, .int .u64 (baseI va z), .int .i64 z]) ∧ Below w.heap.size w w' := by
  have CB := Lib.hid (fun w => rbase_any va z v0 v1 w)
  have b1 : Below w.heap.size w (w.alloc (.cells #[.int .i64 0, .int .u64 0, .int .i64 0] 114)) := by (repeat (first | (with_reducible assumption) | (with_reducible exact Below.refl _ _) | (with_reducible refine lo_step ?_ (by assumption)) | (with_reducible refine lo_drew ?_) | (with_reducible refine lo_drewN ?_ _) | (with_reducible refine lo_alloc ?_ _))) 
  have x1 := heap_alloc_new w (.cells #[.int .i64 0, .int .u64 0, .int .i64 0] 114)
  go_enter Tryz.func69, Tryz.ntmps69
  go_wp2_with fail
  refine (CB.out _).mono ?_; rintro e w1 ⟨rfl, m, rfl⟩
  have h3 := set_three (show ((w.alloc (.cells #[.int .i64 0, .int .u64 0, .int .i64 0] 114)).drewN m).heap[w.heap.size]? = _ from x1) (.int .i64 s) (.int .u64 (baseI va z)) (.int .i64 z)
  have b3 := Lib.hid ((below_drewN b1 m).trans (h3.2 _ (Nat.le_refl _)))
  go_wp2_with fail
  refine bodyPost_ret (results_cell_row rfl _ _ _ _ _ (0, 0) _ rfl h3.1 Tryz.underlying114 (by kernel_rfl) (by kernel_rfl)) rfl ⟨rfl, b3.out⟩
/-- Where a space's page at an address stands. -/
def isAt (s va : Int) (x : SPg) : Bool := (x.sp == s) && (baseI va x.p.sz == x.p.va)
def posS (l : List SPg) (s va : Int) : Nat := firstN (fun i => isAt s va (sat l i)) l.length
def atI (l : List SPg) (s va : Int) : Int := if posS l s va < l.length then (posS l s va : Int) else -1
theorem dat_any {v : Value} {l : List SPg} {t : Value} {n : Nat} {LT : Nat → List Hs.Bk} {U : Nat → Value} (ns bl s va : Int) (v0 : 0 ≤ va) (v1 : va ≤ 18446744073709551615) (w : World) (h : DH w v l t n LT U) :
    Calls Tryz.prog 19 #[.agg #[.int .i64 ns, v, .int .i64 bl, t], .int .i64 s, .int .u64 va] w fun e w' => e = .returned (.int .i64 (atI l s va)) ∧ Below w.heap.size w w' := by
  have X := DX.new h ns bl
  obtain ⟨⟨ao, cap, rfl⟩, g2, cap2, rfl⟩ := h.shape
  have hl := h.few
  clear h
  go_enter Tryz.func19, Tryz.ntmps19
  go_wp2_with fail
  generalize World.alloc w _ = W at *
  go_loopw [7] (fun i wr => ∃ j : Nat, i = .int .i64 (j : Int) ∧ j ≤ l.length ∧ (∀ i, i < j → isAt s va (sat l i) = false) ∧ DX w wr w.heap.size ns bl (.slice ao l.length cap) l (.slice (some ⟨g2, 0, none⟩) n cap2) n LT U) (fun i _ => l.length - (RowKit.intOf i).toNat)
  case atStart => exact ⟨0, rfl, Nat.zero_le _, fun i h => absurd h (Nat.not_lt_zero _), X⟩
  case round =>
    clear X
    obtain ⟨j, rfl, hj, hno, X⟩ := hrel
    obtain ⟨x0, x1, x2, x3⟩ := X.cs
    by_cases hlt : j < l.length
    · have hlt' : (j : Int) < (l.length : Int) := by omega
      have hwf := X.dh.wf _ (sat_mem hlt)
      have hO := X.dh.own
      have hN := Lib.hid hno
      rcases own_form hO with ⟨_, h0⟩ | ⟨g, cap3, hv, hgb, hnc, hcm⟩
      · omega
      · obtain ⟨y0, y1, y2, y3, y4, y5, y6, y7, y8, y9, y10, y11⟩ := own_sp hO hgb hlt
        simp only [Value.slice.injEq, true_and] at hv
        obtain ⟨rfl, rfl⟩ := hv
        unfold maxLen at hcm
        have HA := Lib.hid (show isAt s va (sat l j) = ((sat l j).sp == s && (baseI va (sat l j).p.sz == (sat l j).p.va)) from rfl)
        have X2 := X.low (w' := wr.alloc (.cells #[.int .i64 (sat l j).sp, .int .u64 (sat l j).p.va, .int .i64 (sat l j).p.sz, .int .u64 (sat l j).p.pa, .bool (sat l j).p.att.write, .bool (sat l j).p.att.priv, .bool (sat l j).p.att.exec, .bool (sat l j).p.att.lock, .bool (sat l j).p.att.global, .bool (sat l j).p.att.quiet, .bool (sat l j).p.ref, .bool (sat l j).p.mod] 97)) (by (repeat (first | (with_reducible assumption) | (with_reducible exact Below.refl _ _) | (with_reducible refine lo_step ?_ (by assumption)) | (with_reducible refine lo_drew ?_) | (with_reducible refine lo_drewN ?_ _) | (with_reducible refine lo_alloc ?_ _))) )
        have XH := Lib.hid X2
        clear hno hO X
        obtain ⟨x, hxx⟩ : ∃ x, x = sat l j := ⟨_, rfl⟩
        rw [← hxx] at y0 y1 y2 y3 y4 y5 y6 y7 y8 y9 y10 y11 HA X2 XH hwf
        have HXX := Lib.hid hxx
        clear hxx
        have CB := Lib.hid (fun w => rbase_any va x.p.sz v0 v1 w)
        have NB := heap_alloc_new wr (.cells #[.int .i64 x.sp, .int .u64 x.p.va, .int .i64 x.p.sz, .int .u64 x.p.pa, .bool x.p.att.write, .bool x.p.att.priv, .bool x.p.att.exec, .bool x.p.att.lock, .bool x.p.att.global, .bool x.p.att.quiet, .bool x.p.ref, .bool x.p.mod] 97)
        go_wp2_with fail
        generalize World.alloc wr _ = W3 at *
        have z0 : W3.cell? ⟨wr.heap.size, 0, none⟩ = some (.int .i64 x.sp) := by simp [World.cell?, NB]
        have z1 : W3.cell? ⟨wr.heap.size, 1, none⟩ = some (.int .u64 x.p.va) := by simp [World.cell?, NB]
        have z2 : W3.cell? ⟨wr.heap.size, 2, none⟩ = some (.int .i64 x.p.sz) := by simp [World.cell?, NB]
        generalize wr.heap.size = xb at *
        clear y0 y1 y2 y3 y4 y5 y6 y7 y8 y9 y10 y11 x0 x1 x2 x3 NB
        cases hq : (x.sp == s)
        · rw [hq] at HA
          clear X2
          go_region
          go_wp2_with fail
          go_roundw
          case rel => exact ⟨j + 1, by go_num, by omega, fun i hi => (by by_cases e : i = j; rw [e, ← HXX.out]; exact HA.out; exact hN.out i (by omega)), XH.out.low (below_drewN (Below.refl _ W3) _)⟩
          case measure => simp [RowKit.intOf]; omega
        · rw [hq] at HA
          have hS : W3.cell? ⟨xb, 0, none⟩ = some (.int .i64 x.sp) ∧ W3.cell? ⟨xb, 1, none⟩ = some (.int .u64 x.p.va) ∧ W3.cell? ⟨xb, 2, none⟩ = some (.int .i64 x.p.sz) := ⟨z0, z1, z2⟩
          go_region_held3 (fun w1 => w1.cell? ⟨xb, 0, none⟩ = some (.int .i64 x.sp) ∧ w1.cell? ⟨xb, 1, none⟩ = some (.int .u64 x.p.va) ∧ w1.cell? ⟨xb, 2, none⟩ = some (.int .i64 x.p.sz))
            (exact hS)
            (first
              | (go_at_call 53; (with_reducible refine (CB.out _).mono ?_); rintro e w' ⟨rfl, mB, rfl⟩))
          all_goals
            cases hr : (baseI va x.p.sz == x.p.va)
            · rw [hr] at HA
              clear hS X2
              go_wp2_with fail
              go_roundw
              case rel => exact ⟨j + 1, by go_num, by omega, fun i hi => (by by_cases e : i = j; rw [e, ← HXX.out]; exact HA.out; exact hN.out i (by omega)), XH.out.low (below_drewN (Below.refl _ W3) _)⟩
              case measure => simp [RowKit.intOf]; omega
            · rw [hr] at HA
              have eP : posS l s va = j := first_here hlt hN.out (by rw [← HXX.out]; exact HA.out)
              have eA := Lib.hid (show atI l s va = (j : Int) by unfold atI; rw [eP, if_pos hlt])
              clear hS X2 eP
              go_wp2_with fail
              go_ret
              exact ⟨ret_int eA.out.symm, below_drewN XH.out.lo _⟩
    · obtain rfl : j = l.length := by omega
      have eP : posS l s va = l.length := first_none hno
      have eA := Lib.hid (show atI l s va = -1 by unfold atI; rw [eP, if_neg (Nat.lt_irrefl _)])
      have hlo := X.lo
      clear X hno eP
      go_wp2_with fail
      go_ret
      exact ⟨ret_int eA.out.symm, hlo⟩
end Go.Proofs.YtffpfceclhogoaaGreat.Hp
namespace Go.Proofs.YtffpfceclhogoaaGreat.Hp
open Fld Hs
open Go.ChangeShapes Go.WideShapes Go.ChangeAt Go.RowKit Go.Maps
set_option maxHeartbeats 1000000
set_option maxRecDepth 100000
def whyE (ns : Int) (l : List SPg) (s va : Int) : Int := if isB ns s = false then 1 else if atI l s va < 0 then 10 else 0
def dlookN (n : Nat) (LT : Nat → List Hs.Bk) (s va : Int) : Nat → Int
  | 0 => 0
  | z + 1 => dlookN n LT s va z + Hs.getN n LT (kz s va z)
def dfB (ns : Int) (l : List SPg) (s va : Int) : Bool := isB ns s && decide (posS l s va < l.length)
def dfV (ns : Int) (l : List SPg) (s va : Int) : Pg := if dfB ns l s va then (sat l (posS l s va)).p else Pg.zero
def dfN (ns : Int) (l : List SPg) (n : Nat) (LT : Nat → List Hs.Bk) (s va : Int) : Int :=
  if isB ns s then (if posS l s va < l.length then dlookN n LT s va ((sat l (posS l s va)).p.sz.toNat + 1) else dlookN n LT s va 4) else 0
theorem hgetN_bd (n : Nat) (L : Nat → List Hs.Bk) (hn : 1 ≤ n) (k : Ky) : 0 ≤ Hs.getN n L k ∧ Hs.getN n L k ≤ (Hs.lngL L n : Int) := by
  have hl := Hs.lng_one L (chain_lt k hn)
  unfold Hs.getN
  split
  · rename_i h
    have : Hs.posN (L (chainN k n)) k < (L (chainN k n)).length := by
      unfold Hs.getB at h; simp only [Bool.and_eq_true] at h; exact Hs.has_lt h.2
    omega
  · split <;> omega
theorem dlook_bd (n : Nat) (L : Nat → List Hs.Bk) (hn : 1 ≤ n) (s va : Int) : ∀ z : Nat, 0 ≤ dlookN n L s va z ∧ dlookN n L s va z ≤ (z : Int) * (Hs.lngL L n : Int)
  | 0 => by simp [dlookN]
  | z + 1 => by
    have h1 := dlook_bd n L hn s va z
    have h2 := hgetN_bd n L hn (kz s va z)
    have e : ((z + 1 : Nat) : Int) * (Hs.lngL L n : Int) = (z : Int) * (Hs.lngL L n : Int) + (Hs.lngL L n : Int) := by
      rw [Int.natCast_add, Int.add_mul]; simp
    simp only [dlookN]
    rw [e]; omega
/-- A hat of the document's and a result's page, in boxes. -/
structure DR (u w : World) (xb rb : Nat) (ns bl : Int) (v : Value) (l : List SPg) (s : Value) (n : Nat) (LT : Nat → List Hs.Bk) (U : Nat → Value) : Prop where
  dx : DX u w xb ns bl v l s n LT U
  r : RowP w rb Pg.zero
  rl : u.heap.size ≤ rb
section
variable {u w w' : World} {xb rb : Nat} {ns bl : Int} {v : Value} {l : List SPg} {s : Value} {n : Nat} {LT : Nat → List Hs.Bk} {U : Nat → Value}
theorem DR.low (h : DR u w xb rb ns bl v l s n LT U) (hb : Below w.heap.size w w') : DR u w' xb rb ns bl v l s n LT U := ⟨h.dx.low hb, h.r.low hb, h.rl⟩
theorem DR.fr (h : DR u w xb rb ns bl v l s n LT U) : ∀ i, w.frozen? ⟨rb, i, none⟩ = false := set_one_page h.r
theorem DR.fin (h : DR u w xb rb ns bl v l s n LT U) (x : Pg) : RowP (((((((((((w.setCell ⟨rb, 0, none⟩ (.int .u64 x.va)).setCell ⟨rb, 1, none⟩ (.int .i64 x.sz)).setCell ⟨rb, 2, none⟩ (.int .u64 x.pa)).setCell ⟨rb, 3, none⟩ (.bool x.att.write)).setCell ⟨rb, 4, none⟩ (.bool x.att.priv)).setCell ⟨rb, 5, none⟩ (.bool x.att.exec)).setCell ⟨rb, 6, none⟩ (.bool x.att.lock)).setCell ⟨rb, 7, none⟩ (.bool x.att.global)).setCell ⟨rb, 8, none⟩ (.bool x.att.quiet)).setCell ⟨rb, 9, none⟩ (.bool x.ref)).setCell ⟨rb, 10, none⟩ (.bool x.mod)) rb x ∧ Below u.heap.size u (((((((((((w.setCell ⟨rb, 0, none⟩ (.int .u64 x.va)).setCell ⟨rb, 1, none⟩ (.int .i64 x.sz)).setCell ⟨rb, 2, none⟩ (.int .u64 x.pa)).setCell ⟨rb, 3, none⟩ (.bool x.att.write)).setCell ⟨rb, 4, none⟩ (.bool x.att.priv)).setCell ⟨rb, 5, none⟩ (.bool x.att.exec)).setCell ⟨rb, 6, none⟩ (.bool x.att.lock)).setCell ⟨rb, 7, none⟩ (.bool x.att.global)).setCell ⟨rb, 8, none⟩ (.bool x.att.quiet)).setCell ⟨rb, 9, none⟩ (.bool x.ref)).setCell ⟨rb, 10, none⟩ (.bool x.mod)) := ⟨(h.r.setAll x).1, h.dx.lo.trans ((h.r.setAll x).2 _ h.rl)⟩
theorem DR.two (h : DR u w xb rb ns bl v l s n LT U) : w.cell? ⟨xb, 2, none⟩ = some (.int .i64 bl) ∧ w.cell? ⟨xb, 3, none⟩ = some s := ⟨h.dx.cs.2.2.1, h.dx.cs.2.2.2⟩
end
section
variable {v : Value} {l : List SPg} {t : Value} {n : Nat} {LT : Nat → List Hs.Bk} {U : Nat → Value}
theorem dwhy_any (ns bl s va : Int) (v0 : 0 ≤ va) (v1 : va ≤ 18446744073709551615) (w : World) (h : DH w v l t n LT U) :
    Calls Tryz.prog 70 #[.agg #[.int .i64 ns, v, .int .i64 bl, t], .int .i64 s, .int .u64 va] w fun e w' => e = .returned (.int .i64 (whyE ns l s va)) ∧ Below w.heap.size w w' := by
  have X := DX.new h ns bl
  obtain ⟨⟨ao, cap, rfl⟩, g2, cap2, rfl⟩ := h.shape
  have C1 := Lib.hid (fun (W : World) => dis_any (.slice ao l.length cap) (.slice (some ⟨g2, 0, none⟩) n cap2) ns bl s rfl rfl W)
  have C2 := Lib.hid (fun (W : World) (h : DX w W w.heap.size ns bl (.slice ao l.length cap) l (.slice (some ⟨g2, 0, none⟩) n cap2) n LT U) => dat_any ns bl s va v0 v1 W h.dh)
  have hE := Lib.hid (show whyE ns l s va = if isB ns s = false then 1 else if atI l s va < 0 then 10 else 0 from rfl)
  clear h
  generalize atI l s va = A at *
  cases hs : isB ns s
  · rw [hs] at C1 hE
    go_enter Tryz.func70, Tryz.ntmps70
    go_wp2_with fail
    generalize World.alloc w _ = W at *
    obtain ⟨x0, x1, x2, x3⟩ := X.cs
    go_wp2_with fail
    refine (C1.out _).mono ?_; rintro e w1 ⟨rfl, hb1⟩
    have hlo := (X.low hb1).lo
    clear X
    go_wp2_with fail
    go_ret
    exact ⟨ret_int hE.out.symm, hlo⟩
  · rw [hs] at C1 hE
    go_enter Tryz.func70, Tryz.ntmps70
    go_wp2_with fail
    generalize World.alloc w _ = W at *
    obtain ⟨x0, x1, x2, x3⟩ := X.cs
    go_wp2_with fail
    refine (C1.out _).mono ?_; rintro e w1 ⟨rfl, hb1⟩
    have X1 := X.low hb1
    clear X x0 x1 x2 x3 hb1
    obtain ⟨x0, x1, x2, x3⟩ := X1.cs
    go_wp2_with fail
    refine (C2.out _ X1).mono ?_; rintro e w2 ⟨rfl, hb2⟩
    have hlo := (X1.low hb2).lo
    clear X1
    by_cases hA : A < 0
    · rw [if_pos hA] at hE
      go_wp2_with fail
      go_ret
      exact ⟨ret_int hE.out.symm, hlo⟩
    · rw [if_neg hA] at hE
      go_wp2_with fail
      go_ret
      exact ⟨ret_int hE.out.symm, hlo⟩
theorem dfind_any (ns bl s va : Int) (s0 : -9223372036854775808 ≤ s) (s1 : s ≤ 9223372036854775807) (v0 : 0 ≤ va) (v1 : va ≤ 18446744073709551615) (hz : ∀ x ∈ l, sizeB x.p.sz = true) (w : World) (h : DH w v l t n LT U) :
    Calls Tryz.prog 38 #[.agg #[.int .i64 ns, v, .int .i64 bl, t], .int .i64 s, .int .u64 va] w fun e w' => e = .returned (.tuple #[.agg #[.int .u64 (dfV ns l s va).va, .int .i64 (dfV ns l s va).sz, .int .u64 (dfV ns l s va).pa, .bool (dfV ns l s va).att.write, .bool (dfV ns l s va).att.priv, .bool (dfV ns l s va).att.exec, .bool (dfV ns l s va).att.lock, .bool (dfV ns l s va).att.global, .bool (dfV ns l s va).att.quiet, .bool (dfV ns l s va).ref, .bool (dfV ns l s va).mod], .int .i64 (dfN ns l n LT s va), .bool (dfB ns l s va)]) ∧ Below w.heap.size w w' := by
  obtain ⟨⟨ao, cap, rfl⟩, g2, cap2, rfl⟩ := h.shape
  have hl := h.few
  have X0 := DX.new h ns bl
  have D : DR w ((w.alloc (.cells #[.int .i64 ns, .slice ao l.length cap, .int .i64 bl, .slice (some ⟨g2, 0, none⟩) n cap2] 30)).alloc (.cells #[.int .u64 Pg.zero.va, .int .i64 Pg.zero.sz, .int .u64 Pg.zero.pa, .bool Pg.zero.att.write, .bool Pg.zero.att.priv, .bool Pg.zero.att.exec, .bool Pg.zero.att.lock, .bool Pg.zero.att.global, .bool Pg.zero.att.quiet, .bool Pg.zero.ref, .bool Pg.zero.mod] 38)) w.heap.size (w.heap.size + 1) ns bl (.slice ao l.length cap) l (.slice (some ⟨g2, 0, none⟩) n cap2) n LT U := by
    have h1 := RowP.new (w.alloc (.cells #[.int .i64 ns, .slice ao l.length cap, .int .i64 bl, .slice (some ⟨g2, 0, none⟩) n cap2] 30)) Pg.zero
    rw [World.size_alloc] at h1
    exact ⟨X0.low ((Below.refl _ _).alloc (Nat.le_refl _) _), h1, Nat.le_succ _⟩
  unfold Pg.zero at D
  have C1 := Lib.hid (fun (W : World) => dis_any (.slice ao l.length cap) (.slice (some ⟨g2, 0, none⟩) n cap2) ns bl s rfl rfl W)
  have C2 := Lib.hid (fun (W : World) (h : DR w W w.heap.size (w.heap.size + 1) ns bl (.slice ao l.length cap) l (.slice (some ⟨g2, 0, none⟩) n cap2) n LT U) => dat_any ns bl s va v0 v1 W h.dx.dh)
  have C3 := Lib.hid (fun (z : Nat) (W : World) => dkey_any s va (z : Int) v0 v1 W)
  have C4 := Lib.hid (fun (z : Nat) (hz : z < 4) (W : World) (h : DR w W w.heap.size (w.heap.size + 1) ns bl (.slice ao l.length cap) l (.slice (some ⟨g2, 0, none⟩) n cap2) n LT U) => Hs.tget_any bl (kz s va z) (kz_wf s0 s1 v0 v1 hz) W h.dx.dh.ch)
  clear X0
  cases hs : isB ns s
  · rw [hs] at C1
    have eB := Lib.hid (show dfB ns l s va = false by unfold dfB; rw [hs]; rfl)
    have eV := Lib.hid (show dfV ns l s va = Pg.zero by unfold dfV; rw [eB.out]; rfl)
    have eN := Lib.hid (show dfN ns l n LT s va = 0 by unfold dfN; rw [hs]; rfl)
    clear h
    go_enter Tryz.func38, Tryz.ntmps38
    go_wp2_with fail
    generalize World.alloc (World.alloc w _) _ = W at *
    refine (C1.out _).mono ?_; rintro e w1 ⟨rfl, hb1⟩
    have D1 := D.low hb1
    have TF := Lib.hid (D1.fin Pg.zero)
    obtain ⟨r0, r1, r2, r3, r4, r5, r6, r7, r8, r9, r10⟩ := D1.r.cells
    have fr := D1.fr
    clear D D1 hb1
    go_wp2_with fail
    refine bodyPost_ret (res_P3 rfl _ _ _ _ rfl TF.out.1.row) rfl ?_
    exact ⟨ret_fnd eV.out eN.out eB.out, TF.out.2⟩
  · rw [hs] at C1
    clear h
    go_enter Tryz.func38, Tryz.ntmps38
    go_wp2_with fail
    generalize World.alloc (World.alloc w _) _ = W at *
    refine (C1.out _).mono ?_; rintro e w1 ⟨rfl, hb1⟩
    have D1 := D.low hb1
    clear D hb1
    obtain ⟨x0, x1, x2, x3⟩ := D1.dx.cs
    go_wp2_with fail
    refine (C2.out _ D1).mono ?_; rintro e w2 ⟨rfl, hb2⟩
    have D2 := D1.low hb2
    clear D1 hb2 x0 x1 x2 x3 C1 C2
    obtain ⟨A, hA⟩ : ∃ A, A = atI l s va := ⟨_, rfl⟩
    rw [← hA]
    have HA := Lib.hid hA
    clear hA
    have hz' := Lib.hid hz
    clear hz
    go_wp2_with fail
    go_loopw [10, 12] (fun a i wr => ∃ z : Nat, a = .int .i64 (dlookN n LT s va z) ∧ i = .int .i64 (z : Int) ∧ z ≤ 4 ∧ (posS l s va < l.length → (z : Int) ≤ (sat l (posS l s va)).p.sz) ∧ DR w wr w.heap.size (w.heap.size + 1) ns bl (.slice ao l.length cap) l (.slice (some ⟨g2, 0, none⟩) n cap2) n LT U) (fun _ i _ => 4 - (RowKit.intOf i).toNat)
    case atStart => exact ⟨0, rfl, rfl, by omega, fun h => by have h1 := sizeB_true (hz'.out _ (sat_mem h)); omega, D2⟩
    case round =>
      clear D2
      obtain ⟨z, rfl, rfl, hz4, hle, D⟩ := hrel
      by_cases hlt : z < 4
      · have hlt' : (z : Int) < 4 := by omega
        have C3z := Lib.hid (C3.out z)
        have C4z := Lib.hid (C4.out z hlt)
        have hL1 := Lib.hid (show dlookN n LT s va (z + 1) = dlookN n LT s va z + Hs.getN n LT (kz s va z) from rfl)
        have hn0 := D.dx.dh.ch.n0
        have hbd := dlook_bd n LT hn0 s va z
        have hbd2 := hgetN_bd n LT hn0 (kz s va z)
        have hlg : (Hs.lngL LT n : Int) ≤ 1073741824 := by have h1 := Hs.lng_le LT n; have h2 := D.dx.dh.ch.few; omega
        have hm4 : (z : Int) * (Hs.lngL LT n : Int) ≤ 4 * 1073741824 := Int.mul_le_mul (by omega) hlg (by omega) (by omega)
        have hkb : dlookN n LT s va z ≤ 4294967296 := by omega
        have hk0 : 0 ≤ dlookN n LT s va z := hbd.1
        clear hbd
        obtain ⟨N, hN⟩ : ∃ x, x = Hs.getN n LT (kz s va z) := ⟨_, rfl⟩
        obtain ⟨x, hx⟩ : ∃ x, x = Hs.getV n LT (kz s va z) := ⟨_, rfl⟩
        obtain ⟨B, hB⟩ : ∃ x, x = Hs.getB n LT (kz s va z) := ⟨_, rfl⟩
        rw [← hN, ← hx, ← hB] at C4z
        rw [← hN] at hL1 hbd2
        unfold kz at C4z
        have HLE := Lib.hid hle
        clear hN hx hB hm4 C3 C4 hle
        generalize hlk : dlookN n LT s va z = K at *
        have HLK := Lib.hid hlk
        clear hlk
        have hS := D.two
        go_wp2_with fail
        go_region_held3 (fun w1 => w1.cell? ⟨w.heap.size, 2, none⟩ = some (.int .i64 bl) ∧ w1.cell? ⟨w.heap.size, 3, none⟩ = some (.slice (some ⟨g2, 0, none⟩) n cap2))
          ((refine (DR.two (DR.low D ?_)); (repeat (first | (with_reducible assumption) | (with_reducible exact Below.refl _ _) | (with_reducible refine lo_step ?_ (by assumption)) | (with_reducible refine lo_drew ?_) | (with_reducible refine lo_drewN ?_ _) | (with_reducible refine lo_alloc ?_ _) | (with_reducible refine lo_set ?_ ?_ _) | (exact Nat.le_refl _) | (exact hs2 _ (Nat.le_refl _)) | (exact hb'.size))) ))
          (first
            | (go_at_call 69; (with_reducible refine (C3z.out _).mono ?_); rintro e w' ⟨rfl, hb'⟩)
            | (go_at_call 76; (with_reducible refine (C4z.out _ (DR.low D (by (repeat (first | (with_reducible assumption) | (with_reducible exact Below.refl _ _) | (with_reducible refine lo_step ?_ (by assumption)) | (with_reducible refine lo_drew ?_) | (with_reducible refine lo_drewN ?_ _) | (with_reducible refine lo_alloc ?_ _) | (with_reducible refine lo_set ?_ ?_ _) | (exact Nat.le_refl _) | (exact hs2 _ (Nat.le_refl _)) | (exact hb'.size))) ))).mono ?_); rintro e w6 ⟨rfl, hb6⟩; have D6 := DR.low (DR.low D (by (repeat (first | (with_reducible assumption) | (with_reducible exact Below.refl _ _) | (with_reducible refine lo_step ?_ (by assumption)) | (with_reducible refine lo_drew ?_) | (with_reducible refine lo_drewN ?_ _) | (with_reducible refine lo_alloc ?_ _) | (with_reducible refine lo_set ?_ ?_ _) | (exact Nat.le_refl _) | (exact hs2 _ (Nat.le_refl _)) | (exact hb'.size))) )) hb6))
        all_goals
          obtain ⟨x0, x1, x2, x3⟩ := D6.dx.cs
          have D6h := Lib.hid D6
          clear hS D
          by_cases hp : posS l s va < l.length
          · have hle := HLE.out hp
            have hA2 : A = (posS l s va : Int) := by rw [HA.out]; unfold atI; rw [if_pos hp]
            have hO := D6.dx.dh.own
            have hsz := sizeB_true (hz'.out _ (sat_mem hp))
            have eB := Lib.hid (show dfB ns l s va = true by unfold dfB; rw [hs, decide_eq_true hp]; rfl)
            have eV := Lib.hid (show dfV ns l s va = (sat l (posS l s va)).p by unfold dfV; rw [eB.out]; rfl)
            have eN := Lib.hid (show dfN ns l n LT s va = dlookN n LT s va ((sat l (posS l s va)).p.sz.toNat + 1) by unfold dfN; rw [hs, if_pos rfl, if_pos hp])
            have HPL := Lib.hid hp
            rcases own_form hO with ⟨_, h0⟩ | ⟨g, cap3, hv, hgb, hnc, hcm⟩
            · omega
            · obtain ⟨y0, y1, y2, y3, y4, y5, y6, y7, y8, y9, y10, y11⟩ := own_sp hO hgb hp
              simp only [Value.slice.injEq, true_and] at hv
              obtain ⟨rfl, rfl⟩ := hv
              unfold maxLen at hcm
              subst hA2
              have TF := Lib.hid (D6.fin (sat l (posS l s va)).p)
              obtain ⟨r0, r1, r2, r3, r4, r5, r6, r7, r8, r9, r10⟩ := D6.r.cells
              have fr := D6.fr
              clear hO D6
              obtain ⟨q, hq⟩ : ∃ q, q = sat l (posS l s va) := ⟨_, rfl⟩
              have HQ := Lib.hid hq
              rw [← hq] at y0 y1 y2 y3 y4 y5 y6 y7 y8 y9 y10 y11 TF eV eN hle hsz
              clear hq
              obtain ⟨j, hj⟩ : ∃ j, j = posS l s va := ⟨_, rfl⟩
              have HJ := Lib.hid hj
              rw [← hj] at y0 y1 y2 y3 y4 y5 y6 y7 y8 y9 y10 y11 hp ⊢
              clear hj
              have hj0 : (0 : Int) ≤ (j : Int) := by omega
              have hjl : (j : Int) < (l.length : Int) := by omega
              by_cases he : q.p.sz = (z : Int)
              · have heq : (q.p.sz == (z : Int)) = true := by rw [he]; simp
                have eN2 := Lib.hid (show dfN ns l n LT s va = K + N by rw [eN.out, he, show ((z : Int)).toNat = z by omega, hL1.out])
                have HE := Lib.hid he
                clear he hle hsz
                go_wp2_with fail
                refine bodyPost_ret (res_P3 rfl _ _ _ _ rfl TF.out.1.row) rfl ?_
                exact ⟨ret_fnd eV.out eN2.out eB.out, TF.out.2⟩
              · have hne : (q.p.sz == (z : Int)) = false := by simpa using he
                have hle2 : (z : Int) + 1 ≤ q.p.sz := by omega
                have HL2 := Lib.hid hle2
                clear he hle hsz hle2 TF fr r0 r1 r2 r3 r4 r5 r6 r7 r8 r9 r10
                go_wp2_with fail
                rw [HJ.out]
                go_roundw
                case rel => exact ⟨z + 1, by rw [hL1.out], by go_num, by omega, fun _ => by rw [← HQ.out]; have := HL2.out; omega, D6h.out⟩
                case measure => simp [RowKit.intOf]; omega
          · have hA2 : A = -1 := by rw [HA.out]; unfold atI; rw [if_neg hp]
            subst hA2
            have HPN := Lib.hid hp
            clear hp D6
            go_wp2_with fail
            go_roundw
            case rel => exact ⟨z + 1, by rw [hL1.out], by go_num, by omega, fun hh => absurd hh HPN.out, D6h.out⟩
            case measure => simp [RowKit.intOf]; omega
      · obtain rfl : z = 4 := by omega
        have hp : ¬ posS l s va < l.length := fun hp => by
          have h1 := hle hp
          have h2 := sizeB_true (hz'.out _ (sat_mem hp))
          omega
        have eB := Lib.hid (show dfB ns l s va = false by unfold dfB; rw [hs, decide_eq_false hp]; rfl)
        have eV := Lib.hid (show dfV ns l s va = Pg.zero by unfold dfV; rw [eB.out]; rfl)
        have eN := Lib.hid (show dfN ns l n LT s va = dlookN n LT s va 4 by unfold dfN; rw [hs, if_pos rfl, if_neg hp])
        have TF := Lib.hid (D.fin Pg.zero)
        obtain ⟨r0, r1, r2, r3, r4, r5, r6, r7, r8, r9, r10⟩ := D.r.cells
        have fr := D.fr
        clear D hp hle C3 C4
        generalize dlookN n LT s va 4 = K at *
        go_wp2_with fail
        refine bodyPost_ret (res_P3 rfl _ _ _ _ rfl TF.out.1.row) rfl ?_
        exact ⟨ret_fnd eV.out eN.out eB.out, TF.out.2⟩
end
end Go.Proofs.YtffpfceclhogoaaGreat.Hp
namespace Go.Proofs.YtffpfceclhogoaaGreat.Hp
open Fld Hs
open Go.ChangeShapes Go.WideShapes Go.ChangeAt Go.RowKit Go.Maps
set_option maxHeartbeats 1000000
set_option maxRecDepth 100000
def isMeet (s : Int) (p : Pg) (x : SPg) : Bool := (x.sp == s) && meetB p.va p.sz x.p.va x.p.sz
def dmeetB (l : List SPg) (s : Int) (p : Pg) : Bool := decide (firstN (fun i => isMeet s p (sat l i)) l.length < l.length)
def dmayE (ns bl : Int) (l : List SPg) (s : Int) (p : Pg) : Int :=
  if (isB ns s && sizeB p.sz && decide (p.pa < 2199023255552)) = false then 1
  else if (p.pa % bytesI p.sz == 0) = false then 1
  else if holeB p.va then 3
  else if (p.va % bytesI p.sz == 0) = false then 4
  else if dmeetB l s p then 9
  else if bl ≤ (l.length : Int) then 6
  else 0
/-- A hat of the document's, and a page, in boxes. -/
structure DG (u w : World) (xb pb : Nat) (ns bl : Int) (v : Value) (l : List SPg) (s : Value) (n : Nat) (LT : Nat → List Hs.Bk) (U : Nat → Value) (p : Pg) : Prop where
  dx : DX u w xb ns bl v l s n LT U
  pg : RowP w pb p
section
variable {u w w' : World} {xb pb : Nat} {ns bl : Int} {v : Value} {l : List SPg} {s : Value} {n : Nat} {LT : Nat → List Hs.Bk} {U : Nat → Value} {p : Pg}
theorem DG.low (h : DG u w xb pb ns bl v l s n LT U p) (hb : Below w.heap.size w w') : DG u w' xb pb ns bl v l s n LT U p := ⟨h.dx.low hb, h.pg.low hb⟩
theorem DG.new (h : DH w v l s n LT U) (ns bl : Int) (p : Pg) : DG w ((w.alloc (.cells #[.int .i64 ns, v, .int .i64 bl, s] 30)).alloc (.cells #[.int .u64 p.va, .int .i64 p.sz, .int .u64 p.pa, .bool p.att.write, .bool p.att.priv, .bool p.att.exec, .bool p.att.lock, .bool p.att.global, .bool p.att.quiet, .bool p.ref, .bool p.mod] 38)) w.heap.size (w.heap.size + 1) ns bl v l s n LT U p := by
  have h1 := RowP.new (w.alloc (.cells #[.int .i64 ns, v, .int .i64 bl, s] 30)) p
  rw [World.size_alloc] at h1
  exact ⟨(DX.new h ns bl).low ((Below.refl _ _).alloc (Nat.le_refl _) _), h1⟩
end
section
variable {v : Value} {l : List SPg} {t : Value} {n : Nat} {LT : Nat → List Hs.Bk} {U : Nat → Value}
theorem dmay_any (ns bl s : Int) (p : Pg) (hpw : p.wf) (w : World) (h : DH w v l t n LT U) :
    Calls Tryz.prog 28 #[.agg #[.int .i64 ns, v, .int .i64 bl, t], .int .i64 s, .agg #[.int .u64 p.va, .int .i64 p.sz, .int .u64 p.pa, .bool p.att.write, .bool p.att.priv, .bool p.att.exec, .bool p.att.lock, .bool p.att.global, .bool p.att.quiet, .bool p.ref, .bool p.mod]] w fun e w' => e = .returned (.int .i64 (dmayE ns bl l s p)) ∧ Below w.heap.size w w' := by
  obtain ⟨⟨ao, cap, rfl⟩, g2, cap2, rfl⟩ := h.shape
  have hl := h.few
  obtain ⟨v0, v1, z0, z1, p0, p1⟩ := hpw
  have G := DG.new h ns bl p
  have C1 := Lib.hid (fun (W : World) => dis_any (.slice ao l.length cap) (.slice (some ⟨g2, 0, none⟩) n cap2) ns bl s rfl rfl W)
  have C2 := Lib.hid (fun (W : World) => rpmay_any p.sz W)
  have C3 := Lib.hid (fun (W : World) => rbytes_any p.sz W)
  have C4 := Lib.hid (fun (W : World) => rhole_any p.va v0 v1 W)
  have hE := Lib.hid (show dmayE ns bl l s p = if (isB ns s && sizeB p.sz && decide (p.pa < 2199023255552)) = false then 1 else if (p.pa % bytesI p.sz == 0) = false then 1 else if holeB p.va then 3 else if (p.va % bytesI p.sz == 0) = false then 4 else if dmeetB l s p then 9 else if bl ≤ (l.length : Int) then 6 else 0 from rfl)
  obtain ⟨E, hE0⟩ : ∃ E, E = dmayE ns bl l s p := ⟨_, rfl⟩
  rw [← hE0] at hE ⊢
  clear hE0 h
  cases b1 : isB ns s
  · rw [b1] at C1 hE
    go_enter Tryz.func28, Tryz.ntmps28
    go_wp2_with fail
    generalize World.alloc (World.alloc w _) _ = W at *
    obtain ⟨x0, x1, x2, x3⟩ := G.dx.cs
    obtain ⟨y0, y1, y2, y3, y4, y5, y6, y7, y8, y9, y10⟩ := G.pg.cells
    refine (C1.out _).mono ?_; rintro e w1 ⟨rfl, hb1⟩
    have G1 := G.low hb1
    have hlo := G1.dx.lo
    clear G hb1 x0 x1 x2 x3 y0 y1 y2 y3 y4 y5 y6 y7 y8 y9 y10
    obtain ⟨y0, y1, y2, y3, y4, y5, y6, y7, y8, y9, y10⟩ := G1.pg.cells
    clear G1
    go_wp2_with fail
    refine (C2.out _).mono ?_; rintro e w2 ⟨rfl, rfl⟩
    go_wp2_with fail
    go_ret
    exact ⟨ret_int hE.out.symm, hlo⟩
  rw [b1] at C1 hE
  cases b2 : sizeB p.sz
  · rw [b2] at C2 hE
    go_enter Tryz.func28, Tryz.ntmps28
    go_wp2_with fail
    generalize World.alloc (World.alloc w _) _ = W at *
    refine (C1.out _).mono ?_; rintro e w1 ⟨rfl, hb1⟩
    have G1 := G.low hb1
    have hlo := G1.dx.lo
    clear G hb1
    obtain ⟨y0, y1, y2, y3, y4, y5, y6, y7, y8, y9, y10⟩ := G1.pg.cells
    clear G1
    go_wp2_with fail
    refine (C2.out _).mono ?_; rintro e w2 ⟨rfl, rfl⟩
    go_wp2_with fail
    go_ret
    exact ⟨ret_int hE.out.symm, hlo⟩
  have hB0 := bytes_pos b2
  have hB1 := (bytes_bd p.sz).2
  rw [b2] at C2 hE
  by_cases b3 : p.pa < 2199023255552
  · rw [decide_eq_true b3] at hE
    obtain ⟨B, hB⟩ : ∃ B, B = bytesI p.sz := ⟨_, rfl⟩
    rw [← hB] at C3 hE hB0 hB1
    have hnz : ¬ B = 0 := by omega
    clear hB
    go_enter Tryz.func28, Tryz.ntmps28
    go_wp2_with fail
    generalize World.alloc (World.alloc w _) _ = W at *
    refine (C1.out _).mono ?_; rintro e w1 ⟨rfl, hb1⟩
    have G1 := G.low hb1
    have hlo := G1.dx.lo
    clear G hb1
    obtain ⟨y0, y1, y2, y3, y4, y5, y6, y7, y8, y9, y10⟩ := G1.pg.cells
    go_wp2_with fail
    refine (C2.out _).mono ?_; rintro e w2 ⟨rfl, rfl⟩
    go_wp2_with fail
    by_cases b4 : p.pa % B = 0
    · have b4' : (p.pa % B == 0) = true := by simpa using b4
      rw [b4'] at hE
      go_quiet (first | (go_at_call 17; exact Calls.quiet_of_same (same_sym (C3.out _))))
      have G2 := G1.low (below_drewN (Below.refl _ w1) nq)
      clear G1 hlo b4 b4' y0 y1 y2 y3 y4 y5 y6 y7 y8 y9 y10
      generalize World.drewN w1 nq = W3 at *
      obtain ⟨y0, y1, y2, y3, y4, y5, y6, y7, y8, y9, y10⟩ := G2.pg.cells
      have hlo := G2.dx.lo
      go_wp2_with fail
      refine (C4.out _).mono ?_; rintro e w4 ⟨rfl, rfl⟩
      cases b5 : holeB p.va
      · rw [b5] at hE
        by_cases b6 : p.va % B = 0
        · have b6' : (p.va % B == 0) = true := by simpa using b6
          rw [b6'] at hE
          go_wp2_with fail
          go_quiet (first | (go_at_call 17; exact Calls.quiet_of_same (same_sym (C3.out _))))
          have G3 := G2.low (below_drewN (Below.refl _ W3) nq)
          clear G2 hlo b6 b6' y0 y1 y2 y3 y4 y5 y6 y7 y8 y9 y10
          generalize World.drewN W3 nq = W4 at *
          have HM := Lib.hid (show dmeetB l s p = decide (firstN (fun i => isMeet s p (sat l i)) l.length < l.length) from rfl)
          go_wp2_with fail
          go_loopw [10] (fun i wr => ∃ j : Nat, i = .int .i64 (j : Int) ∧ j ≤ l.length ∧ (∀ i, i < j → isMeet s p (sat l i) = false) ∧ DG w wr w.heap.size (w.heap.size + 1) ns bl (.slice ao l.length cap) l (.slice (some ⟨g2, 0, none⟩) n cap2) n LT U p) (fun i _ => l.length - (RowKit.intOf i).toNat)
          case atStart => exact ⟨0, rfl, Nat.zero_le _, fun i h => absurd h (Nat.not_lt_zero _), G3⟩
          case round =>
            clear G3
            obtain ⟨j, rfl, hj, hno, G⟩ := hrel
            obtain ⟨x0, x1, x2, x3⟩ := G.dx.cs
            obtain ⟨y0, y1, y2, y3, y4, y5, y6, y7, y8, y9, y10⟩ := G.pg.cells
            by_cases hlt : j < l.length
            · have hlt' : (j : Int) < (l.length : Int) := by omega
              have hwf := G.dx.dh.wf _ (sat_mem hlt)
              have hO := G.dx.dh.own
              have hN := Lib.hid hno
              rcases own_form hO with ⟨_, h0⟩ | ⟨g, cap3, hv, hgb, hnc, hcm⟩
              · omega
              · obtain ⟨q0, q1, q2, q3, q4, q5, q6, q7, q8, q9, q10, q11⟩ := own_sp hO hgb hlt
                simp only [Value.slice.injEq, true_and] at hv
                obtain ⟨rfl, rfl⟩ := hv
                unfold maxLen at hcm
                have HA := Lib.hid (show isMeet s p (sat l j) = ((sat l j).sp == s && meetB p.va p.sz (sat l j).p.va (sat l j).p.sz) from rfl)
                have GH := Lib.hid G
                obtain ⟨x, hxx⟩ : ∃ x, x = sat l j := ⟨_, rfl⟩
                rw [← hxx] at q0 q1 q2 q3 q4 q5 q6 q7 q8 q9 q10 q11 HA hwf
                have HXX := Lib.hid hxx
                clear hxx hno hO G
                have CM := Lib.hid (fun w => rmeet_any p.va p.sz x.p.va x.p.sz v0 v1 hwf.p.v0 hwf.p.v1 w)
                obtain ⟨M, hM⟩ : ∃ M, M = meetB p.va p.sz x.p.va x.p.sz := ⟨_, rfl⟩
                rw [← hM] at CM HA
                clear hM
                go_wp2_with fail
                have hS : wr.cell? ⟨w.heap.size, 1, none⟩ = some (.slice (some ⟨g, 0, none⟩) l.length cap) ∧ wr.cell? ⟨w.heap.size + 1, 0, none⟩ = some (.int .u64 p.va) ∧ wr.cell? ⟨w.heap.size + 1, 1, none⟩ = some (.int .i64 p.sz) ∧ wr.cell? ⟨g, j * 12 + 1, none⟩ = some (.int .u64 x.p.va) ∧ wr.cell? ⟨g, j * 12 + 2, none⟩ = some (.int .i64 x.p.sz) := ⟨x1, y0, y1, q1, q2⟩
                go_region_held3 (fun wr => wr.cell? ⟨w.heap.size, 1, none⟩ = some (.slice (some ⟨g, 0, none⟩) l.length cap) ∧ wr.cell? ⟨w.heap.size + 1, 0, none⟩ = some (.int .u64 p.va) ∧ wr.cell? ⟨w.heap.size + 1, 1, none⟩ = some (.int .i64 p.sz) ∧ wr.cell? ⟨g, j * 12 + 1, none⟩ = some (.int .u64 x.p.va) ∧ wr.cell? ⟨g, j * 12 + 2, none⟩ = some (.int .i64 x.p.sz))
                  (exact hS)
                  (first
                    | (go_at_call 20; (with_reducible refine (CM.out _).mono ?_); rintro e w' ⟨rfl, mB, rfl⟩))
                all_goals
                  have GF := Lib.hid (fun k => GH.out.low (below_drewN (Below.refl _ wr) k))
                  cases hq : (x.sp == s)
                  · rw [hq] at HA
                    clear hS
                    go_wp2_with fail
                    go_roundw
                    case rel => exact ⟨j + 1, by go_num, by omega, fun i hi => (by by_cases e : i = j; rw [e, ← HXX.out]; exact HA.out; exact hN.out i (by omega)), GF.out _⟩
                    case measure => simp [RowKit.intOf]; omega
                  · rw [hq] at HA
                    clear hS
                    cases M
                    · go_wp2_with fail
                      go_roundw
                      case rel => exact ⟨j + 1, by go_num, by omega, fun i hi => (by by_cases e : i = j; rw [e, ← HXX.out]; exact HA.out; exact hN.out i (by omega)), GF.out _⟩
                      case measure => simp [RowKit.intOf]; omega
                    · have eP : firstN (fun i => isMeet s p (sat l i)) l.length = j := first_here hlt hN.out (by rw [← HXX.out]; exact HA.out)
                      rw [HM.out, eP, decide_eq_true hlt] at hE
                      clear eP
                      go_wp2_with fail
                      go_ret
                      exact ⟨ret_int hE.out.symm, (GF.out _).dx.lo⟩
            · obtain rfl : j = l.length := by omega
              rw [HM.out, first_none hno, decide_eq_false (Nat.lt_irrefl _)] at hE
              have hlo := G.dx.lo
              clear G hno
              by_cases hfull : bl ≤ (l.length : Int)
              · rw [if_pos hfull] at hE
                go_wp2_with fail
                go_ret
                exact ⟨ret_int hE.out.symm, hlo⟩
              · rw [if_neg hfull] at hE
                go_wp2_with fail
                go_ret
                exact ⟨ret_int hE.out.symm, hlo⟩
        · have b6' : (p.va % B == 0) = false := by simpa using b6
          rw [b6'] at hE
          clear G2
          go_wp2_with fail
          go_quiet (first | (go_at_call 17; exact Calls.quiet_of_same (same_sym (C3.out _))))
          go_wp2_with fail
          go_ret
          exact ⟨ret_int hE.out.symm, below_drewN hlo _⟩
      · rw [b5] at hE
        clear G2
        go_wp2_with fail
        go_ret
        exact ⟨ret_int hE.out.symm, hlo⟩
    · have b4' : (p.pa % B == 0) = false := by simpa using b4
      rw [b4'] at hE
      clear G1
      go_quiet (first | (go_at_call 17; exact Calls.quiet_of_same (same_sym (C3.out _))))
      go_wp2_with fail
      go_ret
      exact ⟨ret_int hE.out.symm, below_drewN hlo _⟩
  · rw [decide_eq_false b3] at hE
    go_enter Tryz.func28, Tryz.ntmps28
    go_wp2_with fail
    generalize World.alloc (World.alloc w _) _ = W at *
    refine (C1.out _).mono ?_; rintro e w1 ⟨rfl, hb1⟩
    have G1 := G.low hb1
    have hlo := G1.dx.lo
    clear G hb1
    obtain ⟨y0, y1, y2, y3, y4, y5, y6, y7, y8, y9, y10⟩ := G1.pg.cells
    clear G1
    go_wp2_with fail
    refine (C2.out _).mono ?_; rintro e w2 ⟨rfl, rfl⟩
    go_wp2_with fail
    go_ret
    exact ⟨ret_int hE.out.symm, hlo⟩
end
end Go.Proofs.YtffpfceclhogoaaGreat.Hp
namespace Go.Proofs.YtffpfceclhogoaaGreat.Hp
open Fld Hs
open Go.ChangeShapes Go.WideShapes Go.ChangeAt Go.RowKit Go.Maps
set_option maxHeartbeats 2000000
set_option maxRecDepth 100000
theorem infoS12 : (Tryz.prog.info? 97).map (fun i => (i.zero, i.size, i.bytes)) = some (some (.agg #[.int .i64 SPg.zero.sp, .int .u64 SPg.zero.p.va, .int .i64 SPg.zero.p.sz, .int .u64 SPg.zero.p.pa, .bool SPg.zero.p.att.write, .bool SPg.zero.p.att.priv, .bool SPg.zero.p.att.exec, .bool SPg.zero.p.att.lock, .bool SPg.zero.p.att.global, .bool SPg.zero.p.att.quiet, .bool SPg.zero.p.ref, .bool SPg.zero.p.mod]), 12, 40) := by kernel_rfl
theorem s_append0 (ty : TypeId) (base xo : Option Addr) (n cap xc : Nat) (h : n ≤ cap) (w : World) : (Builtin.append_ #[25, 25] ty #[.slice base n cap, .slice xo 0 xc]).run Tryz.prog w = .ok (.slice base n cap) w := by
  obtain ⟨i0, hi, hz0, hz1, hz2⟩ := info_parts infoS12
  cases base <;> cases xo <;> simp [Builtin.append_, run_underlying Tryz.underlying25, sizeOf, typeInfo, hi, Builtin.lenOf, h, Builtin.firstCells, storeCells, loadCells, loadCellsFrom]
/-- A part of a list appended to a list of one's own. -/
theorem s_append_at (ty : TypeId) (W : World) (B : Nat) (v : Value) (xo : Option Addr) (xc : Nat) (l m : List SPg) (ho : W.ownsRow B 97 12 v l.length (spL l)) (hx : m = [] ∨ ∃ ad, xo = some ad ∧ ∀ j u, (spL m)[j]? = some u → W.cell? (ad.add j) = some u) (hB : B ≤ W.heap.size) (hle : l.length + m.length ≤ 1073741824) :
    ∃ v' W', (Builtin.append_ #[25, 25] ty #[v, .slice xo m.length xc]).run Tryz.prog W = .ok v' W' ∧ W'.ownsRow B 97 12 v' (l ++ m).length (spL (l ++ m)) ∧ W.grownBy W' v.ownBlock ∧ (∀ k, v'.ownBlock = some k → v.ownBlock = some k ∨ k = W.heap.size) := by
  obtain ⟨i0, hi, hz0, hz1, hz2⟩ := info_parts infoS12
  by_cases hm : m = []
  · subst hm
    obtain ⟨ao, c1, rfl⟩ := own_shape3 ho
    have hc : l.length ≤ c1 := by
      rcases own_form ho with ⟨hv, h0⟩ | ⟨g, cap, hv, _, h1, _⟩
      · omega
      · cases hv; exact h1
    exact ⟨_, W, s_append0 ty ao xo _ c1 xc hc W, by simpa using ho, Hs.grown_refl _ _, fun k hk => .inl hk⟩
  · have hpos : 0 < m.length := List.length_pos_iff.2 hm
    rcases hx with h0 | ⟨ad, rfl, hnews⟩
    · exact absurd h0 hm
    obtain ⟨g2, cap2, W', hr, h2, h3, h4, _⟩ := run_append_lies (P := Tryz.prog) W 25 ty B 97 i0 _ 12 40 Tryz.underlying25 hi hz0 hz1 hz2 rfl (by decide) v l.length (spL l) ho ad m.length xc (spL m) (spL_length m) hnews (spL_one m) hpos (by unfold maxLen; omega) (by omega) hB _ rfl
    refine ⟨_, W', hr, by rw [List.length_append, spL_append]; exact h2, h3, fun k hk => ?_⟩
    obtain rfl : g2 = k := by simpa [Value.ownBlock] using hk
    exact h4
theorem s_append (ty : TypeId) (W : World) (B : Nat) (v : Value) (xo : Option Addr) (xc : Nat) (l m : List SPg) (ho : W.ownsRow B 97 12 v l.length (spL l)) (hx : SOwn W (.slice xo m.length xc) m) (hB : B ≤ W.heap.size) (hle : l.length + m.length ≤ 1073741824) :
    ∃ v' W', (Builtin.append_ #[25, 25] ty #[v, .slice xo m.length xc]).run Tryz.prog W = .ok v' W' ∧ W'.ownsRow B 97 12 v' (l ++ m).length (spL (l ++ m)) ∧ W.grownBy W' v.ownBlock ∧ (∀ k, v'.ownBlock = some k → v.ownBlock = some k ∨ k = W.heap.size) := by
  refine s_append_at ty W B v xo xc l m ho ?_ hB hle
  rcases own_form hx with ⟨_, h0⟩ | ⟨g, cap, hv, hg, hnc, hcm⟩
  · exact .inl (List.eq_nil_of_length_eq_zero h0)
  · simp only [Value.slice.injEq, true_and] at hv
    obtain ⟨rfl, rfl⟩ := hv
    exact .inr ⟨_, rfl, hx.cells hg⟩
theorem notH {w : World} {s : Value} {n : Nat} {L : Nat → List Hs.Bk} {U : Nat → Value} (h : Hs.ChW w s n L U) {k : Nat} (hk : Hs.DocB s n U k) : ∃ cur t, w.heap[k]? = some (.cells cur t (0, 0)) ∧ t ≠ 30 ∧ t ≠ 28 := by
  rcases hk with hk | ⟨i, hi, hk⟩
  · obtain ⟨cur, hc⟩ := own_obj h.outer hk
    exact ⟨cur, _, hc, by decide, by decide⟩
  · obtain ⟨cur, hc⟩ := own_obj (h.rows i hi) hk
    exact ⟨cur, _, hc, by decide, by decide⟩
/-- A hat of the document's stays where a block of another kind is written. -/
theorem DH.far {w w' : World} {v : Value} {l : List SPg} {s : Value} {n : Nat} {LT : Nat → List Hs.Bk} {U : Nat → Value} (h : DH w v l s n LT U) {xb : Nat} {cs : Array Value} {ty : TypeId} (hx : w.heap[xb]? = some (.cells cs ty (0, 0))) (hty : ty = 30 ∨ ty = 28) (hk : ∀ k, k ≠ xb → w'.heap[k]? = w.heap[k]?) : DH w' v l s n LT U := by
  refine ⟨own_same h.own (fun g hg => hk g ?_), h.ch.same (fun k hkk => hk k ?_), h.few, h.wf⟩
  · rintro rfl
    obtain ⟨cur, hc⟩ := own_obj h.own hg
    rw [hx] at hc; injection hc with hc; injection hc with _ hc _
    rcases hty with e | e <;> rw [e] at hc <;> exact absurd hc (by decide)
  · rintro rfl
    obtain ⟨cur, t, h1, h2, h3⟩ := notH h.ch hkk
    rw [hx] at h1; injection h1 with h1; injection h1 with _ h1 _
    rcases hty with e | e
    · exact h2 (by rw [← h1, e])
    · exact h3 (by rw [← h1, e])
/-- A part of a hat in a box is another one. -/
theorem DX.put1 {u w w1 : World} {xb : Nat} {ns bl : Int} {v v2 : Value} {l l2 : List SPg} {s : Value} {n : Nat} {LT : Nat → List Hs.Bk} {U : Nat → Value} (h : DX u w xb ns bl v l s n LT U) (xl : u.heap.size ≤ xb) (hb : Below w.heap.size w w1) (ho : SOwn w1 v2 l2) (hf : l2.length ≤ 1073741824) (hw : ∀ x ∈ l2, x.wf) :
    DX u (w1.setCell ⟨xb, 1, none⟩ v2) xb ns bl v2 l2 s n LT U ∧ (∀ k, k ≠ xb → (w1.setCell ⟨xb, 1, none⟩ v2).heap[k]? = w1.heap[k]?) ∧ w1.cell? ⟨xb, 1, none⟩ = some v ∧ w1.frozen? ⟨xb, 1, none⟩ = false := by
  have h1 := h.low hb
  have hx := h1.hx
  have hk : ∀ k, k ≠ xb → (w1.setCell ⟨xb, 1, none⟩ v2).heap[k]? = w1.heap[k]? := fun k hk => Below.heap_setCell _ _ _ _ hk
  have h0 := set_row hx 1 v2
  simp only [List.setIfInBounds_toArray, List.set_cons_succ, List.set_cons_zero] at h0
  have hd : DH w1 v2 l2 s n LT U := ⟨ho, h1.dh.ch, hf, hw⟩
  exact ⟨⟨hd.far hx (.inl rfl) hk, h0, h1.lo.setCell xl _⟩, hk, by simp [World.cell?, hx], by simp [World.frozen?, hx]⟩
theorem DX.put2 {u w w1 : World} {xb : Nat} {ns bl : Int} {v : Value} {l : List SPg} {s s2 : Value} {n n2 : Nat} {LT LT2 : Nat → List Hs.Bk} {U U2 : Nat → Value} (h : DX u w xb ns bl v l s n LT U) (xl : u.heap.size ≤ xb) (hb : Below w.heap.size w w1) (hc : Hs.ChW w1 s2 n2 LT2 U2) (b2 : Int) :
    DX u ((w1.setCell ⟨xb, 2, none⟩ (.int .i64 b2)).setCell ⟨xb, 3, none⟩ s2) xb ns b2 v l s2 n2 LT2 U2 ∧ (∀ k, k ≠ xb → ((w1.setCell ⟨xb, 2, none⟩ (.int .i64 b2)).setCell ⟨xb, 3, none⟩ s2).heap[k]? = w1.heap[k]?) ∧ (w1.cell? ⟨xb, 2, none⟩ = some (.int .i64 bl) ∧ w1.cell? ⟨xb, 3, none⟩ = some s) ∧ ∀ i, w1.frozen? ⟨xb, i, none⟩ = false := by
  have h1 := h.low hb
  have hx := h1.hx
  have hk : ∀ k, k ≠ xb → ((w1.setCell ⟨xb, 2, none⟩ (.int .i64 b2)).setCell ⟨xb, 3, none⟩ s2).heap[k]? = w1.heap[k]? := fun k hk => by rw [Below.heap_setCell _ _ _ _ hk, Below.heap_setCell _ _ _ _ hk]
  have h0 := set_row (set_row hx 2 (.int .i64 b2)) 3 s2
  simp only [List.setIfInBounds_toArray, List.set_cons_succ, List.set_cons_zero] at h0
  have hd : DH w1 v l s2 n2 LT2 U2 := ⟨h1.dh.own, hc, h1.dh.few, h1.dh.wf⟩
  exact ⟨⟨hd.far hx (.inl rfl) hk, h0, (h1.lo.setCell xl _).setCell xl _⟩, hk, ⟨by simp [World.cell?, hx], by simp [World.cell?, hx]⟩, fun i => by simp [World.frozen?, hx]⟩
/-- A result's hat is filled. -/
theorem fill_H {u w : World} {rb : Nat} {ns bl : Int} {v : Value} {l : List SPg} {s : Value} {n : Nat} {LT : Nat → List Hs.Bk} {U : Nat → Value} {cs : Array Value} (h : DH w v l s n LT U) (lo : Below u.heap.size u w) (rl : u.heap.size ≤ rb) {a b c d : Value} (hr : w.heap[rb]? = some (.cells #[a, b, c, d] 30 (0, 0))) (hcs : cs = #[.int .i64 ns, v, .int .i64 bl, s]) :
    ((((w.setCell ⟨rb, 0, none⟩ (.int .i64 ns)).setCell ⟨rb, 1, none⟩ v).setCell ⟨rb, 2, none⟩ (.int .i64 bl)).setCell ⟨rb, 3, none⟩ s).heap[rb]? = some (.cells cs 30 (0, 0)) ∧
    DH ((((w.setCell ⟨rb, 0, none⟩ (.int .i64 ns)).setCell ⟨rb, 1, none⟩ v).setCell ⟨rb, 2, none⟩ (.int .i64 bl)).setCell ⟨rb, 3, none⟩ s) v l s n LT U ∧ Below u.heap.size u ((((w.setCell ⟨rb, 0, none⟩ (.int .i64 ns)).setCell ⟨rb, 1, none⟩ v).setCell ⟨rb, 2, none⟩ (.int .i64 bl)).setCell ⟨rb, 3, none⟩ s) := by
  subst hcs
  have h0 := set_row (set_row (set_row (set_row hr 0 (.int .i64 ns)) 1 v) 2 (.int .i64 bl)) 3 s
  simp only [List.setIfInBounds_toArray, List.set_cons_succ, List.set_cons_zero] at h0
  refine ⟨h0, h.far hr (.inl rfl) (fun k hk => ?_), (((lo.setCell rl _).setCell rl _).setCell rl _).setCell rl _⟩
  rw [Below.heap_setCell _ _ _ _ hk, Below.heap_setCell _ _ _ _ hk, Below.heap_setCell _ _ _ _ hk, Below.heap_setCell _ _ _ _ hk]
theorem res_HE {fn : Func} {p u : Tmp} (h : fn.results = #[.cell p 30, .tmp u]) (tmps : Array Value) (w : World) (g : Nat) (x : Array Value) (hp : tmps.getD p undef = .pointer (some ⟨g, 0, none⟩)) (hR : w.heap[g]? = some (.cells x 30 (0, 0))) (hx : x.size = 4) :
    (results fn tmps).run Tryz.prog w = .ok (.tuple #[.agg x, tmps.getD u undef]) w := by
  have hl := run_loadVar_row (P := Tryz.prog) w g 30 30 x (0, 0) _ hR Tryz.underlying30 (by kernel_rfl) (by rw [hx]; kernel_rfl)
  rw [results_cell_tmp h, hp]
  simp only [asAddr, Sem.run_pure, Result.andThen_ok, hl]
theorem four_H {w : World} {rb : Nat} {a b c d : Value} (hr : w.heap[rb]? = some (.cells #[a, b, c, d] 30 (0, 0))) : w.cell? ⟨rb, 0, none⟩ = some a ∧ w.cell? ⟨rb, 1, none⟩ = some b ∧ w.cell? ⟨rb, 2, none⟩ = some c ∧ w.cell? ⟨rb, 3, none⟩ = some d ∧ ∀ i, w.frozen? ⟨rb, i, none⟩ = false :=
  ⟨by simp [World.cell?, hr], by simp [World.cell?, hr], by simp [World.cell?, hr], by simp [World.cell?, hr], fun i => by simp [World.frozen?, hr]⟩
theorem fill_T {w : World} {s : Value} {n : Nat} {LT : Nat → List Hs.Bk} {U : Nat → Value} {tb : Nat} {a b : Value} (h : Hs.ChW w s n LT U) (ht : w.heap[tb]? = some (.cells #[a, b] 28 (0, 0))) (x y : Value) :
    Hs.ChW ((w.setCell ⟨tb, 0, none⟩ x).setCell ⟨tb, 1, none⟩ y) s n LT U ∧ ((w.setCell ⟨tb, 0, none⟩ x).setCell ⟨tb, 1, none⟩ y).heap[tb]? = some (.cells #[x, y] 28 (0, 0)) := by
  have h0 := set_row (set_row ht 0 x) 1 y
  simp only [List.setIfInBounds_toArray, List.set_cons_succ, List.set_cons_zero] at h0
  refine ⟨h.same (fun k hkk => ?_), h0⟩
  have hn : k ≠ tb := by
    rintro rfl
    obtain ⟨cur, t, h1, _, h3⟩ := notH h hkk
    rw [ht] at h1; injection h1 with h1; injection h1 with _ h1 _
    exact h3 h1.symm
  rw [Below.heap_setCell _ _ _ _ hn, Below.heap_setCell _ _ _ _ hn]
theorem t_two {w : World} {tb : Nat} {a b : Value} (h : w.heap[tb]? = some (.cells #[a, b] 28 (0, 0))) : w.cell? ⟨tb, 0, none⟩ = some a ∧ w.cell? ⟨tb, 1, none⟩ = some b := ⟨by simp [World.cell?, h], by simp [World.cell?, h]⟩
/-- A hat of the document's, a page and a result's hat in boxes. -/
structure MX (u w : World) (xb pb rb : Nat) (ns bl : Int) (v : Value) (l : List SPg) (s : Value) (n : Nat) (LT : Nat → List Hs.Bk) (U : Nat → Value) (p : Pg) : Prop where
  dx : DX u w xb ns bl v l s n LT U
  pg : RowP w pb p
  r : w.heap[rb]? = some (.cells #[.int .i64 0, .slice none 0 0, .int .i64 0, .slice none 0 0] 30 (0, 0))
theorem MX.low {u w w' : World} {xb pb rb : Nat} {ns bl : Int} {v : Value} {l : List SPg} {s : Value} {n : Nat} {LT : Nat → List Hs.Bk} {U : Nat → Value} {p : Pg} (h : MX u w xb pb rb ns bl v l s n LT U p) (hb : Below w.heap.size w w') : MX u w' xb pb rb ns bl v l s n LT U p := ⟨h.dx.low hb, h.pg.low hb, blk_low h.r hb⟩
theorem MX.four {u w : World} {xb pb rb : Nat} {ns bl : Int} {v : Value} {l : List SPg} {s : Value} {n : Nat} {LT : Nat → List Hs.Bk} {U : Nat → Value} {p : Pg} (h : MX u w xb pb rb ns bl v l s n LT U p) : (w.cell? ⟨xb, 2, none⟩ = some (.int .i64 bl) ∧ w.cell? ⟨xb, 3, none⟩ = some s) ∧ w.cell? ⟨pb, 0, none⟩ = some (.int .u64 p.va) ∧ w.cell? ⟨pb, 1, none⟩ = some (.int .i64 p.sz) := ⟨⟨h.dx.cs.2.2.1, h.dx.cs.2.2.2⟩, h.pg.cells.1, h.pg.cells.2.1⟩
def dmapL (ns bl : Int) (l : List SPg) (s : Int) (p : Pg) : List SPg := if dmayE ns bl l s p = 0 then l ++ [⟨s, p⟩] else l
def dmapT (ns bl : Int) (l : List SPg) (n : Nat) (LT : Nat → List Hs.Bk) (s : Int) (p : Pg) : Nat → List Hs.Bk := if dmayE ns bl l s p = 0 then Hs.putT bl n LT ⟨s, baseI p.va p.sz, p.sz⟩ 0 else LT
theorem dmay_room {ns bl : Int} {l : List SPg} {s : Int} {p : Pg} (h : dmayE ns bl l s p = 0) : (l.length : Int) < bl := by
  unfold dmayE at h
  split at h; · cases h
  split at h; · cases h
  split at h; · cases h
  split at h; · cases h
  split at h; · cases h
  split at h; · cases h
  omega
section
variable {v : Value} {l : List SPg} {t : Value} {n : Nat} {LT : Nat → List Hs.Bk} {U : Nat → Value}
theorem dmap_any (ns bl s : Int) (hbl : bl ≤ 1073741824) (s0 : -9223372036854775808 ≤ s) (s1 : s ≤ 9223372036854775807) (p : Pg) (hpw : p.wf) (w : World) (h : DH w v l t n LT U) :
    Calls Tryz.prog 30 #[.agg #[.int .i64 ns, v, .int .i64 bl, t], .int .i64 s, .agg #[.int .u64 p.va, .int .i64 p.sz, .int .u64 p.pa, .bool p.att.write, .bool p.att.priv, .bool p.att.exec, .bool p.att.lock, .bool p.att.global, .bool p.att.quiet, .bool p.ref, .bool p.mod]] w fun e w' => ∃ v' t' U', e = .returned (.tuple #[.agg #[.int .i64 ns, v', .int .i64 bl, t'], .int .i64 (dmayE ns bl l s p)]) ∧ DH w' v' (dmapL ns bl l s p) t' n (dmapT ns bl l n LT s p) U' ∧ Below w.heap.size w w' := by
  obtain ⟨⟨ao, cap, rfl⟩, g2, cap2, rfl⟩ := h.shape
  have hl := h.few
  have hwf0 := h.wf
  obtain ⟨v0, v1, z0, z1, p0, p1⟩ := hpw
  have G := DG.new h ns bl p
  obtain ⟨HB, hHB⟩ : ∃ o, o = Obj.cells #[.int .i64 ns, .slice ao l.length cap, .int .i64 bl, .slice (some ⟨g2, 0, none⟩) n cap2] 30 := ⟨_, rfl⟩
  have NZ : Below ((w.alloc (.cells #[.int .i64 ns, .slice ao l.length cap, .int .i64 bl, .slice (some ⟨g2, 0, none⟩) n cap2] 30)).alloc (.cells #[.int .u64 p.va, .int .i64 p.sz, .int .u64 p.pa, .bool p.att.write, .bool p.att.priv, .bool p.att.exec, .bool p.att.lock, .bool p.att.global, .bool p.att.quiet, .bool p.ref, .bool p.mod] 38)).heap.size ((w.alloc (.cells #[.int .i64 ns, .slice ao l.length cap, .int .i64 bl, .slice (some ⟨g2, 0, none⟩) n cap2] 30)).alloc (.cells #[.int .u64 p.va, .int .i64 p.sz, .int .u64 p.pa, .bool p.att.write, .bool p.att.priv, .bool p.att.exec, .bool p.att.lock, .bool p.att.global, .bool p.att.quiet, .bool p.ref, .bool p.mod] 38)) (((w.alloc (.cells #[.int .i64 ns, .slice ao l.length cap, .int .i64 bl, .slice (some ⟨g2, 0, none⟩) n cap2] 30)).alloc (.cells #[.int .u64 p.va, .int .i64 p.sz, .int .u64 p.pa, .bool p.att.write, .bool p.att.priv, .bool p.att.exec, .bool p.att.lock, .bool p.att.global, .bool p.att.quiet, .bool p.ref, .bool p.mod] 38)).alloc (.cells #[.int .i64 0, .slice none 0 0, .int .i64 0, .slice none 0 0] 30)) := (Below.refl _ _).alloc (Nat.le_refl _) _
  have R := heap_alloc_new ((w.alloc (.cells #[.int .i64 ns, .slice ao l.length cap, .int .i64 bl, .slice (some ⟨g2, 0, none⟩) n cap2] 30)).alloc (.cells #[.int .u64 p.va, .int .i64 p.sz, .int .u64 p.pa, .bool p.att.write, .bool p.att.priv, .bool p.att.exec, .bool p.att.lock, .bool p.att.global, .bool p.att.quiet, .bool p.ref, .bool p.mod] 38)) (.cells #[.int .i64 0, .slice none 0 0, .int .i64 0, .slice none 0 0] 30)
  rw [World.size_alloc, World.size_alloc] at R
  have G0 := G.low NZ
  have C1 := Lib.hid (fun (W : World) (h : DG w W w.heap.size (w.heap.size + 1) ns bl (.slice ao l.length cap) l (.slice (some ⟨g2, 0, none⟩) n cap2) n LT U p) => dmay_any ns bl s p ⟨v0, v1, z0, z1, p0, p1⟩ W h.dx.dh)
  have hrm := Lib.hid (dmay_room (ns := ns) (bl := bl) (l := l) (s := s) (p := p))
  have hL := Lib.hid (show dmapL ns bl l s p = if dmayE ns bl l s p = 0 then l ++ [⟨s, p⟩] else l from rfl)
  have hT := Lib.hid (show dmapT ns bl l n LT s p = if dmayE ns bl l s p = 0 then Hs.putT bl n LT ⟨s, baseI p.va p.sz, p.sz⟩ 0 else LT from rfl)
  generalize dmayE ns bl l s p = E at *
  clear h G NZ hHB HB
  go_enter Tryz.func30, Tryz.ntmps30
  go_wp2_with fail
  generalize World.alloc (World.alloc (World.alloc w _) _) _ = W0 at *
  refine (C1.out _ G0).mono ?_; rintro e w1 ⟨rfl, hb1⟩
  have G1 := G0.low hb1
  have R1 := blk_low R hb1
  clear G0 R hb1 C1
  by_cases h0 : E = 0
  · subst h0
    rw [if_pos rfl] at hL hT
    have hroom := hrm.out rfl
    obtain ⟨v3, W2, hrun, ho3, hg3, hf3⟩ := s_append 25 w1 w1.heap.size (.slice none 0 0) ao cap [] l (World.ownsRow_nil _ _ _ 12) G1.dx.dh.own (Nat.le_refl _) (by simp; omega)
    rw [List.nil_append] at ho3
    have b12 : Below w1.heap.size w1 W2 := ⟨hg3.os, hg3.tape, hg3.output, hg3.size, fun q hq => hg3.block q hq (by simp [Value.ownBlock])⟩
    have hf3' : ∀ q, v3.ownBlock = some q → w1.heap.size ≤ q := fun q hq => (ho3.lt q hq).1
    have ho3a := ho3.alloc (.cells #[.int .i64 (SPg.mk s p).sp, .int .u64 (SPg.mk s p).p.va, .int .i64 (SPg.mk s p).p.sz, .int .u64 (SPg.mk s p).p.pa, .bool (SPg.mk s p).p.att.write, .bool (SPg.mk s p).p.att.priv, .bool (SPg.mk s p).p.att.exec, .bool (SPg.mk s p).p.att.lock, .bool (SPg.mk s p).p.att.global, .bool (SPg.mk s p).p.att.quiet, .bool (SPg.mk s p).p.ref, .bool (SPg.mk s p).p.mod] 97)
    have hnew := heap_alloc_new W2 (.cells #[.int .i64 (SPg.mk s p).sp, .int .u64 (SPg.mk s p).p.va, .int .i64 (SPg.mk s p).p.sz, .int .u64 (SPg.mk s p).p.pa, .bool (SPg.mk s p).p.att.write, .bool (SPg.mk s p).p.att.priv, .bool (SPg.mk s p).p.att.exec, .bool (SPg.mk s p).p.att.lock, .bool (SPg.mk s p).p.att.global, .bool (SPg.mk s p).p.att.quiet, .bool (SPg.mk s p).p.ref, .bool (SPg.mk s p).p.mod] 97)
    obtain ⟨v4, W4, hrun4, ho4, hg4, hf4⟩ := s_append_at 25 (W2.alloc (.cells #[.int .i64 (SPg.mk s p).sp, .int .u64 (SPg.mk s p).p.va, .int .i64 (SPg.mk s p).p.sz, .int .u64 (SPg.mk s p).p.pa, .bool (SPg.mk s p).p.att.write, .bool (SPg.mk s p).p.att.priv, .bool (SPg.mk s p).p.att.exec, .bool (SPg.mk s p).p.att.lock, .bool (SPg.mk s p).p.att.global, .bool (SPg.mk s p).p.att.quiet, .bool (SPg.mk s p).p.ref, .bool (SPg.mk s p).p.mod] 97)) w1.heap.size v3 (some ⟨W2.heap.size, 0, none⟩) 1 l [⟨s, p⟩] ho3a (.inr ⟨_, rfl, World.news_of_block hnew⟩) (by have := b12.size; rw [World.size_alloc]; omega) (by simp; omega)
    have b14 : Below w1.heap.size w1 W4 := (b12.alloc b12.size _).grown hg4 (b12.alloc b12.size _).size (fun q hq => hf3' q hq)
    obtain ⟨D5, k5, c5, f5⟩ := G1.dx.put1 (Nat.le_refl _) b14 (own_base ho4) (by simp; omega) (fun x hx => by
      rcases List.mem_append.1 hx with hx | hx
      · exact hwf0 x hx
      · obtain rfl : x = ⟨s, p⟩ := by simpa using hx
        exact ⟨s0, s1, v0, v1, z0, z1, p0, p1⟩)
    have P5 : RowP (W4.setCell ⟨w.heap.size, 1, none⟩ v4) (w.heap.size + 1) p := ⟨(k5 _ (by omega)).trans (G1.pg.low b14).row⟩
    have R5 : (W4.setCell ⟨w.heap.size, 1, none⟩ v4).heap[w.heap.size + 1 + 1]? = some (.cells #[.int .i64 0, .slice none 0 0, .int .i64 0, .slice none 0 0] 30 (0, 0)) := (k5 _ (by omega)).trans (blk_low R1 b14)
    obtain ⟨x0, x1, x2, x3⟩ := G1.dx.cs
    have pg4 := (G1.pg.low b12).cells
    obtain ⟨y0, y1, y2, y3, y4, y5, y6, y7, y8, y9, y10⟩ := pg4
    obtain ⟨ao3, cap3, rfl⟩ := own_shape3 ho3
    obtain ⟨ao4, cap4, rfl⟩ := own_shape3 ho4
    have hrunW : ∀ W, W = w1 → (Builtin.append_ #[25, 25] 25 #[.slice none 0 0, .slice ao l.length cap]).run Tryz.prog W = .ok (.slice ao3 l.length cap3) W2 := fun W e => by rw [e]; exact hrun
    simp only [List.length_append, List.length_cons, List.length_nil, Nat.zero_add] at hrun4 D5 c5 ho4 P5 R5 k5
    clear G1 R1 ho3 ho3a hg3 hf3 hf3' hg4 hf4 hnew b12 b14 ho4 hrm hrun
    go_wp2_with (first
      | (at_builtin; refine Lib.wpList_append_run _ rfl _ _ 25 25 rfl _ _ rfl rfl _ _ (hrunW _ rfl) ?_)
      | (at_builtin; refine Lib.wpList_append_run _ rfl _ _ 25 25 rfl _ _ rfl rfl _ _ hrun4 ?_))
    have M5 : MX w (W4.setCell ⟨w.heap.size, 1, none⟩ (.slice ao4 (l.length + 1) cap4)) w.heap.size (w.heap.size + 1) (w.heap.size + 1 + 1) ns bl (.slice ao4 (l.length + 1) cap4) (l ++ [⟨s, p⟩]) (.slice (some ⟨g2, 0, none⟩) n cap2) n LT U p := ⟨D5, P5, R5⟩
    generalize World.setCell W4 _ _ = W5 at *
    have hk : (⟨s, baseI p.va p.sz, p.sz⟩ : Ky).wf := by have hbb := base_bd p.va p.sz v0 v1; exact ⟨s0, s1, hbb.1, by show baseI p.va p.sz ≤ _; omega, z0, z1⟩
    have C3 := Lib.hid (fun (W : World) => dkey_any s p.va p.sz v0 v1 W)
    have C4 := Lib.hid (fun (W : World) (h : MX w W w.heap.size (w.heap.size + 1) (w.heap.size + 1 + 1) ns bl (.slice ao4 (l.length + 1) cap4) (l ++ [⟨s, p⟩]) (.slice (some ⟨g2, 0, none⟩) n cap2) n LT U p) => Hs.tput_any bl hbl _ hk 0 W h.dx.dh.ch)
    have hS := M5.four
    clear D5 P5 R5 k5 c5 f5 hk x0 x1 x2 x3 y0 y1 y2 y3 y4 y5 y6 y7 y8 y9 y10 hrunW hrun4 hroom
    go_region_held3 (fun w1 => (w1.cell? ⟨w.heap.size, 2, none⟩ = some (.int .i64 bl) ∧ w1.cell? ⟨w.heap.size, 3, none⟩ = some (.slice (some ⟨g2, 0, none⟩) n cap2)) ∧ w1.cell? ⟨w.heap.size + 1, 0, none⟩ = some (.int .u64 p.va) ∧ w1.cell? ⟨w.heap.size + 1, 1, none⟩ = some (.int .i64 p.sz))
      ((refine (MX.four (MX.low M5 ?_)); (repeat (first | (with_reducible assumption) | (with_reducible exact Below.refl _ _) | (with_reducible refine lo_step ?_ (by assumption)) | (with_reducible refine lo_drew ?_) | (with_reducible refine lo_drewN ?_ _) | (with_reducible refine lo_alloc ?_ _) | (with_reducible refine lo_set ?_ ?_ _) | (exact Nat.le_refl _) | (exact hs2 _ (Nat.le_refl _)) | (exact hb'.size))) ))
      (first
        | (go_at_call 69; (with_reducible refine (C3.out _).mono ?_); rintro e w' ⟨rfl, hb'⟩; obtain ⟨kc, kf, ks1, ks2⟩ := bfacts hb')
        | (go_at_call 68; (with_reducible refine (C4.out _ (MX.low M5 (by (repeat (first | (with_reducible assumption) | (with_reducible exact Below.refl _ _) | (with_reducible refine lo_step ?_ (by assumption)) | (with_reducible refine lo_drew ?_) | (with_reducible refine lo_drewN ?_ _) | (with_reducible refine lo_alloc ?_ _) | (with_reducible refine lo_set ?_ ?_ _) | (exact Nat.le_refl _) | (exact hs2 _ (Nat.le_refl _)) | (exact hb'.size))) ))).mono ?_); rintro e w6 ⟨s', rfl, hD⟩; obtain ⟨g6, cap6, rfl⟩ := hD.form; obtain ⟨U', hc6, _, hb6⟩ := hD; obtain ⟨hc, hf, hs1, hs2⟩ := bfacts hb6; (try have hv : W5.heap.size < w'.heap.size := by (have hsz := hb'.size; (try simp only [World.size_alloc] at hsz); (first | omega | (simp at hsz; omega))))))
    · have M7 := MX.low M5 (show Below W5.heap.size W5 (w6.alloc (.cells #[.int .i64 bl, .slice (some ⟨g6, 0, none⟩) n cap6] 28)) by (repeat (first | (with_reducible assumption) | (with_reducible exact Below.refl _ _) | (with_reducible refine lo_step ?_ (by assumption)) | (with_reducible refine lo_drew ?_) | (with_reducible refine lo_drewN ?_ _) | (with_reducible refine lo_alloc ?_ _) | (with_reducible refine lo_set ?_ ?_ _) | (exact Nat.le_refl _) | (exact hs2 _ (Nat.le_refl _)) | (exact hb'.size))) )
      have hc7 := hc6.alloc (.cells #[.int .i64 bl, .slice (some ⟨g6, 0, none⟩) n cap6] 28)
      have ht7 := heap_alloc_new w6 (.cells #[.int .i64 bl, .slice (some ⟨g6, 0, none⟩) n cap6] 28)
      have htl : w.heap.size ≠ w6.heap.size ∧ w.heap.size + 1 + 1 ≠ w6.heap.size := by have h1 := (Array.getElem?_eq_some_iff.1 M5.r).1; have h2 : W5.heap.size ≤ w6.heap.size := Below.size (show Below W5.heap.size W5 w6 by (repeat (first | (with_reducible assumption) | (with_reducible exact Below.refl _ _) | (with_reducible refine lo_step ?_ (by assumption)) | (with_reducible refine lo_drew ?_) | (with_reducible refine lo_drewN ?_ _) | (with_reducible refine lo_alloc ?_ _) | (with_reducible refine lo_set ?_ ?_ _) | (exact Nat.le_refl _) | (exact hs2 _ (Nat.le_refl _)) | (exact hb'.size))) ); omega
      generalize World.alloc w6 _ = W7 at *
      generalize w6.heap.size = tb at *
      obtain ⟨t0, t1⟩ := t_two ht7
      obtain ⟨D8, k8, _, f8⟩ := M7.dx.put2 (Nat.le_refl _) (Below.refl _ _) hc7 bl
      have R8 := (k8 _ (by omega)).trans M7.r
      have hfl := Lib.hid (fill_H (ns := ns) (bl := bl) D8.dh D8.lo (by omega : w.heap.size ≤ w.heap.size + 1 + 1) R8 rfl)
      obtain ⟨z0', z1', z2', z3'⟩ := D8.cs
      obtain ⟨x0, x1, x2, x3⟩ := M7.dx.cs
      obtain ⟨r0, r1, r2, r3, rf⟩ := four_H R8
      obtain ⟨q0, q1, q2, q3, qf⟩ := four_H M7.r
      obtain ⟨ne1, ne2⟩ := htl
      clear M7 D8 k8 hc7 ht7 R8 M5 hS hc hf hs1 hs2
      go_wp2_with fail
      refine bodyPost_ret (res_HE rfl _ _ _ _ rfl hfl.out.1 rfl) rfl ?_
      exact ⟨_, _, _, rfl, by rw [hL.out, hT.out]; exact hfl.out.2.1, hfl.out.2.2⟩
    · have htz : w6.heap[w'.heap.size]? = some (.cells #[.int .i64 0, .slice none 0 0] 28 (0, 0)) := by first | exact blk_low (heap_alloc_new _ _) hb6 | exact blk_low (show (World.drew _).heap[_]? = _ from heap_alloc_new _ _) hb6
      have B56 : Below W5.heap.size W5 w6 := by (repeat (first | (with_reducible assumption) | (with_reducible exact Below.refl _ _) | (with_reducible refine lo_step ?_ (by assumption)) | (with_reducible refine lo_drew ?_) | (with_reducible refine lo_drewN ?_ _) | (with_reducible refine lo_alloc ?_ _) | (with_reducible refine lo_set ?_ ?_ _) | (exact Nat.le_refl _) | (exact hs2 _ (Nat.le_refl _)) | (exact hb'.size))) 
      have htl0 : W5.heap.size ≤ w'.heap.size := by first | exact Nat.le_refl _ | exact hb'.size
      have htl : w.heap.size ≠ w'.heap.size ∧ w.heap.size + 1 + 1 ≠ w'.heap.size := by have h1 := (Array.getElem?_eq_some_iff.1 M5.r).1; omega
      have M7 := MX.low M5 ((B56.setCell (p := ⟨w'.heap.size, 0, none⟩) htl0 (.int .i64 bl)).setCell (p := ⟨w'.heap.size, 1, none⟩) htl0 (.slice (some ⟨g6, 0, none⟩) n cap6))
      obtain ⟨hc7, ht7⟩ := fill_T hc6 htz (.int .i64 bl) (.slice (some ⟨g6, 0, none⟩) n cap6)
      clear htz B56 htl0
      generalize World.setCell (World.setCell w6 _ _) _ _ = W7 at *
      generalize w'.heap.size = tb at *
      obtain ⟨t0, t1⟩ := t_two ht7
      obtain ⟨D8, k8, _, f8⟩ := M7.dx.put2 (Nat.le_refl _) (Below.refl _ _) hc7 bl
      have R8 := (k8 _ (by omega)).trans M7.r
      have hfl := Lib.hid (fill_H (ns := ns) (bl := bl) D8.dh D8.lo (by omega : w.heap.size ≤ w.heap.size + 1 + 1) R8 rfl)
      obtain ⟨z0', z1', z2', z3'⟩ := D8.cs
      obtain ⟨x0, x1, x2, x3⟩ := M7.dx.cs
      obtain ⟨r0, r1, r2, r3, rf⟩ := four_H R8
      obtain ⟨q0, q1, q2, q3, qf⟩ := four_H M7.r
      obtain ⟨ne1, ne2⟩ := htl
      clear M7 D8 k8 hc7 ht7 R8 M5 hS hc hf hs1 hs2
      go_wp2_with fail
      refine bodyPost_ret (res_HE rfl _ _ _ _ rfl hfl.out.1 rfl) rfl ?_
      exact ⟨_, _, _, rfl, by rw [hL.out, hT.out]; exact hfl.out.2.1, hfl.out.2.2⟩
    · have htz : w6.heap[W5.heap.size]? = some (.cells #[.int .i64 0, .slice none 0 0] 28 (0, 0)) := by first | exact blk_low (blk_low (heap_alloc_new _ _) hb') hb6 | exact blk_low (blk_low (show (World.drew _).heap[_]? = _ from heap_alloc_new _ _) hb') hb6
      have B56 : Below W5.heap.size W5 w6 := by (repeat (first | (with_reducible assumption) | (with_reducible exact Below.refl _ _) | (with_reducible refine lo_step ?_ (by assumption)) | (with_reducible refine lo_drew ?_) | (with_reducible refine lo_drewN ?_ _) | (with_reducible refine lo_alloc ?_ _) | (with_reducible refine lo_set ?_ ?_ _) | (exact Nat.le_refl _) | (exact hs2 _ (Nat.le_refl _)) | (exact hb'.size))) 
      have htl0 : W5.heap.size ≤ W5.heap.size := by first | exact Nat.le_refl _ | exact hb'.size
      have htl : w.heap.size ≠ W5.heap.size ∧ w.heap.size + 1 + 1 ≠ W5.heap.size := by have h1 := (Array.getElem?_eq_some_iff.1 M5.r).1; omega
      have M7 := MX.low M5 ((B56.setCell (p := ⟨W5.heap.size, 0, none⟩) htl0 (.int .i64 bl)).setCell (p := ⟨W5.heap.size, 1, none⟩) htl0 (.slice (some ⟨g6, 0, none⟩) n cap6))
      obtain ⟨hc7, ht7⟩ := fill_T hc6 htz (.int .i64 bl) (.slice (some ⟨g6, 0, none⟩) n cap6)
      clear htz B56 htl0
      generalize World.setCell (World.setCell w6 _ _) _ _ = W7 at *
      generalize W5.heap.size = tb at *
      obtain ⟨t0, t1⟩ := t_two ht7
      obtain ⟨D8, k8, _, f8⟩ := M7.dx.put2 (Nat.le_refl _) (Below.refl _ _) hc7 bl
      have R8 := (k8 _ (by omega)).trans M7.r
      have hfl := Lib.hid (fill_H (ns := ns) (bl := bl) D8.dh D8.lo (by omega : w.heap.size ≤ w.heap.size + 1 + 1) R8 rfl)
      obtain ⟨z0', z1', z2', z3'⟩ := D8.cs
      obtain ⟨x0, x1, x2, x3⟩ := M7.dx.cs
      obtain ⟨r0, r1, r2, r3, rf⟩ := four_H R8
      obtain ⟨q0, q1, q2, q3, qf⟩ := four_H M7.r
      obtain ⟨ne1, ne2⟩ := htl
      clear M7 D8 k8 hc7 ht7 R8 M5 hS hc hf hs1 hs2
      go_wp2_with fail
      refine bodyPost_ret (res_HE rfl _ _ _ _ rfl hfl.out.1 rfl) rfl ?_
      exact ⟨_, _, _, rfl, by rw [hL.out, hT.out]; exact hfl.out.2.1, hfl.out.2.2⟩
  · rw [if_neg h0] at hL hT
    have hfl := Lib.hid (fill_H (ns := ns) (bl := bl) G1.dx.dh G1.dx.lo (by omega : w.heap.size ≤ w.heap.size + 1 + 1) R1 rfl)
    obtain ⟨x0, x1, x2, x3⟩ := G1.dx.cs
    obtain ⟨r0, r1, r2, r3, rf⟩ := four_H R1
    clear G1 R1 hrm
    go_wp2_with fail
    refine bodyPost_ret (res_HE rfl _ _ _ _ rfl hfl.out.1 rfl) rfl ?_
    exact ⟨_, _, U, rfl, by rw [hL.out, hT.out]; exact hfl.out.2.1, hfl.out.2.2⟩
end
end Go.Proofs.YtffpfceclhogoaaGreat.Hp
