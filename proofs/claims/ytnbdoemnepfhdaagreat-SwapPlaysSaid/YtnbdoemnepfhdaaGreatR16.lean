/-
  Contracts and plain facts: MSet, MSet2, MOps, MPut, MHas. Conditions: each says its own.
-/
import Derived.Test.YtnbdoemnepfhdaaGreatR15
import Derived.RegionTactic
import Derived.ChangeAlike
import Derived.Test.YtnbdoemnepfhdaaGreatR0
namespace Go.Proofs.YtnbdoemnepfhdaaGreat.Mem
open Go.ChangeShapes Go.WideShapes Go.ChangeAt Go.RowKit Go.Maps
set_option maxHeartbeats 400000
theorem run_makeMap_hint (n : Int) (w : World) : (Instr.makeMap 96 (some (.int .i64 n))).run Tryz.prog w = .ok (.map (some w.heap.size)) (w.alloc (.map #[] 0)) := by
  kernel_rfl
theorem ret_none {fn : Func} {R : Ending → World → Prop} {a : Act} {w : World} (h : fn.results = #[]) (hd : a.defers = []) (hR : R (.returned (.tuple #[])) w) : bodyPost Tryz.prog fn R .ret a w := bodyPost_ret (results_none h _ _ _) hd hR
theorem Turn.drewN {a b : World} {sb bm : Nat} (h : Turn a b sb bm) (n : Nat) : Turn a (b.drewN n) sb bm := ⟨h.os, h.tape, h.output, h.size, h.block⟩
theorem MemAt.drewN {w : World} {sb bm S : Nat} {g : Nat → Nat} (h : MemAt w sb bm S g) (n : Nat) : MemAt (w.drewN n) sb bm S g := h.same rfl rfl
theorem MemTo.drewN {w w' : World} {sb bm S : Nat} {g : Nat → Nat} (h : MemTo w w' sb bm S g) (n : Nat) : MemTo w (w'.drewN n) sb bm S g := by
  obtain ⟨b, h1, h2, h3⟩ := h
  exact ⟨b, h1.drewN n, h2, h3.drewN n⟩
theorem heap_set {w : World} {b o : Nat} {c : Array Value} {e : TypeId} {f : Nat × Nat} (h : w.heap[b]? = some (.cells c e f)) (v : Value) : (w.setCell ⟨b, o, none⟩ v).heap[b]? = some (.cells (c.setIfInBounds o v) e f) := by
  simp [World.setCell, Array.getElem?_modify, h]
theorem row_cells {w : World} {sb bm S most : Nat} {t : TypeId} (h1 : w.heap[sb]? = some (.cells #[.int .u64 (S : Int), .map (some bm), .int .i64 (most : Int)] t (0, 0))) : w.cell? ⟨sb, 0, none⟩ = some (.int .u64 (S : Int)) ∧ w.cell? ⟨sb, 1, none⟩ = some (.map (some bm)) ∧ w.cell? ⟨sb, 2, none⟩ = some (.int .i64 (most : Int)) ∧
    w.frozen? ⟨sb, 1, none⟩ = false ∧ w.frozen? ⟨sb, 2, none⟩ = false := by
  exact ⟨by simp [World.cell?, h1], by simp [World.cell?, h1], by simp [World.cell?, h1], by simp [World.frozen?, h1], by simp [World.frozen?, h1]⟩
theorem row_two {w : World} {sb bm bm' S most n : Nat} (h1 : w.heap[sb]? = some (.cells #[.int .u64 (S : Int), .map (some bm), .int .i64 (most : Int)] 98 (0, 0))) :
    ((w.setCell ⟨sb, 1, none⟩ (.map (some bm'))).setCell ⟨sb, 2, none⟩ (.int .i64 (n : Int))).heap[sb]? = some (.cells #[.int .u64 (S : Int), .map (some bm'), .int .i64 (n : Int)] 98 (0, 0)) := by
  rw [heap_set (heap_set h1 _) _]; rfl
theorem shrink_any (sb bm S : Nat) (g : Nat → Nat) (w : World) (h : MemAt w sb bm S g) :
    Calls Tryz.prog 116 #[.pointer (some ⟨sb, 0, none⟩)] w fun e w' => e = .returned (.tuple #[]) ∧ MemTo w w' sb bm S g := by
  obtain ⟨most, hmost, c0, c1, c2, f1, f2⟩ := h.cells
  obtain ⟨D, hown, hD⟩ := h.words
  have hsz := h.good.size_le hD (hown.canon lawU)
  have hln := fun n ty => (show (w.drewN n).ownsMap Tryz.prog 26 (plainElem Tryz.prog 26) bm (Maps.size D) D from hown).len Tryz.underlying96 ty
  have P1 := Lib.hid hown
  have P2 := Lib.hid hD
  by_cases k1 : (most : Int) ≤ 64
  · go_enter Tryz.func116, Tryz.ntmps116
    go_wp2
    go_quiet (fail)
    go_wp2
    exact ret_none rfl rfl ⟨rfl, h.to.drewN _⟩
  · have d1 : decide ((most : Int) ≤ 64) = false := by simpa using k1
    by_cases k2 : (most : Int) / 4 < (Maps.size D : Int)
    · go_enter Tryz.func116, Tryz.ntmps116
      go_wp2
      go_quiet (fail)
      go_wp2
      exact ret_none rfl rfl ⟨rfl, h.to.drewN _⟩
    · obtain ⟨m2, hm2, hrow⟩ := h.row
      obtain ⟨lt1, lt2⟩ := h.lt
      have hne := h.ne
      have hmh := run_makeMap_hint
      have HR := Lib.hid hrow
      clear hrow
      go_enter Tryz.func116, Tryz.ntmps116
      go_wp2
      go_quiet (fail)
      have c1a : ((w.drewN nq).alloc (Obj.map #[] 0)).cell? ⟨sb, 1, none⟩ = some (.map (some bm)) := (World.cell?_of_block (Below.heap_alloc (w.drewN nq) _ sb lt1)).trans c1
      go_wp2_with (go_at_call 133; refine (mcopy_any bm _ _ D _ ((show (w.drewN nq).ownsMap Tryz.prog 26 (plainElem Tryz.prog 26) bm (Maps.size D) D from hown).alloc _) (World.ownsMap_made _ _ _ _) (by simp; omega) hsz).mono ?_; rintro e w2 ⟨rfl, ho2, hg2⟩; have hb2 := (hg2.block sb (by simp; omega) (by simp; omega)).trans (Below.heap_alloc (w.drewN nq) (.map #[] 0) sb lt1); obtain ⟨d0, d1', d2, d3, d4⟩ := row_cells (hb2.trans HR.out); have hl2 : ∀ ty, (Builtin.len_ #[96] ty #[.map (some w.heap.size)]).run Tryz.prog w2 = .ok (.int .i64 (Maps.size D)) w2 := fun ty => ho2.len Tryz.underlying96 ty)
      go_end0
      refine ⟨rfl, w.heap.size, ⟨⟨Maps.size D, hsz, row_two (hb2.trans HR.out)⟩, ?_, h.good⟩, .inr (Nat.le_refl _), ?_⟩
      · refine WordsAt.same (w := w2) ⟨D, ho2, hD⟩ ?_
        rw [Below.heap_setCell _ _ _ _ (by simp; omega), Below.heap_setCell _ _ _ _ (by simp; omega)]
      · exact (((((Turn.refl w sb bm).drewN nq).alloc _).grown hg2 (fun j hj => by cases hj; exact .inr (.inr (Nat.le_refl _)))).setCell _ (.inl rfl) _).setCell _ (.inl rfl) _
end Go.Proofs.YtnbdoemnepfhdaaGreat.Mem

namespace Go.Proofs.YtnbdoemnepfhdaaGreat.Mem
open Go.ChangeShapes Go.WideShapes Go.ChangeAt Go.RowKit Go.Maps
set_option maxHeartbeats 400000
theorem wf_u64 {k : Nat} (h : k < 18446744073709551616) : (Lit.int .u64 (k : Int)).wf = true := by
  exact WalkArith.wf_u64 (by omega)
theorem MemTo.step {w w1 w2 : World} {sb bm S : Nat} {g' : Nat → Nat} (t : Turn w w1 sb bm) (h2 : MemTo w1 w2 sb bm S g') : MemTo w w2 sb bm S g' := by
  obtain ⟨b, a1, a2, a3⟩ := h2
  exact ⟨b, a1, a2.imp id (fun h => Nat.le_trans t.size h), t.trans a3 (.inl rfl)⟩
theorem set_zero (sb bm S k : Nat) (g : Nat → Nat) (w : World) (h : MemAt w sb bm S g) (hk : k % 8 = 0) (hk1 : k < 18446744073709551616) (hg : Good S (setW g k 0)) :
    Calls Tryz.prog 82 #[.pointer (some ⟨sb, 0, none⟩), .int .u64 (k : Int), .int .u64 0] w fun e w' => e = .returned (.tuple #[]) ∧ MemTo w w' sb bm S (setW g k 0) := by
  obtain ⟨most, hmost, c0, c1, c2, f1, f2⟩ := h.cells
  obtain ⟨m2, hm2, hrow⟩ := h.row
  obtain ⟨D, hown, hD⟩ := h.words
  obtain ⟨lt1, lt2⟩ := h.lt
  have hne := h.ne
  have HR := Lib.hid hrow
  clear hrow
  go_enter Tryz.func82, Tryz.ntmps82
  go_wp2_with (first
    | (at_delete; refine wpList_delete_own _ rfl _ _ 96 26 rfl 26 lawU Tryz.underlying96 _ bm _ D rfl hown _ _ rfl (keyOf_int_mk Tryz.underlying26 (wf_u64 hk1)) ?_; intro w1 hown1 hturn1; have hb1 := hturn1.grown.block sb lt1 (by simp; omega); have M1 : MemAt w1 sb bm S (setW g k 0) := ⟨⟨m2, hm2, hb1.trans HR.out⟩, ⟨_, owns_size hown1, hD.del h.good.lt hk⟩, hg⟩)
    | (go_at_call 116; refine (shrink_any sb bm S _ _ M1).mono ?_; rintro e w2 ⟨rfl, H2⟩))
  exact ret_none rfl rfl ⟨rfl, MemTo.step ((Turn.refl w sb bm).grown hturn1.grown (fun j hj => by cases hj; exact .inr (.inl rfl))) H2⟩
theorem set_some (sb bm S k v : Nat) (g : Nat → Nat) (w : World) (h : MemAt w sb bm S g) (hk : k % 8 = 0) (hk1 : k < 18446744073709551616) (hv : v < 18446744073709551616) (hv0 : v ≠ 0) (hg : Good S (setW g k v)) :
    Calls Tryz.prog 82 #[.pointer (some ⟨sb, 0, none⟩), .int .u64 (k : Int), .int .u64 (v : Int)] w fun e w' => e = .returned (.tuple #[]) ∧ MemTo w w' sb bm S (setW g k v) := by
  obtain ⟨m2, hm2, hrow⟩ := h.row
  obtain ⟨c0, c1, c2, f1, f2⟩ := row_cells hrow
  obtain ⟨D, hown, hD⟩ := h.words
  obtain ⟨lt1, lt2⟩ := h.lt
  have hne := h.ne
  have hsz := h.good.size_le hD (hown.canon lawU)
  have hv1 : ((v : Int) == 0) = false := by simpa using hv0
  have HR := Lib.hid hrow
  clear hrow
  go_enter Tryz.func82, Tryz.ntmps82
  go_wp2_with (first
    | (at_mapUpdate; refine wpList_mapUpdate_in _ rfl _ _ _ 96 rfl 26 26 lawU Tryz.underlying96 _ bm _ D rfl hown (by unfold maxLen; omega) _ _ _ rfl rfl (keyOf_int_mk Tryz.underlying26 (wf_u64 hk1)) _ [] (plainElem_int Tryz.underlying26 (wf_u64 hv)) ?_; intro w1 hown1 hturn1; have hb1 := Lib.hid ((hturn1.grown.block sb lt1 (by simp; omega)).trans HR.out)))
  go_frame
  have hs1 := hg.size_le (hD.put hown.isMap h.good.lt hk hv hv0) (hown1.canon lawU)
  have M1 := Lib.hid (show WordsAt w1 bm (setW g k v) from ⟨_, owns_size hown1, hD.put hown.isMap h.good.lt hk hv hv0⟩)
  have t1 := Lib.hid ((Turn.refl w sb bm).grown hturn1.grown (fun j hj => by cases hj; exact .inr (.inl rfl)))
  obtain ⟨d0, d1, d2, d3, d4⟩ := row_cells hb1.out
  obtain ⟨n1, hn1, hl⟩ : ∃ n1 : Nat, n1 ≤ 274877906944 ∧ ∀ n ty, (Builtin.len_ #[96] ty #[.map (some bm)]).run Tryz.prog (w1.drewN n) = .ok (.int .i64 (n1 : Int)) (w1.drewN n) := ⟨_, hs1, fun n ty => (show (w1.drewN n).ownsMap Tryz.prog 26 (plainElem Tryz.prog 26) bm _ _ from hown1).len Tryz.underlying96 ty⟩
  have hl0 : ∀ ty, (Builtin.len_ #[96] ty #[.map (some bm)]).run Tryz.prog w1.drew = .ok (.int .i64 (n1 : Int)) w1.drew := fun ty => hl 1 ty
  clear hl hs1 hown1 hturn1 c0 c1 c2 f1 f2 hown hD hv0
  go_region
  go_end0
  refine ⟨rfl, bm, ⟨⟨if m2 < n1 then n1 else m2, by split <;> omega, ?_⟩, ?_, hg⟩, .inl rfl, ?_⟩
  · show ((w1.setCell _ _).drew).heap[sb]? = _
    rw [show (w1.setCell ⟨sb, 2, none⟩ (Value.int IntKind.i64 (if m2 < n1 then (n1 : Int) else (m2 : Int)))).drew.heap[sb]? = _ from heap_set hb1.out _]
    split <;> rfl
  · exact WordsAt.same (w := w1) M1.out (Below.heap_setCell _ _ _ _ hne)
  · exact (t1.out.setCell _ (.inl rfl) _).drew
/-- set: the word stands there. -/
theorem set_nat (sb bm S k v : Nat) (g : Nat → Nat) (w : World) (h : MemAt w sb bm S g) (hk : k % 8 = 0) (hk1 : k < 18446744073709551616) (hv : v < 18446744073709551616) (hg : Good S (setW g k v)) :
    Calls Tryz.prog 82 #[.pointer (some ⟨sb, 0, none⟩), .int .u64 (k : Int), .int .u64 (v : Int)] w fun e w' => e = .returned (.tuple #[]) ∧ MemTo w w' sb bm S (setW g k v) := by
  by_cases h0 : v = 0
  · subst h0; exact set_zero sb bm S k g w h hk hk1 hg
  · exact set_some sb bm S k v g w h hk hk1 hv h0 hg
theorem set_any (sb bm S : Nat) (k v : Int) (g : Nat → Nat) (w : World) (h : MemAt w sb bm S g) (k0 : 0 ≤ k) (hk : k % 8 = 0) (hk1 : k < 18446744073709551616) (v0 : 0 ≤ v) (hv : v < 18446744073709551616) (hg : Good S (setW g k.toNat v.toNat)) :
    Calls Tryz.prog 82 #[.pointer (some ⟨sb, 0, none⟩), .int .u64 k, .int .u64 v] w fun e w' => e = .returned (.tuple #[]) ∧ MemTo w w' sb bm S (setW g k.toNat v.toNat) := by
  have := set_nat sb bm S k.toNat v.toNat g w h (by omega) (by omega) (by omega) hg
  rwa [Int.toNat_of_nonneg k0, Int.toNat_of_nonneg v0] at this
end Go.Proofs.YtnbdoemnepfhdaaGreat.Mem

namespace Go.Proofs.YtnbdoemnepfhdaaGreat.Mem
open Go.ChangeShapes Go.WideShapes Go.ChangeAt Go.RowKit Go.Maps
set_option maxHeartbeats 400000
set_option maxRecDepth 100000
theorem WordsAt.look {w : World} {b : Nat} {g : Nat → Nat} (h : WordsAt w b g) (k : Int) (k0 : 0 ≤ k) (hk : k % 8 = 0) (hk1 : k < 18446744073709551616) :
    (Instr.lookup 96 (.map (some b)) (.int .u64 k) false).run Tryz.prog w = .ok (.int .u64 ((word g k.toNat : Nat) : Int)) w := by
  obtain ⟨D, hown, hD⟩ := h
  have hkey := keyOf_int_mk (P := Tryz.prog) Tryz.underlying26 (wf_u64 (k := k.toNat) (by omega))
  obtain ⟨c, hrun, hat, _⟩ := hown.lookup_int lawU Tryz.underlying96 Tryz.underlying26 (zeroU w) hkey
  have e := hD.at_ k.toNat (by omega)
  have e2 : (elt (word g k.toNat)) = .lit (.int .u64 c) := e.symm.trans hat
  injection e2 with e2; injection e2 with _ e2
  rw [Int.toNat_of_nonneg k0] at hrun
  rw [hrun, ← e2]
theorem WordsAt.drewN {w : World} {b : Nat} {g : Nat → Nat} (h : WordsAt w b g) (n : Nat) : WordsAt (w.drewN n) b g := h.same rfl
/-- What Byte, Word, Pair read. -/
def rdB (S : Nat) (g : Nat → Nat) (a : Int) : Int := if mayI S a 1 1 = 0 then ((g a.toNat : Nat) : Int) else 0
def rdW (S : Nat) (g : Nat → Nat) (a : Int) : Int := if mayI S a 8 8 = 0 then ((word g a.toNat : Nat) : Int) else 0
def rdP (S : Nat) (g : Nat → Nat) (a : Int) (d : Nat) : Int := if mayI S a 16 16 = 0 then ((word g (a.toNat + d) : Nat) : Int) else 0
theorem word_any (sb bm S : Nat) (g : Nat → Nat) (a : Int) (w : World) (h : MemAt w sb bm S g) (h0 : 0 ≤ a) (h1 : a < 18446744073709551616) :
    Calls Tryz.prog 107 #[.pointer (some ⟨sb, 0, none⟩), .int .u64 a] w fun e w' => e = .returned (.tuple #[.int .u64 (rdW S g a), .int .i64 (mayI S a 8 8)]) ∧ w = w' := by
  obtain ⟨m2, hm2, c0, c1, c2, f1, f2⟩ := h.cells
  have hS := h.good.le
  by_cases hm : mayI S a 8 8 = 0
  · have H := Lib.hid (show rdW S g a = ((word g a.toNat : Nat) : Int) by unfold rdW; rw [if_pos hm])
    have hl := h.words.look a h0 (by unfold mayI at hm; split at hm <;> omega) h1
    go_enter Tryz.func107, Tryz.ntmps107
    go_wp2_with (go_at_call 80; refine (may_any sb S _ _ _ _ (by omega) (by omega) (by omega) (by omega) (by omega) (by omega) (by omega) (by omega) c0).mono ?_; rintro e w' ⟨rfl, rfl⟩)
    go_ret2
    rw [H.out, hm]
    exact ⟨rfl, rfl⟩
  · have H := Lib.hid (show rdW S g a = 0 by unfold rdW; rw [if_neg hm])
    go_enter Tryz.func107, Tryz.ntmps107
    go_wp2_with (go_at_call 80; refine (may_any sb S _ _ _ _ (by omega) (by omega) (by omega) (by omega) (by omega) (by omega) (by omega) (by omega) c0).mono ?_; rintro e w' ⟨rfl, rfl⟩)
    go_ret2
    rw [H.out]
    exact ⟨rfl, rfl⟩
theorem pair_any (sb bm S : Nat) (g : Nat → Nat) (a : Int) (w : World) (h : MemAt w sb bm S g) (h0 : 0 ≤ a) (h1 : a < 18446744073709551616) :
    Calls Tryz.prog 74 #[.pointer (some ⟨sb, 0, none⟩), .int .u64 a] w fun e w' => e = .returned (.tuple #[.int .u64 (rdP S g a 0), .int .u64 (rdP S g a 8), .int .i64 (mayI S a 16 16)]) ∧ ∃ n, w' = w.drewN n := by
  obtain ⟨m2, hm2, c0, c1, c2, f1, f2⟩ := h.cells
  have hS := h.good.le
  by_cases hm : mayI S a 16 16 = 0
  · have hb : a % 16 = 0 ∧ a + 16 ≤ S := by unfold mayI at hm; split at hm <;> (try split at hm) <;> omega
    obtain ⟨hb1, hb2⟩ := hb
    have H := Lib.hid (show rdP S g a 0 = ((word g a.toNat : Nat) : Int) by unfold rdP; rw [if_pos hm]; rfl)
    have H2 := Lib.hid (show rdP S g a 8 = ((word g (a + 8).toNat : Nat) : Int) by unfold rdP; rw [if_pos hm]; congr 2; omega)
    have hl := fun n => (h.words.drewN n).look a (by omega) (by omega) (by omega)
    have hl8 := fun n => (h.words.drewN n).look (a + 8) (by omega) (by omega) (by omega)
    have wr : IntKind.u64.wrap (a + 8) = a + 8 := by rw [IntKind.wrap_u64]; omega
    go_enter Tryz.func74, Tryz.ntmps74
    go_wp2_with (go_at_call 80; refine (may_any sb S _ _ _ _ (by omega) (by omega) (by omega) (by omega) (by omega) (by omega) (by omega) (by omega) c0).mono ?_; rintro e w' ⟨rfl, rfl⟩)
    go_quiet (fail)
    go_wp2
    go_ret3
    rw [H.out, H2.out, hm]
    exact ⟨rfl, _, rfl⟩
  · have H := Lib.hid (show ∀ d, rdP S g a d = 0 by intro d; unfold rdP; rw [if_neg hm])
    go_enter Tryz.func74, Tryz.ntmps74
    go_wp2_with (go_at_call 80; refine (may_any sb S _ _ _ _ (by omega) (by omega) (by omega) (by omega) (by omega) (by omega) (by omega) (by omega) c0).mono ?_; rintro e w' ⟨rfl, rfl⟩)
    go_ret3
    rw [H.out, H.out]
    exact ⟨rfl, 0, rfl⟩
end Go.Proofs.YtnbdoemnepfhdaaGreat.Mem

namespace Go.Proofs.YtnbdoemnepfhdaaGreat.Mem
open Go.ChangeShapes Go.WideShapes Go.ChangeAt Go.RowKit Go.Maps
set_option maxHeartbeats 400000
theorem may_zero {S a st n : Int} (h : mayI S a st n = 0) : a % st = 0 ∧ (n ≤ 0 ∨ a + n ≤ S) := by
  unfold mayI at h
  split at h
  · omega
  · rename_i h1
    split at h
    · omega
    · rename_i h2; exact ⟨by omega, by omega⟩
theorem Good.setW {S : Nat} {g : Nat → Nat} (h : Good S g) {k : Nat} (hk : k + 8 ≤ S) (v : Nat) : Good S (setW g k v) :=
  ⟨h.le, setW_lt h.lt k v, fun a ha => by unfold Mem.setW; rw [if_neg (by omega)]; exact h.out a ha⟩
def notN (a b : Nat) : Nat := Fld.ob (fun i => a.testBit i && !b.testBit i) 64
theorem notN_testBit (a b i : Nat) : (notN a b).testBit i = (decide (i < 64) && (a.testBit i && !b.testBit i)) := Fld.ob_testBit _ _ _
def stW (S : Nat) (g : Nat → Nat) (a v : Int) : Nat → Nat := if mayI S a 8 8 = 0 then setW g a.toNat v.toNat else g
def stP (S : Nat) (g : Nat → Nat) (a x y : Int) : Nat → Nat := if mayI S a 16 16 = 0 then setW (setW g a.toNat x.toNat) (a.toNat + 8) y.toNat else g
theorem putWord_any (sb bm S : Nat) (g : Nat → Nat) (a v : Int) (w : World) (h : MemAt w sb bm S g) (h0 : 0 ≤ a) (h1 : a < 18446744073709551616) (v0 : 0 ≤ v) (v1 : v < 18446744073709551616) :
    Calls Tryz.prog 95 #[.pointer (some ⟨sb, 0, none⟩), .int .u64 a, .int .u64 v] w fun e w' => e = .returned (.int .i64 (mayI S a 8 8)) ∧ MemTo w w' sb bm S (stW S g a v) := by
  obtain ⟨m2, hm2, c0, c1, c2, f1, f2⟩ := h.cells
  have hS := h.good.le
  by_cases hm : mayI S a 8 8 = 0
  · obtain ⟨q1, q2⟩ := may_zero hm
    have H := Lib.hid (show stW S g a v = setW g a.toNat v.toNat by unfold stW; rw [if_pos hm])
    go_enter Tryz.func95, Tryz.ntmps95
    go_wp2_with (first | (go_at_call 80; refine (may_any sb S _ _ _ _ (by omega) (by omega) (by omega) (by omega) (by omega) (by omega) (by omega) (by omega) c0).mono ?_; rintro e w' ⟨rfl, rfl⟩) | (go_at_call 82; refine (set_any sb bm S _ _ g _ h (by omega) (by omega) (by omega) (by omega) (by omega) (h.good.setW (by omega) _)).mono ?_; rintro e w' ⟨rfl, M⟩))
    go_ret
    exact ⟨ret_int hm.symm, by rw [H.out]; exact M⟩
  · have H := Lib.hid (show stW S g a v = g by unfold stW; rw [if_neg hm])
    go_enter Tryz.func95, Tryz.ntmps95
    go_wp2_with (go_at_call 80; refine (may_any sb S _ _ _ _ (by omega) (by omega) (by omega) (by omega) (by omega) (by omega) (by omega) (by omega) c0).mono ?_; rintro e w' ⟨rfl, rfl⟩)
    go_ret
    exact ⟨rfl, by rw [H.out]; exact h.to⟩
theorem MemTo.trans {w w1 w2 : World} {sb bm bm1 S : Nat} {g' : Nat → Nat} (hb : bm1 = bm ∨ w.heap.size ≤ bm1) (t : Turn w w1 sb bm) (h2 : MemTo w1 w2 sb bm1 S g') : MemTo w w2 sb bm S g' := by
  obtain ⟨b, a1, a2, a3⟩ := h2
  refine ⟨b, a1, ?_, t.trans a3 hb⟩
  rcases a2 with rfl | a2
  · exact hb
  · exact .inr (Nat.le_trans t.size a2)
theorem putPair_any (sb bm S : Nat) (g : Nat → Nat) (a x y : Int) (w : World) (h : MemAt w sb bm S g) (h0 : 0 ≤ a) (h1 : a < 18446744073709551616) (x0 : 0 ≤ x) (x1 : x < 18446744073709551616) (y0 : 0 ≤ y) (y1 : y < 18446744073709551616) :
    Calls Tryz.prog 140 #[.pointer (some ⟨sb, 0, none⟩), .int .u64 a, .int .u64 x, .int .u64 y] w fun e w' => e = .returned (.int .i64 (mayI S a 16 16)) ∧ MemTo w w' sb bm S (stP S g a x y) := by
  obtain ⟨m2, hm2, c0, c1, c2, f1, f2⟩ := h.cells
  have hS := h.good.le
  by_cases hm : mayI S a 16 16 = 0
  · obtain ⟨q1, q2⟩ := may_zero hm
    have H := Lib.hid (show stP S g a x y = setW (setW g a.toNat x.toNat) (a + 8).toNat y.toNat by unfold stP; rw [if_pos hm]; congr 1; omega)
    go_enter Tryz.func140, Tryz.ntmps140
    go_wp2_with (first | (go_at_call 80; refine (may_any sb S _ _ _ _ (by omega) (by omega) (by omega) (by omega) (by omega) (by omega) (by omega) (by omega) c0).mono ?_; rintro e w' ⟨rfl, rfl⟩) | fail)
    refine (set_any sb bm S _ _ g _ h (by omega) (by omega) (by omega) (by omega) (by omega) (h.good.setW (by omega) _)).mono ?_
    rintro e w1 ⟨rfl, bm1, M1, b1, t1⟩
    go_wp2_with (go_at_call 82; refine (set_any sb bm1 S _ _ _ _ M1 (by omega) (by omega) (by omega) (by omega) (by omega) (M1.good.setW (by omega) _)).mono ?_; rintro e w' ⟨rfl, M⟩)
    go_ret
    exact ⟨ret_int hm.symm, by rw [H.out]; exact M.trans b1 t1⟩
  · have H := Lib.hid (show stP S g a x y = g by unfold stP; rw [if_neg hm])
    go_enter Tryz.func140, Tryz.ntmps140
    go_wp2_with (go_at_call 80; refine (may_any sb S _ _ _ _ (by omega) (by omega) (by omega) (by omega) (by omega) (by omega) (by omega) (by omega) c0).mono ?_; rintro e w' ⟨rfl, rfl⟩)
    go_ret
    exact ⟨rfl, by rw [H.out]; exact h.to⟩
end Go.Proofs.YtnbdoemnepfhdaaGreat.Mem

namespace Go.Proofs.YtnbdoemnepfhdaaGreat.Mem
open Go.ChangeShapes Go.WideShapes Go.ChangeAt Go.RowKit Go.Maps
set_option maxHeartbeats 400000
/-- Since W nothing that was there has turned, and there is a memory at sb. -/
def Has (W w : World) (sb S : Nat) (g : Nat → Nat) : Prop := ∃ bm, W.heap.size ≤ sb ∧ W.heap.size ≤ bm ∧ Below W.heap.size W w ∧ MemAt w sb bm S g
theorem Has.below {W w : World} {sb S : Nat} {g : Nat → Nat} (h : Has W w sb S g) : Below W.heap.size W w := by obtain ⟨_, _, _, h, _⟩ := h; exact h
theorem Has.good {W w : World} {sb S : Nat} {g : Nat → Nat} (h : Has W w sb S g) : Good S g := by obtain ⟨_, _, _, _, h⟩ := h; exact h.good
theorem Has.drewN {W w : World} {sb S : Nat} {g : Nat → Nat} (h : Has W w sb S g) (n : Nat) : Has W (w.drewN n) sb S g := by
  obtain ⟨bm, a, b, c, d⟩ := h
  exact ⟨bm, a, b, ⟨c.os, c.tape, c.output, c.size, c.block⟩, d.drewN n⟩
theorem Has.call {W w w' : World} {sb S : Nat} {g : Nat → Nat} (h : Has W w sb S g) (hb : Below w.heap.size w w') : Has W w' sb S g := by
  obtain ⟨bm, a, b, c, d⟩ := h
  exact ⟨bm, a, b, c.trans (hb.mono c.size), d.same (hb.block _ d.lt.1) (hb.block _ d.lt.2)⟩
theorem Has.to {W w w' : World} {sb bm S : Nat} {g g' : Nat → Nat} (a : W.heap.size ≤ sb) (b : W.heap.size ≤ bm) (c : Below W.heap.size W w) (_d : MemAt w sb bm S g) (k : MemTo w w' sb bm S g') : Has W w' sb S g' := by
  obtain ⟨bm', k1, k2, k3⟩ := k
  have hs := c.size
  refine ⟨bm', a, by omega, ⟨k3.os.trans c.os, k3.tape.trans c.tape, k3.output.trans c.output, Nat.le_trans hs k3.size, fun i hi => ?_⟩, k1⟩
  rw [k3.block i (by omega) (by omega) (by omega)]; exact c.block i hi
theorem may_ok {S a st n : Int} (h1 : a % st = 0) (h2 : a + n ≤ S) : mayI S a st n = 0 := by
  unfold mayI; rw [if_neg (by omega), if_neg (by omega)]
end Go.Proofs.YtnbdoemnepfhdaaGreat.Mem

