/-
  The contract of package tte's Read. Conditions: words are below 2 to the 64.
-/
import Derived.Test.YtambpmbgepgkdaaTRead
namespace Go.Proofs.Ytambpmbgepgkdaa.Fld
open Go.ChangeShapes Go.WideShapes Go.ChangeAt Go.RowKit
set_option maxHeartbeats 1000000
set_option maxRecDepth 100000
theorem ret_read {g h : Ent} {n m : Int} (e1 : g = h) (e2 : n = m) : Ending.returned (.tuple #[.agg #[.int .i64 g.size, .int .i64 g.ctx, .int .u64 g.va, .int .u64 g.pa, .bool g.att.write, .bool g.att.priv, .bool g.att.exec, .bool g.att.lock, .bool g.att.global, .bool g.att.quiet, .bool g.valid], .int .i64 n]) = .returned (.tuple #[.agg #[.int .i64 h.size, .int .i64 h.ctx, .int .u64 h.va, .int .u64 h.pa, .bool h.att.write, .bool h.att.priv, .bool h.att.exec, .bool h.att.lock, .bool h.att.global, .bool h.att.quiet, .bool h.valid], .int .i64 m]) := by rw [e1, e2]
theorem tread_hole (t d va : Int) (v0 : 0 ≤ va) (v1 : va ≤ 18446744073709551615) (hh : holeB va = true) (w : World) :
    Calls Try.prog 21 #[.int .u64 t, .int .u64 d, .int .u64 va] w fun r w' => r = .returned (.tuple #[.agg #[.int .i64 Ent.zero.size, .int .i64 Ent.zero.ctx, .int .u64 Ent.zero.va, .int .u64 Ent.zero.pa, .bool Ent.zero.att.write, .bool Ent.zero.att.priv, .bool Ent.zero.att.exec, .bool Ent.zero.att.lock, .bool Ent.zero.att.global, .bool Ent.zero.att.quiet, .bool Ent.zero.valid], .int .i64 3]) ∧ Below w.heap.size w w' := by
  go_enter Try.func21, Try.ntmps21
  go_wp2_with (go_at_call 48; refine (hole_any _ v0 v1 _).mono ?_; rintro e w' ⟨rfl, n, rfl⟩)
  refine bodyPost_ret (v := .tuple #[.agg #[.int .i64 Ent.zero.size, .int .i64 Ent.zero.ctx, .int .u64 Ent.zero.va, .int .u64 Ent.zero.pa, .bool Ent.zero.att.write, .bool Ent.zero.att.priv, .bool Ent.zero.att.exec, .bool Ent.zero.att.lock, .bool Ent.zero.att.global, .bool Ent.zero.att.quiet, .bool Ent.zero.valid], .int .i64 3]) (by simp [results, Try.results21, go_sem, Ent.zero]) rfl ⟨rfl, ?_⟩
  iterate 11 refine below_set ?_
  exact below_drewN ((Below.refl _ _).alloc (Nat.le_refl _) _) _
theorem tread_state (t d va : Int) (d0 : 0 ≤ d) (d1 : d ≤ 18446744073709551615) (v0 : 0 ≤ va) (v1 : va ≤ 18446744073709551615) (hh : holeB va = false) (hv : (bitI d 63 == 1) = false) (w : World) :
    Calls Try.prog 21 #[.int .u64 t, .int .u64 d, .int .u64 va] w fun r w' => r = .returned (.tuple #[.agg #[.int .i64 Ent.zero.size, .int .i64 Ent.zero.ctx, .int .u64 Ent.zero.va, .int .u64 Ent.zero.pa, .bool Ent.zero.att.write, .bool Ent.zero.att.priv, .bool Ent.zero.att.exec, .bool Ent.zero.att.lock, .bool Ent.zero.att.global, .bool Ent.zero.att.quiet, .bool Ent.zero.valid], .int .i64 11]) ∧ Below w.heap.size w w' := by
  go_enter Try.func21, Try.ntmps21
  go_wp2_with (first | (go_at_call 48; refine (hole_any _ v0 v1 _).mono ?_; rintro e w' ⟨rfl, n, rfl⟩) | (go_at_call 18; refine (tvalid_any _ d0 d1 _).mono ?_; rintro e w' ⟨rfl, n, rfl⟩))
  refine bodyPost_ret (v := .tuple #[.agg #[.int .i64 Ent.zero.size, .int .i64 Ent.zero.ctx, .int .u64 Ent.zero.va, .int .u64 Ent.zero.pa, .bool Ent.zero.att.write, .bool Ent.zero.att.priv, .bool Ent.zero.att.exec, .bool Ent.zero.att.lock, .bool Ent.zero.att.global, .bool Ent.zero.att.quiet, .bool Ent.zero.valid], .int .i64 11]) (by simp [results, Try.results21, go_sem, Ent.zero]) rfl ⟨rfl, ?_⟩
  iterate 11 refine below_set ?_
  exact below_drewN ((Below.refl _ _).alloc (Nat.le_refl _) _) _
theorem tread_form (t d va : Int) (g : Ent) (hg : Ent.guessW t d va = g) (t0 : 0 ≤ t) (t1 : t ≤ 18446744073709551615) (d0 : 0 ≤ d) (d1 : d ≤ 18446744073709551615) (v0 : 0 ≤ va) (v1 : va ≤ 18446744073709551615) (hh : holeB va = false) (hv : (bitI d 63 == 1) = true)
    (gv0 : 0 ≤ g.va) (gv1 : g.va ≤ 18446744073709551615) (gp0 : 0 ≤ g.pa) (gp1 : g.pa ≤ 18446744073709551615) (w : World) :
    Calls Try.prog 21 #[.int .u64 t, .int .u64 d, .int .u64 va] w fun r w' => ((g.mayB && (g.tagG == t) && (g.dataG == d)) = true ∧ r = .returned (.tuple #[.agg #[.int .i64 g.size, .int .i64 g.ctx, .int .u64 g.va, .int .u64 g.pa, .bool g.att.write, .bool g.att.priv, .bool g.att.exec, .bool g.att.lock, .bool g.att.global, .bool g.att.quiet, .bool g.valid], .int .i64 0]) ∨ (g.mayB && (g.tagG == t) && (g.dataG == d)) = false ∧ r = .returned (.tuple #[.agg #[.int .i64 Ent.zero.size, .int .i64 Ent.zero.ctx, .int .u64 Ent.zero.va, .int .u64 Ent.zero.pa, .bool Ent.zero.att.write, .bool Ent.zero.att.priv, .bool Ent.zero.att.exec, .bool Ent.zero.att.lock, .bool Ent.zero.att.global, .bool Ent.zero.att.quiet, .bool Ent.zero.valid], .int .i64 2])) ∧ Below w.heap.size w w' := by
  have HG := Lib.hid (fun W => (hg ▸ guess_any t d va t0 t1 d0 d1 v0 v1 W : Calls Try.prog 49 #[.int .u64 t, .int .u64 d, .int .u64 va] W fun r w' => r = .returned (.agg #[.int .i64 g.size, .int .i64 g.ctx, .int .u64 g.va, .int .u64 g.pa, .bool g.att.write, .bool g.att.priv, .bool g.att.exec, .bool g.att.lock, .bool g.att.global, .bool g.att.quiet, .bool g.valid]) ∧ Below W.heap.size W w'))
  clear hg
  go_enter Try.func21, Try.ntmps21
  go_wp2_with (first | (go_at_call 48; refine (hole_any _ v0 v1 _).mono ?_; rintro e w' ⟨rfl, n, rfl⟩) | (go_at_call 18; refine (tvalid_any _ d0 d1 _).mono ?_; rintro e w' ⟨rfl, n, rfl⟩))
  refine (HG.out _).mono ?_; rintro r w2 ⟨rfl, hb⟩
  have hcR : ∀ o, w2.cell? ⟨w.heap.size, o, none⟩ = _ := fun o => (bcell hb).1 w.heap.size o (by simp)
  have hfR : ∀ o, w2.frozen? ⟨w.heap.size, o, none⟩ = _ := fun o => (bcell hb).2 w.heap.size o (by simp)
  have hz : w.heap.size < w2.heap.size := by have := hb.size; simp at this; omega
  have HB := Lib.hid (show Below w.heap.size w w2 from (below_drewN ((Below.refl _ _).alloc (Nat.le_refl _) _) _).trans (hb.mono (by simp)))
  clear hb
  go_wp2_with fail
  refine (tmay_any g gv0 gv1 gp0 gp1 _).mono ?_; rintro r w4 ⟨rfl, hb⟩
  have hcR4 : ∀ o, w4.cell? ⟨w.heap.size, o, none⟩ = _ := fun o => (bcell hb).1 w.heap.size o (by simp; omega)
  have hfR4 : ∀ o, w4.frozen? ⟨w.heap.size, o, none⟩ = _ := fun o => (bcell hb).2 w.heap.size o (by simp; omega)
  have hcE4 : ∀ o, w4.cell? ⟨w2.heap.size, o, none⟩ = _ := fun o => (bcell hb).1 w2.heap.size o (by simp)
  have hz4 : w2.heap.size < w4.heap.size := by have := hb.size; simp at this; omega
  have HB4 := Lib.hid (show Below w.heap.size w w4 from (HB.out.alloc (by omega) _).trans (hb.mono (by simp; omega)))
  clear hb
  cases hm : g.mayB
  · go_wp2_with fail
    refine bodyPost_ret (v := .tuple #[.agg #[.int .i64 Ent.zero.size, .int .i64 Ent.zero.ctx, .int .u64 Ent.zero.va, .int .u64 Ent.zero.pa, .bool Ent.zero.att.write, .bool Ent.zero.att.priv, .bool Ent.zero.att.exec, .bool Ent.zero.att.lock, .bool Ent.zero.att.global, .bool Ent.zero.att.quiet, .bool Ent.zero.valid], .int .i64 2]) (by simp [results, Try.results21, go_sem, Ent.zero, hz, hcR, hcR4]) rfl ⟨.inr ⟨by rw [hm]; rfl, rfl⟩, ?_⟩
    iterate 11 refine below_set ?_
    exact HB4.out
  go_wp2_with fail
  refine (ttag_any g gv0 gv1 _).mono ?_; rintro r w5 ⟨rfl, hb⟩
  have hcR5 : ∀ o, w5.cell? ⟨w.heap.size, o, none⟩ = _ := fun o => (bcell hb).1 w.heap.size o (by omega)
  have hfR5 : ∀ o, w5.frozen? ⟨w.heap.size, o, none⟩ = _ := fun o => (bcell hb).2 w.heap.size o (by omega)
  have hcE5 : ∀ o, w5.cell? ⟨w2.heap.size, o, none⟩ = _ := fun o => (bcell hb).1 w2.heap.size o (by omega)
  have hz5 : w2.heap.size < w5.heap.size := by have := hb.size; omega
  have HB5 := Lib.hid (show Below w.heap.size w w5 from HB4.out.trans (hb.mono (by omega)))
  clear hb
  cases ht : (g.tagG == t)
  · have ht' : (g.tagG != t) = true := by simp [bne, ht]
    go_wp2_with fail
    refine bodyPost_ret (v := .tuple #[.agg #[.int .i64 Ent.zero.size, .int .i64 Ent.zero.ctx, .int .u64 Ent.zero.va, .int .u64 Ent.zero.pa, .bool Ent.zero.att.write, .bool Ent.zero.att.priv, .bool Ent.zero.att.exec, .bool Ent.zero.att.lock, .bool Ent.zero.att.global, .bool Ent.zero.att.quiet, .bool Ent.zero.valid], .int .i64 2]) (by simp [results, Try.results21, go_sem, Ent.zero, hz, hcR, hcR4, hcR5]) rfl ⟨.inr ⟨by rw [hm, ht]; rfl, rfl⟩, ?_⟩
    iterate 11 refine below_set ?_
    exact HB5.out
  have ht' : (g.tagG != t) = false := by simp [bne, ht]
  go_wp2_with fail
  refine (tdata_any g gp0 gp1 _).mono ?_; rintro r w6 ⟨rfl, hb⟩
  have hcR6 : ∀ o, w6.cell? ⟨w.heap.size, o, none⟩ = _ := fun o => (bcell hb).1 w.heap.size o (by omega)
  have hfR6 : ∀ o, w6.frozen? ⟨w.heap.size, o, none⟩ = _ := fun o => (bcell hb).2 w.heap.size o (by omega)
  have hcE6 : ∀ o, w6.cell? ⟨w2.heap.size, o, none⟩ = _ := fun o => (bcell hb).1 w2.heap.size o (by omega)
  have hz6 : w2.heap.size < w6.heap.size := by have := hb.size; omega
  have HB6 := Lib.hid (show Below w.heap.size w w6 from HB5.out.trans (hb.mono (by omega)))
  clear hb
  cases hd : (g.dataG == d)
  · have hd' : (g.dataG != d) = true := by simp [bne, hd]
    go_wp2_with fail
    refine bodyPost_ret (v := .tuple #[.agg #[.int .i64 Ent.zero.size, .int .i64 Ent.zero.ctx, .int .u64 Ent.zero.va, .int .u64 Ent.zero.pa, .bool Ent.zero.att.write, .bool Ent.zero.att.priv, .bool Ent.zero.att.exec, .bool Ent.zero.att.lock, .bool Ent.zero.att.global, .bool Ent.zero.att.quiet, .bool Ent.zero.valid], .int .i64 2]) (by simp [results, Try.results21, go_sem, Ent.zero, hz, hcR, hcR4, hcR5, hcR6]) rfl ⟨.inr ⟨by rw [hm, ht, hd]; rfl, rfl⟩, ?_⟩
    iterate 11 refine below_set ?_
    exact HB6.out
  · have hd' : (g.dataG != d) = false := by simp [bne, hd]
    go_wp2_with fail
    refine bodyPost_ret (v := .tuple #[.agg #[.int .i64 g.size, .int .i64 g.ctx, .int .u64 g.va, .int .u64 g.pa, .bool g.att.write, .bool g.att.priv, .bool g.att.exec, .bool g.att.lock, .bool g.att.global, .bool g.att.quiet, .bool g.valid], .int .i64 0]) (by simp [results, Try.results21, go_sem, hz, hcR, hcR4, hcR5, hcR6]) rfl ⟨.inl ⟨by rw [hm, ht, hd]; rfl, rfl⟩, ?_⟩
    iterate 11 refine below_set ?_
    exact HB6.out
theorem tread_any (t d va : Int) (t0 : 0 ≤ t) (t1 : t ≤ 18446744073709551615) (d0 : 0 ≤ d) (d1 : d ≤ 18446744073709551615) (v0 : 0 ≤ va) (v1 : va ≤ 18446744073709551615) (w : World) :
    Calls Try.prog 21 #[.int .u64 t, .int .u64 d, .int .u64 va] w fun r w' => r = .returned (.tuple #[.agg #[.int .i64 (Ent.readE t d va).size, .int .i64 (Ent.readE t d va).ctx, .int .u64 (Ent.readE t d va).va, .int .u64 (Ent.readE t d va).pa, .bool (Ent.readE t d va).att.write, .bool (Ent.readE t d va).att.priv, .bool (Ent.readE t d va).att.exec, .bool (Ent.readE t d va).att.lock, .bool (Ent.readE t d va).att.global, .bool (Ent.readE t d va).att.quiet, .bool (Ent.readE t d va).valid], .int .i64 (Ent.readN t d va)]) ∧ Below w.heap.size w w' := by
  cases hh : holeB va
  · rcases bitI_01 d 63 with hv | hv
    · obtain ⟨e1, e2⟩ := read_state t d va hh hv
      exact (tread_state t d va d0 d1 v0 v1 hh (by rw [hv]; rfl) w).mono fun _ _ h => ⟨h.1.trans (ret_read e2.symm e1.symm), h.2⟩
    · have hg := Ent.guess_of t d va d0 d1 hv
      obtain ⟨b1, b2, b3, b4⟩ := Ent.ofW_bd t d va t0 d0 v0 v1
      obtain ⟨g, hgg⟩ : ∃ g, Ent.ofW t d va = g := ⟨_, rfl⟩
      rw [hgg] at hg b1 b2 b3 b4
      have hw := read_form t d va g hgg hh hv
      have ht := Ent.tagG_fit b1
      have hc : (g.mayB && (g.tagG == t) && (g.dataG == d)) = (g.mayB && (g.tagW == t) && (g.dataW == d)) := by
        rw [ht]
        cases hm : g.mayB
        · rfl
        · rw [Ent.dataG_fit (Ent.fit hm b3.1) b4]
      refine (tread_form t d va g hg t0 t1 d0 d1 v0 v1 hh (by rw [hv]; rfl) b2.1 b2.2 b3.1 b3.2 w).mono fun _ _ h => ⟨?_, h.2⟩
      rw [hc] at h
      rcases hw with ⟨q, e1, e2⟩ | ⟨q, e1, e2⟩
      · rcases h.1 with ⟨_, e⟩ | ⟨z, _⟩
        · exact e.trans (ret_read e2.symm e1.symm)
        · rw [q] at z; cases z
      · rcases h.1 with ⟨z, _⟩ | ⟨_, e⟩
        · rw [q] at z; cases z
        · exact e.trans (ret_read e2.symm e1.symm)
  · obtain ⟨e1, e2⟩ := read_hole t d va hh
    exact (tread_hole t d va v0 v1 hh w).mono fun _ _ h => ⟨h.1.trans (ret_read e2.symm e1.symm), h.2⟩
end Go.Proofs.Ytambpmbgepgkdaa.Fld
