/-
  YtffpfceclhogoaaGreatGD: the contracts and plain facts of several texts, laid together. Conditions: those that each theorem names.
-/
import Derived.Test.YtffpfceclhogoaaGreatGC
import Derived.Laws.ResultCell
namespace Go.Proofs.YtffpfceclhogoaaGreat.Hp
open Fld Hs
open Go.ChangeShapes Go.WideShapes Go.ChangeAt Go.RowKit Go.Maps
set_option maxHeartbeats 1000000
set_option maxRecDepth 100000
theorem ret_got {a a' : Pg} {b b' : Int} {c c' : Bool} (h1 : a = a') (h2 : b = b') (h3 : c = c') : Ending.returned (.tuple #[.agg #[.int .u64 a'.va, .int .i64 a'.sz, .int .u64 a'.pa, .bool a'.att.write, .bool a'.att.priv, .bool a'.att.exec, .bool a'.att.lock, .bool a'.att.global, .bool a'.att.quiet, .bool a'.ref, .bool a'.mod], .int .i64 b', .bool c']) = .returned (.tuple #[.agg #[.int .u64 a.va, .int .i64 a.sz, .int .u64 a.pa, .bool a.att.write, .bool a.att.priv, .bool a.att.exec, .bool a.att.lock, .bool a.att.global, .bool a.att.quiet, .bool a.ref, .bool a.mod], .int .i64 b, .bool c]) := by rw [h1, h2, h3]
theorem len_any {sb bm n : Nat} {bl : Int} {L : Nat → List Bk} {V : Nat → Value} (w : World) (h : TabAt w sb bm n bl L V) :
    Calls Tryz.prog 79 #[.pointer (some ⟨sb, 0, none⟩)] w fun e w' => e = .returned (.int .i64 (lenL L n : Int)) ∧ w' = w := by
  obtain ⟨c0, c1, c2, c3, fr⟩ := h.cells
  clear h
  go_enter Tryz.func79, Tryz.ntmps79
  go_wp2
  go_ret
  exact ⟨rfl, rfl⟩
theorem free_any {sb bm n : Nat} {bl : Int} {L : Nat → List Bk} {V : Nat → Value} (w : World) (h : TabAt w sb bm n bl L V) :
    Calls Tryz.prog 80 #[.pointer (some ⟨sb, 0, none⟩)] w fun e w' => e = .returned (.int .i64 (bl - (lenL L n : Int))) ∧ ∃ m, w' = w.drewN m := by
  obtain ⟨c0, c1, c2, c3, fr⟩ := h.cells
  have hf := h.few
  have hb := h.b1
  clear h
  go_enter Tryz.func80, Tryz.ntmps80
  have hl : (0 : Int) ≤ (lenL L n : Int) := by omega
  go_wp2_with fail
  go_quiet (fail)
  go_wp2_with fail
  go_ret
  exact ⟨rfl, _, rfl⟩
theorem res_P3 {fn : Func} {p u v : Tmp} (h : fn.results = #[.cell p 38, .tmp u, .tmp v]) (tmps : Array Value) (w : World) (g : Nat) (x : Pg) (hp : tmps.getD p undef = .pointer (some ⟨g, 0, none⟩)) (hR : w.heap[g]? = some (.cells #[.int .u64 x.va, .int .i64 x.sz, .int .u64 x.pa, .bool x.att.write, .bool x.att.priv, .bool x.att.exec, .bool x.att.lock, .bool x.att.global, .bool x.att.quiet, .bool x.ref, .bool x.mod] 38 (0, 0))) :
    (results fn tmps).run Tryz.prog w = .ok (.tuple #[.agg #[.int .u64 x.va, .int .i64 x.sz, .int .u64 x.pa, .bool x.att.write, .bool x.att.priv, .bool x.att.exec, .bool x.att.lock, .bool x.att.global, .bool x.att.quiet, .bool x.ref, .bool x.mod], tmps.getD u undef, tmps.getD v undef]) w := by
  have hl := run_loadVar_row (P := Tryz.prog) w g 38 38 _ (0, 0) _ hR Tryz.underlying38 (by kernel_rfl) (by kernel_rfl)
  have e : (results fn tmps).run Tryz.prog w = ((asAddr (tmps.getD p undef)).run Tryz.prog w).andThen fun a w₁ => ((loadVar 38 a).run Tryz.prog w₁).andThen fun y w₂ => .ok (.tuple #[y, tmps.getD u undef, tmps.getD v undef]) w₂ := by
    simp only [results, h]
    simp [Sem.run_bind, Result.andThen]
  rw [e, hp]
  simp only [asAddr, Sem.run_pure, Result.andThen_ok, hl]
theorem res_P2 {fn : Func} {p u : Tmp} (h : fn.results = #[.cell p 38, .tmp u]) (tmps : Array Value) (w : World) (g : Nat) (x : Pg) (hp : tmps.getD p undef = .pointer (some ⟨g, 0, none⟩)) (hR : w.heap[g]? = some (.cells #[.int .u64 x.va, .int .i64 x.sz, .int .u64 x.pa, .bool x.att.write, .bool x.att.priv, .bool x.att.exec, .bool x.att.lock, .bool x.att.global, .bool x.att.quiet, .bool x.ref, .bool x.mod] 38 (0, 0))) :
    (results fn tmps).run Tryz.prog w = .ok (.tuple #[.agg #[.int .u64 x.va, .int .i64 x.sz, .int .u64 x.pa, .bool x.att.write, .bool x.att.priv, .bool x.att.exec, .bool x.att.lock, .bool x.att.global, .bool x.att.quiet, .bool x.ref, .bool x.mod], tmps.getD u undef]) w := by
  have hl := run_loadVar_row (P := Tryz.prog) w g 38 38 _ (0, 0) _ hR Tryz.underlying38 (by kernel_rfl) (by kernel_rfl)
  rw [results_cell_tmp h, hp]
  simp only [asAddr, Sem.run_pure, Result.andThen_ok, hl]
/-- The cells of a page in a block of its own. -/
structure RowP (w : World) (b : Nat) (p : Pg) : Prop where
  row : w.heap[b]? = some (.cells #[.int .u64 p.va, .int .i64 p.sz, .int .u64 p.pa, .bool p.att.write, .bool p.att.priv, .bool p.att.exec, .bool p.att.lock, .bool p.att.global, .bool p.att.quiet, .bool p.ref, .bool p.mod] 38 (0, 0))
theorem RowP.low {w w' : World} {b : Nat} {p : Pg} (h : RowP w b p) (hb : Below w.heap.size w w') : RowP w' b p := ⟨blk_low h.row hb⟩
theorem RowP.drew {w : World} {b : Nat} {p : Pg} (h : RowP w b p) : RowP w.drew b p := ⟨h.row⟩
theorem RowP.drewN {w : World} {b : Nat} {p : Pg} (h : RowP w b p) (m : Nat) : RowP (w.drewN m) b p := ⟨h.row⟩
theorem RowP.alloc {w : World} {b : Nat} {p : Pg} (h : RowP w b p) (o : Obj) : RowP (w.alloc o) b p := ⟨blk_low h.row ((Below.refl _ _).alloc (Nat.le_refl _) _)⟩
theorem RowP.new (w : World) (p : Pg) : RowP (w.alloc (.cells #[.int .u64 p.va, .int .i64 p.sz, .int .u64 p.pa, .bool p.att.write, .bool p.att.priv, .bool p.att.exec, .bool p.att.lock, .bool p.att.global, .bool p.att.quiet, .bool p.ref, .bool p.mod] 38)) w.heap.size p := ⟨heap_alloc_new w _⟩
theorem RowP.cells {w : World} {b : Nat} {p : Pg} (h : RowP w b p) : w.cell? ⟨b, 0, none⟩ = some (.int .u64 p.va) ∧ w.cell? ⟨b, 1, none⟩ = some (.int .i64 p.sz) ∧ w.cell? ⟨b, 2, none⟩ = some (.int .u64 p.pa) ∧ w.cell? ⟨b, 3, none⟩ = some (.bool p.att.write) ∧ w.cell? ⟨b, 4, none⟩ = some (.bool p.att.priv) ∧ w.cell? ⟨b, 5, none⟩ = some (.bool p.att.exec) ∧ w.cell? ⟨b, 6, none⟩ = some (.bool p.att.lock) ∧ w.cell? ⟨b, 7, none⟩ = some (.bool p.att.global) ∧ w.cell? ⟨b, 8, none⟩ = some (.bool p.att.quiet) ∧ w.cell? ⟨b, 9, none⟩ = some (.bool p.ref) ∧ w.cell? ⟨b, 10, none⟩ = some (.bool p.mod) := by
  have := h.row
  exact ⟨by simp [World.cell?, this], by simp [World.cell?, this], by simp [World.cell?, this], by simp [World.cell?, this], by simp [World.cell?, this], by simp [World.cell?, this], by simp [World.cell?, this], by simp [World.cell?, this], by simp [World.cell?, this], by simp [World.cell?, this], by simp [World.cell?, this]⟩
theorem RowP.setAll {w : World} {b : Nat} {p : Pg} (h : RowP w b p) (x : Pg) : RowP (((((((((((w.setCell ⟨b, 0, none⟩ (.int .u64 x.va)).setCell ⟨b, 1, none⟩ (.int .i64 x.sz)).setCell ⟨b, 2, none⟩ (.int .u64 x.pa)).setCell ⟨b, 3, none⟩ (.bool x.att.write)).setCell ⟨b, 4, none⟩ (.bool x.att.priv)).setCell ⟨b, 5, none⟩ (.bool x.att.exec)).setCell ⟨b, 6, none⟩ (.bool x.att.lock)).setCell ⟨b, 7, none⟩ (.bool x.att.global)).setCell ⟨b, 8, none⟩ (.bool x.att.quiet)).setCell ⟨b, 9, none⟩ (.bool x.ref)).setCell ⟨b, 10, none⟩ (.bool x.mod)) b x ∧ ∀ B, B ≤ b → Below B w (((((((((((w.setCell ⟨b, 0, none⟩ (.int .u64 x.va)).setCell ⟨b, 1, none⟩ (.int .i64 x.sz)).setCell ⟨b, 2, none⟩ (.int .u64 x.pa)).setCell ⟨b, 3, none⟩ (.bool x.att.write)).setCell ⟨b, 4, none⟩ (.bool x.att.priv)).setCell ⟨b, 5, none⟩ (.bool x.att.exec)).setCell ⟨b, 6, none⟩ (.bool x.att.lock)).setCell ⟨b, 7, none⟩ (.bool x.att.global)).setCell ⟨b, 8, none⟩ (.bool x.att.quiet)).setCell ⟨b, 9, none⟩ (.bool x.ref)).setCell ⟨b, 10, none⟩ (.bool x.mod)) := by
  refine ⟨⟨?_⟩, fun B hB => (((((((((((Below.refl B w).setCell hB _).setCell hB _).setCell hB _).setCell hB _).setCell hB _).setCell hB _).setCell hB _).setCell hB _).setCell hB _).setCell hB _).setCell hB _⟩
  have h0 := set_row h.row 0 (.int .u64 x.va)
  have h1 := set_row h0 1 (.int .i64 x.sz)
  have h2 := set_row h1 2 (.int .u64 x.pa)
  have h3 := set_row h2 3 (.bool x.att.write)
  have h4 := set_row h3 4 (.bool x.att.priv)
  have h5 := set_row h4 5 (.bool x.att.exec)
  have h6 := set_row h5 6 (.bool x.att.lock)
  have h7 := set_row h6 7 (.bool x.att.global)
  have h8 := set_row h7 8 (.bool x.att.quiet)
  have h9 := set_row h8 9 (.bool x.ref)
  have h10 := set_row h9 10 (.bool x.mod)
  clear h h0 h1 h2 h3 h4 h5 h6 h7 h8 h9
  simp only [List.setIfInBounds_toArray, List.set_cons_succ, List.set_cons_zero] at h10
  exact h10
theorem set_one_page {w : World} {b : Nat} {p : Pg} (h : RowP w b p) : ∀ i, w.frozen? ⟨b, i, none⟩ = false := fun i => by have := h.row; simp [World.frozen?, this]
/-- A table, a key, a result's page and one more, in boxes. -/
structure GT (u w : World) (sb bm n : Nat) (bl : Int) (L : Nat → List Bk) (V : Nat → Value) (hs : Nat) (k : Ky) (rb nb : Nat) : Prop where
  fk : FK w sb bm n bl L V hs k
  r : RowP w rb Pg.zero
  z : RowP w nb Pg.zero
  lo : Below u.heap.size u w
  rl : u.heap.size ≤ rb
section
variable {u w : World} {sb bm n : Nat} {bl : Int} {L : Nat → List Bk} {V : Nat → Value} {hs : Nat} {k : Ky} {rb nb : Nat}
theorem GT.call {w' : World} (h : GT u w sb bm n bl L V hs k rb nb) (hb : Below w.heap.size w w') : GT u w' sb bm n bl L V hs k rb nb := ⟨h.fk.call hb, h.r.low hb, h.z.low hb, lo_step h.lo hb, h.rl⟩
theorem GT.new (h : TabAt w sb bm n bl L V) (k : Ky) : GT w (((w.alloc (.cells #[.int .i64 k.sp, .int .u64 k.va, .int .i64 k.sz] 89)).alloc (.cells #[.int .u64 Pg.zero.va, .int .i64 Pg.zero.sz, .int .u64 Pg.zero.pa, .bool Pg.zero.att.write, .bool Pg.zero.att.priv, .bool Pg.zero.att.exec, .bool Pg.zero.att.lock, .bool Pg.zero.att.global, .bool Pg.zero.att.quiet, .bool Pg.zero.ref, .bool Pg.zero.mod] 38)).alloc (.cells #[.int .u64 Pg.zero.va, .int .i64 Pg.zero.sz, .int .u64 Pg.zero.pa, .bool Pg.zero.att.write, .bool Pg.zero.att.priv, .bool Pg.zero.att.exec, .bool Pg.zero.att.lock, .bool Pg.zero.att.global, .bool Pg.zero.att.quiet, .bool Pg.zero.ref, .bool Pg.zero.mod] 38)) sb bm n bl L V w.heap.size k (w.heap.size + 1) (w.heap.size + 1 + 1) := by
  have F := FK.new h k
  have r := RowP.new (w.alloc (.cells #[.int .i64 k.sp, .int .u64 k.va, .int .i64 k.sz] 89)) Pg.zero
  have z := RowP.new ((w.alloc (.cells #[.int .i64 k.sp, .int .u64 k.va, .int .i64 k.sz] 89)).alloc (.cells #[.int .u64 Pg.zero.va, .int .i64 Pg.zero.sz, .int .u64 Pg.zero.pa, .bool Pg.zero.att.write, .bool Pg.zero.att.priv, .bool Pg.zero.att.exec, .bool Pg.zero.att.lock, .bool Pg.zero.att.global, .bool Pg.zero.att.quiet, .bool Pg.zero.ref, .bool Pg.zero.mod] 38)) Pg.zero
  rw [World.size_alloc] at r z
  rw [World.size_alloc] at z
  exact ⟨(F.call ((Below.refl _ _).alloc (Nat.le_refl _) _)).call ((Below.refl _ _).alloc (Nat.le_refl _) _), r.alloc _, z, by (repeat (first | (with_reducible assumption) | (with_reducible exact Below.refl _ _) | (with_reducible refine lo_step ?_ (by assumption)) | (with_reducible refine lo_drew ?_) | (with_reducible refine lo_drewN ?_ _) | (with_reducible refine lo_alloc ?_ _))) , by omega⟩
theorem GT.fin (h : GT u w sb bm n bl L V hs k rb nb) (x : Pg) : RowP (((((((((((w.setCell ⟨rb, 0, none⟩ (.int .u64 x.va)).setCell ⟨rb, 1, none⟩ (.int .i64 x.sz)).setCell ⟨rb, 2, none⟩ (.int .u64 x.pa)).setCell ⟨rb, 3, none⟩ (.bool x.att.write)).setCell ⟨rb, 4, none⟩ (.bool x.att.priv)).setCell ⟨rb, 5, none⟩ (.bool x.att.exec)).setCell ⟨rb, 6, none⟩ (.bool x.att.lock)).setCell ⟨rb, 7, none⟩ (.bool x.att.global)).setCell ⟨rb, 8, none⟩ (.bool x.att.quiet)).setCell ⟨rb, 9, none⟩ (.bool x.ref)).setCell ⟨rb, 10, none⟩ (.bool x.mod)) rb x ∧ Below u.heap.size u (((((((((((w.setCell ⟨rb, 0, none⟩ (.int .u64 x.va)).setCell ⟨rb, 1, none⟩ (.int .i64 x.sz)).setCell ⟨rb, 2, none⟩ (.int .u64 x.pa)).setCell ⟨rb, 3, none⟩ (.bool x.att.write)).setCell ⟨rb, 4, none⟩ (.bool x.att.priv)).setCell ⟨rb, 5, none⟩ (.bool x.att.exec)).setCell ⟨rb, 6, none⟩ (.bool x.att.lock)).setCell ⟨rb, 7, none⟩ (.bool x.att.global)).setCell ⟨rb, 8, none⟩ (.bool x.att.quiet)).setCell ⟨rb, 9, none⟩ (.bool x.ref)).setCell ⟨rb, 10, none⟩ (.bool x.mod)) := ⟨(h.r.setAll x).1, h.lo.trans ((h.r.setAll x).2 _ h.rl)⟩
theorem GT.ends (h : GT u w sb bm n bl L V hs k rb nb) : (w.cell? ⟨rb, 0, none⟩ = some (.int .u64 Pg.zero.va) ∧ w.cell? ⟨rb, 1, none⟩ = some (.int .i64 Pg.zero.sz) ∧ w.cell? ⟨rb, 2, none⟩ = some (.int .u64 Pg.zero.pa) ∧ w.cell? ⟨rb, 3, none⟩ = some (.bool Pg.zero.att.write) ∧ w.cell? ⟨rb, 4, none⟩ = some (.bool Pg.zero.att.priv) ∧ w.cell? ⟨rb, 5, none⟩ = some (.bool Pg.zero.att.exec) ∧ w.cell? ⟨rb, 6, none⟩ = some (.bool Pg.zero.att.lock) ∧ w.cell? ⟨rb, 7, none⟩ = some (.bool Pg.zero.att.global) ∧ w.cell? ⟨rb, 8, none⟩ = some (.bool Pg.zero.att.quiet) ∧ w.cell? ⟨rb, 9, none⟩ = some (.bool Pg.zero.ref) ∧ w.cell? ⟨rb, 10, none⟩ = some (.bool Pg.zero.mod)) ∧ (∀ i, w.frozen? ⟨rb, i, none⟩ = false) ∧ w.cell? ⟨nb, 0, none⟩ = some (.int .u64 Pg.zero.va) ∧ w.cell? ⟨nb, 1, none⟩ = some (.int .i64 Pg.zero.sz) ∧ w.cell? ⟨nb, 2, none⟩ = some (.int .u64 Pg.zero.pa) ∧ w.cell? ⟨nb, 3, none⟩ = some (.bool Pg.zero.att.write) ∧ w.cell? ⟨nb, 4, none⟩ = some (.bool Pg.zero.att.priv) ∧ w.cell? ⟨nb, 5, none⟩ = some (.bool Pg.zero.att.exec) ∧ w.cell? ⟨nb, 6, none⟩ = some (.bool Pg.zero.att.lock) ∧ w.cell? ⟨nb, 7, none⟩ = some (.bool Pg.zero.att.global) ∧ w.cell? ⟨nb, 8, none⟩ = some (.bool Pg.zero.att.quiet) ∧ w.cell? ⟨nb, 9, none⟩ = some (.bool Pg.zero.ref) ∧ w.cell? ⟨nb, 10, none⟩ = some (.bool Pg.zero.mod) := ⟨h.r.cells, set_one_page h.r, h.z.cells⟩
end
theorem get_any {sb bm n : Nat} {bl : Int} {L : Nat → List Bk} {V : Nat → Value} (k : Ky) (hk : k.wf) (w : World) (h : TabAt w sb bm n bl L V) :
    Calls Tryz.prog 50 #[.pointer (some ⟨sb, 0, none⟩), .agg #[.int .i64 k.sp, .int .u64 k.va, .int .i64 k.sz]] w fun e w' => e = .returned (.tuple #[.agg #[.int .u64 (getV n L k).va, .int .i64 (getV n L k).sz, .int .u64 (getV n L k).pa, .bool (getV n L k).att.write, .bool (getV n L k).att.priv, .bool (getV n L k).att.exec, .bool (getV n L k).att.lock, .bool (getV n L k).att.global, .bool (getV n L k).att.quiet, .bool (getV n L k).ref, .bool (getV n L k).mod], .int .i64 (getN n L k), .bool (getB n L k)]) ∧ Below w.heap.size w w' := by
  have hn := h.n0
  have T := GT.new h k
  cases hm : kmayB k
  · have e1 := Lib.hid (show getV n L k = Pg.zero by unfold getV getB; rw [hm]; rfl)
    have e2 := Lib.hid (show getN n L k = 0 by unfold getN getB; rw [hm]; rfl)
    have e3 := Lib.hid (show getB n L k = false by unfold getB; rw [hm]; rfl)
    obtain ⟨x0, x1, x2⟩ := T.fk.cells
    rw [e1.out, e2.out, e3.out]
    unfold Pg.zero at *
    clear h
    go_enter Tryz.func50, Tryz.ntmps50
    go_wp2_with fail
    generalize World.alloc (World.alloc (World.alloc w _) _) _ = W at *
    refine (kmay_any k hk _).mono ?_; rintro e w1 ⟨rfl, hb1⟩; rw [hm]
    have T1 := T.call hb1
    obtain ⟨⟨r0, r1, r2, r3, r4, r5, r6, r7, r8, r9, r10⟩, fr, ⟨z0, z1, z2, z3, z4, z5, z6, z7, z8, z9, z10⟩⟩ := T1.ends
    have TF := Lib.hid (T1.fin Pg.zero)
    clear T T1 hb1 x0 x1 x2
    go_wp2_with fail
    refine bodyPost_ret (res_P3 rfl _ _ _ _ rfl TF.out.1.row) rfl ?_
    exact ⟨rfl, TF.out.2⟩
  · have hok := hk.ok hm
    have hcn := chN_lt k hn
    rw [chN_ok hok] at hcn
    obtain ⟨x0, x1, x2⟩ := T.fk.cells
    have CF := Lib.hid (fun w h => find_any (sb := sb) (bm := bm) (n := n) (bl := bl) (L := L) (V := V) k hk w h)
    rw [chN_ok hok] at CF
    unfold Pg.zero at T
    clear h
    go_enter Tryz.func50, Tryz.ntmps50
    go_wp2_with fail
    generalize World.alloc (World.alloc (World.alloc w _) _) _ = W at *
    refine (kmay_any k hk _).mono ?_; rintro e w1 ⟨rfl, hb1⟩; rw [hm]
    have T1 := T.call hb1
    obtain ⟨x0, x1, x2⟩ := T1.fk.cells
    clear T hb1
    go_wp2_with fail
    refine (CF.out _ T1.fk.tab).mono ?_; rintro e w2 ⟨rfl, hb2⟩
    have T2 := T1.call hb2
    have F2 := T2.fk
    clear T1 hb2 CF x0 x1 x2
    have ho := F2.tab.rows _ hcn
    have hg : getB n L k = hasB (L (chainN k n)) k := by unfold getB; rw [hm]; rfl
    obtain ⟨⟨r0, r1, r2, r3, r4, r5, r6, r7, r8, r9, r10⟩, fr, ⟨z0, z1, z2, z3, z4, z5, z6, z7, z8, z9, z10⟩⟩ := T2.ends
    cases hh : hasB (L (chainN k n)) k
    · rw [hh] at hg
      have e1 := Lib.hid (show getV n L k = Pg.zero by unfold getV; rw [hg]; rfl)
      have e2 := Lib.hid (show getN n L k = ((L (chainN k n)).length : Int) by unfold getN; rw [hg, hm]; rfl)
      have e3 := Lib.hid hg
      have e4 := place_no hh
      have TF := Lib.hid (T2.fin Pg.zero)
      rw [e4]
      clear e4 hg hh T2
      rcases own_form ho with ⟨hv, h0⟩ | ⟨g, cap, hv, hgb, hnc, hcm⟩
      · rw [hv]
        rw [h0] at e2
        clear ho F2
        go_wp2_with fail
        refine bodyPost_ret (res_P3 rfl _ _ _ _ rfl TF.out.1.row) rfl ?_
        exact ⟨ret_got e1.out e2.out e3.out, TF.out.2⟩
      · rw [hv]
        clear ho F2
        go_wp2_with fail
        refine bodyPost_ret (res_P3 rfl _ _ _ _ rfl TF.out.1.row) rfl ?_
        exact ⟨ret_got e1.out e2.out e3.out, TF.out.2⟩
    · rw [hh] at hg
      have hlt := has_lt hh
      have e1 := Lib.hid (show getV n L k = (at_ (L (chainN k n)) (posN (L (chainN k n)) k)).v by unfold getV; rw [hg]; rfl)
      have e2 := Lib.hid (show getN n L k = (posN (L (chainN k n)) k : Int) + 1 by unfold getN; rw [hg]; rfl)
      have e3 := Lib.hid hg
      rw [place_yes hh]
      clear hg hh z0 z1 z2 z3 z4 z5 z6 z7 z8 z9 z10
      have hle := bk_few F2.tab hcn
      rcases own_form ho with ⟨hv, h0⟩ | ⟨g, cap, hv, hgb, hnc, hcm⟩
      · omega
      · obtain ⟨y0, y1, y2, y3, y4, y5, y6, y7, y8, y9, y10, y11, y12, y13⟩ := own_rowC ho hgb hlt
        rw [hv]
        have TF := Lib.hid (T2.fin (at_ (L (chainN k n)) (posN (L (chainN k n)) k)).v)
        clear ho F2 T2
        generalize posN (L (chainN k n)) k = j at *
        generalize L (chainN k n) = l at *
        generalize at_ l j = b at *
        have hlt' : (j : Int) < (l.length : Int) := by omega
        have hj0 : ¬ (j : Int) < 0 := by omega
        go_wp2_with fail
        refine bodyPost_ret (res_P3 rfl _ _ _ _ rfl TF.out.1.row) rfl ?_
        exact ⟨ret_got e1.out e2.out e3.out, TF.out.2⟩
end Go.Proofs.YtffpfceclhogoaaGreat.Hp
namespace Go.Proofs.YtffpfceclhogoaaGreat.Hp
open Fld Hs
open Go.ChangeShapes Go.WideShapes Go.ChangeAt Go.RowKit Go.Maps
set_option maxHeartbeats 1000000
theorem map_store {W : World} {bm n : Nat} {V : Nat → Value} (h : ∃ D, Owns W bm (Maps.size D) D ∧ MapIs D n V ∧ Maps.size D ≤ 1073741824) {c : Nat} (hc : c < n) (hn : n ≤ 9223372036854775807) {v : Value} (hv : v ≠ nilS) {y : DataW Unit × List MemPlace} (hy : hdR v = some y) :
    ∃ W', (Instr.mapUpdate 108 (.map (some bm)) (.int .i64 (c : Int)) v).run Tryz.prog W = .ok () W' ∧ (∃ D', Owns W' bm (Maps.size D') D' ∧ MapIs D' n (setV V c v)) ∧ W.grownBy W' (some bm) := by
  obtain ⟨D, ho, hm, hs⟩ := h
  have e := (hdR_inv hy).1
  rw [e] at hy
  obtain ⟨W', hr, ho', hg⟩ := ho.update lawI Tryz.underlying108 (by unfold maxLen; omega) (keyOf_int_mk Tryz.underlying3 (wfI (a := (c : Int)) (by omega) (by omega))) hy
  exact ⟨W', hr, ⟨_, owns_size ho', hm.put ho.isMap hc hv⟩, hg⟩
theorem map_drop {W : World} {bm n : Nat} {V : Nat → Value} (h : ∃ D, Owns W bm (Maps.size D) D ∧ MapIs D n V) {c : Nat} (hc : c < n) (hn : n ≤ 9223372036854775807) (ty : TypeId) :
    ∃ W', (Builtin.delete_ #[108, 3] ty #[.map (some bm), .int .i64 (c : Int)]).run Tryz.prog W = .ok (.tuple #[]) W' ∧ (∃ D', Owns W' bm (Maps.size D') D' ∧ MapIs D' n (setV V c nilS)) ∧ W.grownBy W' (some bm) := by
  obtain ⟨D, ho, hm⟩ := h
  obtain ⟨W', hr, ho', hg⟩ := ho.drop lawI Tryz.underlying108 (keyOf_int_mk Tryz.underlying3 (wfI (a := (c : Int)) (by omega) (by omega))) ty
  exact ⟨W', hr, ⟨_, owns_size ho', hm.del hc⟩, hg.grown⟩
section
variable {w w' : World} {sb bm n : Nat} {bl : Int} {L : Nat → List Bk} {V : Nat → Value}
theorem TabAt.build (h : TabAt w sb bm n bl L V) {c : Nat} (hc : c < n) {v' : Value} {l' : List Bk}
    (hrow : w'.heap[sb]? = some (.cells #[.int .i64 bl, .int .i64 (lenL (setL L c l') n : Int), .int .i64 (n : Int), .map (some bm)] 110 (0, 0)))
    (hmap : ∃ D, Owns w' bm (Maps.size D) D ∧ MapIs D n (setV V c v'))
    (hown : w'.ownsRow 0 133 14 v' l'.length (bkL l')) (hnil : l' = [] → v' = nilS)
    (hkeep : ∀ k, own sb bm n V k → k ≠ sb → k ≠ bm → (V c).ownBlock ≠ some k → w'.heap[k]? = w.heap[k]?)
    (hfresh : ∀ g, v'.ownBlock = some g → (V c).ownBlock = some g ∨ w.heap.size ≤ g)
    (hgood : ∀ b ∈ l', b.k.Ok) (hfew : (lenL (setL L c l') n : Int) ≤ bl) : TabAt w' sb bm n bl (setL L c l') (setV V c v') where
  row := hrow
  map := hmap
  rows i hi := by
    by_cases e : i = c
    · subst e; rw [setL_same, setV_same]; exact hown
    · rw [setL_other L l' e, setV_other V v' e]
      refine own_same (h.rows i hi) (fun g hg => hkeep g (.inr (.inr ⟨i, hi, hg⟩)) (h.row_ne hi hg).1 (h.row_ne hi hg).2 (fun e2 => e (h.apart i c g hi hc hg e2)))
  nil i hi he := by
    by_cases e : i = c
    · subst e; rw [setL_same] at he; rw [setV_same]; exact hnil he
    · rw [setL_other L l' e] at he; rw [setV_other V v' e]; exact h.nil i hi he
  apart i j g hi hj h1 h2 := by
    by_cases e : i = c
    · by_cases f : j = c
      · omega
      · subst e
        rw [setV_same] at h1; rw [setV_other V v' f] at h2
        rcases hfresh g h1 with h3 | h3
        · exact h.apart i j g hc hj h3 h2
        · have := h.lt (.inr (.inr ⟨j, hj, h2⟩)); omega
    · by_cases f : j = c
      · subst f
        rw [setV_same] at h2; rw [setV_other V v' e] at h1
        rcases hfresh g h2 with h3 | h3
        · exact h.apart i j g hi hc h1 h3
        · have := h.lt (.inr (.inr ⟨i, hi, h1⟩)); omega
      · rw [setV_other V v' e] at h1; rw [setV_other V v' f] at h2; exact h.apart i j g hi hj h1 h2
  good i hi b hb := by
    by_cases e : i = c
    · subst e; rw [setL_same] at hb; exact hgood b hb
    · rw [setL_other L l' e] at hb; exact h.good i hi b hb
  n0 := h.n0
  n1 := h.n1
  few := hfew
  b1 := h.b1
theorem own_set {c : Nat} {v' : Value} (hc : c < n) (m : Nat) (hfresh : ∀ g, v'.ownBlock = some g → (V c).ownBlock = some g ∨ m ≤ g) (k : Nat) (h : own sb bm n (setV V c v') k) : own sb bm n V k ∨ m ≤ k := by
  rcases h with h | h | ⟨i, hi, h⟩
  · exact .inl (.inl h)
  · exact .inl (.inr (.inl h))
  · by_cases e : i = c
    · subst e; rw [setV_same] at h
      rcases hfresh k h with h | h
      · exact .inl (.inr (.inr ⟨i, hi, h⟩))
      · exact .inr h
    · rw [setV_other V v' e] at h; exact .inl (.inr (.inr ⟨i, hi, h⟩))
/-- What was done to a chain, as a turn of the table. -/
theorem TabAt.turned {O : Nat → Prop} (hO : ∀ k, O k ↔ own sb bm n V k) {c : Nat} (hc : c < n) {v' : Value} {l' : List Bk} (w1 : World) (h1 : TabAt w' sb bm n bl (setL L c l') (setV V c v'))
    (hfresh : ∀ g, v'.ownBlock = some g → (V c).ownBlock = some g ∨ w1.heap.size ≤ g) (hT : Turn w1 w' O) : TabTo w1 w' sb O n bl (setL L c l') :=
  ⟨own sb bm n (setV V c v'), ⟨bm, _, h1, fun _ => Iff.rfl⟩, hT, fun k hk => (own_set hc _ hfresh k hk).imp (hO k).2 id⟩
theorem TabTo.low {O : Nat → Prop} (h : Tab w sb O n bl L) (hb : Below w.heap.size w w') : TabTo w w' sb O n bl L :=
  ⟨O, h.below hb (Nat.le_refl _), Turn.low O hb, fun _ h => .inl h⟩
end
section
variable {w w' : World} {sb bm n : Nat} {bl : Int} {L : Nat → List Bk} {V : Nat → Value}
theorem TabAt.close (h : TabAt w sb bm n bl L V) {c : Nat} (hc : c < n) {v' : Value} {l' : List Bk} {tk : Int} (htk : (lenL (setL L c l') n : Int) = tk)
    (hsb : w'.heap[sb]? = w.heap[sb]?)
    (hmap : ∃ D, Owns w' bm (Maps.size D) D ∧ MapIs D n (setV V c v'))
    (hown : w'.ownsRow 0 133 14 v' l'.length (bkL l')) (hnil : l' = [] → v' = nilS)
    (hkeep : ∀ k, own sb bm n V k → k ≠ sb → k ≠ bm → (V c).ownBlock ≠ some k → w'.heap[k]? = w.heap[k]?)
    (hfresh : ∀ g, v'.ownBlock = some g → (V c).ownBlock = some g ∨ w.heap.size ≤ g)
    (hgood : ∀ b ∈ l', b.k.Ok) (hfew : tk ≤ bl) : TabAt (w'.setCell ⟨sb, 1, none⟩ (.int .i64 tk)) sb bm n bl (setL L c l') (setV V c v') := by
  have hr := hsb.trans h.row
  have hb := h.bm_ne
  have hs := h.lt (.inl rfl)
  have hset : ∀ k, k ≠ sb → (w'.setCell ⟨sb, 1, none⟩ (.int .i64 tk)).heap[k]? = w'.heap[k]? := fun k hk => Below.heap_setCell _ _ _ _ hk
  refine h.build hc ?_ (map_same hmap (hset bm hb)) (own_same hown (fun g hg => hset g ?_)) hnil (fun k h1 h2 h3 h4 => (hset k h2).trans (hkeep k h1 h2 h3 h4)) hfresh hgood (by rw [htk]; exact hfew)
  · rw [setCell_eq_setRow w' sb 1 _ _ _ _ hr, htk]
    have := setRow_heap w' sb _ (#[Value.int .i64 bl, .int .i64 (lenL L n : Int), .int .i64 (n : Int), .map (some bm)].setIfInBounds 1 (.int .i64 tk)) _ _ hr
    simpa using this
  · rintro rfl
    rcases hfresh g hg with h1 | h1
    · exact (h.row_ne hc h1).1 rfl
    · omega
end
/-- A key that is there may be, and is in its own chain. -/
theorem here_ok {n : Nat} {L : Nat → List Bk} (hg : Good n L) {c : Nat} (hc : c < n) {k : Ky} (h : hasB (L c) k = true) : k.Ok := by
  obtain ⟨b, hb, rfl⟩ := has_mem.1 h
  exact hg c hc b hb
theorem getB_iff {n : Nat} (hn : 1 ≤ n) {L : Nat → List Bk} (hg : Good n L) (k : Ky) : getB n L k = hasB (L (chN k n)) k := by
  have hc := chN_lt k hn
  cases h : hasB (L (chN k n)) k
  · unfold getB
    cases hm : kmayB k
    · rfl
    · cases h2 : hasB (L (chainN k n)) k
      · rfl
      · have hk := here_ok hg (chain_lt k hn) h2
        rw [chN_ok hk, h2] at h; cases h
  · have hk := here_ok hg hc h
    rw [chN_ok hk] at h
    unfold getB; rw [hk.may, h]; rfl
end Go.Proofs.YtffpfceclhogoaaGreat.Hp
namespace Go.Proofs.YtffpfceclhogoaaGreat.Hp
open Fld Hs
open Go.ChangeShapes Go.WideShapes Go.ChangeAt Go.RowKit Go.Maps
set_option maxHeartbeats 1000000
set_option maxRecDepth 100000
theorem bkL_set : ∀ (l : List Bk) (j : Nat) (x : Pg), j < l.length → bkL (l.set j ⟨(at_ l j).k, x⟩) = (((((((((((bkL l).set (j * 14 + 3) (.int .u64 x.va)).set (j * 14 + 4) (.int .i64 x.sz)).set (j * 14 + 5) (.int .u64 x.pa)).set (j * 14 + 6) (.bool x.att.write)).set (j * 14 + 7) (.bool x.att.priv)).set (j * 14 + 8) (.bool x.att.exec)).set (j * 14 + 9) (.bool x.att.lock)).set (j * 14 + 10) (.bool x.att.global)).set (j * 14 + 11) (.bool x.att.quiet)).set (j * 14 + 12) (.bool x.ref)).set (j * 14 + 13) (.bool x.mod)
  | [], j, x, h => absurd h (Nat.not_lt_zero _)
  | b :: l, 0, x, _ => rfl
  | b :: l, j + 1, x, h => by
    rw [at_cons, List.set_cons_succ]
    have := bkL_set l j x (by simpa using h)
    simp only [bkL, bkC, List.cons_append, List.nil_append, this, show ∀ m, (j + 1) * 14 + m = (j * 14 + m) + 1 + 1 + 1 + 1 + 1 + 1 + 1 + 1 + 1 + 1 + 1 + 1 + 1 + 1 from fun m => by omega, List.set_cons_succ]
theorem own_thing {w : World} {B e : Nat} {v : Value} {l : List Bk} {g : Nat} (h : w.ownsRow B e 14 v l.length (bkL l)) (hg : v.ownBlock = some g) {j : Nat} (hj : j < l.length) (x : Pg) :
    (((((((((((w.setCell ⟨g, j * 14 + 3, none⟩ (.int .u64 x.va)).setCell ⟨g, j * 14 + 4, none⟩ (.int .i64 x.sz)).setCell ⟨g, j * 14 + 5, none⟩ (.int .u64 x.pa)).setCell ⟨g, j * 14 + 6, none⟩ (.bool x.att.write)).setCell ⟨g, j * 14 + 7, none⟩ (.bool x.att.priv)).setCell ⟨g, j * 14 + 8, none⟩ (.bool x.att.exec)).setCell ⟨g, j * 14 + 9, none⟩ (.bool x.att.lock)).setCell ⟨g, j * 14 + 10, none⟩ (.bool x.att.global)).setCell ⟨g, j * 14 + 11, none⟩ (.bool x.att.quiet)).setCell ⟨g, j * 14 + 12, none⟩ (.bool x.ref)).setCell ⟨g, j * 14 + 13, none⟩ (.bool x.mod)).ownsRow B e 14 v (l.set j ⟨(at_ l j).k, x⟩).length (bkL (l.set j ⟨(at_ l j).k, x⟩)) ∧ w.grownBy (((((((((((w.setCell ⟨g, j * 14 + 3, none⟩ (.int .u64 x.va)).setCell ⟨g, j * 14 + 4, none⟩ (.int .i64 x.sz)).setCell ⟨g, j * 14 + 5, none⟩ (.int .u64 x.pa)).setCell ⟨g, j * 14 + 6, none⟩ (.bool x.att.write)).setCell ⟨g, j * 14 + 7, none⟩ (.bool x.att.priv)).setCell ⟨g, j * 14 + 8, none⟩ (.bool x.att.exec)).setCell ⟨g, j * 14 + 9, none⟩ (.bool x.att.lock)).setCell ⟨g, j * 14 + 10, none⟩ (.bool x.att.global)).setCell ⟨g, j * 14 + 11, none⟩ (.bool x.att.quiet)).setCell ⟨g, j * 14 + 12, none⟩ (.bool x.ref)).setCell ⟨g, j * 14 + 13, none⟩ (.bool x.mod)) (some g) := by
  rcases h.2 with ⟨rfl, _⟩ | ⟨g', cap, cur, rfl, hb, hgg, hnc, hcm, hcs, htake⟩
  · cases hg
  · obtain rfl : g' = g := by simpa [Value.ownBlock] using hg
    have h0 := set_row hgg (j * 14 + 3) (.int .u64 x.va)
    have h1 := set_row h0 (j * 14 + 4) (.int .i64 x.sz)
    have h2 := set_row h1 (j * 14 + 5) (.int .u64 x.pa)
    have h3 := set_row h2 (j * 14 + 6) (.bool x.att.write)
    have h4 := set_row h3 (j * 14 + 7) (.bool x.att.priv)
    have h5 := set_row h4 (j * 14 + 8) (.bool x.att.exec)
    have h6 := set_row h5 (j * 14 + 9) (.bool x.att.lock)
    have h7 := set_row h6 (j * 14 + 10) (.bool x.att.global)
    have h8 := set_row h7 (j * 14 + 11) (.bool x.att.quiet)
    have h9 := set_row h8 (j * 14 + 12) (.bool x.ref)
    have h10 := set_row h9 (j * 14 + 13) (.bool x.mod)
    have hf : ∀ k, k ≠ g' → (((((((((((w.setCell ⟨g', j * 14 + 3, none⟩ (.int .u64 x.va)).setCell ⟨g', j * 14 + 4, none⟩ (.int .i64 x.sz)).setCell ⟨g', j * 14 + 5, none⟩ (.int .u64 x.pa)).setCell ⟨g', j * 14 + 6, none⟩ (.bool x.att.write)).setCell ⟨g', j * 14 + 7, none⟩ (.bool x.att.priv)).setCell ⟨g', j * 14 + 8, none⟩ (.bool x.att.exec)).setCell ⟨g', j * 14 + 9, none⟩ (.bool x.att.lock)).setCell ⟨g', j * 14 + 10, none⟩ (.bool x.att.global)).setCell ⟨g', j * 14 + 11, none⟩ (.bool x.att.quiet)).setCell ⟨g', j * 14 + 12, none⟩ (.bool x.ref)).setCell ⟨g', j * 14 + 13, none⟩ (.bool x.mod)).heap[k]? = w.heap[k]? := fun k hk => by
      rw [Below.heap_setCell _ _ _ _ hk, Below.heap_setCell _ _ _ _ hk, Below.heap_setCell _ _ _ _ hk, Below.heap_setCell _ _ _ _ hk, Below.heap_setCell _ _ _ _ hk, Below.heap_setCell _ _ _ _ hk, Below.heap_setCell _ _ _ _ hk, Below.heap_setCell _ _ _ _ hk, Below.heap_setCell _ _ _ _ hk, Below.heap_setCell _ _ _ _ hk, Below.heap_setCell _ _ _ _ hk]
    have hz : (((((((((((w.setCell ⟨g', j * 14 + 3, none⟩ (.int .u64 x.va)).setCell ⟨g', j * 14 + 4, none⟩ (.int .i64 x.sz)).setCell ⟨g', j * 14 + 5, none⟩ (.int .u64 x.pa)).setCell ⟨g', j * 14 + 6, none⟩ (.bool x.att.write)).setCell ⟨g', j * 14 + 7, none⟩ (.bool x.att.priv)).setCell ⟨g', j * 14 + 8, none⟩ (.bool x.att.exec)).setCell ⟨g', j * 14 + 9, none⟩ (.bool x.att.lock)).setCell ⟨g', j * 14 + 10, none⟩ (.bool x.att.global)).setCell ⟨g', j * 14 + 11, none⟩ (.bool x.att.quiet)).setCell ⟨g', j * 14 + 12, none⟩ (.bool x.ref)).setCell ⟨g', j * 14 + 13, none⟩ (.bool x.mod)).heap.size = w.heap.size := by simp only [setCell_size]
    have htk : (((((((((((cur.setIfInBounds (j * 14 + 3) (.int .u64 x.va)).setIfInBounds (j * 14 + 4) (.int .i64 x.sz)).setIfInBounds (j * 14 + 5) (.int .u64 x.pa)).setIfInBounds (j * 14 + 6) (.bool x.att.write)).setIfInBounds (j * 14 + 7) (.bool x.att.priv)).setIfInBounds (j * 14 + 8) (.bool x.att.exec)).setIfInBounds (j * 14 + 9) (.bool x.att.lock)).setIfInBounds (j * 14 + 10) (.bool x.att.global)).setIfInBounds (j * 14 + 11) (.bool x.att.quiet)).setIfInBounds (j * 14 + 12) (.bool x.ref)).setIfInBounds (j * 14 + 13) (.bool x.mod)).toList.take (l.length * 14) = bkL (l.set j ⟨(at_ l j).k, x⟩) := by
      rw [bkL_set l j x hj, ← htake]
      simp only [Array.toList_setIfInBounds, List.take_set]
    have hsz : (((((((((((cur.setIfInBounds (j * 14 + 3) (.int .u64 x.va)).setIfInBounds (j * 14 + 4) (.int .i64 x.sz)).setIfInBounds (j * 14 + 5) (.int .u64 x.pa)).setIfInBounds (j * 14 + 6) (.bool x.att.write)).setIfInBounds (j * 14 + 7) (.bool x.att.priv)).setIfInBounds (j * 14 + 8) (.bool x.att.exec)).setIfInBounds (j * 14 + 9) (.bool x.att.lock)).setIfInBounds (j * 14 + 10) (.bool x.att.global)).setIfInBounds (j * 14 + 11) (.bool x.att.quiet)).setIfInBounds (j * 14 + 12) (.bool x.ref)).setIfInBounds (j * 14 + 13) (.bool x.mod)).size = cap * 14 := by simp only [Array.size_setIfInBounds]; exact hcs
    clear h0 h1 h2 h3 h4 h5 h6 h7 h8 h9
    have hos : (((((((((((w.setCell ⟨g', j * 14 + 3, none⟩ (.int .u64 x.va)).setCell ⟨g', j * 14 + 4, none⟩ (.int .i64 x.sz)).setCell ⟨g', j * 14 + 5, none⟩ (.int .u64 x.pa)).setCell ⟨g', j * 14 + 6, none⟩ (.bool x.att.write)).setCell ⟨g', j * 14 + 7, none⟩ (.bool x.att.priv)).setCell ⟨g', j * 14 + 8, none⟩ (.bool x.att.exec)).setCell ⟨g', j * 14 + 9, none⟩ (.bool x.att.lock)).setCell ⟨g', j * 14 + 10, none⟩ (.bool x.att.global)).setCell ⟨g', j * 14 + 11, none⟩ (.bool x.att.quiet)).setCell ⟨g', j * 14 + 12, none⟩ (.bool x.ref)).setCell ⟨g', j * 14 + 13, none⟩ (.bool x.mod)).os = w.os ∧ (((((((((((w.setCell ⟨g', j * 14 + 3, none⟩ (.int .u64 x.va)).setCell ⟨g', j * 14 + 4, none⟩ (.int .i64 x.sz)).setCell ⟨g', j * 14 + 5, none⟩ (.int .u64 x.pa)).setCell ⟨g', j * 14 + 6, none⟩ (.bool x.att.write)).setCell ⟨g', j * 14 + 7, none⟩ (.bool x.att.priv)).setCell ⟨g', j * 14 + 8, none⟩ (.bool x.att.exec)).setCell ⟨g', j * 14 + 9, none⟩ (.bool x.att.lock)).setCell ⟨g', j * 14 + 10, none⟩ (.bool x.att.global)).setCell ⟨g', j * 14 + 11, none⟩ (.bool x.att.quiet)).setCell ⟨g', j * 14 + 12, none⟩ (.bool x.ref)).setCell ⟨g', j * 14 + 13, none⟩ (.bool x.mod)).tape = w.tape ∧ (((((((((((w.setCell ⟨g', j * 14 + 3, none⟩ (.int .u64 x.va)).setCell ⟨g', j * 14 + 4, none⟩ (.int .i64 x.sz)).setCell ⟨g', j * 14 + 5, none⟩ (.int .u64 x.pa)).setCell ⟨g', j * 14 + 6, none⟩ (.bool x.att.write)).setCell ⟨g', j * 14 + 7, none⟩ (.bool x.att.priv)).setCell ⟨g', j * 14 + 8, none⟩ (.bool x.att.exec)).setCell ⟨g', j * 14 + 9, none⟩ (.bool x.att.lock)).setCell ⟨g', j * 14 + 10, none⟩ (.bool x.att.global)).setCell ⟨g', j * 14 + 11, none⟩ (.bool x.att.quiet)).setCell ⟨g', j * 14 + 12, none⟩ (.bool x.ref)).setCell ⟨g', j * 14 + 13, none⟩ (.bool x.mod)).output = w.output := by
      refine ⟨?_, ?_, ?_⟩
      · rw [(setCell_os _ _ _).1, (setCell_os _ _ _).1, (setCell_os _ _ _).1, (setCell_os _ _ _).1, (setCell_os _ _ _).1, (setCell_os _ _ _).1, (setCell_os _ _ _).1, (setCell_os _ _ _).1, (setCell_os _ _ _).1, (setCell_os _ _ _).1, (setCell_os _ _ _).1]
      · rw [(setCell_os _ _ _).2.1, (setCell_os _ _ _).2.1, (setCell_os _ _ _).2.1, (setCell_os _ _ _).2.1, (setCell_os _ _ _).2.1, (setCell_os _ _ _).2.1, (setCell_os _ _ _).2.1, (setCell_os _ _ _).2.1, (setCell_os _ _ _).2.1, (setCell_os _ _ _).2.1, (setCell_os _ _ _).2.1]
      · rw [(setCell_os _ _ _).2.2, (setCell_os _ _ _).2.2, (setCell_os _ _ _).2.2, (setCell_os _ _ _).2.2, (setCell_os _ _ _).2.2, (setCell_os _ _ _).2.2, (setCell_os _ _ _).2.2, (setCell_os _ _ _).2.2, (setCell_os _ _ _).2.2, (setCell_os _ _ _).2.2, (setCell_os _ _ _).2.2]
    generalize (((((((((((w.setCell ⟨g', j * 14 + 3, none⟩ (.int .u64 x.va)).setCell ⟨g', j * 14 + 4, none⟩ (.int .i64 x.sz)).setCell ⟨g', j * 14 + 5, none⟩ (.int .u64 x.pa)).setCell ⟨g', j * 14 + 6, none⟩ (.bool x.att.write)).setCell ⟨g', j * 14 + 7, none⟩ (.bool x.att.priv)).setCell ⟨g', j * 14 + 8, none⟩ (.bool x.att.exec)).setCell ⟨g', j * 14 + 9, none⟩ (.bool x.att.lock)).setCell ⟨g', j * 14 + 10, none⟩ (.bool x.att.global)).setCell ⟨g', j * 14 + 11, none⟩ (.bool x.att.quiet)).setCell ⟨g', j * 14 + 12, none⟩ (.bool x.ref)).setCell ⟨g', j * 14 + 13, none⟩ (.bool x.mod)) = W at *
    generalize (((((((((((cur.setIfInBounds (j * 14 + 3) (.int .u64 x.va)).setIfInBounds (j * 14 + 4) (.int .i64 x.sz)).setIfInBounds (j * 14 + 5) (.int .u64 x.pa)).setIfInBounds (j * 14 + 6) (.bool x.att.write)).setIfInBounds (j * 14 + 7) (.bool x.att.priv)).setIfInBounds (j * 14 + 8) (.bool x.att.exec)).setIfInBounds (j * 14 + 9) (.bool x.att.lock)).setIfInBounds (j * 14 + 10) (.bool x.att.global)).setIfInBounds (j * 14 + 11) (.bool x.att.quiet)).setIfInBounds (j * 14 + 12) (.bool x.ref)).setIfInBounds (j * 14 + 13) (.bool x.mod)) = C at *
    exact ⟨⟨by rw [bkL_length], .inr ⟨g', cap, C, by rw [List.length_set], hb, h10, by rw [List.length_set]; exact hnc, hcm, hsz, by rw [List.length_set]; exact htk⟩⟩, ⟨hos.1, hos.2.1, hos.2.2, Nat.le_of_eq hz.symm, fun k hk hne => hf k (fun e => hne (by rw [e]))⟩⟩
theorem set_any {sb n : Nat} {bl : Int} {L : Nat → List Bk} {O : Nat → Prop} (k : Ky) (hk : k.wf) (v : Pg) (w : World) (h : Tab w sb O n bl L) :
    Calls Tryz.prog 91 #[.pointer (some ⟨sb, 0, none⟩), .agg #[.int .i64 k.sp, .int .u64 k.va, .int .i64 k.sz], .agg #[.int .u64 v.va, .int .i64 v.sz, .int .u64 v.pa, .bool v.att.write, .bool v.att.priv, .bool v.att.exec, .bool v.att.lock, .bool v.att.global, .bool v.att.quiet, .bool v.ref, .bool v.mod]] w fun e w' => e = .returned (.int .i64 (setE n L k)) ∧ TabTo w w' sb O n bl (setT n L k v) := by
  have hT := h
  obtain ⟨bm, V, h, hO⟩ := h
  have hn := h.n0
  have hgd := h.good
  have hcn := chN_lt k hn
  have hgb := getB_iff hn hgd k
  have F := (FK.new h k).call ((Below.refl _ _).alloc (Nat.le_refl _) (.cells #[.int .u64 v.va, .int .i64 v.sz, .int .u64 v.pa, .bool v.att.write, .bool v.att.priv, .bool v.att.exec, .bool v.att.lock, .bool v.att.global, .bool v.att.quiet, .bool v.ref, .bool v.mod] 38))
  have B1 : Below w.heap.size w ((w.alloc (.cells #[.int .i64 k.sp, .int .u64 k.va, .int .i64 k.sz] 89)).alloc (.cells #[.int .u64 v.va, .int .i64 v.sz, .int .u64 v.pa, .bool v.att.write, .bool v.att.priv, .bool v.att.exec, .bool v.att.lock, .bool v.att.global, .bool v.att.quiet, .bool v.ref, .bool v.mod] 38)) := by (repeat (first | (with_reducible assumption) | (with_reducible exact Below.refl _ _) | (with_reducible refine lo_step ?_ (by assumption)) | (with_reducible refine lo_drew ?_) | (with_reducible refine lo_drewN ?_ _) | (with_reducible refine lo_alloc ?_ _))) 
  have RV : RowP ((w.alloc (.cells #[.int .i64 k.sp, .int .u64 k.va, .int .i64 k.sz] 89)).alloc (.cells #[.int .u64 v.va, .int .i64 v.sz, .int .u64 v.pa, .bool v.att.write, .bool v.att.priv, .bool v.att.exec, .bool v.att.lock, .bool v.att.global, .bool v.att.quiet, .bool v.ref, .bool v.mod] 38)) (w.heap.size + 1) v := by have := RowP.new (w.alloc (.cells #[.int .i64 k.sp, .int .u64 k.va, .int .i64 k.sz] 89)) v; rwa [World.size_alloc] at this
  have CF := Lib.hid (fun w h => find_any (sb := sb) (bm := bm) (n := n) (bl := bl) (L := L) (V := V) k hk w h)
  obtain ⟨x0, x1, x2⟩ := F.cells
  go_enter Tryz.func91, Tryz.ntmps91
  go_wp2_with fail
  refine (CF.out _ F.tab).mono ?_; rintro e w2 ⟨rfl, hb2⟩
  have F2 := F.call hb2
  obtain ⟨z0, z1, z2, z3, z4, z5, z6, z7, z8, z9, z10⟩ := (RV.low hb2).cells
  have B2 := B1.trans (hb2.mono B1.size)
  clear F hb2 CF B1 x0 x1 x2
  have ho := F2.tab.rows _ hcn
  cases hh : hasB (L (chN k n)) k
  · have e1 := Lib.hid (show setE n L k = 10 by unfold setE; rw [hgb, hh]; rfl)
    have e2 := Lib.hid (show setT n L k v = L by unfold setT; rw [hgb, hh]; rfl)
    rw [place_no hh]
    clear hh hgb
    go_wp2_with fail
    go_ret
    exact ⟨ret_int e1.out.symm, by rw [e2.out]; exact TabTo.low hT B2⟩
  · have hok := here_ok hgd hcn hh
    have hlt := has_lt hh
    have hkey := pos_key hh
    have e1 := Lib.hid (show setE n L k = 0 by unfold setE; rw [hgb, hh]; rfl)
    have e2 := Lib.hid (show setT n L k v = setL L (chN k n) ((L (chN k n)).set (posN (L (chN k n)) k) ⟨k, v⟩) by unfold setT; rw [hgb, hh, chN_ok hok]; rfl)
    rw [place_yes hh]
    have hle := bk_few F2.tab hcn
    rcases own_form ho with ⟨hv, h0⟩ | ⟨g, cap, hv, hgb2, hnc, hcm⟩
    · omega
    · obtain ⟨y0, y1, y2, y3, y4, y5, y6, y7, y8, y9, y10, y11, y12, y13⟩ := own_rowC ho hgb2 hlt
      have hfz : ∀ i, w2.frozen? ⟨g, i, none⟩ = false := fun i => own_frozen ho hgb2 i
      obtain ⟨hown, hgr⟩ := own_thing ho hgb2 hlt v
      rw [hkey] at hown
      have T2 := F2.tab
      have hfin : TabTo w (((((((((((w2.setCell ⟨g, posN (L (chN k n)) k * 14 + 3, none⟩ (.int .u64 v.va)).setCell ⟨g, posN (L (chN k n)) k * 14 + 4, none⟩ (.int .i64 v.sz)).setCell ⟨g, posN (L (chN k n)) k * 14 + 5, none⟩ (.int .u64 v.pa)).setCell ⟨g, posN (L (chN k n)) k * 14 + 6, none⟩ (.bool v.att.write)).setCell ⟨g, posN (L (chN k n)) k * 14 + 7, none⟩ (.bool v.att.priv)).setCell ⟨g, posN (L (chN k n)) k * 14 + 8, none⟩ (.bool v.att.exec)).setCell ⟨g, posN (L (chN k n)) k * 14 + 9, none⟩ (.bool v.att.lock)).setCell ⟨g, posN (L (chN k n)) k * 14 + 10, none⟩ (.bool v.att.global)).setCell ⟨g, posN (L (chN k n)) k * 14 + 11, none⟩ (.bool v.att.quiet)).setCell ⟨g, posN (L (chN k n)) k * 14 + 12, none⟩ (.bool v.ref)).setCell ⟨g, posN (L (chN k n)) k * 14 + 13, none⟩ (.bool v.mod)) sb O n bl (setL L (chN k n) ((L (chN k n)).set (posN (L (chN k n)) k) ⟨k, v⟩)) := by
        have hsame : setV V (chN k n) (V (chN k n)) = V := by funext i; unfold setV; split <;> simp_all
        have hlen : lenL (setL L (chN k n) ((L (chN k n)).set (posN (L (chN k n)) k) ⟨k, v⟩)) n = lenL L n := by
          have := len_set L (chN k n) ((L (chN k n)).set (posN (L (chN k n)) k) ⟨k, v⟩) hcn
          simp at this; omega
        obtain ⟨n1, n2⟩ := T2.row_ne hcn hgb2
        have T11 : ∀ {w' : World}, w2.grownBy w' (some g) → Turn w w' O := fun hg => (Turn.low O B2).grown hg (fun k hk => by obtain rfl := Option.some.inj hk; exact .inl ((hO _).2 (.inr (.inr ⟨_, hcn, hgb2⟩))))
        refine TabAt.turned (v' := V (chN k n)) hO hcn w ?_ (fun g hg => .inl hg) (T11 hgr)
        refine T2.build hcn ?_ ?_ hown (fun e => ?_) (fun k h1 h2 h3 h4 => hgr.block k (T2.lt h1) (fun e => h4 (by rw [hgb2, e]))) (fun g hg => .inl hg) ?_ (by rw [hlen]; exact T2.few)
        · rw [hlen]; exact (hgr.block sb (T2.lt (.inl rfl)) (fun e => n1 (Option.some.inj e).symm)).trans T2.row
        · rw [hsame]; exact map_same T2.map (hgr.block bm (T2.lt (.inr (.inl rfl))) (fun e => n2 (Option.some.inj e).symm))
        · have := congrArg List.length e; simp at this; rw [this] at hlt; exact absurd hlt (Nat.not_lt_zero _)
        · intro b hb
          rcases mem_set hb with rfl | hb
          · exact hok
          · exact hgd _ hcn b hb
      rw [← e2.out] at hfin
      have HF := Lib.hid hfin
      rw [hv]
      clear e2 hfin hgd hT
      clear ho F2 T2 hown hgr hgb hh hkey
      generalize posN (L (chN k n)) k = j at *
      generalize L (chN k n) = l at *
      have hlt' : (j : Int) < (l.length : Int) := by omega
      have hj0 : ¬ (j : Int) < 0 := by omega
      go_wp2_with fail
      go_ret
      exact ⟨ret_int e1.out.symm, HF.out⟩
end Go.Proofs.YtffpfceclhogoaaGreat.Hp
namespace Go.Proofs.YtffpfceclhogoaaGreat.Hp
open Fld Hs
open Go.ChangeShapes Go.WideShapes Go.ChangeAt Go.RowKit Go.Maps
set_option maxHeartbeats 1000000
set_option maxRecDepth 100000
theorem FK.four {w : World} {sb bm n : Nat} {bl : Int} {L : Nat → List Bk} {V : Nat → Value} {hs : Nat} {k : Ky} (h : FK w sb bm n bl L V hs k) : w.cell? ⟨sb, 2, none⟩ = some (.int .i64 (n : Int)) ∧ w.cell? ⟨sb, 3, none⟩ = some (.map (some bm)) ∧ w.cell? ⟨hs, 0, none⟩ = some (.int .i64 k.sp) ∧ w.cell? ⟨hs, 1, none⟩ = some (.int .u64 k.va) ∧ w.cell? ⟨hs, 2, none⟩ = some (.int .i64 k.sz) := by
  obtain ⟨_, _, a, b, _⟩ := h.tab.cells
  obtain ⟨d, e, f⟩ := h.cells
  exact ⟨a, b, d, e, f⟩
theorem delete_any (l : List Bk) (i : Nat) (hi : i < l.length) (g cap : Nat) (w : World) (h : w.ownsRow 0 133 14 (.slice (some ⟨g, 0, none⟩) l.length cap) l.length (bkL l)) :
    Calls Tryz.prog 105 #[.slice (some ⟨g, 0, none⟩) l.length cap, .int .i64 (i : Int), .int .i64 ((i : Int) + 1)] w fun e w' =>
      e = .returned (.slice (some ⟨g, 0, none⟩) (l.length - 1) cap) ∧ w'.ownsRow 0 133 14 (.slice (some ⟨g, 0, none⟩) (l.length - 1) cap) (l.eraseIdx i).length (bkL (l.eraseIdx i)) ∧ w.grownBy w' (some g) := by
  rcases h.2 with ⟨hv, _⟩ | ⟨g', cap', cur, hv, _, hg, hnc, hcm, hcs, htake⟩
  · cases hv
  · have hv' : g = g' ∧ cap = cap' := by injection hv with h1 h2 h3; injection h1 with h1; injection h1 with h1 _ _; exact ⟨h1, h3⟩
    obtain ⟨rfl, rfl⟩ := hv'
    obtain ⟨m, hm⟩ : ∃ m, l.length = m + 1 := ⟨l.length - 1, by omega⟩
    have e := List.length_eraseIdx_of_lt hi
    rw [e, hm, Nat.add_sub_cancel]
    rw [hm] at hi hnc htake
    exact delete_at l i m hm hi g cap cur w hg hcs hnc hcm htake
theorem cut_any {sb n : Nat} {bl : Int} {L : Nat → List Bk} {O : Nat → Prop} (k : Ky) (hk : k.wf) (w : World) (h : Tab w sb O n bl L) :
    Calls Tryz.prog 73 #[.pointer (some ⟨sb, 0, none⟩), .agg #[.int .i64 k.sp, .int .u64 k.va, .int .i64 k.sz]] w fun e w' => e = .returned (.int .i64 (setE n L k)) ∧ TabTo w w' sb O n bl (cutT n L k) := by
  have hT := h
  obtain ⟨bm, V, h, hO⟩ := h
  have hn := h.n0
  have hn1 := h.n1
  have hgd := h.good
  have hcn := chN_lt k hn
  have hgb := getB_iff hn hgd k
  have F := FK.new h k
  have B1 : Below w.heap.size w (w.alloc (.cells #[.int .i64 k.sp, .int .u64 k.va, .int .i64 k.sz] 89)) := (Below.refl _ _).alloc (Nat.le_refl _) _
  have CF := Lib.hid (fun w h => find_any (sb := sb) (bm := bm) (n := n) (bl := bl) (L := L) (V := V) k hk w h)
  have CC := Lib.hid (fun w => chain_any k hk n hn hn1 w)
  rw [chI_nat k hn] at CC
  obtain ⟨x0, x1, x2⟩ := F.cells
  go_enter Tryz.func73, Tryz.ntmps73
  go_wp2_with fail
  refine (CF.out _ F.tab).mono ?_; rintro e w2 ⟨rfl, hb2⟩
  have F2 := F.call hb2
  have B2 := B1.trans (hb2.mono B1.size)
  clear F hb2 CF B1 x0 x1 x2
  cases hh : hasB (L (chN k n)) k
  · have e1 := Lib.hid (show setE n L k = 10 by unfold setE; rw [hgb, hh]; rfl)
    have e2 := Lib.hid (show cutT n L k = L by unfold cutT; rw [hgb, hh]; rfl)
    rw [place_no hh]
    clear hh hgb
    go_wp2_with fail
    go_ret
    exact ⟨ret_int e1.out.symm, by rw [e2.out]; exact TabTo.low hT B2⟩
  · have hok := here_ok hgd hcn hh
    have hlt := has_lt hh
    have e1 := Lib.hid (show setE n L k = 0 by unfold setE; rw [hgb, hh]; rfl)
    have e2 := Lib.hid (show cutT n L k = setL L (chN k n) ((L (chN k n)).eraseIdx (posN (L (chN k n)) k)) by unfold cutT; rw [hgb, hh, chN_ok hok]; rfl)
    rw [place_yes hh]
    clear hh hgb hok hT
    have hj0 : ¬ (posN (L (chN k n)) k : Int) < 0 := by omega
    go_wp2_with fail
    have fa := F2.four
    go_region_held3 (fun w1 => w1.cell? ⟨sb, 2, none⟩ = some (.int .i64 (n : Int)) ∧ w1.cell? ⟨sb, 3, none⟩ = some (.map (some bm)) ∧ w1.cell? ⟨w.heap.size, 0, none⟩ = some (.int .i64 k.sp) ∧ w1.cell? ⟨w.heap.size, 1, none⟩ = some (.int .u64 k.va) ∧ w1.cell? ⟨w.heap.size, 2, none⟩ = some (.int .i64 k.sz))
      ((refine FK.four (L := L) (bl := bl) (V := V) ?_; repeat (first | assumption | (refine FK.drew ?_))))
      (first | (go_at_call 98; (with_reducible refine (CC.out _).mono ?_); rintro e w3 ⟨rfl, hb3⟩; have F3 := F2.drew.call hb3))
    have B3 : Below w.heap.size w w3 := B2.trans ((below_undrew hb3).mono B2.size)
    clear fa CC hb3 F2 B2
    have T3 := F3.tab
    have ho := T3.rows _ hcn
    have hle := bk_few T3 hcn
    have hlen := len_set L (chN k n) ((L (chN k n)).eraseIdx (posN (L (chN k n)) k)) hcn
    rw [List.length_eraseIdx_of_lt hlt] at hlen
    have hone := len_one L hcn
    have hfew := T3.few
    have hb1 := T3.b1
    obtain ⟨c0, c1, c2, c3, fr⟩ := T3.cells
    rcases own_form ho with ⟨hv, h0⟩ | ⟨g, cap, hv, hgb2, hnc, hcm⟩
    · omega
    · have htk : (lenL (setL L (chN k n) ((L (chN k n)).eraseIdx (posN (L (chN k n)) k))) n : Int) = (lenL L n : Int) - 1 := by omega
      have hbm := T3.bm_ne
      have HO := (hO bm).2 (.inr (.inl rfl))
      have HS := (hO sb).2 (.inl rfl)
      have hfr1 : ∀ i, w3.frozen? ⟨sb, i, none⟩ = false := fr
      by_cases hl1 : (L (chN k n)).length = 1
      · obtain ⟨w4, hr4, hm4, hg4⟩ := map_drop T3.map hcn hn1 0
        have hl2 : (L (chN k n)).eraseIdx (posN (L (chN k n)) k) = [] := List.eq_nil_of_length_eq_zero (by rw [List.length_eraseIdx_of_lt hlt]; omega)
        have hsb := hg4.block sb (T3.lt (.inl rfl)) (fun e => hbm (Option.some.inj e).symm)
        have q0 := (World.cell?_of_block (a := ⟨sb, 1, none⟩) hsb).trans c1
        have q1 := (World.frozen?_of_block (a := ⟨sb, 1, none⟩) hsb).trans (fr 1)
        have hfin : TabTo w (w4.setCell ⟨sb, 1, none⟩ (.int .i64 ((lenL L n : Int) - 1))) sb O n bl (cutT n L k) := by
          rw [e2.out, hl2]
          rw [hl2] at htk
          refine TabAt.turned (v' := nilS) hO hcn w ?_ (fun g hg => by cases hg) (((Turn.low O B3).grown hg4 (fun j hj => .inl (by cases hj; exact HO))).setCell _ (.inl HS) _)
          exact T3.close hcn htk hsb hm4 (World.ownsRow_nil w4 0 _ 14) (fun _ => rfl) (fun k h1 h2 h3 h4 => hg4.block k (T3.lt h1) (fun e => h3 (Option.some.inj e))) (fun g hg => by cases hg) (fun b hb => by cases hb) (by omega)
        have HF := Lib.hid hfin
        rw [hv, hl1]
        clear hfin hg4 hm4 hfr1 ho T3 e2 hlen htk hl2 hsb h hgd
        go_wp2_with fail
        go_ret
        exact ⟨ret_int e1.out.symm, HF.out⟩
      · rw [hv]
        rw [hv] at ho
        have CD := Lib.hid (delete_any (L (chN k n)) (posN (L (chN k n)) k) hlt g cap w3.drew (show w3.drew.ownsRow _ _ _ _ _ _ from ho))
        have hwj : IntKind.i64.wrap ((posN (L (chN k n)) k : Int) + 1) = (posN (L (chN k n)) k : Int) + 1 := by rw [IntKind.wrap_i64]; omega
        obtain ⟨n1, n2⟩ := T3.row_ne hcn hgb2
        have MS := Lib.hid (fun (w4 : World) (hg4 : w3.drew.grownBy w4 (some g)) => map_store (W := w4) (bm := bm) (n := n) (V := V) (by
          obtain ⟨D, ho, hm⟩ := map_same T3.map (hg4.block bm (T3.lt (.inr (.inl rfl))) (fun e => n2 (Option.some.inj e).symm))
          exact ⟨D, ho, hm, T3.msize (show Owns w3 bm (Maps.size D) D from by
            obtain ⟨es, clock, h1, h2⟩ := ho
            exact ⟨es, clock, (hg4.block bm (T3.lt (.inr (.inl rfl))) (fun e => n2 (Option.some.inj e).symm)).symm.trans h1, h2⟩) hm⟩) hcn hn1 (v := .slice (some ⟨g, 0, none⟩) ((L (chN k n)).length - 1) cap) (fun e => by cases e) rfl)
        go_wp2_with fail
        have QS := Lib.hid (fun (w4 : World) (hg4 : w3.drew.grownBy w4 (some g)) => (World.cell?_of_block (a := ⟨sb, 3, none⟩) (hg4.block sb (T3.lt (.inl rfl)) (fun e => n1 (Option.some.inj e).symm))).trans (show w3.drew.cell? ⟨sb, 3, none⟩ = _ from c3))
        go_region_held3 (fun w1 => w1.cell? ⟨sb, 3, none⟩ = some (.map (some bm))) (first | assumption | exact c3)
          (first | (go_at_call 105; (with_reducible refine CD.out.mono ?_); rintro e w4 ⟨rfl, ho4, hg4⟩; have q3 := QS.out w4 hg4; obtain ⟨w5, hst, hm5, hg5⟩ := MS.out w4 hg4; have q5 := (World.cell?_of_block (a := ⟨sb, 3, none⟩) (hg5.block sb (Nat.lt_of_lt_of_le (T3.lt (.inl rfl)) hg4.size) (fun e => hbm (Option.some.inj e).symm))).trans q3))
        have hsb := (hg5.block sb (Nat.lt_of_lt_of_le (T3.lt (.inl rfl)) hg4.size) (fun e => hbm (Option.some.inj e).symm)).trans (hg4.block sb (T3.lt (.inl rfl)) (fun e => n1 (Option.some.inj e).symm))
        have q0 := (World.cell?_of_block (a := ⟨sb, 1, none⟩) hsb).trans c1
        have q1 := (World.frozen?_of_block (a := ⟨sb, 1, none⟩) hsb).trans (fr 1)
        have hfin : TabTo w (w5.setCell ⟨sb, 1, none⟩ (.int .i64 ((lenL L n : Int) - 1))) sb O n bl (cutT n L k) := by
          rw [e2.out]
          have hfre : ∀ q, (Value.slice (some ⟨g, 0, none⟩) ((L (chN k n)).length - 1) cap).ownBlock = some q → (V (chN k n)).ownBlock = some q := fun q hq => by
            rw [hgb2]; exact hq
          have T4 : Turn w w4 O := ((Turn.low O B3).drew).grown hg4 (fun j hj => .inl (by cases hj; exact (hO g).2 (.inr (.inr ⟨_, hcn, hgb2⟩))))
          refine TabAt.turned (v' := .slice (some ⟨g, 0, none⟩) ((L (chN k n)).length - 1) cap) hO hcn w ?_ (fun q hq => .inl (hfre q hq)) ((T4.grown hg5 (fun j hj => .inl (by cases hj; exact HO))).setCell _ (.inl HS) _)
          refine T3.close hcn htk hsb hm5 (own_same ho4 (fun q hq => hg5.block q (by obtain ⟨cur, hc⟩ := own_obj ho4 hq; exact (Array.getElem?_eq_some_iff.1 hc).1) (fun e => by have := Option.some.inj e; subst this; exact n2 (Option.some.inj (hgb2.symm.trans (hfre _ hq)))))) (fun e => ?_) (fun q h1 h2 h3 h4 => (hg5.block q (Nat.lt_of_lt_of_le (T3.lt h1) hg4.size) (fun e => h3 (Option.some.inj e))).trans (hg4.block q (T3.lt h1) (fun e => h4 (by rw [hgb2, e])))) (fun q hq => .inl (hfre q hq)) (fun b hb => hgd _ hcn b (List.mem_of_mem_eraseIdx hb)) (by omega)
          have := congrArg List.length e
          rw [List.length_eraseIdx_of_lt hlt] at this
          simp at this; omega
        have HF := Lib.hid hfin
        clear hfin hg4 hm5 hg5 hst hfr1 ho T3 e2 hlen htk hsb h hgd ho4
        go_wp2_with fail
        go_ret
        exact ⟨ret_int e1.out.symm, HF.out⟩
end Go.Proofs.YtffpfceclhogoaaGreat.Hp
namespace Go.Proofs.YtffpfceclhogoaaGreat.Hp
open Fld Hs
open Go.ChangeShapes Go.WideShapes Go.ChangeAt Go.RowKit Go.Maps
set_option maxHeartbeats 1000000
set_option maxRecDepth 100000
section
variable {u w : World} {sb bm n : Nat} {bl : Int} {L : Nat → List Bk} {V : Nat → Value} {hs : Nat} {k : Ky} {v : Pg}
/-- Since u nothing but what is new. -/
structure PK (u w : World) (sb bm n : Nat) (bl : Int) (L : Nat → List Bk) (V : Nat → Value) (hs : Nat) (k : Ky) (v : Pg) : Prop where
  fk : FK w sb bm n bl L V hs k
  lo : Below u.heap.size u w
  pv : RowP w (hs + 1) v
/-- .. and a block in a box. -/
structure FB (u w : World) (sb bm n : Nat) (bl : Int) (L : Nat → List Bk) (V : Nat → Value) (hs : Nat) (k : Ky) (v : Pg) (b : Bk) (vb : Nat) : Prop where
  pk : PK u w sb bm n bl L V hs k v
  bx : w.heap[vb]? = some (.cells #[.int .i64 b.k.sp, .int .u64 b.k.va, .int .i64 b.k.sz, .int .u64 b.v.va, .int .i64 b.v.sz, .int .u64 b.v.pa, .bool b.v.att.write, .bool b.v.att.priv, .bool b.v.att.exec, .bool b.v.att.lock, .bool b.v.att.global, .bool b.v.att.quiet, .bool b.v.ref, .bool b.v.mod] 133 (0, 0))
  ne : u.heap.size ≤ vb
/-- The row c has the block b in front. -/
structure PA (u w : World) (sb bm n : Nat) (bl : Int) (L : Nat → List Bk) (V : Nat → Value) (hs : Nat) (k : Ky) (v : Pg) (b : Bk) (c g cap : Nat) : Prop where
  row : w.heap[sb]? = some (.cells #[.int .i64 bl, .int .i64 (lenL L n : Int), .int .i64 (n : Int), .map (some bm)] 110 (0, 0))
  box : w.heap[hs]? = some (.cells #[.int .i64 k.sp, .int .u64 k.va, .int .i64 k.sz] 89 (0, 0))
  map : ∃ D, Owns w bm (Maps.size D) D ∧ MapIs D n V ∧ Maps.size D ≤ 1073741824
  own : w.ownsRow 0 133 14 (.slice (some ⟨g, 0, none⟩) ((L c).length + 1) cap) ((L c).length + 1) (bkL (b :: L c))
  pv : RowP w (hs + 1) v
  grown : u.grownBy w (V c).ownBlock
  fresh : (V c).ownBlock = some g ∨ u.heap.size ≤ g
theorem PK.call {w' : World} (h : PK u w sb bm n bl L V hs k v) (hb : Below w.heap.size w w') : PK u w' sb bm n bl L V hs k v := ⟨h.fk.call hb, h.lo.trans (hb.mono h.lo.size), h.pv.low hb⟩
theorem PK.five (h : PK u w sb bm n bl L V hs k v) : w.cell? ⟨sb, 2, none⟩ = some (.int .i64 (n : Int)) ∧ w.cell? ⟨sb, 3, none⟩ = some (.map (some bm)) ∧ w.cell? ⟨hs, 0, none⟩ = some (.int .i64 k.sp) ∧ w.cell? ⟨hs, 1, none⟩ = some (.int .u64 k.va) ∧ w.cell? ⟨hs, 2, none⟩ = some (.int .i64 k.sz) ∧ w.cell? ⟨(hs + 1), 0, none⟩ = some (.int .u64 v.va) ∧ w.cell? ⟨(hs + 1), 1, none⟩ = some (.int .i64 v.sz) ∧ w.cell? ⟨(hs + 1), 2, none⟩ = some (.int .u64 v.pa) ∧ w.cell? ⟨(hs + 1), 3, none⟩ = some (.bool v.att.write) ∧ w.cell? ⟨(hs + 1), 4, none⟩ = some (.bool v.att.priv) ∧ w.cell? ⟨(hs + 1), 5, none⟩ = some (.bool v.att.exec) ∧ w.cell? ⟨(hs + 1), 6, none⟩ = some (.bool v.att.lock) ∧ w.cell? ⟨(hs + 1), 7, none⟩ = some (.bool v.att.global) ∧ w.cell? ⟨(hs + 1), 8, none⟩ = some (.bool v.att.quiet) ∧ w.cell? ⟨(hs + 1), 9, none⟩ = some (.bool v.ref) ∧ w.cell? ⟨(hs + 1), 10, none⟩ = some (.bool v.mod) := by
  obtain ⟨a, b, c, d, e⟩ := h.fk.four
  exact ⟨a, b, c, d, e, h.pv.cells⟩
theorem FB.new (h : PK u w sb bm n bl L V hs k v) (b : Bk) : FB u (w.alloc (.cells #[.int .i64 b.k.sp, .int .u64 b.k.va, .int .i64 b.k.sz, .int .u64 b.v.va, .int .i64 b.v.sz, .int .u64 b.v.pa, .bool b.v.att.write, .bool b.v.att.priv, .bool b.v.att.exec, .bool b.v.att.lock, .bool b.v.att.global, .bool b.v.att.quiet, .bool b.v.ref, .bool b.v.mod] 133)) sb bm n bl L V hs k v b w.heap.size :=
  ⟨h.call ((Below.refl _ _).alloc (Nat.le_refl _) _), heap_alloc_new w _, h.lo.size⟩
theorem FB.call {w' : World} {b : Bk} {vb : Nat} (h : FB u w sb bm n bl L V hs k v b vb) (hb : Below w.heap.size w w') : FB u w' sb bm n bl L V hs k v b vb :=
  ⟨h.pk.call hb, (hb.block _ (Array.getElem?_eq_some_iff.1 h.bx).1).trans h.bx, h.ne⟩
theorem PA.call {w' : World} {b : Bk} {c g cap : Nat} (h : PA u w sb bm n bl L V hs k v b c g cap) (hb : Below w.heap.size w w') : PA u w' sb bm n bl L V hs k v b c g cap := by
  obtain ⟨D, ho, hm, hs'⟩ := h.map
  refine ⟨(hb.block _ (Array.getElem?_eq_some_iff.1 h.row).1).trans h.row, (hb.block _ (Array.getElem?_eq_some_iff.1 h.box).1).trans h.box, ?_, own_same h.own (fun q hq => ?_), h.pv.low hb, ⟨hb.os.trans h.grown.os, hb.tape.trans h.grown.tape, hb.output.trans h.grown.output, Nat.le_trans h.grown.size hb.size, fun q hq hne => (hb.block q (Nat.lt_of_lt_of_le hq h.grown.size)).trans (h.grown.block q hq hne)⟩, h.fresh⟩
  · obtain ⟨es, clock, h1, h2⟩ := ho
    exact ⟨D, ⟨es, clock, (hb.block _ (Array.getElem?_eq_some_iff.1 h1).1).trans h1, h2⟩, hm, hs'⟩
  · obtain ⟨cur, hc⟩ := own_obj h.own hq
    exact hb.block q (Array.getElem?_eq_some_iff.1 hc).1
theorem PA.five {b : Bk} {c g cap : Nat} (h : PA u w sb bm n bl L V hs k v b c g cap) : w.cell? ⟨sb, 2, none⟩ = some (.int .i64 (n : Int)) ∧ w.cell? ⟨sb, 3, none⟩ = some (.map (some bm)) ∧ w.cell? ⟨hs, 0, none⟩ = some (.int .i64 k.sp) ∧ w.cell? ⟨hs, 1, none⟩ = some (.int .u64 k.va) ∧ w.cell? ⟨hs, 2, none⟩ = some (.int .i64 k.sz) ∧ w.cell? ⟨(hs + 1), 0, none⟩ = some (.int .u64 v.va) ∧ w.cell? ⟨(hs + 1), 1, none⟩ = some (.int .i64 v.sz) ∧ w.cell? ⟨(hs + 1), 2, none⟩ = some (.int .u64 v.pa) ∧ w.cell? ⟨(hs + 1), 3, none⟩ = some (.bool v.att.write) ∧ w.cell? ⟨(hs + 1), 4, none⟩ = some (.bool v.att.priv) ∧ w.cell? ⟨(hs + 1), 5, none⟩ = some (.bool v.att.exec) ∧ w.cell? ⟨(hs + 1), 6, none⟩ = some (.bool v.att.lock) ∧ w.cell? ⟨(hs + 1), 7, none⟩ = some (.bool v.att.global) ∧ w.cell? ⟨(hs + 1), 8, none⟩ = some (.bool v.att.quiet) ∧ w.cell? ⟨(hs + 1), 9, none⟩ = some (.bool v.ref) ∧ w.cell? ⟨(hs + 1), 10, none⟩ = some (.bool v.mod) := by
  have h1 := h.row; have h2 := h.box
  exact ⟨by simp [World.cell?, h1], by simp [World.cell?, h1], by simp [World.cell?, h2], by simp [World.cell?, h2], by simp [World.cell?, h2], h.pv.cells⟩
/-- .. and the map tells of it. -/
structure PZ (u w : World) (sb bm n : Nat) (bl : Int) (L : Nat → List Bk) (V : Nat → Value) (hs : Nat) (k : Ky) (v : Pg) (b : Bk) (c g cap : Nat) : Prop where
  row : w.heap[sb]? = some (.cells #[.int .i64 bl, .int .i64 (lenL L n : Int), .int .i64 (n : Int), .map (some bm)] 110 (0, 0))
  box : w.heap[hs]? = some (.cells #[.int .i64 k.sp, .int .u64 k.va, .int .i64 k.sz] 89 (0, 0))
  map : ∃ D, Owns w bm (Maps.size D) D ∧ MapIs D n (setV V c (.slice (some ⟨g, 0, none⟩) ((L c).length + 1) cap))
  own : w.ownsRow 0 133 14 (.slice (some ⟨g, 0, none⟩) ((L c).length + 1) cap) ((L c).length + 1) (bkL (b :: L c))
  pv : RowP w (hs + 1) v
  os : w.os = u.os
  tape : w.tape = u.tape
  output : w.output = u.output
  size : u.heap.size ≤ w.heap.size
  block : ∀ q, q < u.heap.size → q ≠ bm → some q ≠ (V c).ownBlock → w.heap[q]? = u.heap[q]?
  fresh : (V c).ownBlock = some g ∨ u.heap.size ≤ g
theorem PZ.five {b : Bk} {c g cap : Nat} (h : PZ u w sb bm n bl L V hs k v b c g cap) : w.cell? ⟨sb, 2, none⟩ = some (.int .i64 (n : Int)) ∧ w.cell? ⟨sb, 3, none⟩ = some (.map (some bm)) ∧ w.cell? ⟨hs, 0, none⟩ = some (.int .i64 k.sp) ∧ w.cell? ⟨hs, 1, none⟩ = some (.int .u64 k.va) ∧ w.cell? ⟨hs, 2, none⟩ = some (.int .i64 k.sz) ∧ w.cell? ⟨(hs + 1), 0, none⟩ = some (.int .u64 v.va) ∧ w.cell? ⟨(hs + 1), 1, none⟩ = some (.int .i64 v.sz) ∧ w.cell? ⟨(hs + 1), 2, none⟩ = some (.int .u64 v.pa) ∧ w.cell? ⟨(hs + 1), 3, none⟩ = some (.bool v.att.write) ∧ w.cell? ⟨(hs + 1), 4, none⟩ = some (.bool v.att.priv) ∧ w.cell? ⟨(hs + 1), 5, none⟩ = some (.bool v.att.exec) ∧ w.cell? ⟨(hs + 1), 6, none⟩ = some (.bool v.att.lock) ∧ w.cell? ⟨(hs + 1), 7, none⟩ = some (.bool v.att.global) ∧ w.cell? ⟨(hs + 1), 8, none⟩ = some (.bool v.att.quiet) ∧ w.cell? ⟨(hs + 1), 9, none⟩ = some (.bool v.ref) ∧ w.cell? ⟨(hs + 1), 10, none⟩ = some (.bool v.mod) := by
  have h1 := h.row; have h2 := h.box
  exact ⟨by simp [World.cell?, h1], by simp [World.cell?, h1], by simp [World.cell?, h2], by simp [World.cell?, h2], by simp [World.cell?, h2], h.pv.cells⟩
theorem PA.store {b : Bk} {c g cap : Nat} (h : PA u w sb bm n bl L V hs k v b c g cap) (hc : c < n) (hn : n ≤ 9223372036854775807) (hu : TabAt u sb bm n bl L V) (hbs : bm ≠ hs) :
    ∃ W', (Instr.mapUpdate 108 (.map (some bm)) (.int .i64 (c : Int)) (.slice (some ⟨g, 0, none⟩) ((L c).length + 1) cap)).run Tryz.prog w = .ok () W' ∧ PZ u W' sb bm n bl L V hs k v b c g cap := by
  obtain ⟨W', hr, hm, hg⟩ := map_store h.map hc hn (v := .slice (some ⟨g, 0, none⟩) ((L c).length + 1) cap) (fun e => by cases e) rfl
  have hb := hu.bm_ne
  refine ⟨W', hr, (hg.block sb (Array.getElem?_eq_some_iff.1 h.row).1 (fun e => hb (Option.some.inj e).symm)).trans h.row, (hg.block hs (Array.getElem?_eq_some_iff.1 h.box).1 (fun e => hbs (Option.some.inj e).symm)).trans h.box, hm, own_same h.own (fun q hq => ?_), ⟨(hg.block (hs + 1) (Array.getElem?_eq_some_iff.1 h.pv.row).1 (fun e => by
    obtain ⟨D, ⟨es, clock, h1, _⟩, _⟩ := h.map
    have h2 := h.pv.row
    rw [Option.some.inj e, h1] at h2; cases h2)).trans h.pv.row⟩, hg.os.trans h.grown.os, hg.tape.trans h.grown.tape, hg.output.trans h.grown.output, Nat.le_trans h.grown.size hg.size, fun q hq h1 h2 => (hg.block q (Nat.lt_of_lt_of_le hq h.grown.size) (fun e => h1 (Option.some.inj e))).trans (h.grown.block q hq h2), h.fresh⟩
  obtain ⟨cur, hcq⟩ := own_obj h.own hq
  refine hg.block q (Array.getElem?_eq_some_iff.1 hcq).1 (fun e => ?_)
  obtain rfl := Option.some.inj e
  obtain ⟨D, ⟨es, clock, h1, _⟩, _⟩ := h.map
  rw [h1] at hcq; cases hcq
theorem FB.ins {b : Bk} {vb c : Nat} (h : FB u w sb bm n bl L V hs k v b vb) (hu : TabAt u sb bm n bl L V) (hc : c < n) (hne : ∀ i g, i < n → (V i).ownBlock = some g → g ≠ hs) :
    Calls Tryz.prog 97 #[V c, .int .i64 0, .slice (some ⟨vb, 0, none⟩) 1 1] w fun e w' =>
      ∃ g cap, e = .returned (.slice (some ⟨g, 0, none⟩) ((L c).length + 1) cap) ∧ PA u w' sb bm n bl L V hs k v b c g cap := by
  have T := h.pk.fk.tab
  refine (insert_any b vb (L c) (V c) w (T.rows c hc) (T.nil c hc) (bk_few T hc) h.bx (fun g hg => ?_)).mono ?_
  · have := hu.lt (.inr (.inr ⟨c, hc, hg⟩)); have := h.ne; omega
  · rintro e w' ⟨g, cap, rfl, ho, hg, hat⟩
    have hlo := h.pk.lo
    have n1 : ∀ q, (V c).ownBlock = some q → q ≠ sb ∧ q ≠ bm := fun q hq => T.row_ne hc hq
    refine ⟨g, cap, rfl, (hg.block sb (T.lt (.inl rfl)) (fun e => (n1 sb e.symm).1 rfl)).trans T.row, (hg.block hs h.pk.fk.lt (fun e => hne c hs hc e.symm rfl)).trans h.pk.fk.box, ?_, ho, ⟨(hg.block (hs + 1) (Array.getElem?_eq_some_iff.1 h.pk.pv.row).1 (fun e => by
      obtain ⟨cur, hc⟩ := own_obj (T.rows c hc) e.symm
      have h2 := h.pk.pv.row
      rw [hc] at h2; injection h2 with h2; injection h2 with _ h2 _; exact absurd h2 (by decide))).trans h.pk.pv.row⟩, ⟨hg.os.trans hlo.os, hg.tape.trans hlo.tape, hg.output.trans hlo.output, Nat.le_trans hlo.size hg.size, fun q hq hqne => (hg.block q (Nat.lt_of_lt_of_le hq hlo.size) hqne).trans (hlo.block q hq)⟩, hat.imp id (Nat.le_trans hlo.size)⟩
    obtain ⟨D, ⟨es, clock, h1, h2⟩, hm⟩ := T.map
    have hb := hg.block bm (T.lt (.inr (.inl rfl))) (fun e => (n1 bm e.symm).2 rfl)
    exact ⟨D, ⟨es, clock, hb.trans h1, h2⟩, hm, T.msize ⟨es, clock, h1, h2⟩ hm⟩
end
theorem put_any {sb n : Nat} {bl : Int} {L : Nat → List Bk} {O : Nat → Prop} (k : Ky) (hk : k.wf) (v : Pg) (w : World) (h : Tab w sb O n bl L) :
    Calls Tryz.prog 64 #[.pointer (some ⟨sb, 0, none⟩), .agg #[.int .i64 k.sp, .int .u64 k.va, .int .i64 k.sz], .agg #[.int .u64 v.va, .int .i64 v.sz, .int .u64 v.pa, .bool v.att.write, .bool v.att.priv, .bool v.att.exec, .bool v.att.lock, .bool v.att.global, .bool v.att.quiet, .bool v.ref, .bool v.mod]] w fun e w' => e = .returned (.int .i64 (putE bl n L k)) ∧ TabTo w w' sb O n bl (putT bl n L k v) := by
  have hT := h
  obtain ⟨bm, V, h, hO⟩ := h
  have hn := h.n0
  have hn1 := h.n1
  have hgd := h.good
  have hne : ∀ i g, i < n → (V i).ownBlock = some g → g ≠ w.heap.size := fun i g hi hg => by
    have := h.lt (.inr (.inr ⟨i, hi, hg⟩)); omega
  have hbs : bm ≠ w.heap.size := by have := h.lt (.inr (.inl rfl)); omega
  have F := (FK.new h k).call ((Below.refl _ _).alloc (Nat.le_refl _) (.cells #[.int .u64 v.va, .int .i64 v.sz, .int .u64 v.pa, .bool v.att.write, .bool v.att.priv, .bool v.att.exec, .bool v.att.lock, .bool v.att.global, .bool v.att.quiet, .bool v.ref, .bool v.mod] 38))
  have s2 : ((w.alloc (.cells #[.int .i64 k.sp, .int .u64 k.va, .int .i64 k.sz] 89)).alloc (.cells #[.int .u64 v.va, .int .i64 v.sz, .int .u64 v.pa, .bool v.att.write, .bool v.att.priv, .bool v.att.exec, .bool v.att.lock, .bool v.att.global, .bool v.att.quiet, .bool v.ref, .bool v.mod] 38)).heap.size = w.heap.size + 1 + 1 := by simp
  have B1 : Below w.heap.size w ((w.alloc (.cells #[.int .i64 k.sp, .int .u64 k.va, .int .i64 k.sz] 89)).alloc (.cells #[.int .u64 v.va, .int .i64 v.sz, .int .u64 v.pa, .bool v.att.write, .bool v.att.priv, .bool v.att.exec, .bool v.att.lock, .bool v.att.global, .bool v.att.quiet, .bool v.ref, .bool v.mod] 38)) := by (repeat (first | (with_reducible assumption) | (with_reducible exact Below.refl _ _) | (with_reducible refine lo_step ?_ (by assumption)) | (with_reducible refine lo_drew ?_) | (with_reducible refine lo_drewN ?_ _) | (with_reducible refine lo_alloc ?_ _))) 
  have RV : RowP ((w.alloc (.cells #[.int .i64 k.sp, .int .u64 k.va, .int .i64 k.sz] 89)).alloc (.cells #[.int .u64 v.va, .int .i64 v.sz, .int .u64 v.pa, .bool v.att.write, .bool v.att.priv, .bool v.att.exec, .bool v.att.lock, .bool v.att.global, .bool v.att.quiet, .bool v.ref, .bool v.mod] 38)) (w.heap.size + 1) v := by have := RowP.new (w.alloc (.cells #[.int .i64 k.sp, .int .u64 k.va, .int .i64 k.sz] 89)) v; rwa [World.size_alloc] at this
  obtain ⟨x0, x1, x2⟩ := F.cells
  cases hm : kmayB k
  · have e1 := Lib.hid (show putE bl n L k = 1 by unfold putE; rw [hm]; rfl)
    have e2 := Lib.hid (show putT bl n L k v = L by unfold putT putE; rw [hm]; rfl)
    clear h hgd
    go_enter Tryz.func64, Tryz.ntmps64
    go_wp2_with (first | (go_at_call 87; refine (kmay_any k hk _).mono ?_; rintro e w1 ⟨rfl, hb1⟩; rw [hm]))
    go_ret
    exact ⟨ret_int e1.out.symm, by rw [e2.out]; exact TabTo.low hT (B1.trans (hb1.mono B1.size))⟩
  · have hok := hk.ok hm
    have hcn := chain_lt k hn
    have CF := Lib.hid (fun w h => find_any (sb := sb) (bm := bm) (n := n) (bl := bl) (L := L) (V := V) k hk w h)
    rw [chN_ok hok] at CF
    go_enter Tryz.func64, Tryz.ntmps64
    go_wp2_with fail
    refine (kmay_any k hk _).mono ?_; rintro e w1 ⟨rfl, hb1⟩; rw [hm]
    have F1 := F.call hb1
    have RV1 := RV.low hb1
    have B2 := B1.trans (hb1.mono B1.size)
    obtain ⟨x0, x1, x2⟩ := F1.cells
    clear F B1 hb1 RV s2
    go_wp2_with fail
    refine (CF.out _ F1.tab).mono ?_; rintro e w2 ⟨rfl, hb2⟩
    have F2 := F1.call hb2
    have RV2 := RV1.low hb2
    have B3 := B2.trans (hb2.mono B2.size)
    clear F1 hb2 CF B2 x0 x1 x2 RV1
    cases hh : hasB (L (chainN k n)) k
    · rw [place_no hh]
      have CFr := Lib.hid (free_any w2 F2.tab)
      have hfew := F2.tab.few
      have hb1 := F2.tab.b1
      by_cases hfull : bl ≤ (lenL L n : Int)
      · have e1 := Lib.hid (show putE bl n L k = 6 by unfold putE; rw [hm, hh, if_pos hfull]; rfl)
        have e2 := Lib.hid (show putT bl n L k v = L by unfold putT putE; rw [hm, hh, if_pos hfull]; rfl)
        have hz : bl - (lenL L n : Int) = 0 := by omega
        rw [hz] at CFr
        clear h hgd F2
        go_wp2_with fail
        refine CFr.out.mono ?_; rintro e w3 ⟨rfl, m, rfl⟩
        go_wp2_with fail
        go_ret
        exact ⟨ret_int e1.out.symm, by rw [e2.out]; exact TabTo.low hT (below_drewN B3 _)⟩
      · have e1 := Lib.hid (show putE bl n L k = 0 by unfold putE; rw [hm, hh, if_neg hfull]; rfl)
        have e2 := Lib.hid (show putT bl n L k v = setL L (chainN k n) (⟨k, v⟩ :: L (chainN k n)) by unfold putT putE; rw [hm, hh, if_neg hfull]; rfl)
        have hz : ¬ bl - (lenL L n : Int) = 0 := by omega
        go_wp2_with fail
        refine CFr.out.mono ?_; rintro e w3 ⟨rfl, m, rfl⟩
        go_wp2_with fail
        have CC := Lib.hid (fun w => chain_any k hk n hn hn1 w)
        rw [chI_ok hok, chain_cast k hn] at CC
        have Fm := F2.drewN m
        have Rm := RV2.drewN m
        have B4 : Below w.heap.size w (w2.drewN m) := below_drewN B3 _
        clear F2 B3 CFr h RV2
        generalize World.drewN w2 m = w3 at *
        have T3 := Fm.tab
        have P0 : PK w3 w3.drew sb bm n bl L V w.heap.size k v := ⟨Fm.drew, (Below.refl _ w3).drew, Rm.drew⟩
        have HC1 := Lib.hid (fun (W W' : World) (h : PK w3 W sb bm n bl L V w.heap.size k v) (hb : Below W.heap.size W W') => h.call hb)
        have CCk := Lib.hid (fun (W : World) (h : PK w3 W sb bm n bl L V w.heap.size k v) => (CC.out W).mono (fun e w' (q : e = _ ∧ Below _ _ w') => (⟨q.1, h.call q.2⟩ : e = _ ∧ PK w3 w' sb bm n bl L V w.heap.size k v)))
        have CCb := Lib.hid (fun (W : World) (vb : Nat) (h : FB w3 W sb bm n bl L V w.heap.size k v ⟨k, v⟩ vb) => (CC.out W).mono (fun e w' (q : e = _ ∧ Below _ _ w') => (⟨q.1, h.call q.2⟩ : e = _ ∧ FB w3 w' sb bm n bl L V w.heap.size k v ⟨k, v⟩ vb)))
        have CCa := Lib.hid (fun (W : World) (g cap : Nat) (h : PA w3 W sb bm n bl L V w.heap.size k v ⟨k, v⟩ (chainN k n) g cap) => (CC.out W).mono (fun e w' (q : e = _ ∧ Below _ _ w') => (⟨q.1, h.call q.2⟩ : e = _ ∧ PA w3 w' sb bm n bl L V w.heap.size k v ⟨k, v⟩ (chainN k n) g cap)))
        have CI := Lib.hid (fun (W : World) (vb : Nat) (h : FB w3 W sb bm n bl L V w.heap.size k v ⟨k, v⟩ vb) => h.ins T3 hcn hne)
        have MS := Lib.hid (fun (W : World) (g cap : Nat) (h : PA w3 W sb bm n bl L V w.heap.size k v ⟨k, v⟩ (chainN k n) g cap) => h.store hcn hn1 T3 hbs)
        clear CC HC1
        have fa := P0.five
        go_region_held3 (fun w1 => w1.cell? ⟨sb, 2, none⟩ = some (.int .i64 (n : Int)) ∧ w1.cell? ⟨sb, 3, none⟩ = some (.map (some bm)) ∧ w1.cell? ⟨w.heap.size, 0, none⟩ = some (.int .i64 k.sp) ∧ w1.cell? ⟨w.heap.size, 1, none⟩ = some (.int .u64 k.va) ∧ w1.cell? ⟨w.heap.size, 2, none⟩ = some (.int .i64 k.sz) ∧ w1.cell? ⟨(w.heap.size + 1), 0, none⟩ = some (.int .u64 v.va) ∧ w1.cell? ⟨(w.heap.size + 1), 1, none⟩ = some (.int .i64 v.sz) ∧ w1.cell? ⟨(w.heap.size + 1), 2, none⟩ = some (.int .u64 v.pa) ∧ w1.cell? ⟨(w.heap.size + 1), 3, none⟩ = some (.bool v.att.write) ∧ w1.cell? ⟨(w.heap.size + 1), 4, none⟩ = some (.bool v.att.priv) ∧ w1.cell? ⟨(w.heap.size + 1), 5, none⟩ = some (.bool v.att.exec) ∧ w1.cell? ⟨(w.heap.size + 1), 6, none⟩ = some (.bool v.att.lock) ∧ w1.cell? ⟨(w.heap.size + 1), 7, none⟩ = some (.bool v.att.global) ∧ w1.cell? ⟨(w.heap.size + 1), 8, none⟩ = some (.bool v.att.quiet) ∧ w1.cell? ⟨(w.heap.size + 1), 9, none⟩ = some (.bool v.ref) ∧ w1.cell? ⟨(w.heap.size + 1), 10, none⟩ = some (.bool v.mod))
          (first | assumption | exact PK.five P0 | exact PK.five (FB.pk (FB.new P0 ⟨k, v⟩)) | exact PK.five (FB.pk (FB.new P4 ⟨k, v⟩)))
          (first
            | (go_at_call 98; (with_reducible refine (CCk.out _ (by assumption)).mono ?_); rintro e w4 ⟨rfl, P4⟩; have Q4 := P4.five)
            | (go_at_call 98; refine (CCb.out _ _ (FB.new P0 ⟨k, v⟩)).mono ?_; rintro e w6 ⟨rfl, P6⟩; have Q6 := P6.pk.five; have P6' : FB w3 w6 sb bm n bl L V w.heap.size k v ⟨k, v⟩ w3.heap.size := P6)
            | (go_at_call 98; (with_reducible refine (CCa.out _ _ _ (by assumption)).mono ?_); rintro e w7 ⟨rfl, P7⟩; have Q7 := P7.five; obtain ⟨w9, hst9, Z9⟩ := MS.out _ _ _ P7; have Q9 := Z9.five)
            | (go_at_call 97; (with_reducible refine (CI.out _ _ (by first | assumption | (refine FB.new ?_ ⟨k, v⟩; assumption))).mono ?_); rintro e w5 ⟨g, cap, rfl, P5⟩; have Q5 := P5.five; obtain ⟨w8, hst8, Z8⟩ := MS.out _ _ _ P5; have Q8 := Z8.five))
        all_goals
          have hb := T3.bm_ne
          have q1 : w8.cell? ⟨sb, 1, none⟩ = some (.int .i64 (lenL L n : Int)) := by have h1 := Z8.row; simp [World.cell?, h1]
          have q2 : w8.frozen? ⟨sb, 1, none⟩ = false := by have h1 := Z8.row; simp [World.frozen?, h1]
          have hfin : TabTo w (w8.setCell ⟨sb, 1, none⟩ (.int .i64 ((lenL L n : Int) + 1))) sb O n bl (putT bl n L k v) := by
            rw [e2.out]
            have hlen := len_set L (chainN k n) (⟨k, v⟩ :: L (chainN k n)) hcn
            have htk : (lenL (setL L (chainN k n) (⟨k, v⟩ :: L (chainN k n))) n : Int) = (lenL L n : Int) + 1 := by simp at hlen; omega
            have hfre : ∀ q, (Value.slice (some ⟨g, 0, none⟩) ((L (chainN k n)).length + 1) cap).ownBlock = some q → (V (chainN k n)).ownBlock = some q ∨ w3.heap.size ≤ q := fun q hq => by
              obtain rfl : g = q := by simpa [Value.ownBlock] using hq
              exact Z8.fresh
            have TT : Turn w w8 O := ⟨Z8.os.trans B4.os, Z8.tape.trans B4.tape, Z8.output.trans B4.output, Nat.le_trans B4.size Z8.size, fun q hq hno => (Z8.block q (Nat.lt_of_lt_of_le hq B4.size) (fun e => hno (e ▸ (hO bm).2 (.inr (.inl rfl)))) (fun e => hno ((hO q).2 (.inr (.inr ⟨_, hcn, e.symm⟩))))).trans (B4.block q hq)⟩
            refine TabAt.turned (v' := .slice (some ⟨g, 0, none⟩) ((L (chainN k n)).length + 1) cap) hO hcn w ?_ (fun q hq => (hfre q hq).imp id (Nat.le_trans B4.size)) (TT.setCell _ (.inl ((hO sb).2 (.inl rfl))) _)
            exact T3.close hcn htk (Z8.row.trans T3.row.symm) Z8.map Z8.own (fun e => by cases e) (fun q h1 h2 h3 h4 => Z8.block q (T3.lt h1) h3 (fun e => h4 e.symm)) hfre (fun b hb => by
              rcases List.mem_cons.1 hb with rfl | hb
              · exact hok
              · exact hgd _ hcn b hb) (by omega)
          have HF := Lib.hid hfin
          have E1 := e1
          clear hfin Z8 Q8 hst8 P5 Q5 T3 Fm hgd hm hh fa
          go_wp2_with fail
          go_ret
          exact ⟨ret_int E1.out.symm, HF.out⟩
    · have e1 := Lib.hid (show putE bl n L k = 9 by unfold putE; rw [hm, hh]; rfl)
      have e2 := Lib.hid (show putT bl n L k v = L by unfold putT putE; rw [hm, hh]; rfl)
      rw [place_yes hh]
      have hj0 : (0 : Int) ≤ (posN (L (chainN k n)) k : Int) := by omega
      clear h hgd F2
      go_wp2_with fail
      go_ret
      exact ⟨ret_int e1.out.symm, by rw [e2.out]; exact TabTo.low hT B3⟩
end Go.Proofs.YtffpfceclhogoaaGreat.Hp
namespace Go.Proofs.YtffpfceclhogoaaGreat.Hp
open Fld Hs
open Go.ChangeShapes Go.WideShapes Go.ChangeAt Go.RowKit Go.Maps
set_option maxHeartbeats 1000000
set_option maxRecDepth 100000
/-- A table whose blocks are all new. -/
def NewTab (w w' : World) (sb n : Nat) (bl : Int) : Prop := ∃ O, Tab w' sb O n bl (fun _ => []) ∧ Below w.heap.size w w' ∧ (∀ k, O k → w.heap.size ≤ k)
theorem all_nil (n : Nat) : lenL (fun _ => []) n = 0 := by unfold lenL; rw [all_empty (fun _ _ => rfl)]; rfl
theorem tab_new (w : World) (bl : Int) (n : Nat) (hn : 1 ≤ n) (hn1 : n ≤ 9223372036854775807) (hb : 0 ≤ bl) (hb1 : bl ≤ 1073741824) :
    NewTab w ((w.alloc (.map #[] 0)).alloc (.cells #[.int .i64 bl, .int .i64 0, .int .i64 (n : Int), .map (some w.heap.size)] 110)) (w.heap.size + 1) n bl := by
  have hr : ((w.alloc (.map #[] 0)).alloc (.cells #[.int .i64 bl, .int .i64 0, .int .i64 (n : Int), .map (some w.heap.size)] 110)).heap[w.heap.size + 1]? = some (.cells #[.int .i64 bl, .int .i64 0, .int .i64 (n : Int), .map (some w.heap.size)] 110 (0, 0)) := by
    have := heap_alloc_new (w.alloc (.map #[] 0)) (.cells #[.int .i64 bl, .int .i64 0, .int .i64 (n : Int), .map (some w.heap.size)] 110)
    rwa [World.size_alloc] at this
  have hm : ((w.alloc (.map #[] 0)).alloc (.cells #[.int .i64 bl, .int .i64 0, .int .i64 (n : Int), .map (some w.heap.size)] 110)).ownsMap Tryz.prog 3 hdR w.heap.size 0 (.map []) :=
    (World.ownsMap_made w Tryz.prog 3 hdR).alloc _
  refine ⟨own (w.heap.size + 1) w.heap.size n (fun _ => nilS), ⟨w.heap.size, fun _ => nilS, ⟨by rw [all_nil]; exact hr, ⟨_, owns_size hm, MapIs.empty n⟩, fun i _ => World.ownsRow_nil _ 0 _ 14, fun _ _ _ => rfl, fun i j g _ _ h _ => (by cases h), fun i _ b hb => (by cases hb), hn, hn1, by rw [all_nil]; exact hb, hb1⟩, fun _ => Iff.rfl⟩, ((Below.refl _ w).alloc (Nat.le_refl _) _).alloc (by simp) _, fun k hk => ?_⟩
  rcases hk with rfl | rfl | ⟨i, _, h⟩
  · omega
  · omega
  · cases h
theorem new_any (bl ch : Int) (hb0 : -9223372036854775808 ≤ bl) (hb1 : bl ≤ 1073741824) (hc0 : -9223372036854775808 ≤ ch) (hc1 : ch ≤ 9223372036854775807) (w : World) :
    Calls Tryz.prog 26 #[.int .i64 bl, .int .i64 ch] w fun e w' => e = .returned (.pointer (some ⟨w.heap.size + 1, 0, none⟩)) ∧ NewTab w w' (w.heap.size + 1) (max ch 1).toNat (max bl 0) := by
  have h1 : ((max ch 1).toNat : Int) = max ch 1 := by omega
  have T := tab_new w (max bl 0) (max ch 1).toNat (by omega) (by omega) (by omega) (by omega)
  rw [h1] at T
  have HT := Lib.hid T
  clear T h1
  have hmm := @run_makeMap Tryz.prog
  go_enter Tryz.func26, Tryz.ntmps26
  go_wp2
  go_ret
  exact ⟨rfl, HT.out⟩
end Go.Proofs.YtffpfceclhogoaaGreat.Hp
namespace Go.Proofs.YtffpfceclhogoaaGreat.Hp
open Fld Hs
open Go.ChangeShapes Go.WideShapes Go.ChangeAt Go.RowKit Go.Maps
set_option maxHeartbeats 1000000
set_option maxRecDepth 100000
/-- A table made since w0; the blocks F are none of its own. -/
structure CT (w0 w : World) (sb n : Nat) (bl : Int) (L : Nat → List Bk) (F : Nat → Prop) : Prop where
  tab : ∃ O, Tab w sb O n bl L ∧ (∀ k, O k → w0.heap.size ≤ k) ∧ (∀ k, F k → ¬ O k)
  low : Below w0.heap.size w0 w
  here : ∀ k, F k → k < w.heap.size
section
variable {w0 w w' : World} {sb n : Nat} {bl : Int} {L : Nat → List Bk} {F : Nat → Prop}
theorem CT.facts (h : CT w0 w sb n bl L F) : Good n L ∧ 1 ≤ n ∧ n ≤ 9223372036854775807 ∧ (lenL L n : Int) ≤ bl ∧ bl ≤ 1073741824 := by
  obtain ⟨O, ⟨bm, V, h, _⟩, _⟩ := h.tab
  exact ⟨h.good, h.n0, h.n1, h.few, h.b1⟩
theorem CT.new (h : NewTab w0 w sb n bl) : CT w0 w sb n bl (fun _ => []) (fun _ => False) := by
  obtain ⟨O, h1, h2, h3⟩ := h
  exact ⟨⟨O, h1, h3, fun _ h => h.elim⟩, h2, fun _ h => h.elim⟩
theorem CT.below (h : CT w0 w sb n bl L F) (hb : Below w.heap.size w w') : CT w0 w' sb n bl L F := by
  obtain ⟨O, h1, h2, h3⟩ := h.tab
  exact ⟨⟨O, h1.below hb (Nat.le_refl _), h2, h3⟩, h.low.trans (hb.mono h.low.size), fun k hk => Nat.lt_of_lt_of_le (h.here k hk) hb.size⟩
theorem CT.drew (h : CT w0 w sb n bl L F) : CT w0 w.drew sb n bl L F := h.below (Below.refl _ w).drew
theorem CT.drewN (h : CT w0 w sb n bl L F) (m : Nat) : CT w0 (w.drewN m) sb n bl L F := h.below (below_drewN (Below.refl _ w) m)
theorem CT.alloc (h : CT w0 w sb n bl L F) (o : Obj) : CT w0 (w.alloc o) sb n bl L F := h.below ((Below.refl _ w).alloc (Nat.le_refl _) o)
theorem CT.sub (h : CT w0 w sb n bl L F) {G : Nat → Prop} (hG : ∀ k, G k → F k) : CT w0 w sb n bl L G := by
  obtain ⟨O, h1, h2, h3⟩ := h.tab
  exact ⟨⟨O, h1, h2, fun k hk => h3 k (hG k hk)⟩, h.low, fun k hk => h.here k (hG k hk)⟩
/-- A block that is new in w' is none of the table's. -/
theorem CT.add (h : CT w0 w sb n bl L F) (hb : Below w.heap.size w w') {G : Nat → Prop} (hG : ∀ k, G k → F k ∨ (w.heap.size ≤ k ∧ k < w'.heap.size)) : CT w0 w' sb n bl L G := by
  obtain ⟨O, h1, h2, h3⟩ := h.tab
  refine ⟨⟨O, h1.below hb (Nat.le_refl _), h2, fun k hk ho => ?_⟩, h.low.trans (hb.mono h.low.size), fun k hk => ?_⟩
  · rcases hG k hk with hk | hk
    · exact h3 k hk ho
    · have := h1.lt ho; omega
  · rcases hG k hk with hk | hk
    · exact Nat.lt_of_lt_of_le (h.here k hk) hb.size
    · exact hk.2
/-- What writes into a block of F, or makes new ones. -/
theorem CT.grown (h : CT w0 w sb n bl L F) {row : Option Nat} (hg : w.grownBy w' row) (hr : ∀ k, row = some k → F k ∧ w0.heap.size ≤ k) {G : Nat → Prop} (hG : ∀ k, G k → F k ∨ (w.heap.size ≤ k ∧ k < w'.heap.size)) : CT w0 w' sb n bl L G := by
  obtain ⟨O, ⟨bm, V, ht, hO⟩, h2, h3⟩ := h.tab
  refine ⟨⟨O, ⟨bm, V, ht.same (fun k hk => hg.block k (ht.lt hk) (fun e => h3 k (hr k e.symm).1 ((hO k).2 hk))), hO⟩, h2, fun k hk ho => ?_⟩, h.low.grown hg h.low.size (fun k hk => (hr k hk).2), fun k hk => ?_⟩
  · rcases hG k hk with hk | hk
    · exact h3 k hk ho
    · have := ht.lt ((hO k).1 ho); omega
  · rcases hG k hk with hk | hk
    · exact Nat.lt_of_lt_of_le (h.here k hk) hg.size
    · exact hk.2
theorem CT.one (h : CT w0 w sb n bl L F) {L' : Nat → List Bk} {n' : Nat} {O O' : Nat → Prop} (h2 : ∀ k, O k → w0.heap.size ≤ k) (h3 : ∀ k, F k → ¬ O k) (k1 : Tab w' sb O' n' bl L') (k2 : Turn w w' O) (k3 : ∀ k, O' k → O k ∨ w.heap.size ≤ k) : CT w0 w' sb n' bl L' F ∧ Kept F w w' := by
  refine ⟨⟨⟨O', k1, fun k hk => (k3 k hk).elim (h2 k) (Nat.le_trans h.low.size), fun k hk ho => (k3 k ho).elim (h3 k hk) (fun e => by have := h.here k hk; omega)⟩, ⟨k2.os.trans h.low.os, k2.tape.trans h.low.tape, k2.output.trans h.low.output, Nat.le_trans h.low.size k2.size, fun k hk => (k2.block k (Nat.lt_of_lt_of_le hk h.low.size) (fun ho => by have := h2 k ho; omega)).trans (h.low.block k hk)⟩, fun k hk => Nat.lt_of_lt_of_le (h.here k hk) k2.size⟩, fun k hk => k2.block k (h.here k hk) (h3 k hk), k2.size⟩
end
section
variable {w0 w : World} {sb n : Nat} {bl : Int} {L : Nat → List Bk} {F : Nat → Prop}
theorem CT.put (h : CT w0 w sb n bl L F) (k : Ky) (hk : k.wf) (v : Pg) :
    Calls Tryz.prog 64 #[.pointer (some ⟨sb, 0, none⟩), .agg #[.int .i64 k.sp, .int .u64 k.va, .int .i64 k.sz], .agg #[.int .u64 v.va, .int .i64 v.sz, .int .u64 v.pa, .bool v.att.write, .bool v.att.priv, .bool v.att.exec, .bool v.att.lock, .bool v.att.global, .bool v.att.quiet, .bool v.ref, .bool v.mod]] w fun e w' => e = .returned (.int .i64 (putE bl n L k)) ∧ CT w0 w' sb n bl (putT bl n L k v) F ∧ Kept F w w' := by
  have hh := h
  obtain ⟨O, h1, h2, h3⟩ := h.tab
  refine (Hp.put_any k hk v w h1).mono ?_
  rintro e w' ⟨rfl, O', k1, k2, k3⟩
  exact ⟨rfl, CT.one hh h2 h3 k1 k2 k3⟩
theorem CT.set (h : CT w0 w sb n bl L F) (k : Ky) (hk : k.wf) (v : Pg) :
    Calls Tryz.prog 91 #[.pointer (some ⟨sb, 0, none⟩), .agg #[.int .i64 k.sp, .int .u64 k.va, .int .i64 k.sz], .agg #[.int .u64 v.va, .int .i64 v.sz, .int .u64 v.pa, .bool v.att.write, .bool v.att.priv, .bool v.att.exec, .bool v.att.lock, .bool v.att.global, .bool v.att.quiet, .bool v.ref, .bool v.mod]] w fun e w' => e = .returned (.int .i64 (setE n L k)) ∧ CT w0 w' sb n bl (setT n L k v) F ∧ Kept F w w' := by
  have hh := h
  obtain ⟨O, h1, h2, h3⟩ := h.tab
  refine (Hp.set_any k hk v w h1).mono ?_
  rintro e w' ⟨rfl, O', k1, k2, k3⟩
  exact ⟨rfl, CT.one hh h2 h3 k1 k2 k3⟩
theorem CT.cut (h : CT w0 w sb n bl L F) (k : Ky) (hk : k.wf) :
    Calls Tryz.prog 73 #[.pointer (some ⟨sb, 0, none⟩), .agg #[.int .i64 k.sp, .int .u64 k.va, .int .i64 k.sz]] w fun e w' => e = .returned (.int .i64 (setE n L k)) ∧ CT w0 w' sb n bl (cutT n L k) F ∧ Kept F w w' := by
  have hh := h
  obtain ⟨O, h1, h2, h3⟩ := h.tab
  refine (Hp.cut_any k hk w h1).mono ?_
  rintro e w' ⟨rfl, O', k1, k2, k3⟩
  exact ⟨rfl, CT.one hh h2 h3 k1 k2 k3⟩
theorem CT.get (h : CT w0 w sb n bl L F) (k : Ky) (hk : k.wf) :
    Calls Tryz.prog 50 #[.pointer (some ⟨sb, 0, none⟩), .agg #[.int .i64 k.sp, .int .u64 k.va, .int .i64 k.sz]] w fun e w' => e = .returned (.tuple #[.agg #[.int .u64 (getV n L k).va, .int .i64 (getV n L k).sz, .int .u64 (getV n L k).pa, .bool (getV n L k).att.write, .bool (getV n L k).att.priv, .bool (getV n L k).att.exec, .bool (getV n L k).att.lock, .bool (getV n L k).att.global, .bool (getV n L k).att.quiet, .bool (getV n L k).ref, .bool (getV n L k).mod], .int .i64 (getN n L k), .bool (getB n L k)]) ∧ Below w.heap.size w w' := by
  obtain ⟨O, ⟨bm, V, h1, _⟩, _⟩ := h.tab
  exact Hp.get_any k hk w h1
theorem CT.len (h : CT w0 w sb n bl L F) :
    Calls Tryz.prog 79 #[.pointer (some ⟨sb, 0, none⟩)] w fun e w' => e = .returned (.int .i64 (lenL L n : Int)) ∧ w' = w := by
  obtain ⟨O, ⟨bm, V, h1, _⟩, _⟩ := h.tab
  exact Hp.len_any w h1
end
theorem putT_no {bl : Int} {n : Nat} {L : Nat → List Bk} {k : Ky} {v : Pg} (h : ¬ putE bl n L k = 0) : putT bl n L k v = L := by unfold putT; rw [if_neg h]
end Go.Proofs.YtffpfceclhogoaaGreat.Hp
