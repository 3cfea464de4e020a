/-
  YtffpfceclhogoaaGreatGM: the contracts and plain facts of several texts, laid together. Conditions: those that each theorem names.
-/
import Derived.Test.YtffpfceclhogoaaGreatGK
namespace Go.Proofs.YtffpfceclhogoaaGreat.Hp
open Fld Hs
open Go.ChangeShapes Go.WideShapes Go.ChangeAt Go.RowKit Go.Maps
set_option maxHeartbeats 8000000
set_option maxRecDepth 100000
theorem scells_take {w : World} {g n cap : Nat} {l : List SPg} (h : SOwn w (.slice (some ⟨g, 0, none⟩) n cap) l) (p : Nat) : ∀ j u, (spL (l.take p))[j]? = some u → w.cell? ((⟨g, 0, none⟩ : Addr).add j) = some u := fun j u hj => by
  refine h.cells rfl j u ?_
  rw [← spL_take, List.getElem?_take] at hj
  split at hj
  · exact hj
  · cases hj
theorem scells_drop {w : World} {g n cap : Nat} {l : List SPg} (h : SOwn w (.slice (some ⟨g, 0, none⟩) n cap) l) (p : Nat) : ∀ j u, (spL (l.drop p))[j]? = some u → w.cell? ((⟨g, p * 12, none⟩ : Addr).add j) = some u := fun j u hj => by
  rw [← spL_drop, List.getElem?_drop] at hj
  have := h.cells rfl _ u hj
  rw [addr_lit] at this ⊢
  rwa [Nat.zero_add] at this
theorem res_HPE {fn : Func} {p q u : Tmp} (h : fn.results = #[.cell p 30, .cell q 38, .tmp u]) (tmps : Array Value) (w : World) (g k : Nat) (x : Array Value) (y : Pg) (hp : tmps.getD p undef = .pointer (some ⟨g, 0, none⟩)) (hq : tmps.getD q undef = .pointer (some ⟨k, 0, none⟩)) (hR : w.heap[g]? = some (.cells x 30 (0, 0))) (hx : x.size = 4) (hS : w.heap[k]? = some (.cells #[.int .u64 y.va, .int .i64 y.sz, .int .u64 y.pa, .bool y.att.write, .bool y.att.priv, .bool y.att.exec, .bool y.att.lock, .bool y.att.global, .bool y.att.quiet, .bool y.ref, .bool y.mod] 38 (0, 0))) :
    (results fn tmps).run Tryz.prog w = .ok (.tuple #[.agg x, .agg #[.int .u64 y.va, .int .i64 y.sz, .int .u64 y.pa, .bool y.att.write, .bool y.att.priv, .bool y.att.exec, .bool y.att.lock, .bool y.att.global, .bool y.att.quiet, .bool y.ref, .bool y.mod], tmps.getD u undef]) w := by
  have hl := run_loadVar_row (P := Tryz.prog) w g 30 30 x (0, 0) _ hR Tryz.underlying30 (by kernel_rfl) (by rw [hx]; kernel_rfl)
  have hm := run_loadVar_row (P := Tryz.prog) w k 38 38 _ (0, 0) _ hS Tryz.underlying38 (by kernel_rfl) (by kernel_rfl)
  have e : (results fn tmps).run Tryz.prog w = ((asAddr (tmps.getD p undef)).run Tryz.prog w).andThen fun a w₁ => ((loadVar 30 a).run Tryz.prog w₁).andThen fun y1 w₂ => ((asAddr (tmps.getD q undef)).run Tryz.prog w₂).andThen fun b w₃ => ((loadVar 38 b).run Tryz.prog w₃).andThen fun y2 w₄ => .ok (.tuple #[y1, y2, tmps.getD u undef]) w₄ := by
    simp only [results, h]
    simp [Sem.run_bind, Result.andThen]
  rw [e, hp, hq]
  simp only [asAddr, Sem.run_pure, Result.andThen_ok, hl, hm]
theorem DH.far2 {w w' : World} {v : Value} {l : List SPg} {s : Value} {n : Nat} {LT : Nat → List Hs.Bk} {U : Nat → Value} (h : DH w v l s n LT U) {xb : Nat} {cs : Array Value} (hx : w.heap[xb]? = some (.cells cs 38 (0, 0))) (hk : ∀ k, k ≠ xb → w'.heap[k]? = w.heap[k]?) : DH w' v l s n LT U := by
  refine ⟨own_same h.own (fun g hg => hk g ?_), h.ch.same (fun k hkk => hk k ?_), h.few, h.wf⟩
  · rintro rfl
    obtain ⟨cur, hc⟩ := own_obj h.own hg
    rw [hx] at hc; injection hc with hc; injection hc with _ hc _
    exact absurd hc (by decide)
  · rintro rfl
    rcases hkk with hkk | ⟨i, hi, hkk⟩
    · obtain ⟨cur, hc⟩ := own_obj h.ch.outer hkk
      rw [hx] at hc; injection hc with hc; injection hc with _ hc _
      exact absurd hc (by decide)
    · obtain ⟨cur, hc⟩ := own_obj (h.ch.rows i hi) hkk
      rw [hx] at hc; injection hc with hc; injection hc with _ hc _
      exact absurd hc (by decide)
theorem far4 {W : World} {zb rb : Nat} {x : Pg} {a b c d : Value} (h : RowP W zb x) (hn : zb ≠ rb) : RowP ((((W.setCell ⟨rb, 0, none⟩ a).setCell ⟨rb, 1, none⟩ b).setCell ⟨rb, 2, none⟩ c).setCell ⟨rb, 3, none⟩ d) zb x := by
  refine ⟨?_⟩
  rw [Below.heap_setCell _ _ _ _ hn, Below.heap_setCell _ _ _ _ hn, Below.heap_setCell _ _ _ _ hn, Below.heap_setCell _ _ _ _ hn]
  exact h.row
theorem fill_HP {u W : World} {rb zb : Nat} {v : Value} {l : List SPg} {s : Value} {n : Nat} {LT : Nat → List Hs.Bk} {U : Nat → Value} {cs : Array Value} {z : Pg} (h : W.heap[rb]? = some (.cells cs 30 (0, 0)) ∧ DH W v l s n LT U ∧ Below u.heap.size u W) (x : Pg) (zl : u.heap.size ≤ zb) (hn : zb ≠ rb) (Z : RowP W zb z) :
    (((((((((((W.setCell ⟨zb, 0, none⟩ (.int .u64 x.va)).setCell ⟨zb, 1, none⟩ (.int .i64 x.sz)).setCell ⟨zb, 2, none⟩ (.int .u64 x.pa)).setCell ⟨zb, 3, none⟩ (.bool x.att.write)).setCell ⟨zb, 4, none⟩ (.bool x.att.priv)).setCell ⟨zb, 5, none⟩ (.bool x.att.exec)).setCell ⟨zb, 6, none⟩ (.bool x.att.lock)).setCell ⟨zb, 7, none⟩ (.bool x.att.global)).setCell ⟨zb, 8, none⟩ (.bool x.att.quiet)).setCell ⟨zb, 9, none⟩ (.bool x.ref)).setCell ⟨zb, 10, none⟩ (.bool x.mod)).heap[rb]? = some (.cells cs 30 (0, 0)) ∧ RowP (((((((((((W.setCell ⟨zb, 0, none⟩ (.int .u64 x.va)).setCell ⟨zb, 1, none⟩ (.int .i64 x.sz)).setCell ⟨zb, 2, none⟩ (.int .u64 x.pa)).setCell ⟨zb, 3, none⟩ (.bool x.att.write)).setCell ⟨zb, 4, none⟩ (.bool x.att.priv)).setCell ⟨zb, 5, none⟩ (.bool x.att.exec)).setCell ⟨zb, 6, none⟩ (.bool x.att.lock)).setCell ⟨zb, 7, none⟩ (.bool x.att.global)).setCell ⟨zb, 8, none⟩ (.bool x.att.quiet)).setCell ⟨zb, 9, none⟩ (.bool x.ref)).setCell ⟨zb, 10, none⟩ (.bool x.mod)) zb x ∧ DH (((((((((((W.setCell ⟨zb, 0, none⟩ (.int .u64 x.va)).setCell ⟨zb, 1, none⟩ (.int .i64 x.sz)).setCell ⟨zb, 2, none⟩ (.int .u64 x.pa)).setCell ⟨zb, 3, none⟩ (.bool x.att.write)).setCell ⟨zb, 4, none⟩ (.bool x.att.priv)).setCell ⟨zb, 5, none⟩ (.bool x.att.exec)).setCell ⟨zb, 6, none⟩ (.bool x.att.lock)).setCell ⟨zb, 7, none⟩ (.bool x.att.global)).setCell ⟨zb, 8, none⟩ (.bool x.att.quiet)).setCell ⟨zb, 9, none⟩ (.bool x.ref)).setCell ⟨zb, 10, none⟩ (.bool x.mod)) v l s n LT U ∧ Below u.heap.size u (((((((((((W.setCell ⟨zb, 0, none⟩ (.int .u64 x.va)).setCell ⟨zb, 1, none⟩ (.int .i64 x.sz)).setCell ⟨zb, 2, none⟩ (.int .u64 x.pa)).setCell ⟨zb, 3, none⟩ (.bool x.att.write)).setCell ⟨zb, 4, none⟩ (.bool x.att.priv)).setCell ⟨zb, 5, none⟩ (.bool x.att.exec)).setCell ⟨zb, 6, none⟩ (.bool x.att.lock)).setCell ⟨zb, 7, none⟩ (.bool x.att.global)).setCell ⟨zb, 8, none⟩ (.bool x.att.quiet)).setCell ⟨zb, 9, none⟩ (.bool x.ref)).setCell ⟨zb, 10, none⟩ (.bool x.mod)) :=
  ⟨(row_far x (fun e => hn e.symm)).trans h.1, (Z.setAll x).1, h.2.1.far2 Z.row (fun _ hk => row_far x hk), h.2.2.trans ((Z.setAll x).2 _ zl)⟩
def dunV (ns : Int) (l : List SPg) (s va : Int) : Pg := if whyE ns l s va = 0 then (sat l (posS l s va)).p else Pg.zero
def dunL (ns : Int) (l : List SPg) (s va : Int) : List SPg := if whyE ns l s va = 0 then l.eraseIdx (posS l s va) else l
def dunT (ns : Int) (l : List SPg) (n : Nat) (LT : Nat → List Hs.Bk) (s va : Int) : Nat → List Hs.Bk := if whyE ns l s va = 0 then Hs.cutT n LT ⟨s, baseI (sat l (posS l s va)).p.va (sat l (posS l s va)).p.sz, (sat l (posS l s va)).p.sz⟩ else LT
theorem why_pos {ns : Int} {l : List SPg} {s va : Int} (h : whyE ns l s va = 0) : posS l s va < l.length := by
  unfold whyE at h
  split at h; · cases h
  split at h; · cases h
  rename_i h2
  unfold atI at h2
  split at h2
  · assumption
  · omega
/-- .. and a result's page. -/
structure MZ (u w : World) (xb pb rb zb : Nat) (ns bl : Int) (v : Value) (l : List SPg) (s : Value) (n : Nat) (LT : Nat → List Hs.Bk) (U : Nat → Value) (p : Pg) : Prop where
  m : MX u w xb pb rb ns bl v l s n LT U p
  z : RowP w zb Pg.zero
theorem MZ.low {u w w' : World} {xb pb rb zb : Nat} {ns bl : Int} {v : Value} {l : List SPg} {s : Value} {n : Nat} {LT : Nat → List Hs.Bk} {U : Nat → Value} {p : Pg} (h : MZ u w xb pb rb zb ns bl v l s n LT U p) (hb : Below w.heap.size w w') : MZ u w' xb pb rb zb ns bl v l s n LT U p := ⟨h.m.low hb, h.z.low hb⟩
section
variable {v : Value} {l : List SPg} {t : Value} {n : Nat} {LT : Nat → List Hs.Bk} {U : Nat → Value}
theorem dunmap_any (ns bl s va : Int) (s0 : -9223372036854775808 ≤ s) (s1 : s ≤ 9223372036854775807) (v0 : 0 ≤ va) (v1 : va ≤ 18446744073709551615) (w : World) (h : DH w v l t n LT U) :
    Calls Tryz.prog 31 #[.agg #[.int .i64 ns, v, .int .i64 bl, t], .int .i64 s, .int .u64 va] w fun e w' => ∃ v' t' U', e = .returned (.tuple #[.agg #[.int .i64 ns, v', .int .i64 bl, t'], .agg #[.int .u64 (dunV ns l s va).va, .int .i64 (dunV ns l s va).sz, .int .u64 (dunV ns l s va).pa, .bool (dunV ns l s va).att.write, .bool (dunV ns l s va).att.priv, .bool (dunV ns l s va).att.exec, .bool (dunV ns l s va).att.lock, .bool (dunV ns l s va).att.global, .bool (dunV ns l s va).att.quiet, .bool (dunV ns l s va).ref, .bool (dunV ns l s va).mod], .int .i64 (whyE ns l s va)]) ∧ DH w' v' (dunL ns l s va) t' n (dunT ns l n LT s va) U' ∧ Below w.heap.size w w' := by
  obtain ⟨⟨ao, cap, rfl⟩, g2, cap2, rfl⟩ := h.shape
  have hl := h.few
  have hwf0 := h.wf
  have X := DX.new h ns bl
  have N1 : Below (w.alloc (.cells #[.int .i64 ns, .slice ao l.length cap, .int .i64 bl, .slice (some ⟨g2, 0, none⟩) n cap2] 30)).heap.size (w.alloc (.cells #[.int .i64 ns, .slice ao l.length cap, .int .i64 bl, .slice (some ⟨g2, 0, none⟩) n cap2] 30)) ((w.alloc (.cells #[.int .i64 ns, .slice ao l.length cap, .int .i64 bl, .slice (some ⟨g2, 0, none⟩) n cap2] 30)).alloc (.cells #[.int .i64 0, .slice none 0 0, .int .i64 0, .slice none 0 0] 30)) := (Below.refl _ _).alloc (Nat.le_refl _) _
  have N2 : Below ((w.alloc (.cells #[.int .i64 ns, .slice ao l.length cap, .int .i64 bl, .slice (some ⟨g2, 0, none⟩) n cap2] 30)).alloc (.cells #[.int .i64 0, .slice none 0 0, .int .i64 0, .slice none 0 0] 30)).heap.size ((w.alloc (.cells #[.int .i64 ns, .slice ao l.length cap, .int .i64 bl, .slice (some ⟨g2, 0, none⟩) n cap2] 30)).alloc (.cells #[.int .i64 0, .slice none 0 0, .int .i64 0, .slice none 0 0] 30)) (((w.alloc (.cells #[.int .i64 ns, .slice ao l.length cap, .int .i64 bl, .slice (some ⟨g2, 0, none⟩) n cap2] 30)).alloc (.cells #[.int .i64 0, .slice none 0 0, .int .i64 0, .slice none 0 0] 30)).alloc (.cells #[.int .u64 Pg.zero.va, .int .i64 Pg.zero.sz, .int .u64 Pg.zero.pa, .bool Pg.zero.att.write, .bool Pg.zero.att.priv, .bool Pg.zero.att.exec, .bool Pg.zero.att.lock, .bool Pg.zero.att.global, .bool Pg.zero.att.quiet, .bool Pg.zero.ref, .bool Pg.zero.mod] 38)) := (Below.refl _ _).alloc (Nat.le_refl _) _
  have R := blk_low (heap_alloc_new (w.alloc (.cells #[.int .i64 ns, .slice ao l.length cap, .int .i64 bl, .slice (some ⟨g2, 0, none⟩) n cap2] 30)) (.cells #[.int .i64 0, .slice none 0 0, .int .i64 0, .slice none 0 0] 30)) N2
  rw [World.size_alloc] at R
  have Z := RowP.new ((w.alloc (.cells #[.int .i64 ns, .slice ao l.length cap, .int .i64 bl, .slice (some ⟨g2, 0, none⟩) n cap2] 30)).alloc (.cells #[.int .i64 0, .slice none 0 0, .int .i64 0, .slice none 0 0] 30)) Pg.zero
  rw [World.size_alloc, World.size_alloc] at Z
  have X0 := (X.low N1).low N2
  unfold Pg.zero at N2 R Z X0
  have C1 := Lib.hid (fun (W : World) (h : DX w W w.heap.size ns bl (.slice ao l.length cap) l (.slice (some ⟨g2, 0, none⟩) n cap2) n LT U) => dwhy_any ns bl s va v0 v1 W h.dh)
  have C2 := Lib.hid (fun (W : World) (h : DX w W w.heap.size ns bl (.slice ao l.length cap) l (.slice (some ⟨g2, 0, none⟩) n cap2) n LT U) => dat_any ns bl s va v0 v1 W h.dh)
  have hV := Lib.hid (show dunV ns l s va = if whyE ns l s va = 0 then (sat l (posS l s va)).p else Pg.zero from rfl)
  have hL := Lib.hid (show dunL ns l s va = if whyE ns l s va = 0 then l.eraseIdx (posS l s va) else l from rfl)
  have hT := Lib.hid (show dunT ns l n LT s va = if whyE ns l s va = 0 then Hs.cutT n LT ⟨s, baseI (sat l (posS l s va)).p.va (sat l (posS l s va)).p.sz, (sat l (posS l s va)).p.sz⟩ else LT from rfl)
  have hW := Lib.hid (why_pos (ns := ns) (l := l) (s := s) (va := va))
  generalize whyE ns l s va = E at *
  clear h X N1 N2
  go_enter Tryz.func31, Tryz.ntmps31
  go_wp2_with fail
  generalize World.alloc (World.alloc (World.alloc w _) _) _ = W0 at *
  refine (C1.out _ X0).mono ?_; rintro e w1 ⟨rfl, hb1⟩
  have X1 := X0.low hb1
  have R1 := blk_low R hb1
  have Z1 : RowP w1 (w.heap.size + 1 + 1) Pg.zero := RowP.low Z hb1
  clear X0 R Z hb1 C1
  by_cases h0 : E = 0
  · subst h0
    rw [if_pos rfl] at hV hL hT
    have hp := hW.out rfl
    have hA : atI l s va = (posS l s va : Int) := by unfold atI; rw [if_pos hp]
    rw [hA] at C2
    generalize posS l s va = j at *
    clear hA
    obtain ⟨x0, x1, x2, x3⟩ := X1.cs
    go_wp2_with fail
    refine (C2.out _ X1).mono ?_; rintro e w2 ⟨rfl, hb2⟩
    have X2 := X1.low hb2
    have R2 := blk_low R1 hb2
    have Z2 := Z1.low hb2
    clear X1 R1 Z1 hb2 x0 x1 x2 x3 C2
    obtain ⟨x0, x1, x2, x3⟩ := X2.cs
    have hO := X2.dh.own
    have hwp := hwf0 _ (sat_mem hp)
    rcases own_form hO with ⟨_, h0⟩ | ⟨g, cap3, hv, hgb, hnc, hcm⟩
    · omega
    obtain ⟨y0, y1, y2, y3, y4, y5, y6, y7, y8, y9, y10, y11⟩ := own_sp hO hgb hp
    simp only [Value.slice.injEq, true_and] at hv
    obtain ⟨rfl, rfl⟩ := hv
    unfold maxLen at hcm
    have hjl : (j : Int) < (l.length : Int) := by omega
    have hj0 : (0 : Int) ≤ (j : Int) := by omega
    obtain ⟨q, hq⟩ : ∃ q, q = sat l j := ⟨_, rfl⟩
    have HQ := Lib.hid hq
    rw [← hq] at y0 y1 y2 y3 y4 y5 y6 y7 y8 y9 y10 y11 hV hT hwp
    clear hq
    have N3 : Below w2.heap.size w2 (w2.alloc (.cells #[.int .u64 q.p.va, .int .i64 q.p.sz, .int .u64 q.p.pa, .bool q.p.att.write, .bool q.p.att.priv, .bool q.p.att.exec, .bool q.p.att.lock, .bool q.p.att.global, .bool q.p.att.quiet, .bool q.p.ref, .bool q.p.mod] 38)) := (Below.refl _ _).alloc (Nat.le_refl _) _
    have X3 := X2.low N3
    have R3 := blk_low R2 N3
    have Z3 : RowP (w2.alloc (.cells #[.int .u64 q.p.va, .int .i64 q.p.sz, .int .u64 q.p.pa, .bool q.p.att.write, .bool q.p.att.priv, .bool q.p.att.exec, .bool q.p.att.lock, .bool q.p.att.global, .bool q.p.att.quiet, .bool q.p.ref, .bool q.p.mod] 38)) (w.heap.size + 1 + 1) Pg.zero := RowP.low Z2 N3
    have P3 := RowP.new w2 q.p
    have hO3 := X3.dh.own
    have HPB := Lib.hid (show w.heap.size + 1 + 1 < w2.heap.size from (Array.getElem?_eq_some_iff.1 Z2.row).1)
    obtain ⟨x0', x1', x2', x3'⟩ := X3.cs
    have htl : (l.take j).length = j := by rw [List.length_take]; omega
    have hdl : (l.drop (j + 1)).length = l.length - (j + 1) := List.length_drop
    obtain ⟨v4, W4, hrun, ho4, hg4, hf4⟩ := s_append_at 25 (w2.alloc (.cells #[.int .u64 q.p.va, .int .i64 q.p.sz, .int .u64 q.p.pa, .bool q.p.att.write, .bool q.p.att.priv, .bool q.p.att.exec, .bool q.p.att.lock, .bool q.p.att.global, .bool q.p.att.quiet, .bool q.p.ref, .bool q.p.mod] 38)) (w2.alloc (.cells #[.int .u64 q.p.va, .int .i64 q.p.sz, .int .u64 q.p.pa, .bool q.p.att.write, .bool q.p.att.priv, .bool q.p.att.exec, .bool q.p.att.lock, .bool q.p.att.global, .bool q.p.att.quiet, .bool q.p.ref, .bool q.p.mod] 38)).heap.size (.slice none 0 0) (some ⟨g, 0, none⟩) cap [] (l.take j) (World.ownsRow_nil _ _ _ 12) (.inr ⟨_, rfl, scells_take hO3 j⟩) (Nat.le_refl _) (by simp; omega)
    rw [htl] at hrun
    rw [List.nil_append] at ho4
    have b34 : Below (w2.alloc (.cells #[.int .u64 q.p.va, .int .i64 q.p.sz, .int .u64 q.p.pa, .bool q.p.att.write, .bool q.p.att.priv, .bool q.p.att.exec, .bool q.p.att.lock, .bool q.p.att.global, .bool q.p.att.quiet, .bool q.p.ref, .bool q.p.mod] 38)).heap.size (w2.alloc (.cells #[.int .u64 q.p.va, .int .i64 q.p.sz, .int .u64 q.p.pa, .bool q.p.att.write, .bool q.p.att.priv, .bool q.p.att.exec, .bool q.p.att.lock, .bool q.p.att.global, .bool q.p.att.quiet, .bool q.p.ref, .bool q.p.mod] 38)) W4 := ⟨hg4.os, hg4.tape, hg4.output, hg4.size, fun q hq => hg4.block q hq (by simp [Value.ownBlock])⟩
    have X4 := X3.low b34
    have hO4 := X4.dh.own
    obtain ⟨ad, had⟩ : ∃ ad : Addr, ad = if cap = j + 1 then (⟨g, 0, none⟩ : Addr) else ⟨g, (j + 1) * 12, none⟩ := ⟨_, rfl⟩
    obtain ⟨v5, W5, hrun5, ho5, hg5, hf5⟩ := s_append_at 25 W4 (w2.alloc (.cells #[.int .u64 q.p.va, .int .i64 q.p.sz, .int .u64 q.p.pa, .bool q.p.att.write, .bool q.p.att.priv, .bool q.p.att.exec, .bool q.p.att.lock, .bool q.p.att.global, .bool q.p.att.quiet, .bool q.p.ref, .bool q.p.mod] 38)).heap.size v4 (some ad) (cap - (j + 1)) (l.take j) (l.drop (j + 1)) ho4 (by
      by_cases hci : cap = j + 1
      · exact .inl (List.eq_nil_of_length_eq_zero (by omega))
      · exact .inr ⟨ad, rfl, by rw [had, if_neg hci]; exact scells_drop hO4 (j + 1)⟩) b34.size (by rw [htl, hdl]; omega)
    rw [hdl] at hrun5
    rw [← List.eraseIdx_eq_take_drop_succ] at ho5
    have b35 : Below (w2.alloc (.cells #[.int .u64 q.p.va, .int .i64 q.p.sz, .int .u64 q.p.pa, .bool q.p.att.write, .bool q.p.att.priv, .bool q.p.att.exec, .bool q.p.att.lock, .bool q.p.att.global, .bool q.p.att.quiet, .bool q.p.ref, .bool q.p.mod] 38)).heap.size (w2.alloc (.cells #[.int .u64 q.p.va, .int .i64 q.p.sz, .int .u64 q.p.pa, .bool q.p.att.write, .bool q.p.att.priv, .bool q.p.att.exec, .bool q.p.att.lock, .bool q.p.att.global, .bool q.p.att.quiet, .bool q.p.ref, .bool q.p.mod] 38)) W5 := b34.grown hg5 b34.size (fun k hk => (ho4.lt k hk).1)
    have hel : (l.eraseIdx j).length ≤ 1073741824 := by rw [List.length_eraseIdx_of_lt hp]; omega
    obtain ⟨D6, k6, c6, f6⟩ := X3.put1 (Nat.le_refl _) b35 (own_base ho5) hel (fun x hx => hwf0 x (List.mem_of_mem_eraseIdx hx))
    have P6 : RowP (W5.setCell ⟨w.heap.size, 1, none⟩ v5) w2.heap.size q.p := ⟨(k6 _ (by have := HPB.out; omega)).trans (P3.low b35).row⟩
    have R6 := (k6 _ (by omega)).trans (blk_low R3 b35)
    have Z6 : RowP (W5.setCell ⟨w.heap.size, 1, none⟩ v5) (w.heap.size + 1 + 1) Pg.zero := ⟨(k6 _ (by omega)).trans (Z3.low b35).row⟩
    obtain ⟨w4x0, w4x1, w4x2, w4x3⟩ := X4.cs
    obtain ⟨ao4, cap4, rfl⟩ := own_shape3 ho4
    rw [htl] at hrun hrun5
    obtain ⟨ao5, cap5, rfl⟩ := own_shape3 ho5
    have M6 : MZ w (W5.setCell ⟨w.heap.size, 1, none⟩ (.slice ao5 (l.eraseIdx j).length cap5)) w.heap.size w2.heap.size (w.heap.size + 1) (w.heap.size + 1 + 1) ns bl (.slice ao5 (l.eraseIdx j).length cap5) (l.eraseIdx j) (.slice (some ⟨g2, 0, none⟩) n cap2) n LT U q.p := ⟨⟨D6, P6, R6⟩, Z6⟩
    have hk : (⟨s, baseI q.p.va q.p.sz, q.p.sz⟩ : Ky).wf := by have hbb := base_bd q.p.va q.p.sz hwp.p.v0 hwp.p.v1; have := hwp.p.v1; exact ⟨s0, s1, hbb.1, by show baseI q.p.va q.p.sz ≤ _; omega, hwp.p.z0, hwp.p.z1⟩
    have C3 := Lib.hid (fun (W : World) => dkey_any s q.p.va q.p.sz hwp.p.v0 hwp.p.v1 W)
    have C4 := Lib.hid (fun (W : World) (pb : Nat) (h : MZ w W w.heap.size pb (w.heap.size + 1) (w.heap.size + 1 + 1) ns bl (.slice ao5 (l.eraseIdx j).length cap5) (l.eraseIdx j) (.slice (some ⟨g2, 0, none⟩) n cap2) n LT U q.p) => Hs.tcut_any bl _ hk W h.m.dx.dh.ch)
    have hS := M6.m.four
    have hjc : (j : Int) ≤ (cap : Int) := by omega
    have hj1 : (j : Int) + 1 ≤ (l.length : Int) := by omega
    have hj2 : (0 : Int) ≤ (j : Int) + 1 := by omega
    have hj3 : ((j : Int) + 1).toNat = j + 1 := by omega
    have hcl : (l.length : Int) ≤ (cap : Int) := by omega
    have hrunW : ∀ W, W = w2.alloc (.cells #[.int .u64 q.p.va, .int .i64 q.p.sz, .int .u64 q.p.pa, .bool q.p.att.write, .bool q.p.att.priv, .bool q.p.att.exec, .bool q.p.att.lock, .bool q.p.att.global, .bool q.p.att.quiet, .bool q.p.ref, .bool q.p.mod] 38) → (Builtin.append_ #[25, 25] 25 #[.slice none 0 0, .slice (some ⟨g, 0, none⟩) j cap]).run Tryz.prog W = .ok (.slice ao4 j cap4) W4 := fun W e => by rw [e]; exact hrun
    have HAD := Lib.hid had
    clear X2 X3 X4 R2 R3 Z2 Z3 P3 hO hO3 hO4 N3 b34 b35 ho4 ho5 hg4 hg5 hf4 hf5 D6 k6 P6 R6 Z6 hel hk hwp had hrun htl hdl hW
    have HRW := Lib.hid hrunW
    clear hrunW
    by_cases hci : cap = j + 1
    · have hle : l.length = j + 1 := by omega
      have ha : ad = ⟨g, 0, none⟩ := by rw [HAD.out, if_pos hci]
      rw [ha, hle, hci, Nat.sub_self] at hrun5
      subst hci
      have q7 : (j : Int) + 1 ≤ (j : Int) + 1 := Int.le_refl _
      have q8 : (j : Int) ≤ (j : Int) + 1 := by omega
      rw [hle] at x1 x1' w4x1 c6 ⊢
      clear ha hle HAD hjl hj1 hcl hp
      go_wp2_with (first
        | (at_builtin; refine Lib.wpList_append_run _ rfl _ _ 25 25 rfl _ _ rfl rfl _ _ (HRW.out _ rfl) ?_)
        | (at_builtin; refine Lib.wpList_append_run _ rfl _ _ 25 25 rfl _ _ rfl rfl _ _ (hrun5 _) ?_)
        | (at_builtin; refine Lib.wpList_append_run _ rfl _ _ 25 25 rfl _ _ rfl rfl _ _ hrun5 ?_))
      generalize World.setCell W5 _ _ = W6 at *
      generalize w2.heap.size = pb at *
      clear HRW hrun5 x0' x1' x2' x3' w4x0 w4x1 w4x2 w4x3 c6 f6 y0 y1 y2 y3 y4 y5 y6 y7 y8 y9 y10 y11 x0 x1 x2 x3
      go_region_held3 (fun w1 => (w1.cell? ⟨w.heap.size, 2, none⟩ = some (.int .i64 bl) ∧ w1.cell? ⟨w.heap.size, 3, none⟩ = some (.slice (some ⟨g2, 0, none⟩) n cap2)) ∧ w1.cell? ⟨pb, 0, none⟩ = some (.int .u64 q.p.va) ∧ w1.cell? ⟨pb, 1, none⟩ = some (.int .i64 q.p.sz))
        ((refine (MX.four (MZ.m (MZ.low M6 ?_))); (repeat (first | (with_reducible assumption) | (with_reducible exact Below.refl _ _) | (with_reducible refine lo_step ?_ (by assumption)) | (with_reducible refine lo_drew ?_) | (with_reducible refine lo_drewN ?_ _) | (with_reducible refine lo_alloc ?_ _) | (with_reducible refine lo_set ?_ ?_ _) | (exact Nat.le_refl _) | (exact hs2 _ (Nat.le_refl _)) | (exact hb'.size))) ))
        (first
          | (go_at_call 69; (with_reducible refine (C3.out _).mono ?_); rintro e w' ⟨rfl, hb'⟩; obtain ⟨kc, kf, ks1, ks2⟩ := bfacts hb')
          | (go_at_call 71; (with_reducible refine (C4.out _ _ (MZ.low M6 (by (repeat (first | (with_reducible assumption) | (with_reducible exact Below.refl _ _) | (with_reducible refine lo_step ?_ (by assumption)) | (with_reducible refine lo_drew ?_) | (with_reducible refine lo_drewN ?_ _) | (with_reducible refine lo_alloc ?_ _) | (with_reducible refine lo_set ?_ ?_ _) | (exact Nat.le_refl _) | (exact hs2 _ (Nat.le_refl _)) | (exact hb'.size))) ))).mono ?_); rintro e w8 ⟨s', rfl, hD⟩; obtain ⟨g6, cap6, rfl⟩ := hD.form; obtain ⟨U', hc6, _, hb8⟩ := hD; obtain ⟨hc, hf, hs1, hs2⟩ := bfacts hb8; (try have hv : W6.heap.size < w'.heap.size := by (have hsz := hb'.size; (try simp only [World.size_alloc] at hsz); (first | omega | (simp at hsz; omega))))))
      · have M7 := MZ.low M6 (show Below W6.heap.size W6 (w8.alloc (.cells #[.int .i64 bl, .slice (some ⟨g6, 0, none⟩) n cap6] 28)) by (repeat (first | (with_reducible assumption) | (with_reducible exact Below.refl _ _) | (with_reducible refine lo_step ?_ (by assumption)) | (with_reducible refine lo_drew ?_) | (with_reducible refine lo_drewN ?_ _) | (with_reducible refine lo_alloc ?_ _) | (with_reducible refine lo_set ?_ ?_ _) | (exact Nat.le_refl _) | (exact hs2 _ (Nat.le_refl _)) | (exact hb'.size))) )
        have hc7 := hc6.alloc (.cells #[.int .i64 bl, .slice (some ⟨g6, 0, none⟩) n cap6] 28)
        have ht7 := heap_alloc_new w8 (.cells #[.int .i64 bl, .slice (some ⟨g6, 0, none⟩) n cap6] 28)
        have htl : w.heap.size ≠ w8.heap.size ∧ w.heap.size + 1 ≠ w8.heap.size ∧ w.heap.size + 1 + 1 ≠ w8.heap.size ∧ pb ≠ w8.heap.size ∧ w.heap.size + 1 + 1 < pb ∧ pb ≠ w.heap.size := by have h1 := (Array.getElem?_eq_some_iff.1 M6.m.pg.row).1; have h2 : W6.heap.size ≤ w8.heap.size := Below.size (show Below W6.heap.size W6 w8 by (repeat (first | (with_reducible assumption) | (with_reducible exact Below.refl _ _) | (with_reducible refine lo_step ?_ (by assumption)) | (with_reducible refine lo_drew ?_) | (with_reducible refine lo_drewN ?_ _) | (with_reducible refine lo_alloc ?_ _) | (with_reducible refine lo_set ?_ ?_ _) | (exact Nat.le_refl _) | (exact hs2 _ (Nat.le_refl _)) | (exact hb'.size))) ); have h3 := HPB.out; omega
        generalize World.alloc w8 _ = W7 at *
        generalize w8.heap.size = tb at *
        obtain ⟨t0, t1⟩ := t_two ht7
        obtain ⟨D8, k8, _, f8⟩ := M7.m.dx.put2 (Nat.le_refl _) (Below.refl _ _) hc7 bl
        have P8 : RowP _ pb q.p := ⟨(k8 _ (by omega)).trans M7.m.pg.row⟩
        have R8 := (k8 _ (by omega)).trans M7.m.r
        have Z8 : RowP _ (w.heap.size + 1 + 1) Pg.zero := ⟨(k8 _ (by omega)).trans M7.z.row⟩
        have hfl0 := fill_H (ns := ns) (bl := bl) D8.dh D8.lo (by omega : w.heap.size ≤ w.heap.size + 1) R8 rfl
        have hfl := Lib.hid (fill_HP hfl0 q.p (by omega : w.heap.size ≤ w.heap.size + 1 + 1) (by omega : w.heap.size + 1 + 1 ≠ w.heap.size + 1) (far4 Z8 (by omega)))
        obtain ⟨z0', z1', z2', z3'⟩ := D8.cs
        obtain ⟨x0, x1, x2, x3⟩ := M7.m.dx.cs
        obtain ⟨r0, r1, r2, r3, rf⟩ := four_H R8
        obtain ⟨q0, q1, q2, q3, qf⟩ := four_H M7.m.r
        obtain ⟨p0, p1, p2, p3, p4, p5, p6, p7, p8, p9, p10⟩ := P8.cells
        obtain ⟨o0, o1, o2, o3, o4, o5, o6, o7, o8, o9, o10⟩ := M7.m.pg.cells
        obtain ⟨s0', s1', s2', s3', s4', s5', s6', s7', s8', s9', s10'⟩ := Z8.cells
        have zf := set_one_page Z8
        obtain ⟨ne1, ne2, ne3, ne4, ne5, ne6⟩ := htl
        clear M7 D8 k8 hc7 ht7 R8 P8 Z8 hfl0 M6 hS hc hf hs1 hs2
        go_wp2_with fail
        go_region
        go_wp2_with fail
        obtain ⟨hf1, hf2, hf3, hf4⟩ := hfl.out
        generalize World.setCell _ ⟨w.heap.size + 1 + 1, 10, none⟩ _ = WF at hf1 hf2 hf3 hf4 ⊢
        refine bodyPost_ret (res_HPE rfl _ _ _ _ _ _ rfl rfl hf1 rfl hf2.row) rfl ?_
        exact ⟨_, _, _, by rw [hV.out]; rfl, by rw [hL.out, hT.out]; exact hf3.low (lo_drew (Below.refl _ _)), lo_drew hf4⟩
      · have htz : w8.heap[w'.heap.size]? = some (.cells #[.int .i64 0, .slice none 0 0] 28 (0, 0)) := by first | exact blk_low (heap_alloc_new _ _) hb8 | exact blk_low (show (World.drew _).heap[_]? = _ from heap_alloc_new _ _) hb8
        have B56 : Below W6.heap.size W6 w8 := by (repeat (first | (with_reducible assumption) | (with_reducible exact Below.refl _ _) | (with_reducible refine lo_step ?_ (by assumption)) | (with_reducible refine lo_drew ?_) | (with_reducible refine lo_drewN ?_ _) | (with_reducible refine lo_alloc ?_ _) | (with_reducible refine lo_set ?_ ?_ _) | (exact Nat.le_refl _) | (exact hs2 _ (Nat.le_refl _)) | (exact hb'.size))) 
        have htl0 : W6.heap.size ≤ w'.heap.size := by first | exact Nat.le_refl _ | exact hb'.size
        have htl : w.heap.size ≠ w'.heap.size ∧ w.heap.size + 1 ≠ w'.heap.size ∧ w.heap.size + 1 + 1 ≠ w'.heap.size ∧ pb ≠ w'.heap.size ∧ w.heap.size + 1 + 1 < pb ∧ pb ≠ w.heap.size := by have h1 := (Array.getElem?_eq_some_iff.1 M6.m.pg.row).1; have h3 := HPB.out; omega
        have M7 := MZ.low M6 ((B56.setCell (p := ⟨w'.heap.size, 0, none⟩) htl0 (.int .i64 bl)).setCell (p := ⟨w'.heap.size, 1, none⟩) htl0 (.slice (some ⟨g6, 0, none⟩) n cap6))
        obtain ⟨hc7, ht7⟩ := fill_T hc6 htz (.int .i64 bl) (.slice (some ⟨g6, 0, none⟩) n cap6)
        clear htz B56 htl0
        generalize World.setCell (World.setCell w8 _ _) _ _ = W7 at *
        generalize w'.heap.size = tb at *
        obtain ⟨t0, t1⟩ := t_two ht7
        obtain ⟨D8, k8, _, f8⟩ := M7.m.dx.put2 (Nat.le_refl _) (Below.refl _ _) hc7 bl
        have P8 : RowP _ pb q.p := ⟨(k8 _ (by omega)).trans M7.m.pg.row⟩
        have R8 := (k8 _ (by omega)).trans M7.m.r
        have Z8 : RowP _ (w.heap.size + 1 + 1) Pg.zero := ⟨(k8 _ (by omega)).trans M7.z.row⟩
        have hfl0 := fill_H (ns := ns) (bl := bl) D8.dh D8.lo (by omega : w.heap.size ≤ w.heap.size + 1) R8 rfl
        have hfl := Lib.hid (fill_HP hfl0 q.p (by omega : w.heap.size ≤ w.heap.size + 1 + 1) (by omega : w.heap.size + 1 + 1 ≠ w.heap.size + 1) (far4 Z8 (by omega)))
        obtain ⟨z0', z1', z2', z3'⟩ := D8.cs
        obtain ⟨x0, x1, x2, x3⟩ := M7.m.dx.cs
        obtain ⟨r0, r1, r2, r3, rf⟩ := four_H R8
        obtain ⟨q0, q1, q2, q3, qf⟩ := four_H M7.m.r
        obtain ⟨p0, p1, p2, p3, p4, p5, p6, p7, p8, p9, p10⟩ := P8.cells
        obtain ⟨o0, o1, o2, o3, o4, o5, o6, o7, o8, o9, o10⟩ := M7.m.pg.cells
        obtain ⟨s0', s1', s2', s3', s4', s5', s6', s7', s8', s9', s10'⟩ := Z8.cells
        have zf := set_one_page Z8
        obtain ⟨ne1, ne2, ne3, ne4, ne5, ne6⟩ := htl
        clear M7 D8 k8 hc7 ht7 R8 P8 Z8 hfl0 M6 hS hc hf hs1 hs2
        go_wp2_with fail
        go_region
        go_wp2_with fail
        obtain ⟨hf1, hf2, hf3, hf4⟩ := hfl.out
        generalize World.setCell _ ⟨w.heap.size + 1 + 1, 10, none⟩ _ = WF at hf1 hf2 hf3 hf4 ⊢
        refine bodyPost_ret (res_HPE rfl _ _ _ _ _ _ rfl rfl hf1 rfl hf2.row) rfl ?_
        exact ⟨_, _, _, by rw [hV.out]; rfl, by rw [hL.out, hT.out]; exact hf3.low (lo_drew (Below.refl _ _)), lo_drew hf4⟩
      · have htz : w8.heap[W6.heap.size]? = some (.cells #[.int .i64 0, .slice none 0 0] 28 (0, 0)) := by first | exact blk_low (blk_low (heap_alloc_new _ _) hb') hb8 | exact blk_low (blk_low (show (World.drew _).heap[_]? = _ from heap_alloc_new _ _) hb') hb8
        have B56 : Below W6.heap.size W6 w8 := by (repeat (first | (with_reducible assumption) | (with_reducible exact Below.refl _ _) | (with_reducible refine lo_step ?_ (by assumption)) | (with_reducible refine lo_drew ?_) | (with_reducible refine lo_drewN ?_ _) | (with_reducible refine lo_alloc ?_ _) | (with_reducible refine lo_set ?_ ?_ _) | (exact Nat.le_refl _) | (exact hs2 _ (Nat.le_refl _)) | (exact hb'.size))) 
        have htl0 : W6.heap.size ≤ W6.heap.size := by first | exact Nat.le_refl _ | exact hb'.size
        have htl : w.heap.size ≠ W6.heap.size ∧ w.heap.size + 1 ≠ W6.heap.size ∧ w.heap.size + 1 + 1 ≠ W6.heap.size ∧ pb ≠ W6.heap.size ∧ w.heap.size + 1 + 1 < pb ∧ pb ≠ w.heap.size := by have h1 := (Array.getElem?_eq_some_iff.1 M6.m.pg.row).1; have h3 := HPB.out; omega
        have M7 := MZ.low M6 ((B56.setCell (p := ⟨W6.heap.size, 0, none⟩) htl0 (.int .i64 bl)).setCell (p := ⟨W6.heap.size, 1, none⟩) htl0 (.slice (some ⟨g6, 0, none⟩) n cap6))
        obtain ⟨hc7, ht7⟩ := fill_T hc6 htz (.int .i64 bl) (.slice (some ⟨g6, 0, none⟩) n cap6)
        clear htz B56 htl0
        generalize World.setCell (World.setCell w8 _ _) _ _ = W7 at *
        generalize W6.heap.size = tb at *
        obtain ⟨t0, t1⟩ := t_two ht7
        obtain ⟨D8, k8, _, f8⟩ := M7.m.dx.put2 (Nat.le_refl _) (Below.refl _ _) hc7 bl
        have P8 : RowP _ pb q.p := ⟨(k8 _ (by omega)).trans M7.m.pg.row⟩
        have R8 := (k8 _ (by omega)).trans M7.m.r
        have Z8 : RowP _ (w.heap.size + 1 + 1) Pg.zero := ⟨(k8 _ (by omega)).trans M7.z.row⟩
        have hfl0 := fill_H (ns := ns) (bl := bl) D8.dh D8.lo (by omega : w.heap.size ≤ w.heap.size + 1) R8 rfl
        have hfl := Lib.hid (fill_HP hfl0 q.p (by omega : w.heap.size ≤ w.heap.size + 1 + 1) (by omega : w.heap.size + 1 + 1 ≠ w.heap.size + 1) (far4 Z8 (by omega)))
        obtain ⟨z0', z1', z2', z3'⟩ := D8.cs
        obtain ⟨x0, x1, x2, x3⟩ := M7.m.dx.cs
        obtain ⟨r0, r1, r2, r3, rf⟩ := four_H R8
        obtain ⟨q0, q1, q2, q3, qf⟩ := four_H M7.m.r
        obtain ⟨p0, p1, p2, p3, p4, p5, p6, p7, p8, p9, p10⟩ := P8.cells
        obtain ⟨o0, o1, o2, o3, o4, o5, o6, o7, o8, o9, o10⟩ := M7.m.pg.cells
        obtain ⟨s0', s1', s2', s3', s4', s5', s6', s7', s8', s9', s10'⟩ := Z8.cells
        have zf := set_one_page Z8
        obtain ⟨ne1, ne2, ne3, ne4, ne5, ne6⟩ := htl
        clear M7 D8 k8 hc7 ht7 R8 P8 Z8 hfl0 M6 hS hc hf hs1 hs2
        go_wp2_with fail
        go_region
        go_wp2_with fail
        obtain ⟨hf1, hf2, hf3, hf4⟩ := hfl.out
        generalize World.setCell _ ⟨w.heap.size + 1 + 1, 10, none⟩ _ = WF at hf1 hf2 hf3 hf4 ⊢
        refine bodyPost_ret (res_HPE rfl _ _ _ _ _ _ rfl rfl hf1 rfl hf2.row) rfl ?_
        exact ⟨_, _, _, by rw [hV.out]; rfl, by rw [hL.out, hT.out]; exact hf3.low (lo_drew (Below.refl _ _)), lo_drew hf4⟩
    · have had : ad = ⟨g, (j + 1) * 12, none⟩ := by rw [HAD.out, if_neg hci]
      subst had
      clear HAD
      go_wp2_with (first
        | (at_builtin; refine Lib.wpList_append_run _ rfl _ _ 25 25 rfl _ _ rfl rfl _ _ (HRW.out _ rfl) ?_)
        | (at_builtin; refine Lib.wpList_append_run _ rfl _ _ 25 25 rfl _ _ rfl rfl _ _ (hrun5 _) ?_)
        | (at_builtin; refine Lib.wpList_append_run _ rfl _ _ 25 25 rfl _ _ rfl rfl _ _ hrun5 ?_))
      generalize World.setCell W5 _ _ = W6 at *
      generalize w2.heap.size = pb at *
      clear HRW hrun5 x0' x1' x2' x3' w4x0 w4x1 w4x2 w4x3 c6 f6 y0 y1 y2 y3 y4 y5 y6 y7 y8 y9 y10 y11 x0 x1 x2 x3
      go_region_held3 (fun w1 => (w1.cell? ⟨w.heap.size, 2, none⟩ = some (.int .i64 bl) ∧ w1.cell? ⟨w.heap.size, 3, none⟩ = some (.slice (some ⟨g2, 0, none⟩) n cap2)) ∧ w1.cell? ⟨pb, 0, none⟩ = some (.int .u64 q.p.va) ∧ w1.cell? ⟨pb, 1, none⟩ = some (.int .i64 q.p.sz))
        ((refine (MX.four (MZ.m (MZ.low M6 ?_))); (repeat (first | (with_reducible assumption) | (with_reducible exact Below.refl _ _) | (with_reducible refine lo_step ?_ (by assumption)) | (with_reducible refine lo_drew ?_) | (with_reducible refine lo_drewN ?_ _) | (with_reducible refine lo_alloc ?_ _) | (with_reducible refine lo_set ?_ ?_ _) | (exact Nat.le_refl _) | (exact hs2 _ (Nat.le_refl _)) | (exact hb'.size))) ))
        (first
          | (go_at_call 69; (with_reducible refine (C3.out _).mono ?_); rintro e w' ⟨rfl, hb'⟩; obtain ⟨kc, kf, ks1, ks2⟩ := bfacts hb')
          | (go_at_call 71; (with_reducible refine (C4.out _ _ (MZ.low M6 (by (repeat (first | (with_reducible assumption) | (with_reducible exact Below.refl _ _) | (with_reducible refine lo_step ?_ (by assumption)) | (with_reducible refine lo_drew ?_) | (with_reducible refine lo_drewN ?_ _) | (with_reducible refine lo_alloc ?_ _) | (with_reducible refine lo_set ?_ ?_ _) | (exact Nat.le_refl _) | (exact hs2 _ (Nat.le_refl _)) | (exact hb'.size))) ))).mono ?_); rintro e w8 ⟨s', rfl, hD⟩; obtain ⟨g6, cap6, rfl⟩ := hD.form; obtain ⟨U', hc6, _, hb8⟩ := hD; obtain ⟨hc, hf, hs1, hs2⟩ := bfacts hb8; (try have hv : W6.heap.size < w'.heap.size := by (have hsz := hb'.size; (try simp only [World.size_alloc] at hsz); (first | omega | (simp at hsz; omega))))))
      · have M7 := MZ.low M6 (show Below W6.heap.size W6 (w8.alloc (.cells #[.int .i64 bl, .slice (some ⟨g6, 0, none⟩) n cap6] 28)) by (repeat (first | (with_reducible assumption) | (with_reducible exact Below.refl _ _) | (with_reducible refine lo_step ?_ (by assumption)) | (with_reducible refine lo_drew ?_) | (with_reducible refine lo_drewN ?_ _) | (with_reducible refine lo_alloc ?_ _) | (with_reducible refine lo_set ?_ ?_ _) | (exact Nat.le_refl _) | (exact hs2 _ (Nat.le_refl _)) | (exact hb'.size))) )
        have hc7 := hc6.alloc (.cells #[.int .i64 bl, .slice (some ⟨g6, 0, none⟩) n cap6] 28)
        have ht7 := heap_alloc_new w8 (.cells #[.int .i64 bl, .slice (some ⟨g6, 0, none⟩) n cap6] 28)
        have htl : w.heap.size ≠ w8.heap.size ∧ w.heap.size + 1 ≠ w8.heap.size ∧ w.heap.size + 1 + 1 ≠ w8.heap.size ∧ pb ≠ w8.heap.size ∧ w.heap.size + 1 + 1 < pb ∧ pb ≠ w.heap.size := by have h1 := (Array.getElem?_eq_some_iff.1 M6.m.pg.row).1; have h2 : W6.heap.size ≤ w8.heap.size := Below.size (show Below W6.heap.size W6 w8 by (repeat (first | (with_reducible assumption) | (with_reducible exact Below.refl _ _) | (with_reducible refine lo_step ?_ (by assumption)) | (with_reducible refine lo_drew ?_) | (with_reducible refine lo_drewN ?_ _) | (with_reducible refine lo_alloc ?_ _) | (with_reducible refine lo_set ?_ ?_ _) | (exact Nat.le_refl _) | (exact hs2 _ (Nat.le_refl _)) | (exact hb'.size))) ); have h3 := HPB.out; omega
        generalize World.alloc w8 _ = W7 at *
        generalize w8.heap.size = tb at *
        obtain ⟨t0, t1⟩ := t_two ht7
        obtain ⟨D8, k8, _, f8⟩ := M7.m.dx.put2 (Nat.le_refl _) (Below.refl _ _) hc7 bl
        have P8 : RowP _ pb q.p := ⟨(k8 _ (by omega)).trans M7.m.pg.row⟩
        have R8 := (k8 _ (by omega)).trans M7.m.r
        have Z8 : RowP _ (w.heap.size + 1 + 1) Pg.zero := ⟨(k8 _ (by omega)).trans M7.z.row⟩
        have hfl0 := fill_H (ns := ns) (bl := bl) D8.dh D8.lo (by omega : w.heap.size ≤ w.heap.size + 1) R8 rfl
        have hfl := Lib.hid (fill_HP hfl0 q.p (by omega : w.heap.size ≤ w.heap.size + 1 + 1) (by omega : w.heap.size + 1 + 1 ≠ w.heap.size + 1) (far4 Z8 (by omega)))
        obtain ⟨z0', z1', z2', z3'⟩ := D8.cs
        obtain ⟨x0, x1, x2, x3⟩ := M7.m.dx.cs
        obtain ⟨r0, r1, r2, r3, rf⟩ := four_H R8
        obtain ⟨q0, q1, q2, q3, qf⟩ := four_H M7.m.r
        obtain ⟨p0, p1, p2, p3, p4, p5, p6, p7, p8, p9, p10⟩ := P8.cells
        obtain ⟨o0, o1, o2, o3, o4, o5, o6, o7, o8, o9, o10⟩ := M7.m.pg.cells
        obtain ⟨s0', s1', s2', s3', s4', s5', s6', s7', s8', s9', s10'⟩ := Z8.cells
        have zf := set_one_page Z8
        obtain ⟨ne1, ne2, ne3, ne4, ne5, ne6⟩ := htl
        clear M7 D8 k8 hc7 ht7 R8 P8 Z8 hfl0 M6 hS hc hf hs1 hs2
        go_wp2_with fail
        go_region
        go_wp2_with fail
        obtain ⟨hf1, hf2, hf3, hf4⟩ := hfl.out
        generalize World.setCell _ ⟨w.heap.size + 1 + 1, 10, none⟩ _ = WF at hf1 hf2 hf3 hf4 ⊢
        refine bodyPost_ret (res_HPE rfl _ _ _ _ _ _ rfl rfl hf1 rfl hf2.row) rfl ?_
        exact ⟨_, _, _, by rw [hV.out]; rfl, by rw [hL.out, hT.out]; exact hf3.low (lo_drew (Below.refl _ _)), lo_drew hf4⟩
      · have htz : w8.heap[w'.heap.size]? = some (.cells #[.int .i64 0, .slice none 0 0] 28 (0, 0)) := by first | exact blk_low (heap_alloc_new _ _) hb8 | exact blk_low (show (World.drew _).heap[_]? = _ from heap_alloc_new _ _) hb8
        have B56 : Below W6.heap.size W6 w8 := by (repeat (first | (with_reducible assumption) | (with_reducible exact Below.refl _ _) | (with_reducible refine lo_step ?_ (by assumption)) | (with_reducible refine lo_drew ?_) | (with_reducible refine lo_drewN ?_ _) | (with_reducible refine lo_alloc ?_ _) | (with_reducible refine lo_set ?_ ?_ _) | (exact Nat.le_refl _) | (exact hs2 _ (Nat.le_refl _)) | (exact hb'.size))) 
        have htl0 : W6.heap.size ≤ w'.heap.size := by first | exact Nat.le_refl _ | exact hb'.size
        have htl : w.heap.size ≠ w'.heap.size ∧ w.heap.size + 1 ≠ w'.heap.size ∧ w.heap.size + 1 + 1 ≠ w'.heap.size ∧ pb ≠ w'.heap.size ∧ w.heap.size + 1 + 1 < pb ∧ pb ≠ w.heap.size := by have h1 := (Array.getElem?_eq_some_iff.1 M6.m.pg.row).1; have h3 := HPB.out; omega
        have M7 := MZ.low M6 ((B56.setCell (p := ⟨w'.heap.size, 0, none⟩) htl0 (.int .i64 bl)).setCell (p := ⟨w'.heap.size, 1, none⟩) htl0 (.slice (some ⟨g6, 0, none⟩) n cap6))
        obtain ⟨hc7, ht7⟩ := fill_T hc6 htz (.int .i64 bl) (.slice (some ⟨g6, 0, none⟩) n cap6)
        clear htz B56 htl0
        generalize World.setCell (World.setCell w8 _ _) _ _ = W7 at *
        generalize w'.heap.size = tb at *
        obtain ⟨t0, t1⟩ := t_two ht7
        obtain ⟨D8, k8, _, f8⟩ := M7.m.dx.put2 (Nat.le_refl _) (Below.refl _ _) hc7 bl
        have P8 : RowP _ pb q.p := ⟨(k8 _ (by omega)).trans M7.m.pg.row⟩
        have R8 := (k8 _ (by omega)).trans M7.m.r
        have Z8 : RowP _ (w.heap.size + 1 + 1) Pg.zero := ⟨(k8 _ (by omega)).trans M7.z.row⟩
        have hfl0 := fill_H (ns := ns) (bl := bl) D8.dh D8.lo (by omega : w.heap.size ≤ w.heap.size + 1) R8 rfl
        have hfl := Lib.hid (fill_HP hfl0 q.p (by omega : w.heap.size ≤ w.heap.size + 1 + 1) (by omega : w.heap.size + 1 + 1 ≠ w.heap.size + 1) (far4 Z8 (by omega)))
        obtain ⟨z0', z1', z2', z3'⟩ := D8.cs
        obtain ⟨x0, x1, x2, x3⟩ := M7.m.dx.cs
        obtain ⟨r0, r1, r2, r3, rf⟩ := four_H R8
        obtain ⟨q0, q1, q2, q3, qf⟩ := four_H M7.m.r
        obtain ⟨p0, p1, p2, p3, p4, p5, p6, p7, p8, p9, p10⟩ := P8.cells
        obtain ⟨o0, o1, o2, o3, o4, o5, o6, o7, o8, o9, o10⟩ := M7.m.pg.cells
        obtain ⟨s0', s1', s2', s3', s4', s5', s6', s7', s8', s9', s10'⟩ := Z8.cells
        have zf := set_one_page Z8
        obtain ⟨ne1, ne2, ne3, ne4, ne5, ne6⟩ := htl
        clear M7 D8 k8 hc7 ht7 R8 P8 Z8 hfl0 M6 hS hc hf hs1 hs2
        go_wp2_with fail
        go_region
        go_wp2_with fail
        obtain ⟨hf1, hf2, hf3, hf4⟩ := hfl.out
        generalize World.setCell _ ⟨w.heap.size + 1 + 1, 10, none⟩ _ = WF at hf1 hf2 hf3 hf4 ⊢
        refine bodyPost_ret (res_HPE rfl _ _ _ _ _ _ rfl rfl hf1 rfl hf2.row) rfl ?_
        exact ⟨_, _, _, by rw [hV.out]; rfl, by rw [hL.out, hT.out]; exact hf3.low (lo_drew (Below.refl _ _)), lo_drew hf4⟩
      · have htz : w8.heap[W6.heap.size]? = some (.cells #[.int .i64 0, .slice none 0 0] 28 (0, 0)) := by first | exact blk_low (blk_low (heap_alloc_new _ _) hb') hb8 | exact blk_low (blk_low (show (World.drew _).heap[_]? = _ from heap_alloc_new _ _) hb') hb8
        have B56 : Below W6.heap.size W6 w8 := by (repeat (first | (with_reducible assumption) | (with_reducible exact Below.refl _ _) | (with_reducible refine lo_step ?_ (by assumption)) | (with_reducible refine lo_drew ?_) | (with_reducible refine lo_drewN ?_ _) | (with_reducible refine lo_alloc ?_ _) | (with_reducible refine lo_set ?_ ?_ _) | (exact Nat.le_refl _) | (exact hs2 _ (Nat.le_refl _)) | (exact hb'.size))) 
        have htl0 : W6.heap.size ≤ W6.heap.size := by first | exact Nat.le_refl _ | exact hb'.size
        have htl : w.heap.size ≠ W6.heap.size ∧ w.heap.size + 1 ≠ W6.heap.size ∧ w.heap.size + 1 + 1 ≠ W6.heap.size ∧ pb ≠ W6.heap.size ∧ w.heap.size + 1 + 1 < pb ∧ pb ≠ w.heap.size := by have h1 := (Array.getElem?_eq_some_iff.1 M6.m.pg.row).1; have h3 := HPB.out; omega
        have M7 := MZ.low M6 ((B56.setCell (p := ⟨W6.heap.size, 0, none⟩) htl0 (.int .i64 bl)).setCell (p := ⟨W6.heap.size, 1, none⟩) htl0 (.slice (some ⟨g6, 0, none⟩) n cap6))
        obtain ⟨hc7, ht7⟩ := fill_T hc6 htz (.int .i64 bl) (.slice (some ⟨g6, 0, none⟩) n cap6)
        clear htz B56 htl0
        generalize World.setCell (World.setCell w8 _ _) _ _ = W7 at *
        generalize W6.heap.size = tb at *
        obtain ⟨t0, t1⟩ := t_two ht7
        obtain ⟨D8, k8, _, f8⟩ := M7.m.dx.put2 (Nat.le_refl _) (Below.refl _ _) hc7 bl
        have P8 : RowP _ pb q.p := ⟨(k8 _ (by omega)).trans M7.m.pg.row⟩
        have R8 := (k8 _ (by omega)).trans M7.m.r
        have Z8 : RowP _ (w.heap.size + 1 + 1) Pg.zero := ⟨(k8 _ (by omega)).trans M7.z.row⟩
        have hfl0 := fill_H (ns := ns) (bl := bl) D8.dh D8.lo (by omega : w.heap.size ≤ w.heap.size + 1) R8 rfl
        have hfl := Lib.hid (fill_HP hfl0 q.p (by omega : w.heap.size ≤ w.heap.size + 1 + 1) (by omega : w.heap.size + 1 + 1 ≠ w.heap.size + 1) (far4 Z8 (by omega)))
        obtain ⟨z0', z1', z2', z3'⟩ := D8.cs
        obtain ⟨x0, x1, x2, x3⟩ := M7.m.dx.cs
        obtain ⟨r0, r1, r2, r3, rf⟩ := four_H R8
        obtain ⟨q0, q1, q2, q3, qf⟩ := four_H M7.m.r
        obtain ⟨p0, p1, p2, p3, p4, p5, p6, p7, p8, p9, p10⟩ := P8.cells
        obtain ⟨o0, o1, o2, o3, o4, o5, o6, o7, o8, o9, o10⟩ := M7.m.pg.cells
        obtain ⟨s0', s1', s2', s3', s4', s5', s6', s7', s8', s9', s10'⟩ := Z8.cells
        have zf := set_one_page Z8
        obtain ⟨ne1, ne2, ne3, ne4, ne5, ne6⟩ := htl
        clear M7 D8 k8 hc7 ht7 R8 P8 Z8 hfl0 M6 hS hc hf hs1 hs2
        go_wp2_with fail
        go_region
        go_wp2_with fail
        obtain ⟨hf1, hf2, hf3, hf4⟩ := hfl.out
        generalize World.setCell _ ⟨w.heap.size + 1 + 1, 10, none⟩ _ = WF at hf1 hf2 hf3 hf4 ⊢
        refine bodyPost_ret (res_HPE rfl _ _ _ _ _ _ rfl rfl hf1 rfl hf2.row) rfl ?_
        exact ⟨_, _, _, by rw [hV.out]; rfl, by rw [hL.out, hT.out]; exact hf3.low (lo_drew (Below.refl _ _)), lo_drew hf4⟩
  · rw [if_neg h0] at hV hL hT
    have hfl0 := fill_H (ns := ns) (bl := bl) X1.dh X1.lo (by omega : w.heap.size ≤ w.heap.size + 1) R1 rfl
    have hfl1 := fill_HP hfl0 Pg.zero (by omega : w.heap.size ≤ w.heap.size + 1 + 1) (by omega : w.heap.size + 1 + 1 ≠ w.heap.size + 1) (far4 Z1 (by omega))
    dsimp only [Pg.zero] at hfl1
    have hfl := Lib.hid hfl1
    clear hfl1
    obtain ⟨x0, x1, x2, x3⟩ := X1.cs
    obtain ⟨r0, r1, r2, r3, rf⟩ := four_H R1
    obtain ⟨s0', s1', s2', s3', s4', s5', s6', s7', s8', s9', s10'⟩ := Z1.cells
    have zf := set_one_page Z1
    clear X1 R1 Z1 hfl0 hW C2
    go_wp2_with fail
    refine bodyPost_ret (res_HPE rfl _ _ _ _ _ _ rfl rfl hfl.out.1 rfl hfl.out.2.1.row) rfl ?_
    exact ⟨_, _, _, by rw [hV.out]; rfl, by rw [hL.out, hT.out]; exact hfl.out.2.2.1, hfl.out.2.2.2⟩
end
end Go.Proofs.YtffpfceclhogoaaGreat.Hp
