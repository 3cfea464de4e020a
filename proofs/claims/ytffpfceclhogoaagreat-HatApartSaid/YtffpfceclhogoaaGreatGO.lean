/-
  YtffpfceclhogoaaGreatGO: the contracts and plain facts of several texts, laid together. Conditions: those that each theorem names.
-/
import Derived.Test.YtffpfceclhogoaaGreatGM
import Derived.Test.YtffpfceclhogoaaGreatGN
namespace Go.Proofs.YtffpfceclhogoaaGreat.Hp
open Fld Hs
open Go.ChangeShapes Go.WideShapes Go.ChangeAt Go.RowKit Go.Maps
set_option maxHeartbeats 4000000
set_option maxRecDepth 100000
theorem res_HLE {fn : Func} {p q u : Tmp} (h : fn.results = #[.cell p 30, .tmp q, .tmp u]) (tmps : Array Value) (w : World) (g : Nat) (x : Array Value) (hp : tmps.getD p undef = .pointer (some ⟨g, 0, none⟩)) (hR : w.heap[g]? = some (.cells x 30 (0, 0))) (hx : x.size = 4) :
    (results fn tmps).run Tryz.prog w = .ok (.tuple #[.agg x, tmps.getD q undef, tmps.getD u undef]) w := by
  have hl := run_loadVar_row (P := Tryz.prog) w g 30 30 x (0, 0) _ hR Tryz.underlying30 (by kernel_rfl) (by rw [hx]; kernel_rfl)
  have e : (results fn tmps).run Tryz.prog w = ((asAddr (tmps.getD p undef)).run Tryz.prog w).andThen fun a w₁ => ((loadVar 30 a).run Tryz.prog w₁).andThen fun y1 w₂ => .ok (.tuple #[y1, tmps.getD q undef, tmps.getD u undef]) w₂ := by
    simp only [results, h]
    simp [Sem.run_bind, Result.andThen]
  rw [e, hp]
  simp only [asAddr, Sem.run_pure, Result.andThen_ok, hl]
def ddS (ns : Int) (n : Nat) (s : Int) (P : List Pg) (st : List SPg × (Nat → List Hs.Bk)) : List SPg × (Nat → List Hs.Bk) := P.foldl (fun st p => (dunL ns st.1 s p.va, dunT ns st.1 n st.2 s p.va)) st
def ddE (ns s : Int) : Int := if isB ns s = true then 0 else 1
def ddP (ns : Int) (l : List SPg) (s : Int) : List Pg := if isB ns s = true then dpgs l s else []
def ddR (ns : Int) (n : Nat) (l : List SPg) (LT : Nat → List Hs.Bk) (s : Int) : List SPg × (Nat → List Hs.Bk) := if isB ns s = true then ddS ns n s (dpgs l s) (l, LT) else (l, LT)
theorem ddS_succ {ns : Int} {n : Nat} {s : Int} {P : List Pg} {st : List SPg × (Nat → List Hs.Bk)} {i : Nat} (h : i < P.length) : ddS ns n s (P.take (i + 1)) st = (dunL ns (ddS ns n s (P.take i) st).1 s (pat P i).va, dunT ns (ddS ns n s (P.take i) st).1 n (ddS ns n s (P.take i) st).2 s (pat P i).va) := by
  have e : P[i]? = some (pat P i) := by simp [pat, h]
  unfold ddS
  rw [List.take_add_one, e]
  simp
theorem insP_mem {out : List Pg} {p x : Pg} (h : x ∈ insP out p) : x ∈ out ∨ x = p := by
  unfold insP at h
  rcases List.mem_append.1 h with h | h
  · rcases List.mem_append.1 h with h | h
    · exact .inl (List.mem_of_mem_take h)
    · exact .inr (by simpa using h)
  · exact .inl (List.mem_of_mem_drop h)
theorem dpgs_mem (l : List SPg) (s : Int) : ∀ j, j ≤ l.length → ∀ x ∈ dpgs (l.take j) s, ∃ y ∈ l, y.p = x
  | 0, _, x, h => by simp [dpgs] at h
  | j + 1, hj, x, h => by
    rw [dpgs_succ (by omega)] at h
    unfold stpP at h
    split at h
    · rcases insP_mem h with h | rfl
      · exact dpgs_mem l s j (by omega) x h
      · exact ⟨_, sat_mem (by omega), rfl⟩
    · exact dpgs_mem l s j (by omega) x h
theorem dpgs_wf {l : List SPg} {s : Int} (h : ∀ x ∈ l, x.wf) : ∀ x ∈ dpgs l s, x.wf := fun x hx => by
  obtain ⟨y, hy, rfl⟩ := dpgs_mem l s l.length (Nat.le_refl _) x (by rwa [List.take_length])
  exact (h y hy).p
/-- A hat in a box, a result's box, a list of pages. -/
structure DG2 (u w : World) (xb rb : Nat) (ns bl : Int) (v : Value) (l : List SPg) (s : Value) (n : Nat) (LT : Nat → List Hs.Bk) (U : Nat → Value) (o : Value) (P : List Pg) : Prop where
  dx : DX u w xb ns bl v l s n LT U
  r : w.heap[rb]? = some (.cells #[.int .i64 0, .slice none 0 0, .int .i64 0, .slice none 0 0] 30 (0, 0))
  own : w.ownsRow u.heap.size 38 11 o P.length (pgL P)
theorem DG2.low {u w w' : World} {xb rb : Nat} {ns bl : Int} {v : Value} {l : List SPg} {s : Value} {n : Nat} {LT : Nat → List Hs.Bk} {U : Nat → Value} {o : Value} {P : List Pg} (h : DG2 u w xb rb ns bl v l s n LT U o P) (hb : Below w.heap.size w w') : DG2 u w' xb rb ns bl v l s n LT U o P :=
  ⟨h.dx.low hb, blk_low h.r hb, own_same h.own (fun g hg => hb.block g (h.own.lt g hg).2)⟩
/-- A hat in a new box. -/
structure DN (u W : World) (nb : Nat) (ns bl : Int) (v : Value) (l : List SPg) (s : Value) (n : Nat) (LT : Nat → List Hs.Bk) (U : Nat → Value) : Prop where
  dh : DH W v l s n LT U
  row : W.heap[nb]? = some (.cells #[.int .i64 ns, v, .int .i64 bl, s] 30 (0, 0))
  lo : Below u.heap.size u W
  nl : u.heap.size ≤ nb
section
variable {u W : World} {nb : Nat} {ns bl : Int} {v : Value} {l : List SPg} {s : Value} {n : Nat} {LT : Nat → List Hs.Bk} {U : Nat → Value}
theorem DN.new (h : DH W v l s n LT U) (lo : Below u.heap.size u W) (ns bl : Int) : DN u (W.alloc (.cells #[.int .i64 ns, v, .int .i64 bl, s] 30)) W.heap.size ns bl v l s n LT U :=
  ⟨h.low ((Below.refl _ _).alloc (Nat.le_refl _) _), heap_alloc_new _ _, lo_alloc lo _, lo.size⟩
theorem DN.fill (h : DH W v l s n LT U) (lo : Below u.heap.size u W) (nl : u.heap.size ≤ nb) {a b c d : Value} (hr : W.heap[nb]? = some (.cells #[a, b, c, d] 30 (0, 0))) : DN u ((((W.setCell ⟨nb, 0, none⟩ (.int .i64 ns)).setCell ⟨nb, 1, none⟩ v).setCell ⟨nb, 2, none⟩ (.int .i64 bl)).setCell ⟨nb, 3, none⟩ s) nb ns bl v l s n LT U :=
  have f := fill_H (ns := ns) (bl := bl) h lo nl hr rfl
  ⟨f.2.1, f.1, f.2.2, nl⟩
theorem DN.alloc (h : DN u W nb ns bl v l s n LT U) (o : Obj) : DN u (W.alloc o) nb ns bl v l s n LT U :=
  ⟨h.dh.low ((Below.refl _ _).alloc (Nat.le_refl _) _), blk_low h.row ((Below.refl _ _).alloc (Nat.le_refl _) _), lo_alloc h.lo _, h.nl⟩
theorem DN.page (h : DN u W nb ns bl v l s n LT U) {zb : Nat} {z : Pg} (Z : RowP W zb z) (zl : u.heap.size ≤ zb) (hn : zb ≠ nb) (x : Pg) : DN u (((((((((((W.setCell ⟨zb, 0, none⟩ (.int .u64 x.va)).setCell ⟨zb, 1, none⟩ (.int .i64 x.sz)).setCell ⟨zb, 2, none⟩ (.int .u64 x.pa)).setCell ⟨zb, 3, none⟩ (.bool x.att.write)).setCell ⟨zb, 4, none⟩ (.bool x.att.priv)).setCell ⟨zb, 5, none⟩ (.bool x.att.exec)).setCell ⟨zb, 6, none⟩ (.bool x.att.lock)).setCell ⟨zb, 7, none⟩ (.bool x.att.global)).setCell ⟨zb, 8, none⟩ (.bool x.att.quiet)).setCell ⟨zb, 9, none⟩ (.bool x.ref)).setCell ⟨zb, 10, none⟩ (.bool x.mod)) nb ns bl v l s n LT U :=
  have f := fill_HP ⟨h.row, h.dh, h.lo⟩ x zl hn Z
  ⟨f.2.2.1, f.1, f.2.2.2, h.nl⟩
theorem dh_page (h : DH W v l s n LT U) (lo : Below u.heap.size u W) {zb : Nat} {z : Pg} (Z : RowP W zb z) (zl : u.heap.size ≤ zb) (x : Pg) : DH (((((((((((W.setCell ⟨zb, 0, none⟩ (.int .u64 x.va)).setCell ⟨zb, 1, none⟩ (.int .i64 x.sz)).setCell ⟨zb, 2, none⟩ (.int .u64 x.pa)).setCell ⟨zb, 3, none⟩ (.bool x.att.write)).setCell ⟨zb, 4, none⟩ (.bool x.att.priv)).setCell ⟨zb, 5, none⟩ (.bool x.att.exec)).setCell ⟨zb, 6, none⟩ (.bool x.att.lock)).setCell ⟨zb, 7, none⟩ (.bool x.att.global)).setCell ⟨zb, 8, none⟩ (.bool x.att.quiet)).setCell ⟨zb, 9, none⟩ (.bool x.ref)).setCell ⟨zb, 10, none⟩ (.bool x.mod)) v l s n LT U ∧ Below u.heap.size u (((((((((((W.setCell ⟨zb, 0, none⟩ (.int .u64 x.va)).setCell ⟨zb, 1, none⟩ (.int .i64 x.sz)).setCell ⟨zb, 2, none⟩ (.int .u64 x.pa)).setCell ⟨zb, 3, none⟩ (.bool x.att.write)).setCell ⟨zb, 4, none⟩ (.bool x.att.priv)).setCell ⟨zb, 5, none⟩ (.bool x.att.exec)).setCell ⟨zb, 6, none⟩ (.bool x.att.lock)).setCell ⟨zb, 7, none⟩ (.bool x.att.global)).setCell ⟨zb, 8, none⟩ (.bool x.att.quiet)).setCell ⟨zb, 9, none⟩ (.bool x.ref)).setCell ⟨zb, 10, none⟩ (.bool x.mod)) :=
  ⟨h.far2 Z.row (fun _ hk => row_far x hk), lo.trans ((Z.setAll x).2 _ zl)⟩
theorem RowP.far_H {zb : Nat} {x : Pg} (h : RowP W zb x) (hn : zb ≠ nb) {a b c d : Value} : RowP ((((W.setCell ⟨nb, 0, none⟩ a).setCell ⟨nb, 1, none⟩ b).setCell ⟨nb, 2, none⟩ c).setCell ⟨nb, 3, none⟩ d) zb x := far4 h hn
theorem DG2.put {w : World} {xb rb : Nat} {v0 s0 : Value} {l0 : List SPg} {n0 : Nat} {LT0 : Nat → List Hs.Bk} {U0 : Nat → Value} {o : Value} {P : List Pg} (G : DG2 w W xb rb ns bl v0 l0 s0 n0 LT0 U0 o P) (h : DH W v l s n LT U) (hx : w.heap.size ≤ xb) (hr : rb ≠ xb) :
    DG2 w ((((W.setCell ⟨xb, 0, none⟩ (.int .i64 ns)).setCell ⟨xb, 1, none⟩ v).setCell ⟨xb, 2, none⟩ (.int .i64 bl)).setCell ⟨xb, 3, none⟩ s) xb rb ns bl v l s n LT U o P := by
  have f := fill_H (ns := ns) (bl := bl) h G.dx.lo hx G.dx.hx rfl
  have hk : ∀ k, k ≠ xb → (((((W.setCell ⟨xb, 0, none⟩ (.int .i64 ns)).setCell ⟨xb, 1, none⟩ v).setCell ⟨xb, 2, none⟩ (.int .i64 bl)).setCell ⟨xb, 3, none⟩ s)).heap[k]? = W.heap[k]? := fun k hk => by
    rw [Below.heap_setCell _ _ _ _ hk, Below.heap_setCell _ _ _ _ hk, Below.heap_setCell _ _ _ _ hk, Below.heap_setCell _ _ _ _ hk]
  refine ⟨⟨f.2.1, f.1, f.2.2⟩, (hk _ hr).trans G.r, own_same G.own (fun g hg => hk g ?_)⟩
  rintro rfl
  obtain ⟨cur, hc⟩ := own_obj G.own hg
  rw [G.dx.hx] at hc; injection hc with hc; injection hc with _ hc _
  exact absurd hc (by decide)
end
theorem DG2.reads {u w : World} {xb rb : Nat} {ns bl : Int} {v : Value} {l : List SPg} {s : Value} {n : Nat} {LT : Nat → List Hs.Bk} {U : Nat → Value} {g c : Nat} {P : List Pg} (h : DG2 u w xb rb ns bl v l s n LT U (.slice (some ⟨g, 0, none⟩) P.length c) P) {j : Nat} {va : Int} (hj : Hid (j < P.length ∧ va = (pat P j).va)) :
    (w.cell? ⟨xb, 0, none⟩ = some (.int .i64 ns) ∧ w.cell? ⟨xb, 1, none⟩ = some v ∧ w.cell? ⟨xb, 2, none⟩ = some (.int .i64 bl) ∧ w.cell? ⟨xb, 3, none⟩ = some s) ∧ w.cell? ⟨g, j * 11, none⟩ = some (.int .u64 va) := by
  obtain ⟨hjl, rfl⟩ := hj.out
  exact ⟨h.dx.cs, (own_page h.own rfl hjl).1⟩
section
variable {v : Value} {l : List SPg} {t : Value} {n : Nat} {LT : Nat → List Hs.Bk} {U : Nat → Value}
theorem ddes_any (ns bl s : Int) (s0 : -9223372036854775808 ≤ s) (s1 : s ≤ 9223372036854775807) (w : World) (h : DH w v l t n LT U) :
    Calls Tryz.prog 34 #[.agg #[.int .i64 ns, v, .int .i64 bl, t], .int .i64 s] w fun e w' => ∃ v' t' U' o, e = .returned (.tuple #[.agg #[.int .i64 ns, v', .int .i64 bl, t'], o, .int .i64 (ddE ns s)]) ∧ DH w' v' (ddR ns n l LT s).1 t' n (ddR ns n l LT s).2 U' ∧ w'.ownsRow w.heap.size 38 11 o (ddP ns l s).length (pgL (ddP ns l s)) ∧ Below w.heap.size w w' := by
  have X := DX.new h ns bl
  obtain ⟨⟨ao, cap, rfl⟩, g2, cap2, rfl⟩ := h.shape
  have hl := h.few
  have hwf0 := h.wf
  have CI := Lib.hid (fun (W : World) => dis_any (.slice ao l.length cap) (.slice (some ⟨g2, 0, none⟩) n cap2) ns bl s rfl rfl W)
  have CP := Lib.hid (fun (W : World) (h : DX w W w.heap.size ns bl (.slice ao l.length cap) l (.slice (some ⟨g2, 0, none⟩) n cap2) n LT U) => dpages_any ns bl s W h.dh)
  have N1 : Below (w.alloc (.cells #[.int .i64 ns, .slice ao l.length cap, .int .i64 bl, .slice (some ⟨g2, 0, none⟩) n cap2] 30)).heap.size (w.alloc (.cells #[.int .i64 ns, .slice ao l.length cap, .int .i64 bl, .slice (some ⟨g2, 0, none⟩) n cap2] 30)) ((w.alloc (.cells #[.int .i64 ns, .slice ao l.length cap, .int .i64 bl, .slice (some ⟨g2, 0, none⟩) n cap2] 30)).alloc (.cells #[.int .i64 0, .slice none 0 0, .int .i64 0, .slice none 0 0] 30)) := (Below.refl _ _).alloc (Nat.le_refl _) _
  have R := heap_alloc_new (w.alloc (.cells #[.int .i64 ns, .slice ao l.length cap, .int .i64 bl, .slice (some ⟨g2, 0, none⟩) n cap2] 30)) (.cells #[.int .i64 0, .slice none 0 0, .int .i64 0, .slice none 0 0] 30)
  rw [World.size_alloc] at R
  have X0 := X.low N1
  clear N1 X h
  go_enter Tryz.func34, Tryz.ntmps34
  have hE := Lib.hid (show ddE ns s = if isB ns s = true then 0 else 1 from rfl)
  have hP := Lib.hid (show ddP ns l s = if isB ns s = true then dpgs l s else [] from rfl)
  have hR := Lib.hid (show ddR ns n l LT s = if isB ns s = true then ddS ns n s (dpgs l s) (l, LT) else (l, LT) from rfl)
  go_wp2_with fail
  generalize World.alloc (World.alloc w _) _ = W0 at *
  refine (CI.out _).mono ?_; rintro e w1 ⟨rfl, hb1⟩
  have X1 := X0.low hb1
  have R1 := blk_low R hb1
  clear X0 R CI hb1
  cases hB : isB ns s
  · rw [hB] at hE hP hR
    rw [if_neg (by decide)] at hE hP hR
    obtain ⟨x0, x1, x2, x3⟩ := X1.cs
    obtain ⟨r0, r1, r2, r3, rf⟩ := four_H R1
    have hfl := Lib.hid (fill_H (ns := ns) (bl := bl) X1.dh X1.lo (by omega : w.heap.size ≤ w.heap.size + 1) R1 rfl)
    clear X1 R1 CP
    go_wp2_with fail
    refine bodyPost_ret (res_HLE rfl _ _ _ _ rfl hfl.out.1 rfl) rfl ?_
    exact ⟨_, _, U, _, by rw [hE.out]; rfl, by rw [hR.out]; exact hfl.out.2.1, by rw [hP.out]; exact World.ownsRow_nil _ _ _ 11, hfl.out.2.2⟩
  · rw [hB] at hE hP hR
    rw [if_pos rfl] at hE hP hR
    obtain ⟨x0, x1, x2, x3⟩ := X1.cs
    go_wp2_with fail
    refine (CP.out _ X1).mono ?_; rintro e w2 ⟨o, rfl, ho2, hb2⟩
    have G2 : DG2 w w2 w.heap.size (w.heap.size + 1) ns bl (.slice ao l.length cap) l (.slice (some ⟨g2, 0, none⟩) n cap2) n LT U o (dpgs l s) := ⟨X1.low hb2, blk_low R1 hb2, own_lower ho2 X1.lo.size⟩
    have hPl := dpgs_len l s l.length (Nat.le_refl _)
    rw [List.take_length] at hPl
    have hPw := dpgs_wf (s := s) hwf0
    generalize dpgs l s = P at *
    clear X1 R1 CP x0 x1 x2 x3 hb2 ho2
    obtain ⟨po, pc, rfl⟩ := own_shape3 G2.own
    go_wp2_with fail
    go_loopw [9] (fun i wr => ∃ (j : Nat) (l2 : List SPg) (LT2 : Nat → List Hs.Bk) (v2 t2 : Value) (U2 : Nat → Value), i = .int .i64 (j : Int) ∧ j ≤ P.length ∧ ddS ns n s (P.take j) (l, LT) = (l2, LT2) ∧ DG2 w wr w.heap.size (w.heap.size + 1) ns bl v2 l2 t2 n LT2 U2 (.slice po P.length pc) P) (fun i _ => P.length - (RowKit.intOf i).toNat)
    case atStart => exact ⟨0, l, LT, _, _, U, rfl, Nat.zero_le _, rfl, G2⟩
    case round =>
      clear G2
      obtain ⟨j, l2, LT2, v2, t2, U2, rfl, hj, hS, G⟩ := hrel
      obtain ⟨⟨ao2, cp2, rfl⟩, g3, cp3, rfl⟩ := G.dx.dh.shape
      by_cases hlt : j < P.length
      · have hlt' : (j : Int) < (P.length : Int) := by omega
        have hj0 : (0 : Int) ≤ (j : Int) := by omega
        obtain ⟨x0, x1, x2, x3⟩ := G.dx.cs
        rcases own_form G.own with ⟨_, h0⟩ | ⟨g4, cap4, hv4, hgb4, hnc4, hcm4⟩
        · omega
        obtain ⟨z0, z1, z2, z3, z4, z5, z6, z7, z8, z9, z10⟩ := own_page G.own hgb4 hlt
        simp only [Value.slice.injEq, true_and] at hv4
        obtain ⟨rfl, rfl⟩ := hv4
        unfold maxLen at hcm4
        have HS := Lib.hid (ddS_succ (ns := ns) (n := n) (s := s) (st := (l, LT)) hlt)
        rw [hS] at HS
        dsimp only at HS
        obtain ⟨va, hva⟩ : ∃ va, va = (pat P j).va := ⟨_, rfl⟩
        rw [← hva] at z0 HS
        have hva0 : 0 ≤ va ∧ va ≤ 18446744073709551615 := by
          have hm : pat P j ∈ P := by simp [pat, hlt]
          have := hPw _ hm
          rw [hva]; exact ⟨this.v0, this.v1⟩
        have CU := Lib.hid (fun (W : World) (h : DG2 w W w.heap.size (w.heap.size + 1) ns bl (.slice ao2 l2.length cp2) l2 (.slice (some ⟨g3, 0, none⟩) n cp3) n LT2 U2 (.slice (some ⟨g4, 0, none⟩) P.length pc) P) => dunmap_any ns bl s va s0 s1 hva0.1 hva0.2 W h.dx.dh)
        have HL := Lib.hid (show j < P.length ∧ va = (pat P j).va from ⟨hlt, hva⟩)
        clear hS hva z1 z2 z3 z4 z5 z6 z7 z8 z9 z10
        go_wp2_with fail
        go_region_held3 (fun w1 => (w1.cell? ⟨w.heap.size, 0, none⟩ = some (.int .i64 ns) ∧ w1.cell? ⟨w.heap.size, 1, none⟩ = some (.slice ao2 l2.length cp2) ∧ w1.cell? ⟨w.heap.size, 2, none⟩ = some (.int .i64 bl) ∧ w1.cell? ⟨w.heap.size, 3, none⟩ = some (.slice (some ⟨g3, 0, none⟩) n cp3)) ∧ w1.cell? ⟨g4, j * 11, none⟩ = some (.int .u64 va))
          ((refine (DG2.reads (DG2.low G ?_) HL ); (repeat (first | (with_reducible assumption) | (with_reducible exact Below.refl _ _) | (with_reducible refine lo_step ?_ (by assumption)) | (with_reducible refine lo_drew ?_) | (with_reducible refine lo_drewN ?_ _) | (with_reducible refine lo_alloc ?_ _) | (with_reducible refine lo_set ?_ ?_ _) | (exact Nat.le_refl _) | (exact Nat.le_succ _) | (exact hs2 _ (Nat.le_refl _)) | (exact hb'.size))) ))
          (first
            | (go_at_call 31; (with_reducible refine (CU.out _ (DG2.low G (by (repeat (first | (with_reducible assumption) | (with_reducible exact Below.refl _ _) | (with_reducible refine lo_step ?_ (by assumption)) | (with_reducible refine lo_drew ?_) | (with_reducible refine lo_drewN ?_ _) | (with_reducible refine lo_alloc ?_ _) | (with_reducible refine lo_set ?_ ?_ _) | (exact Nat.le_refl _) | (exact Nat.le_succ _) | (exact hs2 _ (Nat.le_refl _)) | (exact hb'.size))) ))).mono ?_); rintro e w' ⟨v', t', U', rfl, hD, hb'⟩; obtain ⟨⟨ao5, cp5, rfl⟩, g5, cp6, rfl⟩ := hD.shape; obtain ⟨hc, hf, hs1, hs2⟩ := bfacts hb'))
        · have B0 : Below wr.heap.size wr w' := by (repeat (first | (with_reducible assumption) | (with_reducible exact Below.refl _ _) | (with_reducible refine lo_step ?_ (by assumption)) | (with_reducible refine lo_drew ?_) | (with_reducible refine lo_drewN ?_ _) | (with_reducible refine lo_alloc ?_ _) | (with_reducible refine lo_set ?_ ?_ _) | (exact Nat.le_refl _) | (exact Nat.le_succ _) | (exact hs2 _ (Nat.le_refl _)) | (exact hb'.size))) 
          have N := (DN.new hD B0 ns bl).alloc (.cells #[.int .u64 (dunV ns l2 s va).va, .int .i64 (dunV ns l2 s va).sz, .int .u64 (dunV ns l2 s va).pa, .bool (dunV ns l2 s va).att.write, .bool (dunV ns l2 s va).att.priv, .bool (dunV ns l2 s va).att.exec, .bool (dunV ns l2 s va).att.lock, .bool (dunV ns l2 s va).att.global, .bool (dunV ns l2 s va).att.quiet, .bool (dunV ns l2 s va).ref, .bool (dunV ns l2 s va).mod] 38)
          have G7 := DG2.low G N.lo
          have hne := N.nl
          have hxl := (Array.getElem?_eq_some_iff.1 G.dx.hx).1
          have P7 := Lib.hid (G7.put N.dh (Nat.le_refl _) (by omega))
          obtain ⟨n0, n1, n2, n3, _⟩ := four_H N.row
          obtain ⟨x0, x1, x2, x3, xf⟩ := four_H G7.dx.hx
          clear G hD hb' hc hf hs1 hs2 B0 N G7 CU HL
          generalize World.alloc _ _ = W7 at *
          go_wp2_with fail
          exact ⟨⟨j + 1, _, _, _, _, _, by go_num, by omega, HS.out, P7.out⟩, by simp [RowKit.intOf]; omega⟩
        · have B0 : Below wr.heap.size wr w' := by (repeat (first | (with_reducible assumption) | (with_reducible exact Below.refl _ _) | (with_reducible refine lo_step ?_ (by assumption)) | (with_reducible refine lo_drew ?_) | (with_reducible refine lo_drewN ?_ _) | (with_reducible refine lo_alloc ?_ _) | (with_reducible refine lo_set ?_ ?_ _) | (exact Nat.le_refl _) | (exact Nat.le_succ _) | (exact hs2 _ (Nat.le_refl _)) | (exact hb'.size))) 
          have N := DN.new (hD.low ((Below.refl _ _).alloc (Nat.le_refl _) (.cells #[.int .u64 (dunV ns l2 s va).va, .int .i64 (dunV ns l2 s va).sz, .int .u64 (dunV ns l2 s va).pa, .bool (dunV ns l2 s va).att.write, .bool (dunV ns l2 s va).att.priv, .bool (dunV ns l2 s va).att.exec, .bool (dunV ns l2 s va).att.lock, .bool (dunV ns l2 s va).att.global, .bool (dunV ns l2 s va).att.quiet, .bool (dunV ns l2 s va).ref, .bool (dunV ns l2 s va).mod] 38))) (lo_alloc B0 _) ns bl
          rw [World.size_alloc] at N
          have G7 := DG2.low G N.lo
          have hne := N.nl
          have hxl := (Array.getElem?_eq_some_iff.1 G.dx.hx).1
          have P7 := Lib.hid (G7.put N.dh (Nat.le_refl _) (by omega))
          obtain ⟨n0, n1, n2, n3, _⟩ := four_H N.row
          obtain ⟨x0, x1, x2, x3, xf⟩ := four_H G7.dx.hx
          clear G hD hb' hc hf hs1 hs2 B0 N G7 CU HL
          generalize World.alloc _ _ = W7 at *
          go_wp2_with fail
          exact ⟨⟨j + 1, _, _, _, _, _, by go_num, by omega, HS.out, P7.out⟩, by simp [RowKit.intOf]; omega⟩
        · have B0 : Below wr.heap.size wr w' := by (repeat (first | (with_reducible assumption) | (with_reducible exact Below.refl _ _) | (with_reducible refine lo_step ?_ (by assumption)) | (with_reducible refine lo_drew ?_) | (with_reducible refine lo_drewN ?_ _) | (with_reducible refine lo_alloc ?_ _) | (with_reducible refine lo_set ?_ ?_ _) | (exact Nat.le_refl _) | (exact Nat.le_succ _) | (exact hs2 _ (Nat.le_refl _)) | (exact hb'.size))) 
          have hz := blk_low (show (World.drew _).heap[_]? = _ from heap_alloc_new wr (.cells #[.int .i64 0, .slice none 0 0, .int .i64 0, .slice none 0 0] 30)) hb'
          have N := (DN.fill (ns := ns) (bl := bl) hD B0 (Nat.le_refl _) hz).alloc (.cells #[.int .u64 (dunV ns l2 s va).va, .int .i64 (dunV ns l2 s va).sz, .int .u64 (dunV ns l2 s va).pa, .bool (dunV ns l2 s va).att.write, .bool (dunV ns l2 s va).att.priv, .bool (dunV ns l2 s va).att.exec, .bool (dunV ns l2 s va).att.lock, .bool (dunV ns l2 s va).att.global, .bool (dunV ns l2 s va).att.quiet, .bool (dunV ns l2 s va).ref, .bool (dunV ns l2 s va).mod] 38)
          clear hz
          have G7 := DG2.low G N.lo
          have hne := N.nl
          have hxl := (Array.getElem?_eq_some_iff.1 G.dx.hx).1
          have P7 := Lib.hid (G7.put N.dh (Nat.le_refl _) (by omega))
          obtain ⟨n0, n1, n2, n3, _⟩ := four_H N.row
          obtain ⟨x0, x1, x2, x3, xf⟩ := four_H G7.dx.hx
          clear G hD hb' hc hf hs1 hs2 B0 N G7 CU HL
          generalize World.alloc _ _ = W7 at *
          go_wp2_with fail
          exact ⟨⟨j + 1, _, _, _, _, _, by go_num, by omega, HS.out, P7.out⟩, by simp [RowKit.intOf]; omega⟩
        · have B0 : Below wr.heap.size wr w' := by (repeat (first | (with_reducible assumption) | (with_reducible exact Below.refl _ _) | (with_reducible refine lo_step ?_ (by assumption)) | (with_reducible refine lo_drew ?_) | (with_reducible refine lo_drewN ?_ _) | (with_reducible refine lo_alloc ?_ _) | (with_reducible refine lo_set ?_ ?_ _) | (exact Nat.le_refl _) | (exact Nat.le_succ _) | (exact hs2 _ (Nat.le_refl _)) | (exact hb'.size))) 
          have hz := blk_low (blk_low (heap_alloc_new wr (.cells #[.int .i64 0, .slice none 0 0, .int .i64 0, .slice none 0 0] 30)) (lo_drew (lo_alloc (Below.refl _ _) _))) hb'
          have hy := heap_alloc_new (wr.alloc (.cells #[.int .i64 0, .slice none 0 0, .int .i64 0, .slice none 0 0] 30)) (.cells #[.int .u64 0, .int .i64 0, .int .u64 0, .bool false, .bool false, .bool false, .bool false, .bool false, .bool false, .bool false, .bool false] 38)
          rw [World.size_alloc] at hy
          have Z : RowP w' (wr.heap.size + 1) Pg.zero := ⟨blk_low (blk_low hy (lo_drew (Below.refl _ _))) hb'⟩
          have N := (DN.fill (ns := ns) (bl := bl) hD B0 (Nat.le_refl _) hz).page (Z.far_H (by omega)) (Nat.le_succ _) (by omega) (dunV ns l2 s va)
          clear hz hy Z
          have G7 := DG2.low G N.lo
          have hne := N.nl
          have hxl := (Array.getElem?_eq_some_iff.1 G.dx.hx).1
          have P7 := Lib.hid (G7.put N.dh (Nat.le_refl _) (by omega))
          obtain ⟨n0, n1, n2, n3, _⟩ := four_H N.row
          obtain ⟨x0, x1, x2, x3, xf⟩ := four_H G7.dx.hx
          clear G hD hb' hc hf hs1 hs2 B0 N G7 CU HL
          generalize World.setCell _ ⟨_, 10, none⟩ _ = W7 at *
          go_wp2_with fail
          exact ⟨⟨j + 1, _, _, _, _, _, by go_num, by omega, HS.out, P7.out⟩, by simp [RowKit.intOf]; omega⟩
        · have B0 : Below wr.heap.size wr w' := by (repeat (first | (with_reducible assumption) | (with_reducible exact Below.refl _ _) | (with_reducible refine lo_step ?_ (by assumption)) | (with_reducible refine lo_drew ?_) | (with_reducible refine lo_drewN ?_ _) | (with_reducible refine lo_alloc ?_ _) | (with_reducible refine lo_set ?_ ?_ _) | (exact Nat.le_refl _) | (exact Nat.le_succ _) | (exact hs2 _ (Nat.le_refl _)) | (exact hb'.size))) 
          have hy := heap_alloc_new wr (.cells #[.int .u64 0, .int .i64 0, .int .u64 0, .bool false, .bool false, .bool false, .bool false, .bool false, .bool false, .bool false, .bool false] 38)
          have Z : RowP w' wr.heap.size Pg.zero := ⟨blk_low (blk_low hy (lo_drew (Below.refl _ _))) hb'⟩
          obtain ⟨d5, b5⟩ := dh_page hD B0 Z (Nat.le_refl _) (dunV ns l2 s va)
          have N := DN.new d5 b5 ns bl
          simp only [World.size_setCell] at N
          clear d5 b5 Z hy
          have G7 := DG2.low G N.lo
          have hne := N.nl
          have hxl := (Array.getElem?_eq_some_iff.1 G.dx.hx).1
          have P7 := Lib.hid (G7.put N.dh (Nat.le_refl _) (by omega))
          obtain ⟨n0, n1, n2, n3, _⟩ := four_H N.row
          obtain ⟨x0, x1, x2, x3, xf⟩ := four_H G7.dx.hx
          clear G hD hb' hc hf hs1 hs2 B0 N G7 CU HL
          generalize World.alloc _ _ = W7 at *
          go_wp2_with fail
          exact ⟨⟨j + 1, _, _, _, _, _, by go_num, by omega, HS.out, P7.out⟩, by simp [RowKit.intOf]; omega⟩
        · have B0 : Below wr.heap.size wr w' := by (repeat (first | (with_reducible assumption) | (with_reducible exact Below.refl _ _) | (with_reducible refine lo_step ?_ (by assumption)) | (with_reducible refine lo_drew ?_) | (with_reducible refine lo_drewN ?_ _) | (with_reducible refine lo_alloc ?_ _) | (with_reducible refine lo_set ?_ ?_ _) | (exact Nat.le_refl _) | (exact Nat.le_succ _) | (exact hs2 _ (Nat.le_refl _)) | (exact hb'.size))) 
          have hy := heap_alloc_new (wr.alloc (.cells #[.int .u64 0, .int .i64 0, .int .u64 0, .bool false, .bool false, .bool false, .bool false, .bool false, .bool false, .bool false, .bool false] 38)) (.cells #[.int .i64 0, .slice none 0 0, .int .i64 0, .slice none 0 0] 30)
          rw [World.size_alloc] at hy
          have hz := blk_low (show (World.drew _).heap[_]? = _ from hy) hb'
          have hy2 := heap_alloc_new wr (.cells #[.int .u64 0, .int .i64 0, .int .u64 0, .bool false, .bool false, .bool false, .bool false, .bool false, .bool false, .bool false, .bool false] 38)
          have Z : RowP w' wr.heap.size Pg.zero := ⟨blk_low (blk_low hy2 (lo_drew (lo_alloc (Below.refl _ _) _))) hb'⟩
          have N := (DN.fill (ns := ns) (bl := bl) hD B0 (Nat.le_succ _) hz).page (Z.far_H (by omega)) (Nat.le_refl _) (by omega) (dunV ns l2 s va)
          clear hz hy Z hy2
          have G7 := DG2.low G N.lo
          have hne := N.nl
          have hxl := (Array.getElem?_eq_some_iff.1 G.dx.hx).1
          have P7 := Lib.hid (G7.put N.dh (Nat.le_refl _) (by omega))
          obtain ⟨n0, n1, n2, n3, _⟩ := four_H N.row
          obtain ⟨x0, x1, x2, x3, xf⟩ := four_H G7.dx.hx
          clear G hD hb' hc hf hs1 hs2 B0 N G7 CU HL
          generalize World.setCell _ ⟨_, 10, none⟩ _ = W7 at *
          go_wp2_with fail
          exact ⟨⟨j + 1, _, _, _, _, _, by go_num, by omega, HS.out, P7.out⟩, by simp [RowKit.intOf]; omega⟩
      · obtain rfl : j = P.length := by omega
        rw [List.take_length] at hS
        have HS := Lib.hid hS
        obtain ⟨x0, x1, x2, x3⟩ := G.dx.cs
        obtain ⟨r0, r1, r2, r3, rf⟩ := four_H G.r
        have hfl := Lib.hid (fill_H (ns := ns) (bl := bl) G.dx.dh G.dx.lo (by omega : w.heap.size ≤ w.heap.size + 1) G.r rfl)
        have ho := own_same G.own (w' := ((((wr.setCell ⟨w.heap.size + 1, 0, none⟩ (.int .i64 ns)).setCell ⟨w.heap.size + 1, 1, none⟩ (.slice ao2 l2.length cp2)).setCell ⟨w.heap.size + 1, 2, none⟩ (.int .i64 bl)).setCell ⟨w.heap.size + 1, 3, none⟩ (.slice (some ⟨g3, 0, none⟩) n cp3))) (fun g hg => by
          have hgr : g ≠ w.heap.size + 1 := by
            rintro rfl
            obtain ⟨cur, hc⟩ := own_obj G.own hg
            rw [G.r] at hc; injection hc with hc; injection hc with _ hc _
            exact absurd hc (by decide)
          rw [Below.heap_setCell _ _ _ _ hgr, Below.heap_setCell _ _ _ _ hgr, Below.heap_setCell _ _ _ _ hgr, Below.heap_setCell _ _ _ _ hgr])
        have HO := Lib.hid ho
        clear G hS ho
        go_wp2_with fail
        refine bodyPost_ret (res_HLE rfl _ _ _ _ rfl hfl.out.1 rfl) rfl ?_
        exact ⟨_, _, _, _, by rw [hE.out]; rfl, by rw [hR.out, HS.out]; exact hfl.out.2.1, by rw [hP.out]; exact HO.out, hfl.out.2.2⟩
end
end Go.Proofs.YtffpfceclhogoaaGreat.Hp
