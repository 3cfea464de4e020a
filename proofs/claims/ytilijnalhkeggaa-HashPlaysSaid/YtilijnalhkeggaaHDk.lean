/-
  A deed's key, of layer 11's law. Conditions: none.
-/
import Derived.Test.YtilijnalhkeggaaHDj
import Derived.Test.YtilijnalhkeggaaHOpen
namespace Go.Proofs.Ytilijnalhkeggaa.Hs
open Fld
open Go.ChangeShapes Go.WideShapes Go.ChangeAt Go.RowKit Go.Maps
set_option maxHeartbeats 1000000
set_option maxRecDepth 100000
def ofK (d : DeedV) : Ky := if d.raw = true then d.k else goodK d.k
theorem ofK_wf {d : DeedV} (h : d.wf) : (ofK d).wf := by
  unfold ofK
  split
  · exact h.key
  · exact (goodK_ok h.key).wf
theorem of_any (d : DeedV) (h : d.wf) (w : World) :
    Calls Try.prog 33 #[.agg #[.int .i64 d.kind, .int .i64 d.n, .int .i64 d.k.sp, .int .u64 d.k.va, .int .i64 d.k.sz, .bool d.raw]] w fun e w' => e = .returned (.agg #[.int .i64 (ofK d).sp, .int .u64 (ofK d).va, .int .i64 (ofK d).sz]) ∧ Below w.heap.size w w' := by
  have CG := Lib.hid (fun w => good_any d.k h.key w)
  have HO := Lib.hid (show ofK d = if d.raw = true then d.k else goodK d.k from rfl)
  have b1 : Below w.heap.size w ((w.alloc (.cells #[.int .i64 d.kind, .int .i64 d.n, .int .i64 d.k.sp, .int .u64 d.k.va, .int .i64 d.k.sz, .bool d.raw] 35)).alloc (.cells #[.int .i64 Ky.zero.sp, .int .u64 Ky.zero.va, .int .i64 Ky.zero.sz] 33)) := by (repeat (first | (with_reducible assumption) | (with_reducible exact Below.refl _ _) | (with_reducible refine lo_step ?_ (by assumption)) | (with_reducible refine lo_drew ?_) | (with_reducible refine lo_drewN ?_ _) | (with_reducible refine lo_alloc ?_ _))) 
  have x1 := heap_alloc_new (w.alloc (.cells #[.int .i64 d.kind, .int .i64 d.n, .int .i64 d.k.sp, .int .u64 d.k.va, .int .i64 d.k.sz, .bool d.raw] 35)) (.cells #[.int .i64 Ky.zero.sp, .int .u64 Ky.zero.va, .int .i64 Ky.zero.sz] 33)
  rw [World.size_alloc] at x1
  have HX := Lib.hid (And.intro b1 x1)
  clear b1 x1 h
  cases hr : d.raw
  · rw [hr] at HO HX
    have e1 : ofK d = goodK d.k := by rw [HO.out]; rfl
    rw [e1]
    clear e1 HO hr
    go_enter Try.func33, Try.ntmps33
    go_wp2_with fail
    refine (CG.out _).mono ?_; rintro e w2 ⟨rfl, hb⟩
    have x2 := blk_low HX.out.2 hb
    have h3 := set_three x2 (.int .i64 (goodK d.k).sp) (.int .u64 (goodK d.k).va) (.int .i64 (goodK d.k).sz)
    obtain ⟨t0, t1, t2⟩ := key_cells x2
    have z : ∀ i, w2.frozen? ⟨w.heap.size + 1, i, none⟩ = false := fun i => by simp [World.frozen?, x2]
    have z0 := z 0; have z1 := z 1; have z2 := z 2
    have H3 := Lib.hid (And.intro (lo_step HX.out.1 hb) h3)
    clear HX CG x2 h3 hb z
    go_wp2_with fail
    refine bodyPost_ret (results_cell_row rfl _ _ _ _ _ (0, 0) _ rfl H3.out.2.1 Try.underlying33 (by kernel_rfl) (by kernel_rfl)) rfl ⟨rfl, ?_⟩
    exact H3.out.1.trans (H3.out.2.2 _ (by omega))
  · rw [hr] at HO HX
    have e1 : ofK d = d.k := by rw [HO.out]; rfl
    rw [e1]
    clear e1 HO CG hr
    go_enter Try.func33, Try.ntmps33
    go_wp2_with fail
    have x9 := heap_alloc_new (w.alloc (.cells #[.int .i64 d.kind, .int .i64 d.n, .int .i64 d.k.sp, .int .u64 d.k.va, .int .i64 d.k.sz, .bool true] 35)) (.cells #[.int .i64 d.k.sp, .int .u64 d.k.va, .int .i64 d.k.sz] 33)
    rw [World.size_alloc] at x9
    refine bodyPost_ret (results_cell_row rfl _ _ _ _ _ (0, 0) _ rfl x9 Try.underlying33 (by kernel_rfl) (by kernel_rfl)) rfl ⟨rfl, ?_⟩
    (repeat (first | (with_reducible assumption) | (with_reducible exact Below.refl _ _) | (with_reducible refine lo_step ?_ (by assumption)) | (with_reducible refine lo_drew ?_) | (with_reducible refine lo_drewN ?_ _) | (with_reducible refine lo_alloc ?_ _))) 
/-- What does leaves: both tables turned alike, the blocks X stand. -/
def DoneD (w0 w w' : World) (sb : Nat) (bl : Int) (X : Nat → Prop) (e : Ending) : Prop :=
  ∃ s' U' n' L', e = .returned (.tuple #[.agg #[.int .i64 bl, s'], .bool true]) ∧ KD w0 w' sb bl n' L' s' U' n' L' X ∧ (∀ k, X k → w'.heap[k]? = w.heap[k]?) ∧ w.heap.size ≤ w'.heap.size
/-- The boxes of a call of does: deed, result, key, what the document says. -/
structure EB (W : World) (a kb ob : Nat) (kind nn : Int) (k : Ky) (raw : Bool) (gk : Ky) (bl : Int) (s' : Value) : Prop where
  dx : W.heap[a + 1]? = some (.cells #[.int .i64 kind, .int .i64 nn, .int .i64 k.sp, .int .u64 k.va, .int .i64 k.sz, .bool raw] 35 (0, 0))
  rx : W.heap[a + 1 + 1]? = some (.cells #[.int .i64 0, .slice none 0 0] 27 (0, 0))
  kx : W.heap[kb]? = some (.cells #[.int .i64 gk.sp, .int .u64 gk.va, .int .i64 gk.sz] 33 (0, 0))
  ox : W.heap[ob]? = some (.cells #[.int .i64 bl, s'] 27 (0, 0))
section
variable {w0 w W W' : World} {a kb ob sb n n' : Nat} {kind nn bl : Int} {k gk : Ky} {raw : Bool} {s s' : Value} {L L' : Nat → List Bk} {U U' : Nat → Value} {X : Nat → Prop}
theorem EB.low (h : EB W a kb ob kind nn k raw gk bl s') (hb : Below W.heap.size W W') : EB W' a kb ob kind nn k raw gk bl s' := ⟨blk_low h.dx hb, blk_low h.rx hb, blk_low h.kx hb, blk_low h.ox hb⟩
/-- The foreign blocks of such a call. -/
def EX (X : Nat → Prop) (a kb ob : Nat) : Nat → Prop := fun q => X q ∨ q = a + 1 ∨ q = a + 1 + 1 ∨ q = kb ∨ q = ob
theorem EB.kept (h : EB W a kb ob kind nn k raw gk bl s') {F : Nat → Prop} (hk : Kept F W W') (hF : ∀ q, EX X a kb ob q → F q) : EB W' a kb ob kind nn k raw gk bl s' :=
  ⟨(hk.1 _ (hF _ (.inr (.inl rfl)))).trans h.dx, (hk.1 _ (hF _ (.inr (.inr (.inl rfl))))).trans h.rx, (hk.1 _ (hF _ (.inr (.inr (.inr (.inl rfl)))))).trans h.kx, (hk.1 _ (hF _ (.inr (.inr (.inr (.inr rfl)))))).trans h.ox⟩
theorem EB.cells (h : EB W a kb ob kind nn k raw gk bl s') : (W.cell? ⟨ob, 0, none⟩ = some (.int .i64 bl) ∧ W.cell? ⟨ob, 1, none⟩ = some s') ∧ (W.cell? ⟨kb, 0, none⟩ = some (.int .i64 gk.sp) ∧ W.cell? ⟨kb, 1, none⟩ = some (.int .u64 gk.va) ∧ W.cell? ⟨kb, 2, none⟩ = some (.int .i64 gk.sz)) ∧ W.cell? ⟨a + 1, 1, none⟩ = some (.int .i64 nn) := by
  have := h.dx
  exact ⟨t_cells h.ox, key_cells h.kx, by simp [World.cell?, this]⟩
theorem EB.rc (h : EB W a kb ob kind nn k raw gk bl s') : (W.cell? ⟨a + 1 + 1, 0, none⟩ = some (.int .i64 0) ∧ W.cell? ⟨a + 1 + 1, 1, none⟩ = some (.slice none 0 0)) ∧ W.frozen? ⟨a + 1 + 1, 0, none⟩ = false ∧ W.frozen? ⟨a + 1 + 1, 1, none⟩ = false := by
  have := h.rx
  exact ⟨t_cells h.rx, by simp [World.frozen?, this], by simp [World.frozen?, this]⟩
/-- The result is laid. -/
theorem EB.done (h0 : KD w0 w sb bl n L s U n L X) (hb : Below w.heap.size w W) (hk : ∀ q, X q → W'.heap[q]? = W.heap[q]?) (hsz : W.heap.size ≤ W'.heap.size) (K : KD w0 W' sb bl n' L' s' U' n' L' (EX X w.heap.size kb ob)) (E : EB W' w.heap.size kb ob kind nn k raw gk bl s') :
    let W8 := (W'.setCell ⟨w.heap.size + 1 + 1, 0, none⟩ (.int .i64 bl)).setCell ⟨w.heap.size + 1 + 1, 1, none⟩ s'
    W8.heap[w.heap.size + 1 + 1]? = some (.cells #[.int .i64 bl, s'] 27 (0, 0)) ∧ KD w0 W8 sb bl n' L' s' U' n' L' X ∧ (∀ q, X q → W8.heap[q]? = w.heap[q]?) ∧ w.heap.size ≤ W8.heap.size := by
  intro W8
  obtain ⟨K8, x8⟩ := K.store (x := .int .i64 bl) (y := s') (.inr (.inr (.inl rfl))) (show w0.heap.size ≤ w.heap.size + 1 + 1 by have := h0.ct.low.size; omega) E.rx
  have h3 := (set_two E.rx (.int .i64 bl) s')
  refine ⟨x8, K8.sub (fun q hq => .inl hq), fun q hq => ?_, Nat.le_trans hb.size (Nat.le_trans hsz (h3.2.1 0 (Nat.zero_le _)).size)⟩
  have hlt := h0.ct.here q (.inl hq)
  exact (h3.2.2 q (by omega)).trans ((hk q hq).trans (hb.block q hlt))
theorem EB.after (E : EB W' a kb ob kind nn k raw gk bl s') (hk : kb ≠ a + 1 + 1) (ho : ob ≠ a + 1 + 1) (x y : Value) : (fun w1 : World => (w1.cell? ⟨ob, 0, none⟩ = some (.int .i64 bl) ∧ w1.cell? ⟨ob, 1, none⟩ = some s') ∧ (w1.cell? ⟨kb, 0, none⟩ = some (.int .i64 gk.sp) ∧ w1.cell? ⟨kb, 1, none⟩ = some (.int .u64 gk.va) ∧ w1.cell? ⟨kb, 2, none⟩ = some (.int .i64 gk.sz)) ∧ w1.cell? ⟨a + 1, 1, none⟩ = some (.int .i64 nn)) ((W'.setCell ⟨a + 1 + 1, 0, none⟩ x).setCell ⟨a + 1 + 1, 1, none⟩ y) := by
  obtain ⟨_, _, h3⟩ := set_two E.rx x y
  have h4 := (h3 (a + 1) (by omega)).trans E.dx
  exact ⟨t_cells ((h3 ob ho).trans E.ox), key_cells ((h3 kb hk).trans E.kx), by simp [World.cell?, h4]⟩
end
end Go.Proofs.Ytilijnalhkeggaa.Hs
