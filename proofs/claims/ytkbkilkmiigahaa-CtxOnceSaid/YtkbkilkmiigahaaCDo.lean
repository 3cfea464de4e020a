/-
  The law's does of layer 14: what is carried, and Take and Give. Conditions: the pool and the document's are the same and as they must be.
-/
import Derived.Test.YtkbkilkmiigahaaCLike
namespace Go.Proofs.Ytkbkilkmiigahaa.Cx
open Fld
open Go.ChangeShapes Go.WideShapes Go.ChangeAt Go.RowKit Go.Shelf Go.Deep
set_option maxHeartbeats 2000000
set_option maxRecDepth 100000
/-- A deed's numbers. -/
structure DeedW where
  k : Int
  n : Int
  s : Int
structure DeedW.wf (d : DeedW) : Prop where
  k0 : -9223372036854775808 ≤ d.k
  k1 : d.k ≤ 9223372036854775807
  n0 : -9223372036854775808 ≤ d.n
  n1 : d.n ≤ 9223372036854775807
  s0 : -9223372036854775808 ≤ d.s
  s1 : d.s ≤ 9223372036854775807
abbrev deedV (d : DeedW) (av : Value) : Value := .agg #[.int .i64 d.k, .int .i64 d.n, .int .i64 d.s, av]
abbrev deedO (d : DeedW) (av : Value) : Obj := .cells #[.int .i64 d.k, .int .i64 d.n, .int .i64 d.s, av] 33
/-- What a deed makes of a pool. -/
def act (P : Pl) (d : DeedW) (A : List Int) : Pl :=
  if d.k = 0 then P.take d.s else if d.k = 2 then P.give d.s else if d.k = 3 then P else if d.k = 4 then P.steal (P.vic (A.take 10) : Int) d.s else if d.k = 1 then P.steal d.n d.s else P
theorem act_ok {P : Pl} (ok : P.Ok) {d : DeedW} (hd : d.wf) (A : List Int) : (act P d A).Ok := by
  unfold act
  repeat' split
  · exact ok.take hd.s1
  · exact ok.give _
  · exact ok
  · exact ok.steal hd.s1
  · exact ok.steal hd.s1
  · exact ok
theorem act_n (P : Pl) (d : DeedW) (A : List Int) : (act P d A).n = P.n := by
  unfold act
  repeat' split
  · exact P.take_n _
  · exact P.give_n _
  · rfl
  · exact P.steal_n _ _
  · exact P.steal_n _ _
  · rfl
theorem act_R (P : Pl) (d : DeedW) (A : List Int) : (act P d A).R ≤ P.R + 1 := by
  unfold act
  repeat' split
  · exact P.take_R _
  · exact P.give_R _
  · omega
  · exact P.steal_R _ _
  · exact P.steal_R _ _
  · omega
/-- Since w: the law's three boxes. -/
structure DS (w wr : World) (pb bm ob : Nat) (v : Value) (P : Pl) (d : DeedW) (av : Value) : Prop where
  tn : Turn w wr pb bm ob
  box : wr.heap[w.heap.size]? = some (docO v P.h P.R)
  dd : wr.heap[w.heap.size + 1]? = some (deedO d av)
  rr : wr.heap[w.heap.size + 1 + 1]? = some docZ
  three : w.heap.size + 3 ≤ wr.heap.size
section
variable {w wr wq : World} {pb bm ob : Nat} {v av : Value} {P : Pl} {d : DeedW}
theorem DS.new (w : World) (pb bm ob : Nat) (v : Value) (P : Pl) (d : DeedW) (av : Value) : DS w (((w.alloc (docO v P.h P.R)).alloc (deedO d av)).alloc docZ) pb bm ob v P d av := by
  refine ⟨(((Turn.refl w pb bm ob).alloc _).alloc _).alloc _, ?_, ?_, ?_, by simp⟩
  · rw [Below.heap_alloc _ _ _ (by simp; omega), Below.heap_alloc _ _ _ (by simp)]; exact heap_alloc_new _ _
  · rw [Below.heap_alloc _ _ _ (by simp)]
    have := heap_alloc_new (w.alloc (docO v P.h P.R)) (deedO d av)
    simpa using this
  · have := heap_alloc_new ((w.alloc (docO v P.h P.R)).alloc (deedO d av)) docZ
    simpa using this
theorem DS.turn (h : DS w wr pb bm ob v P d av) (k : Turn wr wq pb bm ob) (hp : pb < w.heap.size) (ho : bm < ob ∧ ob < pb) : DS w wq pb bm ob v P d av := by
  have h3 := h.three
  exact ⟨h.tn.trans k, (k.block _ (by omega) (by omega) (by omega) (by omega)).trans h.box, (k.block _ (by omega) (by omega) (by omega) (by omega)).trans h.dd, (k.block _ (by omega) (by omega) (by omega) (by omega)).trans h.rr, Nat.le_trans h3 k.size⟩
theorem DS.low (h : DS w wr pb bm ob v P d av) (k : Below wr.heap.size wr wq) : DS w wq pb bm ob v P d av := by
  have h3 := h.three
  exact ⟨h.tn.trans (Turn.of_below _ _ _ k), (k.block _ (by omega)).trans h.box, (k.block _ (by omega)).trans h.dd, (k.block _ (by omega)).trans h.rr, Nat.le_trans h3 k.size⟩
theorem DS.cells (h : DS w wr pb bm ob v P d av) : wr.cell? ⟨w.heap.size, 0, none⟩ = some v ∧ wr.cell? ⟨w.heap.size, 1, none⟩ = some (.int .i64 (P.h : Int)) ∧ wr.cell? ⟨w.heap.size, 2, none⟩ = some (.int .i64 (P.R : Int)) ∧ wr.cell? ⟨w.heap.size + 1, 0, none⟩ = some (.int .i64 d.k) ∧ wr.cell? ⟨w.heap.size + 1, 1, none⟩ = some (.int .i64 d.n) ∧ wr.cell? ⟨w.heap.size + 1, 2, none⟩ = some (.int .i64 d.s) ∧ wr.cell? ⟨w.heap.size + 1, 3, none⟩ = some av ∧
    wr.cell? ⟨w.heap.size + 1 + 1, 0, none⟩ = some (.slice none 0 0) ∧ wr.cell? ⟨w.heap.size + 1 + 1, 1, none⟩ = some (.int .i64 0) ∧ wr.cell? ⟨w.heap.size + 1 + 1, 2, none⟩ = some (.int .i64 0) ∧ ∀ i, wr.frozen? ⟨w.heap.size + 1 + 1, i, none⟩ = false := by
  simp [World.cell?, World.frozen?, h.box, h.dd, h.rr]
theorem DS.fin (h : DS w wr pb bm ob v P d av) (hp : pb < w.heap.size) (u : Value) (k2 r2 : Nat) :
    (((wr.setCell ⟨w.heap.size + 1 + 1, 0, none⟩ u).setCell ⟨w.heap.size + 1 + 1, 1, none⟩ (.int .i64 (k2 : Int))).setCell ⟨w.heap.size + 1 + 1, 2, none⟩ (.int .i64 (r2 : Int))).heap[w.heap.size + 1 + 1]? = some (docO u k2 r2) ∧
    Turn w (((wr.setCell ⟨w.heap.size + 1 + 1, 0, none⟩ u).setCell ⟨w.heap.size + 1 + 1, 1, none⟩ (.int .i64 (k2 : Int))).setCell ⟨w.heap.size + 1 + 1, 2, none⟩ (.int .i64 (r2 : Int))) pb bm ob ∧
    (∀ Q : Pl, PoolAt wr pb bm ob Q → PoolAt (((wr.setCell ⟨w.heap.size + 1 + 1, 0, none⟩ u).setCell ⟨w.heap.size + 1 + 1, 1, none⟩ (.int .i64 (k2 : Int))).setCell ⟨w.heap.size + 1 + 1, 2, none⟩ (.int .i64 (r2 : Int))) pb bm ob Q) :=
  ⟨by rw [heap_set (heap_set (heap_set h.rr _) _)]; rfl, ((h.tn.setCell _ (.inr (.inr (.inr (by show _ ≤ w.heap.size + 1 + 1; omega)))) _).setCell _ (.inr (.inr (.inr (by show _ ≤ w.heap.size + 1 + 1; omega)))) _).setCell _ (.inr (.inr (.inr (by show _ ≤ w.heap.size + 1 + 1; omega)))) _,
    fun Q hq => ((hq.setOut _ (by show pb < w.heap.size + 1 + 1; omega) _).setOut _ (by show pb < w.heap.size + 1 + 1; omega) _).setOut _ (by show pb < w.heap.size + 1 + 1; omega) _⟩
/-- Three stores into a new box: a list stays that stands elsewhere. -/
theorem ListT.set3 {B n b : Nat} {T : Nat → Int} (h : ListT w B n T v) (hb : v.ownBlock ≠ some b) (u : Value) (k r : Nat) : ListT (((w.setCell ⟨b, 0, none⟩ u).setCell ⟨b, 1, none⟩ (.int .i64 (k : Int))).setCell ⟨b, 2, none⟩ (.int .i64 (r : Int))) B n T v := by
  refine ⟨⟨h.own.1, ?_⟩, h.le⟩
  rcases h.own.2 with hn | ⟨g, cap, cur, rfl, hb2, hg, rest⟩
  · exact .inl hn
  · have hne : g ≠ b := fun e => hb (by subst e; rfl)
    exact .inr ⟨g, cap, cur, rfl, hb2, ((Below.heap_setCell _ _ _ _ hne).trans ((Below.heap_setCell _ _ _ _ hne).trans (Below.heap_setCell _ _ _ _ hne))).trans hg, rest⟩
/-- A list is no box. -/
theorem ListT.ne {B n b : Nat} {T : Nat → Int} (h : ListT w B n T v) {c : Array Value} {t : TypeId} (hb : w.heap[b]? = some (.cells c t (0, 0))) (ht : t ≠ 3) : v.ownBlock ≠ some b := by
  rcases h.own.2 with ⟨rfl, _⟩ | ⟨g, cap, cur, rfl, hb2, hg, rest⟩
  · exact fun e => by cases e
  · intro e
    have e : g = b := by injection e
    subst e
    rw [hg] at hb
    injection hb with hb
    injection hb with _ hb _
    exact ht hb.symm
end
/-- What a deed leaves. -/
def DoneD (w : World) (pb bm ob : Nat) (P : Pl) (e : Ending) (w' : World) : Prop :=
  ∃ v', e = .returned (.tuple #[docV v' P.h P.R, .bool true]) ∧ PoolAt w' pb bm ob P ∧ ListT w' (pb + 1) P.n P.T v' ∧ Turn w w' pb bm ob
theorem done_mk {w w' : World} {pb bm ob : Nat} {P : Pl} {v : Value} {h R : Nat} (h1 : P.h = h) (h2 : P.R = R) (hp : PoolAt w' pb bm ob P) (hl : ListT w' (pb + 1) P.n P.T v) (ht : Turn w w' pb bm ob) : DoneD w pb bm ob P (.returned (.tuple #[docV v h R, .bool true])) w' := by
  subst h1 h2; exact ⟨v, rfl, hp, hl, ht⟩
theorem does_take {pb bm ob : Nat} {P : Pl} {v : Value} (w : World) (H : PoolAt w pb bm ob P) (D : ListT w (pb + 1) P.n P.T v) (ok : P.Ok) (hR : P.R ≤ 1000000000) (d : DeedW) (hd : d.wf) (hk : d.k = 0) {ao : Option Addr} {cap : Nat} {A : List Int} (HA : IsInts w ao cap A) :
    Calls Try.prog 11 #[.pointer (some ⟨pb, 0, none⟩), docV v P.h P.R, deedV d (.slice ao A.length cap)] w (DoneD w pb bm ob (P.take d.s)) := by
  obtain ⟨av, cv, rfl, hl, hcm⟩ := D.shape
  have hpb := H.lt
  have hord := H.ord
  have hal := HA.le
  have hac := HA.cm
  have S0 := DS.new w pb bm ob (.slice av P.n cv) P d (.slice ao A.length cap)
  have H0 := ((H.alloc (docO (.slice av P.n cv) P.h P.R)).alloc (deedO d (.slice ao A.length cap))).alloc docZ
  have D0 := ((D.alloc (docO (.slice av P.n cv) P.h P.R)).alloc (deedO d (.slice ao A.length cap))).alloc docZ
  unfold maxLen at hcm hac
  obtain ⟨dk, dn, ds⟩ := d
  obtain ⟨k0, k1, n0, n1, s0, s1⟩ := hd
  dsimp only at *
  subst hk
  obtain ⟨L, hL⟩ : ∃ L, A.length = L := ⟨_, rfl⟩
  rw [hL] at hal S0 H0 D0 ⊢
  go_enter Try.func11, Try.ntmps11
  go_wp2_with fail
  generalize (((w.alloc (docO (.slice av P.n cv) P.h P.R)).alloc (deedO ⟨0, dn, ds⟩ (.slice ao L cap))).alloc docZ) = W0 at *
  have RT := rtake_any W0 D0 ok (by have := H0.lt; omega) ds hR
  obtain ⟨Q, hQ⟩ : ∃ Q, P.take ds = Q := ⟨_, rfl⟩
  obtain ⟨I, hI⟩ : ∃ I : Int, (P.takeI ds : Int) = I := ⟨_, rfl⟩
  obtain ⟨E, hE⟩ : ∃ E : Int, P.takeE ds = E := ⟨_, rfl⟩
  rw [hQ, hI, hE] at RT
  refine RT.mono ?_
  rintro e w1 ⟨v1, rfl, l1, b1⟩
  obtain ⟨a1, c1, rfl, hl1, hcm1⟩ := l1.shape
  have S1 := S0.low b1
  have H1 := H0.low b1
  have S2 := S1.low ((Below.refl w1.heap.size w1).alloc (Nat.le_refl _) (docO (.slice a1 Q.n c1) Q.h Q.R))
  have H2 := H1.alloc (docO (.slice a1 Q.n c1) Q.h Q.R)
  have l2 := l1.alloc (docO (.slice a1 Q.n c1) Q.h Q.R)
  have nb := heap_alloc_new w1 (docO (.slice a1 Q.n c1) Q.h Q.R)
  have h3 := S1.three
  have TA := take_any (w1.alloc (docO (.slice a1 Q.n c1) Q.h Q.R)) H2 ok (x := ds) s0 s1 hR
  rw [hQ, hI, hE] at TA
  have S2 := Lib.hid S2
  have l2 := Lib.hid l2
  have nb := Lib.hid nb
  have d2 := S2.out.cells
  obtain ⟨x0, x1, x2, x3, x4, x5, x6, x7, x8, x9, xf⟩ := S1.cells
  clear RT S0 H0 D0 b1 H1 S1 l1 H2
  go_wp2_with fail
  generalize w1.alloc (docO (.slice a1 Q.n c1) Q.h Q.R) = W2 at *
  refine TA.mono ?_
  rintro e w3 ⟨rfl, H3, T3⟩
  have S3 := S2.out.turn T3 hpb hord
  have l3 := l2.out.turn T3 (Nat.lt_succ_self pb) hord
  have nb3 := (T3.block w1.heap.size (by have := (Array.getElem?_eq_some_iff.1 nb.out).1; exact this) (by omega) (by omega) (by omega)).trans nb.out
  have F := S3.fin hpb (.slice a1 Q.n c1) Q.h Q.R
  have F := Lib.hid (show _ ∧ _ ∧ _ from ⟨F.1, F.2.1, F.2.2 _ H3⟩)
  have l4 := Lib.hid (l3.set3 (l3.ne S3.rr (by decide)) (.slice a1 Q.n c1) Q.h Q.R)
  have y0 : w3.cell? ⟨w1.heap.size, 0, none⟩ = some (.slice a1 Q.n c1) := by simp [World.cell?, nb3]
  have y1 : w3.cell? ⟨w1.heap.size, 1, none⟩ = some (.int .i64 (Q.h : Int)) := by simp [World.cell?, nb3]
  have y2 : w3.cell? ⟨w1.heap.size, 2, none⟩ = some (.int .i64 (Q.R : Int)) := by simp [World.cell?, nb3]
  obtain ⟨z0, z1, z2, z3, z4, z5, z6, z7, z8, z9, zf⟩ := S3.cells
  have mI : (I == I) = true := by simp
  have mE : (E == E) = true := by simp
  clear TA S2 l2 nb nb3 T3 H3 S3 l3 d2 x0 x1 x2 x3 x4 x5 x6 x7 x8 x9 xf
  go_wp2
  exact bodyPost_ret (res_P1 rfl _ _ _ rfl F.out.1) rfl (by rw [hQ]; exact done_mk rfl rfl F.out.2.2 l4.out F.out.2.1)
theorem does_give {pb bm ob : Nat} {P : Pl} {v : Value} (w : World) (H : PoolAt w pb bm ob P) (D : ListT w (pb + 1) P.n P.T v) (ok : P.Ok) (d : DeedW) (hd : d.wf) (hk : d.k = 2) {ao : Option Addr} {cap : Nat} {A : List Int} (HA : IsInts w ao cap A) :
    Calls Try.prog 11 #[.pointer (some ⟨pb, 0, none⟩), docV v P.h P.R, deedV d (.slice ao A.length cap)] w (DoneD w pb bm ob (P.give d.s)) := by
  obtain ⟨av, cv, rfl, hl, hcm⟩ := D.shape
  have hpb := H.lt
  have hord := H.ord
  have hal := HA.le
  have hac := HA.cm
  have S0 := DS.new w pb bm ob (.slice av P.n cv) P d (.slice ao A.length cap)
  have H0 := ((H.alloc (docO (.slice av P.n cv) P.h P.R)).alloc (deedO d (.slice ao A.length cap))).alloc docZ
  have D0 := ((D.alloc (docO (.slice av P.n cv) P.h P.R)).alloc (deedO d (.slice ao A.length cap))).alloc docZ
  unfold maxLen at hcm hac
  obtain ⟨dk, dn, ds⟩ := d
  obtain ⟨k0, k1, n0, n1, s0, s1⟩ := hd
  dsimp only at *
  subst hk
  obtain ⟨L, hL⟩ : ∃ L, A.length = L := ⟨_, rfl⟩
  rw [hL] at hal S0 H0 D0 ⊢
  go_enter Try.func11, Try.ntmps11
  go_wp2_with fail
  generalize (((w.alloc (docO (.slice av P.n cv) P.h P.R)).alloc (deedO ⟨2, dn, ds⟩ (.slice ao L cap))).alloc docZ) = W0 at *
  have RT := rgive_any W0 D0 (by have := H0.lt; omega) ds
  obtain ⟨Q, hQ⟩ : ∃ Q, P.give ds = Q := ⟨_, rfl⟩
  obtain ⟨I, hI⟩ : ∃ I : Int, (P.of ds : Int) = I := ⟨_, rfl⟩
  obtain ⟨E, hE⟩ : ∃ E : Int, P.giveE ds = E := ⟨_, rfl⟩
  rw [hQ, hI, hE] at RT
  refine RT.mono ?_
  rintro e w1 ⟨v1, rfl, l1, b1⟩
  obtain ⟨a1, c1, rfl, hl1, hcm1⟩ := l1.shape
  have S1 := S0.low b1
  have H1 := H0.low b1
  have S2 := S1.low ((Below.refl w1.heap.size w1).alloc (Nat.le_refl _) (docO (.slice a1 Q.n c1) Q.h Q.R))
  have H2 := H1.alloc (docO (.slice a1 Q.n c1) Q.h Q.R)
  have l2 := l1.alloc (docO (.slice a1 Q.n c1) Q.h Q.R)
  have nb := heap_alloc_new w1 (docO (.slice a1 Q.n c1) Q.h Q.R)
  have h3 := S1.three
  have TA := give_any (w1.alloc (docO (.slice a1 Q.n c1) Q.h Q.R)) H2 ok (x := ds) s0 s1
  rw [hQ, hI, hE] at TA
  have S2 := Lib.hid S2
  have l2 := Lib.hid l2
  have nb := Lib.hid nb
  have d2 := S2.out.cells
  obtain ⟨x0, x1, x2, x3, x4, x5, x6, x7, x8, x9, xf⟩ := S1.cells
  clear RT S0 H0 D0 b1 H1 S1 l1 H2
  go_wp2_with fail
  generalize w1.alloc (docO (.slice a1 Q.n c1) Q.h Q.R) = W2 at *
  refine TA.mono ?_
  rintro e w3 ⟨rfl, H3, T3⟩
  have S3 := S2.out.turn T3 hpb hord
  have l3 := l2.out.turn T3 (Nat.lt_succ_self pb) hord
  have nb3 := (T3.block w1.heap.size (by have := (Array.getElem?_eq_some_iff.1 nb.out).1; exact this) (by omega) (by omega) (by omega)).trans nb.out
  have F := S3.fin hpb (.slice a1 Q.n c1) Q.h Q.R
  have F := Lib.hid (show _ ∧ _ ∧ _ from ⟨F.1, F.2.1, F.2.2 _ H3⟩)
  have l4 := Lib.hid (l3.set3 (l3.ne S3.rr (by decide)) (.slice a1 Q.n c1) Q.h Q.R)
  have y0 : w3.cell? ⟨w1.heap.size, 0, none⟩ = some (.slice a1 Q.n c1) := by simp [World.cell?, nb3]
  have y1 : w3.cell? ⟨w1.heap.size, 1, none⟩ = some (.int .i64 (Q.h : Int)) := by simp [World.cell?, nb3]
  have y2 : w3.cell? ⟨w1.heap.size, 2, none⟩ = some (.int .i64 (Q.R : Int)) := by simp [World.cell?, nb3]
  obtain ⟨z0, z1, z2, z3, z4, z5, z6, z7, z8, z9, zf⟩ := S3.cells
  have mI : (I == I) = true := by simp
  have mE : (E == E) = true := by simp
  clear TA S2 l2 nb nb3 T3 H3 S3 l3 d2 x0 x1 x2 x3 x4 x5 x6 x7 x8 x9 xf
  go_wp2
  exact bodyPost_ret (res_P1 rfl _ _ _ rfl F.out.1) rfl (by rw [hQ]; exact done_mk rfl rfl F.out.2.2 l4.out F.out.2.1)
end Go.Proofs.Ytkbkilkmiigahaa.Cx
