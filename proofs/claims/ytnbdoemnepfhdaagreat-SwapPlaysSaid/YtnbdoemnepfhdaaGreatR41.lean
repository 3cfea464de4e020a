/-
  Contracts and plain facts: WState, WMake. Conditions: each says its own.
-/
import Derived.Test.YtnbdoemnepfhdaaGreatR35
import Derived.Test.YtnbdoemnepfhdaaGreatR25
import Derived.Test.YtnbdoemnepfhdaaGreatR39
namespace Go.Proofs.YtnbdoemnepfhdaaGreat.Sw
open Fld Ts
open Mem (MemAt MemTo word)
open Frm (FrRow FrAt setT allB manyE manyI manyT manyO pick pickE pickI pickT okAt_iff pick_some giveE giveT)
open Go.ChangeShapes Go.WideShapes Go.ChangeAt Go.RowKit
set_option maxHeartbeats 1000000
set_option maxRecDepth 100000
structure PAt (w : World) (sb bm fb bb n : Nat) (g : Nat → Nat) (F : Nat → Bool) : Prop where
  mem : MemAt w sb bm (8192 * n) g
  fr : FrAt w fb bb n F
/-- Of what was in w all stays but the four blocks. -/
structure PT (w w' : World) (sb bm fb bb : Nat) : Prop where
  os : w'.os = w.os
  tape : w'.tape = w.tape
  output : w'.output = w.output
  size : w.heap.size ≤ w'.heap.size
  block : ∀ k, k < w.heap.size → k ≠ sb → k ≠ bm → k ≠ fb → k ≠ bb → w'.heap[k]? = w.heap[k]?
def PTo (w w' : World) (sb bm fb bb n : Nat) (g : Nat → Nat) (F : Nat → Bool) : Prop := ∃ bm', PAt w' sb bm' fb bb n g F ∧ (bm' = bm ∨ w.heap.size ≤ bm') ∧ PT w w' sb bm fb bb
/-- A block that can't be one of the four, by its type. -/
def okP (t : TypeId) : Prop := t ≠ 98 ∧ t ≠ 90 ∧ t ≠ 4
theorem PAt.far {w : World} {sb bm fb bb n k : Nat} {g : Nat → Nat} {F : Nat → Bool} (h : PAt w sb bm fb bb n g F) {c : Array Value} {t : TypeId} {f : Nat × Nat} (hk : w.heap[k]? = some (.cells c t f)) (ht : okP t) : k ≠ sb ∧ k ≠ bm ∧ k ≠ fb ∧ k ≠ bb := by
  obtain ⟨m, _, h1⟩ := h.mem.row
  obtain ⟨D, ⟨es, clk, h2, _⟩, _⟩ := h.mem.words
  have h3 := h.fr.s
  have h4 := h.fr.b
  refine ⟨?_, ?_, ?_, ?_⟩ <;> rintro rfl
  · rw [h1] at hk; cases hk; exact ht.1 rfl
  · rw [h2] at hk; cases hk
  · rw [h3] at hk; cases hk; exact ht.2.1 rfl
  · rw [h4] at hk; cases hk; exact ht.2.2 rfl
theorem PAt.ne {w : World} {sb bm fb bb n : Nat} {g : Nat → Nat} {F : Nat → Bool} (h : PAt w sb bm fb bb n g F) : sb ≠ bm ∧ sb ≠ fb ∧ sb ≠ bb ∧ bm ≠ fb ∧ bm ≠ bb ∧ fb ≠ bb := by
  obtain ⟨m, _, h1⟩ := h.mem.row
  obtain ⟨D, ⟨es, clk, h2, _⟩, _⟩ := h.mem.words
  have h3 := h.fr.s
  have h4 := h.fr.b
  refine ⟨Ne.symm h.mem.ne, ?_, ?_, ?_, ?_, h.fr.ne⟩ <;> rintro rfl
  · rw [h1] at h3; simp at h3
  · rw [h1] at h4; simp at h4
  · rw [h2] at h3; simp at h3
  · rw [h2] at h4; simp at h4
theorem PAt.lt {w : World} {sb bm fb bb n : Nat} {g : Nat → Nat} {F : Nat → Bool} (h : PAt w sb bm fb bb n g F) : sb < w.heap.size ∧ bm < w.heap.size ∧ fb < w.heap.size ∧ bb < w.heap.size := ⟨h.mem.lt.1, h.mem.lt.2, h.fr.lt.1, h.fr.lt.2⟩
theorem PAt.low {w w' : World} {sb bm fb bb n : Nat} {g : Nat → Nat} {F : Nat → Bool} (h : PAt w sb bm fb bb n g F) (hb : Below w.heap.size w w') : PAt w' sb bm fb bb n g F :=
  ⟨h.mem.same (hb.block _ h.lt.1) (hb.block _ h.lt.2.1), h.fr.below hb⟩
theorem PAt.drewN {w : World} {sb bm fb bb n : Nat} {g : Nat → Nat} {F : Nat → Bool} (h : PAt w sb bm fb bb n g F) (m : Nat) : PAt (w.drewN m) sb bm fb bb n g F := h.low (drewN_low w m)
theorem PAt.drew {w : World} {sb bm fb bb n : Nat} {g : Nat → Nat} {F : Nat → Bool} (h : PAt w sb bm fb bb n g F) : PAt w.drew sb bm fb bb n g F := h.drewN 1
theorem PAt.alloc {w : World} {sb bm fb bb n : Nat} {g : Nat → Nat} {F : Nat → Bool} (h : PAt w sb bm fb bb n g F) (o : Obj) : PAt (w.alloc o) sb bm fb bb n g F := h.low ((Below.refl _ _).alloc (Nat.le_refl _) _)
theorem PAt.set {w : World} {sb bm fb bb n k : Nat} {g : Nat → Nat} {F : Nat → Bool} (h : PAt w sb bm fb bb n g F) {c : Array Value} {t : TypeId} {f : Nat × Nat} (hk : w.heap[k]? = some (.cells c t f)) (ht : okP t) (o : Nat) (u : Value) : PAt (w.setCell ⟨k, o, none⟩ u) sb bm fb bb n g F := by
  obtain ⟨a, b, c, d⟩ := h.far hk ht
  exact ⟨h.mem.same (Below.heap_setCell _ _ _ _ (Ne.symm a)) (Below.heap_setCell _ _ _ _ (Ne.symm b)), h.fr.same (Below.heap_setCell _ _ _ _ (Ne.symm c)) (Below.heap_setCell _ _ _ _ (Ne.symm d))⟩
theorem PT.refl (w : World) (sb bm fb bb : Nat) : PT w w sb bm fb bb := ⟨rfl, rfl, rfl, Nat.le_refl _, fun _ _ _ _ _ _ => rfl⟩
theorem PT.trans {a b c : World} {sb bm bm' fb bb : Nat} (h : PT a b sb bm fb bb) (k : PT b c sb bm' fb bb) (hb : bm' = bm ∨ a.heap.size ≤ bm') : PT a c sb bm fb bb :=
  ⟨k.os.trans h.os, k.tape.trans h.tape, k.output.trans h.output, Nat.le_trans h.size k.size, fun i hi n1 n2 n3 n4 => (k.block i (Nat.lt_of_lt_of_le hi h.size) n1 (by rcases hb with rfl | hb <;> omega) n3 n4).trans (h.block i hi n1 n2 n3 n4)⟩
theorem PT.below {a b : World} (sb bm fb bb : Nat) (h : Below a.heap.size a b) : PT a b sb bm fb bb := ⟨h.os, h.tape, h.output, h.size, fun i hi _ _ _ _ => h.block i hi⟩
theorem PT.mem {a b : World} {sb bm : Nat} (fb bb : Nat) (h : Mem.Turn a b sb bm) : PT a b sb bm fb bb := ⟨h.os, h.tape, h.output, h.size, fun i hi n1 n2 _ _ => h.block i hi n1 n2⟩
theorem PT.fr {a b : World} {fb bb : Nat} (sb bm : Nat) (h : Frm.Turn a b fb bb) : PT a b sb bm fb bb := ⟨h.os, h.tape, h.output, h.size, fun i hi _ _ n3 n4 => h.block i hi n3 n4⟩
theorem PT.cells {w w' : World} {sb bm fb bb n k : Nat} {g : Nat → Nat} {F : Nat → Bool} (h : PT w w' sb bm fb bb) (p : PAt w sb bm fb bb n g F) {c : Array Value} {t : TypeId} {f : Nat × Nat} (hk : w.heap[k]? = some (.cells c t f)) (ht : okP t) : w'.heap[k]? = w.heap[k]? := by
  obtain ⟨a, b, c, d⟩ := p.far hk ht
  exact h.block k (Array.getElem?_eq_some_iff.1 hk).1 a b c d
/-- What lies below all four stays. -/
theorem PT.to_below {w w' : World} {sb bm fb bb B : Nat} (h : PT w w' sb bm fb bb) (h1 : B ≤ sb) (h2 : B ≤ bm) (h3 : B ≤ fb) (h4 : B ≤ bb) (hB : B ≤ w.heap.size) : Below B w w' :=
  ⟨h.os, h.tape, h.output, h.size, fun i hi => h.block i (by omega) (by omega) (by omega) (by omega) (by omega)⟩
theorem PAt.to {w : World} {sb bm fb bb n : Nat} {g : Nat → Nat} {F : Nat → Bool} (h : PAt w sb bm fb bb n g F) : PTo w w sb bm fb bb n g F := ⟨bm, h, .inl rfl, PT.refl _ _ _ _ _⟩
theorem PAt.to_low {w w' : World} {sb bm fb bb n : Nat} {g : Nat → Nat} {F : Nat → Bool} (h : PAt w sb bm fb bb n g F) (hb : Below w.heap.size w w') : PTo w w' sb bm fb bb n g F := ⟨bm, h.low hb, .inl rfl, PT.below _ _ _ _ hb⟩
theorem PTo.trans {a b c : World} {sb bm bm1 fb bb n : Nat} {g : Nat → Nat} {F : Nat → Bool} (h1 : bm1 = bm ∨ a.heap.size ≤ bm1) (t : PT a b sb bm fb bb) (h2 : PTo b c sb bm1 fb bb n g F) : PTo a c sb bm fb bb n g F := by
  obtain ⟨b2, a1, a2, a3⟩ := h2
  refine ⟨b2, a1, ?_, t.trans a3 h1⟩
  rcases a2 with rfl | a2
  · exact h1
  · exact .inr (Nat.le_trans t.size a2)
theorem PAt.mem_to {w w' : World} {sb bm fb bb n : Nat} {g g' : Nat → Nat} {F : Nat → Bool} (h : PAt w sb bm fb bb n g F) (k : MemTo w w' sb bm (8192 * n) g') : PTo w w' sb bm fb bb n g' F := by
  obtain ⟨b', k1, k2, k3⟩ := k
  obtain ⟨n1, n2, n3, n4, n5, n6⟩ := h.ne
  exact ⟨b', ⟨k1, h.fr.same (k3.block _ h.lt.2.2.1 (Ne.symm n2) (Ne.symm n4)) (k3.block _ h.lt.2.2.2 (Ne.symm n3) (Ne.symm n5))⟩, k2, PT.mem _ _ k3⟩
theorem PAt.fr_to {w w' : World} {sb bm fb bb n : Nat} {g : Nat → Nat} {F F' : Nat → Bool} (h : PAt w sb bm fb bb n g F) (k1 : FrAt w' fb bb n F') (k3 : Frm.Turn w w' fb bb) : PAt w' sb bm fb bb n g F' ∧ PT w w' sb bm fb bb := by
  obtain ⟨n1, n2, n3, n4, n5, n6⟩ := h.ne
  exact ⟨⟨h.mem.same (k3.block _ h.lt.1 n2 n3) (k3.block _ h.lt.2.1 n4 n5), k1⟩, PT.fr _ _ k3⟩
theorem okTsb : okP 111 := ⟨by decide, by decide, by decide⟩
theorem PT.row {w w' : World} {sb bm fb bb n st sb' : Nat} {g : Nat → Nat} {F : Nat → Bool} {p : Par} (h : PT w w' sb bm fb bb) (pa : PAt w sb bm fb bb n g F) (r : RowP w st sb' p) : RowP w' st sb' p := ⟨(h.cells pa r.row okTsb).trans r.row⟩
/-- A TSB in such a memory. -/
theorem PAt.tsb {w : World} {sb bm fb bb n st : Nat} {g o : Nat → Nat} {F : Nat → Bool} {x : Tb} (h : PAt w sb bm fb bb n g F) (hn : n ≤ 1000) (hx : x.In n) (r : RowP w st sb (x.q n o)) (hp : PlAt g (x.q n g) x.T) : TsbAt w st sb bm (x.q n g) x.T := ⟨hx.ok hn g, row_q r, g, h.mem, hp⟩
theorem PAt.tsb_to {w w' : World} {sb bm fb bb n st : Nat} {g : Nat → Nat} {F : Nat → Bool} {p : Par} {T' : Nat → Pl} (h : PAt w sb bm fb bb n g F) (hS : p.S = 8192 * n) (k : TsbTo w w' st sb bm p T') : ∃ g', PTo w w' sb bm fb bb n g' F ∧ PlAt g' p T' ∧ RowP w' st sb p := by
  obtain ⟨b', ⟨_, k2, g', k3, k4⟩, k5, k6⟩ := k
  rw [hS] at k3
  exact ⟨g', h.mem_to ⟨b', k3, k5, k6⟩, k4, k2⟩
/-! ### What TakeMany answers -/
theorem many_no {T : Nat → Bool} {n : Nat} {k : Int} (h : manyE T n k ≠ 0) : manyT T n k = T := by
  unfold manyE at h
  unfold manyT
  split
  · rfl
  · rename_i hk
    rw [if_neg hk] at h
    cases e : manyO T n k with
    | none => rfl
    | some i => rw [e] at h; exact absurd rfl h
theorem many_yes {T : Nat → Bool} {n : Nat} {k : Int} (h : manyE T n k = 0) : ∃ i : Nat, 1 ≤ k ∧ manyI T n k = (i : Int) ∧ manyT T n k = setT T i k.toNat true ∧ i + k.toNat ≤ n ∧ allB T i k.toNat false = true ∧ pick T n k.toNat 1 = some i := by
  unfold manyE at h
  split at h
  · cases h
  · rename_i hk
    cases e : manyO T n k with
    | none => rw [e] at h; cases h
    | some i =>
      have e' := e
      unfold manyO at e'
      obtain ⟨_, h2, h3⟩ := okAt_iff.1 (pick_some e').1
      refine ⟨i, by omega, ?_, ?_, h2, h3, e'⟩
      · unfold manyI; rw [if_neg hk, e]; rfl
      · unfold manyT; rw [if_neg hk, e]; rfl
end Go.Proofs.YtnbdoemnepfhdaaGreat.Sw

namespace Go.Proofs.YtnbdoemnepfhdaaGreat.Sw
open Fld Ts
open Mem (MemAt MemTo word)
open Frm (FrRow FrAt setT allB manyE manyI manyT manyO pick allB_mem)
open Go.ChangeShapes Go.WideShapes Go.ChangeAt Go.RowKit
set_option maxHeartbeats 2000000
set_option maxRecDepth 100000
theorem frameBytes_any (w : World) :
    Calls Tryz.prog 39 #[] w fun e w' => e = .returned (.int .i64 8192) ∧ w = w' := by
  have CB := Lib.hid (fun w => bytes_any 0 w)
  rw [show bytesI 0 = 8192 from rfl] at CB
  go_enter Tryz.func39, Tryz.ntmps39
  go_wp2_with (go_at_call 66; (with_reducible refine (CB.out _).mono ?_); rintro e w' ⟨rfl, rfl⟩)
  go_ret
  exact ⟨rfl, rfl⟩
theorem frames_any (s g : Int) (w : World) :
    Calls Tryz.prog 11 #[.int .i64 s, .int .i64 g] w fun e w' => e = .returned (.int .i64 (frI s g)) ∧ w = w' := by
  have CF := Lib.hid (fun w => frameBytes_any w)
  have CP := Lib.hid (fun w => places_any s g w)
  have hb := places_nn s g
  have H := Lib.hid (show (placesI s g * 16 + 8192 - 1) / 8192 = frI s g by unfold frI; omega)
  generalize placesI s g = p at *
  go_enter Tryz.func11, Tryz.ntmps11
  go_wp2_with (first | (go_at_call 39; (with_reducible refine (CF.out _).mono ?_); rintro e w' ⟨rfl, rfl⟩) | (go_at_call 40; (with_reducible refine (CP.out _).mono ?_); rintro e w' ⟨rfl, rfl⟩))
  go_ret
  exact ⟨ret_i H.out, rfl⟩
theorem pmake_no {w : World} {sb bm fb bb n : Nat} {g0 : Nat → Nat} {F : Nat → Bool} (s g : Int) (h : PAt w sb bm fb bb n g0 F) (he : manyE F n (frI s g) ≠ 0) :
    Calls Tryz.prog 38 #[.pointer (some ⟨sb, 0, none⟩), .pointer (some ⟨fb, 0, none⟩), .int .i64 s, .int .i64 g] w fun e w' => e = .returned (.tuple #[.pointer none, .int .i64 (manyE F n (frI s g))]) ∧ PTo w w' sb bm fb bb n g0 F := by
  have CF := Lib.hid (fun W => frames_any s g W)
  have CM := Lib.hid (Frm.fmany_any (frI s g) w h.fr)
  rw [many_no he] at CM
  generalize frI s g = k at *
  generalize manyI F n k = i at *
  generalize manyE F n k = E at *
  have he' : (E != 0) = true := by simpa using he
  clear he
  go_enter Tryz.func38, Tryz.ntmps38
  go_wp2_with (first | (go_at_call 11; (with_reducible refine (CF.out _).mono ?_); rintro e w' ⟨rfl, rfl⟩) | (go_at_call 25; (with_reducible refine CM.out.mono ?_); rintro e w1 ⟨rfl, k1, k2⟩))
  go_ret2
  obtain ⟨a, b⟩ := h.fr_to k1 k2
  exact ⟨rfl, bm, a, .inl rfl, b⟩
theorem new_ok {x : Tb} {n : Nat} (h : x.In n) (hn : n ≤ 1000) : newE ((8192 * n : Nat) : Int) ((8192 * x.f : Nat) : Int) x.s x.g = 0 := by
  have b := h.bd
  have h1 := h.is
  unfold newE
  rw [if_neg (by omega)]
  have e1 : Mem.mayI ((8192 * n : Nat) : Int) ((8192 * x.f : Nat) : Int) 16 16 = 0 := Mem.may_ok (by omega) (by omega)
  rw [if_pos e1]
  unfold Pt.lastI
  rw [if_pos (by omega)]
  rw [← b.2.2.2.2.2.1]
  rw [show ((8192 * x.f : Nat) : Int) + 16 * ((x.n : Int) - 1) = ((8192 * x.f + 16 * (x.n - 1) : Nat) : Int) by omega]
  exact Mem.may_ok (by omega) (by omega)
theorem pmake_yes {w : World} {sb bm fb bb n : Nat} {g0 : Nat → Nat} {F : Nat → Bool} (x : Tb) (hn : n ≤ 1000) (hx : x.In n) (h : PAt w sb bm fb bb n g0 F) (he : manyE F n (frI x.s x.g) = 0) (hi : manyI F n (frI x.s x.g) = (x.f : Int)) (hT : manyT F n (frI x.s x.g) = setT F x.f x.k true) :
    Calls Tryz.prog 38 #[.pointer (some ⟨sb, 0, none⟩), .pointer (some ⟨fb, 0, none⟩), .int .i64 x.s, .int .i64 x.g] w fun e w' => ∃ st g', e = .returned (.tuple #[.pointer (some ⟨st, 0, none⟩), .int .i64 0]) ∧ w.heap.size ≤ st ∧ PTo w w' sb bm fb bb n g' (setT F x.f x.k true) ∧ PlAt g' (x.q n g0) (fun _ => Pl.none) ∧ RowP w' st sb (x.q n g0) := by
  have CF := Lib.hid (fun W => frames_any x.s x.g W)
  have CB := Lib.hid (fun W => frameBytes_any W)
  have CM := Lib.hid (Frm.fmany_any (frI x.s x.g) w h.fr)
  have b := hx.bd
  have h1 := hx.is
  rw [he, hi, hT] at CM
  generalize frI x.s x.g = k at *
  have CN := Lib.hid (fun (W : World) (hW : MemAt W sb bm (8192 * n) g0) => new_yes (8192 * n) g0 sb bm ((8192 * x.f : Nat) : Int) x.s x.g (by omega) (by omega) W hW (new_ok hx hn))
  rw [show (⟨8192 * n, ((8192 * x.f : Nat) : Int).toNat, (placesI x.s x.g).toNat, x.s, x.g, g0⟩ : Par) = x.q n g0 from rfl] at CN
  have E1 := Lib.hid (show ((x.f : Int) * 8192) = ((8192 * x.f : Nat) : Int) by omega)
  have hf1 : (x.f : Int) ≤ 1000 := by omega
  go_enter Tryz.func38, Tryz.ntmps38
  go_wp2_with (first | (go_at_call 11; (with_reducible refine (CF.out _).mono ?_); rintro e w' ⟨rfl, rfl⟩) | (go_at_call 25; (with_reducible refine CM.out.mono ?_); rintro e w1 ⟨rfl, k1, k2⟩) | (go_at_call 39; (with_reducible refine (CB.out _).mono ?_); rintro e w' ⟨rfl, rfl⟩))
  obtain ⟨a1, a2⟩ := h.fr_to k1 k2
  rw [E1.out]
  refine (CN.out _ a1.mem).mono ?_
  rintro e w2 ⟨rfl, b', t1, t2, t3⟩
  go_wp2_with fail
  go_ret2
  obtain ⟨g', p1, p2, p3⟩ := a1.tsb_to rfl ⟨b', t1, t2, t3⟩
  exact ⟨_, g', rfl, a2.size, PTo.trans (.inl rfl) a2 p1, p2, p3⟩
end Go.Proofs.YtnbdoemnepfhdaaGreat.Sw

