/-
  YtffpfceclhogoaaGreatGC: the contracts and plain facts of several texts, laid together. Conditions: those that each theorem names.
-/
import Derived.Test.YtffpfceclhogoaaGreatGB
import Derived.Laws.CopyOwn
import Derived.Lib.Overlaps
import Derived.Lib.AppendZerosOnto
import Derived.Lib.SliceRun
import Derived.Laws.NewBlocks
import Derived.Laws.Externs
import Derived.Deep.RegionLaw
import Derived.Deep.RegionHeld3
import Derived.Test.YtffpfceclhogoaaGreatGA
import Derived.Deep.AppendLies
import Derived.Laws.OwnMore
import Derived.ChangeSame
import Derived.Lib.SmallJoins
import Derived.ShutString
import Derived.Deep.Slices
import Derived.Deep.Fields
import Derived.OpenShut
namespace Go.Proofs.YtffpfceclhogoaaGreat.Hs
open Fld
open Go.ChangeShapes Go.WideShapes Go.ChangeAt Go.RowKit Go.Maps
set_option maxHeartbeats 1000000
/-! ### copy and clear at elements of k cells -/
theorem run_copy_rowk {P : Program} (w : World) (dT sT ty elem : TypeId) (k g o dLen dCap : Nat) (a : Addr) (sLen sCap : Nat) (cur : Array Value) (t : TypeId) (cs : List Value)
    (hu : P.underlying dT = some (.slice elem)) (hs : (P.info? elem).map (·.size) = some k)
    (hg : w.heap[g]? = some (.cells cur t (0, 0))) (hn : cs.length = Nat.min sLen dLen * k)
    (hsrc : ∀ j v, cs[j]? = some v → w.cell? (a.add j) = some v) (hfit : o + cs.length ≤ cur.size) (h1 : ∀ v ∈ cs, v.oneCell' = true) :
    (Builtin.copy_ #[dT, sT] ty #[.slice (some ⟨g, o, none⟩) dLen dCap, .slice (some a) sLen sCap]).run P w =
      .ok (goInt (Nat.min sLen dLen)) (w.setRow g (cur.toList.take o ++ cs ++ cur.toList.drop (o + cs.length)).toArray) := by
  have hl := run_loadCells_list (P := P) w a cs hsrc
  have hst := run_storeCells_at P g o t cs 0 cur w hg (by simpa using hfit) h1
  rw [hn] at hl
  cases hq : P.info? elem with
  | none => simp [hq] at hs
  | some i =>
    have hi : i.size = k := by simpa [hq] using hs
    simp [Builtin.copy_, run_underlying hu, Builtin.lenOf, Builtin.firstCells, sizeOf, typeInfo, hq, hi, hl, hst]
theorem run_clear_rowk {P : Program} (w : World) (t e ty : TypeId) (z : Value) (k b o n c : Nat) (cur : Array Value) (tt : TypeId) (ht : P.underlying t = some (.slice e)) (hv : ∀ w, (zeroValue e).run P w = .ok z w) (hz : z.cells.size = k) (h1 : ∀ v ∈ (Builtin.zeroCells z.cells n).toList, v.oneCell' = true) (hn : 0 < n)
    (hg : w.heap[b]? = some (.cells cur tt (0, 0))) (hfit : o + n * k ≤ cur.size) :
    (Builtin.clear_ #[t] ty #[.slice (some ⟨b, o, none⟩) n c]).run P w = .ok (.tuple #[]) (w.setRow b (cur.toList.take o ++ (Builtin.zeroCells z.cells n).toList ++ cur.toList.drop (o + n * k)).toArray) := by
  have hl : (Builtin.zeroCells z.cells n).toList.length = n * k := by simp [Builtin.zeroCells, hz]
  have hst := run_storeCells_at P b o tt (Builtin.zeroCells z.cells n).toList 0 cur w hg (by rw [hl]; simpa using hfit) h1
  rw [hl] at hst
  simp only [Nat.add_zero] at hst
  obtain ⟨m, rfl⟩ : ∃ m, n = m + 1 := ⟨n - 1, by omega⟩
  simp [Builtin.clear_, run_underlying ht, hv, hst]
section
variable {P : Program}
theorem wp_builtin_run (w : World) {o : Oper} {a : Act} {K : Act → World → Prop} {Q : Exit → Act → World → Prop} {b : Builtin} (f : Array TypeId → TypeId → Array Value → Sem Value) (hf : ∀ ats ty cs args, builtin b ats ty cs args = (do pure (.value (← f ats ty args)))) (d s : Operand) (t t' : TypeId)
    (ho : o.op = .call { callee := .builtin b, args := #[d, s], argTypes := #[t, t'] }) (v u : Value) (hd : a.eval d = v) (hs : a.eval s = u) {v' : Value} {w' : World}
    (hr : (f #[t, t'] o.type #[v, u]).run P w = .ok v' w') (h : K (a.put o.dst v') w') : o.wp P a w K Q := by
  unfold Oper.wp execOp
  simp only [ho, resolve, invoke, hf, Sem.run_bind, Sem.run_pure, Result.andThen_ok, List.map_toArray, List.map_cons, List.map_nil, hd, hs, hr]
  exact h
theorem wpList_copy_is (w : World) {ops : Array Oper} {rest : List Oper} {o : Oper} {a : Act} {Q : Exit → Act → World → Prop} (hgd : o.guard = none) (d s : Operand) (t t' : TypeId)
    (ho : o.op = .call { callee := .builtin .copy, args := #[d, s], argTypes := #[t, t'] }) (v u : Value) (hd : a.eval d = v) (hs : a.eval s = u) {v' : Value} {w' : World}
    (hr : (Builtin.copy_ #[t, t'] o.type #[v, u]).run P w = .ok v' w') (h : wpList P ops Q rest (a.put o.dst v') w') : wpList P ops Q (o :: rest) a w :=
  wpList_plain hgd fun _ hK => wp_builtin_run w Builtin.copy_ (fun _ _ _ _ => rfl) d s t t' ho v u hd hs hr (hK _ _ h)
theorem step_builtin_is {ops : Array Oper} {o : Oper} {a : Act} {w : World} {K : Act → World → Prop} {Q : Exit → Act → World → Prop} {E : Prop} {b : Builtin} (f : Array TypeId → TypeId → Array Value → Sem Value) (hf : ∀ ats ty cs args, builtin b ats ty cs args = (do pure (.value (← f ats ty args))))
    (hg : o.guard = none) (d x : Operand) (dT sT : TypeId) (hop : o.op = Op.call { callee := Callee.builtin b, args := #[d, x], argTypes := #[dT, sT] })
    (v u : Value) (hd : a.eval d = v) (hx : a.eval x = u) {v' : Value} {w' : World} (hr : (f #[dT, sT] o.type #[v, u]).run P w = .ok v' w') (hK : K (a.put o.dst v') w') :
    if Region.wanted o (yielded ops a.tmps) = true then Oper.wp P o a w K Q else E := by
  have hw : Region.wanted o (yielded ops a.tmps) = true := by simp [Region.wanted, hg]
  rw [if_pos hw]
  exact wp_builtin_run w f hf d x dT sT hop v u hd hx hr hK
end
/-! ### slices.Insert -/
theorem addr_lit (g o j : Nat) : (⟨g, o, none⟩ : Addr).add j = ⟨g, o + j, none⟩ := by unfold Addr.add; split <;> simp_all
/-! ### slices.Delete -/
end Go.Proofs.YtffpfceclhogoaaGreat.Hs
namespace Go.Proofs.YtffpfceclhogoaaGreat.Hp
open Fld Hs
open Go.ChangeShapes Go.WideShapes Go.ChangeAt Go.RowKit Go.Maps
set_option maxHeartbeats 1000000
/-! ### slices.Insert -/
theorem infoB : (Tryz.prog.info? 133).map (fun i => (i.zero, i.size, i.bytes)) = some (some (.agg #[.int .i64 0, .int .u64 0, .int .i64 0, .int .u64 0, .int .i64 0, .int .u64 0, .bool false, .bool false, .bool false, .bool false, .bool false, .bool false, .bool false, .bool false]), 14, 56) := by kernel_rfl
theorem bk_size : (Tryz.prog.info? 133).map (·.size) = some 14 := by
  obtain ⟨i0, hi, _, h, _⟩ := info_parts infoB; rw [hi]; simp [h]
theorem bk_zero (w : World) : (zeroValue 133).run Tryz.prog w = .ok (.agg #[.int .i64 0, .int .u64 0, .int .i64 0, .int .u64 0, .int .i64 0, .int .u64 0, .bool false, .bool false, .bool false, .bool false, .bool false, .bool false, .bool false, .bool false]) w := by kernel_rfl
theorem insert_nil (b : Bk) (vb : Nat) (w : World) (hvb : w.heap[vb]? = some (.cells #[.int .i64 b.k.sp, .int .u64 b.k.va, .int .i64 b.k.sz, .int .u64 b.v.va, .int .i64 b.v.sz, .int .u64 b.v.pa, .bool b.v.att.write, .bool b.v.att.priv, .bool b.v.att.exec, .bool b.v.att.lock, .bool b.v.att.global, .bool b.v.att.quiet, .bool b.v.ref, .bool b.v.mod] 133 (0, 0))) :
    Calls Tryz.prog 97 #[nilS, .int .i64 0, .slice (some ⟨vb, 0, none⟩) 1 1] w fun e w' =>
      ∃ g cap, e = .returned (.slice (some ⟨g, 0, none⟩) 1 cap) ∧ w'.ownsRow 0 133 14 (.slice (some ⟨g, 0, none⟩) 1 cap) 1 (bkL [b]) ∧ Below w.heap.size w w' ∧ w.heap.size ≤ g := by
  obtain ⟨i0, hi, hz0, hz1, hz2⟩ := info_parts infoB
  have hown : w.ownsRow 0 133 14 nilS 0 [] := World.ownsRow_nil w 0 _ 14
  unfold nilS at hown ⊢
  go_enter Tryz.func97, Tryz.ntmps97
  go_wp2_with (at_builtin; (refine wpList_append_lies _ rfl _ _ 125 rfl 0 133 i0 _ 14 56 Tryz.underlying125 hi hz0 hz1 hz2 rfl (by decide) (.slice none 0 0) _ _ rfl hown ⟨vb, 0, none⟩ 1 1 (bkC b) rfl rfl (World.news_of_block hvb) (fun u hu => bkL_one [b] u (by simpa [bkL] using hu)) (by decide) (by unfold maxLen; omega) (by omega) (Nat.zero_le _) _ rfl ?_); intro g cap w1 ho1 hg1 hat hlt)
  go_ret
  have hgz : w.heap.size ≤ g := by
    rcases hat with h | h
    · cases h
    · omega
  exact ⟨g, cap, rfl, by simpa [bkL] using ho1, ⟨hg1.os, hg1.tape, hg1.output, hg1.size, fun k hk => hg1.block k hk (by simp [Value.ownBlock])⟩, hgz⟩
set_option maxRecDepth 100000 in
theorem insert_shift (b : Bk) (vb : Nat) (l : List Bk) (g cap : Nat) (cur : Array Value) (w : World) (hl : 0 < l.length) (hvb : w.heap[vb]? = some (.cells #[.int .i64 b.k.sp, .int .u64 b.k.va, .int .i64 b.k.sz, .int .u64 b.v.va, .int .i64 b.v.sz, .int .u64 b.v.pa, .bool b.v.att.write, .bool b.v.att.priv, .bool b.v.att.exec, .bool b.v.att.lock, .bool b.v.att.global, .bool b.v.att.quiet, .bool b.v.ref, .bool b.v.mod] 133 (0, 0))) (hne : vb ≠ g)
    (hg : w.heap[g]? = some (.cells cur 133 (0, 0))) (hc : cur.size = cap * 14) (hcap : l.length + 1 ≤ cap) (hm : cap ≤ maxLen) (hcur : cur.toList.take (l.length * 14) = bkL l) :
    Calls Tryz.prog 97 #[.slice (some ⟨g, 0, none⟩) l.length cap, .int .i64 0, .slice (some ⟨vb, 0, none⟩) 1 1] w fun e w' =>
      e = .returned (.slice (some ⟨g, 0, none⟩) (l.length + 1) cap) ∧ w'.ownsRow 0 133 14 (.slice (some ⟨g, 0, none⟩) (l.length + 1) cap) (l.length + 1) (bkL (b :: l)) ∧ w.grownBy w' (some g) := by
  have hov : ∀ W : World, W.heap[vb]? = w.heap[vb]? → W.heap[g]? = w.heap[g]? → ∀ off lb cb, (callFunc 124 #[.slice (some ⟨vb, 0, none⟩) 1 1, .slice (some ⟨g, off, none⟩) lb cb]).run Tryz.prog W = .ok (.value (.bool false)) W := fun W e1 e2 off lb cb => by
    have h1 := e1.trans hvb; have h2 := e2.trans hg
    rw [run_callFunc_extern Tryz.func124 (by kernel_rfl) (by kernel_rfl) (by kernel_rfl) (e := Extern.SlicesOverlaps.overlaps #[125, 125] #[4]) (by kernel_rfl),
      Lib.run_overlaps_apart W 125 4 133 Tryz.underlying125 14 (fun _ => by kernel_rfl) ⟨vb, 0, none⟩ ⟨g, off, none⟩ 1 1 lb cb hne 133 133 14 cur.size (by simp [World.shape?, h1]) (by simp [World.shape?, h2]) (by omega) (by simp [World.frozen?, h1]) (by simp [World.frozen?, h1])]
    rfl
  have hm' : cap ≤ 9223372036854775807 := by simpa [maxLen] using hm
  have hn1 : ¬ (0 : Int) = (l.length : Int) := by omega
  have hn2 : ¬ (cap : Int) < (l.length : Int) + 1 := by omega
  have hn3 : ¬ cap = 0 := by omega
  have hw1 : IntKind.i64.wrap 1 = 1 := by decide
  have hn5 : (1 : Int) ≤ (l.length : Int) + 1 := by omega
  have hn6 : (0 : Int) ≤ (l.length : Int) + 1 := by omega
  have hn4 : ¬ cap = 1 := by omega
  have hlen := bkL_length l
  have hsrc : ∀ j v, (bkL l)[j]? = some v → cur[j]? = some v := fun j v h => by
    rw [← hcur, List.getElem?_take] at h
    split at h
    · simpa using h
    · cases h
  have hsz := bk_size
  have hmin : Nat.min (l.length + 1) l.length = l.length := Nat.min_eq_right (Nat.le_succ _)
  have hmin1 : Nat.min 1 (l.length + 1) = 1 := Nat.min_eq_left (by omega)
  have hnl : (bkL l).length = l.length * 14 := hlen
  have hsrcg : ∀ (W : World), W.heap[g]? = w.heap[g]? → ∀ j v, (bkL l)[j]? = some v → W.cell? ((⟨g, 0, none⟩ : Addr).add j) = some v := fun W hW j v h => by
    rw [addr_lit, Nat.zero_add]
    have := hsrc j v h
    simp [World.cell?, hW, hg, this]
  have hcp1 : ∀ (W : World), W.heap[g]? = w.heap[g]? → ∀ ty, (Builtin.copy_ #[125, 125] ty #[.slice (some ⟨g, 14, none⟩) l.length (cap - 1), .slice (some ⟨g, 0, none⟩) (l.length + 1) cap]).run Tryz.prog W = .ok (goInt l.length) (W.setRow g (cur.toList.take 14 ++ bkL l ++ cur.toList.drop (14 + (bkL l).length)).toArray) := fun W hW ty => by
    have h := run_copy_rowk (P := Tryz.prog) W 125 125 ty 133 14 g 14 l.length (cap - 1) ⟨g, 0, none⟩ (l.length + 1) cap cur 133 (bkL l) Tryz.underlying125 hsz (hW.trans hg) (by rw [hnl, hmin]) (hsrcg W hW) (by omega) (bkL_one l)
    rw [hmin] at h; exact h
  obtain ⟨X, hX⟩ : ∃ X, X = (cur.toList.take 14 ++ bkL l ++ cur.toList.drop (14 + (bkL l).length)).toArray := ⟨_, rfl⟩
  rw [← hX] at hcp1
  have HX := Lib.hid hX
  have hXs : X.size = cap * 14 := by rw [hX]; simp; omega
  clear hX
  have hcp2 : ∀ (W : World), W.heap[g]? = some (.cells X 133 (0, 0)) → W.heap[vb]? = w.heap[vb]? → ∀ ty, (Builtin.copy_ #[125, 125] ty #[.slice (some ⟨g, 0, none⟩) (l.length + 1) cap, .slice (some ⟨vb, 0, none⟩) 1 1]).run Tryz.prog W = .ok (goInt 1) (W.setRow g (X.toList.take 0 ++ bkC b ++ X.toList.drop (0 + (bkC b).length)).toArray) := fun W hW hV ty => by
    have h := run_copy_rowk (P := Tryz.prog) W 125 125 ty 133 14 g 0 (l.length + 1) cap ⟨vb, 0, none⟩ 1 1 X 133 (bkC b) Tryz.underlying125 hsz hW (by rw [hmin1]; rfl) (World.news_of_block (hV.trans hvb)) (by rw [hXs]; simp [bkC]; omega) (fun u hu => bkL_one [b] u (by simpa [bkL] using hu))
    rw [hmin1] at h; exact h
  obtain ⟨Y, hY⟩ : ∃ Y, Y = (X.toList.take 0 ++ bkC b ++ X.toList.drop (0 + (bkC b).length)).toArray := ⟨_, rfl⟩
  rw [← hY] at hcp2
  have HY := Lib.hid hY
  clear hY
  go_enter Tryz.func97, Tryz.ntmps97
  go_wp2_with fail
  go_region_law (refine step_builtin_is Builtin.copy_ (fun _ _ _ _ => rfl) rfl _ _ 125 125 rfl _ _ (by simp [Act.eval, Act.put]) (by simp [Act.eval, Act.put]) (hcp1 _ (by rfl) _) ?_)
  have hr1 : (w.drew.setRow g X).heap[g]? = some (.cells X 133 (0, 0)) := setRow_heap w.drew g cur X _ _ hg
  have hr2 : (w.drew.setRow g X).heap[vb]? = w.heap[vb]? := setRow_other w.drew g vb X hne
  go_wp2_with (at_builtin; refine wpList_copy_is _ rfl _ _ 125 125 rfl _ _ rfl rfl (hcp2 _ hr1 hr2 _) ?_)
  go_ret
  have hYe : Y.toList.take ((l.length + 1) * 14) = bkL (b :: l) := by
    have e1 := HY.out; have e2 := HX.out
    have e3 : X.toList = cur.toList.take 14 ++ (bkL l ++ cur.toList.drop (14 + l.length * 14)) := by rw [e2, hnl]; simp
    have e4 : (cur.toList.take 14).length = 14 := by simp; omega
    have e5 : X.toList.drop 14 = bkL l ++ cur.toList.drop (14 + l.length * 14) := by rw [e3]; exact List.drop_left' e4
    rw [e1]
    simp only [List.take_zero, List.nil_append, show (bkC b).length = 14 from rfl, Nat.zero_add, e5]
    rw [← List.append_assoc, show bkC b ++ bkL l = bkL (b :: l) from rfl, show (l.length + 1) * 14 = (bkL (b :: l)).length by rw [bkL_length]; rfl, List.take_left]
  refine ⟨rfl, ⟨by rw [bkL_length]; rfl, .inr ⟨g, cap, Y, rfl, Nat.zero_le _, setRow_heap _ g X Y _ _ hr1, hcap, hm, ?_, hYe⟩⟩, ⟨rfl, rfl, rfl, by simp [World.setRow], fun k hk hkg => ?_⟩⟩
  · rw [HY.out]; simp [bkC]; omega
  · have hkg' : k ≠ g := fun e => hkg (by rw [e])
    exact (setRow_other _ g k Y hkg').trans (setRow_other w.drew g k X hkg')
set_option maxRecDepth 100000 in
theorem insert_grow (b : Bk) (vb : Nat) (l : List Bk) (g cap : Nat) (cur : Array Value) (w : World) (hl : 0 < l.length) (hmax : l.length ≤ 1073741824) (hvb : w.heap[vb]? = some (.cells #[.int .i64 b.k.sp, .int .u64 b.k.va, .int .i64 b.k.sz, .int .u64 b.v.va, .int .i64 b.v.sz, .int .u64 b.v.pa, .bool b.v.att.write, .bool b.v.att.priv, .bool b.v.att.exec, .bool b.v.att.lock, .bool b.v.att.global, .bool b.v.att.quiet, .bool b.v.ref, .bool b.v.mod] 133 (0, 0)))
    (hg : w.heap[g]? = some (.cells cur 133 (0, 0))) (hcap0 : l.length ≤ cap) (hcap : cap < l.length + 1) (hcur : cur.toList.take (l.length * 14) = bkL l) :
    Calls Tryz.prog 97 #[.slice (some ⟨g, 0, none⟩) l.length cap, .int .i64 0, .slice (some ⟨vb, 0, none⟩) 1 1] w fun e w' =>
      ∃ cap', e = .returned (.slice (some ⟨w.heap.size, 0, none⟩) (l.length + 1) cap') ∧ w'.ownsRow 0 133 14 (.slice (some ⟨w.heap.size, 0, none⟩) (l.length + 1) cap') (l.length + 1) (bkL (b :: l)) ∧ Below w.heap.size w w' := by
  obtain ⟨i0, hi, hz0, hz1, hz2⟩ := info_parts infoB
  have hsz := bk_size
  have hlen := bkL_length l
  have hsrc : ∀ j v, (bkL l)[j]? = some v → cur[j]? = some v := fun j v h => by
    rw [← hcur, List.getElem?_take] at h
    split at h
    · simpa using h
    · cases h
  have hgl : g < w.heap.size := (Array.getElem?_eq_some_iff.1 hg).1
  have hvl : vb < w.heap.size := (Array.getElem?_eq_some_iff.1 hvb).1
  obtain ⟨G, hG⟩ : ∃ G, G = grownCap w (0 + (l.length + 1)) cap 133 := ⟨_, rfl⟩
  have hG1 : l.length + 1 ≤ G := by have := grownCap_ge w (0 + (l.length + 1)) cap 133; omega
  have hG2 : G ≤ maxLen := by rw [hG]; exact grownCap_le_maxLen w _ _ _ (by unfold maxLen; omega)
  obtain ⟨Z, hZ⟩ : ∃ Z, Z = ([] : List Value).toArray ++ Builtin.zeroCells (Value.agg #[.int .i64 0, .int .u64 0, .int .i64 0, .int .u64 0, .int .i64 0, .int .u64 0, .bool false, .bool false, .bool false, .bool false, .bool false, .bool false, .bool false, .bool false]).cells (l.length + 1) ++ Builtin.zeroCells (Value.agg #[.int .i64 0, .int .u64 0, .int .i64 0, .int .u64 0, .int .i64 0, .int .u64 0, .bool false, .bool false, .bool false, .bool false, .bool false, .bool false, .bool false, .bool false]).cells (G - (0 + (l.length + 1))) := ⟨_, rfl⟩
  have hZs : Z.size = G * 14 := by
    rw [hZ]; simp [size_zeroCells, Value.cells]; omega
  have hrz : ∀ ty, (Builtin.append_ #[125, 3] ty #[.slice (some ⟨g, 0, none⟩) 0 cap, .int .i64 ((l.length : Int) + 1)]).run Tryz.prog w = .ok (.slice (some ⟨w.heap.size, 0, none⟩) (l.length + 1) G) (w.drew.alloc (.cells Z 133)) := fun ty => by
    have h := Lib.run_append_grow_zeros w 125 3 ty 133 i0 _ .i64 .i64 Tryz.underlying125 Tryz.underlying3 hi hz0 (some ⟨g, 0, none⟩) 0 cap [] (by rw [hz1]; exact run_firstCells_some w.drew 14 0 ⟨g, 0, none⟩ 0 cap [] rfl (fun j v hj => by simp at hj)) (l.length + 1) (by omega) (by omega) (by omega) (by omega) (by rw [hz2]; omega) (by rw [hz2]; exact growslice_fits (by omega) (by omega))
    rw [← hG, ← hZ] at h
    simpa using h
  have HG := Lib.hid hG
  have HZ := Lib.hid hZ
  clear hG hZ
  have hmin1 : Nat.min 1 (l.length + 1) = 1 := Nat.min_eq_left (by omega)
  have hmin2 : Nat.min l.length l.length = l.length := Nat.min_self _
  obtain ⟨X, hX⟩ : ∃ X, X = (Z.toList.take 0 ++ bkC b ++ Z.toList.drop (0 + (bkC b).length)).toArray := ⟨_, rfl⟩
  obtain ⟨Y, hY⟩ : ∃ Y, Y = (X.toList.take 14 ++ bkL l ++ X.toList.drop (14 + (bkL l).length)).toArray := ⟨_, rfl⟩
  have hXs : X.size = G * 14 := by rw [hX]; simp [bkC]; omega
  have hYs : Y.size = G * 14 := by rw [hY]; simp; omega
  have hcp1 : ∀ (W : World), W.heap[w.heap.size]? = some (.cells Z 133 (0, 0)) → W.heap[vb]? = w.heap[vb]? → ∀ ty, (Builtin.copy_ #[125, 125] ty #[.slice (some ⟨w.heap.size, 0, none⟩) (l.length + 1) G, .slice (some ⟨vb, 0, none⟩) 1 1]).run Tryz.prog W = .ok (goInt 1) (W.setRow w.heap.size X) := fun W hW hV ty => by
    have h := run_copy_rowk (P := Tryz.prog) W 125 125 ty 133 14 w.heap.size 0 (l.length + 1) G ⟨vb, 0, none⟩ 1 1 Z 133 (bkC b) Tryz.underlying125 hsz hW (by rw [hmin1]; rfl) (World.news_of_block (hV.trans hvb)) (by rw [hZs]; simp [bkC]; omega) (fun u hu => bkL_one [b] u (by simpa [bkL] using hu))
    rw [hmin1, ← hX] at h; exact h
  have hcp2 : ∀ (W : World), W.heap[w.heap.size]? = some (.cells X 133 (0, 0)) → W.heap[g]? = w.heap[g]? → ∀ ty sc, (Builtin.copy_ #[125, 125] ty #[.slice (some ⟨w.heap.size, 14, none⟩) l.length sc, .slice (some ⟨g, 0, none⟩) l.length cap]).run Tryz.prog W = .ok (goInt l.length) (W.setRow w.heap.size Y) := fun W hW hV ty sc => by
    have h := run_copy_rowk (P := Tryz.prog) W 125 125 ty 133 14 w.heap.size 14 l.length sc ⟨g, 0, none⟩ l.length cap X 133 (bkL l) Tryz.underlying125 hsz hW (by rw [hmin2, hlen]) (fun j v h => by
      rw [addr_lit, Nat.zero_add]
      have := hsrc j v h
      simp [World.cell?, hV, hg, this]) (by omega) (bkL_one l)
    rw [hmin2, ← hY] at h; exact h
  have HX := Lib.hid hX
  have HY := Lib.hid hY
  clear hX hY
  have hm' : G ≤ 9223372036854775807 := by simpa [maxLen] using hG2
  have hn1 : ¬ (0 : Int) = (l.length : Int) := by omega
  have hn2 : (cap : Int) < (l.length : Int) + 1 := by omega
  have hn3 : ¬ cap = 0 := by omega
  have hn7 : ¬ G = 0 := by omega
  have hn8 : ¬ G = 1 := by omega
  have hw1 : IntKind.i64.wrap 1 = 1 := by decide
  have hn5 : (1 : Int) ≤ (l.length : Int) + 1 := by omega
  have hn6 : (0 : Int) ≤ (l.length : Int) + 1 := by omega
  have hr1 : (w.alloc (.cells Z 133)).drew.heap[w.heap.size]? = some (.cells Z 133 (0, 0)) := heap_alloc_new w _
  have hr2 : ∀ k, k < w.heap.size → (w.alloc (.cells Z 133)).drew.heap[k]? = w.heap[k]? := fun k hk => Below.heap_alloc w _ k hk
  have hr3 : ((w.alloc (.cells Z 133)).drew.setRow w.heap.size X).heap[w.heap.size]? = some (.cells X 133 (0, 0)) := setRow_heap _ _ Z X _ _ hr1
  have hr4 : ∀ k, k < w.heap.size → ((w.alloc (.cells Z 133)).drew.setRow w.heap.size X).heap[k]? = w.heap[k]? := fun k hk => (setRow_other _ _ k X (by omega)).trans (hr2 k hk)
  have hc1 := fun ty => hcp1 _ hr1 (hr2 vb hvl) ty
  have hc2 := fun ty sc => hcp2 (((w.alloc (.cells Z 133)).drew.setRow w.heap.size X).drew) hr3 (hr4 g hgl) ty sc
  clear hcp1 hcp2
  go_enter Tryz.func97, Tryz.ntmps97
  go_wp2_with (first
    | (at_builtin; refine Lib.wpList_append_run _ rfl _ _ 125 3 rfl _ _ rfl rfl _ _ (hrz _) ?_))
  go_region_law (refine step_builtin_is Builtin.copy_ (fun _ _ _ _ => rfl) rfl _ _ 125 125 rfl _ _ (by simp [Act.eval, Act.put]) (by simp [Act.eval, Act.put]) (hc2 _ (G - 1)) ?_)
  go_wp2
  go_ret
  have hYe : Y.toList.take ((l.length + 1) * 14) = bkL (b :: l) := by
    have e1 := HY.out; have e2 := HX.out
    have e3 : X.toList.take 14 = bkC b := by rw [e2]; simp [bkC]
    have e4 : Y.toList = bkL (b :: l) ++ X.toList.drop (14 + (bkL l).length) := by rw [e1, e3]; simp [bkL]
    rw [e4, show (l.length + 1) * 14 = (bkL (b :: l)).length by rw [bkL_length]; rfl, List.take_left]
  have hr5 := setRow_heap ((w.alloc (.cells Z 133)).drew.setRow w.heap.size X) w.heap.size X Y _ _ hr3
  refine ⟨G, rfl, ⟨by rw [bkL_length]; rfl, .inr ⟨w.heap.size, G, Y, rfl, Nat.zero_le _, hr5, hG1, hG2, hYs, hYe⟩⟩, ⟨rfl, rfl, rfl, by simp [World.setRow], fun k hk => ?_⟩⟩
  exact (setRow_other _ _ k Y (by omega)).trans (hr4 k hk)
theorem insert_any (b : Bk) (vb : Nat) (l : List Bk) (v : Value) (w : World) (h : w.ownsRow 0 133 14 v l.length (bkL l)) (hnil : l = [] → v = nilS) (hmax : l.length ≤ 1073741824)
    (hvb : w.heap[vb]? = some (.cells #[.int .i64 b.k.sp, .int .u64 b.k.va, .int .i64 b.k.sz, .int .u64 b.v.va, .int .i64 b.v.sz, .int .u64 b.v.pa, .bool b.v.att.write, .bool b.v.att.priv, .bool b.v.att.exec, .bool b.v.att.lock, .bool b.v.att.global, .bool b.v.att.quiet, .bool b.v.ref, .bool b.v.mod] 133 (0, 0))) (hne : ∀ g, v.ownBlock = some g → vb ≠ g) :
    Calls Tryz.prog 97 #[v, .int .i64 0, .slice (some ⟨vb, 0, none⟩) 1 1] w fun e w' =>
      ∃ g cap, e = .returned (.slice (some ⟨g, 0, none⟩) (l.length + 1) cap) ∧ w'.ownsRow 0 133 14 (.slice (some ⟨g, 0, none⟩) (l.length + 1) cap) (l.length + 1) (bkL (b :: l)) ∧ w.grownBy w' v.ownBlock ∧ (v.ownBlock = some g ∨ w.heap.size ≤ g) := by
  by_cases hl : l = []
  · obtain rfl := hnil hl
    subst hl
    refine (insert_nil b vb w hvb).mono ?_
    rintro e w' ⟨g, cap, rfl, ho, hb, hg⟩
    exact ⟨g, cap, rfl, ho, ⟨hb.os, hb.tape, hb.output, hb.size, fun k hk _ => hb.block k hk⟩, .inr hg⟩
  · have hpos : 0 < l.length := List.length_pos_iff.2 hl
    rcases h.2 with ⟨_, h0⟩ | ⟨g, cap, cur, rfl, _, hg, hnc, hcm, hcs, htake⟩
    · omega
    · by_cases hroom : l.length + 1 ≤ cap
      · refine (insert_shift b vb l g cap cur w hpos hvb (hne g rfl) hg hcs hroom hcm htake).mono ?_
        rintro e w' ⟨rfl, ho, hgr⟩
        exact ⟨g, cap, rfl, ho, hgr, .inl rfl⟩
      · refine (insert_grow b vb l g cap cur w hpos hmax hvb hg hnc (by omega) htake).mono ?_
        rintro e w' ⟨cap', rfl, ho, hb⟩
        exact ⟨_, cap', rfl, ho, ⟨hb.os, hb.tape, hb.output, hb.size, fun k hk _ => hb.block k hk⟩, .inr (Nat.le_refl _)⟩
/-! ### slices.Delete -/
set_option maxRecDepth 100000 in
theorem delete_at (l : List Bk) (i m : Nat) (hlm : l.length = m + 1) (hi : i < m + 1) (g cap : Nat) (cur : Array Value) (w : World)
    (hg : w.heap[g]? = some (.cells cur 133 (0, 0))) (hc : cur.size = cap * 14) (hcap : m + 1 ≤ cap) (hm : cap ≤ maxLen) (hcur : cur.toList.take ((m + 1) * 14) = bkL l) :
    Calls Tryz.prog 105 #[.slice (some ⟨g, 0, none⟩) (m + 1) cap, .int .i64 (i : Int), .int .i64 ((i : Int) + 1)] w fun e w' =>
      e = .returned (.slice (some ⟨g, 0, none⟩) m cap) ∧ w'.ownsRow 0 133 14 (.slice (some ⟨g, 0, none⟩) m cap) m (bkL (l.eraseIdx i)) ∧ w.grownBy w' (some g) := by
  obtain ⟨i0, hif, hz0, hz1, hz2⟩ := info_parts infoB
  have hlen := bkL_length l
  have hsrc : ∀ j v, (bkL l)[j]? = some v → cur[j]? = some v := fun j v h => by
    rw [← hcur, List.getElem?_take] at h
    split at h
    · simpa using h
    · cases h
  have hdl : (bkL (l.drop (i + 1))).length = (m - i) * 14 := by rw [bkL_length, List.length_drop, hlm]; congr 1; omega
  obtain ⟨ad, had⟩ : ∃ ad : Addr, ad = if cap = i + 1 then (⟨g, 0, none⟩ : Addr) else ⟨g, (i + 1) * 14, none⟩ := ⟨_, rfl⟩
  obtain ⟨X, hX⟩ : ∃ X, X = (cur.toList.take (i * 14) ++ bkL (l.drop (i + 1)) ++ cur.toList.drop (i * 14 + (bkL (l.drop (i + 1))).length)).toArray := ⟨_, rfl⟩
  have hXs : X.size = cap * 14 := by rw [hX]; simp [hdl]; omega
  have hrun : ∀ (W : World), W.heap[g]? = w.heap[g]? → ∀ ty c, (Builtin.append_ #[125, 125] ty #[.slice (some ⟨g, 0, none⟩) i cap, .slice (some ad) (m - i) c]).run Tryz.prog W = .ok (.slice (some ⟨g, 0, none⟩) m cap) (W.setRow g X) := fun W hW ty c => by
    have h := run_append_room (P := Tryz.prog) W 125 ty 133 i0 Tryz.underlying125 hif g i cap cur (hW.trans hg) ad (m - i) c (bkL (l.drop (i + 1))) (by rw [hz1]; exact hdl) (fun j u hj => by
      have hj' : j < (m - i) * 14 := by
        rcases Nat.lt_or_ge j ((m - i) * 14) with h | h
        · exact h
        · rw [List.getElem?_eq_none (by omega)] at hj; cases hj
      have e : ad = ⟨g, (i + 1) * 14, none⟩ := by rw [had, if_neg (by omega)]
      rw [e, addr_lit]
      have := hsrc ((i + 1) * 14 + j) u (by rw [← bkL_drop, List.getElem?_drop] at hj; exact hj)
      simp [World.cell?, hW, hg, this]) (bkL_one _) (by omega) (by rw [hz1, hdl, hc]; omega)
    rw [hz1, ← hX, show i + (m - i) = m by omega] at h
    exact h
  have hc1 := fun ty c => hrun w.drew rfl ty c
  obtain ⟨Y, hY⟩ : ∃ Y, Y = (X.toList.take (m * 14) ++ (Builtin.zeroCells (Value.agg #[.int .i64 0, .int .u64 0, .int .i64 0, .int .u64 0, .int .i64 0, .int .u64 0, .bool false, .bool false, .bool false, .bool false, .bool false, .bool false, .bool false, .bool false]).cells 1).toList ++ X.toList.drop (m * 14 + 1 * 14)).toArray := ⟨_, rfl⟩
  have hr1 : (w.drew.setRow g X).heap[g]? = some (.cells X 133 (0, 0)) := setRow_heap w.drew g cur X _ _ hg
  have hcl : ∀ ty c, (Builtin.clear_ #[125] ty #[.slice (some ⟨g, m * 14, none⟩) 1 c]).run Tryz.prog (w.drew.setRow g X) = .ok (.tuple #[]) ((w.drew.setRow g X).setRow g Y) := fun ty c => by
    have h := run_clear_rowk (P := Tryz.prog) (w.drew.setRow g X) 125 133 ty _ 14 g (m * 14) 1 c X 133 Tryz.underlying125 bk_zero rfl (by intro v hv; simp [Builtin.zeroCells, Value.cells] at hv; obtain ⟨a, ha, rfl⟩ := hv; rcases a with _ | _ | _ | _ | _ | _ | _ | _ | _ | _ | _ | _ | _ | _ | a <;> first | rfl | omega) Nat.one_pos hr1 (by omega)
    rw [← hY] at h
    exact h
  have HX := Lib.hid hX
  have HY := Lib.hid hY
  have HA := Lib.hid had
  have HL := Lib.hid hlm
  have HC := Lib.hid hcur
  have HD := Lib.hid hdl
  clear hX hY had hrun hsrc hdl hlen hlm hcur hif hz0 hz1 hz2
  have hm' : cap ≤ 9223372036854775807 := by simpa [maxLen] using hm
  have hend : bkL (l.eraseIdx i) = X.toList.take (m * 14) := by
    have e1 : cur.toList.take (i * 14) = bkL (l.take i) := by rw [← bkL_take, ← HC.out, List.take_take]; congr 1; omega
    have e2 : (bkL (l.take i) ++ bkL (l.drop (i + 1))).length = m * 14 := by rw [List.length_append, HD.out, bkL_length, List.length_take, HL.out]; omega
    have e3 := HX.out
    rw [e3, e1, List.toList_toArray, ← e2, List.take_left, ← bkL_append, List.eraseIdx_eq_take_drop_succ]
  have hfin : Ending.returned (Value.slice (some ⟨g, 0, none⟩) m cap) = .returned (.slice (some ⟨g, 0, none⟩) m cap) ∧ ((w.drew.setRow g X).setRow g Y).ownsRow 0 133 14 (.slice (some ⟨g, 0, none⟩) m cap) m (bkL (l.eraseIdx i)) ∧ w.grownBy ((w.drew.setRow g X).setRow g Y) (some g) := by
    have e2 : (X.toList.take (m * 14)).length = m * 14 := by rw [List.length_take]; simp; omega
    have e1 := HY.out
    refine ⟨rfl, ⟨by rw [bkL_length, List.length_eraseIdx_of_lt (by rw [HL.out]; exact hi), HL.out, Nat.add_sub_cancel], .inr ⟨g, cap, Y, rfl, Nat.zero_le _, setRow_heap _ g X Y _ _ hr1, by omega, hm, ?_, ?_⟩⟩, ⟨rfl, rfl, rfl, by simp [World.setRow], fun k hk hkg => ?_⟩⟩
    · rw [e1]; simp [Builtin.zeroCells, Value.cells]; omega
    · rw [e1, hend, List.toList_toArray, List.append_assoc]
      exact List.take_left' e2
    · have hkg' : k ≠ g := fun e => hkg (by rw [e])
      exact (setRow_other _ g k Y hkg').trans (setRow_other w.drew g k X hkg')
  clear hend HX HY HD HC HL
  by_cases hci : cap = i + 1
  · have ha : ad = ⟨g, 0, none⟩ := by rw [HA.out, if_pos hci]
    obtain rfl : i = m := by omega
    subst hci
    subst ha
    have hc2 : ∀ ty, (Builtin.append_ #[125, 125] ty #[.slice (some ⟨g, 0, none⟩) i (i + 1), .slice (some ⟨g, 0, none⟩) 0 0]).run Tryz.prog w.drew = .ok (.slice (some ⟨g, 0, none⟩) i (i + 1)) (w.drew.setRow g X) := fun ty => by
      have h := hc1 ty 0
      rwa [Nat.sub_self] at h
    have k3 : (i : Int) ≤ (i : Int) + 1 := by omega
    have k4 : (0 : Int) ≤ (i : Int) + 1 := by omega
    have k7 : ((i : Int) + 1).toNat = i + 1 := by omega
    clear HA hc1 hc hcap hm
    go_enter Tryz.func105, Tryz.ntmps105
    go_wp2_with fail
    go_region_law (refine step_builtin_is Builtin.append_ (fun _ _ _ _ => rfl) rfl _ _ 125 125 rfl _ _ (by simp [Act.eval, Act.put]) (by simp [Act.eval, Act.put]) (hc2 _) ?_)
    go_wp2
    go_ret
    exact ⟨rfl, hfin.2⟩
  · have ha : ad = ⟨g, (i + 1) * 14, none⟩ := by rw [HA.out, if_neg hci]
    subst ha
    have k2 : (i : Int) ≤ (m : Int) + 1 := by omega
    have k3 : (i : Int) + 1 ≤ (m : Int) + 1 := by omega
    have k4 : (0 : Int) ≤ (i : Int) + 1 := by omega
    have k5 : ¬ cap = m := by omega
    have k6 : ¬ cap = i := by omega
    have k7 : ((i : Int) + 1).toNat = i + 1 := by omega
    have k8 : (i : Int) ≤ (cap : Int) := by omega
    have k9 : (i : Int) ≤ (m : Int) := by omega
    have k10 : (m : Int) ≤ (m : Int) + 1 := by omega
    have k11 : (m : Int) + 1 ≤ (cap : Int) := by omega
    clear HA hc hcap hm
    go_enter Tryz.func105, Tryz.ntmps105
    go_wp2_with fail
    go_region_law (refine step_builtin_is Builtin.append_ (fun _ _ _ _ => rfl) rfl _ _ 125 125 rfl _ _ (by simp [Act.eval, Act.put]) (by simp [Act.eval, Act.put]) (hc1 _ (cap - (i + 1))) ?_)
    go_wp2
    go_ret
    exact ⟨rfl, hfin.2⟩
end Go.Proofs.YtffpfceclhogoaaGreat.Hp
namespace Go.Proofs.YtffpfceclhogoaaGreat.Hs
open Fld
open Go.ChangeShapes Go.WideShapes Go.ChangeAt Go.RowKit Go.Maps
set_option maxHeartbeats 1000000
set_option maxRecDepth 100000
theorem kmay_any (k : Ky) (h : k.wf) (w : World) :
    Calls Tryz.prog 87 #[.agg #[.int .i64 k.sp, .int .u64 k.va, .int .i64 k.sz]] w fun e w' => e = .returned (.bool (kmayB k)) ∧ Below w.heap.size w w' := by
  obtain ⟨s0, s1, v0, v1, z0, z1⟩ := h
  by_cases h0 : 0 ≤ k.sp
  · by_cases h1 : k.sp < 64
    · have H := Lib.hid (show kmayB k = startsB k.va k.sz by unfold kmayB; rw [decide_eq_true h0, decide_eq_true h1]; rfl)
      go_enter Tryz.func87, Tryz.ntmps87
      go_wp2_with (first | (go_at_call 62; refine (starts_any _ _ v0 v1 _).mono ?_; rintro e w' ⟨rfl, m, rfl⟩))
      go_ret
      exact ⟨ret_bool H.out.symm, below_drewN ((Below.refl _ _).alloc (Nat.le_refl _) _) _⟩
    · have H := Lib.hid (show kmayB k = false by unfold kmayB; rw [decide_eq_false h1]; simp)
      go_enter Tryz.func87, Tryz.ntmps87
      go_wp2_with (first | (go_at_call 62; refine (starts_any _ _ v0 v1 _).mono ?_; rintro e w' ⟨rfl, m, rfl⟩))
      go_ret
      exact ⟨ret_bool H.out.symm, (Below.refl _ _).alloc (Nat.le_refl _) _⟩
  · have H := Lib.hid (show kmayB k = false by unfold kmayB; rw [decide_eq_false h0]; rfl)
    go_enter Tryz.func87, Tryz.ntmps87
    go_wp2_with (first | (go_at_call 62; refine (starts_any _ _ v0 v1 _).mono ?_; rintro e w' ⟨rfl, m, rfl⟩))
    go_ret
    exact ⟨ret_bool H.out.symm, (Below.refl _ _).alloc (Nat.le_refl _) _⟩
/-- What Chain answers. -/
def chI (k : Ky) (n : Nat) : Int := if sizeB k.sz then sumI k % 18446744073709551616 % (n : Int) else 0
def chN (k : Ky) (n : Nat) : Nat := (chI k n).toNat
theorem chI_bd (k : Ky) {n : Nat} (hn : 1 ≤ n) : 0 ≤ chI k n ∧ chI k n < n := by
  unfold chI
  split
  · exact ⟨Int.emod_nonneg _ (by omega), Int.emod_lt_of_pos _ (by omega)⟩
  · omega
theorem chN_lt (k : Ky) {n : Nat} (hn : 1 ≤ n) : chN k n < n := by have := chI_bd k hn; unfold chN; omega
theorem chI_nat (k : Ky) {n : Nat} (hn : 1 ≤ n) : chI k n = (chN k n : Int) := by have := chI_bd k hn; unfold chN; omega
theorem chI_ok {k : Ky} (h : k.Ok) (n : Nat) : chI k n = chainI k n := by
  obtain ⟨_, _, c, _⟩ := kmay_parts h.may
  obtain ⟨_, _, a, b⟩ := sum_bd h
  unfold chI chainI
  rw [if_pos c, Int.emod_eq_of_lt (b := 18446744073709551616) a (by omega)]
theorem chN_ok {k : Ky} (h : k.Ok) (n : Nat) : chN k n = chainN k n := by unfold chN chainN; rw [chI_ok h]
theorem chain_any (k : Ky) (h : k.wf) (n : Nat) (hn : 1 ≤ n) (hn1 : n ≤ 9223372036854775807) (w : World) :
    Calls Tryz.prog 98 #[.agg #[.int .i64 k.sp, .int .u64 k.va, .int .i64 k.sz], .int .i64 (n : Int)] w fun e w' => e = .returned (.int .i64 (chI k n)) ∧ Below w.heap.size w w' := by
  obtain ⟨s0, s1, v0, v1, z0, z1⟩ := h
  have k1 : ¬ (n : Int) < 1 := by omega
  cases hs : sizeB k.sz
  · have H := Lib.hid (show chI k n = 0 by unfold chI; rw [hs]; rfl)
    go_enter Tryz.func98, Tryz.ntmps98
    go_wp2_with (first | (go_at_call 59; refine (same_sym (pmay_any k.sz _)).mono ?_; rintro e w' ⟨rfl, rfl⟩; rw [hs]) | (go_at_call 59; refine (pmay_any k.sz _).mono ?_; rintro e w' ⟨rfl, rfl⟩))
    go_ret
    exact ⟨ret_int H.out.symm, (Below.refl _ _).alloc (Nat.le_refl _) _⟩
  · have hz := sizeB_true hs
    have hB : 8192 ≤ bytesI k.sz ∧ bytesI k.sz ≤ 4194304 := by rcases hz with e | e | e | e <;> rw [e] <;> decide
    have H := Lib.hid (show chI k n = (k.va / bytesI k.sz + 7 * k.sz + 31 * k.sp) % 18446744073709551616 % (n : Int) by unfold chI sumI; rw [if_pos hs])
    have CB := Lib.hid (fun w => bytes_any k.sz w)
    have hq0 : 0 ≤ k.va / bytesI k.sz := Int.ediv_nonneg v0 (by omega)
    have hq1 : k.va / bytesI k.sz ≤ 18446744073709551615 := Int.le_trans (Int.ediv_le_self _ v0) v1
    have hnz : ¬ bytesI k.sz = 0 := by omega
    generalize bytesI k.sz = B at *
    go_enter Tryz.func98, Tryz.ntmps98
    go_wp2_with (first | (go_at_call 59; refine (same_sym (pmay_any k.sz _)).mono ?_; rintro e w' ⟨rfl, rfl⟩; rw [hs]))
    go_quiet (first | (go_at_call 123; exact Calls.quiet_of_same (same_sym (CB.out _))))
    go_wp2
    go_ret
    have e : IntKind.u64.wrap (IntKind.u64.wrap (k.va / B + 7 * k.sz) + IntKind.u64.wrap (31 * IntKind.u64.wrap k.sp)) = (k.va / B + 7 * k.sz + 31 * k.sp) % 18446744073709551616 := by
      simp only [IntKind.wrap_u64]; omega
    refine ⟨ret_int ?_, below_drewN ((Below.refl _ _).alloc (Nat.le_refl _) _) _⟩
    rw [e, H.out]
    have e1 : 0 ≤ (k.va / B + 7 * k.sz + 31 * k.sp) % 18446744073709551616 := Int.emod_nonneg _ (by omega)
    generalize (k.va / B + 7 * k.sz + 31 * k.sp) % 18446744073709551616 = S at *
    rw [Int.tmod_eq_emod_of_nonneg e1]
    have e2 : 0 ≤ S % (n : Int) := Int.emod_nonneg _ (by omega)
    have e3 : S % (n : Int) < n := Int.emod_lt_of_pos _ (by omega)
    unfold wrap64; omega
/-! ### Keys held against each other -/
theorem field_is {d : Nat} {xs ys : Array Value} {f : Field} {fs : List Field} {a b : Value} {r c : Bool} (hn : f.name ≠ "_") (ha : ∀ w, (part f.type xs f.offset).run Tryz.prog w = .ok a w) (hb : ∀ w, (part f.type ys f.offset).run Tryz.prog w = .ok b w) (hr : ∀ w, (Op.equalIn d f.type a b).run Tryz.prog w = .ok r w)
    (hrest : ∀ w, (Op.eqFields d xs ys fs).run Tryz.prog w = .ok c w) : ∀ w, (Op.eqFields d xs ys (f :: fs)).run Tryz.prog w = .ok (r && c) w := by
  intro w
  unfold Op.eqFields
  rw [if_pos hn]
  simp only [Sem.run_bind, ha, hb, hr, Result.andThen_ok]
  cases r
  · simp
  · simp [hrest]
theorem key_and (a b : Ky) : keyEq a b = (a.sp == b.sp && (a.va == b.va && (a.sz == b.sz && true))) := by
  unfold keyEq; cases (a.sp == b.sp) <;> cases (a.va == b.va) <;> cases (a.sz == b.sz) <;> rfl
theorem key_is (a b : Ky) : ∀ w : World, (binOp .eql 89 (.agg #[.int .i64 a.sp, .int .u64 a.va, .int .i64 a.sz]) (.agg #[.int .i64 b.sp, .int .u64 b.va, .int .i64 b.sz])).run Tryz.prog w = .ok (.bool (keyEq a b)) w := by
  have key : ∀ w, (Op.equalIn 10000 89 (.agg #[.int .i64 a.sp, .int .u64 a.va, .int .i64 a.sz]) (.agg #[.int .i64 b.sp, .int .u64 b.va, .int .i64 b.sz])).run Tryz.prog w = .ok (keyEq a b) w := by
    have h := run_equalIn_struct (P := Tryz.prog) (d := 9999) (t := 89) (xs := #[.int .i64 a.sp, .int .u64 a.va, .int .i64 a.sz]) (ys := #[.int .i64 b.sp, .int .u64 b.va, .int .i64 b.sz]) (ht := by kernel_rfl) (hp := by kernel_rfl)
    simp only [h]
    have hf : (Tryz.prog.fieldsOf 89).toList = (match Tryz.prog.underlying 89 with | some (.struct fs) => fs | _ => #[]).toList := rfl
    rw [hf, Tryz.underlying89, key_and]
    refine field_is (a := .int .i64 a.sp) (b := .int .i64 b.sp) (r := a.sp == b.sp) (by decide) (fun w => by go_simp) (fun w => by go_simp) (fun w => run_equalIn_int w 9998 3 .i64 .i64 _ _ Tryz.underlying3) ?_
    refine field_is (a := .int .u64 a.va) (b := .int .u64 b.va) (r := a.va == b.va) (by decide) (fun w => by go_simp) (fun w => by go_simp) (fun w => run_equalIn_int w 9998 34 .u64 .u64 _ _ Tryz.underlying34) ?_
    refine field_is (a := .int .i64 a.sz) (b := .int .i64 b.sz) (r := a.sz == b.sz) (by decide) (fun w => by go_simp) (fun w => by go_simp) (fun w => run_equalIn_int w 9998 3 .i64 .i64 _ _ Tryz.underlying3) ?_
    exact fun w => rfl
  intro w
  rw [run_eql_struct, key]; rfl
theorem kk_is (a b : Ky) : ∀ w : World, (binOp .eql 114 (.agg #[.int .i64 a.sp, .int .u64 a.va, .int .i64 a.sz]) (.agg #[.int .i64 b.sp, .int .u64 b.va, .int .i64 b.sz])).run Tryz.prog w = .ok (.bool (keyEq a b)) w := by
  have key : ∀ w, (Op.equalIn 10000 114 (.agg #[.int .i64 a.sp, .int .u64 a.va, .int .i64 a.sz]) (.agg #[.int .i64 b.sp, .int .u64 b.va, .int .i64 b.sz])).run Tryz.prog w = .ok (keyEq a b) w := by
    have h := run_equalIn_struct (P := Tryz.prog) (d := 9999) (t := 114) (xs := #[.int .i64 a.sp, .int .u64 a.va, .int .i64 a.sz]) (ys := #[.int .i64 b.sp, .int .u64 b.va, .int .i64 b.sz]) (ht := by kernel_rfl) (hp := by kernel_rfl)
    simp only [h]
    have hf : (Tryz.prog.fieldsOf 114).toList = (match Tryz.prog.underlying 114 with | some (.struct fs) => fs | _ => #[]).toList := rfl
    rw [hf, Tryz.underlying114, key_and]
    refine field_is (a := .int .i64 a.sp) (b := .int .i64 b.sp) (r := a.sp == b.sp) (by decide) (fun w => by go_simp) (fun w => by go_simp) (fun w => run_equalIn_int w 9998 3 .i64 .i64 _ _ Tryz.underlying3) ?_
    refine field_is (a := .int .u64 a.va) (b := .int .u64 b.va) (r := a.va == b.va) (by decide) (fun w => by go_simp) (fun w => by go_simp) (fun w => run_equalIn_int w 9998 34 .u64 .u64 _ _ Tryz.underlying34) ?_
    refine field_is (a := .int .i64 a.sz) (b := .int .i64 b.sz) (r := a.sz == b.sz) (by decide) (fun w => by go_simp) (fun w => by go_simp) (fun w => run_equalIn_int w 9998 3 .i64 .i64 _ _ Tryz.underlying3) ?_
    exact fun w => rfl
  intro w
  rw [run_eql_struct, key]; rfl
/-! ### find -/
section
variable {w : World} {sb bm n : Nat} {bl : Int} {L : Nat → List Bk} {V : Nat → Value} {hs : Nat} {k : Ky}
end
theorem below_undrew {w w' : World} (h : Below w.drew.heap.size w.drew w') : Below w.heap.size w w' := ⟨h.os, h.tape, h.output, h.size, h.block⟩
theorem ret_vi {v : Value} {a b : Int} (h : a = b) : Ending.returned (.tuple #[v, .int .i64 a]) = .returned (.tuple #[v, .int .i64 b]) := by rw [h]
end Go.Proofs.YtffpfceclhogoaaGreat.Hs
namespace Go.Proofs.YtffpfceclhogoaaGreat.Hp
open Fld Hs
open Go.ChangeShapes Go.WideShapes Go.ChangeAt Go.RowKit Go.Maps
set_option maxHeartbeats 1000000
set_option maxRecDepth 100000
/-! ### find -/
/-- A table, and a key in a box. -/
structure FK (w : World) (sb bm n : Nat) (bl : Int) (L : Nat → List Bk) (V : Nat → Value) (hs : Nat) (k : Ky) : Prop where
  tab : TabAt w sb bm n bl L V
  box : w.heap[hs]? = some (.cells #[.int .i64 k.sp, .int .u64 k.va, .int .i64 k.sz] 89 (0, 0))
section
variable {w : World} {sb bm n : Nat} {bl : Int} {L : Nat → List Bk} {V : Nat → Value} {hs : Nat} {k : Ky}
theorem FK.drew (h : FK w sb bm n bl L V hs k) : FK w.drew sb bm n bl L V hs k := ⟨h.tab.drew, h.box⟩
theorem FK.drewN (h : FK w sb bm n bl L V hs k) (m : Nat) : FK (w.drewN m) sb bm n bl L V hs k := ⟨h.tab.drewN m, h.box⟩
theorem FK.call {w' : World} (h : FK w sb bm n bl L V hs k) (hb : Below w.heap.size w w') : FK w' sb bm n bl L V hs k :=
  ⟨h.tab.below hb (Nat.le_refl _), (hb.block _ (Array.getElem?_eq_some_iff.1 h.box).1).trans h.box⟩
theorem FK.new (h : TabAt w sb bm n bl L V) (k : Ky) : FK (w.alloc (.cells #[.int .i64 k.sp, .int .u64 k.va, .int .i64 k.sz] 89)) sb bm n bl L V w.heap.size k :=
  ⟨h.alloc _, heap_alloc_new w _⟩
theorem FK.cells (h : FK w sb bm n bl L V hs k) : w.cell? ⟨hs, 0, none⟩ = some (.int .i64 k.sp) ∧ w.cell? ⟨hs, 1, none⟩ = some (.int .u64 k.va) ∧ w.cell? ⟨hs, 2, none⟩ = some (.int .i64 k.sz) := by
  have := h.box
  exact ⟨by simp [World.cell?, this], by simp [World.cell?, this], by simp [World.cell?, this]⟩
theorem FK.lt (h : FK w sb bm n bl L V hs k) : hs < w.heap.size := (Array.getElem?_eq_some_iff.1 h.box).1
theorem FK.all (h : FK w sb bm n bl L V hs k) {c : Nat} (hc : c < n) {v : Value} (hv : V c = v) : w.cell? ⟨sb, 2, none⟩ = some (.int .i64 (n : Int)) ∧ w.cell? ⟨sb, 3, none⟩ = some (.map (some bm)) ∧ w.cell? ⟨hs, 0, none⟩ = some (.int .i64 k.sp) ∧ w.cell? ⟨hs, 1, none⟩ = some (.int .u64 k.va) ∧ w.cell? ⟨hs, 2, none⟩ = some (.int .i64 k.sz) ∧ (Instr.lookup 108 (.map (some bm)) (.int .i64 (c : Int)) false).run Tryz.prog w = .ok v w := by
  rw [← hv]
  obtain ⟨_, _, a, b, _⟩ := h.tab.cells
  obtain ⟨d, e, f⟩ := h.cells
  exact ⟨a, b, d, e, f, h.tab.lookN hc⟩
end
theorem bk_few {w : World} {sb bm n : Nat} {bl : Int} {L : Nat → List Bk} {V : Nat → Value} (h : TabAt w sb bm n bl L V) {c : Nat} (hc : c < n) : (L c).length ≤ 1073741824 := by
  have := len_one L hc; have := h.few; have := h.b1; omega
theorem find_any {sb bm n : Nat} {bl : Int} {L : Nat → List Bk} {V : Nat → Value} (k : Ky) (hk : k.wf) (w : World) (h : TabAt w sb bm n bl L V) :
    Calls Tryz.prog 88 #[.pointer (some ⟨sb, 0, none⟩), .agg #[.int .i64 k.sp, .int .u64 k.va, .int .i64 k.sz]] w fun e w' => e = .returned (.tuple #[V (chN k n), .int .i64 (placeI (L (chN k n)) k)]) ∧ Below w.heap.size w w' := by
  have hn := h.n0
  have hn1 := h.n1
  have CC := Lib.hid (fun w => chain_any k hk n hn hn1 w)
  rw [chI_nat k hn] at CC
  have hc := chN_lt k hn
  have F := FK.new h k
  have B1 : Below w.heap.size w (w.alloc (.cells #[.int .i64 k.sp, .int .u64 k.va, .int .i64 k.sz] 89)) := (Below.refl _ _).alloc (Nat.le_refl _) _
  have s1 : (w.alloc (.cells #[.int .i64 k.sp, .int .u64 k.va, .int .i64 k.sz] 89)).heap.size = w.heap.size + 1 := by simp
  generalize chN k n = c at *
  obtain ⟨l, hl⟩ : ∃ l, L c = l := ⟨_, rfl⟩
  obtain ⟨v, hv0⟩ : ∃ v, V c = v := ⟨_, rfl⟩
  rw [hl, hv0]
  have HV := Lib.hid hv0
  have HL := Lib.hid hl
  go_enter Tryz.func88, Tryz.ntmps88
  go_wp2_with fail
  generalize World.alloc w _ = W1 at *
  have fa := F.all hc hv0
  go_region_held3 (fun w1 => w1.cell? ⟨sb, 2, none⟩ = some (.int .i64 (n : Int)) ∧ w1.cell? ⟨sb, 3, none⟩ = some (.map (some bm)) ∧ w1.cell? ⟨w.heap.size, 0, none⟩ = some (.int .i64 k.sp) ∧ w1.cell? ⟨w.heap.size, 1, none⟩ = some (.int .u64 k.va) ∧ w1.cell? ⟨w.heap.size, 2, none⟩ = some (.int .i64 k.sz) ∧ (Instr.lookup 108 (.map (some bm)) (.int .i64 (c : Int)) false).run Tryz.prog w1 = .ok v w1)
    ((refine FK.all (L := L) (bl := bl) (V := V) ?_ hc hv0; repeat (first | assumption | (refine FK.drew ?_))))
    (first | (go_at_call 98; (with_reducible refine (CC.out _).mono ?_); rintro e w3 ⟨rfl, hb3⟩; have F3 := F.drew.call hb3))
  have Q := F3.tab
  have hB3 : Below w.heap.size w w3 := B1.trans ((below_undrew hb3).mono (show w.heap.size ≤ W1.heap.size by omega))
  have K0 := F3
  clear fa CC hb3 B1 s1 F h
  have ho := Q.rows c hc
  have hle := bk_few Q hc
  rw [HL.out] at ho hle
  rw [HV.out] at ho
  clear HL HV hl hv0
  rcases own_form ho with ⟨rfl, h0⟩ | ⟨g, cap, rfl, hgb, hnc, hcm⟩
  · obtain rfl : l = [] := List.eq_nil_of_length_eq_zero h0
    clear Q ho K0 F3
    go_wp2_with fail
    go_loopw [21] (fun i wr => i = .int .i64 0 ∧ wr = w3) (fun i _ => 0)
    case atStart => exact ⟨rfl, rfl⟩
    case round =>
      obtain ⟨rfl, rfl⟩ := hrel
      go_wp2_with fail
      go_ret2
      exact ⟨rfl, hB3⟩
  · have hcell := fun i hi => own_rowC ho hgb (i := i) hi
    obtain ⟨x0, x1, x2⟩ := K0.cells
    clear Q ho K0 F3
    go_wp2_with fail
    go_loopw [21] (fun i wr => ∃ j m : Nat, j ≤ l.length ∧ i = .int .i64 (j : Int) ∧ (∀ i, i < j → keyEq (at_ l i).k k = false) ∧ wr = w3.drewN m) (fun i _ => l.length - (intOf i).toNat)
    case atStart => exact ⟨0, 0, by omega, rfl, fun k hk => absurd hk (Nat.not_lt_zero k), rfl⟩
    case round =>
      obtain ⟨j, m, hj, rfl, hno, rfl⟩ := hrel
      by_cases hlt : j < l.length
      · obtain ⟨y0, y1, y2, y3, y4, y5, y6, y7, y8, y9, y10, y11, y12, y13⟩ := hcell j hlt
        have hlt' : (j : Int) < (l.length : Int) := by omega
        have hj0 : (0 : Int) ≤ (j : Int) := by omega
        go_wp2_with fail
        have HK := key_is (at_ l j).k k
        have HN := Lib.hid hno
        clear hno
        cases hq : keyEq (at_ l j).k k
        · rw [hq] at HK
          go_quiet (fail)
          go_wp2_with fail
          go_roundw
          case rel => exact ⟨j + 1, m + nq, by omega, by go_num, fun k hk => (by by_cases e : k = j; rw [e]; exact hq; exact HN.out k (by omega)), rfl⟩
          case measure => simp [intOf]; omega
        · rw [hq] at HK
          obtain ⟨_, _, p3⟩ := place_here hlt HN.out hq
          go_quiet (fail)
          go_wp2_with fail
          go_ret2
          exact ⟨ret_vi p3.symm, by rw [World.drewN_drewN]; exact below_drewN hB3 _⟩
      · obtain rfl : l.length = j := by omega
        obtain ⟨p1, p2⟩ := place_none hno
        go_wp2_with fail
        go_ret2
        exact ⟨ret_vi p2.symm, below_drewN hB3 _⟩
end Go.Proofs.YtffpfceclhogoaaGreat.Hp
namespace Go.Proofs.YtffpfceclhogoaaGreat.Hs
open Fld
open Go.ChangeShapes Go.WideShapes Go.ChangeAt Go.RowKit Go.Maps
set_option maxHeartbeats 1000000
set_option maxRecDepth 100000
theorem ret_got {a b a' b' : Int} {c c' : Bool} (h1 : a = a') (h2 : b = b') (h3 : c = c') : Ending.returned (.tuple #[.int .i64 a', .int .i64 b', .bool c']) = .returned (.tuple #[.int .i64 a, .int .i64 b, .bool c]) := by rw [h1, h2, h3]
end Go.Proofs.YtffpfceclhogoaaGreat.Hs
namespace Go.Proofs.YtffpfceclhogoaaGreat.Hs
open Fld
open Go.ChangeShapes Go.WideShapes Go.ChangeAt Go.RowKit Go.Maps
set_option maxHeartbeats 1000000
section
variable {w w' : World} {sb bm n : Nat} {bl : Int} {L : Nat → List Bk} {V : Nat → Value}
theorem own_set {c : Nat} {v' : Value} (hc : c < n) (m : Nat) (hfresh : ∀ g, v'.ownBlock = some g → (V c).ownBlock = some g ∨ m ≤ g) (k : Nat) (h : own sb bm n (setV V c v') k) : own sb bm n V k ∨ m ≤ k := by
  rcases h with h | h | ⟨i, hi, h⟩
  · exact .inl (.inl h)
  · exact .inl (.inr (.inl h))
  · by_cases e : i = c
    · subst e; rw [setV_same] at h
      rcases hfresh k h with h | h
      · exact .inl (.inr (.inr ⟨i, hi, h⟩))
      · exact .inr h
    · rw [setV_other V v' e] at h; exact .inl (.inr (.inr ⟨i, hi, h⟩))
end
section
variable {w w' : World} {sb bm n : Nat} {bl : Int} {L : Nat → List Bk} {V : Nat → Value}
end
/-- A key that is there may be, and is in its own chain. -/
theorem here_ok {n : Nat} {L : Nat → List Bk} (hg : Good n L) {c : Nat} (hc : c < n) {k : Ky} (h : hasB (L c) k = true) : k.Ok := by
  obtain ⟨b, hb, rfl⟩ := has_mem.1 h
  exact hg c hc b hb
theorem getB_iff {n : Nat} (hn : 1 ≤ n) {L : Nat → List Bk} (hg : Good n L) (k : Ky) : getB n L k = hasB (L (chN k n)) k := by
  have hc := chN_lt k hn
  cases h : hasB (L (chN k n)) k
  · unfold getB
    cases hm : kmayB k
    · rfl
    · cases h2 : hasB (L (chainN k n)) k
      · rfl
      · have hk := here_ok hg (chain_lt k hn) h2
        rw [chN_ok hk, h2] at h; cases h
  · have hk := here_ok hg hc h
    rw [chN_ok hk] at h
    unfold getB; rw [hk.may, h]; rfl
end Go.Proofs.YtffpfceclhogoaaGreat.Hs
namespace Go.Proofs.YtffpfceclhogoaaGreat.Hs
open Fld
open Go.ChangeShapes Go.WideShapes Go.ChangeAt Go.RowKit Go.Maps
set_option maxHeartbeats 1000000
set_option maxRecDepth 100000
theorem bkL_set : ∀ (l : List Bk) (j : Nat) (x : Int), j < l.length → bkL (l.set j ⟨(at_ l j).k, x⟩) = (bkL l).set (j * 4 + 3) (.int .i64 x)
  | [], j, x, h => absurd h (Nat.not_lt_zero _)
  | b :: l, 0, x, _ => rfl
  | b :: l, j + 1, x, h => by
    rw [at_cons, List.set_cons_succ, show (j + 1) * 4 + 3 = (j * 4 + 3) + 1 + 1 + 1 + 1 by omega]
    have := bkL_set l j x (by simpa using h)
    simp only [bkL, bkC, List.cons_append, List.nil_append, List.set_cons_succ, this]
theorem own_thing {w : World} {B e : Nat} {v : Value} {l : List Bk} {g : Nat} (h : w.ownsRow B e 4 v l.length (bkL l)) (hg : v.ownBlock = some g) {j : Nat} (hj : j < l.length) (x : Int) :
    (w.setCell ⟨g, j * 4 + 3, none⟩ (.int .i64 x)).ownsRow B e 4 v (l.set j ⟨(at_ l j).k, x⟩).length (bkL (l.set j ⟨(at_ l j).k, x⟩)) ∧ w.grownBy (w.setCell ⟨g, j * 4 + 3, none⟩ (.int .i64 x)) (some g) := by
  rcases h.2 with ⟨rfl, _⟩ | ⟨g', cap, cur, rfl, hb, hgg, hnc, hcm, hcs, htake⟩
  · cases hg
  · obtain rfl : g' = g := by simpa [Value.ownBlock] using hg
    rw [setCell_eq_setRow w g' (j * 4 + 3) cur e (0, 0) _ hgg]
    refine ⟨⟨by rw [bkL_length], .inr ⟨g', cap, _, by rw [List.length_set], hb, setRow_heap w g' cur _ e _ hgg, by simpa using hnc, hcm, by simpa using hcs, ?_⟩⟩, ⟨rfl, rfl, rfl, by simp [World.setRow], fun k hk hne => setRow_other w g' k _ (fun e => hne (by rw [e]))⟩⟩
    rw [bkL_set l j x hj, ← htake, List.length_set, Array.toList_setIfInBounds, List.take_set]
theorem own_frozen {w : World} {B e s n g : Nat} {v : Value} {xs : List Value} (h : w.ownsRow B e s v n xs) (hg : v.ownBlock = some g) (i : Nat) : w.frozen? ⟨g, i, none⟩ = false := by
  obtain ⟨cur, hc⟩ := own_obj h hg
  simp [World.frozen?, hc]
end Go.Proofs.YtffpfceclhogoaaGreat.Hs
namespace Go.Proofs.YtffpfceclhogoaaGreat.Hs
open Fld
open Go.ChangeShapes Go.WideShapes Go.ChangeAt Go.RowKit Go.Maps
set_option maxHeartbeats 1000000
set_option maxRecDepth 100000
end Go.Proofs.YtffpfceclhogoaaGreat.Hs
namespace Go.Proofs.YtffpfceclhogoaaGreat.Hs
open Fld
open Go.ChangeShapes Go.WideShapes Go.ChangeAt Go.RowKit Go.Maps
set_option maxHeartbeats 1000000
set_option maxRecDepth 100000
section
variable {u w : World} {sb bm n : Nat} {bl : Int} {L : Nat → List Bk} {V : Nat → Value} {hs : Nat} {k : Ky}
end
end Go.Proofs.YtffpfceclhogoaaGreat.Hs
namespace Go.Proofs.YtffpfceclhogoaaGreat.Hs
open Fld
open Go.ChangeShapes Go.WideShapes Go.ChangeAt Go.RowKit Go.Maps
set_option maxHeartbeats 1000000
set_option maxRecDepth 100000
theorem all_nil (n : Nat) : lenL (fun _ => []) n = 0 := by unfold lenL; rw [all_empty (fun _ _ => rfl)]; rfl
def kyC (k : Ky) : List Value := [.int .i64 k.sp, .int .u64 k.va, .int .i64 k.sz]
def kyL : List Ky → List Value
  | [] => []
  | k :: l => kyC k ++ kyL l
def keysL (l : List Bk) : List Ky := l.map Bk.k
theorem own_shape3 {w : World} {B e s n : Nat} {v : Value} {xs : List Value} (h : w.ownsRow B e s v n xs) : ∃ ao cap, v = .slice ao n cap := by
  rcases own_form h with ⟨rfl, rfl⟩ | ⟨g, cap, rfl, _⟩
  · exact ⟨_, _, rfl⟩
  · exact ⟨_, _, rfl⟩
end Go.Proofs.YtffpfceclhogoaaGreat.Hs
namespace Go.Proofs.YtffpfceclhogoaaGreat.Fld
/-- A page of size k begins at f and does not go beyond t. -/
def okB (f t k : Int) : Bool := startsB f k && decide (bytesI k ≤ t - f)
/-- The greatest such size below k, or 0. -/
def gUp (f t : Int) : Nat → Int
  | 0 => 0
  | k + 1 => if okB f t (k : Int) then (k : Int) else gUp f t k
def stepI (f t : Int) : Int := gUp f t 4
/-- Where the k-th page of the cover begins. -/
def posI (f t : Int) : Nat → Int
  | 0 => f
  | k + 1 => posI f t k + bytesI (stepI (posI f t k) t)
def sizesL (f t : Int) (k : Nat) : List Int := (List.range k).map (fun j => stepI (posI f t j) t)
def cntN (f t : Int) : Nat → Nat
  | 0 => 0
  | n + 1 => if posI f t (cntN f t n) < t then cntN f t n + 1 else cntN f t n
def alignB (f t : Int) : Bool := decide (f % 8192 = 0) && decide (t % 8192 = 0)
def coverL (f t : Int) : List Int := if alignB f t && decide (t ≤ posI f t (cntN f t 1000)) then sizesL f t (cntN f t 1000) else []
end Go.Proofs.YtffpfceclhogoaaGreat.Fld
namespace Go.Proofs.YtffpfceclhogoaaGreat.Fld
open Go.ChangeShapes Go.WideShapes Go.ChangeAt Go.RowKit
set_option maxHeartbeats 400000
def intsV (l : List Int) : List Value := l.map (Value.int .i64)
end Go.Proofs.YtffpfceclhogoaaGreat.Fld
namespace Go.Proofs.YtffpfceclhogoaaGreat.Hs
open Fld
open Go.ChangeShapes Go.WideShapes Go.ChangeAt Go.RowKit Go.Maps
set_option maxHeartbeats 200000
set_option maxRecDepth 100000
def goodK (k : Ky) : Ky := ⟨nrm k.sp 64, baseI k.va (nrm k.sz 4), nrm k.sz 4⟩
theorem set_three {W : World} {g : Nat} {a b c : Value} {t : TypeId} (h : W.heap[g]? = some (.cells #[a, b, c] t (0, 0))) (x y z : Value) :
    (((W.setCell ⟨g, 0, none⟩ x).setCell ⟨g, 1, none⟩ y).setCell ⟨g, 2, none⟩ z).heap[g]? = some (.cells #[x, y, z] t (0, 0)) ∧ (∀ B, B ≤ g → Below B W (((W.setCell ⟨g, 0, none⟩ x).setCell ⟨g, 1, none⟩ y).setCell ⟨g, 2, none⟩ z)) := by
  refine ⟨?_, fun B hB => ((((Below.refl B W).setCell hB x).setCell hB y).setCell hB z)⟩
  rw [setCell_eq_setRow W g 0 _ _ _ _ h]
  have h1 := setRow_heap W g _ (#[a, b, c].setIfInBounds 0 x) _ _ h
  rw [setCell_eq_setRow _ g 1 _ _ _ _ h1]
  have h2 := setRow_heap _ g _ ((#[a, b, c].setIfInBounds 0 x).setIfInBounds 1 y) _ _ h1
  rw [setCell_eq_setRow _ g 2 _ _ _ _ h2]
  have h3 := setRow_heap _ g _ (((#[a, b, c].setIfInBounds 0 x).setIfInBounds 1 y).setIfInBounds 2 z) _ _ h2
  simpa using h3
theorem rmay_any (k : Ky) (h : k.wf) (w : World) :
    Calls Tryz.prog 99 #[.agg #[.int .i64 k.sp, .int .u64 k.va, .int .i64 k.sz]] w fun e w' => e = .returned (.bool (kmayB k)) ∧ Below w.heap.size w w' := by
  obtain ⟨s0, s1, v0, v1, z0, z1⟩ := h
  have CS := Lib.hid (fun w => same_sym (rstarts_any k.va k.sz v0 v1 w))
  have b1 : Below w.heap.size w (w.alloc (.cells #[.int .i64 k.sp, .int .u64 k.va, .int .i64 k.sz] 114)) := (Below.refl _ _).alloc (Nat.le_refl _) _
  by_cases h0 : 0 ≤ k.sp
  · by_cases h1 : k.sp ≤ 63
    · have H := Lib.hid (show kmayB k = startsB k.va k.sz by unfold kmayB; rw [decide_eq_true h0, decide_eq_true (show k.sp < 64 by omega)]; rfl)
      go_enter Tryz.func99, Tryz.ntmps99
      go_wp2_with (first | (go_at_call 126; refine (CS.out _).mono ?_; rintro e w1 ⟨rfl, rfl⟩))
      go_ret
      exact ⟨ret_bool H.out.symm, b1⟩
    · have H := Lib.hid (show kmayB k = false by unfold kmayB; rw [decide_eq_false (show ¬ k.sp < 64 by omega)]; simp)
      go_enter Tryz.func99, Tryz.ntmps99
      go_wp2_with (first | (go_at_call 126; refine (CS.out _).mono ?_; rintro e w1 ⟨rfl, rfl⟩))
      go_ret
      exact ⟨ret_bool H.out.symm, b1⟩
  · have H := Lib.hid (show kmayB k = false by unfold kmayB; rw [decide_eq_false h0]; rfl)
    go_enter Tryz.func99, Tryz.ntmps99
    go_wp2_with (first | (go_at_call 126; refine (CS.out _).mono ?_; rintro e w1 ⟨rfl, rfl⟩))
    go_ret
    exact ⟨ret_bool H.out.symm, b1⟩
theorem rchain_any (k : Ky) (h : k.Ok) (n : Nat) (hn : 1 ≤ n) (hn1 : n ≤ 9223372036854775807) (w : World) :
    Calls Tryz.prog 101 #[.agg #[.int .i64 k.sp, .int .u64 k.va, .int .i64 k.sz], .int .i64 (n : Int)] w fun e w' => e = .returned (.int .i64 (chainI k n)) ∧ Below w.heap.size w w' := by
  obtain ⟨p0, p1, ps, _⟩ := kmay_parts h.may
  have hz := sizeB_true ps
  have v0 := h.v0; have v1 := h.v1
  obtain ⟨q0, q1, q2, q3⟩ := sum_bd h
  have HS := Lib.hid (show sumI k = k.va / bytesI k.sz + 7 * k.sz + 31 * k.sp from rfl)
  have H := Lib.hid (show chainI k n = sumI k % (n : Int) from rfl)
  have hB : 8192 ≤ bytesI k.sz ∧ bytesI k.sz ≤ 4194304 := by rcases hz with e | e | e | e <;> rw [e] <;> decide
  have CB := Lib.hid (fun w => same_sym (rbytes_any k.sz w))
  have hnz : ¬ bytesI k.sz = 0 := by omega
  have k1 : ¬ (n : Int) = 0 := by omega
  generalize bytesI k.sz = B at *
  have b1 : Below w.heap.size w (w.alloc (.cells #[.int .i64 k.sp, .int .u64 k.va, .int .i64 k.sz] 114)) := (Below.refl _ _).alloc (Nat.le_refl _) _
  have m1 : 0 ≤ 7 * k.sz ∧ 7 * k.sz ≤ 21 := by omega
  have m2 : 0 ≤ 31 * k.sp ∧ 31 * k.sp ≤ 1953 := by omega
  go_enter Tryz.func101, Tryz.ntmps101
  go_wp2_with fail
  go_quiet (first | (go_at_call 17; exact Calls.quiet_of_same (CB.out _)))
  go_wp2_with fail
  go_ret
  refine ⟨ret_int ?_, below_drewN b1 _⟩
  have e2 : 0 ≤ (k.va / B + 7 * k.sz + 31 * k.sp) % (n : Int) := Int.emod_nonneg _ (by omega)
  have e3 : (k.va / B + 7 * k.sz + 31 * k.sp) % (n : Int) < n := Int.emod_lt_of_pos _ (by omega)
  rw [H.out, HS.out]; unfold wrap64; omega
end Go.Proofs.YtffpfceclhogoaaGreat.Hs
namespace Go.Proofs.YtffpfceclhogoaaGreat.Hs
open Fld
open Go.ChangeShapes Go.WideShapes Go.ChangeAt Go.RowKit Go.Maps
set_option maxHeartbeats 1000000
set_option maxRecDepth 100000
/-- What F's blocks hold stays. -/
def Kept (F : Nat → Prop) (w w' : World) : Prop := (∀ k, F k → w'.heap[k]? = w.heap[k]?) ∧ w.heap.size ≤ w'.heap.size
section
variable {w0 w w' : World} {sb n : Nat} {bl : Int} {L : Nat → List Bk} {F : Nat → Prop}
end
section
variable {w0 w : World} {sb n : Nat} {bl : Int} {L : Nat → List Bk} {F : Nat → Prop}
end
def exk (a : Int) : Ky := ⟨0, a, 0⟩
theorem putT_no {bl : Int} {n : Nat} {L : Nat → List Bk} {k : Ky} {v : Int} (h : ¬ putE bl n L k = 0) : putT bl n L k v = L := by unfold putT; rw [if_neg h]
end Go.Proofs.YtffpfceclhogoaaGreat.Hs
namespace Go.Proofs.YtffpfceclhogoaaGreat.Hs
open Fld
open Go.ChangeShapes Go.WideShapes Go.ChangeAt Go.RowKit Go.Deep
set_option maxHeartbeats 1000000
set_option maxRecDepth 100000
theorem laidOut : laidOutB Tryz.prog = true := by kernel_rfl
def Ky.lits (k : Ky) : Prop := (Lit.int .i64 k.sp).wf = true ∧ (Lit.int .u64 k.va).wf = true ∧ (Lit.int .i64 k.sz).wf = true
def Ky.datum {H : Type} (k : Ky) : DataW H := .agg [.lit (.int .i64 k.sp), .lit (.int .u64 k.va), .lit (.int .i64 k.sz)]
theorem Ky.lits_wf {k : Ky} (h : k.lits) : k.wf := by
  obtain ⟨h1, h2, h3⟩ := h
  exact ⟨(bounds_i64 h1).1, (bounds_i64 h1).2, (bounds_u64 h2).1, (bounds_u64 h2).2, (bounds_i64 h3).1, (bounds_i64 h3).2⟩
structure DeedV where
  kind : Int
  n : Int
  k : Ky
  raw : Bool
structure DeedV.wf (d : DeedV) : Prop where
  k0 : -9223372036854775808 ≤ d.kind
  k1 : d.kind ≤ 9223372036854775807
  n0 : -9223372036854775808 ≤ d.n
  n1 : d.n ≤ 9223372036854775807
  key : d.k.wf
section
variable {H : Type} {enc : TypeId × Value → H} {w : World} {base : Nat} {spare : Nat → Bool} {held : Bool}
/-- What the walk is told of keys that came in. -/
def IsKeys (w : World) (a : Option Addr) (len cap : Nat) : Prop :=
  (a = none ∧ len = 0) ∨
  ∃ x : Addr, a = some x ∧ len ≤ cap ∧ cap ≤ maxLen ∧ ∀ i, i < len → ∃ k : Ky, k.lits ∧ ∀ j v, (kyC k)[j]? = some v → w.cell? (x.add (i * 3 + j)) = some v
def deedL (d : DeedV) : List Value := [.int .i64 d.kind, .int .i64 d.n] ++ (kyC d.k ++ [.bool d.raw])
/-- What the walk is told of deeds that came in. -/
def IsDeeds (w : World) (a : Option Addr) (len cap : Nat) : Prop :=
  (a = none ∧ len = 0) ∨
  ∃ x : Addr, a = some x ∧ len ≤ cap ∧ cap ≤ maxLen ∧ ∀ i, i < len → ∃ d : DeedV, d.wf ∧ ∀ k v, (deedL d)[k]? = some v → w.cell? (x.add (i * 6 + k)) = some v
theorem deeds_at {a : Option Addr} {len cap : Nat} (h : IsDeeds w a len cap) (i : Nat) (hi : i < len) :
    ∃ b o, ∃ off, ∃ d : DeedV, a = some ⟨b, off, none⟩ ∧ off + i * 6 = o ∧ len ≤ cap ∧ cap ≤ maxLen ∧ d.wf ∧ w.cell? ⟨b, o, none⟩ = some (.int .i64 d.kind) ∧ w.cell? ⟨b, o + 1, none⟩ = some (.int .i64 d.n) ∧ w.cell? ⟨b, o + 2, none⟩ = some (.int .i64 d.k.sp) ∧ w.cell? ⟨b, o + 3, none⟩ = some (.int .u64 d.k.va) ∧ w.cell? ⟨b, o + 4, none⟩ = some (.int .i64 d.k.sz) ∧ w.cell? ⟨b, o + 5, none⟩ = some (.bool d.raw) := by
  rcases h with ⟨_, h0⟩ | ⟨x, rfl, h1, h2, h3⟩
  · omega
  · obtain ⟨d, hd, hc⟩ := h3 i hi
    obtain ⟨b, off, spot⟩ := x
    have hs : spot = none := by
      obtain ⟨e0, _, hc0⟩ := h3 0 (by omega)
      have z0 := hc0 0 _ rfl
      simpa [Addr.add] using World.cell?_spot z0
    subst hs
    have ad : ∀ j, (⟨b, off, none⟩ : Addr).add j = ⟨b, off + j, none⟩ := fun j => by simp [Addr.add]
    have hc' : ∀ k v, (deedL d)[k]? = some v → w.cell? ⟨b, off + i * 6 + k, none⟩ = some v := fun k v hv => by
      have := hc k v hv; rwa [ad, ← Nat.add_assoc] at this
    exact ⟨b, _, off, d, rfl, rfl, h1, h2, hd, hc' 0 _ rfl, hc' 1 _ rfl, hc' 2 _ rfl, hc' 3 _ rfl, hc' 4 _ rfl, hc' 5 _ rfl⟩
end
end Go.Proofs.YtffpfceclhogoaaGreat.Hs
namespace Go.Proofs.YtffpfceclhogoaaGreat.Hs
open Fld
open Go.ChangeShapes Go.WideShapes Go.ChangeAt Go.RowKit Go.Maps
set_option maxHeartbeats 1000000
set_option maxRecDepth 100000
/-- Two keys in boxes. -/
structure TK (w : World) (a : Nat) (k : Ky) (b : Nat) (g : Ky) : Prop where
  x : w.heap[a]? = some (.cells #[.int .i64 k.sp, .int .u64 k.va, .int .i64 k.sz] 114 (0, 0))
  y : w.heap[b]? = some (.cells #[.int .i64 g.sp, .int .u64 g.va, .int .i64 g.sz] 114 (0, 0))
theorem blk_low {w w' : World} {a : Nat} {o : Obj} (h : w.heap[a]? = some o) (hb : Below w.heap.size w w') : w'.heap[a]? = some o :=
  (hb.block a (Array.getElem?_eq_some_iff.1 h).1).trans h
theorem TK.low {w w' : World} {a b : Nat} {k g : Ky} (h : TK w a k b g) (hb : Below w.heap.size w w') : TK w' a k b g := ⟨blk_low h.x hb, blk_low h.y hb⟩
theorem TK.drew {w : World} {a b : Nat} {k g : Ky} (h : TK w a k b g) : TK w.drew a k b g := ⟨h.x, h.y⟩
theorem TK.drewN {w : World} {a b : Nat} {k g : Ky} (h : TK w a k b g) (m : Nat) : TK (w.drewN m) a k b g := ⟨h.x, h.y⟩
theorem TK.alloc {w : World} {a b : Nat} {k g : Ky} (h : TK w a k b g) (o : Obj) : TK (w.alloc o) a k b g := h.low ((Below.refl _ _).alloc (Nat.le_refl _) _)
theorem key_cells {w : World} {a : Nat} {k : Ky} {t : TypeId} (h : w.heap[a]? = some (.cells #[.int .i64 k.sp, .int .u64 k.va, .int .i64 k.sz] t (0, 0))) : w.cell? ⟨a, 0, none⟩ = some (.int .i64 k.sp) ∧ w.cell? ⟨a, 1, none⟩ = some (.int .u64 k.va) ∧ w.cell? ⟨a, 2, none⟩ = some (.int .i64 k.sz) :=
  ⟨by simp [World.cell?, h], by simp [World.cell?, h], by simp [World.cell?, h]⟩
theorem TK.cells {w : World} {a b : Nat} {k g : Ky} (h : TK w a k b g) : (w.cell? ⟨a, 0, none⟩ = some (.int .i64 k.sp) ∧ w.cell? ⟨a, 1, none⟩ = some (.int .u64 k.va) ∧ w.cell? ⟨a, 2, none⟩ = some (.int .i64 k.sz)) ∧ w.cell? ⟨b, 0, none⟩ = some (.int .i64 g.sp) ∧ w.cell? ⟨b, 1, none⟩ = some (.int .u64 g.va) ∧ w.cell? ⟨b, 2, none⟩ = some (.int .i64 g.sz) := ⟨key_cells h.x, key_cells h.y⟩
theorem lo_step {w a b : World} (h : Below w.heap.size w a) (k : Below a.heap.size a b) : Below w.heap.size w b := h.trans (k.mono h.size)
theorem lo_drew {w a : World} (h : Below w.heap.size w a) : Below w.heap.size w a.drew := h.drew
theorem lo_drewN {w a : World} (h : Below w.heap.size w a) (m : Nat) : Below w.heap.size w (a.drewN m) := below_drewN h m
theorem lo_alloc {w a : World} (h : Below w.heap.size w a) (o : Obj) : Below w.heap.size w (a.alloc o) := h.alloc h.size o
end Go.Proofs.YtffpfceclhogoaaGreat.Hs
