/-
  Rows of blocks: slices.Insert at the head, slices.Delete of one, at blocks of four cells. Conditions: the row lies in a block of its own.
-/
import Derived.Test.YtilijnalhkeggaaHState
import Derived.Laws.CopyOwn
import Derived.Lib.Overlaps
import Derived.Lib.AppendZerosOnto
import Derived.Lib.SliceRun
import Derived.Laws.NewBlocks
import Derived.Laws.Externs
import Derived.Deep.RegionLaw
namespace Go.Proofs.Ytilijnalhkeggaa.Hs
open Fld
open Go.ChangeShapes Go.WideShapes Go.ChangeAt Go.RowKit Go.Maps
set_option maxHeartbeats 1000000
/-! ### copy and clear at elements of k cells -/
theorem run_copy_rowk {P : Program} (w : World) (dT sT ty elem : TypeId) (k g o dLen dCap : Nat) (a : Addr) (sLen sCap : Nat) (cur : Array Value) (t : TypeId) (cs : List Value)
    (hu : P.underlying dT = some (.slice elem)) (hs : (P.info? elem).map (·.size) = some k)
    (hg : w.heap[g]? = some (.cells cur t (0, 0))) (hn : cs.length = Nat.min sLen dLen * k)
    (hsrc : ∀ j v, cs[j]? = some v → w.cell? (a.add j) = some v) (hfit : o + cs.length ≤ cur.size) (h1 : ∀ v ∈ cs, v.oneCell' = true) :
    (Builtin.copy_ #[dT, sT] ty #[.slice (some ⟨g, o, none⟩) dLen dCap, .slice (some a) sLen sCap]).run P w =
      .ok (goInt (Nat.min sLen dLen)) (w.setRow g (cur.toList.take o ++ cs ++ cur.toList.drop (o + cs.length)).toArray) := by
  have hl := run_loadCells_list (P := P) w a cs hsrc
  have hst := run_storeCells_at P g o t cs 0 cur w hg (by simpa using hfit) h1
  rw [hn] at hl
  cases hq : P.info? elem with
  | none => simp [hq] at hs
  | some i =>
    have hi : i.size = k := by simpa [hq] using hs
    simp [Builtin.copy_, run_underlying hu, Builtin.lenOf, Builtin.firstCells, sizeOf, typeInfo, hq, hi, hl, hst]
theorem run_clear_rowk {P : Program} (w : World) (t e ty : TypeId) (z : Value) (k b o n c : Nat) (cur : Array Value) (tt : TypeId) (ht : P.underlying t = some (.slice e)) (hv : ∀ w, (zeroValue e).run P w = .ok z w) (hz : z.cells.size = k) (h1 : ∀ v ∈ (Builtin.zeroCells z.cells n).toList, v.oneCell' = true) (hn : 0 < n)
    (hg : w.heap[b]? = some (.cells cur tt (0, 0))) (hfit : o + n * k ≤ cur.size) :
    (Builtin.clear_ #[t] ty #[.slice (some ⟨b, o, none⟩) n c]).run P w = .ok (.tuple #[]) (w.setRow b (cur.toList.take o ++ (Builtin.zeroCells z.cells n).toList ++ cur.toList.drop (o + n * k)).toArray) := by
  have hl : (Builtin.zeroCells z.cells n).toList.length = n * k := by simp [Builtin.zeroCells, hz]
  have hst := run_storeCells_at P b o tt (Builtin.zeroCells z.cells n).toList 0 cur w hg (by rw [hl]; simpa using hfit) h1
  rw [hl] at hst
  simp only [Nat.add_zero] at hst
  obtain ⟨m, rfl⟩ : ∃ m, n = m + 1 := ⟨n - 1, by omega⟩
  simp [Builtin.clear_, run_underlying ht, hv, hst]
section
variable {P : Program}
theorem wp_builtin_run (w : World) {o : Oper} {a : Act} {K : Act → World → Prop} {Q : Exit → Act → World → Prop} {b : Builtin} (f : Array TypeId → TypeId → Array Value → Sem Value) (hf : ∀ ats ty cs args, builtin b ats ty cs args = (do pure (.value (← f ats ty args)))) (d s : Operand) (t t' : TypeId)
    (ho : o.op = .call { callee := .builtin b, args := #[d, s], argTypes := #[t, t'] }) (v u : Value) (hd : a.eval d = v) (hs : a.eval s = u) {v' : Value} {w' : World}
    (hr : (f #[t, t'] o.type #[v, u]).run P w = .ok v' w') (h : K (a.put o.dst v') w') : o.wp P a w K Q := by
  unfold Oper.wp execOp
  simp only [ho, resolve, invoke, hf, Sem.run_bind, Sem.run_pure, Result.andThen_ok, List.map_toArray, List.map_cons, List.map_nil, hd, hs, hr]
  exact h
theorem wpList_copy_is (w : World) {ops : Array Oper} {rest : List Oper} {o : Oper} {a : Act} {Q : Exit → Act → World → Prop} (hgd : o.guard = none) (d s : Operand) (t t' : TypeId)
    (ho : o.op = .call { callee := .builtin .copy, args := #[d, s], argTypes := #[t, t'] }) (v u : Value) (hd : a.eval d = v) (hs : a.eval s = u) {v' : Value} {w' : World}
    (hr : (Builtin.copy_ #[t, t'] o.type #[v, u]).run P w = .ok v' w') (h : wpList P ops Q rest (a.put o.dst v') w') : wpList P ops Q (o :: rest) a w :=
  wpList_plain hgd fun _ hK => wp_builtin_run w Builtin.copy_ (fun _ _ _ _ => rfl) d s t t' ho v u hd hs hr (hK _ _ h)
theorem step_builtin_is {ops : Array Oper} {o : Oper} {a : Act} {w : World} {K : Act → World → Prop} {Q : Exit → Act → World → Prop} {E : Prop} {b : Builtin} (f : Array TypeId → TypeId → Array Value → Sem Value) (hf : ∀ ats ty cs args, builtin b ats ty cs args = (do pure (.value (← f ats ty args))))
    (hg : o.guard = none) (d x : Operand) (dT sT : TypeId) (hop : o.op = Op.call { callee := Callee.builtin b, args := #[d, x], argTypes := #[dT, sT] })
    (v u : Value) (hd : a.eval d = v) (hx : a.eval x = u) {v' : Value} {w' : World} (hr : (f #[dT, sT] o.type #[v, u]).run P w = .ok v' w') (hK : K (a.put o.dst v') w') :
    if Region.wanted o (yielded ops a.tmps) = true then Oper.wp P o a w K Q else E := by
  have hw : Region.wanted o (yielded ops a.tmps) = true := by simp [Region.wanted, hg]
  rw [if_pos hw]
  exact wp_builtin_run w f hf d x dT sT hop v u hd hx hr hK
theorem wpList_clear_is (w : World) {ops : Array Oper} {rest : List Oper} {o : Oper} {a : Act} {Q : Exit → Act → World → Prop} (hgd : o.guard = none) (d : Operand) (t : TypeId)
    (ho : o.op = .call { callee := .builtin .clear, args := #[d], argTypes := #[t] }) (v : Value) (hd : a.eval d = v) {v' : Value} {w' : World}
    (hr : (Builtin.clear_ #[t] o.type #[v]).run P w = .ok v' w') (h : wpList P ops Q rest (a.put o.dst v') w') : wpList P ops Q (o :: rest) a w :=
  wpList_plain hgd fun _ hK => by
    unfold Oper.wp execOp
    simp only [ho, resolve, invoke, builtin, Sem.run_bind, Sem.run_pure, Result.andThen_ok, List.map_toArray, List.map_cons, List.map_nil, hd, hr]
    exact hK _ _ h
end
/-! ### slices.Insert -/
theorem infoB : (Try.prog.info? 83).map (fun i => (i.zero, i.size, i.bytes)) = some (some (.agg #[.int .i64 0, .int .u64 0, .int .i64 0, .int .i64 0]), 4, 32) := by kernel_rfl
theorem bk_size : (Try.prog.info? 83).map (·.size) = some 4 := by
  obtain ⟨i0, hi, _, h, _⟩ := info_parts infoB; rw [hi]; simp [h]
theorem bk_zero (w : World) : (zeroValue 83).run Try.prog w = .ok (.agg #[.int .i64 0, .int .u64 0, .int .i64 0, .int .i64 0]) w := by kernel_rfl
theorem addr_lit (g o j : Nat) : (⟨g, o, none⟩ : Addr).add j = ⟨g, o + j, none⟩ := by unfold Addr.add; split <;> simp_all
theorem insert_nil (b : Bk) (vb : Nat) (w : World) (hvb : w.heap[vb]? = some (.cells #[.int .i64 b.k.sp, .int .u64 b.k.va, .int .i64 b.k.sz, .int .i64 b.v] 83 (0, 0))) :
    Calls Try.prog 47 #[nilS, .int .i64 0, .slice (some ⟨vb, 0, none⟩) 1 1] w fun e w' =>
      ∃ g cap, e = .returned (.slice (some ⟨g, 0, none⟩) 1 cap) ∧ w'.ownsRow 0 83 4 (.slice (some ⟨g, 0, none⟩) 1 cap) 1 (bkL [b]) ∧ Below w.heap.size w w' ∧ w.heap.size ≤ g := by
  obtain ⟨i0, hi, hz0, hz1, hz2⟩ := info_parts infoB
  have hown : w.ownsRow 0 83 4 nilS 0 [] := World.ownsRow_nil w 0 _ 4
  unfold nilS at hown ⊢
  go_enter Try.func47, Try.ntmps47
  go_wp2_with (at_builtin; (refine wpList_append_lies _ rfl _ _ 78 rfl 0 83 i0 _ 4 32 Try.underlying78 hi hz0 hz1 hz2 rfl (by decide) (.slice none 0 0) _ _ rfl hown ⟨vb, 0, none⟩ 1 1 (bkC b) rfl rfl (World.news_of_block hvb) (fun u hu => bkL_one [b] u (by simpa [bkL] using hu)) (by decide) (by unfold maxLen; omega) (by omega) (Nat.zero_le _) _ rfl ?_); intro g cap w1 ho1 hg1 hat hlt)
  go_ret
  have hgz : w.heap.size ≤ g := by
    rcases hat with h | h
    · cases h
    · omega
  exact ⟨g, cap, rfl, by simpa [bkL] using ho1, ⟨hg1.os, hg1.tape, hg1.output, hg1.size, fun k hk => hg1.block k hk (by simp [Value.ownBlock])⟩, hgz⟩
set_option maxRecDepth 100000 in
theorem insert_shift (b : Bk) (vb : Nat) (l : List Bk) (g cap : Nat) (cur : Array Value) (w : World) (hl : 0 < l.length) (hvb : w.heap[vb]? = some (.cells #[.int .i64 b.k.sp, .int .u64 b.k.va, .int .i64 b.k.sz, .int .i64 b.v] 83 (0, 0))) (hne : vb ≠ g)
    (hg : w.heap[g]? = some (.cells cur 83 (0, 0))) (hc : cur.size = cap * 4) (hcap : l.length + 1 ≤ cap) (hm : cap ≤ maxLen) (hcur : cur.toList.take (l.length * 4) = bkL l) :
    Calls Try.prog 47 #[.slice (some ⟨g, 0, none⟩) l.length cap, .int .i64 0, .slice (some ⟨vb, 0, none⟩) 1 1] w fun e w' =>
      e = .returned (.slice (some ⟨g, 0, none⟩) (l.length + 1) cap) ∧ w'.ownsRow 0 83 4 (.slice (some ⟨g, 0, none⟩) (l.length + 1) cap) (l.length + 1) (bkL (b :: l)) ∧ w.grownBy w' (some g) := by
  have hov : ∀ W : World, W.heap[vb]? = w.heap[vb]? → W.heap[g]? = w.heap[g]? → ∀ off lb cb, (callFunc 57 #[.slice (some ⟨vb, 0, none⟩) 1 1, .slice (some ⟨g, off, none⟩) lb cb]).run Try.prog W = .ok (.value (.bool false)) W := fun W e1 e2 off lb cb => by
    have h1 := e1.trans hvb; have h2 := e2.trans hg
    rw [run_callFunc_extern Try.func57 (by kernel_rfl) (by kernel_rfl) (by kernel_rfl) (e := Extern.SlicesOverlaps.overlaps #[78, 78] #[4]) (by kernel_rfl),
      Lib.run_overlaps_apart W 78 4 83 Try.underlying78 4 (fun _ => by kernel_rfl) ⟨vb, 0, none⟩ ⟨g, off, none⟩ 1 1 lb cb hne 83 83 4 cur.size (by simp [World.shape?, h1]) (by simp [World.shape?, h2]) (by omega) (by simp [World.frozen?, h1]) (by simp [World.frozen?, h1])]
    rfl
  have hm' : cap ≤ 9223372036854775807 := by simpa [maxLen] using hm
  have hn1 : ¬ (0 : Int) = (l.length : Int) := by omega
  have hn2 : ¬ (cap : Int) < (l.length : Int) + 1 := by omega
  have hn3 : ¬ cap = 0 := by omega
  have hw1 : IntKind.i64.wrap 1 = 1 := by decide
  have hn5 : (1 : Int) ≤ (l.length : Int) + 1 := by omega
  have hn6 : (0 : Int) ≤ (l.length : Int) + 1 := by omega
  have hn4 : ¬ cap = 1 := by omega
  have hlen := bkL_length l
  have hsrc : ∀ j v, (bkL l)[j]? = some v → cur[j]? = some v := fun j v h => by
    rw [← hcur, List.getElem?_take] at h
    split at h
    · simpa using h
    · cases h
  have hsz := bk_size
  have hmin : Nat.min (l.length + 1) l.length = l.length := Nat.min_eq_right (Nat.le_succ _)
  have hmin1 : Nat.min 1 (l.length + 1) = 1 := Nat.min_eq_left (by omega)
  have hnl : (bkL l).length = l.length * 4 := hlen
  have hsrcg : ∀ (W : World), W.heap[g]? = w.heap[g]? → ∀ j v, (bkL l)[j]? = some v → W.cell? ((⟨g, 0, none⟩ : Addr).add j) = some v := fun W hW j v h => by
    rw [addr_lit, Nat.zero_add]
    have := hsrc j v h
    simp [World.cell?, hW, hg, this]
  have hcp1 : ∀ (W : World), W.heap[g]? = w.heap[g]? → ∀ ty, (Builtin.copy_ #[78, 78] ty #[.slice (some ⟨g, 4, none⟩) l.length (cap - 1), .slice (some ⟨g, 0, none⟩) (l.length + 1) cap]).run Try.prog W = .ok (goInt l.length) (W.setRow g (cur.toList.take 4 ++ bkL l ++ cur.toList.drop (4 + (bkL l).length)).toArray) := fun W hW ty => by
    have h := run_copy_rowk (P := Try.prog) W 78 78 ty 83 4 g 4 l.length (cap - 1) ⟨g, 0, none⟩ (l.length + 1) cap cur 83 (bkL l) Try.underlying78 hsz (hW.trans hg) (by rw [hnl, hmin]) (hsrcg W hW) (by omega) (bkL_one l)
    rw [hmin] at h; exact h
  obtain ⟨X, hX⟩ : ∃ X, X = (cur.toList.take 4 ++ bkL l ++ cur.toList.drop (4 + (bkL l).length)).toArray := ⟨_, rfl⟩
  rw [← hX] at hcp1
  have HX := Lib.hid hX
  have hXs : X.size = cap * 4 := by rw [hX]; simp; omega
  clear hX
  have hcp2 : ∀ (W : World), W.heap[g]? = some (.cells X 83 (0, 0)) → W.heap[vb]? = w.heap[vb]? → ∀ ty, (Builtin.copy_ #[78, 78] ty #[.slice (some ⟨g, 0, none⟩) (l.length + 1) cap, .slice (some ⟨vb, 0, none⟩) 1 1]).run Try.prog W = .ok (goInt 1) (W.setRow g (X.toList.take 0 ++ bkC b ++ X.toList.drop (0 + (bkC b).length)).toArray) := fun W hW hV ty => by
    have h := run_copy_rowk (P := Try.prog) W 78 78 ty 83 4 g 0 (l.length + 1) cap ⟨vb, 0, none⟩ 1 1 X 83 (bkC b) Try.underlying78 hsz hW (by rw [hmin1]; rfl) (World.news_of_block (hV.trans hvb)) (by rw [hXs]; simp [bkC]; omega) (fun u hu => bkL_one [b] u (by simpa [bkL] using hu))
    rw [hmin1] at h; exact h
  obtain ⟨Y, hY⟩ : ∃ Y, Y = (X.toList.take 0 ++ bkC b ++ X.toList.drop (0 + (bkC b).length)).toArray := ⟨_, rfl⟩
  rw [← hY] at hcp2
  have HY := Lib.hid hY
  clear hY
  go_enter Try.func47, Try.ntmps47
  go_wp2_with fail
  go_region_law (refine step_builtin_is Builtin.copy_ (fun _ _ _ _ => rfl) rfl _ _ 78 78 rfl _ _ (by simp [Act.eval, Act.put]) (by simp [Act.eval, Act.put]) (hcp1 _ (by rfl) _) ?_)
  have hr1 : (w.drew.setRow g X).heap[g]? = some (.cells X 83 (0, 0)) := setRow_heap w.drew g cur X _ _ hg
  have hr2 : (w.drew.setRow g X).heap[vb]? = w.heap[vb]? := setRow_other w.drew g vb X hne
  go_wp2_with (at_builtin; refine wpList_copy_is _ rfl _ _ 78 78 rfl _ _ rfl rfl (hcp2 _ hr1 hr2 _) ?_)
  go_ret
  have hYe : Y.toList.take ((l.length + 1) * 4) = bkL (b :: l) := by
    have e1 := HY.out; have e2 := HX.out
    have e3 : X.toList = cur.toList.take 4 ++ (bkL l ++ cur.toList.drop (4 + l.length * 4)) := by rw [e2, hnl]; simp
    have e4 : (cur.toList.take 4).length = 4 := by simp; omega
    have e5 : X.toList.drop 4 = bkL l ++ cur.toList.drop (4 + l.length * 4) := by rw [e3]; exact List.drop_left' e4
    rw [e1]
    simp only [List.take_zero, List.nil_append, show (bkC b).length = 4 from rfl, Nat.zero_add, e5]
    rw [← List.append_assoc, show bkC b ++ bkL l = bkL (b :: l) from rfl, show (l.length + 1) * 4 = (bkL (b :: l)).length by rw [bkL_length]; rfl, List.take_left]
  refine ⟨rfl, ⟨by rw [bkL_length]; rfl, .inr ⟨g, cap, Y, rfl, Nat.zero_le _, setRow_heap _ g X Y _ _ hr1, hcap, hm, ?_, hYe⟩⟩, ⟨rfl, rfl, rfl, by simp [World.setRow], fun k hk hkg => ?_⟩⟩
  · rw [HY.out]; simp [bkC]; omega
  · have hkg' : k ≠ g := fun e => hkg (by rw [e])
    exact (setRow_other _ g k Y hkg').trans (setRow_other w.drew g k X hkg')
set_option maxRecDepth 100000 in
theorem insert_grow (b : Bk) (vb : Nat) (l : List Bk) (g cap : Nat) (cur : Array Value) (w : World) (hl : 0 < l.length) (hmax : l.length ≤ 1073741824) (hvb : w.heap[vb]? = some (.cells #[.int .i64 b.k.sp, .int .u64 b.k.va, .int .i64 b.k.sz, .int .i64 b.v] 83 (0, 0)))
    (hg : w.heap[g]? = some (.cells cur 83 (0, 0))) (hcap0 : l.length ≤ cap) (hcap : cap < l.length + 1) (hcur : cur.toList.take (l.length * 4) = bkL l) :
    Calls Try.prog 47 #[.slice (some ⟨g, 0, none⟩) l.length cap, .int .i64 0, .slice (some ⟨vb, 0, none⟩) 1 1] w fun e w' =>
      ∃ cap', e = .returned (.slice (some ⟨w.heap.size, 0, none⟩) (l.length + 1) cap') ∧ w'.ownsRow 0 83 4 (.slice (some ⟨w.heap.size, 0, none⟩) (l.length + 1) cap') (l.length + 1) (bkL (b :: l)) ∧ Below w.heap.size w w' := by
  obtain ⟨i0, hi, hz0, hz1, hz2⟩ := info_parts infoB
  have hsz := bk_size
  have hlen := bkL_length l
  have hsrc : ∀ j v, (bkL l)[j]? = some v → cur[j]? = some v := fun j v h => by
    rw [← hcur, List.getElem?_take] at h
    split at h
    · simpa using h
    · cases h
  have hgl : g < w.heap.size := (Array.getElem?_eq_some_iff.1 hg).1
  have hvl : vb < w.heap.size := (Array.getElem?_eq_some_iff.1 hvb).1
  obtain ⟨G, hG⟩ : ∃ G, G = grownCap w (0 + (l.length + 1)) cap 83 := ⟨_, rfl⟩
  have hG1 : l.length + 1 ≤ G := by have := grownCap_ge w (0 + (l.length + 1)) cap 83; omega
  have hG2 : G ≤ maxLen := by rw [hG]; exact grownCap_le_maxLen w _ _ _ (by unfold maxLen; omega)
  obtain ⟨Z, hZ⟩ : ∃ Z, Z = ([] : List Value).toArray ++ Builtin.zeroCells (Value.agg #[.int .i64 0, .int .u64 0, .int .i64 0, .int .i64 0]).cells (l.length + 1) ++ Builtin.zeroCells (Value.agg #[.int .i64 0, .int .u64 0, .int .i64 0, .int .i64 0]).cells (G - (0 + (l.length + 1))) := ⟨_, rfl⟩
  have hZs : Z.size = G * 4 := by
    rw [hZ]; simp [size_zeroCells, Value.cells]; omega
  have hrz : ∀ ty, (Builtin.append_ #[78, 3] ty #[.slice (some ⟨g, 0, none⟩) 0 cap, .int .i64 ((l.length : Int) + 1)]).run Try.prog w = .ok (.slice (some ⟨w.heap.size, 0, none⟩) (l.length + 1) G) (w.drew.alloc (.cells Z 83)) := fun ty => by
    have h := Lib.run_append_grow_zeros w 78 3 ty 83 i0 _ .i64 .i64 Try.underlying78 Try.underlying3 hi hz0 (some ⟨g, 0, none⟩) 0 cap [] (by rw [hz1]; exact run_firstCells_some w.drew 4 0 ⟨g, 0, none⟩ 0 cap [] rfl (fun j v hj => by simp at hj)) (l.length + 1) (by omega) (by omega) (by omega) (by omega) (by rw [hz2]; omega) (by rw [hz2]; exact growslice_fits (by omega) (by omega))
    rw [← hG, ← hZ] at h
    simpa using h
  have HG := Lib.hid hG
  have HZ := Lib.hid hZ
  clear hG hZ
  have hmin1 : Nat.min 1 (l.length + 1) = 1 := Nat.min_eq_left (by omega)
  have hmin2 : Nat.min l.length l.length = l.length := Nat.min_self _
  obtain ⟨X, hX⟩ : ∃ X, X = (Z.toList.take 0 ++ bkC b ++ Z.toList.drop (0 + (bkC b).length)).toArray := ⟨_, rfl⟩
  obtain ⟨Y, hY⟩ : ∃ Y, Y = (X.toList.take 4 ++ bkL l ++ X.toList.drop (4 + (bkL l).length)).toArray := ⟨_, rfl⟩
  have hXs : X.size = G * 4 := by rw [hX]; simp [bkC]; omega
  have hYs : Y.size = G * 4 := by rw [hY]; simp; omega
  have hcp1 : ∀ (W : World), W.heap[w.heap.size]? = some (.cells Z 83 (0, 0)) → W.heap[vb]? = w.heap[vb]? → ∀ ty, (Builtin.copy_ #[78, 78] ty #[.slice (some ⟨w.heap.size, 0, none⟩) (l.length + 1) G, .slice (some ⟨vb, 0, none⟩) 1 1]).run Try.prog W = .ok (goInt 1) (W.setRow w.heap.size X) := fun W hW hV ty => by
    have h := run_copy_rowk (P := Try.prog) W 78 78 ty 83 4 w.heap.size 0 (l.length + 1) G ⟨vb, 0, none⟩ 1 1 Z 83 (bkC b) Try.underlying78 hsz hW (by rw [hmin1]; rfl) (World.news_of_block (hV.trans hvb)) (by rw [hZs]; simp [bkC]; omega) (fun u hu => bkL_one [b] u (by simpa [bkL] using hu))
    rw [hmin1, ← hX] at h; exact h
  have hcp2 : ∀ (W : World), W.heap[w.heap.size]? = some (.cells X 83 (0, 0)) → W.heap[g]? = w.heap[g]? → ∀ ty sc, (Builtin.copy_ #[78, 78] ty #[.slice (some ⟨w.heap.size, 4, none⟩) l.length sc, .slice (some ⟨g, 0, none⟩) l.length cap]).run Try.prog W = .ok (goInt l.length) (W.setRow w.heap.size Y) := fun W hW hV ty sc => by
    have h := run_copy_rowk (P := Try.prog) W 78 78 ty 83 4 w.heap.size 4 l.length sc ⟨g, 0, none⟩ l.length cap X 83 (bkL l) Try.underlying78 hsz hW (by rw [hmin2, hlen]) (fun j v h => by
      rw [addr_lit, Nat.zero_add]
      have := hsrc j v h
      simp [World.cell?, hV, hg, this]) (by omega) (bkL_one l)
    rw [hmin2, ← hY] at h; exact h
  have HX := Lib.hid hX
  have HY := Lib.hid hY
  clear hX hY
  have hm' : G ≤ 9223372036854775807 := by simpa [maxLen] using hG2
  have hn1 : ¬ (0 : Int) = (l.length : Int) := by omega
  have hn2 : (cap : Int) < (l.length : Int) + 1 := by omega
  have hn3 : ¬ cap = 0 := by omega
  have hn7 : ¬ G = 0 := by omega
  have hn8 : ¬ G = 1 := by omega
  have hw1 : IntKind.i64.wrap 1 = 1 := by decide
  have hn5 : (1 : Int) ≤ (l.length : Int) + 1 := by omega
  have hn6 : (0 : Int) ≤ (l.length : Int) + 1 := by omega
  have hr1 : (w.alloc (.cells Z 83)).drew.heap[w.heap.size]? = some (.cells Z 83 (0, 0)) := heap_alloc_new w _
  have hr2 : ∀ k, k < w.heap.size → (w.alloc (.cells Z 83)).drew.heap[k]? = w.heap[k]? := fun k hk => Below.heap_alloc w _ k hk
  have hr3 : ((w.alloc (.cells Z 83)).drew.setRow w.heap.size X).heap[w.heap.size]? = some (.cells X 83 (0, 0)) := setRow_heap _ _ Z X _ _ hr1
  have hr4 : ∀ k, k < w.heap.size → ((w.alloc (.cells Z 83)).drew.setRow w.heap.size X).heap[k]? = w.heap[k]? := fun k hk => (setRow_other _ _ k X (by omega)).trans (hr2 k hk)
  have hc1 := fun ty => hcp1 _ hr1 (hr2 vb hvl) ty
  have hc2 := fun ty sc => hcp2 (((w.alloc (.cells Z 83)).drew.setRow w.heap.size X).drew) hr3 (hr4 g hgl) ty sc
  clear hcp1 hcp2
  go_enter Try.func47, Try.ntmps47
  go_wp2_with (first
    | (at_builtin; refine Lib.wpList_append_run _ rfl _ _ 78 3 rfl _ _ rfl rfl _ _ (hrz _) ?_))
  go_region_law (refine step_builtin_is Builtin.copy_ (fun _ _ _ _ => rfl) rfl _ _ 78 78 rfl _ _ (by simp [Act.eval, Act.put]) (by simp [Act.eval, Act.put]) (hc2 _ (G - 1)) ?_)
  go_wp2
  go_ret
  have hYe : Y.toList.take ((l.length + 1) * 4) = bkL (b :: l) := by
    have e1 := HY.out; have e2 := HX.out
    have e3 : X.toList.take 4 = bkC b := by rw [e2]; simp [bkC]
    have e4 : Y.toList = bkL (b :: l) ++ X.toList.drop (4 + (bkL l).length) := by rw [e1, e3]; simp [bkL]
    rw [e4, show (l.length + 1) * 4 = (bkL (b :: l)).length by rw [bkL_length]; rfl, List.take_left]
  have hr5 := setRow_heap ((w.alloc (.cells Z 83)).drew.setRow w.heap.size X) w.heap.size X Y _ _ hr3
  refine ⟨G, rfl, ⟨by rw [bkL_length]; rfl, .inr ⟨w.heap.size, G, Y, rfl, Nat.zero_le _, hr5, hG1, hG2, hYs, hYe⟩⟩, ⟨rfl, rfl, rfl, by simp [World.setRow], fun k hk => ?_⟩⟩
  exact (setRow_other _ _ k Y (by omega)).trans (hr4 k hk)
theorem insert_any (b : Bk) (vb : Nat) (l : List Bk) (v : Value) (w : World) (h : w.ownsRow 0 83 4 v l.length (bkL l)) (hnil : l = [] → v = nilS) (hmax : l.length ≤ 1073741824)
    (hvb : w.heap[vb]? = some (.cells #[.int .i64 b.k.sp, .int .u64 b.k.va, .int .i64 b.k.sz, .int .i64 b.v] 83 (0, 0))) (hne : ∀ g, v.ownBlock = some g → vb ≠ g) :
    Calls Try.prog 47 #[v, .int .i64 0, .slice (some ⟨vb, 0, none⟩) 1 1] w fun e w' =>
      ∃ g cap, e = .returned (.slice (some ⟨g, 0, none⟩) (l.length + 1) cap) ∧ w'.ownsRow 0 83 4 (.slice (some ⟨g, 0, none⟩) (l.length + 1) cap) (l.length + 1) (bkL (b :: l)) ∧ w.grownBy w' v.ownBlock ∧ (v.ownBlock = some g ∨ w.heap.size ≤ g) := by
  by_cases hl : l = []
  · obtain rfl := hnil hl
    subst hl
    refine (insert_nil b vb w hvb).mono ?_
    rintro e w' ⟨g, cap, rfl, ho, hb, hg⟩
    exact ⟨g, cap, rfl, ho, ⟨hb.os, hb.tape, hb.output, hb.size, fun k hk _ => hb.block k hk⟩, .inr hg⟩
  · have hpos : 0 < l.length := List.length_pos_iff.2 hl
    rcases h.2 with ⟨_, h0⟩ | ⟨g, cap, cur, rfl, _, hg, hnc, hcm, hcs, htake⟩
    · omega
    · by_cases hroom : l.length + 1 ≤ cap
      · refine (insert_shift b vb l g cap cur w hpos hvb (hne g rfl) hg hcs hroom hcm htake).mono ?_
        rintro e w' ⟨rfl, ho, hgr⟩
        exact ⟨g, cap, rfl, ho, hgr, .inl rfl⟩
      · refine (insert_grow b vb l g cap cur w hpos hmax hvb hg hnc (by omega) htake).mono ?_
        rintro e w' ⟨cap', rfl, ho, hb⟩
        exact ⟨_, cap', rfl, ho, ⟨hb.os, hb.tape, hb.output, hb.size, fun k hk _ => hb.block k hk⟩, .inr (Nat.le_refl _)⟩
/-! ### slices.Delete -/
set_option maxRecDepth 100000 in
theorem delete_at (l : List Bk) (i m : Nat) (hlm : l.length = m + 1) (hi : i < m + 1) (g cap : Nat) (cur : Array Value) (w : World)
    (hg : w.heap[g]? = some (.cells cur 83 (0, 0))) (hc : cur.size = cap * 4) (hcap : m + 1 ≤ cap) (hm : cap ≤ maxLen) (hcur : cur.toList.take ((m + 1) * 4) = bkL l) :
    Calls Try.prog 51 #[.slice (some ⟨g, 0, none⟩) (m + 1) cap, .int .i64 (i : Int), .int .i64 ((i : Int) + 1)] w fun e w' =>
      e = .returned (.slice (some ⟨g, 0, none⟩) m cap) ∧ w'.ownsRow 0 83 4 (.slice (some ⟨g, 0, none⟩) m cap) m (bkL (l.eraseIdx i)) ∧ w.grownBy w' (some g) := by
  obtain ⟨i0, hif, hz0, hz1, hz2⟩ := info_parts infoB
  have hlen := bkL_length l
  have hsrc : ∀ j v, (bkL l)[j]? = some v → cur[j]? = some v := fun j v h => by
    rw [← hcur, List.getElem?_take] at h
    split at h
    · simpa using h
    · cases h
  have hdl : (bkL (l.drop (i + 1))).length = (m - i) * 4 := by rw [bkL_length, List.length_drop, hlm]; congr 1; omega
  obtain ⟨ad, had⟩ : ∃ ad : Addr, ad = if cap = i + 1 then (⟨g, 0, none⟩ : Addr) else ⟨g, (i + 1) * 4, none⟩ := ⟨_, rfl⟩
  obtain ⟨X, hX⟩ : ∃ X, X = (cur.toList.take (i * 4) ++ bkL (l.drop (i + 1)) ++ cur.toList.drop (i * 4 + (bkL (l.drop (i + 1))).length)).toArray := ⟨_, rfl⟩
  have hXs : X.size = cap * 4 := by rw [hX]; simp [hdl]; omega
  have hrun : ∀ (W : World), W.heap[g]? = w.heap[g]? → ∀ ty c, (Builtin.append_ #[78, 78] ty #[.slice (some ⟨g, 0, none⟩) i cap, .slice (some ad) (m - i) c]).run Try.prog W = .ok (.slice (some ⟨g, 0, none⟩) m cap) (W.setRow g X) := fun W hW ty c => by
    have h := run_append_room (P := Try.prog) W 78 ty 83 i0 Try.underlying78 hif g i cap cur (hW.trans hg) ad (m - i) c (bkL (l.drop (i + 1))) (by rw [hz1]; exact hdl) (fun j u hj => by
      have hj' : j < (m - i) * 4 := by
        rcases Nat.lt_or_ge j ((m - i) * 4) with h | h
        · exact h
        · rw [List.getElem?_eq_none (by omega)] at hj; cases hj
      have e : ad = ⟨g, (i + 1) * 4, none⟩ := by rw [had, if_neg (by omega)]
      rw [e, addr_lit]
      have := hsrc ((i + 1) * 4 + j) u (by rw [← bkL_drop, List.getElem?_drop] at hj; exact hj)
      simp [World.cell?, hW, hg, this]) (bkL_one _) (by omega) (by rw [hz1, hdl, hc]; omega)
    rw [hz1, ← hX, show i + (m - i) = m by omega] at h
    exact h
  have hc1 := fun ty c => hrun w.drew rfl ty c
  obtain ⟨Y, hY⟩ : ∃ Y, Y = (X.toList.take (m * 4) ++ (Builtin.zeroCells (Value.agg #[.int .i64 0, .int .u64 0, .int .i64 0, .int .i64 0]).cells 1).toList ++ X.toList.drop (m * 4 + 1 * 4)).toArray := ⟨_, rfl⟩
  have hr1 : (w.drew.setRow g X).heap[g]? = some (.cells X 83 (0, 0)) := setRow_heap w.drew g cur X _ _ hg
  have hcl : ∀ ty c, (Builtin.clear_ #[78] ty #[.slice (some ⟨g, m * 4, none⟩) 1 c]).run Try.prog (w.drew.setRow g X) = .ok (.tuple #[]) ((w.drew.setRow g X).setRow g Y) := fun ty c => by
    have h := run_clear_rowk (P := Try.prog) (w.drew.setRow g X) 78 83 ty _ 4 g (m * 4) 1 c X 83 Try.underlying78 bk_zero rfl (by intro v hv; simp [Builtin.zeroCells, Value.cells] at hv; obtain ⟨a, ha, rfl⟩ := hv; rcases a with _ | _ | _ | _ | a <;> first | rfl | omega) Nat.one_pos hr1 (by omega)
    rw [← hY] at h
    exact h
  have HX := Lib.hid hX
  have HY := Lib.hid hY
  have HA := Lib.hid had
  have HL := Lib.hid hlm
  have HC := Lib.hid hcur
  have HD := Lib.hid hdl
  clear hX hY had hrun hsrc hdl hlen hlm hcur hif hz0 hz1 hz2
  have hm' : cap ≤ 9223372036854775807 := by simpa [maxLen] using hm
  have hend : bkL (l.eraseIdx i) = X.toList.take (m * 4) := by
    have e1 : cur.toList.take (i * 4) = bkL (l.take i) := by rw [← bkL_take, ← HC.out, List.take_take]; congr 1; omega
    have e2 : (bkL (l.take i) ++ bkL (l.drop (i + 1))).length = m * 4 := by rw [List.length_append, HD.out, bkL_length, List.length_take, HL.out]; omega
    have e3 := HX.out
    rw [e3, e1, List.toList_toArray, ← e2, List.take_left, ← bkL_append, List.eraseIdx_eq_take_drop_succ]
  have hfin : Ending.returned (Value.slice (some ⟨g, 0, none⟩) m cap) = .returned (.slice (some ⟨g, 0, none⟩) m cap) ∧ ((w.drew.setRow g X).setRow g Y).ownsRow 0 83 4 (.slice (some ⟨g, 0, none⟩) m cap) m (bkL (l.eraseIdx i)) ∧ w.grownBy ((w.drew.setRow g X).setRow g Y) (some g) := by
    have e2 : (X.toList.take (m * 4)).length = m * 4 := by rw [List.length_take]; simp; omega
    have e1 := HY.out
    refine ⟨rfl, ⟨by rw [bkL_length, List.length_eraseIdx_of_lt (by rw [HL.out]; exact hi), HL.out, Nat.add_sub_cancel], .inr ⟨g, cap, Y, rfl, Nat.zero_le _, setRow_heap _ g X Y _ _ hr1, by omega, hm, ?_, ?_⟩⟩, ⟨rfl, rfl, rfl, by simp [World.setRow], fun k hk hkg => ?_⟩⟩
    · rw [e1]; simp [Builtin.zeroCells, Value.cells]; omega
    · rw [e1, hend, List.toList_toArray, List.append_assoc]
      exact List.take_left' e2
    · have hkg' : k ≠ g := fun e => hkg (by rw [e])
      exact (setRow_other _ g k Y hkg').trans (setRow_other w.drew g k X hkg')
  clear hend HX HY HD HC HL
  by_cases hci : cap = i + 1
  · have ha : ad = ⟨g, 0, none⟩ := by rw [HA.out, if_pos hci]
    obtain rfl : i = m := by omega
    subst hci
    subst ha
    have hc2 : ∀ ty, (Builtin.append_ #[78, 78] ty #[.slice (some ⟨g, 0, none⟩) i (i + 1), .slice (some ⟨g, 0, none⟩) 0 0]).run Try.prog w.drew = .ok (.slice (some ⟨g, 0, none⟩) i (i + 1)) (w.drew.setRow g X) := fun ty => by
      have h := hc1 ty 0
      rwa [Nat.sub_self] at h
    have k3 : (i : Int) ≤ (i : Int) + 1 := by omega
    have k4 : (0 : Int) ≤ (i : Int) + 1 := by omega
    have k7 : ((i : Int) + 1).toNat = i + 1 := by omega
    clear HA hc1 hc hcap hm
    go_enter Try.func51, Try.ntmps51
    go_wp2_with fail
    go_region_law (refine step_builtin_is Builtin.append_ (fun _ _ _ _ => rfl) rfl _ _ 78 78 rfl _ _ (by simp [Act.eval, Act.put]) (by simp [Act.eval, Act.put]) (hc2 _) ?_)
    go_wp2
    go_ret
    exact ⟨rfl, hfin.2⟩
  · have ha : ad = ⟨g, (i + 1) * 4, none⟩ := by rw [HA.out, if_neg hci]
    subst ha
    have k2 : (i : Int) ≤ (m : Int) + 1 := by omega
    have k3 : (i : Int) + 1 ≤ (m : Int) + 1 := by omega
    have k4 : (0 : Int) ≤ (i : Int) + 1 := by omega
    have k5 : ¬ cap = m := by omega
    have k6 : ¬ cap = i := by omega
    have k7 : ((i : Int) + 1).toNat = i + 1 := by omega
    have k8 : (i : Int) ≤ (cap : Int) := by omega
    have k9 : (i : Int) ≤ (m : Int) := by omega
    have k10 : (m : Int) ≤ (m : Int) + 1 := by omega
    have k11 : (m : Int) + 1 ≤ (cap : Int) := by omega
    clear HA hc hcap hm
    go_enter Try.func51, Try.ntmps51
    go_wp2_with fail
    go_region_law (refine step_builtin_is Builtin.append_ (fun _ _ _ _ => rfl) rfl _ _ 78 78 rfl _ _ (by simp [Act.eval, Act.put]) (by simp [Act.eval, Act.put]) (hc1 _ (cap - (i + 1))) ?_)
    go_wp2
    go_ret
    exact ⟨rfl, hfin.2⟩
end Go.Proofs.Ytilijnalhkeggaa.Hs
