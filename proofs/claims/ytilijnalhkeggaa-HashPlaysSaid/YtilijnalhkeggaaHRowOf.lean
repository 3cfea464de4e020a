/-
  Contracts of New and Row of package hash. Conditions: a table that is there; no more blocks than 2 to the 30.
-/
import Derived.Test.YtilijnalhkeggaaHPut
namespace Go.Proofs.Ytilijnalhkeggaa.Hs
open Fld
open Go.ChangeShapes Go.WideShapes Go.ChangeAt Go.RowKit Go.Maps
set_option maxHeartbeats 1000000
set_option maxRecDepth 100000
/-- A table whose blocks are all new. -/
def NewTab (w w' : World) (sb n : Nat) (bl : Int) : Prop := ∃ O, Tab w' sb O n bl (fun _ => []) ∧ Below w.heap.size w w' ∧ (∀ k, O k → w.heap.size ≤ k)
theorem all_nil (n : Nat) : lenL (fun _ => []) n = 0 := by unfold lenL; rw [all_empty (fun _ _ => rfl)]; rfl
theorem tab_new (w : World) (bl : Int) (n : Nat) (hn : 1 ≤ n) (hn1 : n ≤ 9223372036854775807) (hb : 0 ≤ bl) (hb1 : bl ≤ 1073741824) :
    NewTab w ((w.alloc (.map #[] 0)).alloc (.cells #[.int .i64 bl, .int .i64 0, .int .i64 (n : Int), .map (some w.heap.size)] 66)) (w.heap.size + 1) n bl := by
  have hr : ((w.alloc (.map #[] 0)).alloc (.cells #[.int .i64 bl, .int .i64 0, .int .i64 (n : Int), .map (some w.heap.size)] 66)).heap[w.heap.size + 1]? = some (.cells #[.int .i64 bl, .int .i64 0, .int .i64 (n : Int), .map (some w.heap.size)] 66 (0, 0)) := by
    have := heap_alloc_new (w.alloc (.map #[] 0)) (.cells #[.int .i64 bl, .int .i64 0, .int .i64 (n : Int), .map (some w.heap.size)] 66)
    rwa [World.size_alloc] at this
  have hm : ((w.alloc (.map #[] 0)).alloc (.cells #[.int .i64 bl, .int .i64 0, .int .i64 (n : Int), .map (some w.heap.size)] 66)).ownsMap Try.prog 3 hdR w.heap.size 0 (.map []) :=
    (World.ownsMap_made w Try.prog 3 hdR).alloc _
  refine ⟨own (w.heap.size + 1) w.heap.size n (fun _ => nilS), ⟨w.heap.size, fun _ => nilS, ⟨by rw [all_nil]; exact hr, ⟨_, owns_size hm, MapIs.empty n⟩, fun i _ => World.ownsRow_nil _ 0 _ 4, fun _ _ _ => rfl, fun i j g _ _ h _ => (by cases h), fun i _ b hb => (by cases hb), hn, hn1, by rw [all_nil]; exact hb, hb1⟩, fun _ => Iff.rfl⟩, ((Below.refl _ w).alloc (Nat.le_refl _) _).alloc (by simp) _, fun k hk => ?_⟩
  rcases hk with rfl | rfl | ⟨i, _, h⟩
  · omega
  · omega
  · cases h
theorem new_any (bl ch : Int) (hb0 : -9223372036854775808 ≤ bl) (hb1 : bl ≤ 1073741824) (hc0 : -9223372036854775808 ≤ ch) (hc1 : ch ≤ 9223372036854775807) (w : World) :
    Calls Try.prog 9 #[.int .i64 bl, .int .i64 ch] w fun e w' => e = .returned (.pointer (some ⟨w.heap.size + 1, 0, none⟩)) ∧ NewTab w w' (w.heap.size + 1) (max ch 1).toNat (max bl 0) := by
  have h1 : ((max ch 1).toNat : Int) = max ch 1 := by omega
  have T := tab_new w (max bl 0) (max ch 1).toNat (by omega) (by omega) (by omega) (by omega)
  rw [h1] at T
  have HT := Lib.hid T
  clear T h1
  have hmm := @run_makeMap Try.prog
  go_enter Try.func9, Try.ntmps9
  go_wp2
  go_ret
  exact ⟨rfl, HT.out⟩
def kyC (k : Ky) : List Value := [.int .i64 k.sp, .int .u64 k.va, .int .i64 k.sz]
def kyL : List Ky → List Value
  | [] => []
  | k :: l => kyC k ++ kyL l
theorem kyL_append : ∀ (l m : List Ky), kyL (l ++ m) = kyL l ++ kyL m
  | [], _ => rfl
  | b :: l, m => by simp [kyL, kyL_append l m]
theorem kyL_length : ∀ l : List Ky, (kyL l).length = l.length * 3
  | [] => rfl
  | b :: l => by simp [kyL, kyC, kyL_length l]; omega
theorem kyL_one : ∀ (l : List Ky), ∀ u ∈ kyL l, u.oneCell' = true
  | [], u, h => by simp [kyL] at h
  | b :: l, u, h => by
    rcases List.mem_append.1 (show u ∈ kyC b ++ kyL l from h) with h | h
    · simp [kyC] at h; rcases h with rfl | rfl | rfl <;> rfl
    · exact kyL_one l u h
def keysL (l : List Bk) : List Ky := l.map Bk.k
theorem infoK : (Try.prog.info? 41).map (fun i => (i.zero, i.size, i.bytes)) = some (some (.agg #[.int .i64 0, .int .u64 0, .int .i64 0]), 3, 24) := by kernel_rfl
theorem keys_take (l : List Bk) (j : Nat) (h : j < l.length) : keysL (l.take (j + 1)) = keysL (l.take j) ++ [(at_ l j).k] := by
  rw [List.take_add_one, at_eq l j h]; simp [keysL]
theorem own_shape3 {w : World} {B e s n : Nat} {v : Value} {xs : List Value} (h : w.ownsRow B e s v n xs) : ∃ ao cap, v = .slice ao n cap := by
  rcases own_form h with ⟨rfl, rfl⟩ | ⟨g, cap, rfl, _⟩
  · exact ⟨_, _, rfl⟩
  · exact ⟨_, _, rfl⟩
theorem row_any {sb n : Nat} {bl : Int} {L : Nat → List Bk} {O : Nat → Prop} (i : Int) (i0 : -9223372036854775808 ≤ i) (i1 : i ≤ 9223372036854775807) (w : World) (h : Tab w sb O n bl L) :
    Calls Try.prog 32 #[.pointer (some ⟨sb, 0, none⟩), .int .i64 i] w fun e w' => ∃ v, e = .returned v ∧ w'.ownsRow w.heap.size 41 3 v (rowL n L i).length (kyL (keysL (rowL n L i))) ∧ Below w.heap.size w w' := by
  obtain ⟨bm, V, h, _⟩ := h
  obtain ⟨c0, c1, c2, c3, fr⟩ := h.cells
  have hlook := h.look i0 i1
  obtain ⟨ik, hik, hz0, hz1, hz2⟩ := info_parts infoK
  by_cases hin : 0 ≤ i ∧ i < (n : Int)
  · have hi : i.toNat < n := by omega
    have HR := Lib.hid (show rowL n L i = L i.toNat by unfold rowL; rw [if_pos hin])
    have hv0 : rowV n V i = V i.toNat := by unfold rowV; rw [if_pos hin]
    have ho := h.rows _ hi
    have hle := bk_few h hi
    rw [hv0] at hlook
    rcases own_form ho with ⟨hv, h0⟩ | ⟨g, cap, hv, hgb, hnc, hcm⟩
    · rw [hv] at hlook
      clear ho h
      go_enter Try.func32, Try.ntmps32
      go_wp2
      go_loopw [5, 15] (fun v i wr => v = .slice none 0 0 ∧ i = .int .i64 0 ∧ wr = w) (fun _ _ _ => 0)
      case atStart => exact ⟨rfl, rfl, rfl⟩
      case round =>
        obtain ⟨rfl, rfl, rfl⟩ := hrel
        go_wp2
        go_ret
        exact ⟨.slice none 0 0, rfl, by rw [HR.out, List.eq_nil_of_length_eq_zero h0]; exact World.ownsRow_nil _ _ _ 3, Below.refl _ _⟩
    · rw [hv] at hlook
      generalize L i.toNat = l at *
      have hgl := ho.lt g hgb
      clear h c0 c1 c2 fr
      have hnil := World.ownsRow_nil w w.heap.size 41 3
      go_enter Try.func32, Try.ntmps32
      go_wp2
      clear c3 hlook
      go_loopw [5, 15] (fun v i wr => ∃ j : Nat, j ≤ l.length ∧ i = .int .i64 (j : Int) ∧ wr.ownsRow w.heap.size 41 3 v j (kyL (keysL (l.take j))) ∧ Below w.heap.size w wr) (fun _ i _ => l.length - (intOf i).toNat)
      case atStart => exact ⟨0, by omega, rfl, hnil, Below.refl _ _⟩
      case round =>
        obtain ⟨j, hj, rfl, hown, hbel⟩ := hrel
        have hsz := hbel.size
        by_cases hlt : j < l.length
        · have ho1 := own_same ho (fun q hq => hbel.block q (by have := (ho.lt q hq).2; exact this))
          obtain ⟨y0, y1, y2, y3⟩ := own_rowC ho1 hgb hlt
          have hlt' : (j : Int) < (l.length : Int) := by omega
          have HK := Lib.hid (keys_take l j hlt)
          obtain ⟨ao, cap2, rfl⟩ := own_shape3 hown
          have hkl := kyL_length (keysL (l.take j))
          have HX := Lib.hid (heap_alloc_new (wr.alloc (.cells #[.int .i64 (at_ l j).k.sp, .int .u64 (at_ l j).k.va, .int .i64 (at_ l j).k.sz, .int .i64 (at_ l j).v] 83)) (.cells #[.int .i64 (at_ l j).k.sp, .int .u64 (at_ l j).k.va, .int .i64 (at_ l j).k.sz] 41))
          rw [World.size_alloc] at HX
          have HO := Lib.hid ((hown.alloc (.cells #[.int .i64 (at_ l j).k.sp, .int .u64 (at_ l j).k.va, .int .i64 (at_ l j).k.sz, .int .i64 (at_ l j).v] 83)).alloc (.cells #[.int .i64 (at_ l j).k.sp, .int .u64 (at_ l j).k.va, .int .i64 (at_ l j).k.sz] 41))
          go_wp2_with (at_builtin; (refine wpList_append_own _ rfl _ _ 61 rfl w.heap.size 41 ik _ 3 24 Try.underlying61 hik hz0 hz1 hz2 rfl (by decide) _ _ _ rfl (by exact HO.out) ⟨wr.heap.size + 1, 0, none⟩ 1 1 (kyC (at_ l j).k) rfl rfl (by exact World.news_of_block HX.out) (fun u hu => kyL_one [(at_ l j).k] u (by simpa [kyL] using hu)) (by unfold maxLen; omega) (by omega) (by simp; omega) ?_); intro v1 w1 ho2 hg2 hnz)
          have hb2 : Below w.heap.size w w1 := ((hbel.alloc (by omega) _).alloc (by simp; omega) _).grown hg2 (by simp; omega) (fun q hq => (hown.lt q hq).1)
          have ho3 : w1.ownsRow w.heap.size 41 3 v1 (j + 1) (kyL (keysL (l.take (j + 1)))) := by
            rw [HK.out, kyL_append]; simpa [kyL] using ho2
          clear ho2 hg2 HX HO hown hbel y0 y1 y2 y3 ho1 hnz
          go_wp2_with fail
          go_roundw
          case rel => exact ⟨j + 1, by omega, by go_num, ho3, hb2⟩
          case measure => simp [intOf]; omega
        · obtain rfl : l.length = j := by omega
          rw [List.take_length] at hown
          obtain ⟨ao, cap2, rfl⟩ := own_shape3 hown
          go_wp2
          go_ret
          exact ⟨_, rfl, by rw [HR.out]; exact hown, hbel⟩
  · have HR := Lib.hid (show rowL n L i = [] by unfold rowL; rw [if_neg hin])
    rw [rowV_out hin] at hlook
    unfold nilS at hlook
    clear h
    go_enter Try.func32, Try.ntmps32
    go_wp2
    go_loopw [5, 15] (fun v i wr => v = .slice none 0 0 ∧ i = .int .i64 0 ∧ wr = w) (fun _ _ _ => 0)
    case atStart => exact ⟨rfl, rfl, rfl⟩
    case round =>
      obtain ⟨rfl, rfl, rfl⟩ := hrel
      go_wp2
      go_ret
      exact ⟨.slice none 0 0, rfl, by rw [HR.out]; exact World.ownsRow_nil _ _ _ 3, Below.refl _ _⟩
end Go.Proofs.Ytilijnalhkeggaa.Hs
