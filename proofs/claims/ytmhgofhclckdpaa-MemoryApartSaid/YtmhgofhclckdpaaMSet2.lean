/-
  Contract of set of package memory: the word stands there. Conditions: words are below 2 to the 64, and a word that is put is in the memory, or 0.
-/
import Derived.Test.YtmhgofhclckdpaaMSet
namespace Go.Proofs.Ytmhgofhclckdpaa.Mem
open Go.ChangeShapes Go.WideShapes Go.ChangeAt Go.RowKit Go.Maps
set_option maxHeartbeats 400000
theorem wf_u64 {k : Nat} (h : k < 18446744073709551616) : (Lit.int .u64 (k : Int)).wf = true := by
  exact WalkArith.wf_u64 (by omega)
theorem MemTo.step {w w1 w2 : World} {sb bm S : Nat} {g' : Nat → Nat} (t : Turn w w1 sb bm) (h2 : MemTo w1 w2 sb bm S g') : MemTo w w2 sb bm S g' := by
  obtain ⟨b, a1, a2, a3⟩ := h2
  exact ⟨b, a1, a2.imp id (fun h => Nat.le_trans t.size h), t.trans a3 (.inl rfl)⟩
theorem set_zero (sb bm S k : Nat) (g : Nat → Nat) (w : World) (h : MemAt w sb bm S g) (hk : k % 8 = 0) (hk1 : k < 18446744073709551616) (hg : Good S (setW g k 0)) :
    Calls Try.prog 23 #[.pointer (some ⟨sb, 0, none⟩), .int .u64 (k : Int), .int .u64 0] w fun e w' => e = .returned (.tuple #[]) ∧ MemTo w w' sb bm S (setW g k 0) := by
  obtain ⟨most, hmost, c0, c1, c2, f1, f2⟩ := h.cells
  obtain ⟨m2, hm2, hrow⟩ := h.row
  obtain ⟨D, hown, hD⟩ := h.words
  obtain ⟨lt1, lt2⟩ := h.lt
  have hne := h.ne
  have HR := Lib.hid hrow
  clear hrow
  go_enter Try.func23, Try.ntmps23
  go_wp2_with (first
    | (at_delete; refine wpList_delete_own _ rfl _ _ 54 22 rfl 22 lawU Try.underlying54 _ bm _ D rfl hown _ _ rfl (keyOf_int_mk Try.underlying22 (wf_u64 hk1)) ?_; intro w1 hown1 hturn1; have hb1 := hturn1.grown.block sb lt1 (by simp; omega); have M1 : MemAt w1 sb bm S (setW g k 0) := ⟨⟨m2, hm2, hb1.trans HR.out⟩, ⟨_, owns_size hown1, hD.del h.good.lt hk⟩, hg⟩)
    | (go_at_call 33; refine (shrink_any sb bm S _ _ M1).mono ?_; rintro e w2 ⟨rfl, H2⟩))
  exact ret_none rfl rfl ⟨rfl, MemTo.step ((Turn.refl w sb bm).grown hturn1.grown (fun j hj => by cases hj; exact .inr (.inl rfl))) H2⟩
theorem set_some (sb bm S k v : Nat) (g : Nat → Nat) (w : World) (h : MemAt w sb bm S g) (hk : k % 8 = 0) (hk1 : k < 18446744073709551616) (hv : v < 18446744073709551616) (hv0 : v ≠ 0) (hg : Good S (setW g k v)) :
    Calls Try.prog 23 #[.pointer (some ⟨sb, 0, none⟩), .int .u64 (k : Int), .int .u64 (v : Int)] w fun e w' => e = .returned (.tuple #[]) ∧ MemTo w w' sb bm S (setW g k v) := by
  obtain ⟨m2, hm2, hrow⟩ := h.row
  obtain ⟨c0, c1, c2, f1, f2⟩ := row_cells hrow
  obtain ⟨D, hown, hD⟩ := h.words
  obtain ⟨lt1, lt2⟩ := h.lt
  have hne := h.ne
  have hsz := h.good.size_le hD (hown.canon lawU)
  have hv1 : ((v : Int) == 0) = false := by simpa using hv0
  have HR := Lib.hid hrow
  clear hrow
  go_enter Try.func23, Try.ntmps23
  go_wp2_with (first
    | (at_mapUpdate; refine wpList_mapUpdate_in _ rfl _ _ _ 54 rfl 22 22 lawU Try.underlying54 _ bm _ D rfl hown (by unfold maxLen; omega) _ _ _ rfl rfl (keyOf_int_mk Try.underlying22 (wf_u64 hk1)) _ [] (plainElem_int Try.underlying22 (wf_u64 hv)) ?_; intro w1 hown1 hturn1; have hb1 := Lib.hid ((hturn1.grown.block sb lt1 (by simp; omega)).trans HR.out)))
  go_frame
  have hs1 := hg.size_le (hD.put hown.isMap h.good.lt hk hv hv0) (hown1.canon lawU)
  have M1 := Lib.hid (show WordsAt w1 bm (setW g k v) from ⟨_, owns_size hown1, hD.put hown.isMap h.good.lt hk hv hv0⟩)
  have t1 := Lib.hid ((Turn.refl w sb bm).grown hturn1.grown (fun j hj => by cases hj; exact .inr (.inl rfl)))
  obtain ⟨d0, d1, d2, d3, d4⟩ := row_cells hb1.out
  obtain ⟨n1, hn1, hl⟩ : ∃ n1 : Nat, n1 ≤ 274877906944 ∧ ∀ n ty, (Builtin.len_ #[54] ty #[.map (some bm)]).run Try.prog (w1.drewN n) = .ok (.int .i64 (n1 : Int)) (w1.drewN n) := ⟨_, hs1, fun n ty => (show (w1.drewN n).ownsMap Try.prog 22 (plainElem Try.prog 22) bm _ _ from hown1).len Try.underlying54 ty⟩
  have hl0 : ∀ ty, (Builtin.len_ #[54] ty #[.map (some bm)]).run Try.prog w1.drew = .ok (.int .i64 (n1 : Int)) w1.drew := fun ty => hl 1 ty
  clear hl hs1 hown1 hturn1 c0 c1 c2 f1 f2 hown hD hv0
  go_region
  go_end0
  refine ⟨rfl, bm, ⟨⟨if m2 < n1 then n1 else m2, by split <;> omega, ?_⟩, ?_, hg⟩, .inl rfl, ?_⟩
  · show ((w1.setCell _ _).drew).heap[sb]? = _
    rw [show (w1.setCell ⟨sb, 2, none⟩ (Value.int IntKind.i64 (if m2 < n1 then (n1 : Int) else (m2 : Int)))).drew.heap[sb]? = _ from heap_set hb1.out _]
    split <;> rfl
  · exact WordsAt.same (w := w1) M1.out (Below.heap_setCell _ _ _ _ hne)
  · exact (t1.out.setCell _ (.inl rfl) _).drew
/-- set: the word stands there. -/
theorem set_nat (sb bm S k v : Nat) (g : Nat → Nat) (w : World) (h : MemAt w sb bm S g) (hk : k % 8 = 0) (hk1 : k < 18446744073709551616) (hv : v < 18446744073709551616) (hg : Good S (setW g k v)) :
    Calls Try.prog 23 #[.pointer (some ⟨sb, 0, none⟩), .int .u64 (k : Int), .int .u64 (v : Int)] w fun e w' => e = .returned (.tuple #[]) ∧ MemTo w w' sb bm S (setW g k v) := by
  by_cases h0 : v = 0
  · subst h0; exact set_zero sb bm S k g w h hk hk1 hg
  · exact set_some sb bm S k v g w h hk hk1 hv h0 hg
theorem set_any (sb bm S : Nat) (k v : Int) (g : Nat → Nat) (w : World) (h : MemAt w sb bm S g) (k0 : 0 ≤ k) (hk : k % 8 = 0) (hk1 : k < 18446744073709551616) (v0 : 0 ≤ v) (hv : v < 18446744073709551616) (hg : Good S (setW g k.toNat v.toNat)) :
    Calls Try.prog 23 #[.pointer (some ⟨sb, 0, none⟩), .int .u64 k, .int .u64 v] w fun e w' => e = .returned (.tuple #[]) ∧ MemTo w w' sb bm S (setW g k.toNat v.toNat) := by
  have := set_nat sb bm S k.toNat v.toNat g w h (by omega) (by omega) (by omega) hg
  rwa [Int.toNat_of_nonneg k0, Int.toNat_of_nonneg v0] at this
end Go.Proofs.Ytmhgofhclckdpaa.Mem
