/-
  Contract of pieces of package memory: the words that have a byte in range that is not 0, each once, in whatever row. Conditions: the bytes are in the memory.
-/
import Derived.Test.YtmhgofhclckdpaaMPieces
namespace Go.Proofs.Ytmhgofhclckdpaa.Mem
open Go.ChangeShapes Go.WideShapes Go.ChangeAt Go.RowKit Go.Maps
set_option maxHeartbeats 400000
/-- A list of pieces that was made since w. -/
def Lst (w w' : World) (v : Value) (P : List (Nat × Nat)) : Prop := w'.ownsRow w.heap.size 62 2 v P.length (flat P) ∧ Below w.heap.size w w'
def GetsL (w : World) (g : Nat → Nat) (a n : Nat) (e : Ending) (w' : World) : Prop := ∃ v P, e = .returned v ∧ Lst w w' v P ∧ All g a n P
theorem pieces_none (sb a : Nat) (g : Nat → Nat) (w : World) :
    Calls Try.prog 26 #[.pointer (some ⟨sb, 0, none⟩), .int .u64 (a : Int), .int .u64 0] w (GetsL w g a 0) := by
  go_enter Try.func26, Try.ntmps26
  go_wp2
  go_ret
  refine ⟨_, [], rfl, ⟨World.ownsRow_nil _ _ _ _, ?_⟩, Some.nil (fun k _ h => absurd (word_eq_zero (fun j _ => by unfold cut; rw [if_neg (by omega)])) h)⟩
  exact ((Below.refl _ _).alloc (Nat.le_refl _) _).alloc (by simp) _
theorem Cap.start (w : World) (a l : Nat) (x : Int) (hx : x = (l : Int)) : Cap w (((w.alloc (.cells #[.int .u64 (a : Int)] 22)).alloc (.cells #[.slice none 0 0] 59)).alloc (.cells #[.int .u64 x] 22)) w.heap.size (w.heap.size + 1 + 1) (w.heap.size + 1) a l [] where
  below := (((Below.refl _ _).alloc (Nat.le_refl _) _).alloc (by simp) _).alloc (by simp; omega) _
  ca := by
    rw [Below.heap_alloc _ _ _ (by simp; omega), Below.heap_alloc _ _ _ (by simp)]
    exact heap_alloc_new _ _
  cl := by
    subst hx
    have := heap_alloc_new ((w.alloc (.cells #[.int .u64 (a : Int)] 22)).alloc (.cells #[.slice none 0 0] 59)) (.cells #[.int .u64 (l : Int)] 22)
    simpa using this
  cv := by
    refine ⟨.slice none 0 0, ?_, World.ownsRow_nil _ _ _ _⟩
    rw [Below.heap_alloc _ _ _ (by simp)]
    have := heap_alloc_new (w.alloc (.cells #[.int .u64 (a : Int)] 22)) (.cells #[.slice none 0 0] 59)
    simpa using this
  hv := by omega
theorem pieces_few (sb bm S a n l : Nat) (g : Nat → Nat) (w : World) (h : MemAt w sb bm S g) (hn : 0 < n) (ha : a + n ≤ S) (hl : a + n = l + 1) :
    Calls Try.prog 26 #[.pointer (some ⟨sb, 0, none⟩), .int .u64 (a : Int), .int .u64 (n : Int)] w (GetsL w g a n) := by
  obtain ⟨m2, hm2, c0, c1, c2, f1, f2⟩ := h.cells
  have hS := h.good.le
  obtain ⟨D, hown, hD⟩ := h.words
  obtain ⟨lt1, lt2⟩ := h.lt
  have hsz := h.good.size_le hD (hown.canon lawU)
  have hx : (a : Int) + (n : Int) - 1 = (l : Int) := by omega
  have C0 := Cap.start w a l ((a : Int) + (n : Int) - 1) hx
  generalize hx2 : (a : Int) + (n : Int) - 1 = x at C0
  have cW := (C0.below.cell (p := ⟨sb, 1, none⟩) lt1).trans c1
  have hoW : (((w.alloc (.cells #[.int .u64 (a : Int)] 22)).alloc (.cells #[.slice none 0 0] 59)).alloc (.cells #[.int .u64 x] 22)).ownsMap Try.prog 22 (plainElem Try.prog 22) bm (Maps.size D) D := ((hown.alloc _).alloc _).alloc _
  have hlW := fun ty => hoW.len Try.underlying54 ty
  have MC := fun k => Lib.hid (mask_cut h.good.lt a n k hn)
  have ML : a + n - 1 = l := by omega
  rw [ML] at MC
  have HX := Lib.hid hx
  clear hx ML
  by_cases q : (n : Int) / 8 < (Maps.size D : Int)
  · go_enter Try.func26, Try.ntmps26
    go_wp2_with (go_at_call 24; refine (wordOf_any _ (by omega) (by omega) _).mono ?_; rintro e w' ⟨rfl, rfl⟩)
    have gt := h.good.lt
    clear hlW hx2
    go_loopw [10] (fun i wr => ∃ k : Nat, i = .int .u64 (k : Int) ∧ k % 8 = 0 ∧ k ≤ l + 8 ∧ ∃ P, Cap w wr w.heap.size (w.heap.size + 1 + 1) (w.heap.size + 1) a l P ∧ Some g a n (fun y => y < k) P) (fun i _ => l + 9 - (intOf i).toNat)
    case atStart =>
      exact ⟨a - a % 8, congrArg (Value.int .u64) (by omega), by omega, by omega, [], C0, Some.nil (fun k h1 h2 => by have := (cut_word gt h2).1; omega)⟩
    case round =>
      obtain ⟨k, rfl, hk8, hkl, P, C, hP⟩ := hrel
      have d1 := cell_of_one C.cl
      have d2 := (C.below.cell (p := ⟨sb, 1, none⟩) lt1).trans c1
      by_cases hlt : (k : Int) ≤ (l : Int)
      · have hlook := (h.words.same (C.below.block bm lt2)).look (k : Int) (by omega) (by omega) (by omega)
        have hPl := hP.few h.good
        have wl := word_lt g gt k
        go_wp2_with (go_at_call 34; refine (piece_any w _ _ _ _ a l P C k (word g k) (by omega) (by omega) (by omega) wl (by omega)).mono ?_; rintro e w' ⟨rfl, C2, _⟩)
        go_roundw
        case rel =>
          rw [(MC k).out] at C2
          exact ⟨k + 8, by go_num, by omega, by omega, _, C2, hP.add k hk8 (by omega) (fun k' h8 => by omega)⟩
        case measure => simp [intOf]; omega
      · obtain ⟨v, cv, ho⟩ := C.cv
        obtain ⟨ao, cap, rfl⟩ := own_shape ho
        have d3 := cell_of_one cv
        go_wp2
        go_ret
        exact ⟨_, P, rfl, ⟨ho, C.below⟩, hP.cong (fun k' h1 h2 => ⟨fun _ => trivial, fun _ => by have := (cut_word gt h2).2.1; omega⟩)⟩
  · have e1 : (((w.alloc (.cells #[.int .u64 (a : Int)] 22)).alloc (.cells #[.slice none 0 0] 59)).alloc (.cells #[.int .u64 x] 22)).heap.size = w.heap.size + 1 + 1 + 1 := by simp
    have gt := h.good.lt
    go_enter Try.func26, Try.ntmps26
    go_wp2_with (first | (at_range; refine wpList_range_own _ rfl _ 54 rfl 22 22 lawU Try.underlying54 _ bm _ _ rfl hoW ?_; intro w0 hrg0 hg0 hs0) | go_in)
    rw [e1] at hrg0 hs0
    clear hlW hx2 cW
    have C1 := C0.keep hg0 (fun j hj => by cases hj)
    go_loopw [11] (fun _ wr => ∃ (left : Lit → Bool) (cnt : Nat) (P : List (Nat × Nat)), wr.ranges Try.prog 22 (plainElem Try.prog 22) bm (w.heap.size + 1 + 1 + 1) (Maps.size D) D left cnt ∧ Cap w wr w.heap.size (w.heap.size + 1 + 1) (w.heap.size + 1) a l P ∧ Some g a n (fun y => left (key y) = false) P)
      (fun _ wr => wr.rangeLeft bm (w.heap.size + 1 + 1 + 1))
    case atStart =>
      exact ⟨_, _, [], hrg0, C1, Some.nil (fun k h1 h2 h3 => by rw [hD.nz k h1 (cut_word gt h2).2.2] at h3; cases h3)⟩
    case round =>
      obtain ⟨left, cnt, P, hrg, C, hP⟩ := hrel
      go_wp2_with (first
        | (at_next; refine wpList_next_ranges_ii _ rfl _ rfl 22 22 .u64 .u64 lawU Try.underlying22 Try.underlying22 bm (w.heap.size + 1 + 1 + 1) _ _ _ _ rfl hrg ?_ ?_)
        | go_in)
      · intro hc0 hl0
        obtain ⟨v, cv, ho⟩ := C.cv
        obtain ⟨ao, cap, rfl⟩ := own_shape ho
        have d3 := cell_of_one cv
        go_wp2
        go_ret
        exact ⟨_, P, rfl, ⟨ho, C.below⟩, hP.cong (fun k' h1 h2 => ⟨fun _ => trivial, fun _ => hl0 _⟩)⟩
      · intro y c w1 cnt1 hwx hwc hlx hat hrg1 hlt hg1 hs1 hen
        obtain ⟨k, hk8, hkey, hk0⟩ := hD.has_ _ (has_true_of_atKey hat)
        obtain rfl : y = (k : Int) := by injection hkey
        obtain rfl : c = ((word g k : Nat) : Int) := by
          have := (hat (elt 0)).symm.trans (hD.at_ k hk8)
          injection this with this; injection this
        have hks := h.good.word_in hk0
        have C2 := C.keep hg1 (fun j hj => by cases hj; exact ⟨by omega, ranges_iter hrg⟩)
        have hPl := hP.few h.good
        have wl := word_lt g gt k
        go_wp2_with (go_at_call 34; refine (piece_any w _ _ _ _ a l P C2 k (word g k) (by omega) (by omega) (by omega) wl (by omega)).mono ?_; rintro e w' ⟨rfl, C3, S3⟩)
        have hrg2 := ranges_still hrg1 S3
        rw [(MC k).out] at C3
        go_roundw
        case rel =>
          refine ⟨_, cnt1, _, hrg2, C3, hP.add k hk8 (by rw [hlx]; decide) (fun k' _ => ?_)⟩
          show (left (key k') && !(key k').sameKey (key k)) = false ↔ _
          by_cases e : k' = k
          · subst e; rw [WideAt.sameKey_self keyLit]; simp
          · rw [sameKey_ne (key_ne e)]; simp [e]
        case measure => rw [hrg2.left_eq, hrg.left_eq]; exact hlt
end Go.Proofs.Ytmhgofhclckdpaa.Mem
