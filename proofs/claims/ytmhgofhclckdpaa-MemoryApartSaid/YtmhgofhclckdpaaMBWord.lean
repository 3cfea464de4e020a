/-
  Contracts of Put, PutWord, Clear of the document's answer for memory, by the bytes that a list has. Conditions: the bytes are in the memory.
-/
import Derived.Test.YtmhgofhclckdpaaMBClr
namespace Go.Proofs.Ytmhgofhclckdpaa.Mem
open Go.ChangeShapes Go.WideShapes Go.ChangeAt Go.RowKit Go.Maps
set_option maxHeartbeats 400000
theorem own_mono {w : World} {B B' e z n : Nat} {v : Value} {xs : List Value} (h : w.ownsRow B e z v n xs) (hB : B' ≤ B) : w.ownsRow B' e z v n xs := by
  refine ⟨h.1, ?_⟩
  rcases h.2 with hn | ⟨g, cap, cur, rfl, hb2, hg, rest⟩
  · exact .inl hn
  · exact .inr ⟨g, cap, cur, rfl, Nat.le_trans hB hb2, hg, rest⟩
/-- In w the slice is a list of the bytes g. -/
def HasL (w : World) (S : Nat) (g : Nat → Nat) (v : Value) : Prop := ∃ ao cap l, v = .slice ao l.length cap ∧ w.ownsRow 0 69 2 (.slice ao l.length cap) l.length (flatB l) ∧ Rel S g l
theorem HasL.below {w w' : World} {S : Nat} {g : Nat → Nat} {v : Value} (h : HasL w S g v) (hb : Below w.heap.size w w') : HasL w' S g v := by
  obtain ⟨ao, cap, l, h1, h2, h3⟩ := h
  exact ⟨ao, cap, l, h1, own_below h2 hb, h3⟩
theorem HasL.shape {w : World} {S : Nat} {g : Nat → Nat} {v : Value} (h : HasL w S g v) : ∃ ao n cap, v = .slice ao n cap := by
  obtain ⟨ao, cap, l, h1, _⟩ := h; exact ⟨_, _, _, h1⟩
/-- A memory of the document with the bytes g is answered. -/
def GivesR (w : World) (S : Nat) (g : Nat → Nat) (e : Ending) (w' : World) : Prop := ∃ v, e = .returned (.agg #[.int .u64 (S : Int), v]) ∧ HasL w' S g v ∧ Below w.heap.size w w'
theorem GivesL.rel {w w' : World} {S : Nat} {g : Nat → Nat} {P : List (Nat × Nat)} {e : Ending} (h : GivesL w S P e w') (hr : Rel S g P) : GivesR w S g e w' := by
  obtain ⟨ao, cap, h1, h2, h3⟩ := h
  exact ⟨_, h1, ⟨ao, cap, P, rfl, own_mono h2 (Nat.zero_le _), hr⟩, h3⟩
theorem Rel.lt {S : Nat} {g : Nat → Nat} {l : List (Nat × Nat)} (h : Rel S g l) : ∀ p ∈ l, p.1 < S := fun p hp => by
  have h1 := h.tidy.get hp
  rw [h.get] at h1
  have h2 := (h.tidy.nz p hp).1
  rcases Nat.lt_or_ge p.1 S with h4 | h4
  · exact h4
  · exact absurd (h1.symm.trans (h.good.out _ h4)) h2
theorem put_rel (S : Nat) (g : Nat → Nat) (a b : Int) (v : Value) (w : World) (h : HasL w S g v) (a0 : 0 ≤ a) (a1 : a < S) (b0 : 0 ≤ b) (b1 : b < 256) :
    Calls Try.prog 28 #[.agg #[.int .u64 (S : Int), v], .int .u64 a, .int .u8 b] w (GivesR w S (setB g a.toNat b.toNat)) := by
  obtain ⟨ao, cap, l, rfl, ho, hr⟩ := h
  have := rput_any S 0 a.toNat b.toNat cap ao l w ho (by have := hr.few; omega)
  rw [Int.toNat_of_nonneg a0, Int.toNat_of_nonneg b0] at this
  exact this.mono fun e w' hg => hg.rel (hr.put (by omega) (by omega))
theorem clear_rel (S : Nat) (g : Nat → Nat) (a n : Int) (v : Value) (w : World) (h : HasL w S g v) (a0 : 0 ≤ a) (a1 : a < 18446744073709551616) (n0 : 0 ≤ n) (n1 : n < 18446744073709551616) :
    Calls Try.prog 30 #[.agg #[.int .u64 (S : Int), v], .int .u64 a, .int .u64 n] w (GivesR w S (clr g a.toNat n.toNat)) := by
  obtain ⟨ao, cap, l, rfl, ho, hr⟩ := h
  have hS := hr.good.le
  have := rclear_any S 0 a.toNat n.toNat cap ao l w ho (by have := hr.few; omega) (fun p hp => by have := hr.lt p hp; omega) (by omega) (by omega)
  rw [Int.toNat_of_nonneg a0, Int.toNat_of_nonneg n0] at this
  exact this.mono fun e w' hg => hg.rel (hr.clr _ _)
theorem get_rel (S : Nat) (g : Nat → Nat) (a : Int) (v : Value) (w : World) (h : HasL w S g v) (a0 : 0 ≤ a) :
    Calls Try.prog 36 #[.agg #[.int .u64 (S : Int), v], .int .u64 a] w fun e w' => e = .returned (.int .u8 ((g a.toNat : Nat) : Int)) ∧ Below w.heap.size w w' := by
  obtain ⟨ao, cap, l, rfl, ho, hr⟩ := h
  have := rget_any S 0 a.toNat cap ao l w ho (by have := hr.few; omega)
  rw [Int.toNat_of_nonneg a0, hr.get] at this
  exact this
theorem word_rel (S : Nat) (g : Nat → Nat) (a : Int) (v : Value) (w : World) (h : HasL w S g v) (a0 : 0 ≤ a) (a1 : a + 8 ≤ 18446744073709551616) :
    Calls Try.prog 37 #[.agg #[.int .u64 (S : Int), v], .int .u64 a] w fun e w' => e = .returned (.int .u64 ((word g a.toNat : Nat) : Int)) ∧ Below w.heap.size w w' := by
  obtain ⟨ao, cap, l, rfl, ho, hr⟩ := h
  have := rword_any S 0 a.toNat cap ao l w ho (by have := hr.few; omega) (fun p hp => (hr.tidy.nz p hp).2) (by omega)
  rw [Int.toNat_of_nonneg a0, show getL l = g from funext hr.get] at this
  exact this
/-- The bytes g, but those of the word at a are x's from byte k on. -/
def putK (g : Nat → Nat) (a x k : Nat) : Nat → Nat := fun y => if a + k ≤ y ∧ y < a + 8 then byteW x (y - a) else g y
theorem putK_8 (g : Nat → Nat) (a x : Nat) : putK g a x 8 = g := by funext y; unfold putK; rw [if_neg (by omega)]
theorem putK_0 (g : Nat → Nat) (a x : Nat) : putK g a x 0 = setW g a x := rfl
theorem putK_step (g : Nat → Nat) (a x k : Nat) (hk : k < 8) : setB (putK g a x (k + 1)) (a + k) (byteW x k) = putK g a x k := by
  funext y; unfold setB putK
  by_cases e : y = a + k
  · rw [if_pos e, if_pos (by omega)]; congr 1; omega
  · rw [if_neg e]
    by_cases h : a + (k + 1) ≤ y ∧ y < a + 8
    · rw [if_pos h, if_pos (by omega)]
    · rw [if_neg h, if_neg (by omega)]
theorem HasL.set {w : World} {S b o : Nat} {g : Nat → Nat} {v u : Value} {c : Array Value} (h : HasL w S g v) (hb : w.heap[b]? = some (.cells c 35 (0, 0))) : HasL (w.setCell ⟨b, o, none⟩ u) S g v := by
  obtain ⟨ao, cap, l, rfl, h2, h3⟩ := h
  exact ⟨ao, cap, l, rfl, ownsRow_setCell_other h2 (own_ne h2 hb (by decide)) u, h3⟩
/-- A memory of the document is stored. -/
theorem HasL.store {w : World} {S b : Nat} {g : Nat → Nat} {v : Value} {x y : Value} (h : HasL w S g v) (hb : w.heap[b]? = some (.cells #[x, y] 35 (0, 0))) :
    ((w.setCell ⟨b, 0, none⟩ (.int .u64 (S : Int))).setCell ⟨b, 1, none⟩ v).heap[b]? = some (.cells #[.int .u64 (S : Int), v] 35 (0, 0)) ∧ HasL ((w.setCell ⟨b, 0, none⟩ (.int .u64 (S : Int))).setCell ⟨b, 1, none⟩ v) S g v := by
  have h1 := heap_set hb (o := 0) (.int .u64 (S : Int))
  have h2 := heap_set h1 (o := 1) v
  exact ⟨by rw [h2]; rfl, (h.set hb).set h1⟩
theorem div_step (x j : Nat) (hj : j < 8) : x / 2 ^ (8 * (8 - (j + 1))) / 256 = x / 2 ^ (8 * (8 - j)) := by
  rw [show (256 : Nat) = 2 ^ 8 from rfl, Nat.div_div_eq_div_mul, ← Nat.pow_add]; congr 2; omega
theorem div_byte (x j : Nat) (hj : j < 8) : x / 2 ^ (8 * (8 - (j + 1))) % 256 = byteW x j := by
  unfold byteW; congr 3; omega
/-- The loop of PutWord. -/
structure PwAt (w wr : World) (S : Nat) (g : Nat → Nat) : Prop where
  below : Below w.heap.size w wr
  m : ∃ v, wr.heap[w.heap.size]? = some (.cells #[.int .u64 (S : Int), v] 35 (0, 0)) ∧ HasL wr S g v
  r : wr.heap[w.heap.size + 1]? = some (.cells #[.int .u64 0, .slice none 0 0] 35 (0, 0))
theorem putWord_rel (S a x : Nat) (g : Nat → Nat) (v : Value) (w : World) (h : HasL w S g v) (ha : a + 8 ≤ S) (hx : x < 18446744073709551616) :
    Calls Try.prog 29 #[.agg #[.int .u64 (S : Int), v], .int .u64 (a : Int), .int .u64 (x : Int)] w (GivesR w S (setW g a x)) := by
  have hS : S ≤ 2199023255552 := by obtain ⟨_, _, _, _, _, hr⟩ := h; exact hr.good.le
  obtain ⟨ao, n, cap, rfl⟩ := h.shape
  have P0 : PwAt w ((w.alloc (.cells #[.int .u64 (S : Int), .slice ao n cap] 35)).alloc (.cells #[.int .u64 0, .slice none 0 0] 35)) S (putK g a x 8) := by
    rw [putK_8]
    have F := Flt.start w S (.slice ao n cap)
    exact ⟨F.below, ⟨_, F.m, h.below F.below⟩, F.r⟩
  go_enter Try.func29, Try.ntmps29
  go_wp2
  go_loopw [2, 7] (fun y i wr => ∃ k : Nat, k ≤ 8 ∧ i = .int .u64 (k : Int) ∧ y = .int .u64 ((x / 2 ^ (8 * (8 - k)) : Nat) : Int) ∧ PwAt w wr S (putK g a x k)) (fun _ i _ => (intOf i).toNat)
  case atStart => exact ⟨8, by omega, rfl, by simp, P0⟩
  case round =>
    obtain ⟨k, hk, rfl, rfl, P⟩ := hrel
    clear P0 h
    obtain ⟨v', hm, hL⟩ := P.m
    obtain ⟨ao', n', cap', rfl⟩ := hL.shape
    have m1 : wr.cell? ⟨w.heap.size, 0, none⟩ = some (.int .u64 (S : Int)) := by simp [World.cell?, hm]
    have m2 : wr.cell? ⟨w.heap.size, 1, none⟩ = some (.slice ao' n' cap') := by simp [World.cell?, hm]
    have r1 : wr.cell? ⟨w.heap.size + 1, 0, none⟩ = some (.int .u64 0) := by simp [World.cell?, P.r]
    have r2 : wr.cell? ⟨w.heap.size + 1, 1, none⟩ = some (.slice none 0 0) := by simp [World.cell?, P.r]
    have r3 : wr.frozen? ⟨w.heap.size + 1, 0, none⟩ = false := by simp [World.frozen?, P.r]
    have r4 : wr.frozen? ⟨w.heap.size + 1, 1, none⟩ = false := by simp [World.frozen?, P.r]
    have HM := Lib.hid hm
    clear hm
    by_cases h0 : 0 < k
    · obtain ⟨j, rfl⟩ : ∃ j, k = j + 1 := ⟨k - 1, by omega⟩
      have DS := Lib.hid (div_step x j (by omega))
      have DB := Lib.hid (div_byte x j (by omega))
      have PS := Lib.hid (putK_step g a x j (by omega))
      have yl : x / 2 ^ (8 * (8 - (j + 1))) < 18446744073709551616 := Nat.lt_of_le_of_lt (Nat.div_le_self _ _) hx
      generalize x / 2 ^ (8 * (8 - (j + 1))) = y at DS DB yl
      go_wp2_with fail
      refine (put_rel S _ _ _ _ _ hL (by omega) (by omega) (by omega) (by omega)).mono ?_
      rintro e w' ⟨v2, rfl, hL2, hb2⟩
      rw [show ((a : Int) + ((j : Int) + 1) - 1).toNat = a + j by omega, show ((y : Int) % 256).toNat = y % 256 by omega, DB.out, PS.out] at hL2
      obtain ⟨ao2, n2, cap2, rfl⟩ := hL2.shape
      have hm2 := (hb2.block _ (lt_of_block HM.out)).trans HM.out
      have hr2 := (hb2.block _ (lt_of_block P.r)).trans P.r
      obtain ⟨st1, st2⟩ := hL2.store hm2
      have s1 : w'.cell? ⟨w.heap.size, 0, none⟩ = some (.int .u64 (S : Int)) := by simp [World.cell?, hm2]
      have s2 : w'.cell? ⟨w.heap.size, 1, none⟩ = some (.slice ao' n' cap') := by simp [World.cell?, hm2]
      have s3 : w'.frozen? ⟨w.heap.size, 0, none⟩ = false := by simp [World.frozen?, hm2]
      have s4 : w'.frozen? ⟨w.heap.size, 1, none⟩ = false := by simp [World.frozen?, hm2]
      have bl := P.below.trans (hb2.mono P.below.size)
      have ST := Lib.hid (show PwAt w ((w'.setCell ⟨w.heap.size, 0, none⟩ (.int .u64 (S : Int))).setCell ⟨w.heap.size, 1, none⟩ (.slice ao2 n2 cap2)) S (putK g a x j) from
        ⟨(bl.setCell (Nat.le_refl _) _).setCell (Nat.le_refl _) _, ⟨_, st1, st2⟩, (Below.heap_setCell _ _ _ _ (by simp)).trans ((Below.heap_setCell _ _ _ _ (by simp)).trans hr2)⟩)
      clear hm2 hr2 st1 m1 m2 r1 r2 r3 r4
      go_wp2
      go_roundw
      case rel => exact ⟨j, by omega, by go_num, by rw [← DS.out]; go_num, ST.out⟩
      case measure => simp [intOf]
    · obtain rfl : k = 0 := by omega
      rw [putK_0] at hL
      have s3 := HM.out
      have HR := Lib.hid P.r
      obtain ⟨st1, st2⟩ := hL.store P.r
      have ST1 := Lib.hid st1
      have bl := (P.below.setCell (p := ⟨w.heap.size + 1, 0, none⟩) (by simp) (.int .u64 (S : Int))).setCell (p := ⟨w.heap.size + 1, 1, none⟩) (by simp) (.slice ao' n' cap')
      clear s3 st1 P
      go_wp2
      exact bodyPost_ret (results_cell_row rfl _ _ _ _ #[.int .u64 (S : Int), .slice ao' n' cap'] (0, 0) _ rfl ST1.out Try.underlying35 (by kernel_rfl) (by kernel_rfl)) rfl ⟨_, rfl, st2, bl⟩
end Go.Proofs.Ytmhgofhclckdpaa.Mem
