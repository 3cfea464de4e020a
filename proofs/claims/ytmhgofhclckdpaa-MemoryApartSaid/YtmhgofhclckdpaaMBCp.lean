/-
  Contract of Copy of the document's answer for memory. Conditions: the bytes are in the memory, or there are none.
-/
import Derived.Test.YtmhgofhclckdpaaMBWord
namespace Go.Proofs.Ytmhgofhclckdpaa.Mem
open Go.ChangeShapes Go.WideShapes Go.ChangeAt Go.RowKit Go.Maps
set_option maxHeartbeats 400000
/-- The bytes g, but those from t on are those of g from f on that are at the addresses ks, the others 0. -/
def cpK (g : Nat → Nat) (f t n : Nat) (ks : List Nat) : Nat → Nat := fun x => if t ≤ x ∧ x < t + n then (if x - t + f ∈ ks then g (x - t + f) else 0) else g x
theorem cpK_nil (g : Nat → Nat) (f t n : Nat) : cpK g f t n [] = clr g t n := by funext x; simp [cpK, clr]
theorem getL_none' {l : List (Nat × Nat)} {a : Nat} (h : a ∉ l.map Prod.fst) : getL l a = 0 := by
  induction l with
  | nil => rfl
  | cons p r ih =>
    simp only [List.map_cons, List.mem_cons, not_or] at h
    simp only [getL]; rw [if_neg (fun e => h.1 e.symm)]; exact ih h.2
theorem cpK_all {S : Nat} {g : Nat → Nat} {l : List (Nat × Nat)} (h : Rel S g l) (f t n : Nat) : cpK g f t n (l.map Prod.fst) = cp g f t n := by
  funext x
  unfold cpK cp
  by_cases hx : t ≤ x ∧ x < t + n
  · rw [if_pos hx, if_pos hx]
    by_cases hm : x - t + f ∈ l.map Prod.fst
    · rw [if_pos hm]
    · rw [if_neg hm, ← h.get, getL_none' hm]
  · rw [if_neg hx, if_neg hx]
theorem cpK_yes {S : Nat} {g : Nat → Nat} {l : List (Nat × Nat)} (h : Rel S g l) {f t n k b : Nat} {ks : List Nat} (hm : (k, b) ∈ l) (h1 : f ≤ k) (h2 : k - f < n) : setB (cpK g f t n ks) (t + k - f) b = cpK g f t n (ks ++ [k]) := by
  have hg : g k = b := by rw [← h.get]; exact h.tidy.get hm
  funext x; unfold setB cpK
  by_cases e : x = t + k - f
  · have e1 : x - t + f = k := by omega
    rw [if_pos e, if_pos (by omega), e1, if_pos (by simp), hg]
  · rw [if_neg e]
    by_cases hx : t ≤ x ∧ x < t + n
    · have e1 : x - t + f ≠ k := by omega
      rw [if_pos hx, if_pos hx]; simp [e1]
    · rw [if_neg hx, if_neg hx]
theorem cpK_no {g : Nat → Nat} {f t n k : Nat} {ks : List Nat} (h : ¬ (f ≤ k ∧ k - f < n)) : cpK g f t n (ks ++ [k]) = cpK g f t n ks := by
  funext x; unfold cpK
  by_cases hx : t ≤ x ∧ x < t + n
  · have e1 : x - t + f ≠ k := by omega
    rw [if_pos hx, if_pos hx]; simp [e1]
  · rw [if_neg hx, if_neg hx]
/-- The loop of Copy. -/
structure CpAt (w wr : World) (S ob : Nat) (v : Value) (g : Nat → Nat) : Prop where
  below : Below w.heap.size w wr
  m : wr.heap[w.heap.size]? = some (.cells #[.int .u64 (S : Int), v] 35 (0, 0))
  r : wr.heap[w.heap.size + 1]? = some (.cells #[.int .u64 0, .slice none 0 0] 35 (0, 0))
  o : ∃ u, wr.heap[ob]? = some (.cells #[.int .u64 (S : Int), u] 35 (0, 0)) ∧ HasL wr S g u
  lt : w.heap.size + 1 < ob
theorem copy_rel (S f t n : Nat) (g : Nat → Nat) (v : Value) (w : World) (h : HasL w S g v) (f1 : f < 18446744073709551616) (t1 : t < 18446744073709551616) (hn : n = 0 ∨ (f + n ≤ S ∧ t + n ≤ S)) :
    Calls Try.prog 31 #[.agg #[.int .u64 (S : Int), v], .int .u64 (f : Int), .int .u64 (t : Int), .int .u64 (n : Int)] w (GivesR w S (cp g f t n)) := by
  obtain ⟨ao, cap, l, rfl, ho, hr⟩ := h
  have hS := hr.good.le
  have hlen := hr.few
  have F0 := Flt.start w S (.slice ao l.length cap)
  have hL : HasL w S g (.slice ao l.length cap) := ⟨ao, cap, l, rfl, ho, hr⟩
  have hL1 := hL.below F0.below
  have C := Lib.hid (fun W h => clear_rel S g (t : Int) (n : Int) (.slice ao l.length cap) W h (by omega) (by omega) (by omega) (by omega))
  go_enter Try.func31, Try.ntmps31
  go_wp2_with (go_at_call 30; refine (C.out _ hL1).mono ?_; rintro e w1 ⟨v1, rfl, hL2, hb2⟩; obtain ⟨ao1, n1, cap1, rfl⟩ := hL2.shape)
  have z1 := hb2.size
  simp at z1
  have C0 : CpAt w (w1.alloc (.cells #[.int .u64 (S : Int), .slice ao1 n1 cap1] 35)) S w1.heap.size (.slice ao l.length cap) (cpK g f t n ((l.take 0).map Prod.fst)) := by
    rw [List.take_zero, List.map_nil, cpK_nil]
    rw [Int.toNat_natCast, Int.toNat_natCast] at hL2
    have bl := F0.below.trans (hb2.mono F0.below.size)
    refine ⟨bl.alloc bl.size _, ?_, ?_, ⟨_, heap_alloc_new _ _, hL2.below ((Below.refl _ _).alloc (Nat.le_refl _) _)⟩, by omega⟩
    · exact (Below.heap_alloc _ _ _ (by omega)).trans ((hb2.block _ (by simp; omega)).trans F0.m)
    · exact (Below.heap_alloc _ _ _ (by omega)).trans ((hb2.block _ (by simp)).trans F0.r)
  generalize w1.heap.size = ob at C0 ⊢
  clear hL hL1 hL2 F0 C z1 hb2
  go_loopw [10] (fun i wr => ∃ k : Nat, k ≤ l.length ∧ i = .int .i64 (k : Int) ∧ CpAt w wr S ob (.slice ao l.length cap) (cpK g f t n ((l.take k).map Prod.fst))) (fun i _ => l.length - (intOf i).toNat)
  case atStart => exact ⟨0, by omega, rfl, C0⟩
  case round =>
    obtain ⟨k, hk, rfl, C⟩ := hrel
    clear C0
    obtain ⟨u, ho1, hL⟩ := C.o
    obtain ⟨ao', n', cap', rfl⟩ := hL.shape
    have olt := C.lt
    have m1 : wr.cell? ⟨w.heap.size, 0, none⟩ = some (.int .u64 (S : Int)) := by simp [World.cell?, C.m]
    have m2 : wr.cell? ⟨w.heap.size, 1, none⟩ = some (.slice ao l.length cap) := by simp [World.cell?, C.m]
    have r1 : wr.cell? ⟨w.heap.size + 1, 0, none⟩ = some (.int .u64 0) := by simp [World.cell?, C.r]
    have r2 : wr.cell? ⟨w.heap.size + 1, 1, none⟩ = some (.slice none 0 0) := by simp [World.cell?, C.r]
    have r3 : wr.frozen? ⟨w.heap.size + 1, 0, none⟩ = false := by simp [World.frozen?, C.r]
    have r4 : wr.frozen? ⟨w.heap.size + 1, 1, none⟩ = false := by simp [World.frozen?, C.r]
    have o1 : wr.cell? ⟨ob, 0, none⟩ = some (.int .u64 (S : Int)) := by simp [World.cell?, ho1]
    have o2 : wr.cell? ⟨ob, 1, none⟩ = some (.slice ao' n' cap') := by simp [World.cell?, ho1]
    have HO := Lib.hid ho1
    clear ho1
    by_cases hlt : (k : Int) < (l.length : Int)
    · obtain ⟨gb, x, y, rfl, hkb, c1, c2⟩ := rowB_at (own_below ho C.below) k (by omega)
      have hmem := List.mem_of_getElem? hkb
      have xS := hr.lt _ hmem
      have y2 := (hr.tidy.nz _ hmem).2
      have HK := Lib.hid (take_keys hkb)
      have HMEM := Lib.hid hmem
      simp only at xS y2
      clear hkb hmem
      by_cases q1 : (f : Int) ≤ (x : Int)
      · by_cases q2 : (x : Int) - (f : Int) < (n : Int)
        · have YES := Lib.hid (cpK_yes hr (t := t) (ks := (l.take k).map Prod.fst) HMEM.out (show f ≤ x by omega) (show x - f < n by omega))
          go_wp2_with fail
          go_still_tail 17, (by kernel_rfl)
          change wpList _ _ _ _ _ wr.drew
          have hLD : HasL wr.drew S (cpK g f t n ((l.take k).map Prod.fst)) (.slice ao' n' cap') := hL
          have bD : Below w.heap.size w wr.drew := C.below.drew
          have mD : wr.drew.heap[w.heap.size]? = _ := C.m
          have rD : wr.drew.heap[w.heap.size + 1]? = _ := C.r
          have oD : wr.drew.heap[ob]? = _ := HO.out
          generalize wr.drew = W at hLD bD mD rD oD ⊢
          have MD := Lib.hid mD
          have RD := Lib.hid rD
          have OD := Lib.hid oD
          clear mD rD oD m1 m2 r1 r2 r3 r4 o1 o2 c1 c2 hL HO C
          go_wp2_with fail
          refine (put_rel S _ _ _ _ _ hLD (by omega) (by omega) (by omega) (by omega)).mono ?_
          rintro e w2 ⟨v2, rfl, hL2, hb2⟩
          rw [show ((t : Int) + (x : Int) - (f : Int)).toNat = t + x - f by omega, Int.toNat_natCast, YES.out, ← HK.out] at hL2
          obtain ⟨ao2, n2, cap2, rfl⟩ := hL2.shape
          have ho2 := (hb2.block _ (lt_of_block OD.out)).trans OD.out
          obtain ⟨st1, st2⟩ := hL2.store ho2
          have s1 : w2.cell? ⟨ob, 0, none⟩ = some (.int .u64 (S : Int)) := by simp [World.cell?, ho2]
          have s2 : w2.cell? ⟨ob, 1, none⟩ = some (.slice ao' n' cap') := by simp [World.cell?, ho2]
          have s3 : w2.frozen? ⟨ob, 0, none⟩ = false := by simp [World.frozen?, ho2]
          have s4 : w2.frozen? ⟨ob, 1, none⟩ = false := by simp [World.frozen?, ho2]
          have bl := bD.trans (hb2.mono bD.size)
          have far : ∀ (i : Nat) (c : Array Value), i ≠ ob → W.heap[i]? = some (.cells c 35 (0, 0)) → ((w2.setCell ⟨ob, 0, none⟩ (.int .u64 (S : Int))).setCell ⟨ob, 1, none⟩ (.slice ao2 n2 cap2)).heap[i]? = some (.cells c 35 (0, 0)) := fun i c hne hi =>
            (Below.heap_setCell _ _ _ _ hne).trans ((Below.heap_setCell _ _ _ _ hne).trans ((hb2.block _ (lt_of_block hi)).trans hi))
          have ST := Lib.hid (show CpAt w ((w2.setCell ⟨ob, 0, none⟩ (.int .u64 (S : Int))).setCell ⟨ob, 1, none⟩ (.slice ao2 n2 cap2)) S ob (.slice (some ⟨gb, 0, none⟩) l.length cap) (cpK g f t n ((l.take (k + 1)).map Prod.fst)) from
            ⟨(bl.setCell (by simp; omega) _).setCell (by simp; omega) _, far _ _ (by omega) MD.out, far _ _ (by omega) RD.out, ⟨_, st1, st2⟩, olt⟩)
          clear ho2 st1 far
          go_wp2
          go_roundw
          case rel => exact ⟨k + 1, by omega, by go_num, ST.out⟩
          case measure => simp [intOf]; omega
        · have NO := Lib.hid (cpK_no (g := g) (t := t) (ks := (l.take k).map Prod.fst) (show ¬ (f ≤ x ∧ x - f < n) by omega))
          go_wp2
          go_roundw
          case rel => exact ⟨k + 1, by omega, by go_num, by rw [HK.out, NO.out]; exact C⟩
          case measure => simp [intOf]; omega
      · have NO := Lib.hid (cpK_no (g := g) (t := t) (ks := (l.take k).map Prod.fst) (show ¬ (f ≤ x ∧ x - f < n) by omega))
        go_wp2
        go_roundw
        case rel => exact ⟨k + 1, by omega, by go_num, by rw [HK.out, NO.out]; exact C⟩
        case measure => simp [intOf]; omega
    · obtain rfl : k = l.length := by omega
      rw [List.take_length, cpK_all hr] at hL
      obtain ⟨st1, st2⟩ := hL.store C.r
      have ST1 := Lib.hid st1
      have bl := (C.below.setCell (p := ⟨w.heap.size + 1, 0, none⟩) (by simp) (.int .u64 (S : Int))).setCell (p := ⟨w.heap.size + 1, 1, none⟩) (by simp) (.slice ao' n' cap')
      clear st1 C
      go_wp2
      exact bodyPost_ret (results_cell_row rfl _ _ _ _ #[.int .u64 (S : Int), .slice ao' n' cap'] (0, 0) _ rfl ST1.out Try.underlying35 (by kernel_rfl) (by kernel_rfl)) rfl ⟨_, rfl, st2, bl⟩
end Go.Proofs.Ytmhgofhclckdpaa.Mem
