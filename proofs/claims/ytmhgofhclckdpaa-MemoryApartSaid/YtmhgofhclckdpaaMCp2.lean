/-
  Contract of Copy of package memory: the bytes stand there as they were ahead, or the error. Conditions: words are below 2 to the 64.
-/
import Derived.Test.YtmhgofhclckdpaaMCp
namespace Go.Proofs.Ytmhgofhclckdpaa.Mem
open Go.ChangeShapes Go.WideShapes Go.ChangeAt Go.RowKit Go.Maps
set_option maxHeartbeats 400000
def cpErr (S : Nat) (f t n : Int) : Int := if mayI S f 1 n = 0 then mayI S t 1 n else mayI S f 1 n
def cpS (S : Nat) (g : Nat → Nat) (f t n : Int) : Nat → Nat := if cpErr S f t n = 0 then cp g f.toNat t.toNat n.toNat else g
/-- The loop of Copy: so many pieces are laid. -/
structure CopyAt (w wr : World) (sb bm S : Nat) (g : Nat → Nat) (f t n : Nat) (v : Value) (P : List (Nat × Nat)) (i : Nat) : Prop where
  mem : MemTo w wr sb bm S (cpP g f t n ((P.take i).map Prod.fst))
  own : wr.ownsRow w.heap.size 62 2 v P.length (flat P)
theorem copy_yes (sb bm S f t n : Nat) (g : Nat → Nat) (w : World) (h : MemAt w sb bm S g) (f1 : f < 18446744073709551616) (t1 : t < 18446744073709551616) (n1 : n < 18446744073709551616) (hmf : mayI S f 1 n = 0) (hmt : mayI S t 1 n = 0) :
    Calls Try.prog 17 #[.pointer (some ⟨sb, 0, none⟩), .int .u64 (f : Int), .int .u64 (t : Int), .int .u64 (n : Int)] w fun e w' => e = .returned (.int .i64 0) ∧ MemTo w w' sb bm S (cp g f t n) := by
  obtain ⟨m2, hm2, c0, c1, c2, g1, g2⟩ := h.cells
  have hS := h.good.le
  obtain ⟨_, q2⟩ := may_zero hmf
  obtain ⟨_, q3⟩ := may_zero hmt
  go_enter Try.func17, Try.ntmps17
  go_wp2_with (first | (go_at_call 22; refine (may_any sb S _ _ _ _ (by omega) (by omega) (by omega) (by omega) (by omega) (by omega) (by omega) (by omega) c0).mono ?_; rintro e w' ⟨rfl, rfl⟩) | (go_at_call 26; refine (pieces_any sb bm S g f n _ h (by omega)).mono ?_; rintro e w1 ⟨v, P, rfl, ⟨ho1, hb1⟩, hP⟩; obtain ⟨ao, cap, rfl⟩ := own_shape ho1; have Mw1 : MemAt w1 sb bm S g := h.same (hb1.block _ h.lt.1) (hb1.block _ h.lt.2)) | (go_at_call 16; refine (clear_yes sb bm S t n g _ Mw1 (by omega) (by omega) hmt).mono ?_; rintro e w2 ⟨rfl, M2⟩))
  have hPl := hP.few h.good
  have tw1 : Turn w w1 sb bm := (Turn.refl w sb bm).below hb1
  go_loopw [38] (fun i wr => ∃ k : Nat, k ≤ P.length ∧ i = .int .i64 (k : Int) ∧ CopyAt w wr sb bm S g f t n (.slice ao P.length cap) P k) (fun i _ => P.length - (intOf i).toNat)
  case atStart =>
    refine ⟨0, by omega, rfl, ⟨?_, ?_⟩⟩
    · rw [List.take_zero, List.map_nil, cpP_nil]
      exact M2.trans (.inl rfl) tw1
    · obtain ⟨_, _, _, t2⟩ := M2
      exact own_turn ho1 Mw1 t2
  case round =>
    obtain ⟨i, hi, rfl, ⟨⟨bmi, Mi, bi, ti⟩, oi⟩⟩ := hrel
    by_cases hlt : (i : Int) < (P.length : Int)
    · have hlt' : i < P.length := by omega
      obtain ⟨k, b, hkb⟩ : ∃ k b, P[i]? = some (k, b) := ⟨_, _, List.getElem?_eq_getElem hlt'⟩
      obtain ⟨u1, u2⟩ := flat_at P i k b hkb
      rcases oi.2 with ⟨_, hz⟩ | ⟨gb, cap', cur, hv, hB, hgb, _⟩
      · omega
      obtain ⟨rfl, _⟩ : ao = some ⟨gb, 0, none⟩ ∧ True := by injection hv with hv; exact ⟨hv, trivial⟩
      have cc := oi.cells (g := gb) rfl
      have k1 : wr.cell? ⟨gb, i * 2, none⟩ = some (.int .u64 (k : Int)) := by have := cc _ _ u1; rwa [addr_add] at this
      have k2 : wr.cell? ⟨gb, i * 2 + 1, none⟩ = some (.int .u64 (b : Int)) := by have := cc _ _ u2; rwa [addr_add] at this
      clear cc u1 u2
      obtain ⟨hk8, hbw, hb0, _⟩ := (hP.mem k b).1 (List.mem_of_getElem? hkb)
      have hB2 := Lib.hid hbw
      have hK := Lib.hid hkb
      have hcw := cut_word h.good.lt (hbw ▸ hb0)
      have hn0 : 0 < n := Classical.byContradiction fun h0 => hb0 (by rw [hbw]; exact word_eq_zero (fun j _ => by unfold cut; rw [if_neg (by omega)]))
      have hks := h.good.word_in hcw.2.2
      have bl : b < 18446744073709551616 := by rw [hbw]; exact word_lt _ (cut_lt h.good.lt f n) k
      clear hbw hkb
      have TK := Lib.hid (take_keys hK.out)
      have CS := Lib.hid (cpP_step h.good (f := f) (t := t) (n := n) (ks := (P.take i).map Prod.fst) hk8 hks (take_new hP.nodup hK.out) (by omega) (by omega))
      have CI := Lib.hid (cpP_in h.good.lt hS (f := f) (t := t) (n := n) (k := k) (by omega) (by omega))
      rw [← hB2.out] at CS CI
      have AT : IntKind.u64.wrap ((k : Int) + IntKind.u64.wrap ((t : Int) - (f : Int))) = ((atP f t k : Nat) : Int) := by rw [IntKind.wrap_u64, IntKind.wrap_u64]; unfold atP; omega
      have al : atP f t k < 18446744073709551616 := Nat.mod_lt _ (by decide)
      have ls := Mi.lt.1
      go_wp2_with fail
      have M3 : MemAt (wr.alloc (.cells #[.int .u64 (k : Int), .int .u64 (b : Int)] 62)) sb bmi S (cpP g f t n (List.map Prod.fst (List.take i P))) := Mi.same (Below.heap_alloc _ _ _ Mi.lt.1) (Below.heap_alloc _ _ _ Mi.lt.2)
      have t3 : Turn w (wr.alloc (.cells #[.int .u64 (k : Int), .int .u64 (b : Int)] 62)) sb bm := ti.alloc _
      have o3 : (wr.alloc (.cells #[.int .u64 (k : Int), .int .u64 (b : Int)] 62)).ownsRow w.heap.size 62 2 (.slice (some ⟨gb, 0, none⟩) P.length cap) P.length (flat P) := oi.alloc _
      refine (lay_any sb bmi S (atP f t k) b _ _ M3 al bl CI.out).mono ?_
      rintro e w4 ⟨rfl, M4⟩
      rw [CS.out, ← TK.out] at M4
      go_wp2
      go_roundw
      case rel =>
        refine ⟨i + 1, by omega, by go_num, ⟨M4.trans bi t3, ?_⟩⟩
        obtain ⟨b4, _, _, t4⟩ := M4
        exact own_turn o3 M3 t4
      case measure => simp [intOf]; omega
    · obtain rfl : i = P.length := by omega
      go_wp2
      go_ret
      refine ⟨rfl, ?_⟩
      have M5 : MemTo w wr sb bm S (cpP g f t n ((P.take P.length).map Prod.fst)) := ⟨bmi, Mi, bi, ti⟩
      rw [List.take_length, cpP_all h.good.lt hP] at M5
      exact M5
theorem copy_any (sb bm S : Nat) (g : Nat → Nat) (f t n : Int) (w : World) (h : MemAt w sb bm S g) (a0 : 0 ≤ f) (a1 : f < 18446744073709551616) (t0 : 0 ≤ t) (t1 : t < 18446744073709551616) (n0 : 0 ≤ n) (n1 : n < 18446744073709551616) :
    Calls Try.prog 17 #[.pointer (some ⟨sb, 0, none⟩), .int .u64 f, .int .u64 t, .int .u64 n] w fun e w' => e = .returned (.int .i64 (cpErr S f t n)) ∧ MemTo w w' sb bm S (cpS S g f t n) := by
  obtain ⟨m2, hm2, c0, c1, c2, f1, f2⟩ := h.cells
  have hS := h.good.le
  by_cases hm : mayI S f 1 n = 0
  · have E := Lib.hid (show cpErr S f t n = mayI S t 1 n by unfold cpErr; rw [if_pos hm])
    by_cases hm2 : mayI S t 1 n = 0
    · have H := Lib.hid (show cpS S g f t n = cp g f.toNat t.toNat n.toNat by unfold cpS; rw [E.out, if_pos hm2])
      have := copy_yes sb bm S f.toNat t.toNat n.toNat g w h (by omega) (by omega) (by omega) (by rw [Int.toNat_of_nonneg a0, Int.toNat_of_nonneg n0]; exact hm) (by rw [Int.toNat_of_nonneg t0, Int.toNat_of_nonneg n0]; exact hm2)
      rw [Int.toNat_of_nonneg a0, Int.toNat_of_nonneg t0, Int.toNat_of_nonneg n0] at this
      rw [E.out, hm2, H.out]; exact this
    · have H := Lib.hid (show cpS S g f t n = g by unfold cpS; rw [E.out, if_neg hm2])
      go_enter Try.func17, Try.ntmps17
      go_wp2_with (go_at_call 22; refine (may_any sb S _ _ _ _ (by omega) (by omega) (by omega) (by omega) (by omega) (by omega) (by omega) (by omega) c0).mono ?_; rintro e w' ⟨rfl, rfl⟩)
      go_ret
      exact ⟨ret_int E.out.symm, by rw [H.out]; exact h.to⟩
  · have E := Lib.hid (show cpErr S f t n = mayI S f 1 n by unfold cpErr; rw [if_neg hm])
    have H := Lib.hid (show cpS S g f t n = g by unfold cpS; rw [E.out, if_neg hm])
    go_enter Try.func17, Try.ntmps17
    go_wp2_with (go_at_call 22; refine (may_any sb S _ _ _ _ (by omega) (by omega) (by omega) (by omega) (by omega) (by omega) (by omega) (by omega) c0).mono ?_; rintro e w' ⟨rfl, rfl⟩)
    go_ret
    exact ⟨ret_int E.out.symm, by rw [H.out]; exact h.to⟩
end Go.Proofs.Ytmhgofhclckdpaa.Mem
