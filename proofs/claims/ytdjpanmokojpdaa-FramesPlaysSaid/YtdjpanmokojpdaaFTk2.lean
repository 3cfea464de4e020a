/-
  Contracts of Take, TakeMany and Give of the document's package for layer 5. Conditions: at most 2 to the 16 frames.
-/
import Derived.Test.YtdjpanmokojpdaaFTk
namespace Go.Proofs.Ytdjpanmokojpdaa.Frm
open Fld
open Go.ChangeShapes Go.WideShapes Go.ChangeAt Go.RowKit
set_option maxHeartbeats 1000000
theorem rtake_any (N B cap : Nat) (ao : Option Addr) (T : Nat → Bool) (s : Int) (w : World) (h : OwnI w B ao cap (lst T N)) (hB : B ≤ w.heap.size) (hN : N ≤ 65536) :
    Calls Try.prog 25 #[.agg #[.int .i64 (N : Int), .slice ao (lst T N).length cap], .int .i64 s] w fun e w' => ∃ x, e = .returned (.tuple #[x, .int .i64 (takeI T N s), .int .i64 (takeE T N s)]) ∧ IsD w' B N (lst (takeT T N s) N) x ∧ Below w.heap.size w w' := by
  have F0 := FD.start w N (.slice ao (lst T N).length cap)
  obtain ⟨m1, m2, m3, m4, r1, r2, r3, r4⟩ := F0.cells
  have RR := rrun_any s
  cases hs : sizeB s
  · have HT := Lib.hid (show takeT T N s = T by unfold takeT; rw [hs]; rfl)
    have HE := Lib.hid (show takeE T N s = 1 by unfold takeE; rw [hs]; rfl)
    have HI := Lib.hid (show takeI T N s = 0 by unfold takeI; rw [hs]; rfl)
    have hr : runI s = 0 := by
      unfold sizeB at hs
      rcases runI_cases s with ⟨e, _⟩ | ⟨e, _⟩ | ⟨e, _⟩ | ⟨e, _⟩ | ⟨_, e⟩
      · subst e; simp at hs
      · subst e; simp at hs
      · subst e; simp at hs
      · subst e; simp at hs
      · exact e
    rw [hr] at RR
    clear hr hs
    go_enter Try.func25, Try.ntmps25
    go_wp2_with (go_at_call 24; refine (RR _).mono ?_; rintro e w' ⟨rfl, rfl⟩)
    refine bodyPost_ret (v := .tuple #[.agg #[.int .i64 (N : Int), .slice ao (lst T N).length cap], .int .i64 0, .int .i64 1]) (by simp [results, Try.results25, go_sem]) rfl ⟨_, by rw [HI.out, HE.out], ⟨ao, cap, by rw [HT.out], by rw [HT.out]; exact (h.alloc _).alloc _⟩, ((Below.refl _ _).alloc (Nat.le_refl _) _).alloc (by simp) _⟩
  · have hq : 0 < (runI s).toNat ∧ (runI s).toNat ≤ 512 ∧ runI s = ((runI s).toNat : Int) := by
      unfold sizeB at hs
      rcases runI_cases s with ⟨_, e⟩ | ⟨_, e⟩ | ⟨_, e⟩ | ⟨_, e⟩ | ⟨_, e⟩ <;> rw [e] <;> simp at hs ⊢
      omega
    obtain ⟨q0, q1, q2⟩ := hq
    have HT : takeT T N s = pickT T (runI s).toNat (pick T N (runI s).toNat (runI s).toNat) := by unfold takeT takeO; rw [hs]; rfl
    have HE : takeE T N s = pickE (pick T N (runI s).toNat (runI s).toNat) := by unfold takeE takeO; rw [hs]; rfl
    have HI : takeI T N s = pickI (pick T N (runI s).toNat (runI s).toNat) := by unfold takeI takeO; rw [hs]; rfl
    rw [HT, HE, HI]
    rw [q2] at RR
    generalize (runI s).toNat = q at *
    clear HT HE HI q2 hs
    have TK := rtk_any N B cap q q ao T _ (own_below h F0.bel) (Nat.le_trans hB F0.bel.size) hN (by omega) q0 q1
    have hnz : ((q : Int) == 0) = false := by simp; omega
    generalize pick T N q q = p at *
    generalize hPT : pickT T q p = PT at *
    generalize hPI : pickI p = PI at *
    generalize hPE : pickE p = PE at *
    clear hPT hPI hPE
    go_enter Try.func25, Try.ntmps25
    go_wp2_with (first | (go_at_call 24; refine (RR _).mono ?_; rintro e w' ⟨rfl, rfl⟩) | (go_at_call 36; refine TK.mono ?_; rintro e w3 ⟨x, rfl, ⟨ao3, cap3, rfl, ho3⟩, hb3⟩; have F3 := F0.below hb3; obtain ⟨m1, m2, m3, m4, r1, r2, r3, r4⟩ := F3.cells))
    obtain ⟨Lr, Lb⟩ := F3.ret (.slice ao3 (lst PT N).length cap3)
    have x1 : ((w3.setCell ⟨w.heap.size + 1, 0, none⟩ (.int .i64 (N : Int))).setCell ⟨w.heap.size + 1, 1, none⟩ (.slice ao3 (lst PT N).length cap3)).cell? ⟨w.heap.size + 1, 0, none⟩ = some (.int .i64 (N : Int)) := by simp [World.cell?, Lr]
    have x2 : ((w3.setCell ⟨w.heap.size + 1, 0, none⟩ (.int .i64 (N : Int))).setCell ⟨w.heap.size + 1, 1, none⟩ (.slice ao3 (lst PT N).length cap3)).cell? ⟨w.heap.size + 1, 1, none⟩ = some (.slice ao3 (lst PT N).length cap3) := by simp [World.cell?, Lr]
    refine bodyPost_ret (v := .tuple #[.agg #[.int .i64 (N : Int), .slice ao3 (lst PT N).length cap3], .int .i64 PI, .int .i64 PE]) (by simp [results, Try.results25, go_sem, x1, x2]) rfl ⟨_, rfl, ⟨ao3, cap3, rfl, retOwn ho3 _ _ (own_block_ne ho3 F3.r)⟩, Lb⟩
theorem rmany_any (N B cap : Nat) (ao : Option Addr) (T : Nat → Bool) (s : Int) (s1 : s ≤ 9223372036854775807) (w : World) (h : OwnI w B ao cap (lst T N)) (hB : B ≤ w.heap.size) (hN : N ≤ 65536) :
    Calls Try.prog 26 #[.agg #[.int .i64 (N : Int), .slice ao (lst T N).length cap], .int .i64 s] w fun e w' => ∃ x, e = .returned (.tuple #[x, .int .i64 (manyI T N s), .int .i64 (manyE T N s)]) ∧ IsD w' B N (lst (manyT T N s) N) x ∧ Below w.heap.size w w' := by
  have F0 := FD.start w N (.slice ao (lst T N).length cap)
  obtain ⟨m1, m2, m3, m4, r1, r2, r3, r4⟩ := F0.cells
  by_cases hs : s < 1
  · have HT := Lib.hid (show manyT T N s = T by unfold manyT; rw [if_pos hs])
    have HE := Lib.hid (show manyE T N s = 1 by unfold manyE; rw [if_pos hs])
    have HI := Lib.hid (show manyI T N s = 0 by unfold manyI; rw [if_pos hs])
    go_enter Try.func26, Try.ntmps26
    go_wp2
    refine bodyPost_ret (v := .tuple #[.agg #[.int .i64 (N : Int), .slice ao (lst T N).length cap], .int .i64 0, .int .i64 1]) (by simp [results, Try.results26, go_sem]) rfl ⟨_, by rw [HI.out, HE.out], ⟨ao, cap, by rw [HT.out], by rw [HT.out]; exact (h.alloc _).alloc _⟩, ((Below.refl _ _).alloc (Nat.le_refl _) _).alloc (by simp) _⟩
  · have HT : manyT T N s = pickT T s.toNat (pick T N s.toNat 1) := by unfold manyT manyO; rw [if_neg hs]
    have HE : manyE T N s = pickE (pick T N s.toNat 1) := by unfold manyE manyO; rw [if_neg hs]
    have HI : manyI T N s = pickI (pick T N s.toNat 1) := by unfold manyI manyO; rw [if_neg hs]
    rw [HT, HE, HI]
    obtain ⟨q, rfl⟩ : ∃ q : Nat, s = (q : Int) := ⟨s.toNat, by omega⟩
    rw [Int.toNat_natCast]
    clear HT HE HI
    have TK := rtk_any N B cap q 1 ao T _ (own_below h F0.bel) (Nat.le_trans hB F0.bel.size) hN (by omega) (by omega) (by omega)
    rw [show (((1 : Nat) : Int)) = 1 from rfl] at TK
    generalize pick T N q 1 = p at *
    generalize hPT : pickT T q p = PT at *
    generalize hPI : pickI p = PI at *
    generalize hPE : pickE p = PE at *
    clear hPT hPI hPE
    go_enter Try.func26, Try.ntmps26
    go_wp2_with (first | (go_at_call 36; refine TK.mono ?_; rintro e w3 ⟨x, rfl, ⟨ao3, cap3, rfl, ho3⟩, hb3⟩; have F3 := F0.below hb3; obtain ⟨m1, m2, m3, m4, r1, r2, r3, r4⟩ := F3.cells))
    obtain ⟨Lr, Lb⟩ := F3.ret (.slice ao3 (lst PT N).length cap3)
    have x1 : ((w3.setCell ⟨w.heap.size + 1, 0, none⟩ (.int .i64 (N : Int))).setCell ⟨w.heap.size + 1, 1, none⟩ (.slice ao3 (lst PT N).length cap3)).cell? ⟨w.heap.size + 1, 0, none⟩ = some (.int .i64 (N : Int)) := by simp [World.cell?, Lr]
    have x2 : ((w3.setCell ⟨w.heap.size + 1, 0, none⟩ (.int .i64 (N : Int))).setCell ⟨w.heap.size + 1, 1, none⟩ (.slice ao3 (lst PT N).length cap3)).cell? ⟨w.heap.size + 1, 1, none⟩ = some (.slice ao3 (lst PT N).length cap3) := by simp [World.cell?, Lr]
    refine bodyPost_ret (v := .tuple #[.agg #[.int .i64 (N : Int), .slice ao3 (lst PT N).length cap3], .int .i64 PI, .int .i64 PE]) (by simp [results, Try.results26, go_sem, x1, x2]) rfl ⟨_, rfl, ⟨ao3, cap3, rfl, retOwn ho3 _ _ (own_block_ne ho3 F3.r)⟩, Lb⟩
end Go.Proofs.Ytdjpanmokojpdaa.Frm
