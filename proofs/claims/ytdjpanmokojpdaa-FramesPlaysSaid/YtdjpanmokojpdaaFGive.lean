/-
  Contract of Give of the document's package for layer 5. Conditions: at most 2 to the 16 frames.
-/
import Derived.Test.YtdjpanmokojpdaaFTk2
namespace Go.Proofs.Ytdjpanmokojpdaa.Frm
open Fld
open Go.ChangeShapes Go.WideShapes Go.ChangeAt Go.RowKit
set_option maxHeartbeats 1000000
theorem take_filter {L : List Int} {j : Nat} {x : Int} (h : L[j]? = some x) (p : Int → Bool) : (L.take (j + 1)).filter p = (L.take j).filter p ++ (if p x then [x] else []) := by
  rw [List.take_add_one, h, List.filter_append]
  cases hp : p x <;> simp [hp]
theorem rgive_any (N B cap : Nat) (ao : Option Addr) (T : Nat → Bool) (f k : Int) (f0 : -9223372036854775808 ≤ f) (f1 : f ≤ 9223372036854775807) (k0 : -9223372036854775808 ≤ k) (k1 : k ≤ 9223372036854775807) (w : World) (h : OwnI w B ao cap (lst T N)) (hB : B ≤ w.heap.size) (hN : N ≤ 65536) :
    Calls Try.prog 27 #[.agg #[.int .i64 (N : Int), .slice ao (lst T N).length cap], .int .i64 f, .int .i64 k] w fun e w' => ∃ x, e = .returned (.tuple #[x, .int .i64 (giveE T N f k)]) ∧ IsD w' B N (lst (giveT T N f k) N) x ∧ Below w.heap.size w w' := by
  have F0 := FD.start w N (.slice ao (lst T N).length cap)
  have hl : (lst T N).length ≤ 65536 := by have := lst_length T N; omega
  by_cases a1 : k < 1
  · have HE := Lib.hid (show giveE T N f k = 1 by unfold giveE; rw [if_pos a1])
    have HT := Lib.hid (show giveT T N f k = T by unfold giveT; rw [HE.out]; rfl)
    go_enter Try.func27, Try.ntmps27
    go_wp2
    refine bodyPost_ret (v := .tuple #[.agg #[.int .i64 (N : Int), .slice ao (lst T N).length cap], .int .i64 1]) (by simp [results, Try.results27, go_sem]) rfl ⟨_, by rw [HE.out], ⟨ao, cap, by rw [HT.out], by rw [HT.out]; exact (h.alloc _).alloc _⟩, ((Below.refl _ _).alloc (Nat.le_refl _) _).alloc (by simp) _⟩
  · by_cases a2 : f < 0
    · have HE := Lib.hid (show giveE T N f k = 5 by unfold giveE; rw [if_neg a1, if_pos (.inl a2)])
      have HT := Lib.hid (show giveT T N f k = T by unfold giveT; rw [HE.out]; rfl)
      go_enter Try.func27, Try.ntmps27
      go_wp2
      refine bodyPost_ret (v := .tuple #[.agg #[.int .i64 (N : Int), .slice ao (lst T N).length cap], .int .i64 5]) (by simp [results, Try.results27, go_sem]) rfl ⟨_, by rw [HE.out], ⟨ao, cap, by rw [HT.out], by rw [HT.out]; exact (h.alloc _).alloc _⟩, ((Below.refl _ _).alloc (Nat.le_refl _) _).alloc (by simp) _⟩
    · by_cases a3 : (N : Int) < k
      · have HE := Lib.hid (show giveE T N f k = 5 by unfold giveE; rw [if_neg a1, if_pos (.inr (by omega))])
        have HT := Lib.hid (show giveT T N f k = T by unfold giveT; rw [HE.out]; rfl)
        go_enter Try.func27, Try.ntmps27
        go_wp2
        refine bodyPost_ret (v := .tuple #[.agg #[.int .i64 (N : Int), .slice ao (lst T N).length cap], .int .i64 5]) (by simp [results, Try.results27, go_sem]) rfl ⟨_, by rw [HE.out], ⟨ao, cap, by rw [HT.out], by rw [HT.out]; exact (h.alloc _).alloc _⟩, ((Below.refl _ _).alloc (Nat.le_refl _) _).alloc (by simp) _⟩
      · by_cases a4 : (N : Int) - k < f
        · have HE := Lib.hid (show giveE T N f k = 5 by unfold giveE; rw [if_neg a1, if_pos (.inr a4)])
          have HT := Lib.hid (show giveT T N f k = T by unfold giveT; rw [HE.out]; rfl)
          go_enter Try.func27, Try.ntmps27
          go_wp2
          refine bodyPost_ret (v := .tuple #[.agg #[.int .i64 (N : Int), .slice ao (lst T N).length cap], .int .i64 5]) (by simp [results, Try.results27, go_sem]) rfl ⟨_, by rw [HE.out], ⟨ao, cap, by rw [HT.out], by rw [HT.out]; exact (h.alloc _).alloc _⟩, ((Below.refl _ _).alloc (Nat.le_refl _) _).alloc (by simp) _⟩
        · obtain ⟨p, rfl⟩ : ∃ p : Nat, f = (p : Int) := ⟨f.toNat, by omega⟩
          obtain ⟨q, rfl⟩ : ∃ q : Nat, k = (q : Int) := ⟨k.toNat, by omega⟩
          obtain ⟨v1, v2⟩ := filter_in T (n := N) (i := p) (k := q) (by omega)
          have HV1 := Lib.hid v1
          have HV2 := Lib.hid v2
          clear v1 v2
          have hpq : (p : Int) + (q : Int) ≤ 65536 := by omega
          obtain ⟨i0, hi, hz0, hz1, hz2⟩ := info_parts infoInt
          go_enter Try.func27, Try.ntmps27
          go_wp2
          go_loopw [8, 9, 10] (fun v' hd i wr => ∃ j : Nat, j ≤ (lst T N).length ∧ i = .int .i64 (j : Int) ∧ hd = .int .i64 ((((lst T N).take j).filter (inR (p : Int) (q : Int))).length : Int) ∧ FD w wr N (.slice ao (lst T N).length cap) v' (((lst T N).take j).filter (fun x => !inR (p : Int) (q : Int) x))) (fun _ _ i _ => (lst T N).length - (intOf i).toNat)
          case atStart => exact ⟨0, by omega, rfl, by simp, F0⟩
          case round =>
            obtain ⟨j, hj, rfl, rfl, F⟩ := hrel
            clear F0
            obtain ⟨ao', cap', rfl⟩ := own_shape F.own
            obtain ⟨m1, m2, m3, m4, r1, r2, r3, r4⟩ := F.cells
            have b1 : (((lst T N).take j).filter (inR (p : Int) (q : Int))).length ≤ 65536 := Nat.le_trans (List.length_filter_le _ _) (by simp; omega)
            have b2 : (((lst T N).take j).filter (fun x => !inR (p : Int) (q : Int) x)).length ≤ 65536 := Nat.le_trans (List.length_filter_le _ _) (by simp; omega)
            by_cases hlt : (j : Int) < ((lst T N).length : Int)
            · have hrow : OwnI wr B ao cap (lst T N) := own_below h F.bel
              obtain ⟨g, rfl, h1, h2, hB2, hg, hc⟩ := ownI_at hrow j (by omega)
              have HX : (lst T N)[j]? = some (lst T N)[j] := List.getElem?_eq_getElem (by omega)
              have S1 := Lib.hid (take_filter HX (inR (p : Int) (q : Int)))
              have S2 := Lib.hid (take_filter HX (fun x => !inR (p : Int) (q : Int) x))
              unfold maxLen at h2
              generalize (lst T N)[j] = x at *
              clear HX hrow
              generalize (((lst T N).take j).filter (inR (p : Int) (q : Int))) = Y1 at *
              generalize (((lst T N).take j).filter (fun x => !inR (p : Int) (q : Int) x)) = Y2 at *
              have hbase := F.two
              by_cases hx : (p : Int) ≤ x
              · by_cases hx2 : x < (p : Int) + (q : Int)
                · have HI : inR (p : Int) (q : Int) x = true := by simp [inR, hx, hx2]
                  rw [HI] at S1 S2
                  clear HI
                  go_wp2
                  go_roundw
                  case rel => exact ⟨j + 1, by omega, by go_num, by rw [S1.out]; simp, by rw [S2.out]; simpa using F⟩
                  case measure => simp [intOf]; omega
                · have HI : inR (p : Int) (q : Int) x = false := by simp [inR]; omega
                  rw [HI] at S1 S2
                  clear HI
                  go_wp2_with (at_builtin; refine wpList_append_own _ rfl _ _ 25 rfl (w.heap.size + 2) 3 i0 (.int .i64 0) 1 8 Try.underlying25 hi hz0 hz1 hz2 rfl (by decide) _ _ _ rfl (by exact F.own.alloc _) ⟨wr.heap.size, 0, none⟩ 1 1 [.int .i64 x] rfl rfl (by exact news_int wr _ _) (by intro u hu; simp at hu; subst hu; rfl) (by unfold maxLen; omega) (by omega) (by simp; omega) ?_; intro v1 w1 ho1 hg1 _)
                  go_roundw
                  case rel => exact ⟨j + 1, by omega, by go_num, by rw [S1.out]; simp, by rw [S2.out]; exact (F.alloc _).grow hg1 (by simpa [intsV] using ho1)⟩
                  case measure => simp [intOf]; omega
              · have HI : inR (p : Int) (q : Int) x = false := by simp [inR]; omega
                rw [HI] at S1 S2
                clear HI
                go_wp2_with (at_builtin; refine wpList_append_own _ rfl _ _ 25 rfl (w.heap.size + 2) 3 i0 (.int .i64 0) 1 8 Try.underlying25 hi hz0 hz1 hz2 rfl (by decide) _ _ _ rfl (by exact F.own.alloc _) ⟨wr.heap.size, 0, none⟩ 1 1 [.int .i64 x] rfl rfl (by exact news_int wr _ _) (by intro u hu; simp at hu; subst hu; rfl) (by unfold maxLen; omega) (by omega) (by simp; omega) ?_; intro v1 w1 ho1 hg1 _)
                go_roundw
                case rel => exact ⟨j + 1, by omega, by go_num, by rw [S1.out]; simp, by rw [S2.out]; exact (F.alloc _).grow hg1 (by simpa [intsV] using ho1)⟩
                case measure => simp [intOf]; omega
            · obtain rfl : (lst T N).length = j := by omega
              have e1 : ((lst T N).take (lst T N).length).filter (inR (p : Int) (q : Int)) = seg T p q := by rw [List.take_length]; exact HV1.out
              have e2 : ((lst T N).take (lst T N).length).filter (fun x => !inR (p : Int) (q : Int) x) = lst (setT T p q false) N := by rw [List.take_length, lst_give (by omega)]; exact HV2.out
              rw [e1] at b1 ⊢
              rw [e2] at F b2 ⊢
              clear e1 e2 HV1 HV2
              have hsl := seg_length_le T p q
              have hall := Lib.hid (seg_length_all (T := T) (a := p) (m := q))
              by_cases hf : ((seg T p q).length : Int) < (q : Int)
              · have HE := Lib.hid (show giveE T N (p : Int) (q : Int) = 11 by
                  unfold giveE
                  rw [if_neg (by omega), if_neg (by omega)]
                  rw [Int.toNat_natCast, Int.toNat_natCast, if_neg]
                  intro hb
                  have := hall.out.2 (fun z z1 z2 => allB_mem.1 hb z z1 z2)
                  omega)
                have HT := Lib.hid (show giveT T N (p : Int) (q : Int) = T by unfold giveT; rw [HE.out]; rfl)
                clear hall
                have hrow : OwnI wr B ao cap (lst T N) := own_below h F.bel
                obtain ⟨Lr, Lb⟩ := F.ret (.slice ao (lst T N).length cap)
                have x1 : ((wr.setCell ⟨w.heap.size + 1, 0, none⟩ (.int .i64 (N : Int))).setCell ⟨w.heap.size + 1, 1, none⟩ (.slice ao (lst T N).length cap)).cell? ⟨w.heap.size + 1, 0, none⟩ = some (.int .i64 (N : Int)) := by simp [World.cell?, Lr]
                have x2 : ((wr.setCell ⟨w.heap.size + 1, 0, none⟩ (.int .i64 (N : Int))).setCell ⟨w.heap.size + 1, 1, none⟩ (.slice ao (lst T N).length cap)).cell? ⟨w.heap.size + 1, 1, none⟩ = some (.slice ao (lst T N).length cap) := by simp [World.cell?, Lr]
                replace x1 := Lib.hid x1
                replace x2 := Lib.hid x2
                replace Lr := Lib.hid Lr
                go_wp2
                refine bodyPost_ret (v := .tuple #[.agg #[.int .i64 (N : Int), .slice ao (lst T N).length cap], .int .i64 11]) (by simp [results, Try.results27, go_sem, x1.out, x2.out]) rfl ⟨_, by rw [HE.out], ⟨ao, cap, by rw [HT.out], by rw [HT.out]; exact retOwn hrow _ _ (own_block_ne hrow F.r)⟩, Lb⟩
              · have HE := Lib.hid (show giveE T N (p : Int) (q : Int) = 0 by
                  unfold giveE
                  rw [if_neg (by omega), if_neg (by omega)]
                  rw [Int.toNat_natCast, Int.toNat_natCast, if_pos]
                  exact allB_mem.2 (hall.out.1 (by omega)))
                have HT := Lib.hid (show giveT T N (p : Int) (q : Int) = setT T p q false by unfold giveT; rw [HE.out, Int.toNat_natCast, Int.toNat_natCast]; rfl)
                clear hall
                obtain ⟨L1, L2, L3⟩ := F.last
                generalize setT T p q false = U at *
                have x1 : (((wr.setCell ⟨w.heap.size, 1, none⟩ (.slice ao' (lst U N).length cap')).setCell ⟨w.heap.size + 1, 0, none⟩ (.int .i64 (N : Int))).setCell ⟨w.heap.size + 1, 1, none⟩ (.slice ao' (lst U N).length cap')).cell? ⟨w.heap.size + 1, 0, none⟩ = some (.int .i64 (N : Int)) := by simp [World.cell?, L1]
                have x2 : (((wr.setCell ⟨w.heap.size, 1, none⟩ (.slice ao' (lst U N).length cap')).setCell ⟨w.heap.size + 1, 0, none⟩ (.int .i64 (N : Int))).setCell ⟨w.heap.size + 1, 1, none⟩ (.slice ao' (lst U N).length cap')).cell? ⟨w.heap.size + 1, 1, none⟩ = some (.slice ao' (lst U N).length cap') := by simp [World.cell?, L1]
                replace x1 := Lib.hid x1
                replace x2 := Lib.hid x2
                clear L1
                go_wp2
                exact bodyPost_ret (v := .tuple #[.agg #[.int .i64 (N : Int), .slice ao' (lst U N).length cap'], .int .i64 0]) (by simp [results, Try.results27, go_sem, x1.out, x2.out]) rfl ⟨_, by rw [HE.out], ⟨ao', cap', by rw [HT.out], by rw [HT.out]; exact own_low L2 hB⟩, L3⟩
end Go.Proofs.Ytdjpanmokojpdaa.Frm
