/-
  Contracts of package page's Cover and of the document's: each returns a new list of the cover's sizes; what was in memory stays. Conditions: words are below 2 to the 64.
-/
import Derived.Test.YtahfpgcljlgnoaaPNext
import Derived.Test.YtahfpgcljlgnoaaPCovM
import Derived.Deep.AppendLies
import Derived.Laws.OwnMore
namespace Go.Proofs.Ytahfpgcljlgnoaa.Fld
open Go.ChangeShapes Go.WideShapes Go.ChangeAt Go.RowKit
set_option maxHeartbeats 400000
theorem infoInt : (Try.prog.info? 3).map (fun i => (i.zero, i.size, i.bytes)) = some (some (.int .i64 0), 1, 8) := by kernel_rfl
def intsV (l : List Int) : List Value := l.map (Value.int .i64)
theorem intsV_snoc (l : List Int) (x : Int) : intsV (l ++ [x]) = intsV l ++ [.int .i64 x] := by simp [intsV]
theorem own_shape {w : World} {B : Nat} {e : TypeId} {z : Nat} {v : Value} {n : Nat} {xs : List Value} (h : w.ownsRow B e z v n xs) : ∃ ao cap, v = .slice ao n cap := by
  rcases h.2 with ⟨rfl, rfl⟩ | ⟨g, cap, cur, rfl, _⟩
  · exact ⟨none, 0, rfl⟩
  · exact ⟨_, _, rfl⟩
theorem own_below {w w' : World} {B : Nat} {e : TypeId} {z : Nat} {v : Value} {n : Nat} {xs : List Value} (h : w.ownsRow B e z v n xs) (hb : Below w.heap.size w w') : w'.ownsRow B e z v n xs := by
  refine ⟨h.1, ?_⟩
  rcases h.2 with hn | ⟨g, cap, cur, rfl, hb2, hg, rest⟩
  · exact .inl hn
  · refine .inr ⟨g, cap, cur, rfl, hb2, ?_, rest⟩
    rw [hb.block g (Array.getElem?_eq_some_iff.1 hg).1]; exact hg
theorem news_int (w : World) (t : TypeId) (v : Value) : ∀ j u, [v][j]? = some u → (w.alloc (.cells #[v] t)).cell? ((⟨w.heap.size, 0, none⟩ : Addr).add j) = some u := by
  intro j u hj
  match j, hj with
  | 0, hj =>
    simp at hj; subst hj
    exact (World.cell?_alloc_mark w #[v] t (0, 0) 0).trans rfl
theorem greatest_any (f t : Int) (f0 : 0 ≤ f) (t1 : t ≤ 18446744073709551615) (hlt : f < t) (w : World) :
    Calls Try.prog 40 #[.int .u64 f, .int .u64 t] w fun e w' => e = .returned (.int .i64 (stepI f t)) ∧ ∃ n, w' = w.drewN n := by
  go_enter Try.func40, Try.ntmps40
  go_wp2
  go_loopw [5, 6, 7] (fun b _ c wr => ∃ k : Nat, k ≤ 4 ∧ c = .int .i64 (k : Int) ∧ b = .int .i64 (gUp f t k) ∧ ∃ n, wr = w.drewN n) (fun _ _ c _ => 4 - (intOf c).toNat)
  case atStart => exact ⟨0, by omega, rfl, rfl, 0, rfl⟩
  case round =>
    obtain ⟨k, hk, rfl, rfl, n, rfl⟩ := hrel
    by_cases hk4 : k < 4
    · have hb := bytes_bd (k : Int)
      cases hs : startsB f (k : Int)
      · have E := Lib.hid (show gUp f t (k + 1) = gUp f t k by
          show (if okB f t (k : Int) then (k : Int) else gUp f t k) = _
          rw [if_neg]; unfold okB; rw [hs]; simp)
        go_wp2_with (go_at_call 20; refine (starts_any _ _ (by omega) (by omega) _).mono ?_; rintro e w' ⟨rfl, m, rfl⟩)
        go_roundw
        case rel => exact ⟨k + 1, by omega, by go_num, by rw [E.out], _, rfl⟩
        case measure => simp [intOf]; omega
      · by_cases hle : bytesI (k : Int) ≤ t - f
        · have E := Lib.hid (show gUp f t (k + 1) = (k : Int) by
            show (if okB f t (k : Int) then (k : Int) else gUp f t k) = _
            rw [if_pos]; unfold okB; rw [hs]; simpa using hle)
          go_wp2_with (first | (go_at_call 20; refine (starts_any _ _ (by omega) (by omega) _).mono ?_; rintro e w' ⟨rfl, m, rfl⟩) | (go_at_call 15; refine (bytes_any _ _).mono ?_; rintro e w' ⟨rfl, rfl⟩))
          go_roundw
          case rel => exact ⟨k + 1, by omega, by go_num, by rw [E.out], _, rfl⟩
          case measure => simp [intOf]; omega
        · have E := Lib.hid (show gUp f t (k + 1) = gUp f t k by
            show (if okB f t (k : Int) then (k : Int) else gUp f t k) = _
            rw [if_neg]; unfold okB; rw [hs]; simpa using hle)
          go_wp2_with (first | (go_at_call 20; refine (starts_any _ _ (by omega) (by omega) _).mono ?_; rintro e w' ⟨rfl, m, rfl⟩) | (go_at_call 15; refine (bytes_any _ _).mono ?_; rintro e w' ⟨rfl, rfl⟩))
          go_roundw
          case rel => exact ⟨k + 1, by omega, by go_num, by rw [E.out], _, rfl⟩
          case measure => simp [intOf]; omega
    · obtain rfl : k = 4 := by omega
      go_wp2
      go_ret
      exact ⟨rfl, n, rfl⟩
theorem starts_zero (f : Int) : startsB f 0 = decide (f % 8192 = 0) := by simp [startsB, sizeB, bytesI]
theorem cover_any (f t : Int) (f0 : 0 ≤ f) (f1 : f ≤ 18446744073709551615) (t0 : 0 ≤ t) (t1 : t ≤ 18446744073709551615) (w : World) :
    Calls Try.prog 33 #[.int .u64 f, .int .u64 t] w fun e w' => ∃ v, e = .returned v ∧ w'.ownsRow w.heap.size 3 1 v (coverL f t).length (intsV (coverL f t)) ∧ Below w.heap.size w w' := by
  obtain ⟨i0, hi, hz0, hz1, hz2⟩ := info_parts infoInt
  cases ha : alignB f t
  · have HC := Lib.hid (cover_odd f t ha)
    cases hs : startsB f 0
    · go_enter Try.func33, Try.ntmps33
      go_wp2_with (go_at_call 20; refine (starts_any _ _ (by omega) (by omega) _).mono ?_; rintro e w' ⟨rfl, m, rfl⟩)
      go_ret
      refine ⟨_, rfl, ?_, below_drewN (Below.refl _ _) _⟩
      rw [HC.out]; exact World.ownsRow_nil _ _ _ _
    · have hs2 : startsB t 0 = false := by
        rw [starts_zero] at hs ⊢; unfold alignB at ha; rw [hs] at ha; simpa using ha
      go_enter Try.func33, Try.ntmps33
      go_wp2_with (go_at_call 20; refine (starts_any _ _ (by omega) (by omega) _).mono ?_; rintro e w' ⟨rfl, m, rfl⟩)
      go_ret
      refine ⟨_, rfl, ?_, below_drewN (Below.refl _ _) _⟩
      rw [HC.out]; exact World.ownsRow_nil _ _ _ _
  · have hs : startsB f 0 = true := by
      rw [starts_zero]; unfold alignB at ha; simp only [Bool.and_eq_true] at ha; exact ha.1
    have hs2 : startsB t 0 = true := by
      rw [starts_zero]; unfold alignB at ha; simp only [Bool.and_eq_true] at ha; exact ha.2
    have HA := Lib.hid ha
    clear ha
    go_enter Try.func33, Try.ntmps33
    go_wp2_with (go_at_call 20; refine (starts_any _ _ (by omega) (by omega) _).mono ?_; rintro e w' ⟨rfl, m, rfl⟩)
    clear hs hs2
    go_loopw [0, 5, 6] (fun a v _ wr => ∃ k : Nat, k ≤ 1000 ∧ a = .int .u64 (posI f t k) ∧ Hid (∀ j, j < k → posI f t j < t) ∧ wr.ownsRow w.heap.size 3 1 v k (intsV (sizesL f t k)) ∧ Below w.heap.size w wr) (fun a _ _ _ => (t - intOf a).toNat)
    case atStart => exact ⟨0, by omega, rfl, Lib.hid (fun j hj => by omega), World.ownsRow_nil _ _ _ _, below_drewN (Below.refl _ _) _⟩
    case round =>
      obtain ⟨k, hk, rfl, HJ, hown, hbel⟩ := hrel
      have hsz := hbel.size
      have HP := Lib.hid (pos_facts f t HA.out k HJ.out)
      have hp0 : 0 ≤ posI f t k := by have := HP.out.2.2; omega
      obtain ⟨ao, cap, rfl⟩ := own_shape hown
      by_cases hlt : posI f t k < t
      · by_cases hk2 : k = 1000
        · have HC := Lib.hid (cover_long f t (fun j hj => by
            by_cases e : j = k
            · rw [e]; exact hlt
            · exact HJ.out j (by omega)))
          obtain rfl := hk2
          go_wp2
          go_ret
          refine ⟨_, rfl, ?_, hbel⟩
          rw [HC.out]; exact World.ownsRow_nil _ _ _ _
        · have hk3 : k < 1000 := by omega
          clear hk2
          have hn := step_next (posI f t k) t HP.out.1 hlt
          have HN := Lib.hid (show posI f t (k + 1) = posI f t k + bytesI (stepI (posI f t k) t) from rfl)
          have HL := Lib.hid (show intsV (sizesL f t (k + 1)) = intsV (sizesL f t k) ++ [.int .i64 (stepI (posI f t k) t)] by rw [sizesL_succ, intsV_snoc])
          have hb := bytes_bd (stepI (posI f t k) t)
          have hn2 := hn.2
          clear hn
          have HJ2 := Lib.hid (show ∀ j, j < k + 1 → posI f t j < t from fun j hj => by
            by_cases e : j = k
            · rw [e]; exact hlt
            · exact HJ.out j (by omega))
          clear HJ HP
          generalize posI f t k = p at *
          go_wp2_with fail
          refine (greatest_any _ _ hp0 t1 hlt _).mono ?_
          rintro e w' ⟨rfl, n, rfl⟩
          generalize stepI p t = s at *
          have hown2 : (wr.drewN n).ownsRow w.heap.size 3 1 (.slice ao k cap) k (intsV (sizesL f t k)) := hown
          have hbel2 := below_drewN hbel n
          have hsz2 : w.heap.size ≤ (wr.drewN n).heap.size := hsz
          clear hown hbel hsz
          generalize wr.drewN n = wq at *
          go_wp2_with (at_builtin; refine wpList_append_own _ rfl _ _ 35 rfl w.heap.size 3 i0 (.int .i64 0) 1 8 Try.underlying35 hi hz0 hz1 hz2 rfl (by decide) _ _ _ rfl (by exact hown2.alloc _) ⟨wq.heap.size, 0, none⟩ 1 1 [.int .i64 s] rfl rfl ?c1 ?c2 ?c3 ?c4 ?c5 ?_)
          case c1 => exact news_int wq _ _
          case c2 => intro u hu; simp at hu; subst hu; rfl
          case c3 => unfold maxLen; omega
          case c4 => omega
          case c5 => simp; omega
          · intro v' w1 hown' hgrow _
            have R1 : w1.ownsRow w.heap.size 3 1 v' (k + 1) (intsV (sizesL f t (k + 1))) := by rw [HL.out]; exact hown'
            have R2 : Below w.heap.size w w1 := (hbel2.alloc (by omega) _).grown hgrow (by simp; omega) (fun g hg => (hown2.lt g hg).1)
            clear hown' hgrow hown2 hbel2
            go_wp2_with (go_at_call 15; refine (bytes_any _ _).mono ?_; rintro e w' ⟨rfl, rfl⟩)
            go_roundw
            case rel => exact ⟨k + 1, by omega, by rw [HN.out], HJ2, R1, R2⟩
            case measure => simp [intOf]; omega
      · have HC := Lib.hid (cover_end f t HA.out k hk HJ.out (by omega))
        go_wp2
        go_ret
        refine ⟨_, rfl, ?_, hbel⟩
        rw [HC.out, sizesL_length]; exact hown
set_option maxRecDepth 100000 in
theorem rcover_any (f t : Int) (f0 : 0 ≤ f) (f1 : f ≤ 18446744073709551615) (t0 : 0 ≤ t) (t1 : t ≤ 18446744073709551615) (w : World) :
    Calls Try.prog 35 #[.int .u64 f, .int .u64 t] w fun e w' => ∃ v, e = .returned v ∧ w'.ownsRow w.heap.size 3 1 v (coverL f t).length (intsV (coverL f t)) ∧ Below w.heap.size w w' := by
  obtain ⟨i0, hi, hz0, hz1, hz2⟩ := info_parts infoInt
  cases ha : alignB f t
  · have HC := Lib.hid (cover_odd f t ha)
    cases hs : f % 8192 != 0
    · have hs2 : (t % 8192 != 0) = true := by
        unfold alignB at ha
        have e : f % 8192 = 0 := by simpa using hs
        rw [bne_iff_ne]; intro e2; rw [e, e2] at ha; simp at ha
      go_enter Try.func35, Try.ntmps35
      go_wp2
      go_ret
      refine ⟨_, rfl, ?_, Below.refl _ _⟩
      rw [HC.out]; exact World.ownsRow_nil _ _ _ _
    · go_enter Try.func35, Try.ntmps35
      go_wp2
      go_ret
      refine ⟨_, rfl, ?_, Below.refl _ _⟩
      rw [HC.out]; exact World.ownsRow_nil _ _ _ _
  · have hs : (f % 8192 != 0) = false := by
      unfold alignB at ha; simp only [Bool.and_eq_true, decide_eq_true_eq] at ha; simp [ha.1]
    have hs2 : (t % 8192 != 0) = false := by
      unfold alignB at ha; simp only [Bool.and_eq_true, decide_eq_true_eq] at ha; simp [ha.2]
    have HA := Lib.hid ha
    clear ha
    go_enter Try.func35, Try.ntmps35
    go_wp2
    clear hs hs2
    go_loopw [0, 5, 6] (fun a v _ wr => ∃ k : Nat, k ≤ 1000 ∧ a = .int .u64 (posI f t k) ∧ Hid (∀ j, j < k → posI f t j < t) ∧ wr.ownsRow w.heap.size 3 1 v k (intsV (sizesL f t k)) ∧ Below w.heap.size w wr) (fun a _ _ _ => (t - intOf a).toNat)
    case atStart => exact ⟨0, by omega, rfl, Lib.hid (fun j hj => by omega), World.ownsRow_nil _ _ _ _, Below.refl _ _⟩
    case round =>
      obtain ⟨k, hk, rfl, HJ, hown, hbel⟩ := hrel
      have hsz := hbel.size
      have HP := Lib.hid (pos_facts f t HA.out k HJ.out)
      have hp0 : 0 ≤ posI f t k := by have := HP.out.2.2; omega
      obtain ⟨ao, cap, rfl⟩ := own_shape hown
      by_cases hlt : posI f t k < t
      · by_cases hk2 : k = 1000
        · have HC := Lib.hid (cover_long f t (fun j hj => by
            by_cases e : j = k
            · rw [e]; exact hlt
            · exact HJ.out j (by omega)))
          obtain rfl := hk2
          go_wp2
          go_ret
          refine ⟨_, rfl, ?_, hbel⟩
          rw [HC.out]; exact World.ownsRow_nil _ _ _ _
        · have hk3 : k < 1000 := by omega
          clear hk2
          have hn := step_next (posI f t k) t HP.out.1 hlt
          have HN := Lib.hid (show posI f t (k + 1) = posI f t k + bytesI (stepI (posI f t k) t) from rfl)
          have HL := Lib.hid (show intsV (sizesL f t (k + 1)) = intsV (sizesL f t k) ++ [.int .i64 (stepI (posI f t k) t)] by rw [sizesL_succ, intsV_snoc])
          have hb := bytes_bd (stepI (posI f t k) t)
          have hn2 := hn.2
          clear hn
          have HJ2 := Lib.hid (show ∀ j, j < k + 1 → posI f t j < t from fun j hj => by
            by_cases e : j = k
            · rw [e]; exact hlt
            · exact HJ.out j (by omega))
          clear HJ HP
          have HD := Lib.hid (step_down (posI f t k) t)
          generalize posI f t k = p at *
          go_wp2
          go_loop [6] (fun c => ∃ s : Int, 0 ≤ s ∧ s ≤ 3 ∧ c = .int .i64 s ∧ Hid (∀ j : Int, s < j → j ≤ 3 → okB p t j = false)) (fun c => (intOf c).toNat)
          case atStart => exact ⟨3, by omega, by omega, rfl, Lib.hid (fun j a b => by omega)⟩
          case round =>
            obtain ⟨s, s0, s3, rfl, HS⟩ := hrel
            have hbs := bytes_pos (sizeB_mk ⟨s0, s3⟩)
            have hbs2 := bytes_bd s
            have hnz : bytesI s ≠ 0 := by omega
            have hsm := sizeB_mk ⟨s0, s3⟩
            by_cases hs0 : 0 < s
            · cases hm : p % bytesI s != 0
              · by_cases hfit : t - p < bytesI s
                · have HS2 := Lib.hid (show ∀ j : Int, s - 1 < j → j ≤ 3 → okB p t j = false from fun j a b => by
                    by_cases e : j = s
                    · rw [e]; unfold okB; rw [Bool.and_eq_false_iff]; right; rw [decide_eq_false_iff_not]; omega
                    · exact HS.out j (by omega) b)
                  go_wp2_with (go_at_call 11; refine (rbytes_any _ _).mono ?_; rintro e w' ⟨rfl, rfl⟩)
                  go_round
                  case rel => exact ⟨s - 1, by omega, by omega, rfl, HS2⟩
                  case measure => simp [intOf]; omega
                · have HE := Lib.hid (HD.out s s0 s3 HS.out (.inr (by
                    unfold okB startsB; rw [hsm]
                    have e : p % bytesI s = 0 := by simpa using hm
                    rw [e]; simp; omega)))
                  rw [HE.out] at HN HL hb hn2
                  go_wp2_with (first | (go_at_call 11; refine (rbytes_any _ _).mono ?_; rintro e w' ⟨rfl, rfl⟩) | (at_builtin; refine wpList_append_own _ rfl _ _ 35 rfl w.heap.size 3 i0 (.int .i64 0) 1 8 Try.underlying35 hi hz0 hz1 hz2 rfl (by decide) _ _ _ rfl (by exact hown.alloc _) ⟨wr.heap.size, 0, none⟩ 1 1 [.int .i64 s] rfl rfl ?c1 ?c2 ?c3 ?c4 ?c5 ?_))
                  case c1 => exact news_int wr _ _
                  case c2 => intro u hu; simp at hu; subst hu; rfl
                  case c3 => unfold maxLen; omega
                  case c4 => omega
                  case c5 => simp; omega
                  · intro v' w1 hown' hgrow _
                    have R1 : w1.ownsRow w.heap.size 3 1 v' (k + 1) (intsV (sizesL f t (k + 1))) := by rw [HL.out]; exact hown'
                    have R2 : Below w.heap.size w w1 := (hbel.alloc (by omega) _).grown hgrow (by simp; omega) (fun g hg => (hown.lt g hg).1)
                    clear hown' hgrow hown hbel
                    go_wp2_with (go_at_call 11; refine (rbytes_any _ _).mono ?_; rintro e w' ⟨rfl, rfl⟩)
                    go_roundw
                    case rel => exact ⟨k + 1, by omega, by rw [HN.out], HJ2, R1, R2⟩
                    case measure => simp [intOf]; omega
              · have HS2 := Lib.hid (show ∀ j : Int, s - 1 < j → j ≤ 3 → okB p t j = false from fun j a b => by
                  by_cases e : j = s
                  · rw [e]; unfold okB startsB; rw [hsm]
                    have e : p % bytesI s ≠ 0 := by simpa using hm
                    simp [e]
                  · exact HS.out j (by omega) b)
                go_wp2_with (go_at_call 11; refine (rbytes_any _ _).mono ?_; rintro e w' ⟨rfl, rfl⟩)
                go_round
                case rel => exact ⟨s - 1, by omega, by omega, rfl, HS2⟩
                case measure => simp [intOf]; omega
            · have HE := Lib.hid (HD.out s s0 s3 HS.out (.inl (by omega)))
              rw [HE.out] at HN HL hb hn2
              go_wp2_with (first | (at_builtin; refine wpList_append_own _ rfl _ _ 35 rfl w.heap.size 3 i0 (.int .i64 0) 1 8 Try.underlying35 hi hz0 hz1 hz2 rfl (by decide) _ _ _ rfl (by exact hown.alloc _) ⟨wr.heap.size, 0, none⟩ 1 1 [.int .i64 s] rfl rfl ?zz1 ?zz2 ?zz3 ?zz4 ?zz5 ?_))
              all_goals first
                | (exact news_int wr _ _)
                | (intro u hu; simp at hu; subst hu; rfl)
                | rfl
                | (unfold maxLen; omega)
                | omega
                | skip
              · intro v' w1 hown' hgrow _
                have R1 : w1.ownsRow w.heap.size 3 1 v' (k + 1) (intsV (sizesL f t (k + 1))) := by rw [HL.out]; exact hown'
                have R2 : Below w.heap.size w w1 := (hbel.alloc (by omega) _).grown hgrow (by simp; omega) (fun g hg => (hown.lt g hg).1)
                clear hown' hgrow hown hbel
                go_wp2_with (go_at_call 11; refine (rbytes_any _ _).mono ?_; rintro e w' ⟨rfl, rfl⟩)
                go_roundw
                case rel => exact ⟨k + 1, by omega, by rw [HN.out], HJ2, R1, R2⟩
                case measure => simp [intOf]; omega
      · have HC := Lib.hid (cover_end f t HA.out k hk HJ.out (by omega))
        go_wp2
        go_ret
        refine ⟨_, rfl, ?_, hbel⟩
        rw [HC.out, sizesL_length]; exact hown
end Go.Proofs.Ytahfpgcljlgnoaa.Fld
