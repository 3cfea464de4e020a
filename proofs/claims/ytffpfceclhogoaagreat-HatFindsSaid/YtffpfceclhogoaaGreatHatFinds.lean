/-
  HatFinds: for any deeds, any offset and any address the law returns true, and its arguments read as before. Conditions: none.
-/
import Derived.Test.YtffpfceclhogoaaGreatRows
import Derived.WalkKit
import Derived.ProofKit
import Derived.OpenShut
import Derived.Test.YtffpfceclhogoaaGreatGW
import Derived.Deep.CutBlock
import Derived.Deep.DeepCutAuto
import Derived.Deep.RegionHeld3
import Derived.Test.YtffpfceclhogoaaGreatGQ
namespace Go.Proofs.YtffpfceclhogoaaGreat.hatFinds
open Fld Hs Hp
open Go.ChangeShapes Go.WideShapes Go.ChangeAt Go.RowKit Go.Deep Go.Maps
set_option linter.unusedVariables false

theorem own : ownKnob Tryz.prog.godebug = none := by kernel_rfl

theorem pat_in {P : List Pg} {i : Nat} (h : i < P.length) : pat P i ∈ P := by simp [pat, h]
theorem dp_val {ns bl : Int} {n : Nat} {L : Nat → List Hp.Bk} {l : List SPg} {LT : Nat → List Hs.Bk} (T : HT ns bl n L l LT) {s : Int} {i : Nat} (hi : i < (dpgs l s).length) : Val (pat (dpgs l s) i) := by
  obtain ⟨x, hx, _, e⟩ := T.dpgs_mem.1 (pat_in hi)
  rw [← e]; exact T.val x hx
theorem base_in {q : Pg} (h : Val q) {r : Int} (r0 : 0 ≤ r) (r1 : r < bytesI q.sz) : baseI (q.va + r) q.sz = q.va := by
  have ha := h.a
  have hb := bytes_pos h.z
  unfold baseI
  rw [h.z, if_pos rfl]
  generalize bytesI q.sz = b at *
  have h1 := Int.mul_ediv_add_emod q.va b
  rw [ha, Int.add_zero] at h1
  rw [← h1, Int.add_comm, Int.add_mul_ediv_left _ _ (by omega), Int.ediv_eq_zero_of_lt r0 r1, Int.zero_add, Int.mul_comm]
theorem look_le {n : Nat} {LT : Nat → List Hs.Bk} (hn : 1 ≤ n) (s va : Int) : ∀ z : Nat, 0 ≤ dlookN n LT s va z ∧ dlookN n LT s va z ≤ (z : Int) * (Hs.lngL LT n : Int)
  | 0 => by simp [dlookN]
  | z + 1 => by
    have ih := look_le (LT := LT) hn s va z
    have h := hgetN_bd n LT hn (kz s va z)
    have e : ((z + 1 : Nat) : Int) * (Hs.lngL LT n : Int) = (z : Int) * (Hs.lngL LT n : Int) + (Hs.lngL LT n : Int) := by rw [Int.natCast_add, Int.add_mul]; simp
    rw [e]
    show 0 ≤ dlookN n LT s va z + _ ∧ dlookN n LT s va z + _ ≤ _
    omega
theorem look_four {n : Nat} {LT : Nat → List Hs.Bk} (hn : 1 ≤ n) (s va : Int) (z : Nat) (hz : z ≤ 4) : 0 ≤ dlookN n LT s va z ∧ dlookN n LT s va z ≤ 4 * (Hs.lngL LT n : Int) := by
  have h := look_le (LT := LT) hn s va z
  have : (z : Int) * (Hs.lngL LT n : Int) ≤ 4 * (Hs.lngL LT n : Int) := Int.mul_le_mul_of_nonneg_right (by omega) (by omega)
  omega
theorem find_len {ns bl : Int} {n : Nat} {L : Nat → List Hp.Bk} {l : List SPg} {LT : Nat → List Hs.Bk} (T : HT ns bl n L l LT) (s va : Int) : 0 ≤ Hp.findN ns n L s va ∧ Hp.findN ns n L s va ≤ 4 * (Hp.lngL L n : Int) := by
  rw [T.findN, ← T.lng]
  unfold dfN
  split
  · split
    · rename_i hp
      have hz := (T.val _ (sat_mem hp)).z
      refine look_four T.n1 s va _ ?_
      unfold sizeB at hz; simp at hz; omega
    · exact look_four T.n1 s va 4 (Nat.le_refl _)
  · constructor <;> omega
theorem find_at {ns bl : Int} {n : Nat} {L : Nat → List Hp.Bk} {l : List SPg} {LT : Nat → List Hs.Bk} (T : HT ns bl n L l LT) {s va : Int} {x : SPg} (hx : x ∈ l) (hi : isAt s va x = true) : Hp.findV ns n L s va = x.p ∧ Hp.findB ns n L s va = true := by
  have hs := (isAt_iff.1 hi).1
  have hb := T.sp x hx
  have hB : isB ns s = true := by unfold isB; rw [← hs]; simp; omega
  have hp := pos_iff.2 ⟨x, hx, hi⟩
  have hd : dfB ns l s va = true := by unfold dfB; rw [hB]; simp [hp]
  refine ⟨?_, by rw [T.findB, hd]⟩
  rw [T.findV]; unfold dfV; rw [hd, if_pos rfl, T.at hx hi]
theorem PLpage {w W W' : World} {hb sb n rb : Nat} {ns bl : Int} {L : Nat → List Hp.Bk} {G : Nat → Prop} {v t : Value} {l : List SPg} {LT : Nat → List Hs.Bk} {U : Nat → Value} {y : Pg} (h : PL w W hb sb ns bl n L G v l t LT U rb) (b : Below W.heap.size W W') (hp : RowP W' W.heap.size y) (q : Pg) :
    PL w (((((((((((W'.setCell ⟨W.heap.size, 0, none⟩ (.int .u64 q.va)).setCell ⟨W.heap.size, 1, none⟩ (.int .i64 q.sz)).setCell ⟨W.heap.size, 2, none⟩ (.int .u64 q.pa)).setCell ⟨W.heap.size, 3, none⟩ (.bool q.att.write)).setCell ⟨W.heap.size, 4, none⟩ (.bool q.att.priv)).setCell ⟨W.heap.size, 5, none⟩ (.bool q.att.exec)).setCell ⟨W.heap.size, 6, none⟩ (.bool q.att.lock)).setCell ⟨W.heap.size, 7, none⟩ (.bool q.att.global)).setCell ⟨W.heap.size, 8, none⟩ (.bool q.att.quiet)).setCell ⟨W.heap.size, 9, none⟩ (.bool q.ref)).setCell ⟨W.heap.size, 10, none⟩ (.bool q.mod)) hb sb ns bl n L G v l t LT U rb ∧ RowP (((((((((((W'.setCell ⟨W.heap.size, 0, none⟩ (.int .u64 q.va)).setCell ⟨W.heap.size, 1, none⟩ (.int .i64 q.sz)).setCell ⟨W.heap.size, 2, none⟩ (.int .u64 q.pa)).setCell ⟨W.heap.size, 3, none⟩ (.bool q.att.write)).setCell ⟨W.heap.size, 4, none⟩ (.bool q.att.priv)).setCell ⟨W.heap.size, 5, none⟩ (.bool q.att.exec)).setCell ⟨W.heap.size, 6, none⟩ (.bool q.att.lock)).setCell ⟨W.heap.size, 7, none⟩ (.bool q.att.global)).setCell ⟨W.heap.size, 8, none⟩ (.bool q.att.quiet)).setCell ⟨W.heap.size, 9, none⟩ (.bool q.ref)).setCell ⟨W.heap.size, 10, none⟩ (.bool q.mod)) W.heap.size q ∧ Below W.heap.size W (((((((((((W'.setCell ⟨W.heap.size, 0, none⟩ (.int .u64 q.va)).setCell ⟨W.heap.size, 1, none⟩ (.int .i64 q.sz)).setCell ⟨W.heap.size, 2, none⟩ (.int .u64 q.pa)).setCell ⟨W.heap.size, 3, none⟩ (.bool q.att.write)).setCell ⟨W.heap.size, 4, none⟩ (.bool q.att.priv)).setCell ⟨W.heap.size, 5, none⟩ (.bool q.att.exec)).setCell ⟨W.heap.size, 6, none⟩ (.bool q.att.lock)).setCell ⟨W.heap.size, 7, none⟩ (.bool q.att.global)).setCell ⟨W.heap.size, 8, none⟩ (.bool q.att.quiet)).setCell ⟨W.heap.size, 9, none⟩ (.bool q.ref)).setCell ⟨W.heap.size, 10, none⟩ (.bool q.mod)) := by
  have hl := (Array.getElem?_eq_some_iff.1 h.bx).1
  have hlp := (Array.getElem?_eq_some_iff.1 hp.row).1
  have hbl := h.ky.hbl
  have hz := h.ky.low.size
  have h' := h.add b (G' := fun k => G k ∨ k = W.heap.size) (.inl h.gb) (fun k hk => hk.elim .inl (fun e => .inr ⟨by omega, by rw [e]; exact hlp⟩))
  have hs := hp.setAll q
  have hk : ∀ k, k ≠ W.heap.size → (((((((((((W'.setCell ⟨W.heap.size, 0, none⟩ (.int .u64 q.va)).setCell ⟨W.heap.size, 1, none⟩ (.int .i64 q.sz)).setCell ⟨W.heap.size, 2, none⟩ (.int .u64 q.pa)).setCell ⟨W.heap.size, 3, none⟩ (.bool q.att.write)).setCell ⟨W.heap.size, 4, none⟩ (.bool q.att.priv)).setCell ⟨W.heap.size, 5, none⟩ (.bool q.att.exec)).setCell ⟨W.heap.size, 6, none⟩ (.bool q.att.lock)).setCell ⟨W.heap.size, 7, none⟩ (.bool q.att.global)).setCell ⟨W.heap.size, 8, none⟩ (.bool q.att.quiet)).setCell ⟨W.heap.size, 9, none⟩ (.bool q.ref)).setCell ⟨W.heap.size, 10, none⟩ (.bool q.mod)).heap[k]? = W'.heap[k]? := fun k hk => row_far q hk
  exact ⟨⟨(h'.ky.far (.inr rfl) (by omega) (h'.ky.low.trans (hs.2 _ hz)) (by simp only [setCell_size]) hk).sub (fun k hk => .inl hk), h'.dh.far2 hp.row hk, h.ht, (hk rb (by omega)).trans h'.bx, h.gb, h.lo⟩, hs.1, b.trans (hs.2 _ (Nat.le_refl _))⟩
theorem is_at {ns bl : Int} {n : Nat} {L : Nat → List Hp.Bk} {l : List SPg} {LT : Nat → List Hs.Bk} (T : HT ns bl n L l LT) {s : Int} (va : Int) (h : isB ns s = true) : Hp.findB ns n L s va = decide (0 ≤ atI l s va) := by
  rw [T.findB]; unfold dfB; rw [h, Bool.true_and]
  have := at_neg (l := l) (s := s) (va := va)
  by_cases hp : posS l s va < l.length
  · have h2 : ¬ atI l s va < 0 := fun e => this.1 e hp
    rw [decide_eq_true hp, decide_eq_true (by omega)]
  · have h2 := this.2 hp
    rw [decide_eq_false hp, decide_eq_false (by omega)]
/-! ### The walk -/
set_option maxHeartbeats 8000000 in
set_option maxRecDepth 100000 in
theorem walk (w : World) (s0 : Option Addr) (len0 cap0 : Nat) (w0 : Hp.IsDeeds w s0 len0 cap0) (a1 : Int) (w1 : (Lit.int .u64 a1).wf = true) (a2 : Int) (w2 : (Lit.int .u64 a2).wf = true) :
    Calls Tryz.prog 5 #[.slice s0 len0 cap0, .int .u64 a1, .int .u64 a2] w fun e w' => e = .returned (.bool true) ∧ Below w.heap.size w w' := by
  have wk := w0
  obtain ⟨o0, o1⟩ := bounds_u64 w1
  obtain ⟨v0, v1⟩ := bounds_u64 w2
  have CN := Lib.hid (fun w => hnew_any 3 20 3 (by decide) (by decide) (by decide) (by decide) (by decide) (by decide) w)
  have CD := Lib.hid (fun w => dnew_any 3 20 3 (by decide) w)
  rw [show min (max (3 : Int) 0) 64 = 3 from by decide, show max (20 : Int) 0 = 20 from by decide] at CD
  have CL := Lib.hid (fun w => klives_any w)
  clear w1 w2
  go_enter Tryz.func5, Tryz.ntmps5
  go_wp2_with fail
  refine (CN.out _).mono ?_; rintro e w1 ⟨hb, sb, rfl, hN⟩
  have hN : NewHat w w1 hb sb 3 3 20 := hN
  clear CN
  go_wp2_with fail
  refine (CD.out _).mono ?_; rintro e w2 ⟨s2, U0, rfl, hD, hb2⟩
  have hD : DH w2 (.slice none 0 0) [] s2 3 (fun _ => []) U0 := hD
  obtain ⟨_, g0, cp0, rfl⟩ := hD.shape
  have P0 := PL.begin hN hb2 hD (by decide) (by decide) (by decide)
  clear CD hN hb2 hD
  go_upto_block 0 with fail
  generalize World.alloc w2 _ = w3 at *
  generalize w2.heap.size = rb at *
  go_cut [] (fun wx => ∃ (n : Nat) (L : Nat → List Hp.Bk) (v : Value) (l : List SPg) (t : Value) (LT : Nat → List Hs.Bk) (U : Nat → Value), PL w wx hb sb 3 20 n L (fun k => k = rb) v l t LT U rb)
  case first =>
    go_wp2_with fail
    go_loopw [9] (fun i wr => ∃ (wx : World) (j n : Nat) (L : Nat → List Hp.Bk) (v : Value) (l : List SPg) (t : Value) (LT : Nat → List Hs.Bk) (U : Nat → Value), wx = wr ∧ i = .int .i64 (j : Int) ∧ j ≤ len0 ∧ j ≤ 25 ∧ PL w wx hb sb 3 20 n L (fun k => k = rb) v l t LT U rb) (fun i _ => len0 - (RowKit.intOf i).toNat)
    case atStart => exact ⟨_, 0, _, _, _, _, _, _, _, rfl, rfl, Nat.zero_le _, Nat.zero_le _, P0⟩
    case round =>
      clear P0
      obtain ⟨wx, j, n, L, v, l, t, LT, U, rfl, rfl, hj, hj2, P⟩ := hrel
      obtain ⟨⟨ao, cap, rfl⟩, g2, cap2, rfl⟩ := P.dh.shape
      by_cases hj1 : j < len0 ∧ j < 25
      · obtain ⟨ib, off, d, rfl, hlc, hcm, hdw, hdr⟩ := deed_at wk j hj1.1
        unfold maxLen at hcm
        have HP := Lib.hid P
        have h1' : (j : Int) < (len0 : Int) := by omega
        have h2' : (j : Int) < 25 := by omega
        have h3' : (0 : Int) ≤ (j : Int) := by omega
        clear P hj1
        go_upto_region 8 with fail
        go_cut [10, 11] (fun a b wx => ∃ nb n' L' v' l' t' LT' U', a = .pointer (some ⟨nb, 0, none⟩) ∧ b = .bool true ∧ PM w wx hb sb 3 20 n' L' (fun k => k = rb) v' l' t' LT' U' rb nb (.int .i64 3) (.slice ao l.length cap) (.int .i64 20) (.slice (some ⟨g2, 0, none⟩) n cap2) ∧ ∀ x : SPg, x.sp ≠ d.sp → (x ∈ l' ↔ x ∈ l))
        case first =>
          have HP1 := Lib.hid (HP.out.low (Below.refl _ _).drew)
          have hS : _ ∧ _ := ⟨HP1.out.bx, range_low hdr HP1.out.ky.low⟩
          clear HP
          refine wp_region_held_drew (S := fun wS => wS.heap[rb]? = some (.cells #[.int .i64 3, .slice ao l.length cap, .int .i64 20, .slice (some ⟨g2, 0, none⟩) n cap2] 30 (0, 0)) ∧ wS.rangeAt ib (off + j * 24) [.int .i64 d.kind, .int .i64 d.sp, .int .i64 d.n, .int .u64 d.p.va, .int .i64 d.p.sz, .int .u64 d.p.pa, .bool d.p.att.write, .bool d.p.att.priv, .bool d.p.att.exec, .bool d.p.att.lock, .bool d.p.att.global, .bool d.p.att.quiet, .bool d.p.ref, .bool d.p.mod, .int .u64 d.va, .bool d.att.write, .bool d.att.priv, .bool d.att.exec, .bool d.att.lock, .bool d.att.global, .bool d.att.quiet, .bool d.mod, .bool d.raw, .bool d.near]) (by kernel_rfl) hS (fun hHeld => ?_)
          clear hS
          generalize World.drew wx = W1 at HP1 hHeld ⊢
          refine wpAnyH_take (i := 0) (v := ?vt1) rfl (by kernel_rfl) (by kernel_rfl) (by kernel_rfl) (fun _ _ _ h => h) (Or.inl ⟨by rfl, ?ht1⟩) (by assumption) ?rt1
          case ht1 => (intro wS hSw; (try dsimp only at hSw); (try clear hSw); go_simp <;> (with_reducible rfl))
          (try simp only [Act.put, List.setIfInBounds_toArray, List.set_cons_zero, List.set_cons_succ, List.getElem_toArray, List.getElem_cons_zero])
          refine wpAnyH_take (i := 1) (v := ?vt2) rfl (by kernel_rfl) (by kernel_rfl) (by kernel_rfl) (fun _ _ _ h => h) (Or.inl ⟨by rfl, ?ht2⟩) (by assumption) ?rt2
          case ht2 => (intro wS hSw; (try dsimp only at hSw); obtain ⟨x0, x1, x2, x3, _⟩ := four_H hSw.1; (try clear hSw); go_simp <;> (with_reducible rfl))
          (try simp only [Act.put, List.setIfInBounds_toArray, List.set_cons_zero, List.set_cons_succ, List.getElem_toArray, List.getElem_cons_zero, List.getElem_cons_succ])
          refine wpAnyH_take (i := 2) (v := ?vt3) rfl (by kernel_rfl) (by kernel_rfl) (by kernel_rfl) (fun _ _ _ h => h) (Or.inl ⟨by rfl, ?ht3⟩) (by assumption) ?rt3
          case ht3 => (intro wS hSw; (try dsimp only at hSw); (try clear hSw); go_simp <;> (with_reducible rfl))
          (try simp only [Act.put, List.setIfInBounds_toArray, List.set_cons_zero, List.set_cons_succ, List.getElem_toArray, List.getElem_cons_zero, List.getElem_cons_succ])
          refine wpAnyH_take (i := 3) (v := ?vt4) rfl (by kernel_rfl) (by kernel_rfl) (by kernel_rfl) (fun _ _ _ h => h) (Or.inl ⟨by rfl, ?ht4⟩) (by assumption) ?rt4
          case ht4 => (intro wS hSw; (try dsimp only at hSw); (try clear hSw); go_simp <;> (with_reducible rfl))
          (try simp only [Act.put, List.setIfInBounds_toArray, List.set_cons_zero, List.set_cons_succ, List.getElem_toArray, List.getElem_cons_zero, List.getElem_cons_succ])
          refine wpAnyH_take (i := 4) (v := ?vt5) rfl (by kernel_rfl) (by kernel_rfl) (by kernel_rfl) (fun _ _ _ h => h) (Or.inl ⟨by rfl, ?ht5⟩) (by assumption) ?rt5
          case ht5 => (intro wS hSw; (try dsimp only at hSw); (try clear hSw); go_simp <;> (with_reducible rfl))
          (try simp only [Act.put, List.setIfInBounds_toArray, List.set_cons_zero, List.set_cons_succ, List.getElem_toArray, List.getElem_cons_zero, List.getElem_cons_succ])
          refine wpAnyH_take (i := 5) (v := .agg #[.int .i64 d.kind, .int .i64 d.sp, .int .i64 d.n, .int .u64 d.p.va, .int .i64 d.p.sz, .int .u64 d.p.pa, .bool d.p.att.write, .bool d.p.att.priv, .bool d.p.att.exec, .bool d.p.att.lock, .bool d.p.att.global, .bool d.p.att.quiet, .bool d.p.ref, .bool d.p.mod, .int .u64 d.va, .bool d.att.write, .bool d.att.priv, .bool d.att.exec, .bool d.att.lock, .bool d.att.global, .bool d.att.quiet, .bool d.mod, .bool d.raw, .bool d.near]) rfl (by kernel_rfl) (by kernel_rfl) (by kernel_rfl) (fun _ _ _ h => h) (yieldsIf_load_mid (by rfl) 40 (.tmp 40) rfl ib (off + j * 24) rfl [.int .i64 d.kind, .int .i64 d.sp, .int .i64 d.n, .int .u64 d.p.va, .int .i64 d.p.sz, .int .u64 d.p.pa, .bool d.p.att.write, .bool d.p.att.priv, .bool d.p.att.exec, .bool d.p.att.lock, .bool d.p.att.global, .bool d.p.att.quiet, .bool d.p.ref, .bool d.p.mod, .int .u64 d.va, .bool d.att.write, .bool d.att.priv, .bool d.att.exec, .bool d.att.lock, .bool d.att.global, .bool d.att.quiet, .bool d.mod, .bool d.raw, .bool d.near] _ (fun w hS => hS.2) Tryz.underlying40 rfl (by kernel_rfl)) (by assumption) ?_
          (try simp only [Act.put, List.setIfInBounds_toArray, List.set_cons_zero, List.set_cons_succ, List.getElem_toArray, List.getElem_cons_zero, List.getElem_cons_succ])
          refine wpAnyH_ready (rs := [6, 10]) (by kernel_rfl) (by simp) ?_
          refine AllReadyH.cons rfl (fun K hK => ?_) ?_
          · go_simp
            refine (Hp.does_any d hdw HP1.out.ky HP1.out.dh HP1.out.ht).mono ?_; rintro r w2 ⟨n', L', v', l', t', LT', U', rfl, K2, D2, T2, kp2, hot⟩
            obtain ⟨⟨ao5, cp5, rfl⟩, g5, cp6, rfl⟩ := D2.shape
            have bx2 := (kp2.1 rb HP1.out.gb).trans HP1.out.bx
            have HH := Lib.hid (And.intro K2 (And.intro D2 (And.intro T2 hot)))
            clear K2 D2 T2 kp2 hot
            refine hK.out _ _ ⟨bx2, range_low hdr HH.out.1.low⟩ (fun hHeld => ?_)
            (try clear hK K)
            (try simp only [Act.put, List.setIfInBounds_toArray, List.set_cons_zero, List.set_cons_succ, List.getElem_toArray, List.getElem_cons_zero, List.getElem_cons_succ])
            refine wpAnyH_take (i := 7) (v := ?vt7) rfl (by kernel_rfl) (by kernel_rfl) (by kernel_rfl) (fun _ _ _ h => h) (Or.inl ⟨by rfl, ?ht7⟩) (by assumption) ?rt7
            case ht7 => (intro wS hSw; (try dsimp only at hSw); (try clear hSw); go_simp <;> (with_reducible rfl))
            (try simp only [Act.put, List.setIfInBounds_toArray, List.set_cons_zero, List.set_cons_succ, List.getElem_toArray, List.getElem_cons_zero, List.getElem_cons_succ])
            refine wpAnyH_take (i := 8) (v := ?vt8) rfl (by kernel_rfl) (by kernel_rfl) (by kernel_rfl) (fun _ _ _ h => h) (Or.inl ⟨by rfl, ?ht8⟩) (by assumption) ?rt8
            case ht8 => (intro wS hSw; (try dsimp only at hSw); (try clear hSw); go_simp <;> (with_reducible rfl))
            (try simp only [Act.put, List.setIfInBounds_toArray, List.set_cons_zero, List.set_cons_succ, List.getElem_toArray, List.getElem_cons_zero, List.getElem_cons_succ])
            refine wpAnyH_take (i := 9) (v := ?vt9) rfl (by kernel_rfl) (by kernel_rfl) (by kernel_rfl) (fun _ _ _ h => h) (Or.inl ⟨by rfl, ?ht9⟩) (by assumption) ?rt9
            case ht9 => (intro wS hSw; (try dsimp only at hSw); (try clear hSw); go_simp <;> (with_reducible rfl))
            (try simp only [Act.put, List.setIfInBounds_toArray, List.set_cons_zero, List.set_cons_succ, List.getElem_toArray, List.getElem_cons_zero, List.getElem_cons_succ])
            refine wpAnyH_ready (rs := [10]) (by kernel_rfl) (by simp) ?_
            refine AllReadyH.cons rfl (fun K hK => ?_) AllReadyH.nil
            go_simp
            have rA := heap_alloc_new w2 (.cells #[.int .i64 0, .slice none 0 0, .int .i64 0, .slice none 0 0] 30)
            have bA : Below w2.heap.size w2 (w2.alloc (.cells #[.int .i64 0, .slice none 0 0, .int .i64 0, .slice none 0 0] 30)) := (Below.refl _ _).alloc (Nat.le_refl _) _
            have hlA := (Array.getElem?_eq_some_iff.1 rA).1
            have KA := HH.out.1.add bA (G := fun k => (fun k => k = rb) k ∨ k = w2.heap.size) (fun k h => h.elim .inl (fun e => .inr ⟨by omega, by omega⟩))
            generalize w2.alloc (.cells #[.int .i64 0, .slice none 0 0, .int .i64 0, .slice none 0 0] 30) = WA at rA bA KA hlA ⊢
            have HKA := Lib.hid KA
            refine hK.out _ _ ⟨blk_low bx2 bA, range_low hdr HKA.out.low⟩ (fun hHeld => ?_)
            (try clear hK K)
            (try simp only [Act.put, List.setIfInBounds_toArray, List.set_cons_zero, List.set_cons_succ, List.getElem_toArray, List.getElem_cons_zero, List.getElem_cons_succ])
            refine wpAnyH_ready (rs := [11]) (by kernel_rfl) (by simp) ?_
            refine AllReadyH.cons rfl (fun K hK => ?_) AllReadyH.nil
            obtain ⟨n0, n1, n2, n3, nf⟩ := four_H rA
            have hlb := (Array.getElem?_eq_some_iff.1 bx2).1
            have hlo := HH.out.1.low.size
            have HM := Lib.hid (PM.of HKA.out (HH.out.2.1.low bA) HH.out.2.2.1 (blk_low bx2 bA) rA (.inr rfl) (fun k h => .inl h) HP1.out.gb HP1.out.lo hlo (by omega))
            clear hlb hlo
            go_simp
            refine hK.out _ _ ⟨HM.out.bx, range_low hdr HM.out.ky.low⟩ (fun hHeld => ?_)
            (try clear hK K)
            (try simp only [Act.put, List.setIfInBounds_toArray, List.set_cons_zero, List.set_cons_succ, List.getElem_toArray, List.getElem_cons_zero, List.getElem_cons_succ])
            refine wpAnyH_take (i := 12) (v := ?vt10) rfl (by kernel_rfl) (by kernel_rfl) (by kernel_rfl) (fun _ _ _ h => h) (Or.inl ⟨by rfl, ?ht10⟩) (by assumption) ?rt10
            case ht10 => (intro wS hSw; (try dsimp only at hSw); (try clear hSw); go_simp <;> (with_reducible rfl))
            (try simp only [Act.put, List.setIfInBounds_toArray, List.set_cons_zero, List.set_cons_succ, List.getElem_toArray, List.getElem_cons_zero, List.getElem_cons_succ])
            refine wpAnyH_done (by kernel_rfl) ?_ _
            go_wp2_with fail
            go_meet
            exact ⟨_, _, _, _, _, _, _, _, rfl, rfl, HM.out, HH.out.2.2.2⟩
          refine AllReadyH.cons rfl (fun K hK => ?_) ?_
          · go_simp
            have rA := heap_alloc_new W1 (.cells #[.int .i64 0, .slice none 0 0, .int .i64 0, .slice none 0 0] 30)
            have bA : Below W1.heap.size W1 (W1.alloc (.cells #[.int .i64 0, .slice none 0 0, .int .i64 0, .slice none 0 0] 30)) := (Below.refl _ _).alloc (Nat.le_refl _) _
            have PA := HP1.out.add bA (G' := fun k => (fun k => k = rb) k ∨ k = W1.heap.size) (.inl HP1.out.gb) (fun k h => h.elim .inl (fun e => .inr ⟨by omega, by rw [e]; exact (Array.getElem?_eq_some_iff.1 rA).1⟩))
            generalize W1.alloc (.cells #[.int .i64 0, .slice none 0 0, .int .i64 0, .slice none 0 0] 30) = WA at rA bA PA ⊢
            have HPA := Lib.hid PA
            refine hK.out _ _ ⟨HPA.out.bx, range_low hdr HPA.out.ky.low⟩ (fun hHeld => ?_)
            (try clear hK K)
            (try simp only [Act.put, List.setIfInBounds_toArray, List.set_cons_zero, List.set_cons_succ, List.getElem_toArray, List.getElem_cons_zero, List.getElem_cons_succ])
            refine wpAnyH_ready (rs := [6]) (by kernel_rfl) (by simp) ?_
            refine AllReadyH.cons rfl (fun K hK => ?_) AllReadyH.nil
            go_simp
            refine (Hp.does_any d hdw HPA.out.ky HPA.out.dh HPA.out.ht).mono ?_; rintro r w2 ⟨n', L', v', l', t', LT', U', rfl, K2, D2, T2, kp2, hot⟩
            obtain ⟨⟨ao5, cp5, rfl⟩, g5, cp6, rfl⟩ := D2.shape
            have bx2 := (kp2.1 rb HPA.out.gb).trans HPA.out.bx
            have zx2 := (kp2.1 W1.heap.size (.inr rfl)).trans rA
            have HH := Lib.hid (And.intro K2 (And.intro D2 (And.intro T2 hot)))
            clear K2 D2 T2 kp2 hot
            refine hK.out _ _ ⟨bx2, range_low hdr HH.out.1.low⟩ (fun hHeld => ?_)
            (try clear hK K)
            (try simp only [Act.put, List.setIfInBounds_toArray, List.set_cons_zero, List.set_cons_succ, List.getElem_toArray, List.getElem_cons_zero, List.getElem_cons_succ])
            refine wpAnyH_take (i := 7) (v := ?vt11) rfl (by kernel_rfl) (by kernel_rfl) (by kernel_rfl) (fun _ _ _ h => h) (Or.inl ⟨by rfl, ?ht11⟩) (by assumption) ?rt11
            case ht11 => (intro wS hSw; (try dsimp only at hSw); (try clear hSw); go_simp <;> (with_reducible rfl))
            (try simp only [Act.put, List.setIfInBounds_toArray, List.set_cons_zero, List.set_cons_succ, List.getElem_toArray, List.getElem_cons_zero, List.getElem_cons_succ])
            refine wpAnyH_take (i := 8) (v := ?vt12) rfl (by kernel_rfl) (by kernel_rfl) (by kernel_rfl) (fun _ _ _ h => h) (Or.inl ⟨by rfl, ?ht12⟩) (by assumption) ?rt12
            case ht12 => (intro wS hSw; (try dsimp only at hSw); (try clear hSw); go_simp <;> (with_reducible rfl))
            (try simp only [Act.put, List.setIfInBounds_toArray, List.set_cons_zero, List.set_cons_succ, List.getElem_toArray, List.getElem_cons_zero, List.getElem_cons_succ])
            refine wpAnyH_take (i := 9) (v := ?vt13) rfl (by kernel_rfl) (by kernel_rfl) (by kernel_rfl) (fun _ _ _ h => h) (Or.inl ⟨by rfl, ?ht13⟩) (by assumption) ?rt13
            case ht13 => (intro wS hSw; (try dsimp only at hSw); (try clear hSw); go_simp <;> (with_reducible rfl))
            (try simp only [Act.put, List.setIfInBounds_toArray, List.set_cons_zero, List.set_cons_succ, List.getElem_toArray, List.getElem_cons_zero, List.getElem_cons_succ])
            refine wpAnyH_ready (rs := [11]) (by kernel_rfl) (by simp) ?_
            refine AllReadyH.cons rfl (fun K hK => ?_) AllReadyH.nil
            obtain ⟨n0, n1, n2, n3, nf⟩ := four_H zx2
            have hlb := (Array.getElem?_eq_some_iff.1 HP1.out.bx).1
            have hlo := HP1.out.ky.low.size
            have HM := Lib.hid (PM.of HH.out.1 HH.out.2.1 HH.out.2.2.1 bx2 zx2 (.inr rfl) (fun k h => .inl h) HP1.out.gb HP1.out.lo hlo (by omega))
            clear hlb hlo
            go_simp
            refine hK.out _ _ ⟨HM.out.bx, range_low hdr HM.out.ky.low⟩ (fun hHeld => ?_)
            (try clear hK K)
            (try simp only [Act.put, List.setIfInBounds_toArray, List.set_cons_zero, List.set_cons_succ, List.getElem_toArray, List.getElem_cons_zero, List.getElem_cons_succ])
            refine wpAnyH_take (i := 12) (v := ?vt14) rfl (by kernel_rfl) (by kernel_rfl) (by kernel_rfl) (fun _ _ _ h => h) (Or.inl ⟨by rfl, ?ht14⟩) (by assumption) ?rt14
            case ht14 => (intro wS hSw; (try dsimp only at hSw); (try clear hSw); go_simp <;> (with_reducible rfl))
            (try simp only [Act.put, List.setIfInBounds_toArray, List.set_cons_zero, List.set_cons_succ, List.getElem_toArray, List.getElem_cons_zero, List.getElem_cons_succ])
            refine wpAnyH_done (by kernel_rfl) ?_ _
            go_wp2_with fail
            go_meet
            exact ⟨_, _, _, _, _, _, _, _, rfl, rfl, HM.out, HH.out.2.2.2⟩
          exact AllReadyH.nil
        case rest =>
          obtain ⟨nb, n', L', v', l', t', LT', U', rfl, rfl, M, hot⟩ := hcut
          obtain ⟨⟨ao5, cp5, rfl⟩, g5, cp6, rfl⟩ := M.dh.shape
          obtain ⟨m0, m1, m2, m3, _⟩ := four_H M.nx
          obtain ⟨r0, r1, r2, r3, rf⟩ := four_H M.bx
          have HC := Lib.hid M.copy
          have HOT := Lib.hid hot
          clear M hot
          have P5 := HC.out
          clear HC HOT HP
          go_wp2_with fail
          go_roundw
          case rel => exact ⟨_, j + 1, _, _, _, _, _, _, _, rfl, by go_num, by omega, by omega, P5⟩
          case measure => (simp [RowKit.intOf] <;> omega)
      · by_cases hj3 : j = len0
        · subst hj3
          go_wp2_with fail
          go_meet
          exact ⟨_, _, _, _, _, _, _, P⟩
        · obtain rfl : j = 25 := by omega
          have hl : (25 : Int) < (len0 : Int) := by omega
          go_wp2_with fail
          go_meet
          exact ⟨_, _, _, _, _, _, _, P⟩
  case rest =>
    obtain ⟨n, L, v, l, t, LT, U, P⟩ := hcut
    obtain ⟨⟨ao, cap, rfl⟩, g2, cap2, rfl⟩ := P.dh.shape
    have BP := P
    clear P
    go_upto_block 2 with fail
    go_cut [] (fun wx => Below w.heap.size w wx)
    case first =>
      go_wp2_with fail
      go_loopw [12] (fun i wr => ∃ (wx : World) (s : Nat), wx = wr ∧ i = .int .i64 (s : Int) ∧ s ≤ 3 ∧ PL w wx hb sb 3 20 n L (fun k => k = rb) (.slice ao l.length cap) l (.slice (some ⟨g2, 0, none⟩) n cap2) LT U rb) (fun i _ => 3 - (RowKit.intOf i).toNat)
      case atStart => exact ⟨_, 0, rfl, rfl, by omega, BP⟩
      case round =>
        clear BP
        obtain ⟨wx, s, rfl, rfl, hs, P⟩ := hrel
        by_cases hs3 : s < 3
        · have hs3' : (s : Int) < 3 := by omega
          have HB := Lib.hid (show isB 3 (s : Int) = true by unfold isB; simp; omega)
          have CP := Lib.hid (P.ky.pages P.ht (s : Int))
          have HP := Lib.hid P
          clear P
          go_wp2_with fail
          refine CP.out.mono ?_; rintro e w6 ⟨o, rfl, ho, hb6⟩
          obtain ⟨oa, oc, rfl⟩ := own_shape3 ho
          have P6 := HP.out.low hb6
          have HT6 := Lib.hid HP.out.ht
          have hdl : (dpgs l (s : Int)).length ≤ 1073741824 := by have h1 := dpgs_len l (s : Int) l.length (Nat.le_refl _); rw [List.take_length] at h1; have := P6.dh.few; omega
          have HLG := Lib.hid (show 0 ≤ (Hp.lngL L n : Int) ∧ (Hp.lngL L n : Int) ≤ 20 by have h1 := P6.ky.facts; have h2 := Hp.lng_le L n; omega)
          obtain ⟨B6, hB6⟩ : ∃ B6, B6 = wx.heap.size := ⟨_, rfl⟩
          rw [← hB6] at ho
          clear HP CP hb6 hB6
          go_wp2_with fail
          go_loopw [14] (fun i wr => ∃ (wy : World) (a : Nat), wy = wr ∧ i = .int .i64 (a : Int) ∧ a ≤ (dpgs l (s : Int)).length ∧ PL w wy hb sb 3 20 n L (fun k => k = rb) (.slice ao l.length cap) l (.slice (some ⟨g2, 0, none⟩) n cap2) LT U rb ∧ wy.ownsRow B6 38 11 (.slice oa (dpgs l (s : Int)).length oc) (dpgs l (s : Int)).length (pgL (dpgs l (s : Int)))) (fun i _ => (dpgs l (s : Int)).length - (RowKit.intOf i).toNat)
          case atStart => exact ⟨_, 0, rfl, rfl, Nat.zero_le _, P6, ho⟩
          case round =>
            clear P6 ho
            obtain ⟨wy, a, rfl, rfl, ha, P, ho⟩ := hrel
            by_cases hal : a < (dpgs l (s : Int)).length
            · have hal' : (a : Int) < ((dpgs l (s : Int)).length : Int) := by omega
              have ha0 : (0 : Int) ≤ (a : Int) := by omega
              have hV := dp_val HT6.out hal
              have hvw := hV.w
              have hbp := bytes_pos hV.z
              have htop := base_top (pat (dpgs l (s : Int)) a).va (pat (dpgs l (s : Int)) a).sz hvw.v0 hvw.v1
              rw [hV.base] at htop
              have hr0 := Int.emod_nonneg a1 (show bytesI (pat (dpgs l (s : Int)) a).sz ≠ 0 by omega)
              have hr1 := Int.emod_lt_of_pos a1 (show 0 < bytesI (pat (dpgs l (s : Int)) a).sz by omega)
              obtain ⟨x, hx, hxs, hxe⟩ := HT6.out.dpgs_mem.1 (pat_in hal)
              have hat : isAt (s : Int) ((pat (dpgs l (s : Int)) a).va + a1 % bytesI (pat (dpgs l (s : Int)) a).sz) x = true := isAt_iff.2 ⟨hxs, by rw [hxe]; exact base_in hV hr0 hr1⟩
              have hfv := find_at HT6.out hx hat
              rw [hxe] at hfv
              have hfn := find_len HT6.out (s : Int) ((pat (dpgs l (s : Int)) a).va + a1 % bytesI (pat (dpgs l (s : Int)) a).sz)
              rcases own_form ho with ⟨_, h0⟩ | ⟨og, ocp, hv, hgb, hnc, hcm⟩
              · omega
              have hcells := fun (W : World) (h : W.ownsRow B6 38 11 (.slice oa (dpgs l (s : Int)).length oc) (dpgs l (s : Int)).length (pgL (dpgs l (s : Int)))) => own_page h hgb hal
              simp only [Value.slice.injEq, true_and] at hv
              obtain ⟨rfl, rfl⟩ := hv
              unfold maxLen at hcm
              obtain ⟨qa, hqa⟩ : ∃ qa, qa = pat (dpgs l (s : Int)) a := ⟨_, rfl⟩
              rw [← hqa] at hbp htop hr0 hr1 hfv hfn hvw hcells
              clear hqa hat hx hxs hxe hV
              have hwr : IntKind.u64.wrap (qa.va + a1 % bytesI qa.sz) = qa.va + a1 % bytesI qa.sz := by rw [IntKind.wrap_u64]; have := hvw.v0; omega
              have hbz : ¬ bytesI qa.sz = 0 := by omega
              have hbn : 0 ≤ bytesI qa.sz := by omega
              have CB := Lib.hid (fun w => rbytes_any qa.sz w)
              have htm : a1.tmod (bytesI qa.sz) = a1 % bytesI qa.sz := Int.tmod_eq_emod_of_nonneg o0
              have CF := Lib.hid (fun (W : World) (h : PL w W hb sb 3 20 n L (fun k => k = rb) (.slice ao l.length cap) l (.slice (some ⟨g2, 0, none⟩) n cap2) LT U rb) => h.ky.find (s : Int) (qa.va + a1 % bytesI qa.sz) (by omega) (by omega) (by have := hvw.v0; omega) (by omega))
              rw [hfv.1, hfv.2] at CF
              generalize Hp.findN 3 n L (s : Int) (qa.va + a1 % bytesI qa.sz) = FN at *
              have HFN := Lib.hid hfn
              have HCE := Lib.hid hcells
              have HPR := Lib.hid (And.intro P ho)
              clear P ho hfn hcells hfv hbp htop hr0 hr1 hvw
              go_upto_region 19 with fail
              go_cut [15, 16, 17] (fun a b c wr => ∃ pa, a = .pointer (some ⟨pa, 0, none⟩) ∧ b = .int .i64 FN ∧ c = .bool true ∧ PL w wr hb sb 3 20 n L (fun k => k = rb) (.slice ao l.length cap) l (.slice (some ⟨g2, 0, none⟩) n cap2) LT U rb ∧ wr.ownsRow B6 38 11 (.slice (some ⟨og, 0, none⟩) (dpgs l (s : Int)).length oc) (dpgs l (s : Int)).length (pgL (dpgs l (s : Int))) ∧ RowP wr pa qa)
              case first =>
                have HR := Lib.hid (And.intro (HPR.out.1.low (Below.refl _ _).drew) (row_low HPR.out.2 (Below.refl _ _).drew))
                have hS : _ ∧ _ := ⟨(HCE.out _ HR.out.2).1, (HCE.out _ HR.out.2).2.1⟩
                clear HPR
                refine wp_region_held_drew (S := fun wS => wS.cell? ⟨og, a * 11, none⟩ = some (.int .u64 qa.va) ∧ wS.cell? ⟨og, a * 11 + 1, none⟩ = some (.int .i64 qa.sz)) (by kernel_rfl) hS (fun hHeld => ?_)
                clear hS
                generalize World.drew wy = W1 at HR hHeld ⊢
                refine wpAnyH_take (i := 0) (v := ?vg1) rfl (by kernel_rfl) (by kernel_rfl) (by kernel_rfl) (fun _ _ _ h => h) (Or.inl ⟨by rfl, ?hg1⟩) (by assumption) ?rg1
                case hg1 => (intro wS hSw; (try dsimp only at hSw); (try clear hSw); go_simp <;> (with_reducible rfl))
                (try simp only [Act.put, List.setIfInBounds_toArray, List.set_cons_zero, List.set_cons_succ, List.getElem_toArray, List.getElem_cons_zero])
                refine wpAnyH_take (i := 1) (v := ?vg2) rfl (by kernel_rfl) (by kernel_rfl) (by kernel_rfl) (fun _ _ _ h => h) (Or.inl ⟨by rfl, ?hg2⟩) (by assumption) ?rg2
                case hg2 => (intro wS hSw; (try dsimp only at hSw); (try clear hSw); go_simp <;> (with_reducible rfl))
                (try simp only [Act.put, List.setIfInBounds_toArray, List.set_cons_zero, List.set_cons_succ, List.getElem_toArray, List.getElem_cons_zero, List.getElem_cons_succ])
                refine wpAnyH_take (i := 2) (v := ?vg3) rfl (by kernel_rfl) (by kernel_rfl) (by kernel_rfl) (fun _ _ _ h => h) (Or.inl ⟨by rfl, ?hg3⟩) (by assumption) ?rg3
                case hg3 => (intro wS hSw; (try dsimp only at hSw); (try clear hSw); go_simp <;> (with_reducible rfl))
                (try simp only [Act.put, List.setIfInBounds_toArray, List.set_cons_zero, List.set_cons_succ, List.getElem_toArray, List.getElem_cons_zero, List.getElem_cons_succ])
                refine wpAnyH_take (i := 3) (v := ?vg4) rfl (by kernel_rfl) (by kernel_rfl) (by kernel_rfl) (fun _ _ _ h => h) (Or.inl ⟨by rfl, ?hg4⟩) (by assumption) ?rg4
                case hg4 => (intro wS hSw; (try dsimp only at hSw); (try clear hSw); go_simp <;> (with_reducible rfl))
                (try simp only [Act.put, List.setIfInBounds_toArray, List.set_cons_zero, List.set_cons_succ, List.getElem_toArray, List.getElem_cons_zero, List.getElem_cons_succ])
                refine wpAnyH_take (i := 4) (v := ?vg5) rfl (by kernel_rfl) (by kernel_rfl) (by kernel_rfl) (fun _ _ _ h => h) (Or.inl ⟨by rfl, ?hg5⟩) (by assumption) ?rg5
                case hg5 => (intro wS hSw; (try dsimp only at hSw); (try clear hSw); go_simp <;> (with_reducible rfl))
                (try simp only [Act.put, List.setIfInBounds_toArray, List.set_cons_zero, List.set_cons_succ, List.getElem_toArray, List.getElem_cons_zero, List.getElem_cons_succ])
                refine wpAnyH_take (i := 5) (v := ?vg6) rfl (by kernel_rfl) (by kernel_rfl) (by kernel_rfl) (fun _ _ _ h => h) (Or.inl ⟨by rfl, ?hg6⟩) (by assumption) ?rg6
                case hg6 => (intro wS hSw; (try dsimp only at hSw); (try clear hSw); go_simp <;> (with_reducible rfl))
                (try simp only [Act.put, List.setIfInBounds_toArray, List.set_cons_zero, List.set_cons_succ, List.getElem_toArray, List.getElem_cons_zero, List.getElem_cons_succ])
                refine wpAnyH_take (i := 6) (v := ?vg7) rfl (by kernel_rfl) (by kernel_rfl) (by kernel_rfl) (fun _ _ _ h => h) (Or.inl ⟨by rfl, ?hg7⟩) (by assumption) ?rg7
                case hg7 => (intro wS hSw; (try dsimp only at hSw); obtain ⟨x0, x1⟩ := hSw; (try clear hSw); go_simp <;> (with_reducible rfl))
                (try simp only [Act.put, List.setIfInBounds_toArray, List.set_cons_zero, List.set_cons_succ, List.getElem_toArray, List.getElem_cons_zero, List.getElem_cons_succ])
                refine wpAnyH_take (i := 7) (v := ?vg8) rfl (by kernel_rfl) (by kernel_rfl) (by kernel_rfl) (fun _ _ _ h => h) (Or.inl ⟨by rfl, ?hg8⟩) (by assumption) ?rg8
                case hg8 => (intro wS hSw; (try dsimp only at hSw); (try clear hSw); go_simp <;> (with_reducible rfl))
                (try simp only [Act.put, List.setIfInBounds_toArray, List.set_cons_zero, List.set_cons_succ, List.getElem_toArray, List.getElem_cons_zero, List.getElem_cons_succ])
                refine wpAnyH_take (i := 8) (v := ?vg9) rfl (by kernel_rfl) (by kernel_rfl) (by kernel_rfl) (fun _ _ _ h => h) (Or.inl ⟨by rfl, ?hg9⟩) (by assumption) ?rg9
                case hg9 => (intro wS hSw; (try dsimp only at hSw); (try clear hSw); go_simp <;> (with_reducible rfl))
                (try simp only [Act.put, List.setIfInBounds_toArray, List.set_cons_zero, List.set_cons_succ, List.getElem_toArray, List.getElem_cons_zero, List.getElem_cons_succ])
                refine wpAnyH_take (i := 9) (v := ?vg10) rfl (by kernel_rfl) (by kernel_rfl) (by kernel_rfl) (fun _ _ _ h => h) (Or.inl ⟨by rfl, ?hg10⟩) (by assumption) ?rg10
                case hg10 => (intro wS hSw; (try dsimp only at hSw); (try clear hSw); go_simp <;> (with_reducible rfl))
                (try simp only [Act.put, List.setIfInBounds_toArray, List.set_cons_zero, List.set_cons_succ, List.getElem_toArray, List.getElem_cons_zero, List.getElem_cons_succ])
                refine wpAnyH_take (i := 10) (v := ?vg11) rfl (by kernel_rfl) (by kernel_rfl) (by kernel_rfl) (fun _ _ _ h => h) (Or.inl ⟨by rfl, ?hg11⟩) (by assumption) ?rg11
                case hg11 => (intro wS hSw; (try dsimp only at hSw); (try clear hSw); go_simp <;> (with_reducible rfl))
                (try simp only [Act.put, List.setIfInBounds_toArray, List.set_cons_zero, List.set_cons_succ, List.getElem_toArray, List.getElem_cons_zero, List.getElem_cons_succ])
                refine wpAnyH_take (i := 11) (v := ?vg12) rfl (by kernel_rfl) (by kernel_rfl) (by kernel_rfl) (fun _ _ _ h => h) (Or.inl ⟨by rfl, ?hg12⟩) (by assumption) ?rg12
                case hg12 => (intro wS hSw; (try dsimp only at hSw); (try clear hSw); go_simp <;> (with_reducible rfl))
                (try simp only [Act.put, List.setIfInBounds_toArray, List.set_cons_zero, List.set_cons_succ, List.getElem_toArray, List.getElem_cons_zero, List.getElem_cons_succ])
                refine wpAnyH_take (i := 12) (v := ?vg13) rfl (by kernel_rfl) (by kernel_rfl) (by kernel_rfl) (fun _ _ _ h => h) (Or.inl ⟨by rfl, ?hg13⟩) (by assumption) ?rg13
                case hg13 => (intro wS hSw; (try dsimp only at hSw); obtain ⟨x0, x1⟩ := hSw; (try clear hSw); go_simp <;> (with_reducible rfl))
                (try simp only [Act.put, List.setIfInBounds_toArray, List.set_cons_zero, List.set_cons_succ, List.getElem_toArray, List.getElem_cons_zero, List.getElem_cons_succ])
                refine wpAnyH_ready (rs := [13, 21]) (by kernel_rfl) (by simp) ?_
                refine AllReadyH.cons rfl (fun K hK => ?_) ?_
                · go_simp
                  refine (CB.out _).mono ?_; rintro r wB ⟨rfl, rfl⟩
                  refine hK.out _ _ hHeld (fun hHeld => ?_)
                  (try clear hK K)
                  (try simp only [Act.put, List.setIfInBounds_toArray, List.set_cons_zero, List.set_cons_succ, List.getElem_toArray, List.getElem_cons_zero, List.getElem_cons_succ])
                  refine wpAnyH_take (i := 14) (v := ?vg14) rfl (by kernel_rfl) (by kernel_rfl) (by kernel_rfl) (fun _ _ _ h => h) (Or.inl ⟨by rfl, ?hg14⟩) (by assumption) ?rg14
                  case hg14 => (intro wS hSw; (try dsimp only at hSw); (try clear hSw); go_simp <;> (with_reducible rfl))
                  (try simp only [Act.put, List.setIfInBounds_toArray, List.set_cons_zero, List.set_cons_succ, List.getElem_toArray, List.getElem_cons_zero, List.getElem_cons_succ])
                  refine wpAnyH_take (i := 15) (v := ?vg15) rfl (by kernel_rfl) (by kernel_rfl) (by kernel_rfl) (fun _ _ _ h => h) (Or.inl ⟨by rfl, ?hg15⟩) (by assumption) ?rg15
                  case hg15 => (intro wS hSw; (try dsimp only at hSw); (try clear hSw); go_simp <;> (with_reducible rfl))
                  (try simp only [Act.put, List.setIfInBounds_toArray, List.set_cons_zero, List.set_cons_succ, List.getElem_toArray, List.getElem_cons_zero, List.getElem_cons_succ])
                  refine wpAnyH_ready (rs := [16, 21]) (by kernel_rfl) (by simp) ?_
                  refine AllReadyH.cons rfl (fun K hK => ?_) ?_
                  · go_simp
                    refine (CF.out _ HR.out.1).mono ?_; rintro r w2 ⟨rfl, hb2⟩
                    have R2 := Lib.hid (And.intro (HR.out.1.low hb2) (row_low HR.out.2 hb2))
                    refine hK.out _ _ ⟨(HCE.out _ R2.out.2).1, (HCE.out _ R2.out.2).2.1⟩ (fun hHeld => ?_)
                    (try clear hK K)
                    (try simp only [Act.put, List.setIfInBounds_toArray, List.set_cons_zero, List.set_cons_succ, List.getElem_toArray, List.getElem_cons_zero, List.getElem_cons_succ])
                    refine wpAnyH_take (i := 17) (v := ?vg16) rfl (by kernel_rfl) (by kernel_rfl) (by kernel_rfl) (fun _ _ _ h => h) (Or.inl ⟨by rfl, ?hg16⟩) (by assumption) ?rg16
                    case hg16 => (intro wS hSw; (try dsimp only at hSw); (try clear hSw); go_simp <;> (with_reducible rfl))
                    (try simp only [Act.put, List.setIfInBounds_toArray, List.set_cons_zero, List.set_cons_succ, List.getElem_toArray, List.getElem_cons_zero, List.getElem_cons_succ])
                    refine wpAnyH_take (i := 18) (v := ?vg17) rfl (by kernel_rfl) (by kernel_rfl) (by kernel_rfl) (fun _ _ _ h => h) (Or.inl ⟨by rfl, ?hg17⟩) (by assumption) ?rg17
                    case hg17 => (intro wS hSw; (try dsimp only at hSw); (try clear hSw); go_simp <;> (with_reducible rfl))
                    (try simp only [Act.put, List.setIfInBounds_toArray, List.set_cons_zero, List.set_cons_succ, List.getElem_toArray, List.getElem_cons_zero, List.getElem_cons_succ])
                    refine wpAnyH_take (i := 19) (v := ?vg18) rfl (by kernel_rfl) (by kernel_rfl) (by kernel_rfl) (fun _ _ _ h => h) (Or.inl ⟨by rfl, ?hg18⟩) (by assumption) ?rg18
                    case hg18 => (intro wS hSw; (try dsimp only at hSw); (try clear hSw); go_simp <;> (with_reducible rfl))
                    (try simp only [Act.put, List.setIfInBounds_toArray, List.set_cons_zero, List.set_cons_succ, List.getElem_toArray, List.getElem_cons_zero, List.getElem_cons_succ])
                    refine wpAnyH_take (i := 20) (v := ?vg19) rfl (by kernel_rfl) (by kernel_rfl) (by kernel_rfl) (fun _ _ _ h => h) (Or.inl ⟨by rfl, ?hg19⟩) (by assumption) ?rg19
                    case hg19 => (intro wS hSw; (try dsimp only at hSw); (try clear hSw); go_simp <;> (with_reducible rfl))
                    (try simp only [Act.put, List.setIfInBounds_toArray, List.set_cons_zero, List.set_cons_succ, List.getElem_toArray, List.getElem_cons_zero, List.getElem_cons_succ])
                    refine wpAnyH_ready (rs := [21]) (by kernel_rfl) (by simp) ?_
                    refine AllReadyH.cons rfl (fun K hK => ?_) AllReadyH.nil
                    go_simp
                    have rB := heap_alloc_new w2 (.cells #[.int .u64 0, .int .i64 0, .int .u64 0, .bool false, .bool false, .bool false, .bool false, .bool false, .bool false, .bool false, .bool false] 38)
                    have bB : Below w2.heap.size w2 (w2.alloc (.cells #[.int .u64 0, .int .i64 0, .int .u64 0, .bool false, .bool false, .bool false, .bool false, .bool false, .bool false, .bool false, .bool false] 38)) := (Below.refl _ _).alloc (Nat.le_refl _) _
                    have hlB : w2.heap.size ≤ w2.heap.size := Nat.le_refl _
                    generalize w2.alloc (.cells #[.int .u64 0, .int .i64 0, .int .u64 0, .bool false, .bool false, .bool false, .bool false, .bool false, .bool false, .bool false, .bool false] 38) = WB at rB bB ⊢
                    have R3 := Lib.hid (And.intro (R2.out.1.low bB) (row_low R2.out.2 bB))
                    refine hK.out _ _ ⟨(HCE.out _ R3.out.2).1, (HCE.out _ R3.out.2).2.1⟩ (fun hHeld => ?_)
                    (try clear hK K)
                    (try simp only [Act.put, List.setIfInBounds_toArray, List.set_cons_zero, List.set_cons_succ, List.getElem_toArray, List.getElem_cons_zero, List.getElem_cons_succ])
                    refine wpAnyH_ready (rs := [22]) (by kernel_rfl) (by simp) ?_
                    refine AllReadyH.cons rfl (fun K hK => ?_) AllReadyH.nil
                    have rp : RowP WB w2.heap.size Pg.zero := ⟨rB⟩
                    obtain ⟨p0, p1, p2, p3, p4, p5, p6, p7, p8, p9, p10⟩ := rp.cells
                    have pf := set_one_page rp
                    have Q := Lib.hid (PLpage R2.out.1 bB rp qa)
                    have QO := Lib.hid (row_low R2.out.2 Q.out.2.2)
                    go_simp
                    refine hK.out _ _ ⟨(HCE.out _ QO.out).1, (HCE.out _ QO.out).2.1⟩ (fun hHeld => ?_)
                    (try clear hK K)
                    (try simp only [Act.put, List.setIfInBounds_toArray, List.set_cons_zero, List.set_cons_succ, List.getElem_toArray, List.getElem_cons_zero, List.getElem_cons_succ])
                    refine wpAnyH_take (i := 23) (v := ?vg20) rfl (by kernel_rfl) (by kernel_rfl) (by kernel_rfl) (fun _ _ _ h => h) (Or.inl ⟨by rfl, ?hg20⟩) (by assumption) ?rg20
                    case hg20 => (intro wS hSw; (try dsimp only at hSw); (try clear hSw); go_simp <;> (with_reducible rfl))
                    (try simp only [Act.put, List.setIfInBounds_toArray, List.set_cons_zero, List.set_cons_succ, List.getElem_toArray, List.getElem_cons_zero, List.getElem_cons_succ])
                    refine wpAnyH_take (i := 24) (v := ?vg21) rfl (by kernel_rfl) (by kernel_rfl) (by kernel_rfl) (fun _ _ _ h => h) (Or.inl ⟨by rfl, ?hg21⟩) (by assumption) ?rg21
                    case hg21 => (intro wS hSw; (try dsimp only at hSw); (try clear hSw); go_simp <;> (with_reducible rfl))
                    (try simp only [Act.put, List.setIfInBounds_toArray, List.set_cons_zero, List.set_cons_succ, List.getElem_toArray, List.getElem_cons_zero, List.getElem_cons_succ])
                    refine wpAnyH_done (by kernel_rfl) ?_ _
                    go_wp2_with fail
                    go_meet
                    exact ⟨_, rfl, rfl, rfl, Q.out.1, QO.out, Q.out.2.1⟩
                  refine AllReadyH.cons rfl (fun K hK => ?_) ?_
                  · go_simp
                    have rB := heap_alloc_new W1 (.cells #[.int .u64 0, .int .i64 0, .int .u64 0, .bool false, .bool false, .bool false, .bool false, .bool false, .bool false, .bool false, .bool false] 38)
                    have bB : Below W1.heap.size W1 (W1.alloc (.cells #[.int .u64 0, .int .i64 0, .int .u64 0, .bool false, .bool false, .bool false, .bool false, .bool false, .bool false, .bool false, .bool false] 38)) := (Below.refl _ _).alloc (Nat.le_refl _) _
                    have hlB : W1.heap.size ≤ W1.heap.size := Nat.le_refl _
                    generalize W1.alloc (.cells #[.int .u64 0, .int .i64 0, .int .u64 0, .bool false, .bool false, .bool false, .bool false, .bool false, .bool false, .bool false, .bool false] 38) = WB at rB bB ⊢
                    have R2 := Lib.hid (And.intro (HR.out.1.low bB) (row_low HR.out.2 bB))
                    refine hK.out _ _ ⟨(HCE.out _ R2.out.2).1, (HCE.out _ R2.out.2).2.1⟩ (fun hHeld => ?_)
                    (try clear hK K)
                    (try simp only [Act.put, List.setIfInBounds_toArray, List.set_cons_zero, List.set_cons_succ, List.getElem_toArray, List.getElem_cons_zero, List.getElem_cons_succ])
                    refine wpAnyH_ready (rs := [16]) (by kernel_rfl) (by simp) ?_
                    refine AllReadyH.cons rfl (fun K hK => ?_) AllReadyH.nil
                    go_simp
                    refine (CF.out _ R2.out.1).mono ?_; rintro r w3 ⟨rfl, hb3⟩
                    have R3 := Lib.hid (And.intro (R2.out.1.low hb3) (row_low R2.out.2 hb3))
                    have rB3 := blk_low rB hb3
                    refine hK.out _ _ ⟨(HCE.out _ R3.out.2).1, (HCE.out _ R3.out.2).2.1⟩ (fun hHeld => ?_)
                    (try clear hK K)
                    (try simp only [Act.put, List.setIfInBounds_toArray, List.set_cons_zero, List.set_cons_succ, List.getElem_toArray, List.getElem_cons_zero, List.getElem_cons_succ])
                    refine wpAnyH_take (i := 17) (v := ?vg22) rfl (by kernel_rfl) (by kernel_rfl) (by kernel_rfl) (fun _ _ _ h => h) (Or.inl ⟨by rfl, ?hg22⟩) (by assumption) ?rg22
                    case hg22 => (intro wS hSw; (try dsimp only at hSw); (try clear hSw); go_simp <;> (with_reducible rfl))
                    (try simp only [Act.put, List.setIfInBounds_toArray, List.set_cons_zero, List.set_cons_succ, List.getElem_toArray, List.getElem_cons_zero, List.getElem_cons_succ])
                    refine wpAnyH_take (i := 18) (v := ?vg23) rfl (by kernel_rfl) (by kernel_rfl) (by kernel_rfl) (fun _ _ _ h => h) (Or.inl ⟨by rfl, ?hg23⟩) (by assumption) ?rg23
                    case hg23 => (intro wS hSw; (try dsimp only at hSw); (try clear hSw); go_simp <;> (with_reducible rfl))
                    (try simp only [Act.put, List.setIfInBounds_toArray, List.set_cons_zero, List.set_cons_succ, List.getElem_toArray, List.getElem_cons_zero, List.getElem_cons_succ])
                    refine wpAnyH_take (i := 19) (v := ?vg24) rfl (by kernel_rfl) (by kernel_rfl) (by kernel_rfl) (fun _ _ _ h => h) (Or.inl ⟨by rfl, ?hg24⟩) (by assumption) ?rg24
                    case hg24 => (intro wS hSw; (try dsimp only at hSw); (try clear hSw); go_simp <;> (with_reducible rfl))
                    (try simp only [Act.put, List.setIfInBounds_toArray, List.set_cons_zero, List.set_cons_succ, List.getElem_toArray, List.getElem_cons_zero, List.getElem_cons_succ])
                    refine wpAnyH_take (i := 20) (v := ?vg25) rfl (by kernel_rfl) (by kernel_rfl) (by kernel_rfl) (fun _ _ _ h => h) (Or.inl ⟨by rfl, ?hg25⟩) (by assumption) ?rg25
                    case hg25 => (intro wS hSw; (try dsimp only at hSw); (try clear hSw); go_simp <;> (with_reducible rfl))
                    (try simp only [Act.put, List.setIfInBounds_toArray, List.set_cons_zero, List.set_cons_succ, List.getElem_toArray, List.getElem_cons_zero, List.getElem_cons_succ])
                    refine wpAnyH_ready (rs := [22]) (by kernel_rfl) (by simp) ?_
                    refine AllReadyH.cons rfl (fun K hK => ?_) AllReadyH.nil
                    have rp : RowP w3 W1.heap.size Pg.zero := ⟨rB3⟩
                    obtain ⟨p0, p1, p2, p3, p4, p5, p6, p7, p8, p9, p10⟩ := rp.cells
                    have pf := set_one_page rp
                    have Q := Lib.hid (PLpage HR.out.1 (lo_step bB hb3) rp qa)
                    have QO := Lib.hid (row_low HR.out.2 Q.out.2.2)
                    go_simp
                    refine hK.out _ _ ⟨(HCE.out _ QO.out).1, (HCE.out _ QO.out).2.1⟩ (fun hHeld => ?_)
                    (try clear hK K)
                    (try simp only [Act.put, List.setIfInBounds_toArray, List.set_cons_zero, List.set_cons_succ, List.getElem_toArray, List.getElem_cons_zero, List.getElem_cons_succ])
                    refine wpAnyH_take (i := 23) (v := ?vg26) rfl (by kernel_rfl) (by kernel_rfl) (by kernel_rfl) (fun _ _ _ h => h) (Or.inl ⟨by rfl, ?hg26⟩) (by assumption) ?rg26
                    case hg26 => (intro wS hSw; (try dsimp only at hSw); (try clear hSw); go_simp <;> (with_reducible rfl))
                    (try simp only [Act.put, List.setIfInBounds_toArray, List.set_cons_zero, List.set_cons_succ, List.getElem_toArray, List.getElem_cons_zero, List.getElem_cons_succ])
                    refine wpAnyH_take (i := 24) (v := ?vg27) rfl (by kernel_rfl) (by kernel_rfl) (by kernel_rfl) (fun _ _ _ h => h) (Or.inl ⟨by rfl, ?hg27⟩) (by assumption) ?rg27
                    case hg27 => (intro wS hSw; (try dsimp only at hSw); (try clear hSw); go_simp <;> (with_reducible rfl))
                    (try simp only [Act.put, List.setIfInBounds_toArray, List.set_cons_zero, List.set_cons_succ, List.getElem_toArray, List.getElem_cons_zero, List.getElem_cons_succ])
                    refine wpAnyH_done (by kernel_rfl) ?_ _
                    go_wp2_with fail
                    go_meet
                    exact ⟨_, rfl, rfl, rfl, Q.out.1, QO.out, Q.out.2.1⟩
                  exact AllReadyH.nil
                refine AllReadyH.cons rfl (fun K hK => ?_) ?_
                · go_simp
                  have rB := heap_alloc_new W1 (.cells #[.int .u64 0, .int .i64 0, .int .u64 0, .bool false, .bool false, .bool false, .bool false, .bool false, .bool false, .bool false, .bool false] 38)
                  have bB : Below W1.heap.size W1 (W1.alloc (.cells #[.int .u64 0, .int .i64 0, .int .u64 0, .bool false, .bool false, .bool false, .bool false, .bool false, .bool false, .bool false, .bool false] 38)) := (Below.refl _ _).alloc (Nat.le_refl _) _
                  have hlB : W1.heap.size ≤ W1.heap.size := Nat.le_refl _
                  generalize W1.alloc (.cells #[.int .u64 0, .int .i64 0, .int .u64 0, .bool false, .bool false, .bool false, .bool false, .bool false, .bool false, .bool false, .bool false] 38) = WB at rB bB ⊢
                  have R1 := Lib.hid (And.intro (HR.out.1.low bB) (row_low HR.out.2 bB))
                  refine hK.out _ _ ⟨(HCE.out _ R1.out.2).1, (HCE.out _ R1.out.2).2.1⟩ (fun hHeld => ?_)
                  (try clear hK K)
                  (try simp only [Act.put, List.setIfInBounds_toArray, List.set_cons_zero, List.set_cons_succ, List.getElem_toArray, List.getElem_cons_zero, List.getElem_cons_succ])
                  refine wpAnyH_ready (rs := [13]) (by kernel_rfl) (by simp) ?_
                  refine AllReadyH.cons rfl (fun K hK => ?_) AllReadyH.nil
                  go_simp
                  refine (CB.out _).mono ?_; rintro r wB ⟨rfl, rfl⟩
                  refine hK.out _ _ hHeld (fun hHeld => ?_)
                  (try clear hK K)
                  (try simp only [Act.put, List.setIfInBounds_toArray, List.set_cons_zero, List.set_cons_succ, List.getElem_toArray, List.getElem_cons_zero, List.getElem_cons_succ])
                  refine wpAnyH_take (i := 14) (v := ?vg28) rfl (by kernel_rfl) (by kernel_rfl) (by kernel_rfl) (fun _ _ _ h => h) (Or.inl ⟨by rfl, ?hg28⟩) (by assumption) ?rg28
                  case hg28 => (intro wS hSw; (try dsimp only at hSw); (try clear hSw); go_simp <;> (with_reducible rfl))
                  (try simp only [Act.put, List.setIfInBounds_toArray, List.set_cons_zero, List.set_cons_succ, List.getElem_toArray, List.getElem_cons_zero, List.getElem_cons_succ])
                  refine wpAnyH_take (i := 15) (v := ?vg29) rfl (by kernel_rfl) (by kernel_rfl) (by kernel_rfl) (fun _ _ _ h => h) (Or.inl ⟨by rfl, ?hg29⟩) (by assumption) ?rg29
                  case hg29 => (intro wS hSw; (try dsimp only at hSw); (try clear hSw); go_simp <;> (with_reducible rfl))
                  (try simp only [Act.put, List.setIfInBounds_toArray, List.set_cons_zero, List.set_cons_succ, List.getElem_toArray, List.getElem_cons_zero, List.getElem_cons_succ])
                  refine wpAnyH_ready (rs := [16]) (by kernel_rfl) (by simp) ?_
                  refine AllReadyH.cons rfl (fun K hK => ?_) AllReadyH.nil
                  go_simp
                  refine (CF.out _ R1.out.1).mono ?_; rintro r w3 ⟨rfl, hb3⟩
                  have R3 := Lib.hid (And.intro (R1.out.1.low hb3) (row_low R1.out.2 hb3))
                  have rB3 := blk_low rB hb3
                  refine hK.out _ _ ⟨(HCE.out _ R3.out.2).1, (HCE.out _ R3.out.2).2.1⟩ (fun hHeld => ?_)
                  (try clear hK K)
                  (try simp only [Act.put, List.setIfInBounds_toArray, List.set_cons_zero, List.set_cons_succ, List.getElem_toArray, List.getElem_cons_zero, List.getElem_cons_succ])
                  refine wpAnyH_take (i := 17) (v := ?vg30) rfl (by kernel_rfl) (by kernel_rfl) (by kernel_rfl) (fun _ _ _ h => h) (Or.inl ⟨by rfl, ?hg30⟩) (by assumption) ?rg30
                  case hg30 => (intro wS hSw; (try dsimp only at hSw); (try clear hSw); go_simp <;> (with_reducible rfl))
                  (try simp only [Act.put, List.setIfInBounds_toArray, List.set_cons_zero, List.set_cons_succ, List.getElem_toArray, List.getElem_cons_zero, List.getElem_cons_succ])
                  refine wpAnyH_take (i := 18) (v := ?vg31) rfl (by kernel_rfl) (by kernel_rfl) (by kernel_rfl) (fun _ _ _ h => h) (Or.inl ⟨by rfl, ?hg31⟩) (by assumption) ?rg31
                  case hg31 => (intro wS hSw; (try dsimp only at hSw); (try clear hSw); go_simp <;> (with_reducible rfl))
                  (try simp only [Act.put, List.setIfInBounds_toArray, List.set_cons_zero, List.set_cons_succ, List.getElem_toArray, List.getElem_cons_zero, List.getElem_cons_succ])
                  refine wpAnyH_take (i := 19) (v := ?vg32) rfl (by kernel_rfl) (by kernel_rfl) (by kernel_rfl) (fun _ _ _ h => h) (Or.inl ⟨by rfl, ?hg32⟩) (by assumption) ?rg32
                  case hg32 => (intro wS hSw; (try dsimp only at hSw); (try clear hSw); go_simp <;> (with_reducible rfl))
                  (try simp only [Act.put, List.setIfInBounds_toArray, List.set_cons_zero, List.set_cons_succ, List.getElem_toArray, List.getElem_cons_zero, List.getElem_cons_succ])
                  refine wpAnyH_take (i := 20) (v := ?vg33) rfl (by kernel_rfl) (by kernel_rfl) (by kernel_rfl) (fun _ _ _ h => h) (Or.inl ⟨by rfl, ?hg33⟩) (by assumption) ?rg33
                  case hg33 => (intro wS hSw; (try dsimp only at hSw); (try clear hSw); go_simp <;> (with_reducible rfl))
                  (try simp only [Act.put, List.setIfInBounds_toArray, List.set_cons_zero, List.set_cons_succ, List.getElem_toArray, List.getElem_cons_zero, List.getElem_cons_succ])
                  refine wpAnyH_ready (rs := [22]) (by kernel_rfl) (by simp) ?_
                  refine AllReadyH.cons rfl (fun K hK => ?_) AllReadyH.nil
                  have rp : RowP w3 W1.heap.size Pg.zero := ⟨rB3⟩
                  obtain ⟨p0, p1, p2, p3, p4, p5, p6, p7, p8, p9, p10⟩ := rp.cells
                  have pf := set_one_page rp
                  have Q := Lib.hid (PLpage HR.out.1 (lo_step bB hb3) rp qa)
                  have QO := Lib.hid (row_low HR.out.2 Q.out.2.2)
                  go_simp
                  refine hK.out _ _ ⟨(HCE.out _ QO.out).1, (HCE.out _ QO.out).2.1⟩ (fun hHeld => ?_)
                  (try clear hK K)
                  (try simp only [Act.put, List.setIfInBounds_toArray, List.set_cons_zero, List.set_cons_succ, List.getElem_toArray, List.getElem_cons_zero, List.getElem_cons_succ])
                  refine wpAnyH_take (i := 23) (v := ?vg34) rfl (by kernel_rfl) (by kernel_rfl) (by kernel_rfl) (fun _ _ _ h => h) (Or.inl ⟨by rfl, ?hg34⟩) (by assumption) ?rg34
                  case hg34 => (intro wS hSw; (try dsimp only at hSw); (try clear hSw); go_simp <;> (with_reducible rfl))
                  (try simp only [Act.put, List.setIfInBounds_toArray, List.set_cons_zero, List.set_cons_succ, List.getElem_toArray, List.getElem_cons_zero, List.getElem_cons_succ])
                  refine wpAnyH_take (i := 24) (v := ?vg35) rfl (by kernel_rfl) (by kernel_rfl) (by kernel_rfl) (fun _ _ _ h => h) (Or.inl ⟨by rfl, ?hg35⟩) (by assumption) ?rg35
                  case hg35 => (intro wS hSw; (try dsimp only at hSw); (try clear hSw); go_simp <;> (with_reducible rfl))
                  (try simp only [Act.put, List.setIfInBounds_toArray, List.set_cons_zero, List.set_cons_succ, List.getElem_toArray, List.getElem_cons_zero, List.getElem_cons_succ])
                  refine wpAnyH_done (by kernel_rfl) ?_ _
                  go_wp2_with fail
                  go_meet
                  exact ⟨_, rfl, rfl, rfl, Q.out.1, QO.out, Q.out.2.1⟩
                exact AllReadyH.nil
              case rest =>
                obtain ⟨pa, rfl, rfl, rfl, P, ho, Q⟩ := hcut
                have CLo := Lib.hid (fun (W : World) (h : PL w W hb sb 3 20 n L (fun k => k = rb) (.slice ao l.length cap) l (.slice (some ⟨g2, 0, none⟩) n cap2) LT U rb) => (show (Calls Tryz.prog 18 #[.pointer (some ⟨hb, 0, none⟩)] W fun e w' => e = .returned (.int .i64 (Hp.lngL L n : Int)) ∧ Below W.heap.size W w') from by obtain ⟨bm, V, hr⟩ := h.ky.read; exact hlongest_any W hr))
                have hmul : IntKind.i64.wrap (4 * (Hp.lngL L n : Int)) = 4 * (Hp.lngL L n : Int) := by have := HLG.out; rw [IntKind.wrap_i64]; omega
                have hng : ¬ 4 * (Hp.lngL L n : Int) < FN := by have := HFN.out; omega
                have HR := Lib.hid (And.intro (P.low (Below.refl _ _).drew) (And.intro (row_low ho (Below.refl _ _).drew) (Q.low (Below.refl _ _).drew)))
                have hS : _ ∧ _ := ⟨HR.out.2.2, HR.out.2.1⟩
                clear P ho Q CF CB HPR
                generalize (Hp.lngL L n : Int) = lng at *
                go_upto_region 20 with fail
                refine wp_region_held_drew (S := fun wS => RowP wS pa qa ∧ wS.ownsRow B6 38 11 (.slice (some ⟨og, 0, none⟩) (dpgs l (s : Int)).length oc) (dpgs l (s : Int)).length (pgL (dpgs l (s : Int)))) (by kernel_rfl) hS (fun hHeld => ?_)
                clear hS
                generalize World.drew wc = W1 at HR hHeld ⊢
                refine wpAnyH_take (i := 0) (v := ?vk1) rfl (by kernel_rfl) (by kernel_rfl) (by kernel_rfl) (fun _ _ _ h => h) (Or.inl ⟨by rfl, ?hk1⟩) (by assumption) ?rk1
                case hk1 => (intro wS hSw; (try dsimp only at hSw); obtain ⟨x0, x1, x2, x3, x4, x5, x6, x7, x8, x9, x10⟩ := hSw.1.cells; obtain ⟨y0, y1, y2, y3, y4, y5, y6, y7, y8, y9, y10⟩ := HCE.out _ hSw.2; (try clear hSw); go_simp <;> (with_reducible rfl))
                (try simp only [Act.put, List.setIfInBounds_toArray, List.set_cons_zero, List.set_cons_succ, List.getElem_toArray, List.getElem_cons_zero])
                refine wpAnyH_take (i := 1) (v := ?vk2) rfl (by kernel_rfl) (by kernel_rfl) (by kernel_rfl) (fun _ _ _ h => h) (Or.inl ⟨by rfl, ?hk2⟩) (by assumption) ?rk2
                case hk2 => (intro wS hSw; (try dsimp only at hSw); (try clear hSw); go_simp <;> (with_reducible rfl))
                (try simp only [Act.put, List.setIfInBounds_toArray, List.set_cons_zero, List.set_cons_succ, List.getElem_toArray, List.getElem_cons_zero, List.getElem_cons_succ])
                refine wpAnyH_take (i := 2) (v := ?vk3) rfl (by kernel_rfl) (by kernel_rfl) (by kernel_rfl) (fun _ _ _ h => h) (Or.inl ⟨by rfl, ?hk3⟩) (by assumption) ?rk3
                case hk3 => (intro wS hSw; (try dsimp only at hSw); (try clear hSw); go_simp <;> (with_reducible rfl))
                (try simp only [Act.put, List.setIfInBounds_toArray, List.set_cons_zero, List.set_cons_succ, List.getElem_toArray, List.getElem_cons_zero, List.getElem_cons_succ])
                refine wpAnyH_take (i := 3) (v := ?vk4) rfl (by kernel_rfl) (by kernel_rfl) (by kernel_rfl) (fun _ _ _ h => h) (Or.inl ⟨by rfl, ?hk4⟩) (by assumption) ?rk4
                case hk4 => (intro wS hSw; (try dsimp only at hSw); (try clear hSw); go_simp <;> (with_reducible rfl))
                (try simp only [Act.put, List.setIfInBounds_toArray, List.set_cons_zero, List.set_cons_succ, List.getElem_toArray, List.getElem_cons_zero, List.getElem_cons_succ])
                refine wpAnyH_take (i := 4) (v := ?vk5) rfl (by kernel_rfl) (by kernel_rfl) (by kernel_rfl) (fun _ _ _ h => h) (Or.inl ⟨by rfl, ?hk5⟩) (by assumption) ?rk5
                case hk5 => (intro wS hSw; (try dsimp only at hSw); obtain ⟨x0, x1, x2, x3, x4, x5, x6, x7, x8, x9, x10⟩ := hSw.1.cells; obtain ⟨y0, y1, y2, y3, y4, y5, y6, y7, y8, y9, y10⟩ := HCE.out _ hSw.2; (try clear hSw); go_simp <;> (with_reducible rfl))
                (try simp only [Act.put, List.setIfInBounds_toArray, List.set_cons_zero, List.set_cons_succ, List.getElem_toArray, List.getElem_cons_zero, List.getElem_cons_succ])
                refine wpAnyH_take (i := 5) (v := .bool false) rfl (by kernel_rfl) (by kernel_rfl) (by kernel_rfl) (fun _ _ _ h => h) (Or.inl ⟨by rfl, ?hk6⟩) (by assumption) ?rk6
                case hk6 => (intro wS hSw; (try dsimp only at hSw); (try clear hSw); go_simp)
                (try simp only [Act.put, List.setIfInBounds_toArray, List.set_cons_zero, List.set_cons_succ, List.getElem_toArray, List.getElem_cons_zero, List.getElem_cons_succ])
                refine wpAnyH_take (i := 6) (v := ?vk7) rfl (by kernel_rfl) (by kernel_rfl) (by kernel_rfl) (fun _ _ _ h => h) (Or.inl ⟨by rfl, ?hk7⟩) (by assumption) ?rk7
                case hk7 => (intro wS hSw; (try dsimp only at hSw); (try clear hSw); go_simp <;> (with_reducible rfl))
                (try simp only [Act.put, List.setIfInBounds_toArray, List.set_cons_zero, List.set_cons_succ, List.getElem_toArray, List.getElem_cons_zero, List.getElem_cons_succ])
                refine wpAnyH_take (i := 7) (v := ?vk8) rfl (by kernel_rfl) (by kernel_rfl) (by kernel_rfl) (fun _ _ _ h => h) (Or.inl ⟨by rfl, ?hk8⟩) (by assumption) ?rk8
                case hk8 => (intro wS hSw; (try dsimp only at hSw); (try clear hSw); go_simp <;> (with_reducible rfl))
                (try simp only [Act.put, List.setIfInBounds_toArray, List.set_cons_zero, List.set_cons_succ, List.getElem_toArray, List.getElem_cons_zero, List.getElem_cons_succ])
                refine wpAnyH_take (i := 8) (v := .bool false) rfl (by kernel_rfl) (by kernel_rfl) (by kernel_rfl) (fun _ _ _ h => h) (Or.inl ⟨by rfl, ?hk9⟩) (by assumption) ?rk9
                case hk9 => (intro wS hSw; (try dsimp only at hSw); (try clear hSw); go_simp)
                (try simp only [Act.put, List.setIfInBounds_toArray, List.set_cons_zero, List.set_cons_succ, List.getElem_toArray, List.getElem_cons_zero, List.getElem_cons_succ])
                refine wpAnyH_take (i := 9) (v := ?vk10) rfl (by kernel_rfl) (by kernel_rfl) (by kernel_rfl) (fun _ _ _ h => h) (Or.inl ⟨by rfl, ?hk10⟩) (by assumption) ?rk10
                case hk10 => (intro wS hSw; (try dsimp only at hSw); (try clear hSw); go_simp <;> (with_reducible rfl))
                (try simp only [Act.put, List.setIfInBounds_toArray, List.set_cons_zero, List.set_cons_succ, List.getElem_toArray, List.getElem_cons_zero, List.getElem_cons_succ])
                refine wpAnyH_take (i := 10) (v := ?vk11) rfl (by kernel_rfl) (by kernel_rfl) (by kernel_rfl) (fun _ _ _ h => h) (Or.inl ⟨by rfl, ?hk11⟩) (by assumption) ?rk11
                case hk11 => (intro wS hSw; (try dsimp only at hSw); (try clear hSw); go_simp <;> (with_reducible rfl))
                (try simp only [Act.put, List.setIfInBounds_toArray, List.set_cons_zero, List.set_cons_succ, List.getElem_toArray, List.getElem_cons_zero, List.getElem_cons_succ])
                refine wpAnyH_take (i := 11) (v := ?vk12) rfl (by kernel_rfl) (by kernel_rfl) (by kernel_rfl) (fun _ _ _ h => h) (Or.inl ⟨by rfl, ?hk12⟩) (by assumption) ?rk12
                case hk12 => (intro wS hSw; (try dsimp only at hSw); (try clear hSw); go_simp <;> (with_reducible rfl))
                (try simp only [Act.put, List.setIfInBounds_toArray, List.set_cons_zero, List.set_cons_succ, List.getElem_toArray, List.getElem_cons_zero, List.getElem_cons_succ])
                refine wpAnyH_take (i := 12) (v := ?vk13) rfl (by kernel_rfl) (by kernel_rfl) (by kernel_rfl) (fun _ _ _ h => h) (Or.inl ⟨by rfl, ?hk13⟩) (by assumption) ?rk13
                case hk13 => (intro wS hSw; (try dsimp only at hSw); (try clear hSw); go_simp <;> (with_reducible rfl))
                (try simp only [Act.put, List.setIfInBounds_toArray, List.set_cons_zero, List.set_cons_succ, List.getElem_toArray, List.getElem_cons_zero, List.getElem_cons_succ])
                refine wpAnyH_ready (rs := [13]) (by kernel_rfl) (by simp) ?_
                refine AllReadyH.cons rfl (fun K hK => ?_) AllReadyH.nil
                go_simp
                refine (CLo.out _ HR.out.1).mono ?_; rintro r w2 ⟨rfl, hb2⟩
                have R2 := Lib.hid (And.intro (HR.out.1.low hb2) (row_low HR.out.2.1 hb2))
                have Q2 := HR.out.2.2.low hb2
                refine hK.out _ _ ⟨Q2, R2.out.2⟩ (fun hHeld => ?_)
                (try clear hK K)
                (try simp only [Act.put, List.setIfInBounds_toArray, List.set_cons_zero, List.set_cons_succ, List.getElem_toArray, List.getElem_cons_zero, List.getElem_cons_succ])
                refine wpAnyH_take (i := 14) (v := ?vk14) rfl (by kernel_rfl) (by kernel_rfl) (by kernel_rfl) (fun _ _ _ h => h) (Or.inl ⟨by rfl, ?hk14⟩) (by assumption) ?rk14
                case hk14 => (intro wS hSw; (try dsimp only at hSw); (try clear hSw); go_simp <;> (with_reducible rfl))
                (try simp only [Act.put, List.setIfInBounds_toArray, List.set_cons_zero, List.set_cons_succ, List.getElem_toArray, List.getElem_cons_zero, List.getElem_cons_succ])
                refine wpAnyH_take (i := 15) (v := .bool false) rfl (by kernel_rfl) (by kernel_rfl) (by kernel_rfl) (fun _ _ _ h => h) (Or.inl ⟨by rfl, ?hk15⟩) (by assumption) ?rk15
                case hk15 => (intro wS hSw; (try dsimp only at hSw); (try clear hSw); go_simp)
                (try simp only [Act.put, List.setIfInBounds_toArray, List.set_cons_zero, List.set_cons_succ, List.getElem_toArray, List.getElem_cons_zero, List.getElem_cons_succ])
                refine wpAnyH_take (i := 16) (v := ?vk16) rfl (by kernel_rfl) (by kernel_rfl) (by kernel_rfl) (fun _ _ _ h => h) (Or.inl ⟨by rfl, ?hk16⟩) (by assumption) ?rk16
                case hk16 => (intro wS hSw; (try dsimp only at hSw); (try clear hSw); go_simp <;> (with_reducible rfl))
                (try simp only [Act.put, List.setIfInBounds_toArray, List.set_cons_zero, List.set_cons_succ, List.getElem_toArray, List.getElem_cons_zero, List.getElem_cons_succ])
                refine wpAnyH_done (by kernel_rfl) ?_ _
                clear hHeld Q2 HR CLo
                go_wp2_with fail
                go_roundw
                case rel => exact ⟨_, a + 1, rfl, by go_num, by omega, R2.out.1, R2.out.2⟩
                case measure => (simp [RowKit.intOf] <;> omega)
            · obtain rfl : (dpgs l (s : Int)).length = a := by omega
              clear ho
              have CLo := Lib.hid (fun (W : World) (h : PL w W hb sb 3 20 n L (fun k => k = rb) (.slice ao l.length cap) l (.slice (some ⟨g2, 0, none⟩) n cap2) LT U rb) => (show (Calls Tryz.prog 18 #[.pointer (some ⟨hb, 0, none⟩)] W fun e w' => e = .returned (.int .i64 (Hp.lngL L n : Int)) ∧ Below W.heap.size W w') from by obtain ⟨bm, V, hr⟩ := h.ky.read; exact hlongest_any W hr))
              have hmul : IntKind.i64.wrap (4 * (Hp.lngL L n : Int)) = 4 * (Hp.lngL L n : Int) := by have := HLG.out; rw [IntKind.wrap_i64]; omega
              have hfn := find_len HT6.out (s : Int) a2
              have CF := P.ky.find (s : Int) a2 (by omega) (by omega) v0 v1
              rw [is_at HT6.out a2 HB.out] at CF
              have CA := Lib.hid (fun (W : World) (h : PL w W hb sb 3 20 n L (fun k => k = rb) (.slice ao l.length cap) l (.slice (some ⟨g2, 0, none⟩) n cap2) LT U rb) => dat_any 3 20 (s : Int) a2 v0 v1 W h.dh)
              generalize Hp.findN 3 n L (s : Int) a2 = FN at *
              generalize Hp.findV 3 n L (s : Int) a2 = FV at *
              generalize atI l (s : Int) a2 = AT at *
              generalize (Hp.lngL L n : Int) = lng at *
              have hng : ¬ 4 * lng < FN := by omega
              have CF := Lib.hid CF
              have HP := Lib.hid P
              clear P hfn
              by_cases hat : 0 ≤ AT
              · rw [decide_eq_true hat] at CF
                go_wp2_with fail
                refine CF.out.mono ?_; rintro e w7 ⟨rfl, hb7⟩
                have bA : Below w7.heap.size w7 (w7.alloc (.cells #[.int .u64 FV.va, .int .i64 FV.sz, .int .u64 FV.pa, .bool FV.att.write, .bool FV.att.priv, .bool FV.att.exec, .bool FV.att.lock, .bool FV.att.global, .bool FV.att.quiet, .bool FV.ref, .bool FV.mod] 38)) := (Below.refl _ _).alloc (Nat.le_refl _) _
                have P8 := (HP.out.low hb7).low bA
                clear HP CF hb7 bA
                obtain ⟨x0, x1, x2, x3⟩ := P8.cs
                go_wp2_with fail
                generalize w7.alloc _ = w8 at *
                refine (CA.out _ P8).mono ?_; rintro e w9 ⟨rfl, hb9⟩
                have P9 := P8.low hb9
                clear P8 CA hb9 x0 x1 x2 x3
                go_wp2_with fail
                refine (CLo.out _ P9).mono ?_; rintro e w10 ⟨rfl, hb10⟩
                have P10 := P9.low hb10
                clear P9 CLo hb10
                go_wp2_with fail
                go_roundw
                case rel => exact ⟨_, s + 1, rfl, by go_num, by omega, P10⟩
                case measure => (simp [RowKit.intOf] <;> omega)
              · rw [decide_eq_false hat] at CF
                have hat2 : AT < 0 := by omega
                go_wp2_with fail
                refine CF.out.mono ?_; rintro e w7 ⟨rfl, hb7⟩
                have bA : Below w7.heap.size w7 (w7.alloc (.cells #[.int .u64 FV.va, .int .i64 FV.sz, .int .u64 FV.pa, .bool FV.att.write, .bool FV.att.priv, .bool FV.att.exec, .bool FV.att.lock, .bool FV.att.global, .bool FV.att.quiet, .bool FV.ref, .bool FV.mod] 38)) := (Below.refl _ _).alloc (Nat.le_refl _) _
                have P8 := (HP.out.low hb7).low bA
                clear HP CF hb7 bA
                obtain ⟨x0, x1, x2, x3⟩ := P8.cs
                go_wp2_with fail
                generalize w7.alloc _ = w8 at *
                refine (CA.out _ P8).mono ?_; rintro e w9 ⟨rfl, hb9⟩
                have P9 := P8.low hb9
                clear P8 CA hb9 x0 x1 x2 x3
                go_wp2_with fail
                refine (CLo.out _ P9).mono ?_; rintro e w10 ⟨rfl, hb10⟩
                have P10 := P9.low hb10
                clear P9 CLo hb10
                go_wp2_with fail
                go_roundw
                case rel => exact ⟨_, s + 1, rfl, by go_num, by omega, P10⟩
                case measure => (simp [RowKit.intOf] <;> omega)
        · obtain rfl : 3 = s := by omega
          have hlow := P.ky.low
          clear P
          go_wp2_with fail
          go_meet
          exact hlow
    case rest =>
      go_wp2_with fail
      refine (CL.out _).mono ?_; rintro e w4 ⟨rfl, hb4⟩
      go_wp2_with fail
      go_ret
      exact ⟨rfl, lo_step hcut hb4⟩

/-! ### The row -/
set_option maxRecDepth 100000 in
theorem lifted (os : Os) (started : os.Started) (H : Type) (enc : TypeId × Value → H) :
    ReturnsInHanded {} Tryz.checked os 5 .any (Rows.hatFindsSpec.pre6 enc Tryz.prog Tryz.f5 Rows.hatFindsRow.domain false) (Rows.hatFindsSpec.post enc Tryz.prog Tryz.f5 false true false false) := by
  refine returnsInHanded_of_change (C := Tryz.checked) own started (by kernel_rfl) Tryz.func5
    (ChangeSpec.witness6 (enc := enc) (C := Tryz.checked) false ⟨#[], #[.slice none 0 0, .int .u64 0, .int .u64 0], []⟩ 8 (by kernel_rfl) (by kernel_rfl) (by kernel_rfl) (by kernel_rfl)) ?_
  intro W base args ds gs before hval0 hW hcnd _
  have hval : ∀ (j : Nat) t v, Tryz.f5.params[j]? = some t → args[j]? = some v → Value.okWide Tryz.prog W .any base t v := hval0
  have hW' := hW
  obtain ⟨p, q, hA0, hV, rfl, hfz, hnd⟩ := hW
  have hA : DataW.TrodAll enc Tryz.prog W 0 (fun _ => true) true Tryz.f5.params.toList args.toList ds p := hA0
  rw [Tryz.params5] at hA hval
  obtain ⟨v0, vs0, d0, ds0, p0, q0, hargs, rfl, rfl, h0, r0⟩ := trodAll_cons hA
  obtain ⟨v1, vs1, d1, ds1, p1, q1, rfl, rfl, rfl, h1, r1⟩ := trodAll_cons r0
  obtain ⟨v2, vs2, d2, ds2, p2, q2, rfl, rfl, rfl, h2, r2⟩ := trodAll_cons r1
  obtain ⟨rfl, rfl, rfl⟩ := trodAll_nil r2
  obtain rfl : args = #[v0, v1, v2] := by cases args; simp_all
  obtain ⟨rfl, rfl⟩ := trodVars_none hV
  obtain ⟨s0, len0, cap0, rfl⟩ := okWide_slice Tryz.underlying22 (hval 0 22 v0 rfl rfl)
  have k0 := h0
  have lt0 : ∀ x ∈ p0, x.block < W.heap.size := by obtain ⟨m, hm⟩ := k0; exact DataW.trod_lt m _ _ _ hm
  have w0 : Hp.IsDeeds W s0 len0 cap0 := by
    obtain ⟨fuel, hf⟩ := h0
    exact Hp.open_deeds hf
  obtain ⟨a1, rfl, rfl, rfl, w1⟩ := open_int Tryz.underlying34 (hval 1 34 v1 rfl rfl) h1
  obtain ⟨a2, rfl, rfl, rfl, w2⟩ := open_int Tryz.underlying34 (hval 2 34 v2 rfl rfl) h2
  clear hA0 hval0
  simp only [List.append_nil] at hW'
  refine (walk W s0 len0 cap0 w0 a1 w1 a2 w2).mono fun e W' ⟨he, hg⟩ => ?_
  subst he
  exact ⟨_, rfl, _, _, _, [], _, [], hW', trodAll_mk1 (shut_bool Tryz.underlying4 _), (trodAll_cons_mk (Below.trod Hp.laidOut (by kernel_rfl) (of_decide_eq_true (by kernel_rfl)) k0 hg lt0) (trodAll_cons_mk (shut_int Tryz.underlying34 w1) (trodAll_cons_mk (shut_int Tryz.underlying34 w2) trodAll_mk0))), rfl, hg.frame _, fun h => by cases h⟩

theorem over : Rows.hatFindsRow.holds Tryz.pinned (OpenSpec.ofChange Rows.hatFindsSpec) :=
  OpenClaim.holds_of_wide 5 Tryz.f5 rfl rfl rfl rfl rfl rfl rfl ⟨rfl, rfl, rfl, rfl, rfl⟩ rfl rfl rfl rfl rfl (by kernel_rfl) Tryz.func5 (by kernel_rfl)
    (of_decide_eq_true (by kernel_rfl)) (by unfold Func.isWrapper; first | (rw [if_pos (by decide +kernel)]; kernel_rfl) | (rw [if_neg (by decide +kernel)]; exact ⟨rfl, rfl⟩))
    (fun os started H enc _ => lifted os started H enc)

theorem proved : Rows.HatFindsSaid :=
  over
#print axioms proved
end Go.Proofs.YtffpfceclhogoaaGreat.hatFinds
