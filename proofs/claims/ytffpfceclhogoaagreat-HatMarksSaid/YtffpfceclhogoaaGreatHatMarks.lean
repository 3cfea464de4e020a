/-
  HatMarks: for any deeds, any page of any space, any offset and any mark the law returns true, and its arguments read as before. Conditions: none.
-/
import Derived.Test.YtffpfceclhogoaaGreatRows
import Derived.WalkKit
import Derived.ProofKit
import Derived.OpenShut
import Derived.Test.YtffpfceclhogoaaGreatGW
import Derived.Deep.CutBlock
import Derived.Deep.DeepCutAuto
import Derived.Deep.RegionHeld3
import Derived.Test.YtffpfceclhogoaaGreatGQ
namespace Go.Proofs.YtffpfceclhogoaaGreat.hatMarks
open Fld Hs Hp
open Go.ChangeShapes Go.WideShapes Go.ChangeAt Go.RowKit Go.Deep Go.Maps
set_option linter.unusedVariables false

theorem own : ownKnob Tryz.prog.godebug = none := by kernel_rfl

theorem pat_in {P : List Pg} {i : Nat} (h : i < P.length) : pat P i ∈ P := by simp [pat, h]
theorem dp_val {ns bl : Int} {n : Nat} {L : Nat → List Hp.Bk} {l : List SPg} {LT : Nat → List Hs.Bk} (T : HT ns bl n L l LT) {s : Int} {i : Nat} (hi : i < (dpgs l s).length) : Val (pat (dpgs l s) i) := by
  obtain ⟨x, hx, _, e⟩ := T.dpgs_mem.1 (pat_in hi)
  rw [← e]; exact T.val x hx
theorem base_in {q : Pg} (h : Val q) {r : Int} (r0 : 0 ≤ r) (r1 : r < bytesI q.sz) : baseI (q.va + r) q.sz = q.va := by
  have ha := h.a
  have hb := bytes_pos h.z
  unfold baseI
  rw [h.z, if_pos rfl]
  generalize bytesI q.sz = b at *
  have h1 := Int.mul_ediv_add_emod q.va b
  rw [ha, Int.add_zero] at h1
  rw [← h1, Int.add_comm, Int.add_mul_ediv_left _ _ (by omega), Int.ediv_eq_zero_of_lt r0 r1, Int.zero_add, Int.mul_comm]
theorem look_le {n : Nat} {LT : Nat → List Hs.Bk} (hn : 1 ≤ n) (s va : Int) : ∀ z : Nat, 0 ≤ dlookN n LT s va z ∧ dlookN n LT s va z ≤ (z : Int) * (Hs.lngL LT n : Int)
  | 0 => by simp [dlookN]
  | z + 1 => by
    have ih := look_le (LT := LT) hn s va z
    have h := hgetN_bd n LT hn (kz s va z)
    have e : ((z + 1 : Nat) : Int) * (Hs.lngL LT n : Int) = (z : Int) * (Hs.lngL LT n : Int) + (Hs.lngL LT n : Int) := by rw [Int.natCast_add, Int.add_mul]; simp
    rw [e]
    show 0 ≤ dlookN n LT s va z + _ ∧ dlookN n LT s va z + _ ≤ _
    omega
theorem look_four {n : Nat} {LT : Nat → List Hs.Bk} (hn : 1 ≤ n) (s va : Int) (z : Nat) (hz : z ≤ 4) : 0 ≤ dlookN n LT s va z ∧ dlookN n LT s va z ≤ 4 * (Hs.lngL LT n : Int) := by
  have h := look_le (LT := LT) hn s va z
  have : (z : Int) * (Hs.lngL LT n : Int) ≤ 4 * (Hs.lngL LT n : Int) := Int.mul_le_mul_of_nonneg_right (by omega) (by omega)
  omega
theorem find_len {ns bl : Int} {n : Nat} {L : Nat → List Hp.Bk} {l : List SPg} {LT : Nat → List Hs.Bk} (T : HT ns bl n L l LT) (s va : Int) : 0 ≤ Hp.findN ns n L s va ∧ Hp.findN ns n L s va ≤ 4 * (Hp.lngL L n : Int) := by
  rw [T.findN, ← T.lng]
  unfold dfN
  split
  · split
    · rename_i hp
      have hz := (T.val _ (sat_mem hp)).z
      refine look_four T.n1 s va _ ?_
      unfold sizeB at hz; simp at hz; omega
    · exact look_four T.n1 s va 4 (Nat.le_refl _)
  · constructor <;> omega
theorem find_at {ns bl : Int} {n : Nat} {L : Nat → List Hp.Bk} {l : List SPg} {LT : Nat → List Hs.Bk} (T : HT ns bl n L l LT) {s va : Int} {x : SPg} (hx : x ∈ l) (hi : isAt s va x = true) : Hp.findV ns n L s va = x.p ∧ Hp.findB ns n L s va = true := by
  have hs := (isAt_iff.1 hi).1
  have hb := T.sp x hx
  have hB : isB ns s = true := by unfold isB; rw [← hs]; simp; omega
  have hp := pos_iff.2 ⟨x, hx, hi⟩
  have hd : dfB ns l s va = true := by unfold dfB; rw [hB]; simp [hp]
  refine ⟨?_, by rw [T.findB, hd]⟩
  rw [T.findV]; unfold dfV; rw [hd, if_pos rfl, T.at hx hi]
theorem why_at {ns bl : Int} {n : Nat} {L : Nat → List Hp.Bk} {l : List SPg} {LT : Nat → List Hs.Bk} (T : HT ns bl n L l LT) {s va : Int} {x : SPg} (hx : x ∈ l) (hi : isAt s va x = true) : whyE ns l s va = 0 := by
  have hs := (isAt_iff.1 hi).1
  have hb := T.sp x hx
  have hB : isB ns s = true := by unfold isB; rw [← hs]; simp; omega
  unfold whyE
  rw [hB, if_neg (by simp), if_neg (fun hn => at_neg.1 hn (pos_iff.2 ⟨x, hx, hi⟩))]
theorem why_no {l : List SPg} {s va : Int} (hB : isB 3 s = true) (h : ∀ x ∈ l, x.sp ≠ s) : whyE 3 l s va = 10 := by
  unfold whyE
  rw [hB, if_neg (by simp), if_pos (at_neg.2 (fun hp => by obtain ⟨x, hx, hi⟩ := pos_iff.1 hp; exact h x hx (isAt_iff.1 hi).1))]
theorem ch_mem {ns bl : Int} {n : Nat} {L : Nat → List Hp.Bk} {l : List SPg} {LT : Nat → List Hs.Bk} (T : HT ns bl n L l LT) {s va : Int} {x : SPg} (hx : x ∈ l) (hi : isAt s va x = true) (f : Pg → Pg) : (⟨s, f x.p⟩ : SPg) ∈ chL ns l s va f := by
  have hp := pos_iff.2 ⟨x, hx, hi⟩
  unfold chL
  rw [if_pos (why_at T hx hi), T.at hx hi]
  exact List.mem_of_getElem? (i := posS l s va) (by simp [hp])
theorem dp_cnt (s : Int) : ∀ (l : List SPg) (out : List Pg), (l.foldl (stpP s) out).length = out.length + ((l.map SPg.sp).filter (fun a => decide (a = s))).length
  | [], _ => rfl
  | x :: l, out => by
    rw [List.foldl_cons, dp_cnt s l]
    unfold stpP
    by_cases h : x.sp = s
    · rw [if_pos h, insP_len]; simp [h]; omega
    · rw [if_neg h]; simp [h]
theorem ch_cnt (ns : Int) (l : List SPg) (s va : Int) (f : Pg → Pg) (t : Int) : (dpgs (chL ns l s va f) t).length = (dpgs l t).length := by
  have e : (chL ns l s va f).map SPg.sp = l.map SPg.sp := by
    unfold chL
    split
    · rename_i hw
      have hp := why_pos hw
      have hs : (sat l (posS l s va)).sp = s := (isAt_iff.1 (first_yes _ _ hp)).1
      have h1 := sat_eq l _ hp
      apply List.ext_getElem?
      intro i
      by_cases hi : i = posS l s va
      · subst hi
        rw [List.getElem?_map, List.getElem?_map, List.getElem?_set_self hp, h1, Option.map_some, Option.map_some, hs]
      · rw [List.getElem?_map, List.getElem?_map, List.getElem?_set_ne (fun e => hi e.symm)]
    · rfl
  unfold dpgs
  rw [dp_cnt, dp_cnt, e]
def fM (md : Bool) (y : Pg) : Pg := { y with ref := true, mod := y.mod || md }
def fC (y : Pg) : Pg := { y with ref := false, mod := false }
theorem fM_val (md : Bool) (q : Pg) (h : Val q) : Val (fM md q) ∧ (fM md q).va = q.va ∧ (fM md q).sz = q.sz := ⟨⟨⟨h.w.v0, h.w.v1, h.w.z0, h.w.z1, h.w.p0, h.w.p1⟩, h.z, h.a⟩, rfl, rfl⟩
theorem fC_val (q : Pg) (h : Val q) : Val (fC q) ∧ (fC q).va = q.va ∧ (fC q).sz = q.sz := ⟨⟨⟨h.w.v0, h.w.v1, h.w.z0, h.w.z1, h.w.p0, h.w.p1⟩, h.z, h.a⟩, rfl, rfl⟩
/-! ### The walk -/
set_option maxHeartbeats 8000000 in
set_option maxRecDepth 100000 in
theorem walk (w : World) (s0 : Option Addr) (len0 cap0 : Nat) (w0 : Hp.IsDeeds w s0 len0 cap0) (a1 : Int) (w1 : (Lit.int .i64 a1).wf = true) (a2 : Int) (w2 : (Lit.int .i64 a2).wf = true) (a3 : Int) (w3 : (Lit.int .u64 a3).wf = true) (b4 : Bool) :
    Calls Tryz.prog 7 #[.slice s0 len0 cap0, .int .i64 a1, .int .i64 a2, .int .u64 a3, .bool b4] w fun e w' => e = .returned (.bool true) ∧ Below w.heap.size w w' := by
  have wk := w0
  obtain ⟨a10, a11⟩ := bounds_i64 w1
  obtain ⟨a20, a21⟩ := bounds_i64 w2
  obtain ⟨o0, o1⟩ := bounds_u64 w3
  have CN := Lib.hid (fun w => hnew_any 3 20 4 (by decide) (by decide) (by decide) (by decide) (by decide) (by decide) w)
  have CD := Lib.hid (fun w => dnew_any 3 20 4 (by decide) w)
  rw [show min (max (3 : Int) 0) 64 = 3 from by decide, show max (20 : Int) 0 = 20 from by decide] at CD
  have CL := Lib.hid (fun w => klives_any w)
  clear w0 w1 w2 w3
  go_enter Tryz.func7, Tryz.ntmps7
  go_wp2_with fail
  refine (CN.out _).mono ?_; rintro e w1 ⟨hb, sb, rfl, hN⟩
  have hN : NewHat w w1 hb sb 4 3 20 := hN
  clear CN
  go_wp2_with fail
  refine (CD.out _).mono ?_; rintro e w2 ⟨s2, U0, rfl, hD, hb2⟩
  have hD : DH w2 (.slice none 0 0) [] s2 4 (fun _ => []) U0 := hD
  obtain ⟨_, g0, cp0, rfl⟩ := hD.shape
  have P0 := PL.begin hN hb2 hD (by decide) (by decide) (by decide)
  clear CD hN hb2 hD
  go_upto_block 0 with fail
  generalize World.alloc w2 _ = w3 at *
  generalize w2.heap.size = rb at *
  go_cut [] (fun wx => ∃ (n : Nat) (L : Nat → List Hp.Bk) (v : Value) (l : List SPg) (t : Value) (LT : Nat → List Hs.Bk) (U : Nat → Value), PL w wx hb sb 3 20 n L (fun k => k = rb) v l t LT U rb)
  case first =>
    go_wp2_with fail
    go_loopw [13] (fun i wr => ∃ (wx : World) (j n : Nat) (L : Nat → List Hp.Bk) (v : Value) (l : List SPg) (t : Value) (LT : Nat → List Hs.Bk) (U : Nat → Value), wx = wr ∧ i = .int .i64 (j : Int) ∧ j ≤ len0 ∧ j ≤ 20 ∧ PL w wx hb sb 3 20 n L (fun k => k = rb) v l t LT U rb) (fun i _ => len0 - (RowKit.intOf i).toNat)
    case atStart => exact ⟨_, 0, _, _, _, _, _, _, _, rfl, rfl, Nat.zero_le _, Nat.zero_le _, P0⟩
    case round =>
      clear P0
      obtain ⟨wx, j, n, L, v, l, t, LT, U, rfl, rfl, hj, hj2, P⟩ := hrel
      obtain ⟨⟨ao, cap, rfl⟩, g2, cap2, rfl⟩ := P.dh.shape
      by_cases hj1 : j < len0 ∧ j < 20
      · obtain ⟨ib, off, d, rfl, hlc, hcm, hdw, hdr⟩ := deed_at wk j hj1.1
        unfold maxLen at hcm
        have HP := Lib.hid P
        have h1' : (j : Int) < (len0 : Int) := by omega
        have h2' : (j : Int) < 20 := by omega
        have h3' : (0 : Int) ≤ (j : Int) := by omega
        clear P hj1
        go_upto_region 8 with fail
        go_cut [14, 15] (fun a b wx => ∃ nb n' L' v' l' t' LT' U', a = .pointer (some ⟨nb, 0, none⟩) ∧ b = .bool true ∧ PM w wx hb sb 3 20 n' L' (fun k => k = rb) v' l' t' LT' U' rb nb (.int .i64 3) (.slice ao l.length cap) (.int .i64 20) (.slice (some ⟨g2, 0, none⟩) n cap2) ∧ ∀ x : SPg, x.sp ≠ d.sp → (x ∈ l' ↔ x ∈ l))
        case first =>
          have HP1 := Lib.hid (HP.out.low (Below.refl _ _).drew)
          have hS : _ ∧ _ := ⟨HP1.out.bx, range_low hdr HP1.out.ky.low⟩
          clear HP
          refine wp_region_held_drew (S := fun wS => wS.heap[rb]? = some (.cells #[.int .i64 3, .slice ao l.length cap, .int .i64 20, .slice (some ⟨g2, 0, none⟩) n cap2] 30 (0, 0)) ∧ wS.rangeAt ib (off + j * 24) [.int .i64 d.kind, .int .i64 d.sp, .int .i64 d.n, .int .u64 d.p.va, .int .i64 d.p.sz, .int .u64 d.p.pa, .bool d.p.att.write, .bool d.p.att.priv, .bool d.p.att.exec, .bool d.p.att.lock, .bool d.p.att.global, .bool d.p.att.quiet, .bool d.p.ref, .bool d.p.mod, .int .u64 d.va, .bool d.att.write, .bool d.att.priv, .bool d.att.exec, .bool d.att.lock, .bool d.att.global, .bool d.att.quiet, .bool d.mod, .bool d.raw, .bool d.near]) (by kernel_rfl) hS (fun hHeld => ?_)
          clear hS
          generalize World.drew wx = W1 at HP1 hHeld ⊢
          refine wpAnyH_take (i := 0) (v := ?vt1) rfl (by kernel_rfl) (by kernel_rfl) (by kernel_rfl) (fun _ _ _ h => h) (Or.inl ⟨by rfl, ?ht1⟩) (by assumption) ?rt1
          case ht1 => (intro wS hSw; (try dsimp only at hSw); (try clear hSw); go_simp <;> (with_reducible rfl))
          (try simp only [Act.put, List.setIfInBounds_toArray, List.set_cons_zero, List.set_cons_succ, List.getElem_toArray, List.getElem_cons_zero])
          refine wpAnyH_take (i := 1) (v := ?vt2) rfl (by kernel_rfl) (by kernel_rfl) (by kernel_rfl) (fun _ _ _ h => h) (Or.inl ⟨by rfl, ?ht2⟩) (by assumption) ?rt2
          case ht2 => (intro wS hSw; (try dsimp only at hSw); obtain ⟨x0, x1, x2, x3, _⟩ := four_H hSw.1; (try clear hSw); go_simp <;> (with_reducible rfl))
          (try simp only [Act.put, List.setIfInBounds_toArray, List.set_cons_zero, List.set_cons_succ, List.getElem_toArray, List.getElem_cons_zero, List.getElem_cons_succ])
          refine wpAnyH_take (i := 2) (v := ?vt3) rfl (by kernel_rfl) (by kernel_rfl) (by kernel_rfl) (fun _ _ _ h => h) (Or.inl ⟨by rfl, ?ht3⟩) (by assumption) ?rt3
          case ht3 => (intro wS hSw; (try dsimp only at hSw); (try clear hSw); go_simp <;> (with_reducible rfl))
          (try simp only [Act.put, List.setIfInBounds_toArray, List.set_cons_zero, List.set_cons_succ, List.getElem_toArray, List.getElem_cons_zero, List.getElem_cons_succ])
          refine wpAnyH_take (i := 3) (v := ?vt4) rfl (by kernel_rfl) (by kernel_rfl) (by kernel_rfl) (fun _ _ _ h => h) (Or.inl ⟨by rfl, ?ht4⟩) (by assumption) ?rt4
          case ht4 => (intro wS hSw; (try dsimp only at hSw); (try clear hSw); go_simp <;> (with_reducible rfl))
          (try simp only [Act.put, List.setIfInBounds_toArray, List.set_cons_zero, List.set_cons_succ, List.getElem_toArray, List.getElem_cons_zero, List.getElem_cons_succ])
          refine wpAnyH_take (i := 4) (v := ?vt5) rfl (by kernel_rfl) (by kernel_rfl) (by kernel_rfl) (fun _ _ _ h => h) (Or.inl ⟨by rfl, ?ht5⟩) (by assumption) ?rt5
          case ht5 => (intro wS hSw; (try dsimp only at hSw); (try clear hSw); go_simp <;> (with_reducible rfl))
          (try simp only [Act.put, List.setIfInBounds_toArray, List.set_cons_zero, List.set_cons_succ, List.getElem_toArray, List.getElem_cons_zero, List.getElem_cons_succ])
          refine wpAnyH_take (i := 5) (v := .agg #[.int .i64 d.kind, .int .i64 d.sp, .int .i64 d.n, .int .u64 d.p.va, .int .i64 d.p.sz, .int .u64 d.p.pa, .bool d.p.att.write, .bool d.p.att.priv, .bool d.p.att.exec, .bool d.p.att.lock, .bool d.p.att.global, .bool d.p.att.quiet, .bool d.p.ref, .bool d.p.mod, .int .u64 d.va, .bool d.att.write, .bool d.att.priv, .bool d.att.exec, .bool d.att.lock, .bool d.att.global, .bool d.att.quiet, .bool d.mod, .bool d.raw, .bool d.near]) rfl (by kernel_rfl) (by kernel_rfl) (by kernel_rfl) (fun _ _ _ h => h) (yieldsIf_load_mid (by rfl) 40 (.tmp 47) rfl ib (off + j * 24) rfl [.int .i64 d.kind, .int .i64 d.sp, .int .i64 d.n, .int .u64 d.p.va, .int .i64 d.p.sz, .int .u64 d.p.pa, .bool d.p.att.write, .bool d.p.att.priv, .bool d.p.att.exec, .bool d.p.att.lock, .bool d.p.att.global, .bool d.p.att.quiet, .bool d.p.ref, .bool d.p.mod, .int .u64 d.va, .bool d.att.write, .bool d.att.priv, .bool d.att.exec, .bool d.att.lock, .bool d.att.global, .bool d.att.quiet, .bool d.mod, .bool d.raw, .bool d.near] _ (fun w hS => hS.2) Tryz.underlying40 rfl (by kernel_rfl)) (by assumption) ?_
          (try simp only [Act.put, List.setIfInBounds_toArray, List.set_cons_zero, List.set_cons_succ, List.getElem_toArray, List.getElem_cons_zero, List.getElem_cons_succ])
          refine wpAnyH_ready (rs := [6, 10]) (by kernel_rfl) (by simp) ?_
          refine AllReadyH.cons rfl (fun K hK => ?_) ?_
          · go_simp
            refine (Hp.does_any d hdw HP1.out.ky HP1.out.dh HP1.out.ht).mono ?_; rintro r w2 ⟨n', L', v', l', t', LT', U', rfl, K2, D2, T2, kp2, hot⟩
            obtain ⟨⟨ao5, cp5, rfl⟩, g5, cp6, rfl⟩ := D2.shape
            have bx2 := (kp2.1 rb HP1.out.gb).trans HP1.out.bx
            have HH := Lib.hid (And.intro K2 (And.intro D2 (And.intro T2 hot)))
            clear K2 D2 T2 kp2 hot
            refine hK.out _ _ ⟨bx2, range_low hdr HH.out.1.low⟩ (fun hHeld => ?_)
            (try clear hK K)
            (try simp only [Act.put, List.setIfInBounds_toArray, List.set_cons_zero, List.set_cons_succ, List.getElem_toArray, List.getElem_cons_zero, List.getElem_cons_succ])
            refine wpAnyH_take (i := 7) (v := ?vt7) rfl (by kernel_rfl) (by kernel_rfl) (by kernel_rfl) (fun _ _ _ h => h) (Or.inl ⟨by rfl, ?ht7⟩) (by assumption) ?rt7
            case ht7 => (intro wS hSw; (try dsimp only at hSw); (try clear hSw); go_simp <;> (with_reducible rfl))
            (try simp only [Act.put, List.setIfInBounds_toArray, List.set_cons_zero, List.set_cons_succ, List.getElem_toArray, List.getElem_cons_zero, List.getElem_cons_succ])
            refine wpAnyH_take (i := 8) (v := ?vt8) rfl (by kernel_rfl) (by kernel_rfl) (by kernel_rfl) (fun _ _ _ h => h) (Or.inl ⟨by rfl, ?ht8⟩) (by assumption) ?rt8
            case ht8 => (intro wS hSw; (try dsimp only at hSw); (try clear hSw); go_simp <;> (with_reducible rfl))
            (try simp only [Act.put, List.setIfInBounds_toArray, List.set_cons_zero, List.set_cons_succ, List.getElem_toArray, List.getElem_cons_zero, List.getElem_cons_succ])
            refine wpAnyH_take (i := 9) (v := ?vt9) rfl (by kernel_rfl) (by kernel_rfl) (by kernel_rfl) (fun _ _ _ h => h) (Or.inl ⟨by rfl, ?ht9⟩) (by assumption) ?rt9
            case ht9 => (intro wS hSw; (try dsimp only at hSw); (try clear hSw); go_simp <;> (with_reducible rfl))
            (try simp only [Act.put, List.setIfInBounds_toArray, List.set_cons_zero, List.set_cons_succ, List.getElem_toArray, List.getElem_cons_zero, List.getElem_cons_succ])
            refine wpAnyH_ready (rs := [10]) (by kernel_rfl) (by simp) ?_
            refine AllReadyH.cons rfl (fun K hK => ?_) AllReadyH.nil
            go_simp
            have rA := heap_alloc_new w2 (.cells #[.int .i64 0, .slice none 0 0, .int .i64 0, .slice none 0 0] 30)
            have bA : Below w2.heap.size w2 (w2.alloc (.cells #[.int .i64 0, .slice none 0 0, .int .i64 0, .slice none 0 0] 30)) := (Below.refl _ _).alloc (Nat.le_refl _) _
            have hlA := (Array.getElem?_eq_some_iff.1 rA).1
            have KA := HH.out.1.add bA (G := fun k => (fun k => k = rb) k ∨ k = w2.heap.size) (fun k h => h.elim .inl (fun e => .inr ⟨by omega, by omega⟩))
            generalize w2.alloc (.cells #[.int .i64 0, .slice none 0 0, .int .i64 0, .slice none 0 0] 30) = WA at rA bA KA hlA ⊢
            have HKA := Lib.hid KA
            refine hK.out _ _ ⟨blk_low bx2 bA, range_low hdr HKA.out.low⟩ (fun hHeld => ?_)
            (try clear hK K)
            (try simp only [Act.put, List.setIfInBounds_toArray, List.set_cons_zero, List.set_cons_succ, List.getElem_toArray, List.getElem_cons_zero, List.getElem_cons_succ])
            refine wpAnyH_ready (rs := [11]) (by kernel_rfl) (by simp) ?_
            refine AllReadyH.cons rfl (fun K hK => ?_) AllReadyH.nil
            obtain ⟨n0, n1, n2, n3, nf⟩ := four_H rA
            have hlb := (Array.getElem?_eq_some_iff.1 bx2).1
            have hlo := HH.out.1.low.size
            have HM := Lib.hid (PM.of HKA.out (HH.out.2.1.low bA) HH.out.2.2.1 (blk_low bx2 bA) rA (.inr rfl) (fun k h => .inl h) HP1.out.gb HP1.out.lo hlo (by omega))
            clear hlb hlo
            go_simp
            refine hK.out _ _ ⟨HM.out.bx, range_low hdr HM.out.ky.low⟩ (fun hHeld => ?_)
            (try clear hK K)
            (try simp only [Act.put, List.setIfInBounds_toArray, List.set_cons_zero, List.set_cons_succ, List.getElem_toArray, List.getElem_cons_zero, List.getElem_cons_succ])
            refine wpAnyH_take (i := 12) (v := ?vt10) rfl (by kernel_rfl) (by kernel_rfl) (by kernel_rfl) (fun _ _ _ h => h) (Or.inl ⟨by rfl, ?ht10⟩) (by assumption) ?rt10
            case ht10 => (intro wS hSw; (try dsimp only at hSw); (try clear hSw); go_simp <;> (with_reducible rfl))
            (try simp only [Act.put, List.setIfInBounds_toArray, List.set_cons_zero, List.set_cons_succ, List.getElem_toArray, List.getElem_cons_zero, List.getElem_cons_succ])
            refine wpAnyH_done (by kernel_rfl) ?_ _
            go_wp2_with fail
            go_meet
            exact ⟨_, _, _, _, _, _, _, _, rfl, rfl, HM.out, HH.out.2.2.2⟩
          refine AllReadyH.cons rfl (fun K hK => ?_) ?_
          · go_simp
            have rA := heap_alloc_new W1 (.cells #[.int .i64 0, .slice none 0 0, .int .i64 0, .slice none 0 0] 30)
            have bA : Below W1.heap.size W1 (W1.alloc (.cells #[.int .i64 0, .slice none 0 0, .int .i64 0, .slice none 0 0] 30)) := (Below.refl _ _).alloc (Nat.le_refl _) _
            have PA := HP1.out.add bA (G' := fun k => (fun k => k = rb) k ∨ k = W1.heap.size) (.inl HP1.out.gb) (fun k h => h.elim .inl (fun e => .inr ⟨by omega, by rw [e]; exact (Array.getElem?_eq_some_iff.1 rA).1⟩))
            generalize W1.alloc (.cells #[.int .i64 0, .slice none 0 0, .int .i64 0, .slice none 0 0] 30) = WA at rA bA PA ⊢
            have HPA := Lib.hid PA
            refine hK.out _ _ ⟨HPA.out.bx, range_low hdr HPA.out.ky.low⟩ (fun hHeld => ?_)
            (try clear hK K)
            (try simp only [Act.put, List.setIfInBounds_toArray, List.set_cons_zero, List.set_cons_succ, List.getElem_toArray, List.getElem_cons_zero, List.getElem_cons_succ])
            refine wpAnyH_ready (rs := [6]) (by kernel_rfl) (by simp) ?_
            refine AllReadyH.cons rfl (fun K hK => ?_) AllReadyH.nil
            go_simp
            refine (Hp.does_any d hdw HPA.out.ky HPA.out.dh HPA.out.ht).mono ?_; rintro r w2 ⟨n', L', v', l', t', LT', U', rfl, K2, D2, T2, kp2, hot⟩
            obtain ⟨⟨ao5, cp5, rfl⟩, g5, cp6, rfl⟩ := D2.shape
            have bx2 := (kp2.1 rb HPA.out.gb).trans HPA.out.bx
            have zx2 := (kp2.1 W1.heap.size (.inr rfl)).trans rA
            have HH := Lib.hid (And.intro K2 (And.intro D2 (And.intro T2 hot)))
            clear K2 D2 T2 kp2 hot
            refine hK.out _ _ ⟨bx2, range_low hdr HH.out.1.low⟩ (fun hHeld => ?_)
            (try clear hK K)
            (try simp only [Act.put, List.setIfInBounds_toArray, List.set_cons_zero, List.set_cons_succ, List.getElem_toArray, List.getElem_cons_zero, List.getElem_cons_succ])
            refine wpAnyH_take (i := 7) (v := ?vt11) rfl (by kernel_rfl) (by kernel_rfl) (by kernel_rfl) (fun _ _ _ h => h) (Or.inl ⟨by rfl, ?ht11⟩) (by assumption) ?rt11
            case ht11 => (intro wS hSw; (try dsimp only at hSw); (try clear hSw); go_simp <;> (with_reducible rfl))
            (try simp only [Act.put, List.setIfInBounds_toArray, List.set_cons_zero, List.set_cons_succ, List.getElem_toArray, List.getElem_cons_zero, List.getElem_cons_succ])
            refine wpAnyH_take (i := 8) (v := ?vt12) rfl (by kernel_rfl) (by kernel_rfl) (by kernel_rfl) (fun _ _ _ h => h) (Or.inl ⟨by rfl, ?ht12⟩) (by assumption) ?rt12
            case ht12 => (intro wS hSw; (try dsimp only at hSw); (try clear hSw); go_simp <;> (with_reducible rfl))
            (try simp only [Act.put, List.setIfInBounds_toArray, List.set_cons_zero, List.set_cons_succ, List.getElem_toArray, List.getElem_cons_zero, List.getElem_cons_succ])
            refine wpAnyH_take (i := 9) (v := ?vt13) rfl (by kernel_rfl) (by kernel_rfl) (by kernel_rfl) (fun _ _ _ h => h) (Or.inl ⟨by rfl, ?ht13⟩) (by assumption) ?rt13
            case ht13 => (intro wS hSw; (try dsimp only at hSw); (try clear hSw); go_simp <;> (with_reducible rfl))
            (try simp only [Act.put, List.setIfInBounds_toArray, List.set_cons_zero, List.set_cons_succ, List.getElem_toArray, List.getElem_cons_zero, List.getElem_cons_succ])
            refine wpAnyH_ready (rs := [11]) (by kernel_rfl) (by simp) ?_
            refine AllReadyH.cons rfl (fun K hK => ?_) AllReadyH.nil
            obtain ⟨n0, n1, n2, n3, nf⟩ := four_H zx2
            have hlb := (Array.getElem?_eq_some_iff.1 HP1.out.bx).1
            have hlo := HP1.out.ky.low.size
            have HM := Lib.hid (PM.of HH.out.1 HH.out.2.1 HH.out.2.2.1 bx2 zx2 (.inr rfl) (fun k h => .inl h) HP1.out.gb HP1.out.lo hlo (by omega))
            clear hlb hlo
            go_simp
            refine hK.out _ _ ⟨HM.out.bx, range_low hdr HM.out.ky.low⟩ (fun hHeld => ?_)
            (try clear hK K)
            (try simp only [Act.put, List.setIfInBounds_toArray, List.set_cons_zero, List.set_cons_succ, List.getElem_toArray, List.getElem_cons_zero, List.getElem_cons_succ])
            refine wpAnyH_take (i := 12) (v := ?vt14) rfl (by kernel_rfl) (by kernel_rfl) (by kernel_rfl) (fun _ _ _ h => h) (Or.inl ⟨by rfl, ?ht14⟩) (by assumption) ?rt14
            case ht14 => (intro wS hSw; (try dsimp only at hSw); (try clear hSw); go_simp <;> (with_reducible rfl))
            (try simp only [Act.put, List.setIfInBounds_toArray, List.set_cons_zero, List.set_cons_succ, List.getElem_toArray, List.getElem_cons_zero, List.getElem_cons_succ])
            refine wpAnyH_done (by kernel_rfl) ?_ _
            go_wp2_with fail
            go_meet
            exact ⟨_, _, _, _, _, _, _, _, rfl, rfl, HM.out, HH.out.2.2.2⟩
          exact AllReadyH.nil
        case rest =>
          obtain ⟨nb, n', L', v', l', t', LT', U', rfl, rfl, M, hot⟩ := hcut
          obtain ⟨⟨ao5, cp5, rfl⟩, g5, cp6, rfl⟩ := M.dh.shape
          obtain ⟨m0, m1, m2, m3, _⟩ := four_H M.nx
          obtain ⟨r0, r1, r2, r3, rf⟩ := four_H M.bx
          have HC := Lib.hid M.copy
          have HOT := Lib.hid hot
          clear M hot
          have P5 := HC.out
          clear HC HOT HP
          go_wp2_with fail
          go_roundw
          case rel => exact ⟨_, j + 1, _, _, _, _, _, _, _, rfl, by go_num, by omega, by omega, P5⟩
          case measure => (simp [RowKit.intOf] <;> omega)
      · by_cases hj3 : j = len0
        · subst hj3
          go_wp2_with fail
          go_meet
          exact ⟨_, _, _, _, _, _, _, P⟩
        · obtain rfl : j = 20 := by omega
          have hl : (20 : Int) < (len0 : Int) := by omega
          go_wp2_with fail
          go_meet
          exact ⟨_, _, _, _, _, _, _, P⟩
  case rest =>
    obtain ⟨n, L, v, l, t, LT, U, P⟩ := hcut
    obtain ⟨⟨ao, cap, rfl⟩, g2, cap2, rfl⟩ := P.dh.shape
    have HP := Lib.hid P
    clear P wk
    go_upto_if 56 with (fail)
    go_cut [1] from 55 to 60 (fun a wx => ∃ x : Int, a = .int .i64 x ∧ 0 ≤ x ∧ x ≤ 9223372036854775807 ∧ wc = wx)
    case first =>
      go_wp2_with fail
      all_goals
        go_meet
        exact ⟨_, rfl, by omega, by omega, rfl⟩
    case rest =>
      obtain ⟨x, rfl, x0, x1, rfl⟩ := hcut
      go_upto_if 61 with (fail)
      go_cut [2] from 60 to 65 (fun a wx => ∃ x : Int, a = .int .i64 x ∧ 0 ≤ x ∧ x ≤ 9223372036854775807 ∧ wc = wx)
      case first =>
        go_wp2_with fail
        all_goals
          go_meet
          exact ⟨_, rfl, by omega, by omega, rfl⟩
      case rest =>
        obtain ⟨y, rfl, y0, y1, rfl⟩ := hcut
        have htm : x.tmod 3 = x % 3 := Int.tmod_eq_emod_of_nonneg x0
        have s0 : 0 ≤ x % 3 := by omega
        have s1 : x % 3 < 3 := by omega
        generalize x % 3 = sp at *
        have HB := Lib.hid (show isB 3 sp = true by unfold isB; simp; omega)
        clear a10 a11 a20 a21
        have CP := Lib.hid (HP.out.ky.pages HP.out.ht sp)
        go_wp2_with fail
        refine CP.out.mono ?_; rintro e w5 ⟨o, rfl, ho, hb5⟩
        obtain ⟨oa, oc, rfl⟩ := own_shape3 ho
        have P5 := HP.out.low hb5
        clear CP HP hb5
        have hnl : ((dpgs l sp).length : Int) ≤ 1073741824 := by have h1 := dpgs_len l sp l.length (Nat.le_refl _); rw [List.take_length] at h1; have := P5.dh.few; omega
        by_cases hz : (dpgs l sp).length = 0
        · have hno : ∀ x ∈ l, x.sp ≠ sp := fun x hx e => by have := P5.ht.dpgs_mem.2 ⟨x, hx, e, rfl⟩; rw [List.length_eq_zero_iff.1 hz] at this; cases this
          have CM := P5.ky.mark sp a3 (by omega) (by omega) o0 o1 (P5.ht.wfV sp a3) b4
          rw [(P5.ht.change sp a3 (fM b4) (fM_val b4)).1, why_no HB.out hno] at CM
          have CM := Lib.hid CM
          have hz' : ((dpgs l sp).length : Int) = 0 := by omega
          rw [hz] at ho ⊢
          clear P5 ho hno hz hz' hnl
          go_wp2_with fail
          refine CM.out.mono ?_; rintro e w6 ⟨rfl, K6, _⟩
          have HK := Lib.hid K6
          clear CM K6
          go_wp2_with fail
          refine (CL.out _).mono ?_; rintro e w15 ⟨rfl, hbz⟩
          go_wp2_with fail
          go_ret
          exact ⟨rfl, lo_step HK.out.low hbz⟩
        · obtain ⟨m, hm⟩ : ∃ m : Nat, (m : Int) = y % ((dpgs l sp).length : Int) := ⟨(y % ((dpgs l sp).length : Int)).toNat, by have := Int.emod_nonneg y (show ((dpgs l sp).length : Int) ≠ 0 by omega); omega⟩
          have hml : m < (dpgs l sp).length := by have := Int.emod_lt_of_pos y (show (0 : Int) < ((dpgs l sp).length : Int) by omega); omega
          have htm2 : y.tmod ((dpgs l sp).length : Int) = (m : Int) := (Int.tmod_eq_emod_of_nonneg y0).trans hm.symm
          have hm0 : (0 : Int) ≤ (m : Int) := by omega
          have hml' : (m : Int) < ((dpgs l sp).length : Int) := by omega
          have hlz : ¬ ((dpgs l sp).length : Int) = 0 := by omega
          clear hm
          have hV := dp_val P5.ht hml
          obtain ⟨X, hX, hXs, hXe⟩ := P5.ht.dpgs_mem.1 (pat_in hml)
          rcases own_form ho with ⟨_, h0⟩ | ⟨og, ocp, hv, hgb, hnc, hcm⟩
          · omega
          obtain ⟨c0, c1, c2, c3, c4, c5, c6, c7, c8, c9, c10⟩ := own_page ho hgb hml
          simp only [Value.slice.injEq, true_and] at hv
          obtain ⟨rfl, rfl⟩ := hv
          unfold maxLen at hcm
          obtain ⟨qa, hqa⟩ : ∃ qa, qa = pat (dpgs l sp) m := ⟨_, rfl⟩
          rw [← hqa] at hV hXe c0 c1 c2 c3 c4 c5 c6 c7 c8 c9 c10
          clear hqa ho hgb
          go_upto_region 21 with fail
          have bA : Below w5.heap.size w5 (w5.alloc (.cells #[.int .u64 qa.va, .int .i64 qa.sz, .int .u64 qa.pa, .bool qa.att.write, .bool qa.att.priv, .bool qa.att.exec, .bool qa.att.lock, .bool qa.att.global, .bool qa.att.quiet, .bool qa.ref, .bool qa.mod] 38)) := (Below.refl _ _).alloc (Nat.le_refl _) _
          have R1 := RowP.new w5 qa
          have hlg := (Array.getElem?_eq_some_iff.1 R1.row).1
          have K6 := (P5.add bA (G' := fun k => k = rb ∨ k = w5.heap.size) (.inl rfl) (fun k h => h.elim .inl (fun e => .inr ⟨by omega, by omega⟩))).ky
          have T0 := Lib.hid P5.ht
          have hpl := P5.ky.low.size
          have hph := P5.ky.hbl
          clear bA hlg P5 c0 c1 c2 c3 c4 c5 c6 c7 c8 c9 c10
          generalize w5.alloc _ = W6 at R1 K6 ⊢
          generalize w5.heap.size = pb at *
          have hbp := bytes_pos hV.z
          have hvw := hV.w
          have htop := base_top qa.va qa.sz hvw.v0 hvw.v1
          rw [hV.base] at htop
          have hr0 := Int.emod_nonneg a3 (show bytesI qa.sz ≠ 0 by omega)
          have hr1 := Int.emod_lt_of_pos a3 (show 0 < bytesI qa.sz by omega)
          have hat : isAt sp (qa.va + a3 % bytesI qa.sz) X = true := isAt_iff.2 ⟨hXs, by rw [hXe]; exact base_in hV hr0 hr1⟩
          have hwr : IntKind.u64.wrap (qa.va + a3 % bytesI qa.sz) = qa.va + a3 % bytesI qa.sz := by have := hvw.v0; rw [IntKind.wrap_u64]; omega
          have hbz : ¬ bytesI qa.sz = 0 := by omega
          have hbn : 0 ≤ bytesI qa.sz := by omega
          have htm3 : a3.tmod (bytesI qa.sz) = a3 % bytesI qa.sz := Int.tmod_eq_emod_of_nonneg o0
          have CB := Lib.hid (fun w => rbytes_any qa.sz w)
          have hva : 0 ≤ qa.va + a3 % bytesI qa.sz ∧ qa.va + a3 % bytesI qa.sz ≤ 18446744073709551615 := by have := hvw.v0; omega
          have HK := Lib.hid (And.intro (K6.below (Below.refl _ _).drew) (R1.low (Below.refl _ _).drew))
          clear K6 R1
          obtain ⟨va, hvae⟩ : ∃ va, va = qa.va + a3 % bytesI qa.sz := ⟨_, rfl⟩
          rw [← hvae] at hat hwr hva
          have hvae' := hvae.symm
          clear hvae hr0 hr1 htop hbp hvw
          obtain ⟨s20, s21, _⟩ := HK.out.2.cells
          go_region_held3 (fun w1 => w1.cell? ⟨pb, 0, none⟩ = some (.int .u64 qa.va) ∧ w1.cell? ⟨pb, 1, none⟩ = some (.int .i64 qa.sz)) (exact ⟨s20, s21⟩) (first | (go_at_call 17; (with_reducible refine (CB.out _).mono ?_); rintro e w' ⟨rfl, rfl⟩))
          generalize W6.drew = W7 at HK ⊢
          have hat' : baseI va qa.sz = qa.va := by have := (isAt_iff.1 hat).2; rwa [hXe] at this
          have CM := HK.out.1.mark sp va (by omega) (by omega) hva.1 hva.2 (T0.out.wfV sp va) b4
          rw [(T0.out.change sp va (fM b4) (fM_val b4)).1, why_at T0.out hX hat] at CM
          have hX1 := ch_mem T0.out hX hat (fM b4)
          rw [hXe] at hX1
          have T1 := Lib.hid (T0.out.change sp va (fM b4) (fM_val b4)).2
          have hc1 := ch_cnt 3 l sp va (fM b4) sp
          have CM := Lib.hid CM
          have HR1 := Lib.hid HK.out.2
          clear HK hat
          go_wp2_with fail
          refine CM.out.mono ?_; rintro e w8 ⟨rfl, K8, kp8⟩
          have K8 : KY w w8 hb sb 3 20 n (chT 3 n L sp va (fM b4)) (fun k => k = rb ∨ k = pb) := K8
          have R1 := HR1.out.kept (kp8.1 pb (.inr rfl))
          clear CM HR1 kp8
          generalize chL 3 l sp va (fM b4) = l1 at *
          generalize chT 3 n L sp va (fM b4) = L1 at *
          obtain ⟨q, hq⟩ : ∃ q, q = fM b4 qa := ⟨_, rfl⟩
          have hqb : q.va = qa.va ∧ q.sz = qa.sz := by rw [hq]; exact ⟨rfl, rfl⟩
          have hqV : Val q := by rw [hq]; exact (fM_val b4 qa hV).1
          obtain ⟨r, hr⟩ : ∃ r, r = fC q := ⟨_, rfl⟩
          have hr2 : r = { qa with ref := false, mod := false } := by rw [hr, hq]; rfl
          rw [← hq] at hX1
          have CF1 := fun (W : World) (G : Nat → Prop) (h : KY w W hb sb 3 20 n L1 G) => h.find sp qa.va (by omega) (by omega) hV.w.v0 hV.w.v1
          have hf1 := find_at T1.out hX1 (va := qa.va) (isAt_iff.2 ⟨rfl, by show baseI qa.va q.sz = q.va; rw [hqb.1, hqb.2]; exact hV.base⟩)
          rw [hf1.1, hf1.2] at CF1
          have hat1 : isAt sp va ⟨sp, q⟩ = true := isAt_iff.2 ⟨rfl, by show baseI va q.sz = q.va; rw [hqb.1, hqb.2]; exact hat'⟩
          have hf2 := find_at T1.out hX1 hat1
          have T2 := Lib.hid (T1.out.change sp va fC fC_val).2
          have CC := fun (W : World) (G : Nat → Prop) (h : KY w W hb sb 3 20 n L1 G) => h.clear sp va (by omega) (by omega) hva.1 hva.2 (T1.out.wfV sp va)
          rw [hf2.1, (T1.out.change sp va fC fC_val).1, why_at T1.out hX1 hat1] at CC
          have hX2 := ch_mem T1.out hX1 hat1 fC
          have hc2 := ch_cnt 3 l1 sp va fC sp
          rw [hc1] at hc2
          have CC : ∀ (W : World) (G : Nat → Prop) (h : KY w W hb sb 3 20 n L1 G), Calls Tryz.prog 22 #[.pointer (some ⟨hb, 0, none⟩), .int .i64 sp, .int .u64 va] W fun e w' => e = .returned (.tuple #[.agg #[.int .u64 q.va, .int .i64 q.sz, .int .u64 q.pa, .bool q.att.write, .bool q.att.priv, .bool q.att.exec, .bool q.att.lock, .bool q.att.global, .bool q.att.quiet, .bool q.ref, .bool q.mod], .int .i64 0]) ∧ KY w w' hb sb 3 20 n (chT 3 n L1 sp va fC) G ∧ Hp.Kept G W w' := CC
          generalize chL 3 l1 sp va fC = l2 at *
          generalize chT 3 n L1 sp va fC = L2 at *
          have CF2 := fun (W : World) (G : Nat → Prop) (h : KY w W hb sb 3 20 n L2 G) => h.find sp qa.va (by omega) (by omega) hV.w.v0 hV.w.v1
          dsimp only at hX2
          rw [← hr] at hX2
          have hf3 := find_at T2.out hX2 (va := qa.va) (isAt_iff.2 ⟨rfl, by show baseI qa.va r.sz = r.va; rw [hr2]; exact hV.base⟩)
          rw [hf3.1, hf3.2] at CF2
          dsimp only at CF1 CF2
          generalize Hp.findN 3 n L1 sp qa.va = F1 at *
          generalize Hp.findN 3 n L2 sp qa.va = F2 at *
          have CP := Lib.hid (fun (W : World) (G : Nat → Prop) (h : KY w W hb sb 3 20 n L2 G) => (show Calls Tryz.prog 14 #[.pointer (some ⟨hb, 0, none⟩), .int .i64 sp] W fun e w' => ∃ oa oc, e = .returned (.slice oa (dpgs l sp).length oc) ∧ Below W.heap.size W w' from (h.pages T2.out sp).mono (by rintro e w' ⟨o, rfl, ho, hb'⟩; obtain ⟨oa, oc, rfl⟩ := own_shape3 ho; exact ⟨oa, oc, by rw [hc2], hb'⟩)))
          have CF1 := Lib.hid CF1
          have CF2 := Lib.hid CF2
          have CC := Lib.hid CC
          have HQ := Lib.hid hq
          have HR := Lib.hid hr2
          have K8' := Lib.hid K8
          clear T0 T1 T2 hX hX1 hX2 hf1 hf2 hf3 hat1 hat' hc1 hc2 hqb hqV hr hr2 hq HB hXs hXe K8 CB hwr hbz hbn htm htm2 htm3
          by_cases hm : qa.mod = true
          · have hqe : q = { qa with ref := true, mod := true } := by rw [HQ.out]; unfold fM; rw [hm]; rfl
            obtain ⟨c0, c1, c2, c3, c4, c5, c6, c7, c8, c9, c10⟩ := R1.cells
            have cf := set_one_page R1
            rw [hm] at c10
            have bA : Below w8.heap.size w8 (w8.alloc (.cells #[.int .u64 qa.va, .int .i64 qa.sz, .int .u64 qa.pa, .bool qa.att.write, .bool qa.att.priv, .bool qa.att.exec, .bool qa.att.lock, .bool qa.att.global, .bool qa.att.quiet, .bool true, .bool true] 38)) := (Below.refl _ _).alloc (Nat.le_refl _) _
            have RW : RowP (w8.alloc (.cells #[.int .u64 qa.va, .int .i64 qa.sz, .int .u64 qa.pa, .bool qa.att.write, .bool qa.att.priv, .bool qa.att.exec, .bool qa.att.lock, .bool qa.att.global, .bool qa.att.quiet, .bool true, .bool true] 38)) w8.heap.size q := by rw [hqe]; exact ⟨heap_alloc_new w8 (.cells #[.int .u64 qa.va, .int .i64 qa.sz, .int .u64 qa.pa, .bool qa.att.write, .bool qa.att.priv, .bool qa.att.exec, .bool qa.att.lock, .bool qa.att.global, .bool qa.att.quiet, .bool true, .bool true] 38)⟩
            have hlg := (Array.getElem?_eq_some_iff.1 RW.row).1
            have hn1 := (Array.getElem?_eq_some_iff.1 R1.row).1
            have K9 := K8'.out.add bA (G := fun k => (k = rb ∨ k = pb) ∨ k = w8.heap.size) (fun k h => h.elim .inl (fun e => .inr ⟨by omega, by omega⟩))
            have R2 := R1.low bA
            have hm' := Lib.hid hm
            clear R1 bA hlg hqe K8' hm
            go_upto_region 27 with fail
            generalize w8.alloc _ = W9 at RW K9 R2 ⊢
            generalize w8.heap.size = wb at *
            clear cf c0 c1 c2 c3 c4 c5 c6 c7 c8 c9 c10
            obtain ⟨c0, _⟩ := R2.cells
            have HK := Lib.hid (And.intro K9 (And.intro RW R2))
            clear K9 RW R2
            go_wp2_with fail
            refine (CF1.out _ _ HK.out.1).mono ?_; rintro e w10 ⟨rfl, hb10⟩
            have bA : Below w10.heap.size w10 (w10.alloc (.cells #[.int .u64 q.va, .int .i64 q.sz, .int .u64 q.pa, .bool q.att.write, .bool q.att.priv, .bool q.att.exec, .bool q.att.lock, .bool q.att.global, .bool q.att.quiet, .bool q.ref, .bool q.mod] 38)) := (Below.refl _ _).alloc (Nat.le_refl _) _
            have RQ := RowP.new w10 q
            have hlg := (Array.getElem?_eq_some_iff.1 RQ.row).1
            have K11 := (HK.out.1.below hb10).add bA (G := fun k => ((k = rb ∨ k = pb) ∨ k = wb) ∨ k = w10.heap.size) (fun k h => h.elim .inl (fun e => .inr ⟨by omega, by omega⟩))
            have R2 := (HK.out.2.2.low hb10)
            have hn2 := (Array.getElem?_eq_some_iff.1 R2.row).1
            have R3 := R2.low bA
            have RW := (HK.out.2.1.low hb10).low bA
            clear HK hb10 bA hlg R2 CF1 c0
            go_upto_region 28 with fail
            generalize w10.alloc _ = W11 at RQ K11 R3 RW ⊢
            generalize w10.heap.size = qb at *
            have HK := Lib.hid (And.intro K11 (And.intro RW (And.intro R3 RQ)))
            clear K11 RW R3 RQ
            go_wp2_with fail
            refine (CC.out _ _ HK.out.1).mono ?_; rintro e w12 ⟨rfl, K12, kp12⟩
            have RW := HK.out.2.1.kept (kp12.1 wb (.inl (.inr rfl)))
            have R1 := HK.out.2.2.1.kept (kp12.1 pb (.inl (.inl (.inr rfl))))
            have RQ := HK.out.2.2.2.kept (kp12.1 qb (.inr rfl))
            have bA : Below w12.heap.size w12 (w12.alloc (.cells #[.int .u64 q.va, .int .i64 q.sz, .int .u64 q.pa, .bool q.att.write, .bool q.att.priv, .bool q.att.exec, .bool q.att.lock, .bool q.att.global, .bool q.att.quiet, .bool q.ref, .bool q.mod] 38)) := (Below.refl _ _).alloc (Nat.le_refl _) _
            have RA := RowP.new w12 q
            have hn3 := (Array.getElem?_eq_some_iff.1 R1.row).1
            have HK := Lib.hid (And.intro (K12.below bA) (And.intro (RW.low bA) (And.intro (R1.low bA) (And.intro (RQ.low bA) RA))))
            clear K12 kp12 RW R1 RQ bA RA CC
            go_upto_region 29 with fail
            generalize w12.alloc _ = W13 at HK ⊢
            generalize w12.heap.size = ab at *
            obtain ⟨c0, _⟩ := HK.out.2.2.1.cells
            go_wp2_with fail
            refine (CF2.out _ _ HK.out.1).mono ?_; rintro e w14 ⟨rfl, hb14⟩
            have bA : Below w14.heap.size w14 (w14.alloc (.cells #[.int .u64 r.va, .int .i64 r.sz, .int .u64 r.pa, .bool r.att.write, .bool r.att.priv, .bool r.att.exec, .bool r.att.lock, .bool r.att.global, .bool r.att.quiet, .bool r.ref, .bool r.mod] 38)) := (Below.refl _ _).alloc (Nat.le_refl _) _
            have RN := RowP.new w14 r
            have R1 := HK.out.2.2.1.low hb14
            have hn4 := (Array.getElem?_eq_some_iff.1 R1.row).1
            have HK := Lib.hid (And.intro ((HK.out.1.below hb14).below bA) (And.intro ((HK.out.2.1.low hb14).low bA) (And.intro (R1.low bA) (And.intro ((HK.out.2.2.2.1.low hb14).low bA) (And.intro ((HK.out.2.2.2.2.low hb14).low bA) RN)))))
            clear R1 bA RN hb14 CF2 c0
            go_upto_region 30 with fail
            generalize w14.alloc _ = W15 at HK ⊢
            generalize w14.heap.size = nb at *
            obtain ⟨c0, c1, c2, c3, c4, c5, c6, c7, c8, c9, c10⟩ := HK.out.2.2.1.cells
            have cf := set_one_page HK.out.2.2.1
            have R1 := HK.out.2.2.1.rm false false
            rw [← HR.out] at R1
            have hk : ∀ k, k ≠ pb → ((W15.setCell ⟨pb, 9, none⟩ (.bool false)).setCell ⟨pb, 10, none⟩ (.bool false)).heap[k]? = W15.heap[k]? := fun k hk => by rw [Below.heap_setCell _ _ _ _ hk, Below.heap_setCell _ _ _ _ hk]
            have K16 := HK.out.1.far (b := pb) (.inl (.inl (.inr rfl))) (by omega) ((HK.out.1.low.setCell (p := ⟨pb, 9, none⟩) hpl _).setCell (p := ⟨pb, 10, none⟩) hpl _) (by simp only [setCell_size]) hk
            have H16 := Lib.hid (And.intro K16 (And.intro (HK.out.2.1.kept (hk wb (by omega))) (And.intro R1 (And.intro (HK.out.2.2.2.1.kept (hk qb (by omega))) (And.intro (HK.out.2.2.2.2.1.kept (hk ab (by omega))) (HK.out.2.2.2.2.2.kept (hk nb (by omega))))))))
            clear HK R1 hk K16
            go_upto_region 32 with fail
            generalize World.setCell (World.setCell W15 _ _) _ _ = W16 at H16 ⊢
            clear cf c0 c1 c2 c3 c4 c5 c6 c7 c8 c9 c10
            obtain ⟨c0, c1, c2, c3, c4, c5, c6, c7, c8, c9, c10⟩ := H16.out.2.1.cells
            obtain ⟨d0, d1, d2, d3, d4, d5, d6, d7, d8, d9, d10⟩ := H16.out.2.2.1.cells
            obtain ⟨f0, f1, f2, f3, f4, f5, f6, f7, f8, f9, f10⟩ := H16.out.2.2.2.1.cells
            obtain ⟨g0, g1, g2, g3, g4, g5, g6, g7, g8, g9, g10⟩ := H16.out.2.2.2.2.1.cells
            obtain ⟨h0, h1, h2, h3, h4, h5, h6, h7, h8, h9, h10⟩ := H16.out.2.2.2.2.2.cells
            go_wp2_with fail
            refine (CP.out _ _ H16.out.1).mono ?_; rintro e w17 ⟨oa, oc, rfl, hb17⟩
            have HZ := Lib.hid (H16.out.1.below hb17)
            clear H16 CP hb17 c0 c1 c2 c3 c4 c5 c6 c7 c8 c9 c10 d0 d1 d2 d3 d4 d5 d6 d7 d8 d9 d10 f0 f1 f2 f3 f4 f5 f6 f7 f8 f9 f10 g0 g1 g2 g3 g4 g5 g6 g7 g8 g9 g10 h0 h1 h2 h3 h4 h5 h6 h7 h8 h9 h10
            go_wp2_with fail
            refine (CL.out _).mono ?_; rintro e w18 ⟨rfl, hbz⟩
            go_wp2_with fail
            go_ret
            exact ⟨rfl, lo_step HZ.out.low hbz⟩
          · have hqe : q = { qa with ref := true, mod := b4 } := by rw [HQ.out]; unfold fM; rw [Bool.eq_false_iff.2 hm]; rfl
            obtain ⟨c0, c1, c2, c3, c4, c5, c6, c7, c8, c9, c10⟩ := R1.cells
            have cf := set_one_page R1
            rw [Bool.eq_false_iff.2 hm] at c10
            have bA : Below w8.heap.size w8 (w8.alloc (.cells #[.int .u64 qa.va, .int .i64 qa.sz, .int .u64 qa.pa, .bool qa.att.write, .bool qa.att.priv, .bool qa.att.exec, .bool qa.att.lock, .bool qa.att.global, .bool qa.att.quiet, .bool true, .bool b4] 38)) := (Below.refl _ _).alloc (Nat.le_refl _) _
            have RW : RowP (w8.alloc (.cells #[.int .u64 qa.va, .int .i64 qa.sz, .int .u64 qa.pa, .bool qa.att.write, .bool qa.att.priv, .bool qa.att.exec, .bool qa.att.lock, .bool qa.att.global, .bool qa.att.quiet, .bool true, .bool b4] 38)) w8.heap.size q := by rw [hqe]; exact ⟨heap_alloc_new w8 (.cells #[.int .u64 qa.va, .int .i64 qa.sz, .int .u64 qa.pa, .bool qa.att.write, .bool qa.att.priv, .bool qa.att.exec, .bool qa.att.lock, .bool qa.att.global, .bool qa.att.quiet, .bool true, .bool b4] 38)⟩
            have hlg := (Array.getElem?_eq_some_iff.1 RW.row).1
            have hn1 := (Array.getElem?_eq_some_iff.1 R1.row).1
            have K9 := K8'.out.add bA (G := fun k => (k = rb ∨ k = pb) ∨ k = w8.heap.size) (fun k h => h.elim .inl (fun e => .inr ⟨by omega, by omega⟩))
            have R2 := R1.low bA
            have hm' := Lib.hid hm
            clear R1 bA hlg hqe K8' hm
            go_upto_region 27 with fail
            generalize w8.alloc _ = W9 at RW K9 R2 ⊢
            generalize w8.heap.size = wb at *
            clear cf c0 c1 c2 c3 c4 c5 c6 c7 c8 c9 c10
            obtain ⟨c0, _⟩ := R2.cells
            have HK := Lib.hid (And.intro K9 (And.intro RW R2))
            clear K9 RW R2
            go_wp2_with fail
            refine (CF1.out _ _ HK.out.1).mono ?_; rintro e w10 ⟨rfl, hb10⟩
            have bA : Below w10.heap.size w10 (w10.alloc (.cells #[.int .u64 q.va, .int .i64 q.sz, .int .u64 q.pa, .bool q.att.write, .bool q.att.priv, .bool q.att.exec, .bool q.att.lock, .bool q.att.global, .bool q.att.quiet, .bool q.ref, .bool q.mod] 38)) := (Below.refl _ _).alloc (Nat.le_refl _) _
            have RQ := RowP.new w10 q
            have hlg := (Array.getElem?_eq_some_iff.1 RQ.row).1
            have K11 := (HK.out.1.below hb10).add bA (G := fun k => ((k = rb ∨ k = pb) ∨ k = wb) ∨ k = w10.heap.size) (fun k h => h.elim .inl (fun e => .inr ⟨by omega, by omega⟩))
            have R2 := (HK.out.2.2.low hb10)
            have hn2 := (Array.getElem?_eq_some_iff.1 R2.row).1
            have R3 := R2.low bA
            have RW := (HK.out.2.1.low hb10).low bA
            clear HK hb10 bA hlg R2 CF1 c0
            go_upto_region 28 with fail
            generalize w10.alloc _ = W11 at RQ K11 R3 RW ⊢
            generalize w10.heap.size = qb at *
            have HK := Lib.hid (And.intro K11 (And.intro RW (And.intro R3 RQ)))
            clear K11 RW R3 RQ
            go_wp2_with fail
            refine (CC.out _ _ HK.out.1).mono ?_; rintro e w12 ⟨rfl, K12, kp12⟩
            have RW := HK.out.2.1.kept (kp12.1 wb (.inl (.inr rfl)))
            have R1 := HK.out.2.2.1.kept (kp12.1 pb (.inl (.inl (.inr rfl))))
            have RQ := HK.out.2.2.2.kept (kp12.1 qb (.inr rfl))
            have bA : Below w12.heap.size w12 (w12.alloc (.cells #[.int .u64 q.va, .int .i64 q.sz, .int .u64 q.pa, .bool q.att.write, .bool q.att.priv, .bool q.att.exec, .bool q.att.lock, .bool q.att.global, .bool q.att.quiet, .bool q.ref, .bool q.mod] 38)) := (Below.refl _ _).alloc (Nat.le_refl _) _
            have RA := RowP.new w12 q
            have hn3 := (Array.getElem?_eq_some_iff.1 R1.row).1
            have HK := Lib.hid (And.intro (K12.below bA) (And.intro (RW.low bA) (And.intro (R1.low bA) (And.intro (RQ.low bA) RA))))
            clear K12 kp12 RW R1 RQ bA RA CC
            go_upto_region 29 with fail
            generalize w12.alloc _ = W13 at HK ⊢
            generalize w12.heap.size = ab at *
            obtain ⟨c0, _⟩ := HK.out.2.2.1.cells
            go_wp2_with fail
            refine (CF2.out _ _ HK.out.1).mono ?_; rintro e w14 ⟨rfl, hb14⟩
            have bA : Below w14.heap.size w14 (w14.alloc (.cells #[.int .u64 r.va, .int .i64 r.sz, .int .u64 r.pa, .bool r.att.write, .bool r.att.priv, .bool r.att.exec, .bool r.att.lock, .bool r.att.global, .bool r.att.quiet, .bool r.ref, .bool r.mod] 38)) := (Below.refl _ _).alloc (Nat.le_refl _) _
            have RN := RowP.new w14 r
            have R1 := HK.out.2.2.1.low hb14
            have hn4 := (Array.getElem?_eq_some_iff.1 R1.row).1
            have HK := Lib.hid (And.intro ((HK.out.1.below hb14).below bA) (And.intro ((HK.out.2.1.low hb14).low bA) (And.intro (R1.low bA) (And.intro ((HK.out.2.2.2.1.low hb14).low bA) (And.intro ((HK.out.2.2.2.2.low hb14).low bA) RN)))))
            clear R1 bA RN hb14 CF2 c0
            go_upto_region 30 with fail
            generalize w14.alloc _ = W15 at HK ⊢
            generalize w14.heap.size = nb at *
            obtain ⟨c0, c1, c2, c3, c4, c5, c6, c7, c8, c9, c10⟩ := HK.out.2.2.1.cells
            have cf := set_one_page HK.out.2.2.1
            have R1 := HK.out.2.2.1.rm false false
            rw [← HR.out] at R1
            have hk : ∀ k, k ≠ pb → ((W15.setCell ⟨pb, 9, none⟩ (.bool false)).setCell ⟨pb, 10, none⟩ (.bool false)).heap[k]? = W15.heap[k]? := fun k hk => by rw [Below.heap_setCell _ _ _ _ hk, Below.heap_setCell _ _ _ _ hk]
            have K16 := HK.out.1.far (b := pb) (.inl (.inl (.inr rfl))) (by omega) ((HK.out.1.low.setCell (p := ⟨pb, 9, none⟩) hpl _).setCell (p := ⟨pb, 10, none⟩) hpl _) (by simp only [setCell_size]) hk
            have H16 := Lib.hid (And.intro K16 (And.intro (HK.out.2.1.kept (hk wb (by omega))) (And.intro R1 (And.intro (HK.out.2.2.2.1.kept (hk qb (by omega))) (And.intro (HK.out.2.2.2.2.1.kept (hk ab (by omega))) (HK.out.2.2.2.2.2.kept (hk nb (by omega))))))))
            clear HK R1 hk K16
            go_upto_region 32 with fail
            generalize World.setCell (World.setCell W15 _ _) _ _ = W16 at H16 ⊢
            clear cf c0 c1 c2 c3 c4 c5 c6 c7 c8 c9 c10
            obtain ⟨c0, c1, c2, c3, c4, c5, c6, c7, c8, c9, c10⟩ := H16.out.2.1.cells
            obtain ⟨d0, d1, d2, d3, d4, d5, d6, d7, d8, d9, d10⟩ := H16.out.2.2.1.cells
            obtain ⟨f0, f1, f2, f3, f4, f5, f6, f7, f8, f9, f10⟩ := H16.out.2.2.2.1.cells
            obtain ⟨g0, g1, g2, g3, g4, g5, g6, g7, g8, g9, g10⟩ := H16.out.2.2.2.2.1.cells
            obtain ⟨h0, h1, h2, h3, h4, h5, h6, h7, h8, h9, h10⟩ := H16.out.2.2.2.2.2.cells
            go_wp2_with fail
            refine (CP.out _ _ H16.out.1).mono ?_; rintro e w17 ⟨oa, oc, rfl, hb17⟩
            have HZ := Lib.hid (H16.out.1.below hb17)
            clear H16 CP hb17 c0 c1 c2 c3 c4 c5 c6 c7 c8 c9 c10 d0 d1 d2 d3 d4 d5 d6 d7 d8 d9 d10 f0 f1 f2 f3 f4 f5 f6 f7 f8 f9 f10 g0 g1 g2 g3 g4 g5 g6 g7 g8 g9 g10 h0 h1 h2 h3 h4 h5 h6 h7 h8 h9 h10
            go_wp2_with fail
            refine (CL.out _).mono ?_; rintro e w18 ⟨rfl, hbz⟩
            go_wp2_with fail
            go_ret
            exact ⟨rfl, lo_step HZ.out.low hbz⟩

/-! ### The row -/
set_option maxRecDepth 100000 in
theorem lifted (os : Os) (started : os.Started) (H : Type) (enc : TypeId × Value → H) :
    ReturnsInHanded {} Tryz.checked os 7 .any (Rows.hatMarksSpec.pre6 enc Tryz.prog Tryz.f7 Rows.hatMarksRow.domain false) (Rows.hatMarksSpec.post enc Tryz.prog Tryz.f7 false true false false) := by
  refine returnsInHanded_of_change (C := Tryz.checked) own started (by kernel_rfl) Tryz.func7
    (ChangeSpec.witness6 (enc := enc) (C := Tryz.checked) false ⟨#[], #[.slice none 0 0, .int .i64 0, .int .i64 0, .int .u64 0, .bool false], []⟩ 8 (by kernel_rfl) (by kernel_rfl) (by kernel_rfl) (by kernel_rfl)) ?_
  intro W base args ds gs before hval0 hW hcnd _
  have hval : ∀ (j : Nat) t v, Tryz.f7.params[j]? = some t → args[j]? = some v → Value.okWide Tryz.prog W .any base t v := hval0
  have hW' := hW
  obtain ⟨p, q, hA0, hV, rfl, hfz, hnd⟩ := hW
  have hA : DataW.TrodAll enc Tryz.prog W 0 (fun _ => true) true Tryz.f7.params.toList args.toList ds p := hA0
  rw [Tryz.params7] at hA hval
  obtain ⟨v0, vs0, d0, ds0, p0, q0, hargs, rfl, rfl, h0, r0⟩ := trodAll_cons hA
  obtain ⟨v1, vs1, d1, ds1, p1, q1, rfl, rfl, rfl, h1, r1⟩ := trodAll_cons r0
  obtain ⟨v2, vs2, d2, ds2, p2, q2, rfl, rfl, rfl, h2, r2⟩ := trodAll_cons r1
  obtain ⟨v3, vs3, d3, ds3, p3, q3, rfl, rfl, rfl, h3, r3⟩ := trodAll_cons r2
  obtain ⟨v4, vs4, d4, ds4, p4, q4, rfl, rfl, rfl, h4, r4⟩ := trodAll_cons r3
  obtain ⟨rfl, rfl, rfl⟩ := trodAll_nil r4
  obtain rfl : args = #[v0, v1, v2, v3, v4] := by cases args; simp_all
  obtain ⟨rfl, rfl⟩ := trodVars_none hV
  obtain ⟨s0, len0, cap0, rfl⟩ := okWide_slice Tryz.underlying22 (hval 0 22 v0 rfl rfl)
  have k0 := h0
  have lt0 : ∀ x ∈ p0, x.block < W.heap.size := by obtain ⟨m, hm⟩ := k0; exact DataW.trod_lt m _ _ _ hm
  have w0 : Hp.IsDeeds W s0 len0 cap0 := by
    obtain ⟨fuel, hf⟩ := h0
    exact Hp.open_deeds hf
  obtain ⟨a1, rfl, rfl, rfl, w1⟩ := open_int Tryz.underlying3 (hval 1 3 v1 rfl rfl) h1
  obtain ⟨a2, rfl, rfl, rfl, w2⟩ := open_int Tryz.underlying3 (hval 2 3 v2 rfl rfl) h2
  obtain ⟨a3, rfl, rfl, rfl, w3⟩ := open_int Tryz.underlying34 (hval 3 34 v3 rfl rfl) h3
  obtain ⟨b4, rfl, rfl, rfl⟩ := open_bool Tryz.underlying4 (hval 4 4 v4 rfl rfl) h4
  clear hA0 hval0
  simp only [List.append_nil] at hW'
  refine (walk W s0 len0 cap0 w0 a1 w1 a2 w2 a3 w3 b4).mono fun e W' ⟨he, hg⟩ => ?_
  subst he
  exact ⟨_, rfl, _, _, _, [], _, [], hW', trodAll_mk1 (shut_bool Tryz.underlying4 _), (trodAll_cons_mk (Below.trod Hp.laidOut (by kernel_rfl) (of_decide_eq_true (by kernel_rfl)) k0 hg lt0) (trodAll_cons_mk (shut_int Tryz.underlying3 w1) (trodAll_cons_mk (shut_int Tryz.underlying3 w2) (trodAll_cons_mk (shut_int Tryz.underlying34 w3) (trodAll_cons_mk (shut_bool Tryz.underlying4 _) trodAll_mk0))))), rfl, hg.frame _, fun h => by cases h⟩

theorem over : Rows.hatMarksRow.holds Tryz.pinned (OpenSpec.ofChange Rows.hatMarksSpec) :=
  OpenClaim.holds_of_wide 7 Tryz.f7 rfl rfl rfl rfl rfl rfl rfl ⟨rfl, rfl, rfl, rfl, rfl⟩ rfl rfl rfl rfl rfl (by kernel_rfl) Tryz.func7 (by kernel_rfl)
    (of_decide_eq_true (by kernel_rfl)) (by unfold Func.isWrapper; first | (rw [if_pos (by decide +kernel)]; kernel_rfl) | (rw [if_neg (by decide +kernel)]; exact ⟨rfl, rfl⟩))
    (fun os started H enc _ => lifted os started H enc)

theorem proved : Rows.HatMarksSaid :=
  over
#print axioms proved
end Go.Proofs.YtffpfceclhogoaaGreat.hatMarks
