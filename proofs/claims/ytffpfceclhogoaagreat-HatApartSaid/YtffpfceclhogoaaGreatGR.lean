/-
  YtffpfceclhogoaaGreatGR: the contracts and plain facts of several texts, laid together. Conditions: those that each theorem names.
-/
import Derived.Test.YtffpfceclhogoaaGreatGQ
namespace Go.Proofs.YtffpfceclhogoaaGreat.Hp
open Fld Hs
open Go.ChangeShapes Go.WideShapes Go.ChangeAt Go.RowKit Go.Maps
set_option maxHeartbeats 8000000
set_option maxRecDepth 100000
section
variable {w0 w : World} {hb sb n : Nat} {ns bl : Int} {L : Nat → List Bk} {F : Nat → Prop} {v t : Value} {l : List SPg} {LT : Nat → List Hs.Bk} {U : Nat → Value}
theorem after4 {W : World} {rb : Nat} (b0 b1 b2 b3 : Value) {k : Nat} (hk : k ≠ rb) : ((((W.setCell ⟨rb, 0, none⟩ b0).setCell ⟨rb, 1, none⟩ b1).setCell ⟨rb, 2, none⟩ b2).setCell ⟨rb, 3, none⟩ b3).heap[k]? = W.heap[k]? := by
  rw [Below.heap_setCell _ _ _ _ hk, Below.heap_setCell _ _ _ _ hk, Below.heap_setCell _ _ _ _ hk, Below.heap_setCell _ _ _ _ hk]
theorem fin_G {w0 w W : World} {hb sb n' : Nat} {ns bl : Int} {L' : Nat → List Bk} {F G : Nat → Prop} {v' t' : Value} {l' : List SPg} {LT' : Nat → List Hs.Bk} {U' : Nat → Value} (K : KY w0 W hb sb ns bl n' L' G) (D : DH W v' l' t' n' LT' U') (rx : W.heap[w.heap.size + 1 + 1]? = some (.cells #[.int .i64 0, .slice none 0 0, .int .i64 0, .slice none 0 0] 30 (0, 0))) (kp : Kept F w W) (gF : ∀ k, F k → G k) (g2 : G (w.heap.size + 1 + 1)) (fl : ∀ k, F k → k < w.heap.size) (hl : hb < w.heap.size) (lo : w0.heap.size ≤ w.heap.size) :
    let W8 := ((((W.setCell ⟨w.heap.size + 1 + 1, 0, none⟩ (.int .i64 ns)).setCell ⟨w.heap.size + 1 + 1, 1, none⟩ v').setCell ⟨w.heap.size + 1 + 1, 2, none⟩ (.int .i64 bl)).setCell ⟨w.heap.size + 1 + 1, 3, none⟩ t')
    W8.heap[w.heap.size + 1 + 1]? = some (.cells #[.int .i64 ns, v', .int .i64 bl, t'] 30 (0, 0)) ∧ KY w0 W8 hb sb ns bl n' L' F ∧ DH W8 v' l' t' n' LT' U' ∧ Kept F w W8 := by
  intro W8
  have f := fill_H (ns := ns) (bl := bl) D K.low (by omega : w0.heap.size ≤ w.heap.size + 1 + 1) rx rfl
  have hk : ∀ k, k ≠ w.heap.size + 1 + 1 → W8.heap[k]? = W.heap[k]? := fun k hk => after4 _ _ _ _ hk
  have hz : W8.heap.size = W.heap.size := by
    show ((((W.setCell _ _).setCell _ _).setCell _ _).setCell _ _).heap.size = _
    simp only [setCell_size]
  exact ⟨f.1, (K.far (b := w.heap.size + 1 + 1) g2 (by omega) f.2.2 hz hk).sub gF, f.2.1, fun k hk' => (hk k (by have := fl k hk'; omega)).trans (kp.1 k hk'), by rw [hz]; exact kp.2⟩
theorem goodT (K : KY w0 w hb sb ns bl n L F) (T : HT ns bl n L l LT) : Hs.Good n LT := fun i hi b hb => by
  rw [T.ch i hi] at hb
  obtain ⟨b', h1, rfl⟩ := List.mem_map.1 hb
  obtain ⟨O, x, _, _⟩ := K.ex
  exact x.facts.1 i hi b' h1
theorem HT.rsz (T : HT ns bl n L l LT) (m : Int) : HT ns bl (rszN n m) (rszL n L m) l (rszT n LT m) := by
  unfold rszN rszL rszT
  split
  · exact T
  · exact T.res (by omega)
theorem HT.dels (T : HT ns bl n L l LT) (s : Int) : HT ns bl n (desL ns n L l s) (ddR ns n l LT s).1 (ddR ns n l LT s).2 := by
  by_cases h : isB ns s = true
  · unfold desL; rw [if_pos h]; exact T.destroy h
  · unfold desL ddR; rw [if_neg h, if_neg h]; exact T
theorem own_ge {w : World} {B e s n : Nat} {v : Value} {xs : List Value} (h : w.ownsRow B e s v n xs) {g : Nat} (hg : v.ownBlock = some g) : B ≤ g := by
  rcases h with ⟨_, ⟨rfl, _⟩ | ⟨g', cap, cur, rfl, hb, _⟩⟩
  · cases hg
  · injection hg with e
    dsimp only at e
    omega
theorem ddP_len (l : List SPg) (s : Int) : (ddP ns l s).length ≤ l.length := by
  unfold ddP; split
  · have := dpgs_len l s l.length (Nat.le_refl _)
    rwa [List.take_length] at this
  · exact Nat.zero_le _
theorem does_destroy (d : DeedV) (hd : d.wf) (k0 : d.kind = 5) (K : KY w0 w hb sb ns bl n L F) (D : DH w v l t n LT U) (T : HT ns bl n L l LT) :
    Calls Tryz.prog 11 #[.pointer (some ⟨hb, 0, none⟩), .agg #[.int .i64 ns, v, .int .i64 bl, t], .agg #[.int .i64 d.kind, .int .i64 d.sp, .int .i64 d.n, .int .u64 d.p.va, .int .i64 d.p.sz, .int .u64 d.p.pa, .bool d.p.att.write, .bool d.p.att.priv, .bool d.p.att.exec, .bool d.p.att.lock, .bool d.p.att.global, .bool d.p.att.quiet, .bool d.p.ref, .bool d.p.mod, .int .u64 d.va, .bool d.att.write, .bool d.att.priv, .bool d.att.exec, .bool d.att.lock, .bool d.att.global, .bool d.att.quiet, .bool d.mod, .bool d.raw, .bool d.near]] w fun e w' => DoneX w0 w w' hb sb ns bl F l d.sp e := by
  obtain ⟨⟨ao, cap, rfl⟩, g2, cap2, rfl⟩ := D.shape
  have X0 := TE.of K (TX.new D ns bl d)
  have C1 := Lib.hid (fun (W : World) (h : TE w0 w W hb sb ns bl L F (.slice ao l.length cap) l (.slice (some ⟨g2, 0, none⟩) n cap2) n LT U d) => ddes_any ns bl d.sp hd.s0 hd.s1 W h.x.dh)
  have HM := Lib.hid (T.dels d.sp)
  have HTT := Lib.hid T
  have hle := ddP_len (ns := ns) l d.sp
  have hfew := D.few
  have hk0 := Lib.hid k0
  clear k0
  clear K D T
  go_enter Tryz.func11, Tryz.ntmps11
  go_upto_region 1 with fail
  generalize World.alloc (World.alloc (World.alloc w _) _) _ = W0 at *
  have HX0 := Lib.hid X0
  obtain ⟨b0, b1, b2⟩ := X0.deed.cells
  rw [hk0.out] at b0
  obtain ⟨x0, x1, x2, x3, _⟩ := four_H X0.x.hx
  have E0 := Lib.hid X0
  clear X0
  go_wp2_with fail
  refine (C1.out _ E0.out).mono ?_; rintro e w1 ⟨v', t', U', o, rfl, hD, ho, hb1⟩
  obtain ⟨⟨ao5, cp5, rfl⟩, g5, cp6, rfl⟩ := hD.shape
  obtain ⟨oa, oc, rfl⟩ := own_shape3 ho
  have bA : Below w1.heap.size w1 (w1.alloc (.cells #[.int .i64 ns, .slice ao5 (ddR ns n l LT d.sp).1.length cp5, .int .i64 bl, .slice (some ⟨g5, 0, none⟩) n cp6] 30)) := (Below.refl _ _).alloc (Nat.le_refl _) _
  have rA := heap_alloc_new w1 (.cells #[.int .i64 ns, .slice ao5 (ddR ns n l LT d.sp).1.length cp5, .int .i64 bl, .slice (some ⟨g5, 0, none⟩) n cp6] 30)
  have E1 := E0.out.low (hb1.trans (bA.mono hb1.size))
  have hsz := E0.out.size
  have hs1 := hb1.size
  have hn := (Array.getElem?_eq_some_iff.1 rA).1
  have HN := Lib.hid (TN.mk (nb := w1.heap.size) E1.x E1.ky rA (hD.low bA) E1.fl E1.hl E1.w0l (by omega) hn (Nat.le_refl _))
  have HO := Lib.hid (And.intro (own_same ho (fun g hg => bA.block g (ho.lt g hg).2)) (show W0.heap.size ≤ w1.heap.size from hs1))
  obtain ⟨_, c1, _⟩ := E1.deed.cells
  clear C1 hD ho hb1 bA rA E1 hn x0 x1 x2 x3 b0 b1 b2
  go_wp2_with fail
  generalize w1.alloc _ = W2 at *
  refine (HN.out.kyd.destroy HTT.out d.sp hd.s0 hd.s1).mono ?_; rintro e w3 ⟨o2, rfl, ho2, K3, kp3⟩
  obtain ⟨oa2, oc2, rfl⟩ := own_shape3 ho2
  have Z3 := HN.out.done (fun k hk => hk) (K3.sub (fun k hk => .inl hk)) kp3
  have ho3 := own_same HO.out.1 (w' := w3) (fun g hg => kp3.1 g (.inl (.inr ⟨by have := own_ge HO.out.1 hg; omega, (HO.out.1.lt g hg).2⟩)))
  have HZ := Lib.hid (Z3.low (Below.refl _ _).drew)
  have hS := HZ.out.nx
  have CS := Lib.hid (dsame_any w3.drew (own_same ho2 (fun _ _ => rfl)) (own_same ho3 (fun _ _ => rfl)) (by omega))
  rw [(same_iff _ _).2 rfl] at CS
  clear K3 kp3 Z3 ho2 ho3 HO HN c1
  go_upto_region 14 with fail
  refine wp_region_held_drew (S := fun wS => wS.heap[w1.heap.size]? = some (.cells #[.int .i64 ns, .slice ao5 (ddR ns n l LT d.sp).1.length cp5, .int .i64 bl, .slice (some ⟨g5, 0, none⟩) n cp6] 30 (0, 0))) (by kernel_rfl) hS (fun hHeld => ?_)
  clear hS
  generalize w3.drew = W8 at HZ hHeld CS ⊢
  refine wpAnyH_take (i := 0) (v := ?vz1) rfl (by kernel_rfl) (by kernel_rfl) (by kernel_rfl) (fun _ _ _ h => h) (Or.inl ⟨by rfl, ?hz1⟩) (by assumption) ?rz1
  case hz1 => (intro wS hSw; (try dsimp only at hSw); obtain ⟨x0, x1, x2, x3, _⟩ := four_H hSw; (try clear hSw); go_simp <;> (with_reducible rfl))
  (try simp only [Act.put, List.setIfInBounds_toArray, List.set_cons_zero, List.set_cons_succ, List.getElem_toArray, List.getElem_cons_zero])
  refine wpAnyH_take (i := 1) (v := ?vz2) rfl (by kernel_rfl) (by kernel_rfl) (by kernel_rfl) (fun _ _ _ h => h) (Or.inl ⟨by rfl, ?hz2⟩) (by assumption) ?rz2
  case hz2 => (intro wS hSw; (try dsimp only at hSw); (try clear hSw); go_simp <;> (with_reducible rfl))
  (try simp only [Act.put, List.setIfInBounds_toArray, List.set_cons_zero, List.set_cons_succ, List.getElem_toArray, List.getElem_cons_zero, List.getElem_cons_succ])
  refine wpAnyH_take (i := 2) (v := ?vz3) rfl (by kernel_rfl) (by kernel_rfl) (by kernel_rfl) (fun _ _ _ h => h) (Or.inl ⟨by rfl, ?hz3⟩) (by assumption) ?rz3
  case hz3 => (intro wS hSw; (try dsimp only at hSw); (try clear hSw); go_simp <;> (with_reducible rfl))
  (try simp only [Act.put, List.setIfInBounds_toArray, List.set_cons_zero, List.set_cons_succ, List.getElem_toArray, List.getElem_cons_zero, List.getElem_cons_succ])
  refine wpAnyH_ready (rs := [3]) (by kernel_rfl) (by simp) ?_
  refine AllReadyH.cons rfl (fun K hK => ?_) AllReadyH.nil
  go_simp
  refine CS.out.mono ?_; rintro r w4 ⟨rfl, hb4⟩
  have Z4 := Lib.hid (HZ.out.low hb4)
  clear hb4
  refine hK.out _ _ Z4.out.nx (fun hHeld => ?_)
  (try clear hK K)
  (try simp only [Act.put, List.setIfInBounds_toArray, List.set_cons_zero, List.set_cons_succ, List.getElem_toArray, List.getElem_cons_zero, List.getElem_cons_succ])
  refine wpAnyH_take (i := 4) (v := ?vz4) rfl (by kernel_rfl) (by kernel_rfl) (by kernel_rfl) (fun _ _ _ h => h) (Or.inl ⟨by rfl, ?hz4⟩) (by assumption) ?rz4
  case hz4 => (intro wS hSw; (try dsimp only at hSw); (try clear hSw); go_simp <;> (with_reducible rfl))
  (try simp only [Act.put, List.setIfInBounds_toArray, List.set_cons_zero, List.set_cons_succ, List.getElem_toArray, List.getElem_cons_zero, List.getElem_cons_succ])
  refine wpAnyH_take (i := 5) (v := ?vz5) rfl (by kernel_rfl) (by kernel_rfl) (by kernel_rfl) (fun _ _ _ h => h) (Or.inl ⟨by rfl, ?hz5⟩) (by assumption) ?rz5
  case hz5 => (intro wS hSw; (try dsimp only at hSw); (try clear hSw); go_simp <;> (with_reducible rfl))
  (try simp only [Act.put, List.setIfInBounds_toArray, List.set_cons_zero, List.set_cons_succ, List.getElem_toArray, List.getElem_cons_zero, List.getElem_cons_succ])
  refine wpAnyH_take (i := 6) (v := ?vz6) rfl (by kernel_rfl) (by kernel_rfl) (by kernel_rfl) (fun _ _ _ h => h) (Or.inl ⟨by rfl, ?hz6⟩) (by assumption) ?rz6
  case hz6 => (intro wS hSw; (try dsimp only at hSw); (try clear hSw); go_simp <;> (with_reducible rfl))
  (try simp only [Act.put, List.setIfInBounds_toArray, List.set_cons_zero, List.set_cons_succ, List.getElem_toArray, List.getElem_cons_zero, List.getElem_cons_succ])
  refine wpAnyH_take (i := 7) (v := .bool true) rfl (by kernel_rfl) (by kernel_rfl) (by kernel_rfl) (fun _ _ _ h => h) (Or.inl ⟨by rfl, ?hz7⟩) (by assumption) ?rz7
  case hz7 => (intro wS hSw; (try dsimp only at hSw); (try clear hSw); go_simp)
  (try simp only [Act.put, List.setIfInBounds_toArray, List.set_cons_zero, List.set_cons_succ, List.getElem_toArray, List.getElem_cons_zero, List.getElem_cons_succ])
  refine wpAnyH_take (i := 8) (v := ?vz8) rfl (by kernel_rfl) (by kernel_rfl) (by kernel_rfl) (fun _ _ _ h => h) (Or.inl ⟨by rfl, ?hz8⟩) (by assumption) ?rz8
  case hz8 => (intro wS hSw; (try dsimp only at hSw); (try clear hSw); go_simp <;> (with_reducible rfl))
  (try simp only [Act.put, List.setIfInBounds_toArray, List.set_cons_zero, List.set_cons_succ, List.getElem_toArray, List.getElem_cons_zero, List.getElem_cons_succ])
  refine wpAnyH_ready (rs := [9]) (by kernel_rfl) (by simp) ?_
  refine AllReadyH.cons rfl (fun K hK => ?_) AllReadyH.nil
  obtain ⟨r0, r1, r2, r3, rf⟩ := four_H Z4.out.rx
  have hnl := Z4.out.nl
  go_simp
  have FZ := Lib.hid Z4.out.fin
  refine hK.out _ _ ((Z4.out.after _ _ _ _ (by omega)).trans Z4.out.nx) (fun hHeld => ?_)
  (try clear hK K)
  (try simp only [Act.put, List.setIfInBounds_toArray, List.set_cons_zero, List.set_cons_succ, List.getElem_toArray, List.getElem_cons_zero, List.getElem_cons_succ])
  refine wpAnyH_take (i := 10) (v := ?vz9) rfl (by kernel_rfl) (by kernel_rfl) (by kernel_rfl) (fun _ _ _ h => h) (Or.inl ⟨by rfl, ?hz9⟩) (by assumption) ?rz9
  case hz9 => (intro wS hSw; (try dsimp only at hSw); (try clear hSw); go_simp <;> (with_reducible rfl))
  (try simp only [Act.put, List.setIfInBounds_toArray, List.set_cons_zero, List.set_cons_succ, List.getElem_toArray, List.getElem_cons_zero, List.getElem_cons_succ])
  refine wpAnyH_done (by kernel_rfl) ?_ _
  clear hHeld
  go_wp2_with fail
  exact bodyPost_ret (res_HE rfl _ _ _ _ rfl FZ.out.1 rfl) rfl ⟨_, _, _, _, _, _, _, rfl, FZ.out.2.1, FZ.out.2.2.1, HM.out, FZ.out.2.2.2, fun x hx => ddR_other hx⟩
theorem does_resize (d : DeedV) (hd : d.wf) (k0 : d.kind = 6) (K : KY w0 w hb sb ns bl n L F) (D : DH w v l t n LT U) (T : HT ns bl n L l LT) :
    Calls Tryz.prog 11 #[.pointer (some ⟨hb, 0, none⟩), .agg #[.int .i64 ns, v, .int .i64 bl, t], .agg #[.int .i64 d.kind, .int .i64 d.sp, .int .i64 d.n, .int .u64 d.p.va, .int .i64 d.p.sz, .int .u64 d.p.pa, .bool d.p.att.write, .bool d.p.att.priv, .bool d.p.att.exec, .bool d.p.att.lock, .bool d.p.att.global, .bool d.p.att.quiet, .bool d.p.ref, .bool d.p.mod, .int .u64 d.va, .bool d.att.write, .bool d.att.priv, .bool d.att.exec, .bool d.att.lock, .bool d.att.global, .bool d.att.quiet, .bool d.mod, .bool d.raw, .bool d.near]] w fun e w' => DoneX w0 w w' hb sb ns bl F l d.sp e := by
  obtain ⟨⟨ao, cap, rfl⟩, g2, cap2, rfl⟩ := D.shape
  have X0 := TE.of K (TX.new D ns bl d)
  have _ := hd
  have hm1 := Int.tmod_lt_of_pos d.n (show (0 : Int) < 30 by decide)
  obtain ⟨m, hm⟩ : ∃ m, m = d.n.tmod 30 := ⟨_, rfl⟩
  rw [← hm] at hm1
  have C1 := Lib.hid (fun (W : World) (h : TE w0 w W hb sb ns bl L F (.slice ao l.length cap) l (.slice (some ⟨g2, 0, none⟩) n cap2) n LT U d) => dresize_any ns bl m (by omega) (goodT K T) W h.x.dh)
  have HM := Lib.hid (T.rsz m)
  have hk0 := Lib.hid k0
  have HMM := Lib.hid hm
  have hmm := hm.symm
  clear k0 hm
  clear K D T
  go_enter Tryz.func11, Tryz.ntmps11
  go_upto_region 1 with fail
  generalize World.alloc (World.alloc (World.alloc w _) _) _ = W0 at *
  have HX0 := Lib.hid X0
  obtain ⟨b0, b1, b2⟩ := X0.deed.cells
  rw [hk0.out] at b0
  obtain ⟨x0, x1, x2, x3, _⟩ := four_H X0.x.hx
  have E0 := Lib.hid X0
  clear X0
  go_wp2_with fail
  refine (C1.out _ E0.out).mono ?_; rintro e w1 ⟨t', U', rfl, hD, hb1⟩
  obtain ⟨_, g5, cp6, rfl⟩ := hD.shape
  have bA : Below w1.heap.size w1 (w1.alloc (.cells #[.int .i64 ns, .slice ao l.length cap, .int .i64 bl, .slice (some ⟨g5, 0, none⟩) (rszN n m) cp6] 30)) := (Below.refl _ _).alloc (Nat.le_refl _) _
  have rA := heap_alloc_new w1 (.cells #[.int .i64 ns, .slice ao l.length cap, .int .i64 bl, .slice (some ⟨g5, 0, none⟩) (rszN n m) cp6] 30)
  have E1 := E0.out.low (hb1.trans (bA.mono hb1.size))
  have hsz := E0.out.size
  have hs1 := hb1.size
  have hn := (Array.getElem?_eq_some_iff.1 rA).1
  have N := TN.mk (nb := w1.heap.size) E1.x E1.ky rA (hD.low bA) E1.fl E1.hl E1.w0l (by omega) hn (Nat.le_refl _)
  clear C1 hD hb1 bA rA E1 hn x0 x1 x2 x3 b0 b1 b2
  go_upto_region 18 with fail
  generalize w1.alloc _ = W2 at N ⊢
  have HN := Lib.hid (N.low (Below.refl _ _).drew)
  have hS := HN.out.nx
  clear N
  refine wp_region_held_drew (S := fun wS => wS.heap[w1.heap.size]? = some (.cells #[.int .i64 ns, .slice ao l.length cap, .int .i64 bl, .slice (some ⟨g5, 0, none⟩) (rszN n m) cp6] 30 (0, 0))) (by kernel_rfl) hS (fun hHeld => ?_)
  clear hS
  generalize W2.drew = W8 at HN hHeld ⊢
  refine wpAnyH_take (i := 0) (v := ?vy1) rfl (by kernel_rfl) (by kernel_rfl) (by kernel_rfl) (fun _ _ _ h => h) (Or.inl ⟨by rfl, ?hy1⟩) (by assumption) ?ry1
  case hy1 => (intro wS hSw; (try dsimp only at hSw); obtain ⟨x0, x1, x2, x3, _⟩ := four_H hSw; (try clear hSw); go_simp <;> (with_reducible rfl))
  (try simp only [Act.put, List.setIfInBounds_toArray, List.set_cons_zero, List.set_cons_succ, List.getElem_toArray, List.getElem_cons_zero])
  refine wpAnyH_take (i := 1) (v := ?vy2) rfl (by kernel_rfl) (by kernel_rfl) (by kernel_rfl) (fun _ _ _ h => h) (Or.inl ⟨by rfl, ?hy2⟩) (by assumption) ?ry2
  case hy2 => (intro wS hSw; (try dsimp only at hSw); (try clear hSw); go_simp <;> (with_reducible rfl))
  (try simp only [Act.put, List.setIfInBounds_toArray, List.set_cons_zero, List.set_cons_succ, List.getElem_toArray, List.getElem_cons_zero, List.getElem_cons_succ])
  refine wpAnyH_take (i := 2) (v := ?vy3) rfl (by kernel_rfl) (by kernel_rfl) (by kernel_rfl) (fun _ _ _ h => h) (Or.inl ⟨by rfl, ?hy3⟩) (by assumption) ?ry3
  case hy3 => (intro wS hSw; (try dsimp only at hSw); (try clear hSw); go_simp <;> (with_reducible rfl))
  (try simp only [Act.put, List.setIfInBounds_toArray, List.set_cons_zero, List.set_cons_succ, List.getElem_toArray, List.getElem_cons_zero, List.getElem_cons_succ])
  refine wpAnyH_take (i := 4) (v := ?vy4) rfl (by kernel_rfl) (by kernel_rfl) (by kernel_rfl) (fun _ _ _ h => h) (Or.inl ⟨by rfl, ?hy4⟩) (by assumption) ?ry4
  case hy4 => (intro wS hSw; (try dsimp only at hSw); (try clear hSw); go_simp <;> (with_reducible rfl))
  (try simp only [Act.put, List.setIfInBounds_toArray, List.set_cons_zero, List.set_cons_succ, List.getElem_toArray, List.getElem_cons_zero, List.getElem_cons_succ])
  refine wpAnyH_ready (rs := [3]) (by kernel_rfl) (by simp) ?_
  refine AllReadyH.cons rfl (fun K hK => ?_) AllReadyH.nil
  go_simp
  refine (HN.out.kyd.resize m (by omega)).mono ?_; rintro r w4 ⟨rfl, K4, kp4⟩
  have Z4 := Lib.hid (HN.out.done (fun k hk => hk) K4 kp4)
  clear K4 kp4
  refine hK.out _ _ Z4.out.nx (fun hHeld => ?_)
  (try clear hK K)
  (try simp only [Act.put, List.setIfInBounds_toArray, List.set_cons_zero, List.set_cons_succ, List.getElem_toArray, List.getElem_cons_zero, List.getElem_cons_succ])
  refine wpAnyH_take (i := 5) (v := .bool true) rfl (by kernel_rfl) (by kernel_rfl) (by kernel_rfl) (fun _ _ _ h => h) (Or.inl ⟨by rfl, ?hy5⟩) (by assumption) ?ry5
  case hy5 => (intro wS hSw; (try dsimp only at hSw); (try clear hSw); go_simp)
  (try simp only [Act.put, List.setIfInBounds_toArray, List.set_cons_zero, List.set_cons_succ, List.getElem_toArray, List.getElem_cons_zero, List.getElem_cons_succ])
  refine wpAnyH_ready (rs := [6]) (by kernel_rfl) (by simp) ?_
  refine AllReadyH.cons rfl (fun K hK => ?_) AllReadyH.nil
  obtain ⟨r0, r1, r2, r3, rf⟩ := four_H Z4.out.rx
  have hnl := Z4.out.nl
  go_simp
  have FZ := Lib.hid Z4.out.fin
  refine hK.out _ _ ((Z4.out.after _ _ _ _ (by omega)).trans Z4.out.nx) (fun hHeld => ?_)
  (try clear hK K)
  (try simp only [Act.put, List.setIfInBounds_toArray, List.set_cons_zero, List.set_cons_succ, List.getElem_toArray, List.getElem_cons_zero, List.getElem_cons_succ])
  refine wpAnyH_take (i := 7) (v := ?vy6) rfl (by kernel_rfl) (by kernel_rfl) (by kernel_rfl) (fun _ _ _ h => h) (Or.inl ⟨by rfl, ?hy6⟩) (by assumption) ?ry6
  case hy6 => (intro wS hSw; (try dsimp only at hSw); (try clear hSw); go_simp <;> (with_reducible rfl))
  (try simp only [Act.put, List.setIfInBounds_toArray, List.set_cons_zero, List.set_cons_succ, List.getElem_toArray, List.getElem_cons_zero, List.getElem_cons_succ])
  refine wpAnyH_done (by kernel_rfl) ?_ _
  clear hHeld
  go_wp2_with fail
  exact bodyPost_ret (res_HE rfl _ _ _ _ rfl FZ.out.1 rfl) rfl ⟨_, _, _, _, _, _, _, rfl, FZ.out.2.1, FZ.out.2.2.1, HM.out, FZ.out.2.2.2, fun _ _ => Iff.rfl⟩
end
end Go.Proofs.YtffpfceclhogoaaGreat.Hp
