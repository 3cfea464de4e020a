/-
  YtbhpljjogmagoaaGE: the contracts and plain facts of several texts, laid together. Conditions: those that each theorem names.
-/
import Derived.Test.YtbhpljjogmagoaaGD
import Derived.Laws.EntriesVeiled
import Derived.Deep.DeepCutAuto
import Derived.ShutString
import Derived.Deep.Slices
import Derived.Deep.Fields
import Derived.ChangeSame
import Derived.OpenShut
import Derived.Test.YtbhpljjogmagoaaTLaw
/-
  Contracts of Put and Clear of package tlb. Conditions: they read places that are there; the entry's numbers are what Go's types hold.
-/
namespace Go.Proofs.Ytbhpljjogmagoaa.Tl
open Fld
open Go.ChangeShapes Go.WideShapes Go.ChangeAt Go.RowKit Go.Shelf
set_option maxHeartbeats 2000000
set_option maxRecDepth 100000
theorem TlbAt.drew {w : World} {sb bb n : Nat} {T : Nat → Ent} (h : TlbAt w sb bb n T) : TlbAt w.drew sb bb n T := h.same rfl rfl
theorem put_any {sb bb n : Nat} {T : Nat → Ent} (i : Int) (e : Ent) (we : e.wf) (w : World) (h : TlbAt w sb bb n T) :
    Calls Try.prog 32 #[.pointer (some ⟨sb, 0, none⟩), .int .i64 i, .agg #[.int .i64 e.size, .int .i64 e.ctx, .int .u64 e.va, .int .u64 e.pa, .bool e.att.write, .bool e.att.priv, .bool e.att.exec, .bool e.att.lock, .bool e.att.global, .bool e.att.quiet, .bool e.valid]] w fun r w' => r = .returned (.int .i64 (putE T n i e)) ∧ TlbAt w' sb bb n (putT T n i e) ∧ Turn w w' bb := by
  have hle := h.le
  have hlt0 := h.lt
  have B1 := box1 w (.cells #[.int .i64 e.size, .int .i64 e.ctx, .int .u64 e.va, .int .u64 e.pa, .bool e.att.write, .bool e.att.priv, .bool e.att.exec, .bool e.att.lock, .bool e.att.global, .bool e.att.quiet, .bool e.valid] 33)
  have R1 := RowE.new w e
  have C1 := Lib.hid (fun W => tmay_any e we.2.2.1.1 we.2.2.1.2 we.2.2.2.1 we.2.2.2.2 W)
  have CP := Lib.hid (fun (o : Ent) (ho : o.wf) W => parts_any e o we.2.2.1.1 we.2.2.1.2 ho.2.2.1.1 ho.2.2.1.2 W)
  have hEm : e.mayB = false → putE T n i e = 1 := fun h => by unfold putE; rw [h]; rfl
  have hEr : e.mayB = true → hasB n i = false → putE T n i e = 5 := fun h g => by unfold putE; rw [h, g]; rfl
  have hEx : e.mayB = true → hasB n i = true → putE T n i e = if putW n T i e < n then 9 else 0 := fun h g => by unfold putE; rw [h, g]; rfl
  have hTn : putE T n i e ≠ 0 → putT T n i e = T := fun h => by unfold putT; rw [if_neg h]
  have hOk := h.ok.put we i
  have hT0 : putE T n i e = 0 → putT T n i e = setE T i.toNat e := fun h => by unfold putT; rw [if_pos h]
  have hEm := Lib.hid hEm
  have hEr := Lib.hid hEr
  have hEx := Lib.hid hEx
  have hTn := Lib.hid hTn
  have hT0 := Lib.hid hT0
  have hOk := Lib.hid hOk
  go_enter Try.func32, Try.ntmps32
  go_wp2_with fail
  refine (C1.out _).mono ?_; rintro r w1 ⟨rfl, hb1⟩
  have B2 := B1.trans (hb1.mono (by simp))
  have R2 := R1.below hb1 (by simp)
  clear B1 R1 hb1 C1
  cases hm : e.mayB
  · have hE := hEm.out hm
    go_wp2_with fail
    go_ret
    exact ⟨ret_int hE.symm, by rw [hTn.out (by rw [hE]; decide)]; exact h.low B2, Turn.of_below _ B2⟩
  · have H2 := h.low B2
    go_wp2_with fail
    refine (has_any i w1 H2).mono ?_; rintro r w2 ⟨rfl, rfl⟩
    cases hb : hasB n i
    · have hE := hEr.out hm hb
      go_wp2_with fail
      go_ret
      exact ⟨ret_int hE.symm, by rw [hTn.out (by rw [hE]; decide)]; exact H2, Turn.of_below _ B2⟩
    · have hE := hEx.out hm hb
      have hb' := hb
      unfold hasB at hb'
      simp only [Bool.and_eq_true, decide_eq_true_eq] at hb'
      obtain ⟨q, rfl⟩ : ∃ q : Nat, i = (q : Int) := ⟨i.toNat, by omega⟩
      have hq : q < n := by omega
      clear hEm hEr hEx hb'
      have c0 := H2.c0
      go_wp2_with fail
      clear c0
      go_loopw [21] (fun i wr => ∃ j : Nat, j ≤ n ∧ i = .int .i64 (j : Int) ∧ (∀ k, k < j → ((fun o : Ent => o.valid && wayB e o) (if (k : Int) = (q : Int) then Ent.zero else T k)) = false) ∧ RowE wr w.heap.size e ∧ Below w.heap.size w wr) (fun i _ => n - (intOf i).toNat)
      case atStart => exact ⟨0, by omega, rfl, fun k hk => absurd hk (Nat.not_lt_zero k), R2, B2⟩
      case round =>
        clear R2 B2 H2
        obtain ⟨j, hj, rfl, hno, hR, hB⟩ := hrel
        have H := h.low hB
        by_cases hlt : j < n
        · obtain ⟨o, ho⟩ : ∃ o, j * 11 = o := ⟨_, rfl⟩
          obtain ⟨c0, c1, c2, c3, c4, c5, c6, c7, c8, c9, c10⟩ := H.cells hlt ho
          have hwf := h.ok.wf j hlt
          have C := Lib.hid (fun W => CP.out (T j) hwf W)
          have hlt' : (j : Int) < (n : Int) := by omega
          have hAE : (⟨bb, 0, none⟩ : Addr).add o = ⟨bb, o, none⟩ := by unfold Addr.add; split <;> simp_all
          have hsz := hR.lt
          have NL0 := box1 wr (.cells #[.int .i64 (T j).size, .int .i64 (T j).ctx, .int .u64 (T j).va, .int .u64 (T j).pa, .bool (T j).att.write, .bool (T j).att.priv, .bool (T j).att.exec, .bool (T j).att.lock, .bool (T j).att.global, .bool (T j).att.quiet, .bool (T j).valid] 33)
          by_cases hjq : j = q
          · have hno1 : ∀ k, k < j + 1 → ((fun o : Ent => o.valid && wayB e o) (if (k : Int) = (q : Int) then Ent.zero else T k)) = false := fun k hk => by
              by_cases ek : k = j
              · rw [ek, if_pos (by omega)]; rfl
              · exact hno k (by omega)
            have hno1 := Lib.hid hno1
            clear hno
            subst hjq
            go_wp2_with fail
            go_roundw
            case rel => exact ⟨j + 1, by omega, by go_num, hno1.out, hR.below NL0 hsz, hB.trans (NL0.mono hB.size)⟩
            case measure => simp [intOf]; omega
          · have hne' : ¬ ((j : Int) = (q : Int)) := by omega
            have hno1 : ((T j).valid && wayB e (T j)) = false → ∀ k, k < j + 1 → ((fun o : Ent => o.valid && wayB e o) (if (k : Int) = (q : Int) then Ent.zero else T k)) = false := fun hh k hk => by
              by_cases ek : k = j
              · rw [ek, if_neg hne']; exact hh
              · exact hno k (by omega)
            have hno1 := Lib.hid hno1
            have hno := Lib.hid hno
            cases hv : (T j).valid
            · have hno1 := Lib.hid (hno1.out (by rw [hv]; rfl))
              rw [hv] at c10 NL0
              go_wp2_with fail
              go_roundw
              case rel => exact ⟨j + 1, by omega, by go_num, hno1.out, hR.below NL0 hsz, hB.trans (NL0.mono hB.size)⟩
              case measure => simp [intOf]; omega
            · obtain ⟨r0, r1, r2, r3, r4, r5, r6, r7, r8, r9, r10⟩ := hR.cells
              have hno1' := Lib.hid (fun hw : wayB e (T j) = false => hno1.out (by rw [hw, Bool.and_false]))
              have hst := Lib.hid (fun hw : wayB e (T j) = true => (show putW n T (q : Int) e = j from fst_eq hj hno.out fun _ => by rw [if_neg hne']; show ((T j).valid && wayB e (T j)) = true; rw [hv, hw]; rfl))
              rw [hv] at c10 NL0 C
              go_wp2_with fail
              refine (C.out _).mono ?_; rintro r w3 ⟨rfl, hb3⟩
              have NL := NL0.trans (hb3.mono (by simp))
              have hB3 := hB.trans (NL.mono hB.size)
              have hR3 := hR.below NL hsz
              have H3 := H.low NL
              clear NL NL0 hb3 C c0 c1 c2 c3 c4 c5 c6 c7 c8 c9 c10 r0 r1 r2 r3 r4 r5 r6 r7 r8 r9 r10 hR hB H
              cases hp : partsB e (T j)
              · have hW := hst.out (by unfold wayB; rw [hp]; rfl)
                rw [hW, if_pos hlt] at hE
                go_wp2_with fail
                go_ret
                exact ⟨ret_int hE.symm, by rw [hTn.out (by rw [hE]; decide)]; exact H3, Turn.of_below _ hB3⟩
              · have hn1 := Lib.hid (hno1'.out (by unfold wayB; rw [hp]; rfl))
                go_wp2_with fail
                go_roundw
                case rel => exact ⟨j + 1, by omega, by go_num, hn1.out, hR3, hB3⟩
                case measure => simp [intOf]; omega
        · obtain rfl : n = j := by omega
          have hW : putW n T (q : Int) e = n := fst_none.2 hno
          rw [hW, if_neg (by omega)] at hE
          have hT := hT0.out hE
          have hT' := hT; rw [hT'] at hOk; clear hT'
          rw [Int.toNat_natCast] at hT
          have hOk1 := Lib.hid (show Ok (setE T q e) n by have := hOk.out; rwa [Int.toNat_natCast] at this)
          obtain ⟨o, ho⟩ : ∃ o, q * 11 = o := ⟨_, rfl⟩
          have c := H.c0
          obtain ⟨c0, c1, c2, c3, c4, c5, c6, c7, c8, c9, c10⟩ := H.cells hq ho
          obtain ⟨r0, r1, r2, r3, r4, r5, r6, r7, r8, r9, r10⟩ := hR.cells
          have fr := H.frozen
          have hlt' : (q : Int) < (n : Int) := by omega
          have hAE : (⟨bb, 0, none⟩ : Addr).add o = ⟨bb, o, none⟩ := by unfold Addr.add; split <;> simp_all
          go_wp2_with fail
          go_region
          clear c c0 c1 c2 c3 c4 c5 c6 c7 c8 c9 c10 r0 r1 r2 r3 r4 r5 r6 r7 r8 r9 r10 fr
          go_wp2_with fail
          go_ret
          have H4 := H.put hq ho (e := e) hOk1.out
          refine ⟨ret_int hE.symm, ?_, ?_⟩
          · rw [hT]
            exact H4.drew
          · exact ((Turn.of_below bb hB).set11 (g := bb) (o := o) (e := e) (.inl rfl)).drew
/-- What Clear does. -/
def clearT (T : Nat → Ent) (n : Nat) (i : Int) : Nat → Ent := if (atE T n i).valid then setE T i.toNat Ent.zero else T
theorem atE_valid {T : Nat → Ent} {n : Nat} {i : Int} (h : (atE T n i).valid = true) : ∃ q : Nat, i = (q : Int) ∧ q < n ∧ atE T n i = T q := by
  unfold atE at *
  cases hb : hasB n i
  · rw [hb] at h; cases h
  · have hb' := hb
    unfold hasB at hb'
    simp only [Bool.and_eq_true, decide_eq_true_eq] at hb'
    exact ⟨i.toNat, by omega, by omega, rfl⟩
theorem Ok.clearT {T : Nat → Ent} {n : Nat} (h : Ok T n) (i : Int) : Ok (clearT T n i) n := by
  unfold Tl.clearT; split
  · exact h.clear _
  · exact h
theorem clear_any {sb bb n : Nat} {T : Nat → Ent} (i : Int) (w : World) (h : TlbAt w sb bb n T) :
    Calls Try.prog 28 #[.pointer (some ⟨sb, 0, none⟩), .int .i64 i] w fun r w' => r = .returned (.bool (atE T n i).valid) ∧ TlbAt w' sb bb n (clearT T n i) ∧ Turn w w' bb := by
  have hle := h.le
  have hlt0 := h.lt
  have hOk := Lib.hid (h.ok.clearT i)
  cases hv : (atE T n i).valid
  · have hT := Lib.hid (show clearT T n i = T by unfold clearT; rw [hv]; rfl)
    go_enter Try.func28, Try.ntmps28
    go_wp2_with fail
    refine (at_any i w h).mono ?_; rintro r w1 ⟨rfl, hb1⟩
    generalize atE T n i = E at *
    rw [hv]
    have hB := hb1.trans ((box1 w1 (.cells #[.int .i64 E.size, .int .i64 E.ctx, .int .u64 E.va, .int .u64 E.pa, .bool E.att.write, .bool E.att.priv, .bool E.att.exec, .bool E.att.lock, .bool E.att.global, .bool E.att.quiet, .bool false] 33)).mono hb1.size)
    go_wp2_with fail
    go_ret
    exact ⟨rfl, by rw [hT.out]; exact h.low hB, Turn.of_below _ hB⟩
  · obtain ⟨q, rfl, hq, hE⟩ := atE_valid hv
    have hv' : (T q).valid = true := by rw [← hE]; exact hv
    have hT := Lib.hid (show clearT T n (q : Int) = setE T q Ent.zero by unfold clearT; rw [hv, if_pos rfl, Int.toNat_natCast])
    obtain ⟨o, ho⟩ : ∃ o, q * 11 = o := ⟨_, rfl⟩
    have hlt' : (q : Int) < (n : Int) := by omega
    have hAE : (⟨bb, 0, none⟩ : Addr).add o = ⟨bb, o, none⟩ := by unfold Addr.add; split <;> simp_all
    go_enter Try.func28, Try.ntmps28
    go_wp2_with fail
    refine (at_any (q : Int) w h).mono ?_; rintro r w1 ⟨rfl, hb1⟩
    have H1 := h.low hb1
    have c := H1.c0
    obtain ⟨c0, c1, c2, c3, c4, c5, c6, c7, c8, c9, c10⟩ := H1.cells hq ho
    have fr := H1.frozen
    have hl1 := H1.lt
    go_wp2_with fail
    go_ret
    have H4 := H1.put hq ho (e := Ent.zero) (by rw [← hT.out]; exact hOk.out)
    have t4 := (Turn.of_below bb hb1).set11 (g := bb) (o := o) (e := Ent.zero) (.inl rfl)
    refine ⟨rfl, ?_, ?_⟩
    · rw [hT.out]; exact H4.low (box1 _ _)
    · exact t4.alloc _
end Go.Proofs.Ytbhpljjogmagoaa.Tl
/-
  Contract of Insert of package tlb. Conditions: it reads places that are there; the entry's numbers and the pick are what Go's types hold.
-/
namespace Go.Proofs.Ytbhpljjogmagoaa.Tl
open Fld
open Go.ChangeShapes Go.WideShapes Go.ChangeAt Go.RowKit Go.Shelf
set_option maxHeartbeats 2000000
set_option maxRecDepth 100000
theorem row_turn {w W : World} {bb b : Nat} {e : Ent} (h : RowE w b e) (ht : Turn w W bb) (hb : b ≠ bb) : RowE W b e := ⟨(ht.block b h.lt hb).trans h.row⟩
theorem tells_way (bb b : Nat) (e : Ent) (we : e.wf) (w : World) (hb : b ≠ bb) (hR : RowE w b e) :
    Tells 45 #[.pointer (some ⟨b, 0, none⟩)] (wayB e) bb w := by
  intro o W wo hT
  have R := row_turn hR hT hb
  have C := fun W => parts_any e o we.2.2.1.1 we.2.2.1.2 wo.2.2.1.1 wo.2.2.1.2 W
  have H := Lib.hid (show wayB e o = !partsB e o from rfl)
  obtain ⟨r0, r1, r2, r3, r4, r5, r6, r7, r8, r9, r10⟩ := R.cells
  have l1 := R.lt
  clear hR hT R wo
  generalize wayB e o = R at *
  generalize partsB e o = P at *
  obtain ⟨s, c, v, p, ⟨wr, pr, ex, lk, gl, qu⟩, vd⟩ := o
  dsimp only at *
  have C := Lib.hid C
  simp only [List.append_toArray, List.cons_append, List.nil_append]
  go_enter Try.func45, Try.ntmps45
  go_wp2_with fail
  refine (C.out _).mono ?_; rintro r w1 ⟨rfl, hb1⟩
  have hb2 := (box1 W _).trans (hb1.mono (by simp))
  clear r0 r1 r2 r3 r4 r5 r6 r7 r8 r9 r10 l1 hb1
  go_wp2_with fail
  go_ret
  exact ⟨ret_bool H.out.symm, hb2⟩
theorem tells_stuck (bb b f : Nat) (e : Ent) (we : e.wf) (w : World) (hb : b ≠ bb) (hf : f ≠ bb) (hR : RowE w b e) (hc : w.cell? ⟨f, 0, none⟩ = some (.func (.func 45) #[] #[.pointer (some ⟨b, 0, none⟩)])) :
    Tells 46 #[.pointer (some ⟨f, 0, none⟩)] (fun o => o.att.lock && wayB e o) bb w := by
  intro o W wo hT
  have d1 := turn_cell hT hf hc
  have l1 := lt_cell d1
  have hT1 : Turn w (W.alloc (.cells #[.int .i64 o.size, .int .i64 o.ctx, .int .u64 o.va, .int .u64 o.pa, .bool o.att.write, .bool o.att.priv, .bool o.att.exec, .bool o.att.lock, .bool o.att.global, .bool o.att.quiet, .bool o.valid] 33)) bb := hT.alloc _
  have C := tells_way bb b e we w hb hR o _ wo hT1
  have H := Lib.hid (show (o.att.lock && wayB e o) = (o.att.lock && wayB e o) from rfl)
  have eg : ∀ args w, (callFunc 45 args).run Try.prog w = .ok (.enter 45 args) w := enters_of Try.func45 (by kernel_rfl) rfl
  dsimp only
  clear hR hT hT1 wo hc
  generalize wayB e o = R at *
  obtain ⟨s, c, v, p, ⟨wr, pr, ex, lk, gl, qu⟩, vd⟩ := o
  dsimp only at *
  simp only [List.append_toArray, List.cons_append, List.nil_append] at C ⊢
  have C := Lib.hid C
  cases lk
  · go_enter Try.func46, Try.ntmps46
    go_wp2_with fail
    go_ret
    exact ⟨rfl, box1 _ _⟩
  · go_enter Try.func46, Try.ntmps46
    go_wp2_with fail
    refine C.out.mono ?_; rintro r w1 ⟨rfl, hb1⟩
    have hb2 := (box1 W _).trans (hb1.mono (by simp))
    clear d1 l1 hb1
    go_wp2_with fail
    go_ret
    exact ⟨ret_bool (by simp), hb2⟩
end Go.Proofs.Ytbhpljjogmagoaa.Tl
/-
  Contract of Insert of package tlb. Conditions: it reads places that are there; the entry's numbers and the pick are what Go's types hold.
-/
namespace Go.Proofs.Ytbhpljjogmagoaa.Tl
open Fld
open Go.ChangeShapes Go.WideShapes Go.ChangeAt Go.RowKit Go.Shelf
set_option maxHeartbeats 2000000
set_option maxRecDepth 100000
theorem ins_any {sb bb n : Nat} {T : Nat → Ent} (e : Ent) (we : e.wf) (p : Int) (p0 : -9223372036854775808 ≤ p) (p1 : p ≤ 9223372036854775807) (w : World) (h : TlbAt w sb bb n T) :
    Calls Try.prog 20 #[.pointer (some ⟨sb, 0, none⟩), .agg #[.int .i64 e.size, .int .i64 e.ctx, .int .u64 e.va, .int .u64 e.pa, .bool e.att.write, .bool e.att.priv, .bool e.att.exec, .bool e.att.lock, .bool e.att.global, .bool e.att.quiet, .bool e.valid], .int .i64 p] w fun r w' => r = .returned (.tuple #[.int .i64 (insN T n e p : Int), .int .i64 (insE T n e)]) ∧ TlbAt w' sb bb n (insT T n e p) ∧ Turn w w' bb := by
  have hle := h.le
  have hlt0 := h.lt
  have hmf : ∀ (fn : Fn) (first cap : Array Value) (w : World), (Instr.makeFunc fn first cap).run Try.prog w = .ok (.func fn first cap) w := fun _ _ _ _ => rfl
  have B1 := box1 w (.cells #[.int .i64 e.size, .int .i64 e.ctx, .int .u64 e.va, .int .u64 e.pa, .bool e.att.write, .bool e.att.priv, .bool e.att.exec, .bool e.att.lock, .bool e.att.global, .bool e.att.quiet, .bool e.valid] 33)
  have R1 := RowE.new w e
  have C1 := Lib.hid (fun W => tmay_any e we.2.2.1.1 we.2.2.1.2 we.2.2.2.1 we.2.2.2.2 W)
  have hTn := Lib.hid (show insE T n e ≠ 0 → insT T n e p = T ∧ insN T n e p = 0 from fun h => by unfold insT insN; rw [if_neg h, if_neg h]; exact ⟨rfl, rfl⟩)
  have hOk := Lib.hid (h.ok.ins we p)
  go_enter Try.func20, Try.ntmps20
  go_wp2_with fail
  refine (C1.out _).mono ?_; rintro r w1 ⟨rfl, hb1⟩
  have B2 := B1.trans (hb1.mono (by simp))
  have R2 := R1.below hb1 (by simp)
  have hz2 : w.heap.size < w1.heap.size := R2.lt
  clear B1 R1 hb1 C1
  cases hm : e.mayB
  · have hE : insE T n e = 1 := by unfold insE; rw [hm]; rfl
    obtain ⟨hT, hN⟩ := hTn.out (by rw [hE]; decide)
    have hE := Lib.hid hE
    have hT := Lib.hid hT
    have hN := Lib.hid hN
    go_wp2_with fail
    go_ret2
    exact ⟨ret_intI (by rw [hN.out]; rfl) hE.out, by rw [hT.out]; exact h.low B2, Turn.of_below _ B2⟩
  · have hE : insE T n e = if stuckB T n e then 7 else 0 := by unfold insE; rw [hm]; rfl
    have H2 := h.low B2
    have BF := box1 w1 (.cells #[.func (.func 45) #[] #[.pointer (some ⟨w.heap.size, 0, none⟩)]] 77)
    have cF : (w1.alloc (.cells #[.func (.func 45) #[] #[.pointer (some ⟨w.heap.size, 0, none⟩)]] 77)).cell? ⟨w1.heap.size, 0, none⟩ = some (.func (.func 45) #[] #[.pointer (some ⟨w.heap.size, 0, none⟩)]) := by
      rw [World.cell?_alloc_at _ _ _ _ rfl]; rfl
    have R3 := R2.below BF hz2
    have H3 := H2.low BF
    have B3 := B2.trans (BF.mono B2.size)
    have hb : w.heap.size ≠ bb := by omega
    have hf : w1.heap.size ≠ bb := by omega
    have CC := Lib.hid (count_any 46 _ _ _ H3 (enters_of Try.func46 (by kernel_rfl) rfl) (tells_stuck bb _ _ e we _ hb hf R3 cF))
    have hstk := Lib.hid (show stuckB T n e = (decide (0 < cntE T (fun o => o.att.lock && wayB e o) n) || decide (cntE T (fun o => o.att.lock) n = n)) from rfl)
    have hcl1 := cntE_le T (fun o => o.att.lock && wayB e o) n
    have hcl2 := cntE_le T (fun o => o.att.lock) n
    have hE := Lib.hid hE
    have CL := Lib.hid (fun W hW => locked_any (sb := sb) (bb := bb) (n := n) (T := T) W hW)
    go_wp2_with fail
    refine CC.out.mono ?_; rintro r w4 ⟨rfl, hb4⟩
    have B4 := B3.trans (hb4.mono B3.size)
    have H4 := H3.low hb4
    have R4 := R3.below hb4 (by simp; omega)
    have cF4 := Lib.hid ((hb4.cell (p := ⟨w1.heap.size, 0, none⟩) (by simp)).trans cF)
    clear CC cF R3 H3 B3 BF H2 R2 B2 hb4 h
    by_cases hc1 : 0 < cntE T (fun o => o.att.lock && wayB e o) n
    · have hE7 : insE T n e = 7 := by rw [hE.out, hstk.out, decide_eq_true hc1]; rfl
      obtain ⟨hT, hN⟩ := hTn.out (by rw [hE7]; decide)
      have hE7 := Lib.hid hE7
      have hT := Lib.hid hT
      have hN := Lib.hid hN
      have hc1' : (0 : Int) < (cntE T (fun o => o.att.lock && wayB e o) n : Int) := by omega
      clear hE hstk CL
      generalize cntE T (fun o => o.att.lock && wayB e o) n = k1 at *
      go_wp2_with fail
      go_ret2
      exact ⟨ret_intI (by rw [hN.out]; rfl) hE7.out, by rw [hT.out]; exact H4, Turn.of_below _ B4⟩
    · have hc0 : cntE T (fun o => o.att.lock && wayB e o) n = 0 := by omega
      rw [hc0]
      have hstk2 := Lib.hid (show stuckB T n e = decide (cntE T (fun o => o.att.lock) n = n) by rw [hstk.out, decide_eq_false hc1]; rfl)
      clear hstk hc1 hcl1 hc0
      go_wp2_with fail
      refine (CL.out w4 H4).mono ?_; rintro r w5 ⟨rfl, hb5⟩
      have B5 := B4.trans (hb5.mono B4.size)
      have H5 := H4.low hb5
      have R5 := R4.below hb5 R4.lt
      have cF5 := Lib.hid ((hb5.cell (p := ⟨w1.heap.size, 0, none⟩) (by exact lt_cell cF4.out)).trans cF4.out)
      clear CL B4 H4 R4 cF4 hb5
      go_wp2_with fail
      refine (slots_any w5 H5).mono ?_; rintro r w6 ⟨rfl, rfl⟩
      by_cases hc2 : cntE T (fun o => o.att.lock) n = n
      · have hE7 : insE T n e = 7 := by rw [hE.out, hstk2.out, decide_eq_true hc2]; rfl
        obtain ⟨hT, hN⟩ := hTn.out (by rw [hE7]; decide)
        have hE7 := Lib.hid hE7
        have hT := Lib.hid hT
        have hN := Lib.hid hN
        rw [hc2]
        clear hE hstk2 hc2 hcl2
        go_wp2_with fail
        go_ret2
        exact ⟨ret_intI (by rw [hN.out]; rfl) hE7.out, by rw [hT.out]; exact H5, Turn.of_below _ B5⟩
      · have hst : stuckB T n e = false := by rw [hstk2.out, decide_eq_false hc2]
        have hE0 : insE T n e = 0 := by rw [hE.out, hst]; rfl
        have hrm := Lib.hid (free_room hst)
        have hTT := Lib.hid (show insT T n e p = setE (freeT T n e) (insN T n e p) e by unfold insT; rw [if_pos hE0])
        have hNN := Lib.hid (show insN T n e p = roomI (freeT T n e) n p by unfold insN; rw [if_pos hE0])
        have hE0 := Lib.hid hE0
        have hc2' : ¬ ((cntE T (fun o => o.att.lock) n : Int) = (n : Int)) := by omega
        have cf := cF5.out
        have DD := Lib.hid (drop_any 45 _ _ w5 H5 (enters_of Try.func45 (by kernel_rfl) rfl) (tells_way bb _ e we w5 hb R5))
        clear hE hstk2 hst hTn
        generalize cntE T (fun o => o.att.lock) n = k2 at *
        go_wp2_with fail
        refine DD.out.mono ?_; rintro r w7 ⟨rfl, H7, t7⟩
        have t07 := (Turn.of_below bb B5).trans t7
        have R7 := row_turn R5 t7 hb
        clear DD B5 H5 R5 cF5 cf t7 hc2 hc2' hcl2
        go_wp2_with fail
        refine (room_any p p0 p1 w7 H7 hrm.out).mono ?_; rintro r w8 ⟨rfl, hb8⟩
        have hq := room_lt p hrm.out
        have H8 := H7.low hb8
        have R8 := R7.below hb8 R7.lt
        have t08 := t07.call hb8
        clear H7 R7 t07 hb8 hrm
        rw [← hNN.out] at hq
        have hNN' := hNN.out
        rw [show roomI (dropE T (wayB e) n) n p = insN T n e p from hNN'.symm]
        have hTT2 := hTT.out
        have hOk2 := Lib.hid (show Ok (setE (dropE T (wayB e) n) (insN T n e p) e) n by have := hOk.out; rwa [hTT2] at this)
        clear hNN hNN' hTT2 hOk
        obtain ⟨o, ho⟩ : ∃ o, insN T n e p * 11 = o := ⟨_, rfl⟩
        have c := H8.c0
        have hcs := H8.cells hq ho
        have ho := Lib.hid ho
        have hTT := Lib.hid (show insT T n e p = setE (dropE T (wayB e) n) (insN T n e p) e from hTT.out)
        obtain ⟨q, hqq⟩ : ∃ q, insN T n e p = q := ⟨_, rfl⟩
        rw [hqq]
        rw [hqq] at hq hcs hOk2 hTT ho
        have hqq := Lib.hid hqq
        obtain ⟨c0, c1, c2, c3, c4, c5, c6, c7, c8, c9, c10⟩ := hcs
        obtain ⟨r0, r1, r2, r3, r4, r5, r6, r7, r8, r9, r10⟩ := R8.cells
        have fr := H8.frozen
        have hlt' : (q : Int) < (n : Int) := by omega
        have hAE : (⟨bb, 0, none⟩ : Addr).add o = ⟨bb, o, none⟩ := by unfold Addr.add; split <;> simp_all
        have ho' := ho.out
        go_wp2_with fail
        go_region
        clear c c0 c1 c2 c3 c4 c5 c6 c7 c8 c9 c10 r0 r1 r2 r3 r4 r5 r6 r7 r8 r9 r10 fr
        go_wp2_with fail
        go_ret2
        have H9 := H8.put hq ho.out (e := e) hOk2.out
        refine ⟨ret_intI (by rw [hqq.out]) hE0.out, ?_, ?_⟩
        · rw [hTT.out]; exact H9.drew
        · exact (t08.set11 (g := bb) (o := o) (e := e) (.inl rfl)).drew
end Go.Proofs.Ytbhpljjogmagoaa.Tl
/-
  The document's example of layer 6 (lives), and Parts of its package. Conditions: addresses are below 2 to the 64.
-/
namespace Go.Proofs.Ytbhpljjogmagoaa.Tl
open Fld
open Go.ChangeShapes Go.WideShapes Go.ChangeAt Go.RowKit Go.Shelf
set_option maxHeartbeats 2000000
set_option maxRecDepth 100000
def ex (va : Int) : Ent := ⟨0, 1, va, 0, ⟨false, false, false, false, false, false⟩, true⟩
theorem ex_wf (va : Int) (h0 : 0 ≤ va) (h1 : va ≤ 18446744073709551615) : (ex va).wf := by unfold Ent.wf ex; simp; omega
def ex1 : Nat → Ent := insT (fun _ => Ent.zero) 2 (ex 0) 0
def ex2 : Nat → Ent := insT ex1 2 (ex 8192) 0
theorem ex_a : insN (fun _ => Ent.zero) 2 (ex 0) 0 = 0 ∧ insE (fun _ => Ent.zero) 2 (ex 0) = 0 := ⟨by kernel_rfl, by kernel_rfl⟩
theorem ex_b : insN ex1 2 (ex 8192) 0 = 1 ∧ insE ex1 2 (ex 8192) = 0 := ⟨by kernel_rfl, by kernel_rfl⟩
theorem ex_c : insN ex2 2 (ex 16384) 1 = 1 ∧ insE ex2 2 (ex 16384) = 0 := ⟨by kernel_rfl, by kernel_rfl⟩
theorem lives_any (w : World) :
    Calls Try.prog 14 #[] w fun r w' => r = .returned (.bool true) ∧ Below w.heap.size w w' := by
  have hN : newN 2 = 2 := by decide
  go_enter Try.func14, Try.ntmps14
  go_wp2_with fail
  refine (new_any 2 w).mono ?_; rintro r w1 ⟨rfl, h1, b1, s1⟩
  rw [hN] at h1
  have I1 := ins_any (ex 0) (ex_wf 0 (by decide) (by decide)) 0 (by decide) (by decide) w1 h1
  rw [ex_a.1, ex_a.2] at I1
  have I1 := Lib.hid I1
  go_wp2_with fail
  refine I1.out.mono ?_; rintro r w2 ⟨rfl, h2, t2⟩
  have h2 : TlbAt w2 _ _ 2 ex1 := h2
  have I2 := ins_any (ex 8192) (ex_wf _ (by decide) (by decide)) 0 (by decide) (by decide) w2 h2
  rw [ex_b.1, ex_b.2] at I2
  have I2 := Lib.hid I2
  go_wp2_with fail
  refine I2.out.mono ?_; rintro r w3 ⟨rfl, h3, t3⟩
  have h3 : TlbAt w3 _ _ 2 ex2 := h3
  have I3 := ins_any (ex 16384) (ex_wf _ (by decide) (by decide)) 1 (by decide) (by decide) w3 h3
  rw [ex_c.1, ex_c.2] at I3
  have I3 := Lib.hid I3
  go_wp2_with fail
  refine I3.out.mono ?_; rintro r w4 ⟨rfl, h4, t4⟩
  have hb := b1.trans (((t2.trans t3).trans t4).to_below (Nat.le_refl _) b1.size)
  clear I1 I2 I3 h1 h2 h3 h4 t2 t3 t4 b1 s1
  go_wp2_with fail
  go_ret
  exact ⟨rfl, hb⟩
theorem rparts_any (a b : Ent) (a0 : 0 ≤ a.va) (a1 : a.va ≤ 18446744073709551615) (b0 : 0 ≤ b.va) (b1 : b.va ≤ 18446744073709551615) (w : World) :
    Calls Try.prog 19 #[.agg #[.int .i64 a.size, .int .i64 a.ctx, .int .u64 a.va, .int .u64 a.pa, .bool a.att.write, .bool a.att.priv, .bool a.att.exec, .bool a.att.lock, .bool a.att.global, .bool a.att.quiet, .bool a.valid], .agg #[.int .i64 b.size, .int .i64 b.ctx, .int .u64 b.va, .int .u64 b.pa, .bool b.att.write, .bool b.att.priv, .bool b.att.exec, .bool b.att.lock, .bool b.att.global, .bool b.att.quiet, .bool b.valid]] w fun r w' => r = .returned (.bool (partsB a b)) ∧ Below w.heap.size w w' := by
  have H := Lib.hid (show partsB a b = (!meetB a.va a.size b.va b.size || (!a.att.global && !b.att.global && a.ctx != b.ctx)) from rfl)
  have hb : ∀ o o' : Obj, ∀ n, Below w.heap.size w (((w.alloc o).alloc o').drewN n) := fun o o' n => below_drewN (((Below.refl _ _).alloc (Nat.le_refl _) _).alloc (by simp) _) n
  have M := fun W => rmeet_any a.va a.size b.va b.size a0 a1 b0 b1 W
  generalize partsB a b = R at *
  obtain ⟨s, c, v, p, ⟨wr, pr, ex, lk, gl, qu⟩, vd⟩ := a
  obtain ⟨s', c', v', p', ⟨wr', pr', ex', lk', gl', qu'⟩, vd'⟩ := b
  dsimp only at *
  generalize meetB v s v' s' = MT at *
  have M := Lib.hid M
  cases MT
  · go_enter Try.func19, Try.ntmps19
    go_wp2_with (go_at_call 43; refine (M.out _).mono ?_; rintro e w' ⟨rfl, n, rfl⟩)
    go_ret
    exact ⟨ret_bool H.out.symm, hb _ _ _⟩
  · cases gl <;> cases gl'
    all_goals
      go_enter Try.func19, Try.ntmps19
      go_wp2_with (go_at_call 43; refine (M.out _).mono ?_; rintro e w' ⟨rfl, n, rfl⟩)
      go_ret
      exact ⟨ret_bool H.out.symm, hb _ _ _⟩
end Go.Proofs.Ytbhpljjogmagoaa.Tl
/-
  Whether entries part, and which addresses they are: no address in a context is two entries' that part. Plain facts. Conditions: none.
-/
namespace Go.Proofs.Ytbhpljjogmagoaa.Tl
open Fld
set_option maxHeartbeats 1000000
theorem in_meet {v a s b t : Int} (h1 : inB v a s = true) (h2 : inB v b t = true) : meetB a s b t = true := by
  unfold inB at h1 h2
  rw [Bool.and_eq_true, decide_eq_true_eq] at h1 h2
  obtain ⟨s1, e1⟩ := h1
  obtain ⟨t1, e2⟩ := h2
  unfold meetB inB
  rw [s1, t1]
  have hm : sizeB (max s t) = true := by
    have a1 := sizeB_true s1; have a2 := sizeB_true t1
    exact sizeB_mk (by omega)
  rw [hm]
  simp only [Bool.true_and, decide_eq_true_eq]
  by_cases hst : s ≤ t
  · rw [Int.max_eq_right hst]
    rcases sizeB_true s1 with rfl | rfl | rfl | rfl <;> rcases sizeB_true t1 with rfl | rfl | rfl | rfl <;>
      (simp only [bytesI, if_true, Int.reduceEq, if_false] at *; clear s1 t1 hm; omega)
  · rw [Int.max_eq_left (by omega)]
    rcases sizeB_true s1 with rfl | rfl | rfl | rfl <;> rcases sizeB_true t1 with rfl | rfl | rfl | rfl <;>
      (simp only [bytesI, if_true, Int.reduceEq, if_false] at *; clear s1 t1 hm; omega)
/-- P6.5: entries that part have no address in a context both. -/
theorem hits_part {a b : Ent} {va ctx : Int} (hp : partsB a b = true) (ha : a.hitsB va ctx = true) : b.hitsB va ctx = false := by
  cases hb : b.hitsB va ctx
  · rfl
  · unfold Ent.hitsB Ent.holdsB at ha hb
    simp only [Bool.and_eq_true, Bool.or_eq_true, beq_iff_eq] at ha hb
    obtain ⟨⟨_, i1⟩, c1⟩ := ha
    obtain ⟨⟨_, i2⟩, c2⟩ := hb
    unfold partsB at hp
    rw [in_meet i1 i2] at hp
    simp only [Bool.not_true, Bool.false_or, Bool.and_eq_true, Bool.not_eq_true', bne_iff_ne] at hp
    obtain ⟨⟨g1, g2⟩, hne⟩ := hp
    rw [g1] at c1; rw [g2] at c2
    rcases c1 with c1 | c1
    · cases c1
    · rcases c2 with c2 | c2
      · cases c2
      · exact absurd (c1.trans c2.symm) hne
theorem self_parts {g : Ent} (h : g.mayB = true) : partsB g g = false := by
  have hs : sizeB g.size = true := by unfold Ent.mayB at h; simp only [Bool.and_eq_true] at h; exact h.1.1.1.1.1.1.2
  unfold partsB meetB inB
  rw [hs, show max g.size g.size = g.size by omega, hs]
  simp
/-- An entry that may be is its own address's. -/
theorem hits_self {g : Ent} (h : g.mayB = true) : g.hitsB g.va g.ctx = true := by
  have hs : sizeB g.size = true ∧ g.valid = true := by unfold Ent.mayB at h; simp only [Bool.and_eq_true] at h; exact ⟨h.1.1.1.1.1.1.2, h.1.1.1.1.1.1.1⟩
  unfold Ent.hitsB Ent.holdsB inB
  rw [hs.1, hs.2]; simp
theorem hits_valid {e : Ent} {va ctx : Int} (h : e.hitsB va ctx = true) : e.valid = true := by
  unfold Ent.hitsB Ent.holdsB at h; simp only [Bool.and_eq_true] at h; exact h.1.1
/-- At most one place is an address's. -/
theorem hits_one {T : Nat → Ent} {n i k : Nat} (h : Ok T n) (hi : i < n) (hk : k < n) {va ctx : Int} (h1 : (T i).hitsB va ctx = true) (h2 : (T k).hitsB va ctx = true) : i = k := by
  by_cases e : i = k
  · exact e
  · have := hits_part (h.part i k hi hk e (hits_valid h1) (hits_valid h2)) h1
    rw [h2] at this; cases this
theorem find_at {T : Nat → Ent} {n i : Nat} (h : Ok T n) (hi : i < n) {va ctx : Int} (h1 : (T i).hitsB va ctx = true) : findN T n va ctx = i := by
  refine fst_eq (by omega) (fun k hk => ?_) (fun _ => h1)
  cases e : (T k).hitsB va ctx
  · rfl
  · have := hits_one h (by omega) hi e h1; omega
end Go.Proofs.Ytbhpljjogmagoaa.Tl
/-
  Slices of entries and of deeds that come in as arguments: what the walk is told of them. Conditions: none.
-/
namespace Go.Proofs.Ytbhpljjogmagoaa.Tl
open Fld
open Go.ChangeShapes Go.WideShapes Go.ChangeAt Go.RowKit Go.Deep
set_option maxHeartbeats 1000000
set_option maxRecDepth 100000
theorem laidOut : laidOutB Try.prog = true := by kernel_rfl
theorem trod_ent {H : Type} {enc : TypeId × Value → H} {w : World} {base : Nat} {spare : Nat → Bool} {held : Bool} {n : Nat} {cs : List Value} {y : DataW H × List MemPlace} (hl : cs.length = 11) (h : DataW.trod enc Try.prog w base spare held n 33 cs = some y) : ∃ e : Ent, cs = eleven e ∧ e.lits := by
  match cs, hl with
  | [c0, c1, c2, c3, c4, c5, c6, c7, c8, c9, c10], _ =>
    obtain ⟨xs, n, _, hx, _, hlen, hg⟩ := DataW.trod_struct Try.underlying33 h
    match xs, hlen with
    | [y0, y1, y2, y3, y4, y5], _ =>
      have g0 : DataW.trod enc Try.prog w base spare held n 3 [c0] = some y0 := by simpa [cells_int] using hg 0 _ rfl
      have g1 : DataW.trod enc Try.prog w base spare held n 3 [c1] = some y1 := by simpa [cells_int] using hg 1 _ rfl
      have g2 : DataW.trod enc Try.prog w base spare held n 29 [c2] = some y2 := by simpa [cells_int, cells_u64] using hg 2 _ rfl
      have g3 : DataW.trod enc Try.prog w base spare held n 29 [c3] = some y3 := by simpa [cells_int, cells_u64] using hg 3 _ rfl
      have g4 : DataW.trod enc Try.prog w base spare held n 31 [c4, c5, c6, c7, c8, c9] = some y4 := by simpa [cells_int, cells_u64, cells_attr] using hg 4 _ rfl
      have g5 : DataW.trod enc Try.prog w base spare held n 4 [c10] = some y5 := by simpa [cells_int, cells_u64, cells_attr, cells_bool] using hg 5 _ rfl
      obtain ⟨a0, q0, z0, w0⟩ := DataW.trod_int Try.underlying3 g0
      obtain ⟨a1, q1, z1, w1⟩ := DataW.trod_int Try.underlying3 g1
      obtain ⟨a2, q2, z2, w2⟩ := DataW.trod_int Try.underlying29 g2
      obtain ⟨a3, q3, z3, w3⟩ := DataW.trod_int Try.underlying29 g3
      obtain ⟨a5, q5, z5⟩ := DataW.trod_bool Try.underlying4 g5
      obtain ⟨us, m, _, hu, _, hul, hh⟩ := DataW.trod_struct Try.underlying31 g4
      match us, hul with
      | [u0, u1, u2, u3, u4, u5], _ =>
        have f0 : DataW.trod enc Try.prog w base spare held m 4 [c4] = some u0 := by simpa [cells_bool] using hh 0 _ rfl
        have f1 : DataW.trod enc Try.prog w base spare held m 4 [c5] = some u1 := by simpa [cells_bool] using hh 1 _ rfl
        have f2 : DataW.trod enc Try.prog w base spare held m 4 [c6] = some u2 := by simpa [cells_bool] using hh 2 _ rfl
        have f3 : DataW.trod enc Try.prog w base spare held m 4 [c7] = some u3 := by simpa [cells_bool] using hh 3 _ rfl
        have f4 : DataW.trod enc Try.prog w base spare held m 4 [c8] = some u4 := by simpa [cells_bool] using hh 4 _ rfl
        have f5 : DataW.trod enc Try.prog w base spare held m 4 [c9] = some u5 := by simpa [cells_bool] using hh 5 _ rfl
        obtain ⟨b0, r0, s0⟩ := DataW.trod_bool Try.underlying4 f0
        obtain ⟨b1, r1, s1⟩ := DataW.trod_bool Try.underlying4 f1
        obtain ⟨b2, r2, s2⟩ := DataW.trod_bool Try.underlying4 f2
        obtain ⟨b3, r3, s3⟩ := DataW.trod_bool Try.underlying4 f3
        obtain ⟨b4, r4, s4⟩ := DataW.trod_bool Try.underlying4 f4
        obtain ⟨b5, r5, s5⟩ := DataW.trod_bool Try.underlying4 f5
        simp only [List.cons.injEq, and_true] at q0 q1 q2 q3 q5 r0 r1 r2 r3 r4 r5
        subst q0 q1 q2 q3 q5 r0 r1 r2 r3 r4 r5
        exact ⟨⟨a0, a1, a2, a3, ⟨b0, b1, b2, b3, b4, b5⟩, a5⟩, rfl, ⟨w0, w1, w2, w3⟩⟩
/-- What the walk is told of entries that came in. -/
def IsEnts (w : World) (a : Option Addr) (len cap : Nat) : Prop :=
  (a = none ∧ len = 0) ∨
  ∃ x : Addr, a = some x ∧ len ≤ cap ∧ cap ≤ maxLen ∧ ∀ i, i < len → ∃ e : Ent, e.lits ∧ ∀ k v, (eleven e)[k]? = some v → w.cell? (x.add (i * 11 + k)) = some v
theorem open_ents {H : Type} {enc : TypeId × Value → H} {w : World} {base : Nat} {fuel : Nat} {ao : Option Addr} {len cap : Nat} {x : DataW H × List MemPlace} (h : DataW.trod enc Try.prog w base (fun _ => true) true fuel 25 [.slice ao len cap] = some x) : IsEnts w ao len cap := by
  rcases open_slice Try.underlying25 h with ⟨hcs, _⟩ | ⟨a, l, c, m, n, D, Pl, hcs, hb, hl, hm, hmm, hx, hi⟩
  · simp at hcs; exact .inl ⟨hcs.1, hcs.2.1⟩
  · simp at hcs
    obtain ⟨rfl, rfl, rfl⟩ := hcs
    refine .inr ⟨a, rfl, hl, hm, fun i him => ?_⟩
    obtain ⟨cs', hc, ht'⟩ := hi i (by simp at hmm; omega)
    rw [cells_entry] at hc
    obtain ⟨_, hcl, hat⟩ := World.cells?_some hc
    obtain ⟨e, rfl, he⟩ := trod_ent hcl ht'
    refine ⟨e, he, fun k v hv => ?_⟩
    have hk : k < 11 := (List.getElem?_eq_some_iff.1 hv).1
    have := hat k hk
    rw [Go.Deep.add_add] at this
    rw [this]; exact hv
theorem ents_at {w : World} {a : Option Addr} {len cap : Nat} (h : IsEnts w a len cap) (i : Nat) (hi : i < len) :
    ∃ b o, ∃ off, ∃ e : Ent, a = some ⟨b, off, none⟩ ∧ off + i * 11 = o ∧ len ≤ cap ∧ cap ≤ maxLen ∧ e.lits ∧ w.cell? ⟨b, o, none⟩ = some (.int .i64 e.size) ∧ w.cell? ⟨b, o + 1, none⟩ = some (.int .i64 e.ctx) ∧ w.cell? ⟨b, o + 2, none⟩ = some (.int .u64 e.va) ∧ w.cell? ⟨b, o + 3, none⟩ = some (.int .u64 e.pa) ∧ w.cell? ⟨b, o + 4, none⟩ = some (.bool e.att.write) ∧ w.cell? ⟨b, o + 5, none⟩ = some (.bool e.att.priv) ∧ w.cell? ⟨b, o + 6, none⟩ = some (.bool e.att.exec) ∧ w.cell? ⟨b, o + 7, none⟩ = some (.bool e.att.lock) ∧ w.cell? ⟨b, o + 8, none⟩ = some (.bool e.att.global) ∧ w.cell? ⟨b, o + 9, none⟩ = some (.bool e.att.quiet) ∧ w.cell? ⟨b, o + 10, none⟩ = some (.bool e.valid) := by
  rcases h with ⟨_, h0⟩ | ⟨x, rfl, h1, h2, h3⟩
  · omega
  · obtain ⟨e, he, hc⟩ := h3 i hi
    obtain ⟨b, off, spot⟩ := x
    have hs : spot = none := by
      obtain ⟨e0, _, hc0⟩ := h3 0 (by omega)
      have z0 := hc0 0 _ rfl
      simpa [Addr.add] using World.cell?_spot z0
    subst hs
    have ad : ∀ j, (⟨b, off, none⟩ : Addr).add j = ⟨b, off + j, none⟩ := fun j => by simp [Addr.add]
    have hc' : ∀ k v, (eleven e)[k]? = some v → w.cell? ⟨b, off + i * 11 + k, none⟩ = some v := fun k v hv => by
      have := hc k v hv; rwa [ad, ← Nat.add_assoc] at this
    exact ⟨b, _, off, e, rfl, rfl, h1, h2, he, hc' 0 _ rfl, hc' 1 _ rfl, hc' 2 _ rfl, hc' 3 _ rfl, hc' 4 _ rfl, hc' 5 _ rfl, hc' 6 _ rfl, hc' 7 _ rfl, hc' 8 _ rfl, hc' 9 _ rfl, hc' 10 _ rfl⟩
end Go.Proofs.Ytbhpljjogmagoaa.Tl
/-
  Plain facts that the laws of layer 6 want: an entry with a lock stays; how many are an address's. Conditions: none.
-/
namespace Go.Proofs.Ytbhpljjogmagoaa.Tl
open Fld
open Go.ChangeShapes Go.WideShapes Go.ChangeAt Go.RowKit Go.Shelf
set_option maxHeartbeats 1000000
/-- An entry with a lock, or without. -/
def lockAs (g : Ent) (b : Bool) : Ent := ⟨g.size, g.ctx, g.va, g.pa, ⟨g.att.write, g.att.priv, g.att.exec, b, g.att.global, g.att.quiet⟩, g.valid⟩
theorem lockAs_ok {g : Ent} (h : g.Ok) (b : Bool) : (lockAs g b).Ok :=
  ⟨h.may, ⟨h.fit.s0, h.fit.s1, h.fit.c0, h.fit.c1, h.fit.p0, h.fit.p1, h.fit.p2⟩, h.size, h.valid, h.v0, h.v1, h.hole, h.vs, h.ps, h.p1, h.gc⟩
theorem okE_wf {g : Ent} (h : g.Ok) : g.wf := by
  have h1 := h.fit.s0; have h2 := h.fit.s1; have h3 := h.fit.c0; have h4 := h.fit.c1; have h5 := h.fit.p0; have h6 := h.p1
  exact ⟨⟨by omega, by omega⟩, ⟨by omega, by omega⟩, ⟨h.v0, h.v1⟩, ⟨h5, h6⟩⟩
theorem ins_zero {n : Nat} {g : Ent} (hn : 1 ≤ n) (h : g.mayB = true) (p : Int) : insE (fun _ => Ent.zero) n g = 0 ∧ insN (fun _ => Ent.zero) n g p < n ∧ insT (fun _ => Ent.zero) n g p (insN (fun _ => Ent.zero) n g p) = g := by
  have hz : ∀ q : Ent → Bool, cntE (fun _ => Ent.zero) q n = 0 := fun q => cntE_zero.2 fun k _ => rfl
  have hs : stuckB (fun _ => Ent.zero) n g = false := by
    unfold stuckB; rw [hz, hz]; simp; omega
  have h0 : insE (fun _ => Ent.zero) n g = 0 := by unfold insE; rw [h, hs]; rfl
  refine ⟨h0, ?_, ?_⟩
  · unfold insN; rw [if_pos h0]; exact room_lt p (free_room hs)
  · unfold insT; rw [if_pos h0, setE_at]
theorem room_ne {T : Nat → Ent} {n i : Nat} (p : Int) (h : hasRoom T n) (hv : (T i).valid = true) (hl : (T i).att.lock = true) : roomI T n p ≠ i := by
  unfold roomI
  split
  · rename_i hlt
    rintro rfl
    have := (fst_spec T (fun e => !e.valid) n).2.2 hlt
    rw [hv] at this; cases this
  · rename_i hlt
    rcases h with h | h
    · exact absurd h hlt
    · obtain ⟨q, _, hq, he⟩ := pick_at p h
      rw [he]
      intro e
      have : q = i := by simpa using e
      rw [this, hl] at hq; cases hq
/-- An entry with a lock stays, whatever is inserted. -/
theorem ins_keeps {T : Nat → Ent} {n i : Nat} (hi : i < n) (hv : (T i).valid = true) (hl : (T i).att.lock = true) (e : Ent) (p : Int) : insT T n e p i = T i := by
  unfold insT
  split
  · rename_i h0
    have hs : stuckB T n e = false := by
      unfold insE at h0
      cases hs : stuckB T n e
      · rfl
      · rw [hs] at h0; split at h0 <;> simp at h0
    have hs2 := hs
    unfold stuckB at hs2
    rw [Bool.or_eq_false_iff, decide_eq_false_iff_not] at hs2
    have h2 := cntE_zero.1 (show cntE T (fun o => o.att.lock && wayB e o) n = 0 by omega) i hi
    rw [hv, hl] at h2
    simp only [Bool.true_and] at h2
    have hf : freeT T n e i = T i := by unfold freeT; rw [dropE_lt hi, h2]; simp
    rw [setE_ne, hf]
    unfold insN; rw [if_pos h0]
    exact (room_ne p (free_room hs) (by rw [hf]; exact hv) (by rw [hf]; exact hl)).symm
  · rfl
theorem cnt_one {T : Nat → Ent} {p : Ent → Bool} {n i : Nat} (hi : i < n) (h1 : ((T i).valid && p (T i)) = true) (h2 : ∀ k, k < n → k ≠ i → ((T k).valid && p (T k)) = false) : cntE T p n = 1 := by
  induction n with
  | zero => omega
  | succ n ih =>
    by_cases e : i = n
    · subst e
      rw [cntE_hit h1, cntE_zero.2 fun k hk => h2 k (by omega) (by omega)]
    · rw [cntE_miss (h2 n (by omega) (fun e2 => e e2.symm))]
      exact ih (by omega) fun k hk => h2 k (by omega)
theorem hits_cnt {T : Nat → Ent} {n i : Nat} (h : Ok T n) (hi : i < n) {va ctx : Int} (h1 : (T i).hitsB va ctx = true) : cntE T (fun e => e.hitsB va ctx) n = 1 := by
  refine cnt_one hi (by rw [hits_valid h1, h1]; rfl) fun k hk hne => ?_
  cases e : (T k).hitsB va ctx
  · simp
  · exact absurd (hits_one h hk hi e h1) hne
/-- What is left of DemapAll has a lock. -/
theorem left_lock (T : Nat → Ent) (n : Nat) : cntE (dropE T (fun e => !e.att.lock) n) (fun e => e.att.lock) n = (vals (dropE T (fun e => !e.att.lock) n) n).length := by
  rw [vals_length]
  refine cntE_congr fun k hk => ?_
  rw [dropE_lt hk]
  cases hv : (T k).valid
  · simp [hv]
  · cases hl : (T k).att.lock
    · simp [Ent.zero]
    · simp [hv, hl]
/-- No lock. -/
def noLock (T : Nat → Ent) (n : Nat) : Prop := ∀ k, k < n → (T k).att.lock = false
theorem noLock_ins {T : Nat → Ent} {n : Nat} {g : Ent} (h : noLock T n) (hn : 1 ≤ n) (hm : g.mayB = true) (hg : g.att.lock = false) (p : Int) : insE T n g = 0 ∧ noLock (insT T n g p) n ∧ insN T n g p < n ∧ insT T n g p (insN T n g p) = g := by
  have hz : cntE T (fun o => o.att.lock && wayB g o) n = 0 := cntE_zero.2 fun k hk => by simp [h k hk]
  have hz2 : cntE T (fun o => o.att.lock) n = 0 := cntE_zero.2 fun k hk => by simp [h k hk]
  have hs : stuckB T n g = false := by unfold stuckB; rw [hz, hz2]; simp; omega
  have h0 : insE T n g = 0 := by unfold insE; rw [hm, hs]; rfl
  refine ⟨h0, fun k hk => ?_, ?_, ?_⟩
  · unfold insT; rw [if_pos h0]
    by_cases e : k = insN T n g p
    · rw [e, setE_at]; exact hg
    · rw [setE_ne e]; unfold freeT dropE
      split
      · rfl
      · exact h k hk
  · unfold insN; rw [if_pos h0]; exact room_lt p (free_room hs)
  · unfold insT; rw [if_pos h0, setE_at]
end Go.Proofs.Ytbhpljjogmagoaa.Tl
