/-
  TlbClears: for all deeds, every place and every entry the law returns true, and its arguments read as before. Conditions: none.
-/
import Derived.Test.YtbhpljjogmagoaaRows
import Derived.WalkKit
import Derived.ProofKit
import Derived.OpenShut
import Derived.Test.YtbhpljjogmagoaaGI
import Derived.Test.YtbhpljjogmagoaaGE
import Derived.Deep.DeepCutAuto
namespace Go.Proofs.Ytbhpljjogmagoaa.tlbClears
open Fld Tl
open Go.ChangeShapes Go.WideShapes Go.ChangeAt Go.RowKit Go.Deep Go.Shelf
set_option linter.unusedVariables false

theorem own : ownKnob Try.prog.godebug = none := by kernel_rfl

/-- The places, the document's list, and the box of the entry that came in. -/
structure PC (w wr : World) (sb bb N : Nat) (T : Nat → Ent) (B : Nat) (v : Value) (R : Nat → Ent) (eb : Nat) (e : Ent) : Prop where
  bel : Below w.heap.size w wr
  tlb : TlbAt wr sb bb N T
  doc : DocAt wr B v N R
  ok : Ok R N
  row : RowE wr eb e
  far : w.heap.size ≤ bb ∧ bb < B ∧ B ≤ wr.heap.size ∧ eb ≠ bb
theorem PC.low {w wr w' : World} {sb bb N B eb : Nat} {T R : Nat → Ent} {v : Value} {e : Ent} (h : PC w wr sb bb N T B v R eb e) (hb : Below wr.heap.size wr w') : PC w w' sb bb N T B v R eb e :=
  ⟨h.bel.trans (hb.mono h.bel.size), h.tlb.low hb, doc_below h.doc hb, h.ok, h.row.below hb h.row.lt, ⟨h.far.1, h.far.2.1, Nat.le_trans h.far.2.2.1 hb.size, h.far.2.2.2⟩⟩
theorem PC.prog {w wr w' : World} {sb bb N B eb : Nat} {T U R : Nat → Ent} {v : Value} {e : Ent} (h : PC w wr sb bb N T B v R eb e) (ht : TlbAt w' sb bb N U) (hb : Turn wr w' bb) : PC w w' sb bb N U B v R eb e :=
  ⟨h.bel.trans (hb.to_below h.far.1 h.bel.size), ht, doc_turn h.doc hb h.far.2.1, h.ok, row_turn h.row hb h.far.2.2.2, ⟨h.far.1, h.far.2.1, Nat.le_trans h.far.2.2.1 hb.size, h.far.2.2.2⟩⟩
theorem PC.done {w wr w' : World} {sb bb N B eb : Nat} {T U R S : Nat → Ent} {v u : Value} {e : Ent} (h : PC w wr sb bb N T B v R eb e) (ht : TlbAt w' sb bb N U) (hd : DocAt w' B u N S) (hS : Ok S N) (hb : Turn wr w' bb) : PC w w' sb bb N U B u S eb e :=
  ⟨h.bel.trans (hb.to_below h.far.1 h.bel.size), ht, hd, hS, row_turn h.row hb h.far.2.2.2, ⟨h.far.1, h.far.2.1, Nat.le_trans h.far.2.2.1 hb.size, h.far.2.2.2⟩⟩
/-- An entry that parts from all that is there, where all have not a lock in its way, stands at the first empty place. -/
theorem ins_first {T : Nat → Ent} {n i : Nat} {g : Ent} (hm : g.mayB = true) (hi : i < n) (hv : (T i).valid = false) (hfst : ∀ k, k < i → (T k).valid = true) (hp : ∀ k, k < n → (T k).valid = true → partsB (T k) g = true) (p : Int) : insE T n g = 0 ∧ insN T n g p = i := by
  have hw : ∀ k, k < n → (T k).valid = true → wayB g (T k) = false := fun k hk hv => by unfold wayB; rw [parts_comm, hp k hk hv]; rfl
  have h1 : cntE T (fun o => o.att.lock && wayB g o) n = 0 := cntE_zero.2 fun k hk => by
    cases h : (T k).valid
    · rfl
    · rw [hw k hk h]; simp
  have h2 : cntE T (fun o => o.att.lock) n ≠ n := fun h => by
    have := cntE_all.1 h i hi; rw [hv] at this; cases this
  have hs : stuckB T n g = false := by unfold stuckB; rw [h1]; simp [h2]
  have h0 : insE T n g = 0 := by unfold insE; rw [hm, hs]; rfl
  have hf : ∀ k, k < n → freeT T n g k = T k := fun k hk => by
    unfold freeT; rw [dropE_lt hk]
    cases h : (T k).valid
    · simp
    · rw [hw k hk h]; simp
  refine ⟨h0, ?_⟩
  unfold insN
  rw [if_pos h0]
  have hF : fst (freeT T n g) (fun e => !e.valid) n = i := fst_eq (by omega) (fun k hk => by rw [hf k (by omega), hfst k hk]; rfl) (fun _ => by rw [hf i hi, hv]; rfl)
  unfold roomI
  rw [hF, if_pos hi]
/-- Where the first empty place among j is; -1, where there is none. -/
def wantI (T : Nat → Ent) (j : Nat) : Int := if fst T (fun e => !e.valid) j < j then (fst T (fun e => !e.valid) j : Int) else -1
/-- The box of the entry that is to be inserted, and the places. -/
structure LKE (w wr : World) (sb bb N : Nat) (T : Nat → Ent) (gb : Nat) (g : Ent) : Prop where
  bel : Below w.heap.size w wr
  tlb : TlbAt wr sb bb N T
  row : RowE wr gb g
  far : w.heap.size ≤ bb
  ne : gb ≠ bb
theorem LKE.low {w wr w' : World} {sb bb N gb : Nat} {T : Nat → Ent} {g : Ent} (h : LKE w wr sb bb N T gb g) (hb : Below wr.heap.size wr w') : LKE w w' sb bb N T gb g := ⟨h.bel.trans (hb.mono h.bel.size), h.tlb.low hb, h.row.below hb h.row.lt, h.far, h.ne⟩
theorem LKE.prog {w wr w' : World} {sb bb N gb : Nat} {T U : Nat → Ent} {g : Ent} (h : LKE w wr sb bb N T gb g) (ht : TlbAt w' sb bb N U) (hb : Turn wr w' bb) : LKE w w' sb bb N U gb g := ⟨h.bel.trans (hb.to_below h.far h.bel.size), ht, row_turn h.row hb h.ne, h.far, h.ne⟩
theorem clear_at {T : Nat → Ent} {n : Nat} (h : Ok T n) (i : Int) : atE (clearT T n i) n i = Ent.zero := by
  cases hv : (atE T n i).valid
  · have hc : clearT T n i = T := by unfold clearT; rw [hv]; rfl
    rw [hc]
    unfold atE at *
    cases hb : hasB n i
    · rfl
    · rw [hb] at hv
      have hb' := hb
      unfold hasB at hb'
      simp only [Bool.and_eq_true, decide_eq_true_eq] at hb'
      exact h.zero i.toNat (by omega) hv
  · obtain ⟨q, rfl, hq, _⟩ := atE_valid hv
    have hc : clearT T n (q : Int) = setE T q Ent.zero := by unfold clearT; rw [hv, if_pos rfl, Int.toNat_natCast]
    rw [hc]
    unfold atE hasB
    simp [hq, setE_at]
theorem want_bd (T : Nat → Ent) (j : Nat) : -1 ≤ wantI T j ∧ wantI T j ≤ j := by
  unfold wantI; split <;> omega
theorem want_step (T : Nat → Ent) (j : Nat) : ((T j).valid = false → (wantI T j < 0 → wantI T (j + 1) = (j : Int)) ∧ (¬ wantI T j < 0 → wantI T (j + 1) = wantI T j)) ∧ ((T j).valid = true → wantI T (j + 1) = wantI T j) := by
  obtain ⟨a, _, _⟩ := fst_spec T (fun e => !e.valid) j
  have hs : fst T (fun e => !e.valid) (j + 1) = if fst T (fun e => !e.valid) j < j then fst T (fun e => !e.valid) j else if (!(T j).valid) = true then j else j + 1 := rfl
  unfold wantI
  rw [hs]
  by_cases h : fst T (fun e => !e.valid) j < j
  · rw [if_pos h, if_pos h, if_pos (by omega)]
    exact ⟨fun _ => ⟨fun h2 => by omega, fun _ => rfl⟩, fun _ => rfl⟩
  · rw [if_neg h, if_neg h]
    refine ⟨fun hv => ?_, fun hv => ?_⟩
    · rw [hv]; simp
    · rw [hv]; simp
theorem want_ins {T : Nat → Ent} {n : Nat} {g : Ent} (hm : g.mayB = true) (hp : ∀ k, k < n → (T k).valid = true → partsB (T k) g = true) (p : Int) : ¬ wantI T n < 0 → (wantI T n = (insN T n g p : Int)) ∧ insE T n g = 0 := by
  intro h
  obtain ⟨_, b, c⟩ := fst_spec T (fun e => !e.valid) n
  unfold wantI at *
  by_cases hf : fst T (fun e => !e.valid) n < n
  · rw [if_pos hf]
    obtain ⟨h1, h2⟩ := ins_first hm hf (by simpa using c hf) (fun k hk => by simpa using b k hk) hp p
    exact ⟨by rw [h2], h1⟩
  · rw [if_neg hf] at h; omega
/-! ### The walk -/
set_option maxHeartbeats 4000000 in
set_option maxRecDepth 100000 in
theorem walk (w : World) (s0 : Option Addr) (len0 cap0 : Nat) (w0 : IsDeeds w s0 len0 cap0) (a1 : Int) (w1 : (Lit.int .i64 a1).wf = true) (E2 : Ent) (l2 : E2.lits) :
    Calls Try.prog 9 #[.slice s0 len0 cap0, .int .i64 a1, .agg #[.int .i64 E2.size, .int .i64 E2.ctx, .int .u64 E2.va, .int .u64 E2.pa, .bool E2.att.write, .bool E2.att.priv, .bool E2.att.exec, .bool E2.att.lock, .bool E2.att.global, .bool E2.att.quiet, .bool E2.valid]] w fun e w' => e = .returned (.bool true) ∧ Below w.heap.size w w' := by
  obtain ⟨p0, p1⟩ := bounds_i64 w1
  have w0' := w0
  have hlen : len0 ≤ 9223372036854775807 := by
    rcases w0 with ⟨_, h⟩ | ⟨_, _, h1, h2, _⟩
    · omega
    · unfold maxLen at h2; omega
  clear w1 w0
  obtain ⟨g0, hok0, HG⟩ := good_some E2 l2
  have HLV := Lib.hid (fun W => lives_any W)
  have hok := lockAs_ok hok0 false
  have hN6 : newN 6 = 6 := by decide
  have C1 := new_any 6 (w.alloc (.cells #[.int .i64 E2.size, .int .i64 E2.ctx, .int .u64 E2.va, .int .u64 E2.pa, .bool E2.att.write, .bool E2.att.priv, .bool E2.att.exec, .bool E2.att.lock, .bool E2.att.global, .bool E2.att.quiet, .bool E2.valid] 33))
  have C2 := fun W => rnew_any 6 W
  rw [hN6] at C1 C2
  have C1 := Lib.hid C1
  have C2 := Lib.hid C2
  clear l2 hok0 hN6
  go_enter Try.func9, Try.ntmps9
  go_wp2_with fail
  refine C1.out.mono ?_; rintro e W0 ⟨rfl, h0, b0, s0⟩
  simp only [World.size_alloc] at h0 b0 s0
  have R0 := (RowE.new w E2).below b0 (by simp)
  have B0 : Below w.heap.size w W0 := (box1 w (.cells #[.int .i64 E2.size, .int .i64 E2.ctx, .int .u64 E2.va, .int .u64 E2.pa, .bool E2.att.write, .bool E2.att.priv, .bool E2.att.exec, .bool E2.att.lock, .bool E2.att.global, .bool E2.att.quiet, .bool E2.valid] 33)).trans (b0.mono (by omega))
  clear b0 C1
  go_wp2_with fail
  refine (C2.out _).mono ?_; rintro e W1 ⟨v0, rfl, hd1, hb1⟩
  have P0 : PC w W1 (w.heap.size + 1 + 1) (w.heap.size + 1) 6 (fun _ => Ent.zero) W0.heap.size v0 (fun _ => Ent.zero) w.heap.size E2 := ⟨B0.trans (hb1.mono B0.size), h0.low hb1, hd1, Ok.new _, R0.below hb1 R0.lt, ⟨by omega, by omega, hb1.size, by omega⟩⟩
  clear C2 h0 R0 B0 hd1 hb1 s0
  generalize W0.heap.size = B at *
  obtain ⟨sb, hsb⟩ : ∃ sb, w.heap.size + 1 + 1 = sb := ⟨_, rfl⟩
  obtain ⟨bb, hbb⟩ : ∃ bb, w.heap.size + 1 = bb := ⟨_, rfl⟩
  rw [hsb, hbb] at P0
  rw [hsb]
  clear hsb hbb
  go_wp2_with fail
  go_loopw [8, 9] (fun v i wr => ∃ (j : Nat) (T R : Nat → Ent), i = .int .i64 (j : Int) ∧ j ≤ 20 ∧ PC w wr sb bb 6 T B v R w.heap.size E2) (fun _ i _ => 20 - (intOf i).toNat)
  case atStart => exact ⟨0, _, _, rfl, by omega, P0⟩
  case round =>
    clear P0
    obtain ⟨j, T, R, rfl, hj, P⟩ := hrel
    by_cases h12 : (j : Int) < (len0 : Int) ∧ (j : Int) < 20
    · obtain ⟨h1, h2⟩ := h12
      obtain ⟨b, o, off, d, rfl, ho, hlc, hcm, hd, hc⟩ := deeds_at w0' j (by omega)
      unfold maxLen at hcm
      have hcl : ∀ {b o : Nat} {v : Value}, w.cell? ⟨b, o, none⟩ = some v → wr.cell? ⟨b, o, none⟩ = some v := fun {b o v} hc => (P.bel.cell (p := ⟨b, o, none⟩) (lt_cell hc)).trans hc
      obtain ⟨c0, c1, c2, c3, c4, c5, c6, c7, c8, c9, c10, c11, c12, c13, c14, c15⟩ := hc
      replace c0 := hcl c0; replace c1 := hcl c1; replace c2 := hcl c2; replace c3 := hcl c3; replace c4 := hcl c4; replace c5 := hcl c5; replace c6 := hcl c6; replace c7 := hcl c7; replace c8 := hcl c8; replace c9 := hcl c9; replace c10 := hcl c10; replace c11 := hcl c11; replace c12 := hcl c12; replace c13 := hcl c13; replace c14 := hcl c14; replace c15 := hcl c15
      have hAE : (⟨b, off, none⟩ : Addr).add (j * 16) = ⟨b, o, none⟩ := by rw [← ho]; unfold Addr.add; split <;> simp_all
      clear hcl
      have DA := Lib.hid (does_any d hd wr P.tlb P.doc P.ok.wf P.far.2.1 P.far.2.2.1)
      go_wp2_with fail
      refine DA.out.mono ?_; rintro r w5 ⟨v5, b5, rfl, ht5, hd5, tn5, _⟩
      have P5 := P.done ht5 hd5 (P.ok.act hd) tn5
      clear DA ht5 hd5 tn5 P c0 c1 c2 c3 c4 c5 c6 c7 c8 c9 c10 c11 c12 c13 c14 c15
      go_wp2_with fail
      go_roundw
      case rel => exact ⟨j + 1, _, _, by go_num, by omega, P5⟩
      case measure => simp [intOf]; omega
    · by_cases h1 : (j : Int) < (len0 : Int)
      · have h2 : ¬ ((j : Int) < 20) := by omega
        clear h12
        have hok6 := P.tlb.ok
        have AA := Lib.hid (at_any a1 wr P.tlb)
        have CLR := Lib.hid (fun W hW => clear_any (sb := sb) (bb := bb) (n := 6) (T := T) a1 W hW)
        have hz := clear_at hok6 a1
        have hokc := hok6.clearT a1
        clear hok6
        go_wp2_with fail
        refine AA.out.mono ?_; rintro r w5 ⟨rfl, hb5⟩
        have P5 := P.low hb5
        clear AA hb5 P
        generalize atE T 6 a1 = E1 at *
        have P6 := P5.low (box1 w5 (.cells #[.int .i64 E1.size, .int .i64 E1.ctx, .int .u64 E1.va, .int .u64 E1.pa, .bool E1.att.write, .bool E1.att.priv, .bool E1.att.exec, .bool E1.att.lock, .bool E1.att.global, .bool E1.att.quiet, .bool E1.valid] 33))
        clear P5
        go_wp2_with fail
        refine (CLR.out _ P6.tlb).mono ?_; rintro r w7 ⟨rfl, ht7, tn7⟩
        have P7 := P6.prog ht7 tn7
        clear P6 ht7 tn7 CLR
        generalize clearT T 6 a1 = T7 at *
        have A2 := at_any a1 w7 P7.tlb
        rw [hz] at A2
        generalize hzz : Ent.zero = z at A2
        have hzv : z.valid = false := by rw [← hzz]; rfl
        have A2 := Lib.hid A2
        clear hz
        go_wp2_with fail
        refine A2.out.mono ?_; rintro r w8 ⟨rfl, hb8⟩
        have P8 := P7.low hb8
        have P9 := P8.low (box1 w8 (.cells #[.int .i64 z.size, .int .i64 z.ctx, .int .u64 z.va, .int .u64 z.pa, .bool z.att.write, .bool z.att.priv, .bool z.att.exec, .bool z.att.lock, .bool z.att.global, .bool z.att.quiet, .bool z.valid] 33)); rw [hzv] at P9
        clear P7 P8 hb8 A2
        generalize E1.valid = X at *
        have hX : (X != X) = false := by cases X <;> rfl
        obtain ⟨r0, r1, r2, r3, r4, r5, r6, r7, r8, r9, r10⟩ := P9.row.cells
        go_wp2_with fail
        refine (HG.out _).mono ?_; rintro r w10 ⟨rfl, hb10⟩
        have P10 := P9.low hb10
        clear P9 hb10 HG r0 r1 r2 r3 r4 r5 r6 r7 r8 r9 r10
        go_wp2_with fail
        have P11 := P10.low (box1 w10 (.cells #[.int .i64 g0.size, .int .i64 g0.ctx, .int .u64 g0.va, .int .u64 g0.pa, .bool g0.att.write, .bool g0.att.priv, .bool g0.att.exec, .bool false, .bool g0.att.global, .bool g0.att.quiet, .bool g0.valid] 33))
        have G11 : LKE w (w10.alloc (.cells #[.int .i64 g0.size, .int .i64 g0.ctx, .int .u64 g0.va, .int .u64 g0.pa, .bool g0.att.write, .bool g0.att.priv, .bool g0.att.exec, .bool false, .bool g0.att.global, .bool g0.att.quiet, .bool g0.valid] 33)) sb bb 6 T7 w10.heap.size (lockAs g0 false) := ⟨P11.bel, P11.tlb, RowE.new w10 (lockAs g0 false), P11.far.1, by have := P10.tlb.lt; omega⟩
        clear P10 P11
        generalize World.alloc w10 _ = w11 at *
        have hgw := okE_wf hok
        have hgm := hok.may
        generalize lockAs g0 false = g at *
        generalize w10.heap.size = gb at *
        clear hok
        go_loopw [18, 19] (fun v i wr => ∃ j : Nat, j ≤ 6 ∧ i = .int .i64 (j : Int) ∧ v = .int .i64 (wantI T7 j) ∧ (∀ k, k < j → (T7 k).valid = true → partsB (T7 k) g = true) ∧ LKE w wr sb bb 6 T7 gb g) (fun _ i _ => 6 - (intOf i).toNat)
        case atStart => exact ⟨0, by omega, rfl, rfl, fun k hk => absurd hk (Nat.not_lt_zero k), G11⟩
        case round =>
          clear G11
          obtain ⟨j, hj, rfl, rfl, hpt, K⟩ := hrel
          have hpt := Lib.hid hpt
          by_cases hlt : j < 6
          · have hlt' : (j : Int) < 6 := by omega
            have AJ := at_any (j : Int) wr K.tlb
            rw [show atE T7 6 (j : Int) = T7 j by unfold atE hasB; rw [show (decide (0 ≤ (j : Int)) && decide ((j : Int) < ((6 : Nat) : Int))) = true by simp; omega]; simp] at AJ
            have AJ := Lib.hid AJ
            have hTw := hokc.wf j hlt
            have CP := Lib.hid (fun W => parts_any (T7 j) g hTw.2.2.1.1 hTw.2.2.1.2 hgw.2.2.1.1 hgw.2.2.1.2 W)
            have hws := want_step T7 j
            have hpt1 := Lib.hid (fun (h : (T7 j).valid = true → partsB (T7 j) g = true) => (fun k hk => (by
              by_cases ek : k = j
              · rw [ek]; exact h
              · exact hpt.out k (by omega)) : ∀ k, k < j + 1 → (T7 k).valid = true → partsB (T7 k) g = true))
            have hws := Lib.hid hws
            have hwb := want_bd T7 j
            clear hpt
            generalize wantI T7 j = wj at *
            go_wp2_with fail
            refine AJ.out.mono ?_; rintro r w12 ⟨rfl, hb12⟩
            have K12 := K.low hb12
            have K13 := K12.low (box1 w12 (.cells #[.int .i64 (T7 j).size, .int .i64 (T7 j).ctx, .int .u64 (T7 j).va, .int .u64 (T7 j).pa, .bool (T7 j).att.write, .bool (T7 j).att.priv, .bool (T7 j).att.exec, .bool (T7 j).att.lock, .bool (T7 j).att.global, .bool (T7 j).att.quiet, .bool (T7 j).valid] 33))
            obtain ⟨r0, r1, r2, r3, r4, r5, r6, r7, r8, r9, r10⟩ := K12.row.cells
            have hgl := K12.row.lt
            clear K AJ hb12 K12
            cases hv : (T7 j).valid
            · have hn1 := Lib.hid (hpt1.out (fun h => by rw [hv] at h; cases h))
              have hw2 := hws.out.1 hv
              rw [hv] at K13
              by_cases hw0 : wj < 0
              · have hw3 := Lib.hid (hw2.1 hw0)
                clear hpt1 hws hw2
                go_wp2_with fail
                go_roundw
                case rel => exact ⟨j + 1, by omega, by go_num, by rw [hw3.out], hn1.out, K13⟩
                case measure => simp [intOf]; omega
              · have hw3 := Lib.hid (hw2.2 (by omega))
                clear hpt1 hws hw2
                go_wp2_with fail
                go_roundw
                case rel => exact ⟨j + 1, by omega, by go_num, by rw [hw3.out], hn1.out, K13⟩
                case measure => simp [intOf]; omega
            · have hw3 := Lib.hid (hws.out.2 hv)
              rw [hv] at K13 CP
              clear hws
              go_wp2_with fail
              refine (CP.out _).mono ?_; rintro r w14 ⟨rfl, hb14⟩
              have K14 := K13.low hb14
              clear K13 hb14 CP r0 r1 r2 r3 r4 r5 r6 r7 r8 r9 r10
              cases hpp : partsB (T7 j) g
              · go_wp2_with fail
                refine (HLV.out _).mono ?_; rintro r w15 ⟨rfl, hb15⟩
                go_wp2_with fail
                go_ret
                exact ⟨rfl, (K14.low hb15).bel⟩
              · have hn1 := Lib.hid (hpt1.out (fun _ => hpp))
                clear hpt1
                go_wp2_with fail
                go_roundw
                case rel => exact ⟨j + 1, by omega, by go_num, by rw [hw3.out], hn1.out, K14⟩
                case measure => simp [intOf]; omega
          · obtain rfl : j = 6 := by omega
            have hfin := want_ins hgm hpt.out 3
            have I := Lib.hid (ins_any g hgw 3 (by decide) (by decide) wr K.tlb)
            obtain ⟨r0, r1, r2, r3, r4, r5, r6, r7, r8, r9, r10⟩ := K.row.cells
            have hfin := Lib.hid hfin
            clear hpt
            generalize insN T7 6 g 3 = nI at *
            generalize insE T7 6 g = eI at *
            generalize insT T7 6 g 3 = tI at *
            generalize wantI T7 6 = wI at *
            go_wp2_with fail
            refine I.out.mono ?_; rintro r w12 ⟨rfl, ht12, tn12⟩
            have K12 := K.prog ht12 tn12
            clear K ht12 tn12 I r0 r1 r2 r3 r4 r5 r6 r7 r8 r9 r10
            by_cases hw0 : wI < 0
            · go_wp2_with fail
              refine (HLV.out _).mono ?_; rintro r w15 ⟨rfl, hb15⟩
              go_wp2_with fail
              go_ret
              exact ⟨rfl, (K12.low hb15).bel⟩
            · obtain ⟨hf1, hf2⟩ := hfin.out (by omega)
              subst hf1 hf2
              go_wp2_with fail
              refine (HLV.out _).mono ?_; rintro r w15 ⟨rfl, hb15⟩
              go_wp2_with fail
              go_ret
              exact ⟨rfl, (K12.low hb15).bel⟩
      · clear h12
        have hok6 := P.tlb.ok
        have AA := Lib.hid (at_any a1 wr P.tlb)
        have CLR := Lib.hid (fun W hW => clear_any (sb := sb) (bb := bb) (n := 6) (T := T) a1 W hW)
        have hz := clear_at hok6 a1
        have hokc := hok6.clearT a1
        clear hok6
        go_wp2_with fail
        refine AA.out.mono ?_; rintro r w5 ⟨rfl, hb5⟩
        have P5 := P.low hb5
        clear AA hb5 P
        generalize atE T 6 a1 = E1 at *
        have P6 := P5.low (box1 w5 (.cells #[.int .i64 E1.size, .int .i64 E1.ctx, .int .u64 E1.va, .int .u64 E1.pa, .bool E1.att.write, .bool E1.att.priv, .bool E1.att.exec, .bool E1.att.lock, .bool E1.att.global, .bool E1.att.quiet, .bool E1.valid] 33))
        clear P5
        go_wp2_with fail
        refine (CLR.out _ P6.tlb).mono ?_; rintro r w7 ⟨rfl, ht7, tn7⟩
        have P7 := P6.prog ht7 tn7
        clear P6 ht7 tn7 CLR
        generalize clearT T 6 a1 = T7 at *
        have A2 := at_any a1 w7 P7.tlb
        rw [hz] at A2
        generalize hzz : Ent.zero = z at A2
        have hzv : z.valid = false := by rw [← hzz]; rfl
        have A2 := Lib.hid A2
        clear hz
        go_wp2_with fail
        refine A2.out.mono ?_; rintro r w8 ⟨rfl, hb8⟩
        have P8 := P7.low hb8
        have P9 := P8.low (box1 w8 (.cells #[.int .i64 z.size, .int .i64 z.ctx, .int .u64 z.va, .int .u64 z.pa, .bool z.att.write, .bool z.att.priv, .bool z.att.exec, .bool z.att.lock, .bool z.att.global, .bool z.att.quiet, .bool z.valid] 33)); rw [hzv] at P9
        clear P7 P8 hb8 A2
        generalize E1.valid = X at *
        have hX : (X != X) = false := by cases X <;> rfl
        obtain ⟨r0, r1, r2, r3, r4, r5, r6, r7, r8, r9, r10⟩ := P9.row.cells
        go_wp2_with fail
        refine (HG.out _).mono ?_; rintro r w10 ⟨rfl, hb10⟩
        have P10 := P9.low hb10
        clear P9 hb10 HG r0 r1 r2 r3 r4 r5 r6 r7 r8 r9 r10
        go_wp2_with fail
        have P11 := P10.low (box1 w10 (.cells #[.int .i64 g0.size, .int .i64 g0.ctx, .int .u64 g0.va, .int .u64 g0.pa, .bool g0.att.write, .bool g0.att.priv, .bool g0.att.exec, .bool false, .bool g0.att.global, .bool g0.att.quiet, .bool g0.valid] 33))
        have G11 : LKE w (w10.alloc (.cells #[.int .i64 g0.size, .int .i64 g0.ctx, .int .u64 g0.va, .int .u64 g0.pa, .bool g0.att.write, .bool g0.att.priv, .bool g0.att.exec, .bool false, .bool g0.att.global, .bool g0.att.quiet, .bool g0.valid] 33)) sb bb 6 T7 w10.heap.size (lockAs g0 false) := ⟨P11.bel, P11.tlb, RowE.new w10 (lockAs g0 false), P11.far.1, by have := P10.tlb.lt; omega⟩
        clear P10 P11
        generalize World.alloc w10 _ = w11 at *
        have hgw := okE_wf hok
        have hgm := hok.may
        generalize lockAs g0 false = g at *
        generalize w10.heap.size = gb at *
        clear hok
        go_loopw [18, 19] (fun v i wr => ∃ j : Nat, j ≤ 6 ∧ i = .int .i64 (j : Int) ∧ v = .int .i64 (wantI T7 j) ∧ (∀ k, k < j → (T7 k).valid = true → partsB (T7 k) g = true) ∧ LKE w wr sb bb 6 T7 gb g) (fun _ i _ => 6 - (intOf i).toNat)
        case atStart => exact ⟨0, by omega, rfl, rfl, fun k hk => absurd hk (Nat.not_lt_zero k), G11⟩
        case round =>
          clear G11
          obtain ⟨j, hj, rfl, rfl, hpt, K⟩ := hrel
          have hpt := Lib.hid hpt
          by_cases hlt : j < 6
          · have hlt' : (j : Int) < 6 := by omega
            have AJ := at_any (j : Int) wr K.tlb
            rw [show atE T7 6 (j : Int) = T7 j by unfold atE hasB; rw [show (decide (0 ≤ (j : Int)) && decide ((j : Int) < ((6 : Nat) : Int))) = true by simp; omega]; simp] at AJ
            have AJ := Lib.hid AJ
            have hTw := hokc.wf j hlt
            have CP := Lib.hid (fun W => parts_any (T7 j) g hTw.2.2.1.1 hTw.2.2.1.2 hgw.2.2.1.1 hgw.2.2.1.2 W)
            have hws := want_step T7 j
            have hpt1 := Lib.hid (fun (h : (T7 j).valid = true → partsB (T7 j) g = true) => (fun k hk => (by
              by_cases ek : k = j
              · rw [ek]; exact h
              · exact hpt.out k (by omega)) : ∀ k, k < j + 1 → (T7 k).valid = true → partsB (T7 k) g = true))
            have hws := Lib.hid hws
            have hwb := want_bd T7 j
            clear hpt
            generalize wantI T7 j = wj at *
            go_wp2_with fail
            refine AJ.out.mono ?_; rintro r w12 ⟨rfl, hb12⟩
            have K12 := K.low hb12
            have K13 := K12.low (box1 w12 (.cells #[.int .i64 (T7 j).size, .int .i64 (T7 j).ctx, .int .u64 (T7 j).va, .int .u64 (T7 j).pa, .bool (T7 j).att.write, .bool (T7 j).att.priv, .bool (T7 j).att.exec, .bool (T7 j).att.lock, .bool (T7 j).att.global, .bool (T7 j).att.quiet, .bool (T7 j).valid] 33))
            obtain ⟨r0, r1, r2, r3, r4, r5, r6, r7, r8, r9, r10⟩ := K12.row.cells
            have hgl := K12.row.lt
            clear K AJ hb12 K12
            cases hv : (T7 j).valid
            · have hn1 := Lib.hid (hpt1.out (fun h => by rw [hv] at h; cases h))
              have hw2 := hws.out.1 hv
              rw [hv] at K13
              by_cases hw0 : wj < 0
              · have hw3 := Lib.hid (hw2.1 hw0)
                clear hpt1 hws hw2
                go_wp2_with fail
                go_roundw
                case rel => exact ⟨j + 1, by omega, by go_num, by rw [hw3.out], hn1.out, K13⟩
                case measure => simp [intOf]; omega
              · have hw3 := Lib.hid (hw2.2 (by omega))
                clear hpt1 hws hw2
                go_wp2_with fail
                go_roundw
                case rel => exact ⟨j + 1, by omega, by go_num, by rw [hw3.out], hn1.out, K13⟩
                case measure => simp [intOf]; omega
            · have hw3 := Lib.hid (hws.out.2 hv)
              rw [hv] at K13 CP
              clear hws
              go_wp2_with fail
              refine (CP.out _).mono ?_; rintro r w14 ⟨rfl, hb14⟩
              have K14 := K13.low hb14
              clear K13 hb14 CP r0 r1 r2 r3 r4 r5 r6 r7 r8 r9 r10
              cases hpp : partsB (T7 j) g
              · go_wp2_with fail
                refine (HLV.out _).mono ?_; rintro r w15 ⟨rfl, hb15⟩
                go_wp2_with fail
                go_ret
                exact ⟨rfl, (K14.low hb15).bel⟩
              · have hn1 := Lib.hid (hpt1.out (fun _ => hpp))
                clear hpt1
                go_wp2_with fail
                go_roundw
                case rel => exact ⟨j + 1, by omega, by go_num, by rw [hw3.out], hn1.out, K14⟩
                case measure => simp [intOf]; omega
          · obtain rfl : j = 6 := by omega
            have hfin := want_ins hgm hpt.out 3
            have I := Lib.hid (ins_any g hgw 3 (by decide) (by decide) wr K.tlb)
            obtain ⟨r0, r1, r2, r3, r4, r5, r6, r7, r8, r9, r10⟩ := K.row.cells
            have hfin := Lib.hid hfin
            clear hpt
            generalize insN T7 6 g 3 = nI at *
            generalize insE T7 6 g = eI at *
            generalize insT T7 6 g 3 = tI at *
            generalize wantI T7 6 = wI at *
            go_wp2_with fail
            refine I.out.mono ?_; rintro r w12 ⟨rfl, ht12, tn12⟩
            have K12 := K.prog ht12 tn12
            clear K ht12 tn12 I r0 r1 r2 r3 r4 r5 r6 r7 r8 r9 r10
            by_cases hw0 : wI < 0
            · go_wp2_with fail
              refine (HLV.out _).mono ?_; rintro r w15 ⟨rfl, hb15⟩
              go_wp2_with fail
              go_ret
              exact ⟨rfl, (K12.low hb15).bel⟩
            · obtain ⟨hf1, hf2⟩ := hfin.out (by omega)
              subst hf1 hf2
              go_wp2_with fail
              refine (HLV.out _).mono ?_; rintro r w15 ⟨rfl, hb15⟩
              go_wp2_with fail
              go_ret
              exact ⟨rfl, (K12.low hb15).bel⟩

/-! ### The row -/
set_option maxRecDepth 100000 in
theorem lifted (os : Os) (started : os.Started) (H : Type) (enc : TypeId × Value → H) :
    ReturnsInHanded {} Try.checked os 9 .any (Rows.tlbClearsSpec.pre6 enc Try.prog Try.f9 Rows.tlbClearsRow.domain false) (Rows.tlbClearsSpec.post enc Try.prog Try.f9 false true false false) := by
  refine returnsInHanded_of_change (C := Try.checked) own started (by kernel_rfl) Try.func9
    (ChangeSpec.witness6 (enc := enc) (C := Try.checked) false ⟨#[], #[.slice none 0 0, .int .i64 0, .agg #[.int .i64 0, .int .i64 0, .int .u64 0, .int .u64 0, .bool false, .bool false, .bool false, .bool false, .bool false, .bool false, .bool false]], []⟩ 8 (by kernel_rfl) (by kernel_rfl) (by kernel_rfl) (by kernel_rfl)) ?_
  intro W base args ds gs before hval0 hW hcnd _
  have hval : ∀ (j : Nat) t v, Try.f9.params[j]? = some t → args[j]? = some v → Value.okWide Try.prog W .any base t v := hval0
  have hW' := hW
  obtain ⟨p, q, hA0, hV, rfl, hfz, hnd⟩ := hW
  have hA : DataW.TrodAll enc Try.prog W 0 (fun _ => true) true Try.f9.params.toList args.toList ds p := hA0
  rw [Try.params9] at hA hval
  obtain ⟨v0, vs0, d0, ds0, p0, q0, hargs, rfl, rfl, h0, r0⟩ := trodAll_cons hA
  obtain ⟨v1, vs1, d1, ds1, p1, q1, rfl, rfl, rfl, h1, r1⟩ := trodAll_cons r0
  obtain ⟨v2, vs2, d2, ds2, p2, q2, rfl, rfl, rfl, h2, r2⟩ := trodAll_cons r1
  obtain ⟨rfl, rfl, rfl⟩ := trodAll_nil r2
  obtain rfl : args = #[v0, v1, v2] := by cases args; simp_all
  obtain ⟨rfl, rfl⟩ := trodVars_none hV
  obtain ⟨s0, len0, cap0, rfl⟩ := okWide_slice Try.underlying22 (hval 0 22 v0 rfl rfl)
  have k0 := h0
  have lt0 : ∀ x ∈ p0, x.block < W.heap.size := by obtain ⟨m, hm⟩ := k0; exact DataW.trod_lt m _ _ _ hm
  have w0 : IsDeeds W s0 len0 cap0 := by
    obtain ⟨fuel, hf⟩ := h0
    exact open_deeds hf
  obtain ⟨a1, rfl, rfl, rfl, w1⟩ := open_int Try.underlying3 (hval 1 3 v1 rfl rfl) h1
  obtain ⟨E2, rfl, rfl, rfl, l2⟩ := open_entry (hval 2 33 v2 rfl rfl) h2
  clear hA0 hval0
  simp only [List.append_nil] at hW'
  refine (walk W s0 len0 cap0 w0 a1 w1 E2 l2).mono fun e W' ⟨he, hg⟩ => ?_
  subst he
  exact ⟨_, rfl, _, _, _, [], _, [], hW', trodAll_mk1 (shut_bool Try.underlying4 _), (trodAll_cons_mk (Below.trod laidOut (by kernel_rfl) (of_decide_eq_true (by kernel_rfl)) k0 hg lt0) (trodAll_cons_mk (shut_int Try.underlying3 w1) (trodAll_cons_mk (shut_entry l2) trodAll_mk0))), rfl, hg.frame _, fun h => by cases h⟩

theorem over : Rows.tlbClearsRow.holds Try.pinned (OpenSpec.ofChange Rows.tlbClearsSpec) :=
  OpenClaim.holds_of_wide 9 Try.f9 rfl rfl rfl rfl rfl rfl rfl ⟨rfl, rfl, rfl, rfl, rfl⟩ rfl rfl rfl rfl rfl (by kernel_rfl) Try.func9 (by kernel_rfl)
    (of_decide_eq_true (by kernel_rfl)) (by unfold Func.isWrapper; first | (rw [if_pos (by decide +kernel)]; kernel_rfl) | (rw [if_neg (by decide +kernel)]; exact ⟨rfl, rfl⟩))
    (fun os started H enc _ => lifted os started H enc)

theorem proved : Rows.TlbClearsSaid :=
  over
#print axioms proved
end Go.Proofs.Ytbhpljjogmagoaa.tlbClears
