/-
  TlbOnce: for every number, all deeds, every address and context the law returns true, and its arguments read as before. Conditions: none.
-/
import Derived.Test.YtbhpljjogmagoaaRows
import Derived.WalkKit
import Derived.ProofKit
import Derived.OpenShut
import Derived.Test.YtbhpljjogmagoaaGI
import Derived.Test.YtbhpljjogmagoaaGE
import Derived.Deep.DeepCutAuto
namespace Go.Proofs.Ytbhpljjogmagoaa.tlbOnce
open Fld Tl
open Go.ChangeShapes Go.WideShapes Go.ChangeAt Go.RowKit Go.Deep Go.Shelf
set_option linter.unusedVariables false

theorem own : ownKnob Try.prog.godebug = none := by kernel_rfl

/-- Of how many of the first k entries a thing is so. -/
def cntL (l : List Ent) (p : Ent → Bool) : Nat → Nat
  | 0 => 0
  | k + 1 => cntL l p k + if p (nthE l k) then 1 else 0
theorem cntL_le (l : List Ent) (p : Ent → Bool) (k : Nat) : cntL l p k ≤ k := by
  induction k with
  | zero => exact Nat.le_refl _
  | succ k ih => unfold cntL; split <;> omega
theorem cntL_congr {l m : List Ent} {p : Ent → Bool} {k : Nat} (h : ∀ i, i < k → nthE l i = nthE m i) : cntL l p k = cntL m p k := by
  induction k with
  | zero => rfl
  | succ k ih => unfold cntL; rw [ih fun i hi => h i (by omega), h k (by omega)]
theorem cntL_all (T : Nat → Ent) (p : Ent → Bool) (n : Nat) : cntL (vals T n) p (vals T n).length = cntE T p n := by
  induction n with
  | zero => rfl
  | succ n ih =>
    cases hv : (T n).valid
    · rw [vals_miss hv, ih, cntE_miss (by rw [hv]; rfl)]
    · rw [vals_hit hv, List.length_append]
      show cntL _ p (vals T n).length + (if p (nthE (vals T n ++ [T n]) (vals T n).length) then 1 else 0) = _
      rw [cntL_congr (m := vals T n) (fun i hi => by simp [nthE, List.getElem?_append_left hi]), ih, show nthE (vals T n ++ [T n]) (vals T n).length = T n by simp [nthE]]
      cases hp : p (T n)
      · rw [cntE_miss (by rw [hv, hp]; rfl)]; rfl
      · rw [cntE_hit (by rw [hv, hp]; rfl)]; rfl
theorem vals_at {T : Nat → Ent} {n k : Nat} (hk : k < (vals T n).length) : ∃ i, i < n ∧ T i = nthE (vals T n) k ∧ (nthE (vals T n) k).valid = true := by
  have : nthE (vals T n) k = (vals T n)[k] := by unfold nthE; rw [List.getD_eq_getElem?_getD, List.getElem?_eq_getElem hk]; rfl
  rw [this]
  exact vals_mem.1 (List.getElem_mem hk)
theorem hits_le {T : Nat → Ent} {n : Nat} (h : Ok T n) (va ctx : Int) : cntE T (fun e => e.hitsB va ctx) n ≤ 1 := by
  by_cases h0 : cntE T (fun e => e.hitsB va ctx) n = 0
  · omega
  · have : ∃ i, i < n ∧ (T i).hitsB va ctx = true := by
      refine Classical.byContradiction fun hc => h0 (cntE_zero.2 fun k hk => ?_)
      cases e : (T k).hitsB va ctx
      · simp
      · exact absurd ⟨k, hk, e⟩ hc
    obtain ⟨i, hi, he⟩ := this
    rw [hits_cnt h hi he]
    exact Nat.le_refl _
/-- The places, and the document's list of none. -/
structure PO (w wr : World) (sb bb N : Nat) (T : Nat → Ent) (B : Nat) (v : Value) : Prop where
  bel : Below w.heap.size w wr
  tlb : TlbAt wr sb bb N T
  doc : DocAt wr B v N (fun _ => Ent.zero)
  far : w.heap.size ≤ bb ∧ bb < B ∧ B ≤ wr.heap.size
theorem PO.low {w wr w' : World} {sb bb N B : Nat} {T : Nat → Ent} {v : Value} (h : PO w wr sb bb N T B v) (hb : Below wr.heap.size wr w') : PO w w' sb bb N T B v := ⟨h.bel.trans (hb.mono h.bel.size), h.tlb.low hb, doc_below h.doc hb, ⟨h.far.1, h.far.2.1, Nat.le_trans h.far.2.2 hb.size⟩⟩
theorem PO.prog {w wr w' : World} {sb bb N B : Nat} {T U : Nat → Ent} {v : Value} (h : PO w wr sb bb N T B v) (ht : TlbAt w' sb bb N U) (hb : Turn wr w' bb) : PO w w' sb bb N U B v := ⟨h.bel.trans (hb.to_below h.far.1 h.bel.size), ht, doc_turn h.doc hb h.far.2.1, ⟨h.far.1, h.far.2.1, Nat.le_trans h.far.2.2 hb.size⟩⟩
/-- Beside them a list of entries. -/
structure PL (w wr : World) (sb bb N : Nat) (T : Nat → Ent) (B : Nat) (v : Value) (C : Nat) (ao : Option Addr) (cap : Nat) (l : List Ent) : Prop where
  po : PO w wr sb bb N T B v
  own : ListAt wr C (.slice ao l.length cap) l
theorem PL.low {w wr w' : World} {sb bb N B C cap : Nat} {T : Nat → Ent} {v : Value} {ao : Option Addr} {l : List Ent} (h : PL w wr sb bb N T B v C ao cap l) (hb : Below wr.heap.size wr w') : PL w w' sb bb N T B v C ao cap l := ⟨h.po.low hb, own_below h.own hb⟩
theorem PL.at {w wr : World} {sb bb N B C cap : Nat} {T : Nat → Ent} {v : Value} {ao : Option Addr} {l : List Ent} (h : PL w wr sb bb N T B v C ao cap l) {k o : Nat} (hk : k < l.length) (ho : k * 11 = o) : ∃ g, ao = some ⟨g, 0, none⟩ ∧ l.length ≤ cap ∧ cap ≤ 9223372036854775807 ∧ wr.cell? ⟨g, o, none⟩ = some (.int .i64 (nthE l k).size) ∧ wr.cell? ⟨g, o + 1, none⟩ = some (.int .i64 (nthE l k).ctx) ∧ wr.cell? ⟨g, o + 2, none⟩ = some (.int .u64 (nthE l k).va) ∧ wr.cell? ⟨g, o + 3, none⟩ = some (.int .u64 (nthE l k).pa) ∧ wr.cell? ⟨g, o + 4, none⟩ = some (.bool (nthE l k).att.write) ∧ wr.cell? ⟨g, o + 5, none⟩ = some (.bool (nthE l k).att.priv) ∧ wr.cell? ⟨g, o + 6, none⟩ = some (.bool (nthE l k).att.exec) ∧ wr.cell? ⟨g, o + 7, none⟩ = some (.bool (nthE l k).att.lock) ∧ wr.cell? ⟨g, o + 8, none⟩ = some (.bool (nthE l k).att.global) ∧ wr.cell? ⟨g, o + 9, none⟩ = some (.bool (nthE l k).att.quiet) ∧ wr.cell? ⟨g, o + 10, none⟩ = some (.bool (nthE l k).valid) := by
  obtain ⟨g, cap', hv, h1, h2, _, _, h5, _⟩ := doc_at h.own (by omega)
  simp only [Value.slice.injEq, true_and] at hv
  obtain ⟨rfl, rfl⟩ := hv
  unfold maxLen at h2
  exact ⟨g, rfl, h1, h2, h5 k o hk ho⟩
/-! ### The walk -/
set_option maxHeartbeats 4000000 in
set_option maxRecDepth 100000 in
theorem walk (w : World) (a0 : Int) (w0 : (Lit.int .i64 a0).wf = true) (s1 : Option Addr) (len1 cap1 : Nat) (w1 : IsDeeds w s1 len1 cap1) (a2 : Int) (w2 : (Lit.int .u64 a2).wf = true) (a3 : Int) (w3 : (Lit.int .i64 a3).wf = true) :
    Calls Try.prog 4 #[.int .i64 a0, .slice s1 len1 cap1, .int .u64 a2, .int .i64 a3] w fun e w' => e = .returned (.bool true) ∧ Below w.heap.size w w' := by
  obtain ⟨x0, x1⟩ := bounds_i64 w0
  obtain ⟨y0, y1⟩ := bounds_u64 w2
  have w1' := w1
  have hlen : len1 ≤ 9223372036854775807 := by
    rcases w1 with ⟨_, h⟩ | ⟨_, _, h1, h2, _⟩
    · omega
    · unfold maxLen at h2; omega
  clear w0 w1 w2 w3
  have HLV := Lib.hid (fun W => lives_any W)
  have main := Lib.hid (fun (a : Int) (W : World) => new_any a W)
  by_cases hn : 10 < a0
  · go_enter Try.func4, Try.ntmps4
    go_wp2_with fail
    refine (main.out _ _).mono ?_; rintro e W0 ⟨rfl, h0, b0, s0⟩
    have RN := Lib.hid (fun (a : Int) W => rnew_any a W)
    generalize hN : newN _ = N at *
    replace hN := Lib.hid hN
    go_wp2_with fail
    refine (RN.out _ _).mono ?_; rw [hN.out]; rintro e W1 ⟨v0, rfl, hd1, hb1⟩
    have P0 : PO w W1 (w.heap.size + 1) w.heap.size N (fun _ => Ent.zero) W0.heap.size v0 := ⟨b0.trans (hb1.mono b0.size), h0.low hb1, hd1, ⟨Nat.le_refl _, by omega, hb1.size⟩⟩
    clear RN h0 b0 hd1 hb1 s0 main hN
    generalize W0.heap.size = B at *
    go_wp2_with fail
    go_loopw [11] (fun i wr => ∃ (j : Nat) (T : Nat → Ent), i = .int .i64 (j : Int) ∧ j ≤ 40 ∧ PO w wr (w.heap.size + 1) w.heap.size N T B v0) (fun i _ => 40 - (intOf i).toNat)
    case atStart => exact ⟨0, _, rfl, by omega, P0⟩
    case round =>
      clear P0
      obtain ⟨i, T, rfl, hi, P⟩ := hrel
      by_cases h12 : (i : Int) < (len1 : Int) ∧ (i : Int) < 40
      · obtain ⟨h1, h2⟩ := h12
        obtain ⟨b, o, off, d, rfl, ho, hlc, hcm, hd, hc⟩ := deeds_at w1' i (by omega)
        unfold maxLen at hcm
        have hcl : ∀ {b o : Nat} {v : Value}, w.cell? ⟨b, o, none⟩ = some v → wr.cell? ⟨b, o, none⟩ = some v := fun {b o v} hc => (P.bel.cell (p := ⟨b, o, none⟩) (lt_cell hc)).trans hc
        obtain ⟨c0, c1, c2, c3, c4, c5, c6, c7, c8, c9, c10, c11, c12, c13, c14, c15⟩ := hc
        replace c0 := hcl c0; replace c1 := hcl c1; replace c2 := hcl c2; replace c3 := hcl c3; replace c4 := hcl c4; replace c5 := hcl c5; replace c6 := hcl c6; replace c7 := hcl c7; replace c8 := hcl c8; replace c9 := hcl c9; replace c10 := hcl c10; replace c11 := hcl c11; replace c12 := hcl c12; replace c13 := hcl c13; replace c14 := hcl c14; replace c15 := hcl c15
        have hAE : (⟨b, off, none⟩ : Addr).add (i * 16) = ⟨b, o, none⟩ := by rw [← ho]; unfold Addr.add; split <;> simp_all
        clear hcl
        have DA := Lib.hid (does_any d hd wr P.tlb P.doc (fun _ _ => zero_wf) P.far.2.1 P.far.2.2)
        go_wp2_with fail
        refine DA.out.mono ?_; rintro r w5 ⟨v5, b5, rfl, ht5, hd5, tn5, _⟩
        have P5 := P.prog ht5 tn5
        clear DA ht5 hd5 tn5 P c0 c1 c2 c3 c4 c5 c6 c7 c8 c9 c10 c11 c12 c13 c14 c15 hAE ho
        generalize act T N d = T5 at *
        have hok := P5.tlb.ok
        have hle := P5.tlb.le
        go_wp2_with fail
        refine (list_any w5 P5.tlb).mono ?_; rintro r w6 ⟨v6, rfl, hl6, hb6⟩
        obtain ⟨ao, cap, rfl⟩ := own_shape hl6
        have hll := vals_le T5 N
        have hlw := Lib.hid (fun k (hk : k < (vals T5 N).length) => (by
          obtain ⟨q, hq, he, _⟩ := vals_at hk
          rw [← he]; exact hok.wf q hq : (nthE (vals T5 N) k).wf))
        have hlh := Lib.hid (fun k (hk : k < (vals T5 N).length) => (by
          obtain ⟨q, hq, he, hv⟩ := vals_at hk
          rw [cntL_all, ← he]
          exact hits_cnt hok hq (hits_self (hok.may q hq (by rw [he]; exact hv))) : cntL (vals T5 N) (fun e => e.hitsB (nthE (vals T5 N) k).va (nthE (vals T5 N) k).ctx) (vals T5 N).length = 1))
        have hlm := Lib.hid (show cntL (vals T5 N) (fun e => e.hitsB a2 a3) (vals T5 N).length ≤ 1 by rw [cntL_all]; exact hits_le hok a2 a3)
        have L6 : PL w w6 (w.heap.size + 1) w.heap.size N T5 B v0 w5.heap.size ao cap (vals T5 N) := ⟨P5.low hb6, hl6⟩
        clear P5 hl6 hb6 hok
        generalize vals T5 N = l at *
        generalize w5.heap.size = C6 at *
        go_wp2_with fail
        go_loopw [13] (fun a wr => ∃ j : Nat, j ≤ l.length + 1 ∧ a = .int .i64 (j : Int) ∧ PL w wr (w.heap.size + 1) w.heap.size N T5 B v0 C6 ao cap l) (fun a _ => l.length + 1 - (intOf a).toNat)
        case atStart => exact ⟨0, by omega, rfl, L6⟩
        case round =>
          clear L6
          obtain ⟨j, hj, rfl, L7⟩ := hrel
          by_cases hlt : j < l.length
          · have hlt' : (j : Int) < (l.length : Int) := by omega
            have hlt2 : (j : Int) ≤ (l.length : Int) := by omega
            obtain ⟨o, ho⟩ : ∃ o, j * 11 = o := ⟨_, rfl⟩
            obtain ⟨g, rfl, n1, n2, c0, c1, c2, c3, c4, c5, c6, c7, c8, c9, c10⟩ := L7.at hlt ho
            have hAE : (⟨g, 0, none⟩ : Addr).add o = ⟨g, o, none⟩ := by unfold Addr.add; split <;> simp_all
            have hwj := (hlw.out j hlt).2.2.1
            have hfj := hlh.out j hlt
            generalize nthE l j = ej at *
            clear hlh hlm
            have hvb : 0 ≤ ej.va ∧ ej.va ≤ 18446744073709551615 := hwj
            go_wp2_with fail
            go_loopw [16, 17] (fun v i wr => ∃ k : Nat, k ≤ l.length ∧ i = .int .i64 (k : Int) ∧ v = .int .i64 (cntL l (fun e => e.hitsB (ej.va) (ej.ctx)) k : Int) ∧ PL w wr (w.heap.size + 1) w.heap.size N T5 B v0 C6 (some ⟨g, 0, none⟩) cap l) (fun _ i _ => l.length - (intOf i).toNat)
            case atStart => exact ⟨0, by omega, rfl, rfl, L7⟩
            case round =>
              clear L7
              obtain ⟨k, hk, rfl, rfl, L8⟩ := hrel
              have hcl := cntL_le l (fun e => e.hitsB (ej.va) (ej.ctx)) k
              by_cases hlk : k < l.length
              · obtain ⟨o, ho⟩ : ∃ o, k * 11 = o := ⟨_, rfl⟩
                obtain ⟨g3, hg3, n3, n4, c0, c1, c2, c3, c4, c5, c6, c7, c8, c9, c10⟩ := L8.at hlk ho
                obtain rfl : g = g3 := by simpa using hg3
                have hlk' : (k : Int) < (l.length : Int) := by omega
                have hAE : (⟨g, 0, none⟩ : Addr).add o = ⟨g, o, none⟩ := by unfold Addr.add; split <;> simp_all
                have hwf := (hlw.out k hlk).2.2.1
                have RH := Lib.hid (fun W => rhits_any (nthE l k) (ej.va) (ej.ctx) hwf.1 hwf.2 hvb.1 hvb.2 W)
                have hnx := Lib.hid (show cntL l (fun e => e.hitsB (ej.va) (ej.ctx)) (k + 1) = cntL l (fun e => e.hitsB (ej.va) (ej.ctx)) k + if (nthE l k).hitsB (ej.va) (ej.ctx) then 1 else 0 from rfl)
                generalize cntL l (fun e => e.hitsB (ej.va) (ej.ctx)) k = q at *
                go_wp2_with fail
                refine (RH.out _).mono ?_; rintro r w9 ⟨rfl, hb9⟩
                have L9 := L8.low hb9
                clear L8 hb9 RH c0 c1 c2 c3 c4 c5 c6 c7 c8 c9 c10
                cases hh : (nthE l k).hitsB (ej.va) (ej.ctx)
                · rw [hh] at hnx
                  go_wp2_with fail
                  go_roundw
                  case rel => exact ⟨k + 1, by omega, by go_num, by rw [hnx.out]; rfl, L9⟩
                  case measure => simp [intOf]; omega
                · rw [hh] at hnx
                  go_wp2_with fail
                  go_roundw
                  case rel => exact ⟨k + 1, by omega, by go_num, by rw [hnx.out]; go_num, L9⟩
                  case measure => simp [intOf]; omega
              · obtain rfl : k = l.length := by omega
                have hq := hfj
                generalize cntL l (fun e => e.hitsB (ej.va) (ej.ctx)) l.length = q at *
                subst hq
                go_wp2_with fail
                go_roundw
                case rel => exact ⟨j + 1, by omega, by go_num, L8⟩
                case measure => simp [intOf]; omega
          · by_cases hle2 : j = l.length
            · subst hle2
              clear hlt
              have hvb : 0 ≤ a2 ∧ a2 ≤ 18446744073709551615 := ⟨y0, y1⟩
              go_wp2_with fail
              go_loopw [16, 17] (fun v i wr => ∃ k : Nat, k ≤ l.length ∧ i = .int .i64 (k : Int) ∧ v = .int .i64 (cntL l (fun e => e.hitsB (a2) (a3)) k : Int) ∧ PL w wr (w.heap.size + 1) w.heap.size N T5 B v0 C6 ao cap l) (fun _ i _ => l.length - (intOf i).toNat)
              case atStart => exact ⟨0, by omega, rfl, rfl, L7⟩
              case round =>
                clear L7
                obtain ⟨k, hk, rfl, rfl, L8⟩ := hrel
                have hcl := cntL_le l (fun e => e.hitsB (a2) (a3)) k
                by_cases hlk : k < l.length
                · obtain ⟨o, ho⟩ : ∃ o, k * 11 = o := ⟨_, rfl⟩
                  obtain ⟨g, rfl, n1, n2, c0, c1, c2, c3, c4, c5, c6, c7, c8, c9, c10⟩ := L8.at hlk ho
                  have hlk' : (k : Int) < (l.length : Int) := by omega
                  have hAE : (⟨g, 0, none⟩ : Addr).add o = ⟨g, o, none⟩ := by unfold Addr.add; split <;> simp_all
                  have hwf := (hlw.out k hlk).2.2.1
                  have RH := Lib.hid (fun W => rhits_any (nthE l k) (a2) (a3) hwf.1 hwf.2 hvb.1 hvb.2 W)
                  have hnx := Lib.hid (show cntL l (fun e => e.hitsB (a2) (a3)) (k + 1) = cntL l (fun e => e.hitsB (a2) (a3)) k + if (nthE l k).hitsB (a2) (a3) then 1 else 0 from rfl)
                  generalize cntL l (fun e => e.hitsB (a2) (a3)) k = q at *
                  go_wp2_with fail
                  refine (RH.out _).mono ?_; rintro r w9 ⟨rfl, hb9⟩
                  have L9 := L8.low hb9
                  clear L8 hb9 RH c0 c1 c2 c3 c4 c5 c6 c7 c8 c9 c10
                  cases hh : (nthE l k).hitsB (a2) (a3)
                  · rw [hh] at hnx
                    go_wp2_with fail
                    go_roundw
                    case rel => exact ⟨k + 1, by omega, by go_num, by rw [hnx.out]; rfl, L9⟩
                    case measure => simp [intOf]; omega
                  · rw [hh] at hnx
                    go_wp2_with fail
                    go_roundw
                    case rel => exact ⟨k + 1, by omega, by go_num, by rw [hnx.out]; go_num, L9⟩
                    case measure => simp [intOf]; omega
                · obtain rfl : k = l.length := by omega
                  have hq := hlm.out
                  generalize cntL l (fun e => e.hitsB (a2) (a3)) l.length = q at *
                  have hq1 : ¬ (1 < q) := by omega
                  go_wp2_with fail
                  go_roundw
                  case rel => exact ⟨l.length + 1, by omega, by go_num, L8⟩
                  case measure => first | (simp [intOf]; done) | (simp [intOf]; omega)
            · obtain rfl : j = l.length + 1 := by omega
              clear hlt hle2
              go_wp2_with fail
              go_roundw
              case rel => exact ⟨i + 1, _, by go_num, by omega, L7.po⟩
              case measure => simp [intOf]; omega
      · by_cases h1 : (i : Int) < (len1 : Int)
        · have h2 : ¬ ((i : Int) < 40) := by omega
          clear h12
          go_wp2_with fail
          refine (HLV.out _).mono ?_; rintro r w9 ⟨rfl, hb9⟩
          go_wp2_with fail
          go_ret
          exact ⟨rfl, (P.low hb9).bel⟩
        · clear h12
          go_wp2_with fail
          refine (HLV.out _).mono ?_; rintro r w9 ⟨rfl, hb9⟩
          go_wp2_with fail
          go_ret
          exact ⟨rfl, (P.low hb9).bel⟩
  · go_enter Try.func4, Try.ntmps4
    go_wp2_with fail
    refine (main.out _ _).mono ?_; rintro e W0 ⟨rfl, h0, b0, s0⟩
    have RN := Lib.hid (fun (a : Int) W => rnew_any a W)
    generalize hN : newN _ = N at *
    replace hN := Lib.hid hN
    go_wp2_with fail
    refine (RN.out _ _).mono ?_; rw [hN.out]; rintro e W1 ⟨v0, rfl, hd1, hb1⟩
    have P0 : PO w W1 (w.heap.size + 1) w.heap.size N (fun _ => Ent.zero) W0.heap.size v0 := ⟨b0.trans (hb1.mono b0.size), h0.low hb1, hd1, ⟨Nat.le_refl _, by omega, hb1.size⟩⟩
    clear RN h0 b0 hd1 hb1 s0 main hN
    generalize W0.heap.size = B at *
    go_wp2_with fail
    go_loopw [11] (fun i wr => ∃ (j : Nat) (T : Nat → Ent), i = .int .i64 (j : Int) ∧ j ≤ 40 ∧ PO w wr (w.heap.size + 1) w.heap.size N T B v0) (fun i _ => 40 - (intOf i).toNat)
    case atStart => exact ⟨0, _, rfl, by omega, P0⟩
    case round =>
      clear P0
      obtain ⟨i, T, rfl, hi, P⟩ := hrel
      by_cases h12 : (i : Int) < (len1 : Int) ∧ (i : Int) < 40
      · obtain ⟨h1, h2⟩ := h12
        obtain ⟨b, o, off, d, rfl, ho, hlc, hcm, hd, hc⟩ := deeds_at w1' i (by omega)
        unfold maxLen at hcm
        have hcl : ∀ {b o : Nat} {v : Value}, w.cell? ⟨b, o, none⟩ = some v → wr.cell? ⟨b, o, none⟩ = some v := fun {b o v} hc => (P.bel.cell (p := ⟨b, o, none⟩) (lt_cell hc)).trans hc
        obtain ⟨c0, c1, c2, c3, c4, c5, c6, c7, c8, c9, c10, c11, c12, c13, c14, c15⟩ := hc
        replace c0 := hcl c0; replace c1 := hcl c1; replace c2 := hcl c2; replace c3 := hcl c3; replace c4 := hcl c4; replace c5 := hcl c5; replace c6 := hcl c6; replace c7 := hcl c7; replace c8 := hcl c8; replace c9 := hcl c9; replace c10 := hcl c10; replace c11 := hcl c11; replace c12 := hcl c12; replace c13 := hcl c13; replace c14 := hcl c14; replace c15 := hcl c15
        have hAE : (⟨b, off, none⟩ : Addr).add (i * 16) = ⟨b, o, none⟩ := by rw [← ho]; unfold Addr.add; split <;> simp_all
        clear hcl
        have DA := Lib.hid (does_any d hd wr P.tlb P.doc (fun _ _ => zero_wf) P.far.2.1 P.far.2.2)
        go_wp2_with fail
        refine DA.out.mono ?_; rintro r w5 ⟨v5, b5, rfl, ht5, hd5, tn5, _⟩
        have P5 := P.prog ht5 tn5
        clear DA ht5 hd5 tn5 P c0 c1 c2 c3 c4 c5 c6 c7 c8 c9 c10 c11 c12 c13 c14 c15 hAE ho
        generalize act T N d = T5 at *
        have hok := P5.tlb.ok
        have hle := P5.tlb.le
        go_wp2_with fail
        refine (list_any w5 P5.tlb).mono ?_; rintro r w6 ⟨v6, rfl, hl6, hb6⟩
        obtain ⟨ao, cap, rfl⟩ := own_shape hl6
        have hll := vals_le T5 N
        have hlw := Lib.hid (fun k (hk : k < (vals T5 N).length) => (by
          obtain ⟨q, hq, he, _⟩ := vals_at hk
          rw [← he]; exact hok.wf q hq : (nthE (vals T5 N) k).wf))
        have hlh := Lib.hid (fun k (hk : k < (vals T5 N).length) => (by
          obtain ⟨q, hq, he, hv⟩ := vals_at hk
          rw [cntL_all, ← he]
          exact hits_cnt hok hq (hits_self (hok.may q hq (by rw [he]; exact hv))) : cntL (vals T5 N) (fun e => e.hitsB (nthE (vals T5 N) k).va (nthE (vals T5 N) k).ctx) (vals T5 N).length = 1))
        have hlm := Lib.hid (show cntL (vals T5 N) (fun e => e.hitsB a2 a3) (vals T5 N).length ≤ 1 by rw [cntL_all]; exact hits_le hok a2 a3)
        have L6 : PL w w6 (w.heap.size + 1) w.heap.size N T5 B v0 w5.heap.size ao cap (vals T5 N) := ⟨P5.low hb6, hl6⟩
        clear P5 hl6 hb6 hok
        generalize vals T5 N = l at *
        generalize w5.heap.size = C6 at *
        go_wp2_with fail
        go_loopw [13] (fun a wr => ∃ j : Nat, j ≤ l.length + 1 ∧ a = .int .i64 (j : Int) ∧ PL w wr (w.heap.size + 1) w.heap.size N T5 B v0 C6 ao cap l) (fun a _ => l.length + 1 - (intOf a).toNat)
        case atStart => exact ⟨0, by omega, rfl, L6⟩
        case round =>
          clear L6
          obtain ⟨j, hj, rfl, L7⟩ := hrel
          by_cases hlt : j < l.length
          · have hlt' : (j : Int) < (l.length : Int) := by omega
            have hlt2 : (j : Int) ≤ (l.length : Int) := by omega
            obtain ⟨o, ho⟩ : ∃ o, j * 11 = o := ⟨_, rfl⟩
            obtain ⟨g, rfl, n1, n2, c0, c1, c2, c3, c4, c5, c6, c7, c8, c9, c10⟩ := L7.at hlt ho
            have hAE : (⟨g, 0, none⟩ : Addr).add o = ⟨g, o, none⟩ := by unfold Addr.add; split <;> simp_all
            have hwj := (hlw.out j hlt).2.2.1
            have hfj := hlh.out j hlt
            generalize nthE l j = ej at *
            clear hlh hlm
            have hvb : 0 ≤ ej.va ∧ ej.va ≤ 18446744073709551615 := hwj
            go_wp2_with fail
            go_loopw [16, 17] (fun v i wr => ∃ k : Nat, k ≤ l.length ∧ i = .int .i64 (k : Int) ∧ v = .int .i64 (cntL l (fun e => e.hitsB (ej.va) (ej.ctx)) k : Int) ∧ PL w wr (w.heap.size + 1) w.heap.size N T5 B v0 C6 (some ⟨g, 0, none⟩) cap l) (fun _ i _ => l.length - (intOf i).toNat)
            case atStart => exact ⟨0, by omega, rfl, rfl, L7⟩
            case round =>
              clear L7
              obtain ⟨k, hk, rfl, rfl, L8⟩ := hrel
              have hcl := cntL_le l (fun e => e.hitsB (ej.va) (ej.ctx)) k
              by_cases hlk : k < l.length
              · obtain ⟨o, ho⟩ : ∃ o, k * 11 = o := ⟨_, rfl⟩
                obtain ⟨g3, hg3, n3, n4, c0, c1, c2, c3, c4, c5, c6, c7, c8, c9, c10⟩ := L8.at hlk ho
                obtain rfl : g = g3 := by simpa using hg3
                have hlk' : (k : Int) < (l.length : Int) := by omega
                have hAE : (⟨g, 0, none⟩ : Addr).add o = ⟨g, o, none⟩ := by unfold Addr.add; split <;> simp_all
                have hwf := (hlw.out k hlk).2.2.1
                have RH := Lib.hid (fun W => rhits_any (nthE l k) (ej.va) (ej.ctx) hwf.1 hwf.2 hvb.1 hvb.2 W)
                have hnx := Lib.hid (show cntL l (fun e => e.hitsB (ej.va) (ej.ctx)) (k + 1) = cntL l (fun e => e.hitsB (ej.va) (ej.ctx)) k + if (nthE l k).hitsB (ej.va) (ej.ctx) then 1 else 0 from rfl)
                generalize cntL l (fun e => e.hitsB (ej.va) (ej.ctx)) k = q at *
                go_wp2_with fail
                refine (RH.out _).mono ?_; rintro r w9 ⟨rfl, hb9⟩
                have L9 := L8.low hb9
                clear L8 hb9 RH c0 c1 c2 c3 c4 c5 c6 c7 c8 c9 c10
                cases hh : (nthE l k).hitsB (ej.va) (ej.ctx)
                · rw [hh] at hnx
                  go_wp2_with fail
                  go_roundw
                  case rel => exact ⟨k + 1, by omega, by go_num, by rw [hnx.out]; rfl, L9⟩
                  case measure => simp [intOf]; omega
                · rw [hh] at hnx
                  go_wp2_with fail
                  go_roundw
                  case rel => exact ⟨k + 1, by omega, by go_num, by rw [hnx.out]; go_num, L9⟩
                  case measure => simp [intOf]; omega
              · obtain rfl : k = l.length := by omega
                have hq := hfj
                generalize cntL l (fun e => e.hitsB (ej.va) (ej.ctx)) l.length = q at *
                subst hq
                go_wp2_with fail
                go_roundw
                case rel => exact ⟨j + 1, by omega, by go_num, L8⟩
                case measure => simp [intOf]; omega
          · by_cases hle2 : j = l.length
            · subst hle2
              clear hlt
              have hvb : 0 ≤ a2 ∧ a2 ≤ 18446744073709551615 := ⟨y0, y1⟩
              go_wp2_with fail
              go_loopw [16, 17] (fun v i wr => ∃ k : Nat, k ≤ l.length ∧ i = .int .i64 (k : Int) ∧ v = .int .i64 (cntL l (fun e => e.hitsB (a2) (a3)) k : Int) ∧ PL w wr (w.heap.size + 1) w.heap.size N T5 B v0 C6 ao cap l) (fun _ i _ => l.length - (intOf i).toNat)
              case atStart => exact ⟨0, by omega, rfl, rfl, L7⟩
              case round =>
                clear L7
                obtain ⟨k, hk, rfl, rfl, L8⟩ := hrel
                have hcl := cntL_le l (fun e => e.hitsB (a2) (a3)) k
                by_cases hlk : k < l.length
                · obtain ⟨o, ho⟩ : ∃ o, k * 11 = o := ⟨_, rfl⟩
                  obtain ⟨g, rfl, n1, n2, c0, c1, c2, c3, c4, c5, c6, c7, c8, c9, c10⟩ := L8.at hlk ho
                  have hlk' : (k : Int) < (l.length : Int) := by omega
                  have hAE : (⟨g, 0, none⟩ : Addr).add o = ⟨g, o, none⟩ := by unfold Addr.add; split <;> simp_all
                  have hwf := (hlw.out k hlk).2.2.1
                  have RH := Lib.hid (fun W => rhits_any (nthE l k) (a2) (a3) hwf.1 hwf.2 hvb.1 hvb.2 W)
                  have hnx := Lib.hid (show cntL l (fun e => e.hitsB (a2) (a3)) (k + 1) = cntL l (fun e => e.hitsB (a2) (a3)) k + if (nthE l k).hitsB (a2) (a3) then 1 else 0 from rfl)
                  generalize cntL l (fun e => e.hitsB (a2) (a3)) k = q at *
                  go_wp2_with fail
                  refine (RH.out _).mono ?_; rintro r w9 ⟨rfl, hb9⟩
                  have L9 := L8.low hb9
                  clear L8 hb9 RH c0 c1 c2 c3 c4 c5 c6 c7 c8 c9 c10
                  cases hh : (nthE l k).hitsB (a2) (a3)
                  · rw [hh] at hnx
                    go_wp2_with fail
                    go_roundw
                    case rel => exact ⟨k + 1, by omega, by go_num, by rw [hnx.out]; rfl, L9⟩
                    case measure => simp [intOf]; omega
                  · rw [hh] at hnx
                    go_wp2_with fail
                    go_roundw
                    case rel => exact ⟨k + 1, by omega, by go_num, by rw [hnx.out]; go_num, L9⟩
                    case measure => simp [intOf]; omega
                · obtain rfl : k = l.length := by omega
                  have hq := hlm.out
                  generalize cntL l (fun e => e.hitsB (a2) (a3)) l.length = q at *
                  have hq1 : ¬ (1 < q) := by omega
                  go_wp2_with fail
                  go_roundw
                  case rel => exact ⟨l.length + 1, by omega, by go_num, L8⟩
                  case measure => first | (simp [intOf]; done) | (simp [intOf]; omega)
            · obtain rfl : j = l.length + 1 := by omega
              clear hlt hle2
              go_wp2_with fail
              go_roundw
              case rel => exact ⟨i + 1, _, by go_num, by omega, L7.po⟩
              case measure => simp [intOf]; omega
      · by_cases h1 : (i : Int) < (len1 : Int)
        · have h2 : ¬ ((i : Int) < 40) := by omega
          clear h12
          go_wp2_with fail
          refine (HLV.out _).mono ?_; rintro r w9 ⟨rfl, hb9⟩
          go_wp2_with fail
          go_ret
          exact ⟨rfl, (P.low hb9).bel⟩
        · clear h12
          go_wp2_with fail
          refine (HLV.out _).mono ?_; rintro r w9 ⟨rfl, hb9⟩
          go_wp2_with fail
          go_ret
          exact ⟨rfl, (P.low hb9).bel⟩

/-! ### The row -/
set_option maxRecDepth 100000 in
theorem lifted (os : Os) (started : os.Started) (H : Type) (enc : TypeId × Value → H) :
    ReturnsInHanded {} Try.checked os 4 .any (Rows.tlbOnceSpec.pre6 enc Try.prog Try.f4 Rows.tlbOnceRow.domain false) (Rows.tlbOnceSpec.post enc Try.prog Try.f4 false true false false) := by
  refine returnsInHanded_of_change (C := Try.checked) own started (by kernel_rfl) Try.func4
    (ChangeSpec.witness6 (enc := enc) (C := Try.checked) false ⟨#[], #[.int .i64 0, .slice none 0 0, .int .u64 0, .int .i64 0], []⟩ 8 (by kernel_rfl) (by kernel_rfl) (by kernel_rfl) (by kernel_rfl)) ?_
  intro W base args ds gs before hval0 hW hcnd _
  have hval : ∀ (j : Nat) t v, Try.f4.params[j]? = some t → args[j]? = some v → Value.okWide Try.prog W .any base t v := hval0
  have hW' := hW
  obtain ⟨p, q, hA0, hV, rfl, hfz, hnd⟩ := hW
  have hA : DataW.TrodAll enc Try.prog W 0 (fun _ => true) true Try.f4.params.toList args.toList ds p := hA0
  rw [Try.params4] at hA hval
  obtain ⟨v0, vs0, d0, ds0, p0, q0, hargs, rfl, rfl, h0, r0⟩ := trodAll_cons hA
  obtain ⟨v1, vs1, d1, ds1, p1, q1, rfl, rfl, rfl, h1, r1⟩ := trodAll_cons r0
  obtain ⟨v2, vs2, d2, ds2, p2, q2, rfl, rfl, rfl, h2, r2⟩ := trodAll_cons r1
  obtain ⟨v3, vs3, d3, ds3, p3, q3, rfl, rfl, rfl, h3, r3⟩ := trodAll_cons r2
  obtain ⟨rfl, rfl, rfl⟩ := trodAll_nil r3
  obtain rfl : args = #[v0, v1, v2, v3] := by cases args; simp_all
  obtain ⟨rfl, rfl⟩ := trodVars_none hV
  obtain ⟨a0, rfl, rfl, rfl, w0⟩ := open_int Try.underlying3 (hval 0 3 v0 rfl rfl) h0
  obtain ⟨s1, len1, cap1, rfl⟩ := okWide_slice Try.underlying22 (hval 1 22 v1 rfl rfl)
  have k1 := h1
  have lt1 : ∀ x ∈ p1, x.block < W.heap.size := by obtain ⟨m, hm⟩ := k1; exact DataW.trod_lt m _ _ _ hm
  have w1 : IsDeeds W s1 len1 cap1 := by
    obtain ⟨fuel, hf⟩ := h1
    exact open_deeds hf
  obtain ⟨a2, rfl, rfl, rfl, w2⟩ := open_int Try.underlying29 (hval 2 29 v2 rfl rfl) h2
  obtain ⟨a3, rfl, rfl, rfl, w3⟩ := open_int Try.underlying3 (hval 3 3 v3 rfl rfl) h3
  clear hA0 hval0
  simp only [List.append_nil] at hW'
  refine (walk W a0 w0 s1 len1 cap1 w1 a2 w2 a3 w3).mono fun e W' ⟨he, hg⟩ => ?_
  subst he
  exact ⟨_, rfl, _, _, _, [], _, [], hW', trodAll_mk1 (shut_bool Try.underlying4 _), (trodAll_cons_mk (shut_int Try.underlying3 w0) (trodAll_cons_mk (Below.trod laidOut (by kernel_rfl) (of_decide_eq_true (by kernel_rfl)) k1 hg lt1) (trodAll_cons_mk (shut_int Try.underlying29 w2) (trodAll_cons_mk (shut_int Try.underlying3 w3) trodAll_mk0)))), rfl, hg.frame _, fun h => by cases h⟩

theorem over : Rows.tlbOnceRow.holds Try.pinned (OpenSpec.ofChange Rows.tlbOnceSpec) :=
  OpenClaim.holds_of_wide 4 Try.f4 rfl rfl rfl rfl rfl rfl rfl ⟨rfl, rfl, rfl, rfl, rfl⟩ rfl rfl rfl rfl rfl (by kernel_rfl) Try.func4 (by kernel_rfl)
    (of_decide_eq_true (by kernel_rfl)) (by unfold Func.isWrapper; first | (rw [if_pos (by decide +kernel)]; kernel_rfl) | (rw [if_neg (by decide +kernel)]; exact ⟨rfl, rfl⟩))
    (fun os started H enc _ => lifted os started H enc)

theorem proved : Rows.TlbOnceSaid :=
  over
#print axioms proved
end Go.Proofs.Ytbhpljjogmagoaa.tlbOnce
