/-
  TlbDemaps: for every number, all deeds, every address and context the law returns true, and its arguments read as before. Conditions: none.
-/
import Derived.Test.YtbhpljjogmagoaaRows
import Derived.WalkKit
import Derived.ProofKit
import Derived.OpenShut
import Derived.Deep.RegionHeld3
import Derived.BigQuiet
import Derived.Test.YtbhpljjogmagoaaGI
import Derived.Test.YtbhpljjogmagoaaGE
import Derived.Deep.DeepCutAuto
namespace Go.Proofs.Ytbhpljjogmagoaa.tlbDemaps
open Fld Tl
open Go.ChangeShapes Go.WideShapes Go.ChangeAt Go.RowKit Go.Deep Go.Shelf
set_option linter.unusedVariables false

theorem own : ownKnob Try.prog.godebug = none := by kernel_rfl

/-- Of how many of the first k entries a thing is so. -/
def cntL (l : List Ent) (p : Ent → Bool) : Nat → Nat
  | 0 => 0
  | k + 1 => cntL l p k + if p (nthE l k) then 1 else 0
theorem cntL_le (l : List Ent) (p : Ent → Bool) (k : Nat) : cntL l p k ≤ k := by
  induction k with
  | zero => exact Nat.le_refl _
  | succ k ih => unfold cntL; split <;> omega
theorem cntL_congr {l m : List Ent} {p : Ent → Bool} {k : Nat} (h : ∀ i, i < k → nthE l i = nthE m i) : cntL l p k = cntL m p k := by
  induction k with
  | zero => rfl
  | succ k ih => unfold cntL; rw [ih fun i hi => h i (by omega), h k (by omega)]
theorem cntL_all (T : Nat → Ent) (p : Ent → Bool) (n : Nat) : cntL (vals T n) p (vals T n).length = cntE T p n := by
  induction n with
  | zero => rfl
  | succ n ih =>
    cases hv : (T n).valid
    · rw [vals_miss hv, ih, cntE_miss (by rw [hv]; rfl)]
    · rw [vals_hit hv, List.length_append]
      show cntL _ p (vals T n).length + (if p (nthE (vals T n ++ [T n]) (vals T n).length) then 1 else 0) = _
      rw [cntL_congr (m := vals T n) (fun i hi => by simp [nthE, List.getElem?_append_left hi]), ih, show nthE (vals T n ++ [T n]) (vals T n).length = T n by simp [nthE]]
      cases hp : p (T n)
      · rw [cntE_miss (by rw [hv, hp]; rfl)]; rfl
      · rw [cntE_hit (by rw [hv, hp]; rfl)]; rfl
theorem vals_at {T : Nat → Ent} {n k : Nat} (hk : k < (vals T n).length) : ∃ i, i < n ∧ T i = nthE (vals T n) k ∧ (nthE (vals T n) k).valid = true := by
  have : nthE (vals T n) k = (vals T n)[k] := by unfold nthE; rw [List.getD_eq_getElem?_getD, List.getElem?_eq_getElem hk]; rfl
  rw [this]
  exact vals_mem.1 (List.getElem_mem hk)
theorem hits_le {T : Nat → Ent} {n : Nat} (h : Ok T n) (va ctx : Int) : cntE T (fun e => e.hitsB va ctx) n ≤ 1 := by
  by_cases h0 : cntE T (fun e => e.hitsB va ctx) n = 0
  · omega
  · have : ∃ i, i < n ∧ (T i).hitsB va ctx = true := by
      refine Classical.byContradiction fun hc => h0 (cntE_zero.2 fun k hk => ?_)
      cases e : (T k).hitsB va ctx
      · simp
      · exact absurd ⟨k, hk, e⟩ hc
    obtain ⟨i, hi, he⟩ := this
    rw [hits_cnt h hi he]
    exact Nat.le_refl _
/-- The places, and the document's list of none. -/
structure PO (w wr : World) (sb bb N : Nat) (T : Nat → Ent) (B : Nat) (v : Value) : Prop where
  bel : Below w.heap.size w wr
  tlb : TlbAt wr sb bb N T
  doc : DocAt wr B v N (fun _ => Ent.zero)
  far : w.heap.size ≤ bb ∧ bb < B ∧ B ≤ wr.heap.size
theorem PO.low {w wr w' : World} {sb bb N B : Nat} {T : Nat → Ent} {v : Value} (h : PO w wr sb bb N T B v) (hb : Below wr.heap.size wr w') : PO w w' sb bb N T B v := ⟨h.bel.trans (hb.mono h.bel.size), h.tlb.low hb, doc_below h.doc hb, ⟨h.far.1, h.far.2.1, Nat.le_trans h.far.2.2 hb.size⟩⟩
theorem PO.prog {w wr w' : World} {sb bb N B : Nat} {T U : Nat → Ent} {v : Value} (h : PO w wr sb bb N T B v) (ht : TlbAt w' sb bb N U) (hb : Turn wr w' bb) : PO w w' sb bb N U B v := ⟨h.bel.trans (hb.to_below h.far.1 h.bel.size), ht, doc_turn h.doc hb h.far.2.1, ⟨h.far.1, h.far.2.1, Nat.le_trans h.far.2.2 hb.size⟩⟩
/-- Beside them a list of entries. -/
structure PL (w wr : World) (sb bb N : Nat) (T : Nat → Ent) (B : Nat) (v : Value) (C : Nat) (ao : Option Addr) (cap : Nat) (l : List Ent) : Prop where
  po : PO w wr sb bb N T B v
  own : ListAt wr C (.slice ao l.length cap) l
theorem PL.low {w wr w' : World} {sb bb N B C cap : Nat} {T : Nat → Ent} {v : Value} {ao : Option Addr} {l : List Ent} (h : PL w wr sb bb N T B v C ao cap l) (hb : Below wr.heap.size wr w') : PL w w' sb bb N T B v C ao cap l := ⟨h.po.low hb, own_below h.own hb⟩
theorem PL.at {w wr : World} {sb bb N B C cap : Nat} {T : Nat → Ent} {v : Value} {ao : Option Addr} {l : List Ent} (h : PL w wr sb bb N T B v C ao cap l) {k o : Nat} (hk : k < l.length) (ho : k * 11 = o) : ∃ g, ao = some ⟨g, 0, none⟩ ∧ l.length ≤ cap ∧ cap ≤ 9223372036854775807 ∧ wr.cell? ⟨g, o, none⟩ = some (.int .i64 (nthE l k).size) ∧ wr.cell? ⟨g, o + 1, none⟩ = some (.int .i64 (nthE l k).ctx) ∧ wr.cell? ⟨g, o + 2, none⟩ = some (.int .u64 (nthE l k).va) ∧ wr.cell? ⟨g, o + 3, none⟩ = some (.int .u64 (nthE l k).pa) ∧ wr.cell? ⟨g, o + 4, none⟩ = some (.bool (nthE l k).att.write) ∧ wr.cell? ⟨g, o + 5, none⟩ = some (.bool (nthE l k).att.priv) ∧ wr.cell? ⟨g, o + 6, none⟩ = some (.bool (nthE l k).att.exec) ∧ wr.cell? ⟨g, o + 7, none⟩ = some (.bool (nthE l k).att.lock) ∧ wr.cell? ⟨g, o + 8, none⟩ = some (.bool (nthE l k).att.global) ∧ wr.cell? ⟨g, o + 9, none⟩ = some (.bool (nthE l k).att.quiet) ∧ wr.cell? ⟨g, o + 10, none⟩ = some (.bool (nthE l k).valid) := by
  obtain ⟨g, cap', hv, h1, h2, _, _, h5, _⟩ := doc_at h.own (by omega)
  simp only [Value.slice.injEq, true_and] at hv
  obtain ⟨rfl, rfl⟩ := hv
  unfold maxLen at h2
  exact ⟨g, rfl, h1, h2, h5 k o hk ho⟩
theorem vals_drop (T : Nat → Ent) (p : Ent → Bool) (n : Nat) : (vals (dropE T p n) n).length + cntE T p n = (vals T n).length := by
  rw [vals_length, vals_length]
  have key : ∀ m, m ≤ n → cntE (dropE T p n) (fun _ => true) m + cntE T p m = cntE T (fun _ => true) m := by
    intro m
    induction m with
    | zero => intro _; rfl
    | succ m ih =>
      intro hm
      have h := ih (by omega)
      show (cntE (dropE T p n) (fun _ => true) m + if ((dropE T p n m).valid && true) = true then 1 else 0) + (cntE T p m + if ((T m).valid && p (T m)) = true then 1 else 0) = cntE T (fun _ => true) m + if ((T m).valid && true) = true then 1 else 0
      rw [dropE_lt (by omega)]
      cases hv : (T m).valid
      · simp [hv]; omega
      · cases hp : p (T m)
        · simp [hv]; omega
        · simp [Ent.zero]; omega
  exact key n (Nat.le_refl n)
/-- Behind a DemapPage: an entry that was there is found just if it was not that address's. -/
theorem find_left {T : Nat → Ent} {n q : Nat} (h : Ok T n) (hq : q < n) (hv : (T q).valid = true) (va ctx : Int) :
    ((T q).hitsB va ctx = true → findI (dropE T (fun e => e.hitsB va ctx) n) n (T q).va (T q).ctx = -1) ∧
    ((T q).hitsB va ctx = false → findE (dropE T (fun e => e.hitsB va ctx) n) n (T q).va (T q).ctx = T q ∧ 0 ≤ findI (dropE T (fun e => e.hitsB va ctx) n) n (T q).va (T q).ctx) := by
  have hs := hits_self (h.may q hq hv)
  constructor
  · intro hh
    have hF : findN (dropE T (fun e => e.hitsB va ctx) n) n (T q).va (T q).ctx = n := by
      refine fst_none.2 fun k hk => ?_
      rw [dropE_lt hk]
      by_cases e : k = q
      · rw [e, hv, hh]; rfl
      · cases hx : (T k).hitsB (T q).va (T q).ctx
        · split
          · rfl
          · exact hx
        · exact absurd (hits_one h hk hq hx hs) e
    unfold findI; rw [hF, if_neg (by omega)]
  · intro hh
    have hd : dropE T (fun e => e.hitsB va ctx) n q = T q := by rw [dropE_lt hq, hh]; simp
    have hF : findN (dropE T (fun e => e.hitsB va ctx) n) n (T q).va (T q).ctx = q := find_at (h.drop _ _) hq (by rw [hd]; exact hs)
    unfold findE findI; rw [hF, if_pos hq, if_pos hq, hd]
    exact ⟨rfl, by omega⟩
theorem find_none (T : Nat → Ent) (n : Nat) (va ctx : Int) : findI (dropE T (fun e => e.hitsB va ctx) n) n va ctx = -1 := by
  have hF : findN (dropE T (fun e => e.hitsB va ctx) n) n va ctx = n := by
    refine fst_none.2 fun k hk => ?_
    rw [dropE_lt hk]
    cases hx : (T k).hitsB va ctx
    · simp [hx]
    · rw [hits_valid hx]; rfl
  unfold findI; rw [hF, if_neg (by omega)]
/-- The places, the document's list, whatever it is. -/
structure PD (w wr : World) (sb bb N : Nat) (T : Nat → Ent) (B : Nat) (v : Value) (R : Nat → Ent) : Prop where
  bel : Below w.heap.size w wr
  tlb : TlbAt wr sb bb N T
  doc : DocAt wr B v N R
  ok : Ok R N
  far : w.heap.size ≤ bb ∧ bb < B ∧ B ≤ wr.heap.size
/-- The places, and a list of entries that was made behind them. -/
structure PM (w wr : World) (sb bb N : Nat) (T : Nat → Ent) (C : Nat) (ao : Option Addr) (cap : Nat) (l : List Ent) : Prop where
  bel : Below w.heap.size w wr
  tlb : TlbAt wr sb bb N T
  own : ListAt wr C (.slice ao l.length cap) l
  far : w.heap.size ≤ bb ∧ bb < C
theorem PM.low {w wr w' : World} {sb bb N C cap : Nat} {T : Nat → Ent} {ao : Option Addr} {l : List Ent} (h : PM w wr sb bb N T C ao cap l) (hb : Below wr.heap.size wr w') : PM w w' sb bb N T C ao cap l := ⟨h.bel.trans (hb.mono h.bel.size), h.tlb.low hb, own_below h.own hb, h.far⟩
theorem PM.prog {w wr w' : World} {sb bb N C cap : Nat} {T U : Nat → Ent} {ao : Option Addr} {l : List Ent} (h : PM w wr sb bb N T C ao cap l) (ht : TlbAt w' sb bb N U) (hb : Turn wr w' bb) : PM w w' sb bb N U C ao cap l := ⟨h.bel.trans (hb.to_below h.far.1 h.bel.size), ht, doc_turn h.own hb h.far.2, h.far⟩
theorem PM.alloc {w wr : World} {sb bb N C cap : Nat} {T : Nat → Ent} {ao : Option Addr} {l : List Ent} (h : PM w wr sb bb N T C ao cap l) (o : Obj) : PM w (wr.alloc o) sb bb N T C ao cap l := h.low (box1 _ _)
theorem PM.drewN {w wr : World} {sb bb N C cap : Nat} {T : Nat → Ent} {ao : Option Addr} {l : List Ent} (h : PM w wr sb bb N T C ao cap l) (m : Nat) : PM w (wr.drewN m) sb bb N T C ao cap l := ⟨below_drewN h.bel m, h.tlb.same rfl rfl, h.own, h.far⟩
theorem PM.drew {w wr : World} {sb bb N C cap : Nat} {T : Nat → Ent} {ao : Option Addr} {l : List Ent} (h : PM w wr sb bb N T C ao cap l) : PM w wr.drew sb bb N T C ao cap l := ⟨h.bel.drew, h.tlb.same rfl rfl, h.own, h.far⟩
theorem list_set {wr : World} {C n g o : Nat} {v u : Value} {R : Nat → Ent} (h : DocAt wr C v n R) (hg : v.ownBlock ≠ some g) : DocAt (wr.setCell ⟨g, o, none⟩ u) C v n R := by
  refine ⟨h.1, ?_⟩
  rcases h.2 with hn | ⟨b, cap, cur, rfl, hb2, hgg, rest⟩
  · exact .inl hn
  · exact .inr ⟨b, cap, cur, rfl, hb2, (Below.heap_setCell _ _ _ _ (fun e => hg (by simp only [Value.ownBlock]; exact congrArg some e))).trans hgg, rest⟩
theorem PM.setNew {w X wr : World} {sb bb N C cap : Nat} {T : Nat → Ent} {ao : Option Addr} {l : List Ent} {x0 x1 x2 x3 x4 x5 x6 x7 x8 x9 x10 : Value} (hX : PM w X sb bb N T C ao cap l) (h : PM w wr sb bb N T C ao cap l) :
    PM w (((((((((((wr.setCell ⟨X.heap.size, 0, none⟩ x0).setCell ⟨X.heap.size, 1, none⟩ x1).setCell ⟨X.heap.size, 2, none⟩ x2).setCell ⟨X.heap.size, 3, none⟩ x3).setCell ⟨X.heap.size, 4, none⟩ x4).setCell ⟨X.heap.size, 5, none⟩ x5).setCell ⟨X.heap.size, 6, none⟩ x6).setCell ⟨X.heap.size, 7, none⟩ x7).setCell ⟨X.heap.size, 8, none⟩ x8).setCell ⟨X.heap.size, 9, none⟩ x9).setCell ⟨X.heap.size, 10, none⟩ x10) sb bb N T C ao cap l := by
  have h0 := hX.bel.size
  have h1 := hX.tlb.lt
  have hn : (Value.slice ao l.length cap).ownBlock ≠ some X.heap.size := fun e => by have := (hX.own.lt _ e).2; omega
  refine ⟨?_, h.tlb.same (row_far (by omega)) (row_far (by omega)), ?_, h.far⟩
  · iterate 11 refine below_setN ?_ h0
    exact h.bel
  · iterate 11 refine list_set ?_ hn
    exact h.own
theorem PM.at {w wr : World} {sb bb N C cap : Nat} {T : Nat → Ent} {ao : Option Addr} {l : List Ent} (h : PM w wr sb bb N T C ao cap l) {k o : Nat} (hk : k < l.length) (ho : k * 11 = o) : ∃ g, ao = some ⟨g, 0, none⟩ ∧ l.length ≤ cap ∧ cap ≤ 9223372036854775807 ∧ g < wr.heap.size ∧ wr.cell? ⟨g, o, none⟩ = some (.int .i64 (nthE l k).size) ∧ wr.cell? ⟨g, o + 1, none⟩ = some (.int .i64 (nthE l k).ctx) ∧ wr.cell? ⟨g, o + 2, none⟩ = some (.int .u64 (nthE l k).va) ∧ wr.cell? ⟨g, o + 3, none⟩ = some (.int .u64 (nthE l k).pa) ∧ wr.cell? ⟨g, o + 4, none⟩ = some (.bool (nthE l k).att.write) ∧ wr.cell? ⟨g, o + 5, none⟩ = some (.bool (nthE l k).att.priv) ∧ wr.cell? ⟨g, o + 6, none⟩ = some (.bool (nthE l k).att.exec) ∧ wr.cell? ⟨g, o + 7, none⟩ = some (.bool (nthE l k).att.lock) ∧ wr.cell? ⟨g, o + 8, none⟩ = some (.bool (nthE l k).att.global) ∧ wr.cell? ⟨g, o + 9, none⟩ = some (.bool (nthE l k).att.quiet) ∧ wr.cell? ⟨g, o + 10, none⟩ = some (.bool (nthE l k).valid) := by
  obtain ⟨g, cap', hv, h1, h2, _, h4, h5, _⟩ := doc_at h.own (by omega)
  simp only [Value.slice.injEq, true_and] at hv
  obtain ⟨rfl, rfl⟩ := hv
  unfold maxLen at h2
  exact ⟨g, rfl, h1, h2, h4, h5 k o hk ho⟩
theorem PM.sc {w wr : World} {sb bb N C cap g : Nat} {T : Nat → Ent} {l : List Ent} {k o : Nat} (hk : k < l.length) (ho : k * 11 = o) (h : PM w wr sb bb N T C (some ⟨g, 0, none⟩) cap l) : wr.cell? ⟨g, o, none⟩ = some (.int .i64 (nthE l k).size) ∧ wr.cell? ⟨g, o + 1, none⟩ = some (.int .i64 (nthE l k).ctx) ∧ wr.cell? ⟨g, o + 2, none⟩ = some (.int .u64 (nthE l k).va) ∧ wr.cell? ⟨g, o + 3, none⟩ = some (.int .u64 (nthE l k).pa) ∧ wr.cell? ⟨g, o + 4, none⟩ = some (.bool (nthE l k).att.write) ∧ wr.cell? ⟨g, o + 5, none⟩ = some (.bool (nthE l k).att.priv) ∧ wr.cell? ⟨g, o + 6, none⟩ = some (.bool (nthE l k).att.exec) ∧ wr.cell? ⟨g, o + 7, none⟩ = some (.bool (nthE l k).att.lock) ∧ wr.cell? ⟨g, o + 8, none⟩ = some (.bool (nthE l k).att.global) ∧ wr.cell? ⟨g, o + 9, none⟩ = some (.bool (nthE l k).att.quiet) ∧ wr.cell? ⟨g, o + 10, none⟩ = some (.bool (nthE l k).valid) := by
  obtain ⟨g', hg, _, _, _, hq⟩ := h.at hk ho
  obtain rfl : g = g' := by simpa using hg
  exact hq
/-! ### The walk -/
set_option maxHeartbeats 4000000 in
set_option maxRecDepth 100000 in
theorem walk (w : World) (a0 : Int) (w0 : (Lit.int .i64 a0).wf = true) (s1 : Option Addr) (len1 cap1 : Nat) (w1 : IsDeeds w s1 len1 cap1) (a2 : Int) (w2 : (Lit.int .u64 a2).wf = true) (a3 : Int) (w3 : (Lit.int .i64 a3).wf = true) :
    Calls Try.prog 8 #[.int .i64 a0, .slice s1 len1 cap1, .int .u64 a2, .int .i64 a3] w fun e w' => e = .returned (.bool true) ∧ Below w.heap.size w w' := by
  obtain ⟨x0, x1⟩ := bounds_i64 w0
  obtain ⟨y0, y1⟩ := bounds_u64 w2
  have w1' := w1
  have hlen : len1 ≤ 9223372036854775807 := by
    rcases w1 with ⟨_, h⟩ | ⟨_, _, h1, h2, _⟩
    · omega
    · unfold maxLen at h2; omega
  clear w0 w1 w2 w3
  have HLV := Lib.hid (fun W => lives_any W)
  have main := Lib.hid (fun (a : Int) (W : World) => new_any a W)
  by_cases hn : 10 < a0
  · go_enter Try.func8, Try.ntmps8
    go_wp2_with fail
    refine (main.out _ _).mono ?_; rintro e W0 ⟨rfl, h0, b0, s0⟩
    have RN := Lib.hid (fun (a : Int) W => rnew_any a W)
    generalize hN : newN _ = N at *
    replace hN := Lib.hid hN
    go_wp2_with fail
    refine (RN.out _ _).mono ?_; rw [hN.out]; rintro e W1 ⟨v0, rfl, hd1, hb1⟩
    have P0 : PD w W1 (w.heap.size + 1) w.heap.size N (fun _ => Ent.zero) W0.heap.size v0 (fun _ => Ent.zero) := ⟨b0.trans (hb1.mono b0.size), h0.low hb1, hd1, Ok.new _, ⟨Nat.le_refl _, by omega, hb1.size⟩⟩
    clear RN h0 b0 hd1 hb1 s0 main hN
    generalize W0.heap.size = B at *
    go_wp2_with fail
    go_loopw [10, 11] (fun v i wr => ∃ (j : Nat) (T R : Nat → Ent), i = .int .i64 (j : Int) ∧ j ≤ 25 ∧ PD w wr (w.heap.size + 1) w.heap.size N T B v R) (fun _ i _ => 25 - (intOf i).toNat)
    case atStart => exact ⟨0, _, _, rfl, by omega, P0⟩
    case round =>
      clear P0
      obtain ⟨i, T, R, rfl, hi, P⟩ := hrel
      by_cases h12 : (i : Int) < (len1 : Int) ∧ (i : Int) < 25
      · obtain ⟨h1, h2⟩ := h12
        obtain ⟨b, o, off, d, rfl, ho, hlc, hcm, hd, hc⟩ := deeds_at w1' i (by omega)
        unfold maxLen at hcm
        have hcl : ∀ {b o : Nat} {v : Value}, w.cell? ⟨b, o, none⟩ = some v → wr.cell? ⟨b, o, none⟩ = some v := fun {b o v} hc => (P.bel.cell (p := ⟨b, o, none⟩) (lt_cell hc)).trans hc
        obtain ⟨c0, c1, c2, c3, c4, c5, c6, c7, c8, c9, c10, c11, c12, c13, c14, c15⟩ := hc
        replace c0 := hcl c0; replace c1 := hcl c1; replace c2 := hcl c2; replace c3 := hcl c3; replace c4 := hcl c4; replace c5 := hcl c5; replace c6 := hcl c6; replace c7 := hcl c7; replace c8 := hcl c8; replace c9 := hcl c9; replace c10 := hcl c10; replace c11 := hcl c11; replace c12 := hcl c12; replace c13 := hcl c13; replace c14 := hcl c14; replace c15 := hcl c15
        have hAE : (⟨b, off, none⟩ : Addr).add (i * 16) = ⟨b, o, none⟩ := by rw [← ho]; unfold Addr.add; split <;> simp_all
        clear hcl
        have DA := Lib.hid (does_any d hd wr P.tlb P.doc P.ok.wf P.far.2.1 P.far.2.2)
        go_wp2_with fail
        refine DA.out.mono ?_; rintro r w5 ⟨v5, b5, rfl, ht5, hd5, tn5, _⟩
        have P5 : PD w w5 (w.heap.size + 1) w.heap.size N (act T N d) B v5 (act R N d) := ⟨P.bel.trans (tn5.to_below P.far.1 P.bel.size), ht5, hd5, P.ok.act hd, ⟨P.far.1, P.far.2.1, Nat.le_trans P.far.2.2 tn5.size⟩⟩
        clear DA ht5 hd5 tn5 P c0 c1 c2 c3 c4 c5 c6 c7 c8 c9 c10 c11 c12 c13 c14 c15 hAE ho
        go_wp2_with fail
        go_roundw
        case rel => exact ⟨i + 1, _, _, by go_num, by omega, P5⟩
        case measure => simp [intOf]; omega
      · by_cases h1 : (i : Int) < (len1 : Int)
        · have h2 : ¬ ((i : Int) < 25) := by omega
          clear h12
          have hok := P.tlb.ok
          have hle := P.tlb.le
          have far := P.far
          go_wp2_with fail
          refine (list_any wr P.tlb).mono ?_; rintro r w6 ⟨v6, rfl, hl6, hb6⟩
          obtain ⟨ao, cap, rfl⟩ := own_shape hl6
          have M6 : PM w w6 (w.heap.size + 1) w.heap.size N T wr.heap.size ao cap (vals T N) := ⟨P.bel.trans (hb6.mono P.bel.size), P.tlb.low hb6, hl6, ⟨far.1, by omega⟩⟩
          have hll := vals_le T N
          have hlw := Lib.hid (fun k (hk : k < (vals T N).length) => (by
            obtain ⟨q, hq, he, _⟩ := vals_at hk
            rw [← he]; exact hok.wf q hq : (nthE (vals T N) k).wf))
          have hlf := Lib.hid (fun k (hk : k < (vals T N).length) => (by
            obtain ⟨q, hq, he, hv⟩ := vals_at hk
            rw [← he] at hv ⊢
            exact find_left hok hq hv a2 a3 : ((nthE (vals T N) k).hitsB a2 a3 = true → findI (dropE T (fun e => e.hitsB a2 a3) N) N (nthE (vals T N) k).va (nthE (vals T N) k).ctx = -1) ∧
              ((nthE (vals T N) k).hitsB a2 a3 = false → findE (dropE T (fun e => e.hitsB a2 a3) N) N (nthE (vals T N) k).va (nthE (vals T N) k).ctx = nthE (vals T N) k ∧ 0 ≤ findI (dropE T (fun e => e.hitsB a2 a3) N) N (nthE (vals T N) k).va (nthE (vals T N) k).ctx)))
          have hcnt := Lib.hid (cntL_all T (fun e => e.hitsB a2 a3) N)
          have hone := hits_le hok a2 a3
          have hdr := vals_drop T (fun e => e.hitsB a2 a3) N
          have hfn := Lib.hid (find_none T N a2 a3)
          have DP := Lib.hid (dpage_any a2 a3 y0 y1 w6 M6.tlb)
          clear P hl6 hb6 hok
          generalize vals T N = l at *
          generalize dropE T (fun e => e.hitsB a2 a3) N = T7 at *
          generalize cntE T (fun e => e.hitsB a2 a3) N = z at *
          generalize wr.heap.size = C6 at *
          go_wp2_with fail
          refine DP.out.mono ?_; rintro r w7 ⟨rfl, ht7, tn7⟩
          have M7 := M6.prog ht7 tn7
          clear M6 ht7 tn7 DP
          have FF := find_any a2 a3 y0 y1 w7 M7.tlb
          rw [hfn.out] at FF
          have FF := Lib.hid FF
          generalize findE T7 N a2 a3 = xE at *
          go_wp2_with fail
          refine FF.out.mono ?_; rintro r w8 ⟨rfl, hb8⟩
          have M8 := (M7.low hb8).low (box1 w8 (.cells #[.int .i64 xE.size, .int .i64 xE.ctx, .int .u64 xE.va, .int .u64 xE.pa, .bool xE.att.write, .bool xE.att.priv, .bool xE.att.exec, .bool xE.att.lock, .bool xE.att.global, .bool xE.att.quiet, .bool xE.valid] 33))
          clear M7 hb8 FF
          go_wp2_with fail
          generalize World.alloc w8 _ = w9 at *
          go_loopw [18, 19] (fun v a wr => ∃ k : Nat, k ≤ l.length ∧ a = .int .i64 (k : Int) ∧ v = .int .i64 (cntL l (fun e => e.hitsB a2 a3) k : Int) ∧ PM w wr (w.heap.size + 1) w.heap.size N T7 C6 ao cap l) (fun _ a _ => l.length - (intOf a).toNat)
          case atStart => exact ⟨0, by omega, rfl, rfl, M8⟩
          case round =>
            clear M8
            obtain ⟨k, hk, rfl, rfl, M⟩ := hrel
            have hcl := cntL_le l (fun e => e.hitsB a2 a3) k
            by_cases hlk : k < l.length
            · obtain ⟨o, ho⟩ : ∃ o, k * 11 = o := ⟨_, rfl⟩
              obtain ⟨g, rfl, n1, n2, n3, c0, c1, c2, c3, c4, c5, c6, c7, c8, c9, c10⟩ := M.at hlk ho
              have hlk' : (k : Int) < (l.length : Int) := by omega
              have hAE : (⟨g, 0, none⟩ : Addr).add o = ⟨g, o, none⟩ := by unfold Addr.add; split <;> simp_all
              have hwf := (hlw.out k hlk).2.2.1
              have RH := Lib.hid (fun W => rhits_any (nthE l k) a2 a3 hwf.1 hwf.2 y0 y1 W)
              have hnx := Lib.hid (show cntL l (fun e => e.hitsB a2 a3) (k + 1) = cntL l (fun e => e.hitsB a2 a3) k + if (nthE l k).hitsB a2 a3 then 1 else 0 from rfl)
              have hfd := Lib.hid (hlf.out k hlk)
              have CF := Lib.hid (fun W hW => find_any (sb := w.heap.size + 1) (bb := w.heap.size) (n := N) (T := T7) (nthE l k).va (nthE l k).ctx hwf.1 hwf.2 W hW)
              have hds : ∀ W : World, W.drew.heap.size = W.heap.size := fun _ => rfl
              generalize cntL l (fun e => e.hitsB a2 a3) k = q at *
              generalize findE T7 N (nthE l k).va (nthE l k).ctx = fE at *
              generalize findI T7 N (nthE l k).va (nthE l k).ctx = fI at *
              generalize hhd : (nthE l k).hitsB a2 a3 = HH at *
              clear hhd
              go_wp2_with fail
              refine (RH.out _).mono ?_; rintro r w10 ⟨rfl, hb10⟩
              have M10 := M.low hb10
              clear M hb10 RH c0 c1 c2 c3 c4 c5 c6 c7 c8 c9 c10
              have hsc := PM.sc hlk ho M10
              have hgl : g < w10.heap.size := by obtain ⟨g', hg', _, _, h, _⟩ := M10.at hlk ho; obtain rfl : g = g' := (by simpa using hg'); exact h
              go_wp2_with fail
              go_cut [21, 22] (fun a b wx => ∃ c, a = .pointer (some ⟨c, 0, none⟩) ∧ b = .int .i64 fI ∧ PM w wx (w.heap.size + 1) w.heap.size N T7 C6 (some ⟨g, 0, none⟩) cap l ∧ RowE wx c fE)
              case first =>
                go_region_held3 (fun w1 => w1.cell? ⟨g, o, none⟩ = some (.int .i64 (nthE l k).size) ∧ w1.cell? ⟨g, o + 1, none⟩ = some (.int .i64 (nthE l k).ctx) ∧ w1.cell? ⟨g, o + 2, none⟩ = some (.int .u64 (nthE l k).va) ∧ w1.cell? ⟨g, o + 3, none⟩ = some (.int .u64 (nthE l k).pa) ∧ w1.cell? ⟨g, o + 4, none⟩ = some (.bool (nthE l k).att.write) ∧ w1.cell? ⟨g, o + 5, none⟩ = some (.bool (nthE l k).att.priv) ∧ w1.cell? ⟨g, o + 6, none⟩ = some (.bool (nthE l k).att.exec) ∧ w1.cell? ⟨g, o + 7, none⟩ = some (.bool (nthE l k).att.lock) ∧ w1.cell? ⟨g, o + 8, none⟩ = some (.bool (nthE l k).att.global) ∧ w1.cell? ⟨g, o + 9, none⟩ = some (.bool (nthE l k).att.quiet) ∧ w1.cell? ⟨g, o + 10, none⟩ = some (.bool (nthE l k).valid)) ((refine PM.sc (w := w) (sb := w.heap.size + 1) (bb := w.heap.size) (N := N) (T := T7) (C := C6) (cap := cap) hlk ho ?_; (repeat (first | (with_reducible assumption) | (with_reducible refine PM.drew ?_) | (with_reducible refine PM.drewN ?_ _) | (with_reducible refine PM.alloc ?_ _) | (with_reducible refine PM.setNew ?_ ?_) | (with_reducible refine PM.low ?_ (by assumption))))))
                  ((go_at_call 23; (refine (CF.out _ (PM.tlb (w := w) (C := C6) (ao := some ⟨g, 0, none⟩) (cap := cap) (l := l) (by (repeat (first | (with_reducible assumption) | (with_reducible refine PM.drew ?_) | (with_reducible refine PM.drewN ?_ _) | (with_reducible refine PM.alloc ?_ _) | (with_reducible refine PM.setNew ?_ ?_) | (with_reducible refine PM.low ?_ (by assumption))))))).mono ?_); rintro r w' ⟨rfl, hb⟩; obtain ⟨hc, hf, hs1, hs2⟩ := bfacts hb; (try have hv : w10.heap.size < w'.heap.size := by (have hsz := hb.size; (try simp only [hds] at hsz); (try simp only [World.size_alloc] at hsz); omega))))
                all_goals
                  go_wp2_with fail
                  go_meet
                  refine ⟨_, rfl, rfl, ?_, ?_⟩
                  · (repeat (first | (with_reducible assumption) | (with_reducible refine PM.drew ?_) | (with_reducible refine PM.drewN ?_ _) | (with_reducible refine PM.alloc ?_ _) | (with_reducible refine PM.setNew ?_ ?_) | (with_reducible refine PM.low ?_ (by assumption))))
                  · (first | (with_reducible exact RowE.new _ _) | (refine RowE.setAll (z := Ent.zero) ?_; (repeat (first | (with_reducible refine RowE.call ?_ (by assumption)) | (with_reducible refine RowE.drew ?_) | exact RowE.new _ Ent.zero))))
              case rest =>
                obtain ⟨c, rfl, rfl, M11, R11⟩ := hcut
                clear M10 hsc hgl CF
                cases HH
                · have hnx2 := Lib.hid (show cntL l (fun e => e.hitsB a2 a3) (k + 1) = q by rw [hnx.out]; rfl)
                  obtain ⟨hf1, hf2⟩ := hfd.out.2 rfl
                  subst hf1
                  clear hnx hfd
                  obtain ⟨c0, c1, c2, c3, c4, c5, c6, c7, c8, c9, c10⟩ := PM.sc hlk ho M11
                  obtain ⟨s0, s1, s2, s3, s4, s5, s6, s7, s8, s9, s10⟩ := R11.cells
                  have hdc : decide (fI < 0) = false := by simpa using hf2
                  generalize nthE l k = ej at *
                  go_wp2_with fail
                  go_quiet (fail)
                  go_wp2_with fail
                  go_roundw
                  case rel => first | exact ⟨k + 1, by omega, by go_num, by rw [hnx2.out], M11.drewN _⟩ | ((repeat apply Exists.intro); exact ⟨⟨k + 1, by omega, by go_num, by rw [hnx2.out], M11.drewN _⟩, rfl⟩)
                  case measure => simp [intOf]; omega
                · have hnx2 := Lib.hid (show cntL l (fun e => e.hitsB a2 a3) (k + 1) = q + 1 by rw [hnx.out]; rfl)
                  have hf1 := hfd.out.1 rfl
                  subst hf1
                  clear hnx hfd
                  go_wp2_with fail
                  go_quiet (fail)
                  go_wp2_with fail
                  go_roundw
                  case rel => first | exact ⟨k + 1, by omega, by go_num, by rw [hnx2.out]; go_num, M11.drewN _⟩ | ((repeat apply Exists.intro); exact ⟨⟨k + 1, by omega, by go_num, by rw [hnx2.out]; go_num, M11.drewN _⟩, rfl⟩)
                  case measure => simp [intOf]; omega
            · obtain rfl : k = l.length := by omega
              have hz := hcnt.out
              have hz1 : (z : Int) ≤ 1 := by omega
              have LI1 := Lib.hid (fun W hW => list_any (sb := w.heap.size + 1) (bb := w.heap.size) (n := N) (T := T7) W hW)
              rw [hz] at hcl ⊢
              have hsub : wrap64 ((l.length : Int) - (z : Int)) = ((vals T7 N).length : Int) := by unfold wrap64; omega
              have hsub2 : (l.length : Int) - (z : Int) = ((vals T7 N).length : Int) := by omega
              clear hz hcnt hlf hlw hdr hone
              go_wp2_with fail
              refine (LI1.out _ M.tlb).mono ?_; rintro r w12 ⟨v12, rfl, hl12, hb12⟩
              obtain ⟨ao2, cap2, rfl⟩ := own_shape hl12
              have M12 := M.low hb12
              clear M hl12 hb12 LI1
              go_wp2_with fail
              refine (HLV.out _).mono ?_; rintro r w13 ⟨rfl, hb13⟩
              go_wp2_with fail
              go_ret
              exact ⟨rfl, (M12.low hb13).bel⟩
        · clear h12
          have hok := P.tlb.ok
          have hle := P.tlb.le
          have far := P.far
          go_wp2_with fail
          refine (list_any wr P.tlb).mono ?_; rintro r w6 ⟨v6, rfl, hl6, hb6⟩
          obtain ⟨ao, cap, rfl⟩ := own_shape hl6
          have M6 : PM w w6 (w.heap.size + 1) w.heap.size N T wr.heap.size ao cap (vals T N) := ⟨P.bel.trans (hb6.mono P.bel.size), P.tlb.low hb6, hl6, ⟨far.1, by omega⟩⟩
          have hll := vals_le T N
          have hlw := Lib.hid (fun k (hk : k < (vals T N).length) => (by
            obtain ⟨q, hq, he, _⟩ := vals_at hk
            rw [← he]; exact hok.wf q hq : (nthE (vals T N) k).wf))
          have hlf := Lib.hid (fun k (hk : k < (vals T N).length) => (by
            obtain ⟨q, hq, he, hv⟩ := vals_at hk
            rw [← he] at hv ⊢
            exact find_left hok hq hv a2 a3 : ((nthE (vals T N) k).hitsB a2 a3 = true → findI (dropE T (fun e => e.hitsB a2 a3) N) N (nthE (vals T N) k).va (nthE (vals T N) k).ctx = -1) ∧
              ((nthE (vals T N) k).hitsB a2 a3 = false → findE (dropE T (fun e => e.hitsB a2 a3) N) N (nthE (vals T N) k).va (nthE (vals T N) k).ctx = nthE (vals T N) k ∧ 0 ≤ findI (dropE T (fun e => e.hitsB a2 a3) N) N (nthE (vals T N) k).va (nthE (vals T N) k).ctx)))
          have hcnt := Lib.hid (cntL_all T (fun e => e.hitsB a2 a3) N)
          have hone := hits_le hok a2 a3
          have hdr := vals_drop T (fun e => e.hitsB a2 a3) N
          have hfn := Lib.hid (find_none T N a2 a3)
          have DP := Lib.hid (dpage_any a2 a3 y0 y1 w6 M6.tlb)
          clear P hl6 hb6 hok
          generalize vals T N = l at *
          generalize dropE T (fun e => e.hitsB a2 a3) N = T7 at *
          generalize cntE T (fun e => e.hitsB a2 a3) N = z at *
          generalize wr.heap.size = C6 at *
          go_wp2_with fail
          refine DP.out.mono ?_; rintro r w7 ⟨rfl, ht7, tn7⟩
          have M7 := M6.prog ht7 tn7
          clear M6 ht7 tn7 DP
          have FF := find_any a2 a3 y0 y1 w7 M7.tlb
          rw [hfn.out] at FF
          have FF := Lib.hid FF
          generalize findE T7 N a2 a3 = xE at *
          go_wp2_with fail
          refine FF.out.mono ?_; rintro r w8 ⟨rfl, hb8⟩
          have M8 := (M7.low hb8).low (box1 w8 (.cells #[.int .i64 xE.size, .int .i64 xE.ctx, .int .u64 xE.va, .int .u64 xE.pa, .bool xE.att.write, .bool xE.att.priv, .bool xE.att.exec, .bool xE.att.lock, .bool xE.att.global, .bool xE.att.quiet, .bool xE.valid] 33))
          clear M7 hb8 FF
          go_wp2_with fail
          generalize World.alloc w8 _ = w9 at *
          go_loopw [18, 19] (fun v a wr => ∃ k : Nat, k ≤ l.length ∧ a = .int .i64 (k : Int) ∧ v = .int .i64 (cntL l (fun e => e.hitsB a2 a3) k : Int) ∧ PM w wr (w.heap.size + 1) w.heap.size N T7 C6 ao cap l) (fun _ a _ => l.length - (intOf a).toNat)
          case atStart => exact ⟨0, by omega, rfl, rfl, M8⟩
          case round =>
            clear M8
            obtain ⟨k, hk, rfl, rfl, M⟩ := hrel
            have hcl := cntL_le l (fun e => e.hitsB a2 a3) k
            by_cases hlk : k < l.length
            · obtain ⟨o, ho⟩ : ∃ o, k * 11 = o := ⟨_, rfl⟩
              obtain ⟨g, rfl, n1, n2, n3, c0, c1, c2, c3, c4, c5, c6, c7, c8, c9, c10⟩ := M.at hlk ho
              have hlk' : (k : Int) < (l.length : Int) := by omega
              have hAE : (⟨g, 0, none⟩ : Addr).add o = ⟨g, o, none⟩ := by unfold Addr.add; split <;> simp_all
              have hwf := (hlw.out k hlk).2.2.1
              have RH := Lib.hid (fun W => rhits_any (nthE l k) a2 a3 hwf.1 hwf.2 y0 y1 W)
              have hnx := Lib.hid (show cntL l (fun e => e.hitsB a2 a3) (k + 1) = cntL l (fun e => e.hitsB a2 a3) k + if (nthE l k).hitsB a2 a3 then 1 else 0 from rfl)
              have hfd := Lib.hid (hlf.out k hlk)
              have CF := Lib.hid (fun W hW => find_any (sb := w.heap.size + 1) (bb := w.heap.size) (n := N) (T := T7) (nthE l k).va (nthE l k).ctx hwf.1 hwf.2 W hW)
              have hds : ∀ W : World, W.drew.heap.size = W.heap.size := fun _ => rfl
              generalize cntL l (fun e => e.hitsB a2 a3) k = q at *
              generalize findE T7 N (nthE l k).va (nthE l k).ctx = fE at *
              generalize findI T7 N (nthE l k).va (nthE l k).ctx = fI at *
              generalize hhd : (nthE l k).hitsB a2 a3 = HH at *
              clear hhd
              go_wp2_with fail
              refine (RH.out _).mono ?_; rintro r w10 ⟨rfl, hb10⟩
              have M10 := M.low hb10
              clear M hb10 RH c0 c1 c2 c3 c4 c5 c6 c7 c8 c9 c10
              have hsc := PM.sc hlk ho M10
              have hgl : g < w10.heap.size := by obtain ⟨g', hg', _, _, h, _⟩ := M10.at hlk ho; obtain rfl : g = g' := (by simpa using hg'); exact h
              go_wp2_with fail
              go_cut [21, 22] (fun a b wx => ∃ c, a = .pointer (some ⟨c, 0, none⟩) ∧ b = .int .i64 fI ∧ PM w wx (w.heap.size + 1) w.heap.size N T7 C6 (some ⟨g, 0, none⟩) cap l ∧ RowE wx c fE)
              case first =>
                go_region_held3 (fun w1 => w1.cell? ⟨g, o, none⟩ = some (.int .i64 (nthE l k).size) ∧ w1.cell? ⟨g, o + 1, none⟩ = some (.int .i64 (nthE l k).ctx) ∧ w1.cell? ⟨g, o + 2, none⟩ = some (.int .u64 (nthE l k).va) ∧ w1.cell? ⟨g, o + 3, none⟩ = some (.int .u64 (nthE l k).pa) ∧ w1.cell? ⟨g, o + 4, none⟩ = some (.bool (nthE l k).att.write) ∧ w1.cell? ⟨g, o + 5, none⟩ = some (.bool (nthE l k).att.priv) ∧ w1.cell? ⟨g, o + 6, none⟩ = some (.bool (nthE l k).att.exec) ∧ w1.cell? ⟨g, o + 7, none⟩ = some (.bool (nthE l k).att.lock) ∧ w1.cell? ⟨g, o + 8, none⟩ = some (.bool (nthE l k).att.global) ∧ w1.cell? ⟨g, o + 9, none⟩ = some (.bool (nthE l k).att.quiet) ∧ w1.cell? ⟨g, o + 10, none⟩ = some (.bool (nthE l k).valid)) ((refine PM.sc (w := w) (sb := w.heap.size + 1) (bb := w.heap.size) (N := N) (T := T7) (C := C6) (cap := cap) hlk ho ?_; (repeat (first | (with_reducible assumption) | (with_reducible refine PM.drew ?_) | (with_reducible refine PM.drewN ?_ _) | (with_reducible refine PM.alloc ?_ _) | (with_reducible refine PM.setNew ?_ ?_) | (with_reducible refine PM.low ?_ (by assumption))))))
                  ((go_at_call 23; (refine (CF.out _ (PM.tlb (w := w) (C := C6) (ao := some ⟨g, 0, none⟩) (cap := cap) (l := l) (by (repeat (first | (with_reducible assumption) | (with_reducible refine PM.drew ?_) | (with_reducible refine PM.drewN ?_ _) | (with_reducible refine PM.alloc ?_ _) | (with_reducible refine PM.setNew ?_ ?_) | (with_reducible refine PM.low ?_ (by assumption))))))).mono ?_); rintro r w' ⟨rfl, hb⟩; obtain ⟨hc, hf, hs1, hs2⟩ := bfacts hb; (try have hv : w10.heap.size < w'.heap.size := by (have hsz := hb.size; (try simp only [hds] at hsz); (try simp only [World.size_alloc] at hsz); omega))))
                all_goals
                  go_wp2_with fail
                  go_meet
                  refine ⟨_, rfl, rfl, ?_, ?_⟩
                  · (repeat (first | (with_reducible assumption) | (with_reducible refine PM.drew ?_) | (with_reducible refine PM.drewN ?_ _) | (with_reducible refine PM.alloc ?_ _) | (with_reducible refine PM.setNew ?_ ?_) | (with_reducible refine PM.low ?_ (by assumption))))
                  · (first | (with_reducible exact RowE.new _ _) | (refine RowE.setAll (z := Ent.zero) ?_; (repeat (first | (with_reducible refine RowE.call ?_ (by assumption)) | (with_reducible refine RowE.drew ?_) | exact RowE.new _ Ent.zero))))
              case rest =>
                obtain ⟨c, rfl, rfl, M11, R11⟩ := hcut
                clear M10 hsc hgl CF
                cases HH
                · have hnx2 := Lib.hid (show cntL l (fun e => e.hitsB a2 a3) (k + 1) = q by rw [hnx.out]; rfl)
                  obtain ⟨hf1, hf2⟩ := hfd.out.2 rfl
                  subst hf1
                  clear hnx hfd
                  obtain ⟨c0, c1, c2, c3, c4, c5, c6, c7, c8, c9, c10⟩ := PM.sc hlk ho M11
                  obtain ⟨s0, s1, s2, s3, s4, s5, s6, s7, s8, s9, s10⟩ := R11.cells
                  have hdc : decide (fI < 0) = false := by simpa using hf2
                  generalize nthE l k = ej at *
                  go_wp2_with fail
                  go_quiet (fail)
                  go_wp2_with fail
                  go_roundw
                  case rel => first | exact ⟨k + 1, by omega, by go_num, by rw [hnx2.out], M11.drewN _⟩ | ((repeat apply Exists.intro); exact ⟨⟨k + 1, by omega, by go_num, by rw [hnx2.out], M11.drewN _⟩, rfl⟩)
                  case measure => simp [intOf]; omega
                · have hnx2 := Lib.hid (show cntL l (fun e => e.hitsB a2 a3) (k + 1) = q + 1 by rw [hnx.out]; rfl)
                  have hf1 := hfd.out.1 rfl
                  subst hf1
                  clear hnx hfd
                  go_wp2_with fail
                  go_quiet (fail)
                  go_wp2_with fail
                  go_roundw
                  case rel => first | exact ⟨k + 1, by omega, by go_num, by rw [hnx2.out]; go_num, M11.drewN _⟩ | ((repeat apply Exists.intro); exact ⟨⟨k + 1, by omega, by go_num, by rw [hnx2.out]; go_num, M11.drewN _⟩, rfl⟩)
                  case measure => simp [intOf]; omega
            · obtain rfl : k = l.length := by omega
              have hz := hcnt.out
              have hz1 : (z : Int) ≤ 1 := by omega
              have LI1 := Lib.hid (fun W hW => list_any (sb := w.heap.size + 1) (bb := w.heap.size) (n := N) (T := T7) W hW)
              rw [hz] at hcl ⊢
              have hsub : wrap64 ((l.length : Int) - (z : Int)) = ((vals T7 N).length : Int) := by unfold wrap64; omega
              have hsub2 : (l.length : Int) - (z : Int) = ((vals T7 N).length : Int) := by omega
              clear hz hcnt hlf hlw hdr hone
              go_wp2_with fail
              refine (LI1.out _ M.tlb).mono ?_; rintro r w12 ⟨v12, rfl, hl12, hb12⟩
              obtain ⟨ao2, cap2, rfl⟩ := own_shape hl12
              have M12 := M.low hb12
              clear M hl12 hb12 LI1
              go_wp2_with fail
              refine (HLV.out _).mono ?_; rintro r w13 ⟨rfl, hb13⟩
              go_wp2_with fail
              go_ret
              exact ⟨rfl, (M12.low hb13).bel⟩
  · go_enter Try.func8, Try.ntmps8
    go_wp2_with fail
    refine (main.out _ _).mono ?_; rintro e W0 ⟨rfl, h0, b0, s0⟩
    have RN := Lib.hid (fun (a : Int) W => rnew_any a W)
    generalize hN : newN _ = N at *
    replace hN := Lib.hid hN
    go_wp2_with fail
    refine (RN.out _ _).mono ?_; rw [hN.out]; rintro e W1 ⟨v0, rfl, hd1, hb1⟩
    have P0 : PD w W1 (w.heap.size + 1) w.heap.size N (fun _ => Ent.zero) W0.heap.size v0 (fun _ => Ent.zero) := ⟨b0.trans (hb1.mono b0.size), h0.low hb1, hd1, Ok.new _, ⟨Nat.le_refl _, by omega, hb1.size⟩⟩
    clear RN h0 b0 hd1 hb1 s0 main hN
    generalize W0.heap.size = B at *
    go_wp2_with fail
    go_loopw [10, 11] (fun v i wr => ∃ (j : Nat) (T R : Nat → Ent), i = .int .i64 (j : Int) ∧ j ≤ 25 ∧ PD w wr (w.heap.size + 1) w.heap.size N T B v R) (fun _ i _ => 25 - (intOf i).toNat)
    case atStart => exact ⟨0, _, _, rfl, by omega, P0⟩
    case round =>
      clear P0
      obtain ⟨i, T, R, rfl, hi, P⟩ := hrel
      by_cases h12 : (i : Int) < (len1 : Int) ∧ (i : Int) < 25
      · obtain ⟨h1, h2⟩ := h12
        obtain ⟨b, o, off, d, rfl, ho, hlc, hcm, hd, hc⟩ := deeds_at w1' i (by omega)
        unfold maxLen at hcm
        have hcl : ∀ {b o : Nat} {v : Value}, w.cell? ⟨b, o, none⟩ = some v → wr.cell? ⟨b, o, none⟩ = some v := fun {b o v} hc => (P.bel.cell (p := ⟨b, o, none⟩) (lt_cell hc)).trans hc
        obtain ⟨c0, c1, c2, c3, c4, c5, c6, c7, c8, c9, c10, c11, c12, c13, c14, c15⟩ := hc
        replace c0 := hcl c0; replace c1 := hcl c1; replace c2 := hcl c2; replace c3 := hcl c3; replace c4 := hcl c4; replace c5 := hcl c5; replace c6 := hcl c6; replace c7 := hcl c7; replace c8 := hcl c8; replace c9 := hcl c9; replace c10 := hcl c10; replace c11 := hcl c11; replace c12 := hcl c12; replace c13 := hcl c13; replace c14 := hcl c14; replace c15 := hcl c15
        have hAE : (⟨b, off, none⟩ : Addr).add (i * 16) = ⟨b, o, none⟩ := by rw [← ho]; unfold Addr.add; split <;> simp_all
        clear hcl
        have DA := Lib.hid (does_any d hd wr P.tlb P.doc P.ok.wf P.far.2.1 P.far.2.2)
        go_wp2_with fail
        refine DA.out.mono ?_; rintro r w5 ⟨v5, b5, rfl, ht5, hd5, tn5, _⟩
        have P5 : PD w w5 (w.heap.size + 1) w.heap.size N (act T N d) B v5 (act R N d) := ⟨P.bel.trans (tn5.to_below P.far.1 P.bel.size), ht5, hd5, P.ok.act hd, ⟨P.far.1, P.far.2.1, Nat.le_trans P.far.2.2 tn5.size⟩⟩
        clear DA ht5 hd5 tn5 P c0 c1 c2 c3 c4 c5 c6 c7 c8 c9 c10 c11 c12 c13 c14 c15 hAE ho
        go_wp2_with fail
        go_roundw
        case rel => exact ⟨i + 1, _, _, by go_num, by omega, P5⟩
        case measure => simp [intOf]; omega
      · by_cases h1 : (i : Int) < (len1 : Int)
        · have h2 : ¬ ((i : Int) < 25) := by omega
          clear h12
          have hok := P.tlb.ok
          have hle := P.tlb.le
          have far := P.far
          go_wp2_with fail
          refine (list_any wr P.tlb).mono ?_; rintro r w6 ⟨v6, rfl, hl6, hb6⟩
          obtain ⟨ao, cap, rfl⟩ := own_shape hl6
          have M6 : PM w w6 (w.heap.size + 1) w.heap.size N T wr.heap.size ao cap (vals T N) := ⟨P.bel.trans (hb6.mono P.bel.size), P.tlb.low hb6, hl6, ⟨far.1, by omega⟩⟩
          have hll := vals_le T N
          have hlw := Lib.hid (fun k (hk : k < (vals T N).length) => (by
            obtain ⟨q, hq, he, _⟩ := vals_at hk
            rw [← he]; exact hok.wf q hq : (nthE (vals T N) k).wf))
          have hlf := Lib.hid (fun k (hk : k < (vals T N).length) => (by
            obtain ⟨q, hq, he, hv⟩ := vals_at hk
            rw [← he] at hv ⊢
            exact find_left hok hq hv a2 a3 : ((nthE (vals T N) k).hitsB a2 a3 = true → findI (dropE T (fun e => e.hitsB a2 a3) N) N (nthE (vals T N) k).va (nthE (vals T N) k).ctx = -1) ∧
              ((nthE (vals T N) k).hitsB a2 a3 = false → findE (dropE T (fun e => e.hitsB a2 a3) N) N (nthE (vals T N) k).va (nthE (vals T N) k).ctx = nthE (vals T N) k ∧ 0 ≤ findI (dropE T (fun e => e.hitsB a2 a3) N) N (nthE (vals T N) k).va (nthE (vals T N) k).ctx)))
          have hcnt := Lib.hid (cntL_all T (fun e => e.hitsB a2 a3) N)
          have hone := hits_le hok a2 a3
          have hdr := vals_drop T (fun e => e.hitsB a2 a3) N
          have hfn := Lib.hid (find_none T N a2 a3)
          have DP := Lib.hid (dpage_any a2 a3 y0 y1 w6 M6.tlb)
          clear P hl6 hb6 hok
          generalize vals T N = l at *
          generalize dropE T (fun e => e.hitsB a2 a3) N = T7 at *
          generalize cntE T (fun e => e.hitsB a2 a3) N = z at *
          generalize wr.heap.size = C6 at *
          go_wp2_with fail
          refine DP.out.mono ?_; rintro r w7 ⟨rfl, ht7, tn7⟩
          have M7 := M6.prog ht7 tn7
          clear M6 ht7 tn7 DP
          have FF := find_any a2 a3 y0 y1 w7 M7.tlb
          rw [hfn.out] at FF
          have FF := Lib.hid FF
          generalize findE T7 N a2 a3 = xE at *
          go_wp2_with fail
          refine FF.out.mono ?_; rintro r w8 ⟨rfl, hb8⟩
          have M8 := (M7.low hb8).low (box1 w8 (.cells #[.int .i64 xE.size, .int .i64 xE.ctx, .int .u64 xE.va, .int .u64 xE.pa, .bool xE.att.write, .bool xE.att.priv, .bool xE.att.exec, .bool xE.att.lock, .bool xE.att.global, .bool xE.att.quiet, .bool xE.valid] 33))
          clear M7 hb8 FF
          go_wp2_with fail
          generalize World.alloc w8 _ = w9 at *
          go_loopw [18, 19] (fun v a wr => ∃ k : Nat, k ≤ l.length ∧ a = .int .i64 (k : Int) ∧ v = .int .i64 (cntL l (fun e => e.hitsB a2 a3) k : Int) ∧ PM w wr (w.heap.size + 1) w.heap.size N T7 C6 ao cap l) (fun _ a _ => l.length - (intOf a).toNat)
          case atStart => exact ⟨0, by omega, rfl, rfl, M8⟩
          case round =>
            clear M8
            obtain ⟨k, hk, rfl, rfl, M⟩ := hrel
            have hcl := cntL_le l (fun e => e.hitsB a2 a3) k
            by_cases hlk : k < l.length
            · obtain ⟨o, ho⟩ : ∃ o, k * 11 = o := ⟨_, rfl⟩
              obtain ⟨g, rfl, n1, n2, n3, c0, c1, c2, c3, c4, c5, c6, c7, c8, c9, c10⟩ := M.at hlk ho
              have hlk' : (k : Int) < (l.length : Int) := by omega
              have hAE : (⟨g, 0, none⟩ : Addr).add o = ⟨g, o, none⟩ := by unfold Addr.add; split <;> simp_all
              have hwf := (hlw.out k hlk).2.2.1
              have RH := Lib.hid (fun W => rhits_any (nthE l k) a2 a3 hwf.1 hwf.2 y0 y1 W)
              have hnx := Lib.hid (show cntL l (fun e => e.hitsB a2 a3) (k + 1) = cntL l (fun e => e.hitsB a2 a3) k + if (nthE l k).hitsB a2 a3 then 1 else 0 from rfl)
              have hfd := Lib.hid (hlf.out k hlk)
              have CF := Lib.hid (fun W hW => find_any (sb := w.heap.size + 1) (bb := w.heap.size) (n := N) (T := T7) (nthE l k).va (nthE l k).ctx hwf.1 hwf.2 W hW)
              have hds : ∀ W : World, W.drew.heap.size = W.heap.size := fun _ => rfl
              generalize cntL l (fun e => e.hitsB a2 a3) k = q at *
              generalize findE T7 N (nthE l k).va (nthE l k).ctx = fE at *
              generalize findI T7 N (nthE l k).va (nthE l k).ctx = fI at *
              generalize hhd : (nthE l k).hitsB a2 a3 = HH at *
              clear hhd
              go_wp2_with fail
              refine (RH.out _).mono ?_; rintro r w10 ⟨rfl, hb10⟩
              have M10 := M.low hb10
              clear M hb10 RH c0 c1 c2 c3 c4 c5 c6 c7 c8 c9 c10
              have hsc := PM.sc hlk ho M10
              have hgl : g < w10.heap.size := by obtain ⟨g', hg', _, _, h, _⟩ := M10.at hlk ho; obtain rfl : g = g' := (by simpa using hg'); exact h
              go_wp2_with fail
              go_cut [21, 22] (fun a b wx => ∃ c, a = .pointer (some ⟨c, 0, none⟩) ∧ b = .int .i64 fI ∧ PM w wx (w.heap.size + 1) w.heap.size N T7 C6 (some ⟨g, 0, none⟩) cap l ∧ RowE wx c fE)
              case first =>
                go_region_held3 (fun w1 => w1.cell? ⟨g, o, none⟩ = some (.int .i64 (nthE l k).size) ∧ w1.cell? ⟨g, o + 1, none⟩ = some (.int .i64 (nthE l k).ctx) ∧ w1.cell? ⟨g, o + 2, none⟩ = some (.int .u64 (nthE l k).va) ∧ w1.cell? ⟨g, o + 3, none⟩ = some (.int .u64 (nthE l k).pa) ∧ w1.cell? ⟨g, o + 4, none⟩ = some (.bool (nthE l k).att.write) ∧ w1.cell? ⟨g, o + 5, none⟩ = some (.bool (nthE l k).att.priv) ∧ w1.cell? ⟨g, o + 6, none⟩ = some (.bool (nthE l k).att.exec) ∧ w1.cell? ⟨g, o + 7, none⟩ = some (.bool (nthE l k).att.lock) ∧ w1.cell? ⟨g, o + 8, none⟩ = some (.bool (nthE l k).att.global) ∧ w1.cell? ⟨g, o + 9, none⟩ = some (.bool (nthE l k).att.quiet) ∧ w1.cell? ⟨g, o + 10, none⟩ = some (.bool (nthE l k).valid)) ((refine PM.sc (w := w) (sb := w.heap.size + 1) (bb := w.heap.size) (N := N) (T := T7) (C := C6) (cap := cap) hlk ho ?_; (repeat (first | (with_reducible assumption) | (with_reducible refine PM.drew ?_) | (with_reducible refine PM.drewN ?_ _) | (with_reducible refine PM.alloc ?_ _) | (with_reducible refine PM.setNew ?_ ?_) | (with_reducible refine PM.low ?_ (by assumption))))))
                  ((go_at_call 23; (refine (CF.out _ (PM.tlb (w := w) (C := C6) (ao := some ⟨g, 0, none⟩) (cap := cap) (l := l) (by (repeat (first | (with_reducible assumption) | (with_reducible refine PM.drew ?_) | (with_reducible refine PM.drewN ?_ _) | (with_reducible refine PM.alloc ?_ _) | (with_reducible refine PM.setNew ?_ ?_) | (with_reducible refine PM.low ?_ (by assumption))))))).mono ?_); rintro r w' ⟨rfl, hb⟩; obtain ⟨hc, hf, hs1, hs2⟩ := bfacts hb; (try have hv : w10.heap.size < w'.heap.size := by (have hsz := hb.size; (try simp only [hds] at hsz); (try simp only [World.size_alloc] at hsz); omega))))
                all_goals
                  go_wp2_with fail
                  go_meet
                  refine ⟨_, rfl, rfl, ?_, ?_⟩
                  · (repeat (first | (with_reducible assumption) | (with_reducible refine PM.drew ?_) | (with_reducible refine PM.drewN ?_ _) | (with_reducible refine PM.alloc ?_ _) | (with_reducible refine PM.setNew ?_ ?_) | (with_reducible refine PM.low ?_ (by assumption))))
                  · (first | (with_reducible exact RowE.new _ _) | (refine RowE.setAll (z := Ent.zero) ?_; (repeat (first | (with_reducible refine RowE.call ?_ (by assumption)) | (with_reducible refine RowE.drew ?_) | exact RowE.new _ Ent.zero))))
              case rest =>
                obtain ⟨c, rfl, rfl, M11, R11⟩ := hcut
                clear M10 hsc hgl CF
                cases HH
                · have hnx2 := Lib.hid (show cntL l (fun e => e.hitsB a2 a3) (k + 1) = q by rw [hnx.out]; rfl)
                  obtain ⟨hf1, hf2⟩ := hfd.out.2 rfl
                  subst hf1
                  clear hnx hfd
                  obtain ⟨c0, c1, c2, c3, c4, c5, c6, c7, c8, c9, c10⟩ := PM.sc hlk ho M11
                  obtain ⟨s0, s1, s2, s3, s4, s5, s6, s7, s8, s9, s10⟩ := R11.cells
                  have hdc : decide (fI < 0) = false := by simpa using hf2
                  generalize nthE l k = ej at *
                  go_wp2_with fail
                  go_quiet (fail)
                  go_wp2_with fail
                  go_roundw
                  case rel => first | exact ⟨k + 1, by omega, by go_num, by rw [hnx2.out], M11.drewN _⟩ | ((repeat apply Exists.intro); exact ⟨⟨k + 1, by omega, by go_num, by rw [hnx2.out], M11.drewN _⟩, rfl⟩)
                  case measure => simp [intOf]; omega
                · have hnx2 := Lib.hid (show cntL l (fun e => e.hitsB a2 a3) (k + 1) = q + 1 by rw [hnx.out]; rfl)
                  have hf1 := hfd.out.1 rfl
                  subst hf1
                  clear hnx hfd
                  go_wp2_with fail
                  go_quiet (fail)
                  go_wp2_with fail
                  go_roundw
                  case rel => first | exact ⟨k + 1, by omega, by go_num, by rw [hnx2.out]; go_num, M11.drewN _⟩ | ((repeat apply Exists.intro); exact ⟨⟨k + 1, by omega, by go_num, by rw [hnx2.out]; go_num, M11.drewN _⟩, rfl⟩)
                  case measure => simp [intOf]; omega
            · obtain rfl : k = l.length := by omega
              have hz := hcnt.out
              have hz1 : (z : Int) ≤ 1 := by omega
              have LI1 := Lib.hid (fun W hW => list_any (sb := w.heap.size + 1) (bb := w.heap.size) (n := N) (T := T7) W hW)
              rw [hz] at hcl ⊢
              have hsub : wrap64 ((l.length : Int) - (z : Int)) = ((vals T7 N).length : Int) := by unfold wrap64; omega
              have hsub2 : (l.length : Int) - (z : Int) = ((vals T7 N).length : Int) := by omega
              clear hz hcnt hlf hlw hdr hone
              go_wp2_with fail
              refine (LI1.out _ M.tlb).mono ?_; rintro r w12 ⟨v12, rfl, hl12, hb12⟩
              obtain ⟨ao2, cap2, rfl⟩ := own_shape hl12
              have M12 := M.low hb12
              clear M hl12 hb12 LI1
              go_wp2_with fail
              refine (HLV.out _).mono ?_; rintro r w13 ⟨rfl, hb13⟩
              go_wp2_with fail
              go_ret
              exact ⟨rfl, (M12.low hb13).bel⟩
        · clear h12
          have hok := P.tlb.ok
          have hle := P.tlb.le
          have far := P.far
          go_wp2_with fail
          refine (list_any wr P.tlb).mono ?_; rintro r w6 ⟨v6, rfl, hl6, hb6⟩
          obtain ⟨ao, cap, rfl⟩ := own_shape hl6
          have M6 : PM w w6 (w.heap.size + 1) w.heap.size N T wr.heap.size ao cap (vals T N) := ⟨P.bel.trans (hb6.mono P.bel.size), P.tlb.low hb6, hl6, ⟨far.1, by omega⟩⟩
          have hll := vals_le T N
          have hlw := Lib.hid (fun k (hk : k < (vals T N).length) => (by
            obtain ⟨q, hq, he, _⟩ := vals_at hk
            rw [← he]; exact hok.wf q hq : (nthE (vals T N) k).wf))
          have hlf := Lib.hid (fun k (hk : k < (vals T N).length) => (by
            obtain ⟨q, hq, he, hv⟩ := vals_at hk
            rw [← he] at hv ⊢
            exact find_left hok hq hv a2 a3 : ((nthE (vals T N) k).hitsB a2 a3 = true → findI (dropE T (fun e => e.hitsB a2 a3) N) N (nthE (vals T N) k).va (nthE (vals T N) k).ctx = -1) ∧
              ((nthE (vals T N) k).hitsB a2 a3 = false → findE (dropE T (fun e => e.hitsB a2 a3) N) N (nthE (vals T N) k).va (nthE (vals T N) k).ctx = nthE (vals T N) k ∧ 0 ≤ findI (dropE T (fun e => e.hitsB a2 a3) N) N (nthE (vals T N) k).va (nthE (vals T N) k).ctx)))
          have hcnt := Lib.hid (cntL_all T (fun e => e.hitsB a2 a3) N)
          have hone := hits_le hok a2 a3
          have hdr := vals_drop T (fun e => e.hitsB a2 a3) N
          have hfn := Lib.hid (find_none T N a2 a3)
          have DP := Lib.hid (dpage_any a2 a3 y0 y1 w6 M6.tlb)
          clear P hl6 hb6 hok
          generalize vals T N = l at *
          generalize dropE T (fun e => e.hitsB a2 a3) N = T7 at *
          generalize cntE T (fun e => e.hitsB a2 a3) N = z at *
          generalize wr.heap.size = C6 at *
          go_wp2_with fail
          refine DP.out.mono ?_; rintro r w7 ⟨rfl, ht7, tn7⟩
          have M7 := M6.prog ht7 tn7
          clear M6 ht7 tn7 DP
          have FF := find_any a2 a3 y0 y1 w7 M7.tlb
          rw [hfn.out] at FF
          have FF := Lib.hid FF
          generalize findE T7 N a2 a3 = xE at *
          go_wp2_with fail
          refine FF.out.mono ?_; rintro r w8 ⟨rfl, hb8⟩
          have M8 := (M7.low hb8).low (box1 w8 (.cells #[.int .i64 xE.size, .int .i64 xE.ctx, .int .u64 xE.va, .int .u64 xE.pa, .bool xE.att.write, .bool xE.att.priv, .bool xE.att.exec, .bool xE.att.lock, .bool xE.att.global, .bool xE.att.quiet, .bool xE.valid] 33))
          clear M7 hb8 FF
          go_wp2_with fail
          generalize World.alloc w8 _ = w9 at *
          go_loopw [18, 19] (fun v a wr => ∃ k : Nat, k ≤ l.length ∧ a = .int .i64 (k : Int) ∧ v = .int .i64 (cntL l (fun e => e.hitsB a2 a3) k : Int) ∧ PM w wr (w.heap.size + 1) w.heap.size N T7 C6 ao cap l) (fun _ a _ => l.length - (intOf a).toNat)
          case atStart => exact ⟨0, by omega, rfl, rfl, M8⟩
          case round =>
            clear M8
            obtain ⟨k, hk, rfl, rfl, M⟩ := hrel
            have hcl := cntL_le l (fun e => e.hitsB a2 a3) k
            by_cases hlk : k < l.length
            · obtain ⟨o, ho⟩ : ∃ o, k * 11 = o := ⟨_, rfl⟩
              obtain ⟨g, rfl, n1, n2, n3, c0, c1, c2, c3, c4, c5, c6, c7, c8, c9, c10⟩ := M.at hlk ho
              have hlk' : (k : Int) < (l.length : Int) := by omega
              have hAE : (⟨g, 0, none⟩ : Addr).add o = ⟨g, o, none⟩ := by unfold Addr.add; split <;> simp_all
              have hwf := (hlw.out k hlk).2.2.1
              have RH := Lib.hid (fun W => rhits_any (nthE l k) a2 a3 hwf.1 hwf.2 y0 y1 W)
              have hnx := Lib.hid (show cntL l (fun e => e.hitsB a2 a3) (k + 1) = cntL l (fun e => e.hitsB a2 a3) k + if (nthE l k).hitsB a2 a3 then 1 else 0 from rfl)
              have hfd := Lib.hid (hlf.out k hlk)
              have CF := Lib.hid (fun W hW => find_any (sb := w.heap.size + 1) (bb := w.heap.size) (n := N) (T := T7) (nthE l k).va (nthE l k).ctx hwf.1 hwf.2 W hW)
              have hds : ∀ W : World, W.drew.heap.size = W.heap.size := fun _ => rfl
              generalize cntL l (fun e => e.hitsB a2 a3) k = q at *
              generalize findE T7 N (nthE l k).va (nthE l k).ctx = fE at *
              generalize findI T7 N (nthE l k).va (nthE l k).ctx = fI at *
              generalize hhd : (nthE l k).hitsB a2 a3 = HH at *
              clear hhd
              go_wp2_with fail
              refine (RH.out _).mono ?_; rintro r w10 ⟨rfl, hb10⟩
              have M10 := M.low hb10
              clear M hb10 RH c0 c1 c2 c3 c4 c5 c6 c7 c8 c9 c10
              have hsc := PM.sc hlk ho M10
              have hgl : g < w10.heap.size := by obtain ⟨g', hg', _, _, h, _⟩ := M10.at hlk ho; obtain rfl : g = g' := (by simpa using hg'); exact h
              go_wp2_with fail
              go_cut [21, 22] (fun a b wx => ∃ c, a = .pointer (some ⟨c, 0, none⟩) ∧ b = .int .i64 fI ∧ PM w wx (w.heap.size + 1) w.heap.size N T7 C6 (some ⟨g, 0, none⟩) cap l ∧ RowE wx c fE)
              case first =>
                go_region_held3 (fun w1 => w1.cell? ⟨g, o, none⟩ = some (.int .i64 (nthE l k).size) ∧ w1.cell? ⟨g, o + 1, none⟩ = some (.int .i64 (nthE l k).ctx) ∧ w1.cell? ⟨g, o + 2, none⟩ = some (.int .u64 (nthE l k).va) ∧ w1.cell? ⟨g, o + 3, none⟩ = some (.int .u64 (nthE l k).pa) ∧ w1.cell? ⟨g, o + 4, none⟩ = some (.bool (nthE l k).att.write) ∧ w1.cell? ⟨g, o + 5, none⟩ = some (.bool (nthE l k).att.priv) ∧ w1.cell? ⟨g, o + 6, none⟩ = some (.bool (nthE l k).att.exec) ∧ w1.cell? ⟨g, o + 7, none⟩ = some (.bool (nthE l k).att.lock) ∧ w1.cell? ⟨g, o + 8, none⟩ = some (.bool (nthE l k).att.global) ∧ w1.cell? ⟨g, o + 9, none⟩ = some (.bool (nthE l k).att.quiet) ∧ w1.cell? ⟨g, o + 10, none⟩ = some (.bool (nthE l k).valid)) ((refine PM.sc (w := w) (sb := w.heap.size + 1) (bb := w.heap.size) (N := N) (T := T7) (C := C6) (cap := cap) hlk ho ?_; (repeat (first | (with_reducible assumption) | (with_reducible refine PM.drew ?_) | (with_reducible refine PM.drewN ?_ _) | (with_reducible refine PM.alloc ?_ _) | (with_reducible refine PM.setNew ?_ ?_) | (with_reducible refine PM.low ?_ (by assumption))))))
                  ((go_at_call 23; (refine (CF.out _ (PM.tlb (w := w) (C := C6) (ao := some ⟨g, 0, none⟩) (cap := cap) (l := l) (by (repeat (first | (with_reducible assumption) | (with_reducible refine PM.drew ?_) | (with_reducible refine PM.drewN ?_ _) | (with_reducible refine PM.alloc ?_ _) | (with_reducible refine PM.setNew ?_ ?_) | (with_reducible refine PM.low ?_ (by assumption))))))).mono ?_); rintro r w' ⟨rfl, hb⟩; obtain ⟨hc, hf, hs1, hs2⟩ := bfacts hb; (try have hv : w10.heap.size < w'.heap.size := by (have hsz := hb.size; (try simp only [hds] at hsz); (try simp only [World.size_alloc] at hsz); omega))))
                all_goals
                  go_wp2_with fail
                  go_meet
                  refine ⟨_, rfl, rfl, ?_, ?_⟩
                  · (repeat (first | (with_reducible assumption) | (with_reducible refine PM.drew ?_) | (with_reducible refine PM.drewN ?_ _) | (with_reducible refine PM.alloc ?_ _) | (with_reducible refine PM.setNew ?_ ?_) | (with_reducible refine PM.low ?_ (by assumption))))
                  · (first | (with_reducible exact RowE.new _ _) | (refine RowE.setAll (z := Ent.zero) ?_; (repeat (first | (with_reducible refine RowE.call ?_ (by assumption)) | (with_reducible refine RowE.drew ?_) | exact RowE.new _ Ent.zero))))
              case rest =>
                obtain ⟨c, rfl, rfl, M11, R11⟩ := hcut
                clear M10 hsc hgl CF
                cases HH
                · have hnx2 := Lib.hid (show cntL l (fun e => e.hitsB a2 a3) (k + 1) = q by rw [hnx.out]; rfl)
                  obtain ⟨hf1, hf2⟩ := hfd.out.2 rfl
                  subst hf1
                  clear hnx hfd
                  obtain ⟨c0, c1, c2, c3, c4, c5, c6, c7, c8, c9, c10⟩ := PM.sc hlk ho M11
                  obtain ⟨s0, s1, s2, s3, s4, s5, s6, s7, s8, s9, s10⟩ := R11.cells
                  have hdc : decide (fI < 0) = false := by simpa using hf2
                  generalize nthE l k = ej at *
                  go_wp2_with fail
                  go_quiet (fail)
                  go_wp2_with fail
                  go_roundw
                  case rel => first | exact ⟨k + 1, by omega, by go_num, by rw [hnx2.out], M11.drewN _⟩ | ((repeat apply Exists.intro); exact ⟨⟨k + 1, by omega, by go_num, by rw [hnx2.out], M11.drewN _⟩, rfl⟩)
                  case measure => simp [intOf]; omega
                · have hnx2 := Lib.hid (show cntL l (fun e => e.hitsB a2 a3) (k + 1) = q + 1 by rw [hnx.out]; rfl)
                  have hf1 := hfd.out.1 rfl
                  subst hf1
                  clear hnx hfd
                  go_wp2_with fail
                  go_quiet (fail)
                  go_wp2_with fail
                  go_roundw
                  case rel => first | exact ⟨k + 1, by omega, by go_num, by rw [hnx2.out]; go_num, M11.drewN _⟩ | ((repeat apply Exists.intro); exact ⟨⟨k + 1, by omega, by go_num, by rw [hnx2.out]; go_num, M11.drewN _⟩, rfl⟩)
                  case measure => simp [intOf]; omega
            · obtain rfl : k = l.length := by omega
              have hz := hcnt.out
              have hz1 : (z : Int) ≤ 1 := by omega
              have LI1 := Lib.hid (fun W hW => list_any (sb := w.heap.size + 1) (bb := w.heap.size) (n := N) (T := T7) W hW)
              rw [hz] at hcl ⊢
              have hsub : wrap64 ((l.length : Int) - (z : Int)) = ((vals T7 N).length : Int) := by unfold wrap64; omega
              have hsub2 : (l.length : Int) - (z : Int) = ((vals T7 N).length : Int) := by omega
              clear hz hcnt hlf hlw hdr hone
              go_wp2_with fail
              refine (LI1.out _ M.tlb).mono ?_; rintro r w12 ⟨v12, rfl, hl12, hb12⟩
              obtain ⟨ao2, cap2, rfl⟩ := own_shape hl12
              have M12 := M.low hb12
              clear M hl12 hb12 LI1
              go_wp2_with fail
              refine (HLV.out _).mono ?_; rintro r w13 ⟨rfl, hb13⟩
              go_wp2_with fail
              go_ret
              exact ⟨rfl, (M12.low hb13).bel⟩

/-! ### The row -/
set_option maxRecDepth 100000 in
theorem lifted (os : Os) (started : os.Started) (H : Type) (enc : TypeId × Value → H) :
    ReturnsInHanded {} Try.checked os 8 .any (Rows.tlbDemapsSpec.pre6 enc Try.prog Try.f8 Rows.tlbDemapsRow.domain false) (Rows.tlbDemapsSpec.post enc Try.prog Try.f8 false true false false) := by
  refine returnsInHanded_of_change (C := Try.checked) own started (by kernel_rfl) Try.func8
    (ChangeSpec.witness6 (enc := enc) (C := Try.checked) false ⟨#[], #[.int .i64 0, .slice none 0 0, .int .u64 0, .int .i64 0], []⟩ 8 (by kernel_rfl) (by kernel_rfl) (by kernel_rfl) (by kernel_rfl)) ?_
  intro W base args ds gs before hval0 hW hcnd _
  have hval : ∀ (j : Nat) t v, Try.f8.params[j]? = some t → args[j]? = some v → Value.okWide Try.prog W .any base t v := hval0
  have hW' := hW
  obtain ⟨p, q, hA0, hV, rfl, hfz, hnd⟩ := hW
  have hA : DataW.TrodAll enc Try.prog W 0 (fun _ => true) true Try.f8.params.toList args.toList ds p := hA0
  rw [Try.params8] at hA hval
  obtain ⟨v0, vs0, d0, ds0, p0, q0, hargs, rfl, rfl, h0, r0⟩ := trodAll_cons hA
  obtain ⟨v1, vs1, d1, ds1, p1, q1, rfl, rfl, rfl, h1, r1⟩ := trodAll_cons r0
  obtain ⟨v2, vs2, d2, ds2, p2, q2, rfl, rfl, rfl, h2, r2⟩ := trodAll_cons r1
  obtain ⟨v3, vs3, d3, ds3, p3, q3, rfl, rfl, rfl, h3, r3⟩ := trodAll_cons r2
  obtain ⟨rfl, rfl, rfl⟩ := trodAll_nil r3
  obtain rfl : args = #[v0, v1, v2, v3] := by cases args; simp_all
  obtain ⟨rfl, rfl⟩ := trodVars_none hV
  obtain ⟨a0, rfl, rfl, rfl, w0⟩ := open_int Try.underlying3 (hval 0 3 v0 rfl rfl) h0
  obtain ⟨s1, len1, cap1, rfl⟩ := okWide_slice Try.underlying22 (hval 1 22 v1 rfl rfl)
  have k1 := h1
  have lt1 : ∀ x ∈ p1, x.block < W.heap.size := by obtain ⟨m, hm⟩ := k1; exact DataW.trod_lt m _ _ _ hm
  have w1 : IsDeeds W s1 len1 cap1 := by
    obtain ⟨fuel, hf⟩ := h1
    exact open_deeds hf
  obtain ⟨a2, rfl, rfl, rfl, w2⟩ := open_int Try.underlying29 (hval 2 29 v2 rfl rfl) h2
  obtain ⟨a3, rfl, rfl, rfl, w3⟩ := open_int Try.underlying3 (hval 3 3 v3 rfl rfl) h3
  clear hA0 hval0
  simp only [List.append_nil] at hW'
  refine (walk W a0 w0 s1 len1 cap1 w1 a2 w2 a3 w3).mono fun e W' ⟨he, hg⟩ => ?_
  subst he
  exact ⟨_, rfl, _, _, _, [], _, [], hW', trodAll_mk1 (shut_bool Try.underlying4 _), (trodAll_cons_mk (shut_int Try.underlying3 w0) (trodAll_cons_mk (Below.trod laidOut (by kernel_rfl) (of_decide_eq_true (by kernel_rfl)) k1 hg lt1) (trodAll_cons_mk (shut_int Try.underlying29 w2) (trodAll_cons_mk (shut_int Try.underlying3 w3) trodAll_mk0)))), rfl, hg.frame _, fun h => by cases h⟩

theorem over : Rows.tlbDemapsRow.holds Try.pinned (OpenSpec.ofChange Rows.tlbDemapsSpec) :=
  OpenClaim.holds_of_wide 8 Try.f8 rfl rfl rfl rfl rfl rfl rfl ⟨rfl, rfl, rfl, rfl, rfl⟩ rfl rfl rfl rfl rfl (by kernel_rfl) Try.func8 (by kernel_rfl)
    (of_decide_eq_true (by kernel_rfl)) (by unfold Func.isWrapper; first | (rw [if_pos (by decide +kernel)]; kernel_rfl) | (rw [if_neg (by decide +kernel)]; exact ⟨rfl, rfl⟩))
    (fun os started H enc _ => lifted os started H enc)

theorem proved : Rows.TlbDemapsSaid :=
  over
#print axioms proved
end Go.Proofs.Ytbhpljjogmagoaa.tlbDemaps
