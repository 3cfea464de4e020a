/-
  What it means that a world holds registers: the struct's one cell, the map of its words, and the table of what registers are like. Conditions: none.
-/
import Derived.Test.YtohcmijgakijfaaDoorBits
import Derived.Test.YtohcmijgakijfaaDoorRMath
import Derived.Maps.OwnOps
import Derived.Maps.OwnSet
import Derived.Maps.Ext
import Derived.DeepKeys4
import Derived.RegionTactic
import Derived.ChangeAlike
namespace Go.Proofs.YtohcmijgakijfaaDoor.Rg
open Go.ChangeShapes Go.WideShapes Go.ChangeAt Go.RowKit Go.Maps
open Fld
set_option maxHeartbeats 400000

theorem laidOut : laidOutB Tryd.prog = true := by kernel_rfl
theorem wideK : (match Tryd.prog.underlying 66 with | some (.array _ _) | some (.struct _) => true | _ => false) = true := by kernel_rfl
theorem lawK : Keyed Tryd.prog 66 := Keyed.of_law (deep_law_laid laidOut (m := 2) (by omega) (of_decide_eq_true (by kernel_rfl)) (by kernel_rfl) wideK)
theorem zeroU (w : World) : (zeroValue 25).run Tryd.prog w = .ok (.int .u64 0) w := by kernel_rfl
def keyD (a p : Int) : Lit := .string (keyBytes [.int .i64 a, .int .u64 p])
abbrev elt (k : Int) : DataW Unit := .lit (.int .u64 k)
theorem keyOf_two {a p : Int} (ha : (Lit.int .i64 a).wf = true) (hp : (Lit.int .u64 p).wf = true) : keyOf Tryd.prog 66 (.agg #[.int .i64 a, .int .u64 p]) = some (keyD a p) := by
  have h1 : Tryd.prog.keyType 66 = true := by kernel_rfl
  have c1 : Tryd.prog.cellsOf 66 = 2 := by kernel_rfl
  have c2 : Tryd.prog.cellsOf 3 = 1 := by kernel_rfl
  have c3 : Tryd.prog.cellsOf 25 = 1 := by kernel_rfl
  obtain ⟨m, hm⟩ : ∃ m, Tryd.prog.types.size = m + 1 := ⟨Tryd.prog.types.size - 1, by kernel_rfl⟩
  unfold keyOf
  simp only [Tryd.underlying66]
  rw [if_pos (by simp [h1, Value.formed, Tryd.underlying66, c1]), hm]
  unfold Program.keyLits
  simp only [Tryd.underlying66, Value.cells]
  rw [if_pos (by rw [c1]; exact ⟨rfl, by kernel_rfl⟩)]
  simp [c2, c3, Program.keyLits, Tryd.underlying3, Tryd.underlying25, ha, hp, keyD]
theorem wfI {a : Int} (h0 : -9223372036854775808 ≤ a) (h1 : a ≤ 9223372036854775807) : (Lit.int .i64 a).wf = true := by
  simp only [Lit.wf, IntKind.min, IntKind.max, Bool.and_eq_true, decide_eq_true_eq, show IntKind.i64.signed = true from rfl, show IntKind.i64.bits = 64 from rfl, if_true]
  exact ⟨by omega, by omega⟩
theorem wfU {a : Int} (h : U a) : (Lit.int .u64 a).wf = true := by
  have h1 := h.1; have h2 := h.2
  simp only [Lit.wf, IntKind.min, IntKind.max, Bool.and_eq_true, decide_eq_true_eq, show IntKind.u64.signed = false from rfl, show IntKind.u64.bits = 64 from rfl, Bool.false_eq_true, if_false]
  exact ⟨by omega, by omega⟩
theorem keyD_inj {a p a' p' : Int} (ha : (Lit.int .i64 a).wf = true) (hp : (Lit.int .u64 p).wf = true) (ha' : (Lit.int .i64 a').wf = true) (hp' : (Lit.int .u64 p').wf = true) (h : keyD a p = keyD a' p') : a = a' ∧ p = p' := by
  have := lawK.inj (keyOf_two ha hp) (h ▸ keyOf_two ha' hp')
  simpa using this
theorem keyLit {a p : Int} : WideAt.IsKeyLit (keyD a p) := trivial
/-- The nine keys. -/
def nine : List (Int × Int) := [(80, 24), (80, 40), (80, 48), (88, 8), (88, 16), (88, 24), (88, 32), (88, 40), (88, 48)]
theorem nine_wf {a p : Int} (h : nineB a p = true) : (Lit.int .i64 a).wf = true ∧ (Lit.int .u64 p).wf = true ∧ (a, p) ∈ nine := by
  simp only [nineB, decide_eq_true_eq] at h
  rcases h with ⟨rfl, rfl | rfl | rfl⟩ | ⟨rfl, rfl | rfl | rfl | rfl | rfl | rfl⟩ <;> exact ⟨by decide, by decide, by decide⟩

/-- The map D has the words of R. -/
structure MapIs (D : DataW Unit) (R : Reg) : Prop where
  at_ : ∀ a p, (Lit.int .i64 a).wf = true → (Lit.int .u64 p).wf = true → D.atKey (keyD a p) (elt 0) = elt (rawV R a p)
  has_ : ∀ kl, Maps.has D kl = true → ∃ q ∈ nine, kl = keyD q.1 q.2
theorem MapIs.empty : MapIs (.map []) Reg.zero where
  at_ a p _ _ := by
    have : rawV Reg.zero a p = 0 := by unfold rawV Reg.zero; repeat' split
                                       all_goals rfl
    rw [this]; rfl
  has_ kl h := by cases h
theorem MapIs.put {D : DataW Unit} {R : Reg} (h : MapIs D R) (hm : IsMap D) {a p v : Int} (hn : nineB a p = true) : MapIs (D.put (keyD a p) (elt v)) (setR R a p v) where
  at_ a' p' ha' hp' := by
    obtain ⟨ha, hp, _⟩ := nine_wf hn
    rw [rawV_set R a p v hn]
    by_cases e : a' = a ∧ p' = p
    · obtain ⟨rfl, rfl⟩ := e
      rw [if_pos ⟨rfl, rfl⟩]
      exact atKey_put_same hm keyLit _ _
    · rw [if_neg e, atKey_put_other (fun e2 => e (by have := keyD_inj ha' hp' ha hp e2; exact this))]
      exact h.at_ a' p' ha' hp'
  has_ kl hkl := by
    by_cases e : kl = keyD a p
    · exact ⟨(a, p), (nine_wf hn).2.2, e⟩
    · rw [has_put_other e] at hkl
      exact h.has_ kl hkl

theorem nodup_sub {α : Type} [DecidableEq α] : ∀ (l m : List α), l.Nodup → (∀ x ∈ l, x ∈ m) → l.length ≤ m.length
  | [], _, _, _ => Nat.zero_le _
  | x :: l, m, hn, h => by
    obtain ⟨h1, h2⟩ := List.nodup_cons.1 hn
    have := nodup_sub l (m.erase x) h2 (fun y hy => (List.mem_erase_of_ne (fun e => h1 (by rw [← e]; exact hy))).2 (h y (List.mem_cons_of_mem _ hy)))
    rw [List.length_erase_of_mem (h x List.mem_cons_self)] at this
    have := List.length_pos_of_mem (h x List.mem_cons_self)
    simp; omega
theorem MapIs.size_le {D : DataW Unit} {R : Reg} (h : MapIs D R) (ht : Canon D) : Maps.size D ≤ 9 := by
  classical
  obtain ⟨es, rfl, hr, hl⟩ := ht
  have hp := apart_of_rising hr
  have h1 := nodup_sub (es.map (·.1)) (nine.map (fun q => keyD q.1 q.2)) (List.pairwise_map.2 hp) (fun x hx => by
    obtain ⟨q, hq, rfl⟩ := List.mem_map.1 hx
    obtain ⟨n, hn, e⟩ := h.has_ q.1 (List.any_eq_true.2 ⟨q, hq, WideAt.sameKey_self (hl q hq)⟩)
    exact List.mem_map.2 ⟨n, hn, e.symm⟩)
  simpa [nine, Maps.size] using h1

abbrev Owns (w : World) (b n : Nat) (D : DataW Unit) : Prop := w.ownsMap Tryd.prog 66 (plainElem Tryd.prog 25) b n D
theorem owns_size {w : World} {b n : Nat} {D : DataW Unit} (h : Owns w b n D) : Owns w b (Maps.size D) D := by
  obtain ⟨es, clock, hb, F, _, rfl⟩ := h
  exact ⟨es, clock, hb, F, by simp [Maps.size, length_sorted], rfl⟩
/-- At block b of w there is a map of R's words. -/
def WordsAt (w : World) (b : Nat) (R : Reg) : Prop := ∃ D, Owns w b (Maps.size D) D ∧ MapIs D R
/-- The table of what registers are like stands where it was laid. -/
def tabL : List Value := [.int .u64 0, .int .u64 0, .bool true, .int .u64 8, .int .u64 8191, .bool false, .int .u64 16, .int .u64 8191, .bool false, .int .u64 24, .int .u64 16728063, .bool true, .int .u64 32, .int .u64 0, .bool false, .int .u64 40, .int .u64 18446744073709547527, .bool true, .int .u64 48, .int .u64 18446744073709551615, .bool true]
def Tab (w : World) : Prop := 0 < w.heap.size ∧ ∀ i, i < 21 → w.cell? ⟨0, i, none⟩ = some (tabL.getD i (.bool false))
/-- At block sb of w there are registers; their map is block bm. -/
structure RegsAt (w : World) (sb bm : Nat) (R : Reg) : Prop where
  row : w.heap[sb]? = some (.cells #[.map (some bm)] 53 (0, 0))
  words : WordsAt w bm R
  wf : R.Wf
  tab : Tab w
  apart : 0 ≠ sb ∧ 0 ≠ bm
/-- Of what was in w all stays but block bm. -/
structure Turn (w w' : World) (bm : Nat) : Prop where
  os : w'.os = w.os
  tape : w'.tape = w.tape
  output : w'.output = w.output
  size : w.heap.size ≤ w'.heap.size
  block : ∀ k, k < w.heap.size → k ≠ bm → w'.heap[k]? = w.heap[k]?
theorem Tab.same {w w' : World} (h : Tab w) (hs : w.heap.size ≤ w'.heap.size) (hb : w'.heap[0]? = w.heap[0]?) : Tab w' :=
  ⟨Nat.lt_of_lt_of_le h.1 hs, fun i hi => (World.cell?_of_block hb).trans (h.2 i hi)⟩
theorem WordsAt.lt {w : World} {b : Nat} {R : Reg} (h : WordsAt w b R) : b < w.heap.size := by obtain ⟨D, h, _⟩ := h; exact h.lt
theorem WordsAt.same {w w' : World} {b : Nat} {R : Reg} (h : WordsAt w b R) (hb : w'.heap[b]? = w.heap[b]?) : WordsAt w' b R := by
  obtain ⟨D, ⟨es, clock, h1, h2⟩, h3⟩ := h
  exact ⟨D, ⟨es, clock, hb.trans h1, h2⟩, h3⟩
theorem RegsAt.lt {w : World} {sb bm : Nat} {R : Reg} (h : RegsAt w sb bm R) : sb < w.heap.size ∧ bm < w.heap.size :=
  ⟨(Array.getElem?_eq_some_iff.1 h.row).1, h.words.lt⟩
theorem RegsAt.ne {w : World} {sb bm : Nat} {R : Reg} (h : RegsAt w sb bm R) : sb ≠ bm := by
  obtain ⟨D, ⟨es, clock, h2, _⟩, _⟩ := h.words
  have h1 := h.row
  rintro rfl; rw [h1] at h2; cases h2
theorem RegsAt.same {w w' : World} {sb bm : Nat} {R : Reg} (h : RegsAt w sb bm R) (hs : w.heap.size ≤ w'.heap.size) (hk : ∀ k, k = 0 ∨ k = sb ∨ k = bm → w'.heap[k]? = w.heap[k]?) : RegsAt w' sb bm R :=
  ⟨(hk _ (.inr (.inl rfl))).trans h.row, h.words.same (hk _ (.inr (.inr rfl))), h.wf, h.tab.same hs (hk _ (.inl rfl)), h.apart⟩
theorem RegsAt.below {w w' : World} {sb bm n : Nat} {R : Reg} (h : RegsAt w sb bm R) (hb : Below n w w') (hn : w.heap.size ≤ n) : RegsAt w' sb bm R :=
  h.same hb.size (fun k hk => hb.block k (by have := h.lt; have := h.tab.1; rcases hk with rfl | rfl | rfl <;> omega))
theorem RegsAt.drewN {w : World} {sb bm : Nat} {R : Reg} (h : RegsAt w sb bm R) (n : Nat) : RegsAt (w.drewN n) sb bm R := ⟨h.row, h.words, h.wf, h.tab, h.apart⟩
theorem RegsAt.drew {w : World} {sb bm : Nat} {R : Reg} (h : RegsAt w sb bm R) : RegsAt w.drew sb bm R := ⟨h.row, h.words, h.wf, h.tab, h.apart⟩
theorem RegsAt.alloc {w : World} {sb bm : Nat} {R : Reg} (h : RegsAt w sb bm R) (o : Obj) : RegsAt (w.alloc o) sb bm R :=
  h.below ((Below.refl _ _).alloc (Nat.le_refl _) o) (Nat.le_refl _)
theorem RegsAt.setNew {w : World} {sb bm : Nat} {R : Reg} (h : RegsAt w sb bm R) {a : Addr} (h1 : a.block ≠ sb) (h2 : a.block ≠ bm) (h3 : a.block ≠ 0) (u : Value) : RegsAt (w.setCell a u) sb bm R :=
  h.same (by simp [World.setCell]) (fun k hk => Below.heap_setCell _ _ _ _ (by rcases hk with rfl | rfl | rfl <;> (intro e; simp_all)))
theorem Turn.refl (w : World) (bm : Nat) : Turn w w bm := ⟨rfl, rfl, rfl, Nat.le_refl _, fun _ _ _ => rfl⟩
theorem Turn.trans {a b c : World} {bm : Nat} (h : Turn a b bm) (k : Turn b c bm) : Turn a c bm :=
  ⟨k.os.trans h.os, k.tape.trans h.tape, k.output.trans h.output, Nat.le_trans h.size k.size, fun i hi h1 => (k.block i (Nat.lt_of_lt_of_le hi h.size) h1).trans (h.block i hi h1)⟩
theorem Turn.below {a b c : World} {bm : Nat} (h : Turn a b bm) (k : Below b.heap.size b c) : Turn a c bm :=
  ⟨k.os.trans h.os, k.tape.trans h.tape, k.output.trans h.output, Nat.le_trans h.size k.size, fun i hi h1 => (k.block i (Nat.lt_of_lt_of_le hi h.size)).trans (h.block i hi h1)⟩
theorem Turn.grown {a b c : World} {bm : Nat} (h : Turn a b bm) (k : b.grownBy c (some bm)) : Turn a c bm :=
  ⟨k.os.trans h.os, k.tape.trans h.tape, k.output.trans h.output, Nat.le_trans h.size k.size, fun i hi h1 => (k.block i (Nat.lt_of_lt_of_le hi h.size) (fun e => h1 (Option.some.inj e))).trans (h.block i hi h1)⟩
theorem Turn.drew {a b : World} {bm : Nat} (h : Turn a b bm) : Turn a b.drew bm := ⟨h.os, h.tape, h.output, h.size, h.block⟩
theorem Turn.drewN {a b : World} {bm : Nat} (h : Turn a b bm) (n : Nat) : Turn a (b.drewN n) bm := ⟨h.os, h.tape, h.output, h.size, h.block⟩
theorem Turn.alloc {a b : World} {bm : Nat} (h : Turn a b bm) (o : Obj) : Turn a (b.alloc o) bm :=
  ⟨h.os, h.tape, h.output, by have := h.size; simp; omega, fun i hi h1 => (Below.heap_alloc _ _ _ (Nat.lt_of_lt_of_le hi h.size)).trans (h.block i hi h1)⟩
theorem Turn.setNew {a b : World} {bm : Nat} (h : Turn a b bm) {p : Addr} (hp : a.heap.size ≤ p.block) (u : Value) : Turn a (b.setCell p u) bm :=
  ⟨h.os, h.tape, h.output, by simpa [World.setCell] using h.size, fun i hi h1 => (Below.heap_setCell _ _ _ _ (by omega)).trans (h.block i hi h1)⟩
/-- What a call does to registers. -/
def RegsTo (w w' : World) (sb bm : Nat) (R : Reg) : Prop := RegsAt w' sb bm R ∧ Turn w w' bm

/-- A look-up. -/
theorem RegsAt.look {w : World} {sb bm : Nat} {R : Reg} (h : RegsAt w sb bm R) {a p : Int} (ha : (Lit.int .i64 a).wf = true) (hp : (Lit.int .u64 p).wf = true) :
    (Instr.lookup 51 (.map (some bm)) (.agg #[.int .i64 a, .int .u64 p]) false).run Tryd.prog w = .ok (.int .u64 (rawV R a p)) w := by
  obtain ⟨D, hown, hD⟩ := h.words
  obtain ⟨c, hrun, hat, _⟩ := hown.lookup_int lawK Tryd.underlying51 Tryd.underlying25 (zeroU w) (keyOf_two ha hp)
  have e2 : elt (rawV R a p) = .lit (.int .u64 c) := (hD.at_ a p ha hp).symm.trans hat
  injection e2 with e2; injection e2 with _ e2
  rw [hrun, ← e2]
/-- A store into the map. -/
theorem RegsAt.store {w : World} {sb bm : Nat} {R : Reg} (h : RegsAt w sb bm R) {a p v : Int} (hn : nineB a p = true) (hv : U v) :
    ∃ w', (Instr.mapUpdate 51 (.map (some bm)) (.agg #[.int .i64 a, .int .u64 p]) (.int .u64 v)).run Tryd.prog w = .ok () w' ∧ RegsAt w' sb bm (setR R a p v) ∧ w.grownBy w' (some bm) := by
  obtain ⟨D, hown, hD⟩ := h.words
  obtain ⟨ha, hp, _⟩ := nine_wf hn
  have hsz := hD.size_le (hown.canon lawK)
  obtain ⟨w', hrun, ho, hg⟩ := hown.update lawK Tryd.underlying51 (Nat.lt_of_le_of_lt hsz (by decide)) (keyOf_two ha hp) (plainElem_int (H := Unit) Tryd.underlying25 (wfU hv))
  refine ⟨w', hrun, ⟨(hg.block sb h.lt.1 (fun e => h.ne (Option.some.inj e))).trans h.row, ⟨_, owns_size ho, hD.put hown.isMap hn⟩, setR_wf R h.wf a p v hv, h.tab.same hg.size (hg.block _ h.tab.1 (fun e => h.apart.2 (Option.some.inj e))), h.apart⟩, hg⟩
theorem RegsAt.cells {w : World} {sb bm : Nat} {R : Reg} (h : RegsAt w sb bm R) : w.cell? ⟨sb, 0, none⟩ = some (.map (some bm)) ∧ w.frozen? ⟨sb, 0, none⟩ = false := by
  have h1 := h.row
  exact ⟨by simp [World.cell?, h1], by simp [World.frozen?, h1]⟩
end Go.Proofs.YtohcmijgakijfaaDoor.Rg
