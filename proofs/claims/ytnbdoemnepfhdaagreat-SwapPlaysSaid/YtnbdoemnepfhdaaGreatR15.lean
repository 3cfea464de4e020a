/-
  Contracts and plain facts: MState, MCall, MNew, MCopy. Conditions: each says its own.
-/
import Derived.Test.YtnbdoemnepfhdaaGreatR0
import Derived.Test.YtnbdoemnepfhdaaGreatRows
import Derived.WalkKit
import Derived.ProofKit
import Derived.OpenShut
import Derived.WalkLawsBesides
import Derived.Deep.QuietTactic
import Derived.BigQuiet
import Derived.Lib.Hide
import Derived.Maps.OwnOps
import Derived.Maps.OwnSet
import Derived.Maps.RangeWalk
import Derived.Maps.Ext
namespace Go.Proofs.YtnbdoemnepfhdaaGreat.Mem
open Go.ChangeShapes Go.WideShapes Go.ChangeAt Go.RowKit Go.Maps
set_option maxHeartbeats 400000

theorem lawU : Keyed Tryz.prog 26 := int_keyed Tryz.underlying26
theorem zeroU (w : World) : (zeroValue 26).run Tryz.prog w = .ok (.int .u64 0) w := by kernel_rfl
abbrev key (k : Nat) : Lit := .int .u64 (k : Int)
abbrev elt (k : Nat) : DataW Unit := .lit (.int .u64 (k : Int))

/-- The map D has just the words of g that are not 0. -/
structure MapIs (D : DataW Unit) (g : Nat → Nat) : Prop where
  at_ : ∀ k, k % 8 = 0 → D.atKey (key k) (elt 0) = elt (word g k)
  has_ : ∀ kl, Maps.has D kl = true → ∃ k : Nat, k % 8 = 0 ∧ kl = key k ∧ word g k ≠ 0
  nz : ∀ k, k % 8 = 0 → word g k ≠ 0 → Maps.has D (key k) = true

theorem key_inj {a b : Nat} (h : key a = key b) : a = b := by
  injection h with _ h; exact Int.ofNat.inj h
theorem key_ne {a b : Nat} (h : a ≠ b) : key a ≠ key b := fun e => h (key_inj e)

theorem keyLit {k : Nat} : WideAt.IsKeyLit (key k) := trivial

theorem MapIs.empty : MapIs (.map []) (fun _ => 0) where
  at_ k _ := by
    have : word (fun _ => 0) k = 0 := word_eq_zero (fun _ _ => rfl)
    rw [this]; rfl
  has_ kl h := by cases h
  nz k _ h := absurd (word_eq_zero (fun _ _ => rfl)) h

theorem MapIs.put {D : DataW Unit} {g : Nat → Nat} (h : MapIs D g) (hm : IsMap D) (hg : ∀ a, g a < 256) {k w : Nat} (hk : k % 8 = 0) (hw : w < 18446744073709551616) (hw0 : w ≠ 0) : MapIs (D.put (key k) (elt w)) (setW g k w) where
  at_ k' hk' := by
    by_cases e : k' = k
    · subst e; rw [word_setW_same hg _ hw]; exact atKey_put_same hm keyLit _ _
    · rw [word_setW_other hk hk' e]; rw [atKey_put_other (key_ne e)]; exact h.at_ k' hk'
  has_ kl hkl := by
    by_cases e : kl = key k
    · exact ⟨k, hk, e, by rw [word_setW_same hg _ hw]; exact hw0⟩
    · rw [has_put_other e] at hkl
      obtain ⟨k', a, b, c⟩ := h.has_ kl hkl
      exact ⟨k', a, b, by rw [word_setW_other hk a (fun e2 => e (by rw [b, e2]))]; exact c⟩
  nz k' hk' hn := by
    by_cases e : k' = k
    · subst e; exact has_put_same hm keyLit _
    · rw [word_setW_other hk hk' e] at hn; rw [has_put_other (key_ne e)]; exact h.nz k' hk' hn

theorem MapIs.del {D : DataW Unit} {g : Nat → Nat} (h : MapIs D g) (hg : ∀ a, g a < 256) {k : Nat} (hk : k % 8 = 0) : MapIs (D.del (key k)) (setW g k 0) where
  at_ k' hk' := by
    by_cases e : k' = k
    · subst e; rw [word_setW_same hg _ (by decide)]; exact atKey_del_same _
    · rw [word_setW_other hk hk' e]; rw [atKey_del_other (key_ne e)]; exact h.at_ k' hk'
  has_ kl hkl := by
    by_cases e : kl = key k
    · subst e; rw [has_del_same] at hkl; cases hkl
    · rw [has_del_other e] at hkl
      obtain ⟨k', a, b, c⟩ := h.has_ kl hkl
      exact ⟨k', a, b, by rw [word_setW_other hk a (fun e2 => e (by rw [b, e2]))]; exact c⟩
  nz k' hk' hn := by
    by_cases e : k' = k
    · subst e; rw [word_setW_same hg _ (by decide)] at hn; exact absurd rfl hn
    · rw [word_setW_other hk hk' e] at hn; rw [has_del_other (key_ne e)]; exact h.nz k' hk' hn

/-- The keys of a map, as numbers. -/
def keyNat : Lit → Nat
  | .int _ k => k.toNat
  | _ => 0
theorem keys_of {D : DataW Unit} {g : Nat → Nat} (h : MapIs D g) (ht : Canon D) : ∃ l : List Nat, l.Nodup ∧ l.length = Maps.size D ∧ (∀ k, k ∈ l ↔ k % 8 = 0 ∧ word g k ≠ 0) := by
  obtain ⟨es, rfl, hr, hl⟩ := ht
  have hp := apart_of_rising hr
  have hk : ∀ p ∈ es, ∃ k : Nat, k % 8 = 0 ∧ p.1 = key k ∧ word g k ≠ 0 := fun p hp' =>
    h.has_ p.1 (List.any_eq_true.2 ⟨p, hp', WideAt.sameKey_self (hl p hp')⟩)
  refine ⟨es.map (fun p => keyNat p.1), ?_, by simp [Maps.size], fun k => ?_⟩
  · refine List.pairwise_map.2 (hp.imp_of_mem ?_)
    intro a b ha hb hne e
    obtain ⟨x, _, ex, _⟩ := hk a ha
    obtain ⟨y, _, ey, _⟩ := hk b hb
    rw [ex, ey] at e hne
    simp [keyNat] at e
    exact hne (by rw [e])
  · constructor
    · intro hm
      obtain ⟨p, hp', rfl⟩ := List.mem_map.1 hm
      obtain ⟨x, h1, ex, h2⟩ := hk p hp'
      rw [ex]; simp [keyNat]; exact ⟨h1, h2⟩
    · rintro ⟨h1, h2⟩
      obtain ⟨p, hp', e⟩ := List.any_eq_true.1 (h.nz k h1 h2)
      have := WideAt.sameKey_eq e
      exact List.mem_map.2 ⟨p, hp', by rw [this]; simp [keyNat]⟩

/-- Bytes of a memory of size S. -/
structure Good (S : Nat) (g : Nat → Nat) : Prop where
  le : S ≤ 2199023255552
  lt : ∀ a, g a < 256
  out : ∀ a, S ≤ a → g a = 0
theorem Good.word_in {S : Nat} {g : Nat → Nat} (h : Good S g) {k : Nat} (hk : word g k ≠ 0) : k < S := by
  rcases Nat.lt_or_ge k S with h1 | h1
  · exact h1
  · exact absurd (word_eq_zero (fun j _ => h.out _ (by omega))) hk
theorem Good.few {S : Nat} {g : Nat → Nat} (h : Good S g) {l : List Nat} (hn : l.Nodup) (hl : ∀ k ∈ l, k % 8 = 0 ∧ word g k ≠ 0) : l.length ≤ 274877906944 := by
  have h1 := nodup_le 274877906944 (l.map (fun k => k / 8)) (List.pairwise_map.2 (List.Pairwise.imp_of_mem (R := fun a b => a ≠ b) (fun {a b} ha hb hne e => by
      have := (hl a ha).1; have := (hl b hb).1; exact hne (by omega)) hn)) (fun x hx => by
    obtain ⟨k, hk, rfl⟩ := List.mem_map.1 hx
    have := h.word_in (hl k hk).2; have := h.le; omega)
  simpa using h1
theorem Good.size_le {S : Nat} {g : Nat → Nat} (h : Good S g) {D : DataW Unit} (hD : MapIs D g) (hc : Canon D) : Maps.size D ≤ 274877906944 := by
  obtain ⟨l, h1, h2, h3⟩ := keys_of hD hc
  rw [← h2]; exact h.few h1 (fun k hk => (h3 k).1 hk)
/-- A map of at most n entries has at most as many as it reads as. -/
theorem owns_size {w : World} {b n : Nat} {D : DataW Unit} (h : w.ownsMap Tryz.prog 26 (plainElem Tryz.prog 26) b n D) : w.ownsMap Tryz.prog 26 (plainElem Tryz.prog 26) b (Maps.size D) D := by
  obtain ⟨es, clock, hb, F, _, rfl⟩ := h
  exact ⟨es, clock, hb, F, by simp [Maps.size, length_sorted], rfl⟩

/-- At block b of w there is a map of g's words. -/
def WordsAt (w : World) (b : Nat) (g : Nat → Nat) : Prop := ∃ D, w.ownsMap Tryz.prog 26 (plainElem Tryz.prog 26) b (Maps.size D) D ∧ MapIs D g
/-- At block sb of w there is a memory of size S with the bytes g; its map is block bm. -/
structure MemAt (w : World) (sb bm S : Nat) (g : Nat → Nat) : Prop where
  row : ∃ most : Nat, most ≤ 274877906944 ∧ w.heap[sb]? = some (.cells #[.int .u64 (S : Int), .map (some bm), .int .i64 (most : Int)] 98 (0, 0))
  words : WordsAt w bm g
  good : Good S g
/-- Of what was in w all stays but blocks sb and bm. -/
structure Turn (w w' : World) (sb bm : Nat) : Prop where
  os : w'.os = w.os
  tape : w'.tape = w.tape
  output : w'.output = w.output
  size : w.heap.size ≤ w'.heap.size
  block : ∀ k, k < w.heap.size → k ≠ sb → k ≠ bm → w'.heap[k]? = w.heap[k]?
/-- What a call does to a memory. -/
def MemTo (w w' : World) (sb bm S : Nat) (g : Nat → Nat) : Prop := ∃ bm', MemAt w' sb bm' S g ∧ (bm' = bm ∨ w.heap.size ≤ bm') ∧ Turn w w' sb bm

theorem WordsAt.lt {w : World} {b : Nat} {g : Nat → Nat} (h : WordsAt w b g) : b < w.heap.size := by obtain ⟨D, h, _⟩ := h; exact h.lt
theorem WordsAt.same {w w' : World} {b : Nat} {g : Nat → Nat} (h : WordsAt w b g) (hb : w'.heap[b]? = w.heap[b]?) : WordsAt w' b g := by
  obtain ⟨D, ⟨es, clock, h1, h2⟩, h3⟩ := h
  exact ⟨D, ⟨es, clock, hb.trans h1, h2⟩, h3⟩
theorem MemAt.ne {w : World} {sb bm S : Nat} {g : Nat → Nat} (h : MemAt w sb bm S g) : bm ≠ sb := by
  obtain ⟨m, _, h1⟩ := h.row
  obtain ⟨D, ⟨es, clock, h2, _⟩, _⟩ := h.words
  rintro rfl; rw [h1] at h2; cases h2
theorem MemAt.lt {w : World} {sb bm S : Nat} {g : Nat → Nat} (h : MemAt w sb bm S g) : sb < w.heap.size ∧ bm < w.heap.size := by
  obtain ⟨m, _, h1⟩ := h.row
  exact ⟨(Array.getElem?_eq_some_iff.1 h1).1, h.words.lt⟩
theorem MemAt.same {w w' : World} {sb bm S : Nat} {g : Nat → Nat} (h : MemAt w sb bm S g) (h1 : w'.heap[sb]? = w.heap[sb]?) (h2 : w'.heap[bm]? = w.heap[bm]?) : MemAt w' sb bm S g :=
  ⟨by rw [h1]; exact h.row, h.words.same h2, h.good⟩
theorem Turn.refl (w : World) (sb bm : Nat) : Turn w w sb bm := ⟨rfl, rfl, rfl, Nat.le_refl _, fun _ _ _ _ => rfl⟩
theorem Turn.trans {a b c : World} {sb bm bm' : Nat} (h : Turn a b sb bm) (k : Turn b c sb bm') (hb : bm' = bm ∨ a.heap.size ≤ bm') : Turn a c sb bm :=
  ⟨k.os.trans h.os, k.tape.trans h.tape, k.output.trans h.output, Nat.le_trans h.size k.size, fun i hi h1 h2 =>
    (k.block i (Nat.lt_of_lt_of_le hi h.size) h1 (by rcases hb with rfl | hb; exact h2; omega)).trans (h.block i hi h1 h2)⟩
theorem Turn.grown {a b c : World} {sb bm : Nat} {row : Option Nat} (h : Turn a b sb bm) (k : b.grownBy c row) (hr : ∀ j, row = some j → j = sb ∨ j = bm ∨ a.heap.size ≤ j) : Turn a c sb bm :=
  ⟨k.os.trans h.os, k.tape.trans h.tape, k.output.trans h.output, Nat.le_trans h.size k.size, fun i hi h1 h2 =>
    (k.block i (Nat.lt_of_lt_of_le hi h.size) (fun e => by have := hr i e.symm; omega)).trans (h.block i hi h1 h2)⟩
theorem Turn.below {a b c : World} {sb bm : Nat} (h : Turn a b sb bm) (k : Below b.heap.size b c) : Turn a c sb bm :=
  ⟨k.os.trans h.os, k.tape.trans h.tape, k.output.trans h.output, Nat.le_trans h.size k.size, fun i hi h1 h2 =>
    (k.block i (Nat.lt_of_lt_of_le hi h.size)).trans (h.block i hi h1 h2)⟩
theorem Turn.drew {a b : World} {sb bm : Nat} (h : Turn a b sb bm) : Turn a b.drew sb bm := ⟨h.os, h.tape, h.output, h.size, h.block⟩
theorem Turn.alloc {a b : World} {sb bm : Nat} (h : Turn a b sb bm) (o : Obj) : Turn a (b.alloc o) sb bm :=
  ⟨h.os, h.tape, h.output, by have := h.size; simp; omega, fun i hi h1 h2 => (Below.heap_alloc _ _ _ (Nat.lt_of_lt_of_le hi h.size)).trans (h.block i hi h1 h2)⟩
theorem Turn.setCell {a b : World} {sb bm : Nat} (h : Turn a b sb bm) (p : Addr) (hp : p.block = sb ∨ p.block = bm ∨ a.heap.size ≤ p.block) (u : Value) : Turn a (b.setCell p u) sb bm :=
  ⟨h.os, h.tape, h.output, by simpa [World.setCell] using h.size, fun i hi h1 h2 => (Below.heap_setCell _ _ _ _ (by omega)).trans (h.block i hi h1 h2)⟩
theorem MemAt.to {w : World} {sb bm S : Nat} {g : Nat → Nat} (h : MemAt w sb bm S g) : MemTo w w sb bm S g := ⟨bm, h, .inl rfl, Turn.refl _ _ _⟩
theorem MemAt.cells {w : World} {sb bm S : Nat} {g : Nat → Nat} (h : MemAt w sb bm S g) : ∃ most : Nat, most ≤ 274877906944 ∧ w.cell? ⟨sb, 0, none⟩ = some (.int .u64 (S : Int)) ∧ w.cell? ⟨sb, 1, none⟩ = some (.map (some bm)) ∧ w.cell? ⟨sb, 2, none⟩ = some (.int .i64 (most : Int)) ∧
    w.frozen? ⟨sb, 1, none⟩ = false ∧ w.frozen? ⟨sb, 2, none⟩ = false := by
  obtain ⟨m, hm, h1⟩ := h.row
  exact ⟨m, hm, by simp [World.cell?, h1], by simp [World.cell?, h1], by simp [World.cell?, h1], by simp [World.frozen?, h1], by simp [World.frozen?, h1]⟩
end Go.Proofs.YtnbdoemnepfhdaaGreat.Mem

namespace Go.Proofs.YtnbdoemnepfhdaaGreat.Mem
open Go.ChangeShapes Go.WideShapes Go.ChangeAt Go.RowKit Go.Maps
set_option maxHeartbeats 400000
/-- 255 at the addresses from f to l. -/
def inR (f l a : Nat) : Nat := if f ≤ a ∧ a ≤ l then 255 else 0
/-- The bits of the word at k whose bytes stand from f to l. -/
def maskW (f l k : Nat) : Nat := word (inR f l) k
def shrA (s : Nat) : Nat := 18446744073709551615 / 2 ^ min s 64
def shlA (s : Nat) : Nat := 18446744073709551615 * 2 ^ min s 64 % 18446744073709551616
theorem inR_lt (f l a : Nat) : inR f l a < 256 := by unfold inR; split <;> omega
theorem inR_testBit (f l a i : Nat) (hi : i < 8) : (inR f l a).testBit i = decide (f ≤ a ∧ a ≤ l) := by
  unfold inR
  by_cases h : f ≤ a ∧ a ≤ l
  · rw [if_pos h, show (255 : Nat) = 2 ^ 8 - 1 from rfl, Nat.testBit_two_pow_sub_one]; simp [hi, h]
  · rw [if_neg h]; simp [h]
theorem maskW_testBit (f l k i : Nat) : (maskW f l k).testBit i = (decide (i < 64) && decide (f ≤ k + (7 - i / 8) ∧ k + (7 - i / 8) ≤ l)) := by
  unfold maskW
  rw [word_testBit _ (inR_lt f l), inR_testBit _ _ _ _ (by omega)]
theorem shrA_testBit (s i : Nat) : (shrA s).testBit i = decide (i + min s 64 < 64) := by
  unfold shrA
  rw [Nat.testBit_div_two_pow, show (18446744073709551615 : Nat) = 2 ^ 64 - 1 from rfl, Nat.testBit_two_pow_sub_one]
theorem shlA_testBit (s i : Nat) : (shlA s).testBit i = (decide (i < 64) && decide (min s 64 ≤ i)) := by
  unfold shlA
  rw [show (18446744073709551616 : Nat) = 2 ^ 64 from rfl, Nat.testBit_mod_two_pow, Nat.mul_comm, Nat.testBit_two_pow_mul, show (18446744073709551615 : Nat) = 2 ^ 64 - 1 from rfl, Nat.testBit_two_pow_sub_one, Bool.eq_iff_iff]
  simp; omega
theorem shrA_lt (s : Nat) : shrA s < 18446744073709551616 := Nat.lt_of_le_of_lt (Nat.div_le_self _ _) (by decide)
theorem shlA_lt (s : Nat) : shlA s < 18446744073709551616 := Nat.mod_lt _ (by decide)
theorem all_testBit (i : Nat) : (18446744073709551615 : Nat).testBit i = decide (i < 64) := by
  rw [show (18446744073709551615 : Nat) = 2 ^ 64 - 1 from rfl, Nat.testBit_two_pow_sub_one]
theorem mask_lt (f l k : Nat) : maskW f l k < 18446744073709551616 := word_lt _ (inR_lt f l) k
theorem mask_r (f l k : Nat) (c1 : k < f) (c2 : k + 7 ≤ l) : 18446744073709551615 &&& shrA ((f - k) * 8) = maskW f l k := by
  apply Nat.eq_of_testBit_eq; intro i
  rw [maskW_testBit, Nat.testBit_and, all_testBit, shrA_testBit, Bool.eq_iff_iff]; simp; omega
theorem mask_l (f l k : Nat) (c1 : f ≤ k) (c2 : l < k + 7) : 18446744073709551615 &&& shlA ((k + 7 - l) * 8) = maskW f l k := by
  apply Nat.eq_of_testBit_eq; intro i
  rw [maskW_testBit, Nat.testBit_and, all_testBit, shlA_testBit, Bool.eq_iff_iff]; simp; omega
theorem mask_b (f l k : Nat) (c1 : k < f) (c2 : l < k + 7) : (18446744073709551615 &&& shrA ((f - k) * 8)) &&& shlA ((k + 7 - l) * 8) = maskW f l k := by
  apply Nat.eq_of_testBit_eq; intro i
  rw [maskW_testBit, Nat.testBit_and, Nat.testBit_and, all_testBit, shrA_testBit, shlA_testBit, Bool.eq_iff_iff]; simp; omega
theorem mask_n (f l k : Nat) (c1 : f ≤ k) (c2 : k + 7 ≤ l) : 18446744073709551615 = maskW f l k := by
  apply Nat.eq_of_testBit_eq; intro i
  rw [maskW_testBit, all_testBit, Bool.eq_iff_iff]; simp; omega
theorem shr_cast (s : Int) : (18446744073709551615 : Int) / 2 ^ min s.toNat 64 = ((shrA s.toNat : Nat) : Int) := by
  unfold shrA; generalize min s.toNat 64 = n; rw [Int.natCast_ediv, Int.natCast_pow]; rfl
theorem shl_cast (s : Int) : IntKind.u64.wrap ((18446744073709551615 : Int) * 2 ^ min s.toNat 64) = ((shlA s.toNat : Nat) : Int) := by
  unfold shlA; generalize min s.toNat 64 = n; rw [IntKind.wrap_u64, Int.natCast_emod, Int.natCast_mul, Int.natCast_pow]; rfl
theorem ret_int {k : IntKind} {a b : Int} (h : a = b) : Ending.returned (.int k a) = .returned (.int k b) := by rw [h]
theorem ret_bool {a b : Bool} (h : a = b) : Ending.returned (.bool a) = .returned (.bool b) := by rw [h]
theorem wordOf_any (a : Int) (h0 : 0 ≤ a) (h1 : a < 18446744073709551616) (w : World) :
    Calls Tryz.prog 115 #[.int .u64 a] w fun e w' => e = .returned (.int .u64 (a - a % 8)) ∧ w = w' := by
  go_enter Tryz.func115, Tryz.ntmps115
  go_wp2
  go_ret
  exact ⟨rfl, rfl⟩
theorem within_any (k f l : Int) (hk0 : 0 ≤ k) (hk1 : k < 4398046511104) (hf0 : 0 ≤ f) (hf1 : f < 4398046511104) (hl0 : 0 ≤ l) (hl1 : l < 4398046511104) (w : World) :
    Calls Tryz.prog 114 #[.int .u64 k, .int .u64 f, .int .u64 l] w fun e w' => e = .returned (.int .u64 (maskW f.toNat l.toNat k.toNat : Nat)) ∧ w = w' := by
  by_cases c1 : f > k
  · have s1 : 0 ≤ (f - k) * 8 := by omega
    have e1 : ((f - k) * 8).toNat = (f.toNat - k.toNat) * 8 := by omega
    have E1 := Lib.hid e1
    clear e1
    by_cases c2 : l < k + 8 - 1
    · have s2 : 0 ≤ (k + 8 - 1 - l) * 8 := by omega
      have E2 := Lib.hid (show ((k + 8 - 1 - l) * 8).toNat = (k.toNat + 7 - l.toNat) * 8 by omega)
      have M := Lib.hid (mask_b f.toNat l.toNat k.toNat (by omega) (by omega))
      go_enter Tryz.func114, Tryz.ntmps114
      go_wp2
      go_ret
      refine ⟨ret_int ?_, rfl⟩
      rw [shr_cast, shl_cast, E1.out, E2.out, ← M.out]
      exact (congrArg (fun x => bits BinOp.and IntKind.u64 x _) (bits_and_u64_nat 18446744073709551615 _ (by decide) (shrA_lt _))).trans (bits_and_u64_nat _ _ (Nat.lt_of_le_of_lt Nat.and_le_left (by decide)) (shlA_lt _))
    · have M := Lib.hid (mask_r f.toNat l.toNat k.toNat (by omega) (by omega))
      go_enter Tryz.func114, Tryz.ntmps114
      go_wp2
      go_ret
      refine ⟨ret_int ?_, rfl⟩
      rw [shr_cast, E1.out, ← M.out]
      exact bits_and_u64_nat 18446744073709551615 _ (by decide) (shrA_lt _)
  · by_cases c2 : l < k + 8 - 1
    · have s2 : 0 ≤ (k + 8 - 1 - l) * 8 := by omega
      have E2 := Lib.hid (show ((k + 8 - 1 - l) * 8).toNat = (k.toNat + 7 - l.toNat) * 8 by omega)
      have M := Lib.hid (mask_l f.toNat l.toNat k.toNat (by omega) (by omega))
      go_enter Tryz.func114, Tryz.ntmps114
      go_wp2
      go_ret
      refine ⟨ret_int ?_, rfl⟩
      rw [shl_cast, E2.out, ← M.out]
      exact bits_and_u64_nat 18446744073709551615 _ (by decide) (shlA_lt _)
    · have M := Lib.hid (mask_n f.toNat l.toNat k.toNat (by omega) (by omega))
      go_enter Tryz.func114, Tryz.ntmps114
      go_wp2
      go_ret
      exact ⟨ret_int (congrArg (fun n : Nat => (n : Int)) M.out), rfl⟩
end Go.Proofs.YtnbdoemnepfhdaaGreat.Mem

namespace Go.Proofs.YtnbdoemnepfhdaaGreat.Mem
open Go.ChangeShapes Go.WideShapes Go.ChangeAt Go.RowKit Go.Maps
set_option maxHeartbeats 400000
/-- The error of n bytes at an address that must be a multiple of st. -/
def mayI (S a st n : Int) : Int := if a % st ≠ 0 then 4 else if 0 < n ∧ (S ≤ a ∨ S - a < n) then 5 else 0
theorem may_any (sb : Nat) (S a st n : Int) (w : World) (hS0 : 0 ≤ S) (hS1 : S ≤ 2199023255552) (h0 : 0 ≤ a) (h1 : a < 18446744073709551616) (hst : 0 < st) (hst1 : st ≤ 16) (n0 : 0 ≤ n) (n1 : n < 18446744073709551616)
    (c0 : w.cell? ⟨sb, 0, none⟩ = some (.int .u64 S)) :
    Calls Tryz.prog 80 #[.pointer (some ⟨sb, 0, none⟩), .int .u64 a, .int .u64 st, .int .u64 n] w fun e w' => e = .returned (.int .i64 (mayI S a st n)) ∧ w = w' := by
  have m0 : 0 ≤ a % st := Int.emod_nonneg _ (by omega)
  have m1 : a % st < st := Int.emod_lt_of_pos _ hst
  by_cases c1 : a % st = 0
  · by_cases c2 : 0 < n
    · by_cases c3 : S ≤ a
      · have M := Lib.hid (show mayI S a st n = 5 by unfold mayI; rw [if_neg (by omega), if_pos (by omega)])
        go_enter Tryz.func80, Tryz.ntmps80
        go_wp2
        go_ret
        exact ⟨ret_int M.out.symm, rfl⟩
      · by_cases c4 : S - a < n
        · have M := Lib.hid (show mayI S a st n = 5 by unfold mayI; rw [if_neg (by omega), if_pos (by omega)])
          go_enter Tryz.func80, Tryz.ntmps80
          go_wp2
          go_ret
          exact ⟨ret_int M.out.symm, rfl⟩
        · have M := Lib.hid (show mayI S a st n = 0 by unfold mayI; rw [if_neg (by omega), if_neg (by omega)])
          go_enter Tryz.func80, Tryz.ntmps80
          go_wp2
          go_ret
          exact ⟨ret_int M.out.symm, rfl⟩
    · have M := Lib.hid (show mayI S a st n = 0 by unfold mayI; rw [if_neg (by omega), if_neg (by omega)])
      have c3 : n = 0 := by omega
      subst c3
      go_enter Tryz.func80, Tryz.ntmps80
      go_wp2
      go_ret
      exact ⟨ret_int M.out.symm, rfl⟩
  · have M := Lib.hid (show mayI S a st n = 4 by unfold mayI; rw [if_pos c1])
    go_enter Tryz.func80, Tryz.ntmps80
    go_wp2
    go_ret
    exact ⟨ret_int M.out.symm, rfl⟩
theorem new_mem (w : World) (n : Nat) (hn : n ≤ 2199023255552) : MemAt ((w.alloc (Obj.map #[] 0)).alloc (.cells #[.int .u64 (n : Int), .map (some w.heap.size), .int .i64 0] 98)) (w.heap.size + 1) w.heap.size n (fun _ => 0) where
  row := ⟨0, by omega, by
    have := heap_alloc_new (w.alloc (Obj.map #[] 0)) (.cells #[.int .u64 (n : Int), .map (some w.heap.size), .int .i64 0] 98)
    simpa using this⟩
  words := ⟨.map [], ((World.ownsMap_made _ _ _ _).alloc _).mono (by simp [Maps.size]), MapIs.empty⟩
  good := ⟨hn, fun _ => by decide, fun _ _ => rfl⟩
theorem new_any (s : Int) (h0 : 0 ≤ s) (h1 : s < 18446744073709551616) (w : World) :
    Calls Tryz.prog 21 #[.int .u64 s] w fun e w' => e = .returned (.pointer (some ⟨w.heap.size + 1, 0, none⟩)) ∧ MemAt w' (w.heap.size + 1) w.heap.size (min s 2199023255552).toNat (fun _ => 0) ∧ Below w.heap.size w w' := by
  have hmm := @run_makeMap Tryz.prog
  by_cases c : s ≤ 2199023255552
  · have M := new_mem w s.toNat (by omega)
    rw [Int.toNat_of_nonneg h0] at M
    have E := Lib.hid (show (min s 2199023255552).toNat = s.toNat by omega)
    go_enter Tryz.func21, Tryz.ntmps21
    go_wp2
    all_goals (try (exfalso; omega))
    go_ret
    exact ⟨rfl, by rw [E.out]; exact M, ((Below.refl _ _).alloc (Nat.le_refl _) _).alloc (by simp) _⟩
  · have M := new_mem w 2199023255552 (by omega)
    have E := Lib.hid (show (min s 2199023255552).toNat = 2199023255552 by omega)
    go_enter Tryz.func21, Tryz.ntmps21
    go_wp2
    all_goals (try (exfalso; omega))
    go_ret
    exact ⟨rfl, by rw [E.out]; exact M, ((Below.refl _ _).alloc (Nat.le_refl _) _).alloc (by simp) _⟩
end Go.Proofs.YtnbdoemnepfhdaaGreat.Mem

namespace Go.Proofs.YtnbdoemnepfhdaaGreat.Mem
open Go.ChangeShapes Go.WideShapes Go.ChangeAt Go.RowKit Go.Maps
set_option maxHeartbeats 400000
set_option maxRecDepth 100000 in
theorem mcopy_any (b d n : Nat) (D0 : DataW Unit) (w : World) (hown : w.ownsMap Tryz.prog 26 (plainElem Tryz.prog 26) b n D0) (hd : w.ownsMap Tryz.prog 26 (plainElem Tryz.prog 26) d 0 (.map [] : DataW Unit)) (hne : b ≠ d) (hmax : Maps.size D0 ≤ 274877906944) :
    Calls Tryz.prog 133 #[.map (some d), .map (some b)] w fun e w' => e = .returned (.tuple #[]) ∧ w'.ownsMap Tryz.prog 26 (plainElem Tryz.prog 26) d (Maps.size D0) D0 ∧ w.grownBy w' (some d) := by
  have hbl := hown.lt
  have hdl := hd.lt
  go_enter Tryz.func133, Tryz.ntmps133
  go_wp2_with (first
    | (at_range; refine wpList_range_own _ rfl _ 96 rfl 26 26 lawU Tryz.underlying96 _ b n _ rfl hown ?_; intro w0 hrg0 hg0 hs0)
    | go_in)
  go_frame
  go_loopw [4] (fun _ wr => ∃ (left : Lit → Bool) (cnt : Nat) (Dout : DataW Unit), wr.ranges Tryz.prog 26 (plainElem Tryz.prog 26) b w.heap.size n D0 left cnt ∧ cnt ≤ Maps.size D0 ∧
      wr.ownsMap Tryz.prog 26 (plainElem Tryz.prog 26) d (Maps.size D0 - cnt) Dout ∧ Agree Dout D0 left ∧ w.grownBy wr (some d))
    (fun _ wr => wr.rangeLeft b w.heap.size)
  case atStart =>
    exact ⟨_, _, .map [], hrg0, Nat.le_refl _, (hd.kept hg0 (by simp)).mono (Nat.zero_le _), agree_start D0, hg0.but _⟩
  case round =>
    obtain ⟨left, cnt, Dout, hrg, hcs, hout, hA, hnx⟩ := hrel
    go_wp2_with (first
      | (at_next; refine wpList_next_ranges_ii _ rfl _ rfl 26 26 .u64 .u64 lawU Tryz.underlying26 Tryz.underlying26 b w.heap.size n _ _ _ rfl hrg ?_ ?_)
      | go_in)
    · intro hc0 hl0
      go_wp2
      go_end0
      subst hc0
      have e := agree_end hA hl0 (hout.canon lawU) (hown.canon lawU)
      subst e
      exact ⟨rfl, by simpa using hout, hnx⟩
    · intro x c w1 cnt1 hwx hwc hlx hat hrg1 hlt hg1 hs1 hen
      have hout1 := hout.kept hg1 (fun e => by have := Option.some.inj e; omega)
      go_wp2_with (first
        | (at_mapUpdate; refine wpList_mapUpdate_own _ rfl _ _ _ 96 rfl 26 26 lawU Tryz.underlying96 _ d _ _ rfl hout1 (by unfold maxLen; omega) _ _ _ rfl rfl (keyOf_int_mk Tryz.underlying26 hwx) _ [] (plainElem_int Tryz.underlying26 hwc) ?_; intro w2 hout2 hg2; go_frame)
        | go_in)
      have hrg2 := hrg1.kept hg2 (fun e => by have := Option.some.inj e; omega) (fun e => by have := Option.some.inj e; omega)
      go_roundw
      case rel =>
        exact ⟨_, cnt1, _, hrg2, by omega, hout2.mono (by omega), agree_step hA hout.isMap trivial hat,
          (hnx.andThen hg1 (fun j hj => by cases hj; exact .inl (Nat.le_refl _))).andThen hg2 (fun j hj => by cases hj; exact .inr rfl)⟩
      case measure => rw [hrg2.left_eq, hrg.left_eq]; exact hlt
end Go.Proofs.YtnbdoemnepfhdaaGreat.Mem

