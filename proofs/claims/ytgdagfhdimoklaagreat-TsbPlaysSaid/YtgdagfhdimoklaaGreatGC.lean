/-
  YtgdagfhdimoklaaGreatGC: the contracts and plain facts of several texts, laid together. Conditions: those that each theorem names.
-/
import Derived.Laws.Bits64b
import Derived.IntWalk
import Derived.Test.YtgdagfhdimoklaaGreatRows
import Derived.WalkKit
import Derived.ProofKit
import Derived.OpenShut
import Derived.WalkLawsBesides
import Derived.Deep.QuietTactic
import Derived.BigQuiet
import Derived.Lib.Hide
import Derived.Maps.OwnOps
import Derived.Maps.OwnSet
import Derived.Maps.RangeWalk
import Derived.Maps.Ext
import Derived.RegionTactic
import Derived.ChangeAlike
import Derived.Test.YtgdagfhdimoklaaGreatMath
/-
  Plain facts on bytes and words of eight of them (the highest first): no Go text is named here. Conditions: none.
-/
namespace Go.Proofs.YtgdagfhdimoklaaGreat.Mem

/-- The number of j bytes of g from k on, the highest first. -/
def wordN (g : Nat → Nat) (k : Nat) : Nat → Nat
  | 0 => 0
  | j + 1 => 256 * wordN g k j + g (k + j)
def word (g : Nat → Nat) (k : Nat) : Nat := wordN g k 8
def byteW (w j : Nat) : Nat := w / 2 ^ (8 * (7 - j)) % 256
/-- The bytes g, but those of the word at k are w's. -/
def setW (g : Nat → Nat) (k w : Nat) : Nat → Nat := fun a => if k ≤ a ∧ a < k + 8 then byteW w (a - k) else g a
def setB (g : Nat → Nat) (k b : Nat) : Nat → Nat := fun a => if a = k then b else g a

theorem wordN_testBit (g : Nat → Nat) (h : ∀ a, g a < 256) (k j i : Nat) : (wordN g k j).testBit i = (decide (i < 8 * j) && (g (k + (j - 1 - i / 8))).testBit (i % 8)) := by
  induction j generalizing i with
  | zero => simp [wordN]
  | succ j ih =>
    have e : wordN g k (j + 1) = 2 ^ 8 * wordN g k j + g (k + j) := rfl
    rw [e, Nat.testBit_two_pow_mul_add _ (show g (k + j) < 2 ^ 8 from h _)]
    by_cases hi : i < 8
    · rw [if_pos hi]
      have h1 : i / 8 = 0 := by omega
      have h2 : i % 8 = i := by omega
      have h3 : i < 8 * (j + 1) := by omega
      simp [h1, h2, h3]
    · rw [if_neg hi, ih]
      by_cases hj : i < 8 * (j + 1)
      · have h1 : i - 8 < 8 * j := by omega
        have h2 : (i - 8) % 8 = i % 8 := by omega
        have h3 : j - 1 - (i - 8) / 8 = j + 1 - 1 - i / 8 := by omega
        simp only [hj, h1, h2, h3]
      · have h1 : ¬ i - 8 < 8 * j := by omega
        simp [hj, h1]
theorem word_testBit (g : Nat → Nat) (h : ∀ a, g a < 256) (k i : Nat) : (word g k).testBit i = (decide (i < 64) && (g (k + (7 - i / 8))).testBit (i % 8)) := wordN_testBit g h k 8 i
theorem wordN_lt (g : Nat → Nat) (h : ∀ a, g a < 256) (k j : Nat) : wordN g k j < 256 ^ j := by
  induction j with
  | zero => simp [wordN]
  | succ j ih => have := h (k + j); simp only [wordN, Nat.pow_succ]; omega
theorem word_lt (g : Nat → Nat) (h : ∀ a, g a < 256) (k : Nat) : word g k < 18446744073709551616 := wordN_lt g h k 8
theorem byteW_lt (w j : Nat) : byteW w j < 256 := Nat.mod_lt _ (by decide)
theorem byteW_testBit (w j i : Nat) : (byteW w j).testBit i = (decide (i < 8) && w.testBit (i + 8 * (7 - j))) := by
  unfold byteW
  rw [show (256 : Nat) = 2 ^ 8 from rfl, Nat.testBit_mod_two_pow, Nat.testBit_div_two_pow]
theorem testBit_hi {x i : Nat} (h : x < 18446744073709551616) (hi : 64 ≤ i) : x.testBit i = false :=
  Nat.testBit_lt_two_pow (Nat.lt_of_lt_of_le (show x < 2 ^ 64 from h) (Nat.pow_le_pow_right (by decide) hi))
theorem testBit_hi8 {x i : Nat} (h : x < 256) (hi : 8 ≤ i) : x.testBit i = false :=
  Nat.testBit_lt_two_pow (Nat.lt_of_lt_of_le (show x < 2 ^ 8 from h) (Nat.pow_le_pow_right (by decide) hi))
theorem byteW_word (g : Nat → Nat) (h : ∀ a, g a < 256) (k j : Nat) (hj : j < 8) : byteW (word g k) j = g (k + j) := by
  apply Nat.eq_of_testBit_eq; intro i
  rw [byteW_testBit, word_testBit g h]
  by_cases hi : i < 8
  · have h1 : i + 8 * (7 - j) < 64 := by omega
    have h2 : 7 - (i + 8 * (7 - j)) / 8 = j := by omega
    have h3 : (i + 8 * (7 - j)) % 8 = i := by omega
    simp [hi, h1, h2, h3]
  · have h1 : (g (k + j)).testBit i = false := testBit_hi8 (h (k + j)) (by omega)
    simp [hi, h1]
theorem word_ext {g g' : Nat → Nat} {k : Nat} (h : ∀ j, j < 8 → g (k + j) = g' (k + j)) : word g k = word g' k := by
  have : ∀ n, n ≤ 8 → wordN g k n = wordN g' k n := by
    intro n hn
    induction n with
    | zero => rfl
    | succ n ih => simp only [wordN]; rw [ih (by omega), h n (by omega)]
  exact this 8 (by omega)
theorem setW_lt {g : Nat → Nat} (h : ∀ a, g a < 256) (k w a : Nat) : setW g k w a < 256 := by
  unfold setW; split
  · exact byteW_lt _ _
  · exact h a
theorem setB_lt {g : Nat → Nat} (h : ∀ a, g a < 256) (k b : Nat) (hb : b < 256) (a : Nat) : setB g k b a < 256 := by
  unfold setB; split
  · exact hb
  · exact h a
theorem word_of_bytes {w k : Nat} {g : Nat → Nat} (h : ∀ a, g a < 256) (hw : w < 18446744073709551616) (hg : ∀ j, j < 8 → g (k + j) = byteW w j) : word g k = w := by
  apply Nat.eq_of_testBit_eq; intro i
  rw [word_testBit g h]
  by_cases hi : i < 64
  · rw [hg _ (by omega), byteW_testBit]
    have h1 : i % 8 < 8 := by omega
    have h2 : i % 8 + 8 * (7 - (7 - i / 8)) = i := by omega
    simp [hi, h1, h2]
  · rw [testBit_hi hw (by omega)]; simp [hi]
theorem word_setW_same {g : Nat → Nat} (h : ∀ a, g a < 256) (k : Nat) {w : Nat} (hw : w < 18446744073709551616) : word (setW g k w) k = w :=
  word_of_bytes (setW_lt h k w) hw (fun j hj => by
    unfold setW; rw [if_pos (by omega), Nat.add_sub_cancel_left])
theorem word_setW_other {g : Nat → Nat} {k k' : Nat} (hk : k % 8 = 0) (hk' : k' % 8 = 0) (hne : k' ≠ k) (w : Nat) : word (setW g k w) k' = word g k' :=
  word_ext (fun j hj => by unfold setW; rw [if_neg (by omega)])
theorem byte_of_word (g : Nat → Nat) (h : ∀ a, g a < 256) (a : Nat) : byteW (word g (a - a % 8)) (a % 8) = g a := by
  rw [byteW_word g h _ _ (by omega)]; congr 1; omega
theorem ext_of_words {g g' : Nat → Nat} (h : ∀ a, g a < 256) (h' : ∀ a, g' a < 256) (hw : ∀ k, k % 8 = 0 → word g k = word g' k) : g = g' := by
  funext a
  rw [← byte_of_word g h a, ← byte_of_word g' h' a, hw _ (by omega)]
theorem setW_word {g : Nat → Nat} (h : ∀ a, g a < 256) (k : Nat) : setW g k (word g k) = g := by
  funext a; unfold setW; split
  · rw [byteW_word g h _ _ (by omega)]; congr 1; omega
  · rfl
theorem word_zero {g : Nat → Nat} {k : Nat} (h : ∀ a, g a < 256) (hz : word g k = 0) (j : Nat) (hj : j < 8) : g (k + j) = 0 := by
  rw [← byteW_word g h k j hj, hz]; simp [byteW]
theorem word_eq_zero {g : Nat → Nat} {k : Nat} (hz : ∀ j, j < 8 → g (k + j) = 0) : word g k = 0 := by
  rw [word_ext (g' := fun _ => 0) hz]; rfl

/-! ### How many there can be -/
theorem nodup_le (N : Nat) : ∀ l : List Nat, l.Nodup → (∀ x ∈ l, x < N) → l.length ≤ N := by
  induction N with
  | zero => intro l _ h; cases l with
    | nil => simp
    | cons x r => have := h x (by simp); omega
  | succ N ih =>
    intro l hn h
    by_cases hm : N ∈ l
    · have h1 := ih (l.erase N) (hn.erase N) (fun x hx => by
        have h2 := (hn.mem_erase_iff).1 hx
        have h3 := h x h2.2; have := h2.1; omega)
      rw [List.length_erase_of_mem hm] at h1; omega
    · have := ih l hn (fun x hx => by
        have h1 := h x hx
        have h2 : x ≠ N := fun e => hm (e ▸ hx)
        omega)
      omega
theorem nodup_sub : ∀ (l m : List Nat), l.Nodup → (∀ x ∈ l, x ∈ m) → l.length ≤ m.length := by
  intro l
  induction l with
  | nil => intros; simp
  | cons x r ih =>
    intro m hn hs
    have hx := hs x (by simp)
    have h1 := ih (m.erase x) (List.nodup_cons.1 hn).2 (fun y hy => by
      have hne : y ≠ x := fun e => (List.nodup_cons.1 hn).1 (e ▸ hy)
      exact (List.mem_erase_of_ne hne).2 (hs y (by simp [hy])))
    have h2 : 0 < m.length := List.length_pos_of_mem hx
    rw [List.length_erase_of_mem hx] at h1; simp; omega
end Go.Proofs.YtgdagfhdimoklaaGreat.Mem
/-
  What it means that a world holds a memory of so many bytes: its struct's cells, and a map of the words that are not 0. Conditions: none.
-/
namespace Go.Proofs.YtgdagfhdimoklaaGreat.Mem
open Go.ChangeShapes Go.WideShapes Go.ChangeAt Go.RowKit Go.Maps
set_option maxHeartbeats 400000

theorem lawU : Keyed Tryz.prog 31 := int_keyed Tryz.underlying31
theorem zeroU (w : World) : (zeroValue 31).run Tryz.prog w = .ok (.int .u64 0) w := by kernel_rfl
abbrev key (k : Nat) : Lit := .int .u64 (k : Int)
abbrev elt (k : Nat) : DataW Unit := .lit (.int .u64 (k : Int))

/-- The map D has just the words of g that are not 0. -/
structure MapIs (D : DataW Unit) (g : Nat → Nat) : Prop where
  at_ : ∀ k, k % 8 = 0 → D.atKey (key k) (elt 0) = elt (word g k)
  has_ : ∀ kl, Maps.has D kl = true → ∃ k : Nat, k % 8 = 0 ∧ kl = key k ∧ word g k ≠ 0
  nz : ∀ k, k % 8 = 0 → word g k ≠ 0 → Maps.has D (key k) = true

theorem key_inj {a b : Nat} (h : key a = key b) : a = b := by
  injection h with _ h; exact Int.ofNat.inj h
theorem key_ne {a b : Nat} (h : a ≠ b) : key a ≠ key b := fun e => h (key_inj e)

theorem keyLit {k : Nat} : WideAt.IsKeyLit (key k) := trivial

theorem MapIs.empty : MapIs (.map []) (fun _ => 0) where
  at_ k _ := by
    have : word (fun _ => 0) k = 0 := word_eq_zero (fun _ _ => rfl)
    rw [this]; rfl
  has_ kl h := by cases h
  nz k _ h := absurd (word_eq_zero (fun _ _ => rfl)) h

theorem MapIs.put {D : DataW Unit} {g : Nat → Nat} (h : MapIs D g) (hm : IsMap D) (hg : ∀ a, g a < 256) {k w : Nat} (hk : k % 8 = 0) (hw : w < 18446744073709551616) (hw0 : w ≠ 0) : MapIs (D.put (key k) (elt w)) (setW g k w) where
  at_ k' hk' := by
    by_cases e : k' = k
    · subst e; rw [word_setW_same hg _ hw]; exact atKey_put_same hm keyLit _ _
    · rw [word_setW_other hk hk' e]; rw [atKey_put_other (key_ne e)]; exact h.at_ k' hk'
  has_ kl hkl := by
    by_cases e : kl = key k
    · exact ⟨k, hk, e, by rw [word_setW_same hg _ hw]; exact hw0⟩
    · rw [has_put_other e] at hkl
      obtain ⟨k', a, b, c⟩ := h.has_ kl hkl
      exact ⟨k', a, b, by rw [word_setW_other hk a (fun e2 => e (by rw [b, e2]))]; exact c⟩
  nz k' hk' hn := by
    by_cases e : k' = k
    · subst e; exact has_put_same hm keyLit _
    · rw [word_setW_other hk hk' e] at hn; rw [has_put_other (key_ne e)]; exact h.nz k' hk' hn

theorem MapIs.del {D : DataW Unit} {g : Nat → Nat} (h : MapIs D g) (hg : ∀ a, g a < 256) {k : Nat} (hk : k % 8 = 0) : MapIs (D.del (key k)) (setW g k 0) where
  at_ k' hk' := by
    by_cases e : k' = k
    · subst e; rw [word_setW_same hg _ (by decide)]; exact atKey_del_same _
    · rw [word_setW_other hk hk' e]; rw [atKey_del_other (key_ne e)]; exact h.at_ k' hk'
  has_ kl hkl := by
    by_cases e : kl = key k
    · subst e; rw [has_del_same] at hkl; cases hkl
    · rw [has_del_other e] at hkl
      obtain ⟨k', a, b, c⟩ := h.has_ kl hkl
      exact ⟨k', a, b, by rw [word_setW_other hk a (fun e2 => e (by rw [b, e2]))]; exact c⟩
  nz k' hk' hn := by
    by_cases e : k' = k
    · subst e; rw [word_setW_same hg _ (by decide)] at hn; exact absurd rfl hn
    · rw [word_setW_other hk hk' e] at hn; rw [has_del_other (key_ne e)]; exact h.nz k' hk' hn

/-- The keys of a map, as numbers. -/
def keyNat : Lit → Nat
  | .int _ k => k.toNat
  | _ => 0
theorem keys_of {D : DataW Unit} {g : Nat → Nat} (h : MapIs D g) (ht : Canon D) : ∃ l : List Nat, l.Nodup ∧ l.length = Maps.size D ∧ (∀ k, k ∈ l ↔ k % 8 = 0 ∧ word g k ≠ 0) := by
  obtain ⟨es, rfl, hr, hl⟩ := ht
  have hp := apart_of_rising hr
  have hk : ∀ p ∈ es, ∃ k : Nat, k % 8 = 0 ∧ p.1 = key k ∧ word g k ≠ 0 := fun p hp' =>
    h.has_ p.1 (List.any_eq_true.2 ⟨p, hp', WideAt.sameKey_self (hl p hp')⟩)
  refine ⟨es.map (fun p => keyNat p.1), ?_, by simp [Maps.size], fun k => ?_⟩
  · refine List.pairwise_map.2 (hp.imp_of_mem ?_)
    intro a b ha hb hne e
    obtain ⟨x, _, ex, _⟩ := hk a ha
    obtain ⟨y, _, ey, _⟩ := hk b hb
    rw [ex, ey] at e hne
    simp [keyNat] at e
    exact hne (by rw [e])
  · constructor
    · intro hm
      obtain ⟨p, hp', rfl⟩ := List.mem_map.1 hm
      obtain ⟨x, h1, ex, h2⟩ := hk p hp'
      rw [ex]; simp [keyNat]; exact ⟨h1, h2⟩
    · rintro ⟨h1, h2⟩
      obtain ⟨p, hp', e⟩ := List.any_eq_true.1 (h.nz k h1 h2)
      have := WideAt.sameKey_eq e
      exact List.mem_map.2 ⟨p, hp', by rw [this]; simp [keyNat]⟩

/-- Bytes of a memory of size S. -/
structure Good (S : Nat) (g : Nat → Nat) : Prop where
  le : S ≤ 2199023255552
  lt : ∀ a, g a < 256
  out : ∀ a, S ≤ a → g a = 0
theorem Good.word_in {S : Nat} {g : Nat → Nat} (h : Good S g) {k : Nat} (hk : word g k ≠ 0) : k < S := by
  rcases Nat.lt_or_ge k S with h1 | h1
  · exact h1
  · exact absurd (word_eq_zero (fun j _ => h.out _ (by omega))) hk
theorem Good.few {S : Nat} {g : Nat → Nat} (h : Good S g) {l : List Nat} (hn : l.Nodup) (hl : ∀ k ∈ l, k % 8 = 0 ∧ word g k ≠ 0) : l.length ≤ 274877906944 := by
  have h1 := nodup_le 274877906944 (l.map (fun k => k / 8)) (List.pairwise_map.2 (List.Pairwise.imp_of_mem (R := fun a b => a ≠ b) (fun {a b} ha hb hne e => by
      have := (hl a ha).1; have := (hl b hb).1; exact hne (by omega)) hn)) (fun x hx => by
    obtain ⟨k, hk, rfl⟩ := List.mem_map.1 hx
    have := h.word_in (hl k hk).2; have := h.le; omega)
  simpa using h1
theorem Good.size_le {S : Nat} {g : Nat → Nat} (h : Good S g) {D : DataW Unit} (hD : MapIs D g) (hc : Canon D) : Maps.size D ≤ 274877906944 := by
  obtain ⟨l, h1, h2, h3⟩ := keys_of hD hc
  rw [← h2]; exact h.few h1 (fun k hk => (h3 k).1 hk)
theorem size_support {D : DataW Unit} {g : Nat → Nat} (hD : MapIs D g) (hc : Canon D) (l : List Nat) (hn : l.Nodup) (hl : ∀ k, k ∈ l ↔ k % 8 = 0 ∧ word g k ≠ 0) : Maps.size D = l.length := by
  obtain ⟨l', h1, h2, h3⟩ := keys_of hD hc
  have a := nodup_sub l l' hn (fun x hx => (h3 x).2 ((hl x).1 hx))
  have b := nodup_sub l' l h1 (fun x hx => (hl x).2 ((h3 x).1 hx))
  omega

/-- A map of at most n entries has at most as many as it reads as. -/
theorem owns_size {w : World} {b n : Nat} {D : DataW Unit} (h : w.ownsMap Tryz.prog 31 (plainElem Tryz.prog 31) b n D) : w.ownsMap Tryz.prog 31 (plainElem Tryz.prog 31) b (Maps.size D) D := by
  obtain ⟨es, clock, hb, F, _, rfl⟩ := h
  exact ⟨es, clock, hb, F, by simp [Maps.size, length_sorted], rfl⟩

/-- At block b of w there is a map of g's words. -/
def WordsAt (w : World) (b : Nat) (g : Nat → Nat) : Prop := ∃ D, w.ownsMap Tryz.prog 31 (plainElem Tryz.prog 31) b (Maps.size D) D ∧ MapIs D g
/-- At block sb of w there is a memory of size S with the bytes g; its map is block bm. -/
structure MemAt (w : World) (sb bm S : Nat) (g : Nat → Nat) : Prop where
  row : ∃ most : Nat, most ≤ 274877906944 ∧ w.heap[sb]? = some (.cells #[.int .u64 (S : Int), .map (some bm), .int .i64 (most : Int)] 83 (0, 0))
  words : WordsAt w bm g
  good : Good S g
/-- Of what was in w all stays but blocks sb and bm. -/
structure Turn (w w' : World) (sb bm : Nat) : Prop where
  os : w'.os = w.os
  tape : w'.tape = w.tape
  output : w'.output = w.output
  size : w.heap.size ≤ w'.heap.size
  block : ∀ k, k < w.heap.size → k ≠ sb → k ≠ bm → w'.heap[k]? = w.heap[k]?
/-- What a call does to a memory. -/
def MemTo (w w' : World) (sb bm S : Nat) (g : Nat → Nat) : Prop := ∃ bm', MemAt w' sb bm' S g ∧ (bm' = bm ∨ w.heap.size ≤ bm') ∧ Turn w w' sb bm

theorem WordsAt.lt {w : World} {b : Nat} {g : Nat → Nat} (h : WordsAt w b g) : b < w.heap.size := by obtain ⟨D, h, _⟩ := h; exact h.lt
theorem WordsAt.same {w w' : World} {b : Nat} {g : Nat → Nat} (h : WordsAt w b g) (hb : w'.heap[b]? = w.heap[b]?) : WordsAt w' b g := by
  obtain ⟨D, ⟨es, clock, h1, h2⟩, h3⟩ := h
  exact ⟨D, ⟨es, clock, hb.trans h1, h2⟩, h3⟩
theorem MemAt.ne {w : World} {sb bm S : Nat} {g : Nat → Nat} (h : MemAt w sb bm S g) : bm ≠ sb := by
  obtain ⟨m, _, h1⟩ := h.row
  obtain ⟨D, ⟨es, clock, h2, _⟩, _⟩ := h.words
  rintro rfl; rw [h1] at h2; cases h2
theorem MemAt.lt {w : World} {sb bm S : Nat} {g : Nat → Nat} (h : MemAt w sb bm S g) : sb < w.heap.size ∧ bm < w.heap.size := by
  obtain ⟨m, _, h1⟩ := h.row
  exact ⟨(Array.getElem?_eq_some_iff.1 h1).1, h.words.lt⟩
theorem MemAt.same {w w' : World} {sb bm S : Nat} {g : Nat → Nat} (h : MemAt w sb bm S g) (h1 : w'.heap[sb]? = w.heap[sb]?) (h2 : w'.heap[bm]? = w.heap[bm]?) : MemAt w' sb bm S g :=
  ⟨by rw [h1]; exact h.row, h.words.same h2, h.good⟩
theorem Turn.refl (w : World) (sb bm : Nat) : Turn w w sb bm := ⟨rfl, rfl, rfl, Nat.le_refl _, fun _ _ _ _ => rfl⟩
theorem Turn.trans {a b c : World} {sb bm bm' : Nat} (h : Turn a b sb bm) (k : Turn b c sb bm') (hb : bm' = bm ∨ a.heap.size ≤ bm') : Turn a c sb bm :=
  ⟨k.os.trans h.os, k.tape.trans h.tape, k.output.trans h.output, Nat.le_trans h.size k.size, fun i hi h1 h2 =>
    (k.block i (Nat.lt_of_lt_of_le hi h.size) h1 (by rcases hb with rfl | hb; exact h2; omega)).trans (h.block i hi h1 h2)⟩
theorem Turn.grown {a b c : World} {sb bm : Nat} {row : Option Nat} (h : Turn a b sb bm) (k : b.grownBy c row) (hr : ∀ j, row = some j → j = sb ∨ j = bm ∨ a.heap.size ≤ j) : Turn a c sb bm :=
  ⟨k.os.trans h.os, k.tape.trans h.tape, k.output.trans h.output, Nat.le_trans h.size k.size, fun i hi h1 h2 =>
    (k.block i (Nat.lt_of_lt_of_le hi h.size) (fun e => by have := hr i e.symm; omega)).trans (h.block i hi h1 h2)⟩
theorem Turn.below {a b c : World} {sb bm : Nat} (h : Turn a b sb bm) (k : Below b.heap.size b c) : Turn a c sb bm :=
  ⟨k.os.trans h.os, k.tape.trans h.tape, k.output.trans h.output, Nat.le_trans h.size k.size, fun i hi h1 h2 =>
    (k.block i (Nat.lt_of_lt_of_le hi h.size)).trans (h.block i hi h1 h2)⟩
theorem Turn.drew {a b : World} {sb bm : Nat} (h : Turn a b sb bm) : Turn a b.drew sb bm := ⟨h.os, h.tape, h.output, h.size, h.block⟩
theorem Turn.alloc {a b : World} {sb bm : Nat} (h : Turn a b sb bm) (o : Obj) : Turn a (b.alloc o) sb bm :=
  ⟨h.os, h.tape, h.output, by have := h.size; simp; omega, fun i hi h1 h2 => (Below.heap_alloc _ _ _ (Nat.lt_of_lt_of_le hi h.size)).trans (h.block i hi h1 h2)⟩
theorem Turn.setCell {a b : World} {sb bm : Nat} (h : Turn a b sb bm) (p : Addr) (hp : p.block = sb ∨ p.block = bm ∨ a.heap.size ≤ p.block) (u : Value) : Turn a (b.setCell p u) sb bm :=
  ⟨h.os, h.tape, h.output, by simpa [World.setCell] using h.size, fun i hi h1 h2 => (Below.heap_setCell _ _ _ _ (by omega)).trans (h.block i hi h1 h2)⟩
theorem MemAt.to {w : World} {sb bm S : Nat} {g : Nat → Nat} (h : MemAt w sb bm S g) : MemTo w w sb bm S g := ⟨bm, h, .inl rfl, Turn.refl _ _ _⟩
theorem MemAt.cells {w : World} {sb bm S : Nat} {g : Nat → Nat} (h : MemAt w sb bm S g) : ∃ most : Nat, most ≤ 274877906944 ∧ w.cell? ⟨sb, 0, none⟩ = some (.int .u64 (S : Int)) ∧ w.cell? ⟨sb, 1, none⟩ = some (.map (some bm)) ∧ w.cell? ⟨sb, 2, none⟩ = some (.int .i64 (most : Int)) ∧
    w.frozen? ⟨sb, 1, none⟩ = false ∧ w.frozen? ⟨sb, 2, none⟩ = false := by
  obtain ⟨m, hm, h1⟩ := h.row
  exact ⟨m, hm, by simp [World.cell?, h1], by simp [World.cell?, h1], by simp [World.cell?, h1], by simp [World.frozen?, h1], by simp [World.frozen?, h1]⟩
end Go.Proofs.YtgdagfhdimoklaaGreat.Mem
/-
  Contracts of the functions of package memory that only compute. Conditions: words are below 2 to the 64.
-/
namespace Go.Proofs.YtgdagfhdimoklaaGreat.Mem
open Go.ChangeShapes Go.WideShapes Go.ChangeAt Go.RowKit Go.Maps
set_option maxHeartbeats 400000
/-- 255 at the addresses from f to l. -/
def inR (f l a : Nat) : Nat := if f ≤ a ∧ a ≤ l then 255 else 0
/-- The bits of the word at k whose bytes stand from f to l. -/
def maskW (f l k : Nat) : Nat := word (inR f l) k
def shrA (s : Nat) : Nat := 18446744073709551615 / 2 ^ min s 64
def shlA (s : Nat) : Nat := 18446744073709551615 * 2 ^ min s 64 % 18446744073709551616
theorem inR_lt (f l a : Nat) : inR f l a < 256 := by unfold inR; split <;> omega
theorem inR_testBit (f l a i : Nat) (hi : i < 8) : (inR f l a).testBit i = decide (f ≤ a ∧ a ≤ l) := by
  unfold inR
  by_cases h : f ≤ a ∧ a ≤ l
  · rw [if_pos h, show (255 : Nat) = 2 ^ 8 - 1 from rfl, Nat.testBit_two_pow_sub_one]; simp [hi, h]
  · rw [if_neg h]; simp [h]
theorem maskW_testBit (f l k i : Nat) : (maskW f l k).testBit i = (decide (i < 64) && decide (f ≤ k + (7 - i / 8) ∧ k + (7 - i / 8) ≤ l)) := by
  unfold maskW
  rw [word_testBit _ (inR_lt f l), inR_testBit _ _ _ _ (by omega)]
theorem shrA_testBit (s i : Nat) : (shrA s).testBit i = decide (i + min s 64 < 64) := by
  unfold shrA
  rw [Nat.testBit_div_two_pow, show (18446744073709551615 : Nat) = 2 ^ 64 - 1 from rfl, Nat.testBit_two_pow_sub_one]
theorem shlA_testBit (s i : Nat) : (shlA s).testBit i = (decide (i < 64) && decide (min s 64 ≤ i)) := by
  unfold shlA
  rw [show (18446744073709551616 : Nat) = 2 ^ 64 from rfl, Nat.testBit_mod_two_pow, Nat.mul_comm, Nat.testBit_two_pow_mul, show (18446744073709551615 : Nat) = 2 ^ 64 - 1 from rfl, Nat.testBit_two_pow_sub_one, Bool.eq_iff_iff]
  simp; omega
theorem shrA_lt (s : Nat) : shrA s < 18446744073709551616 := Nat.lt_of_le_of_lt (Nat.div_le_self _ _) (by decide)
theorem shlA_lt (s : Nat) : shlA s < 18446744073709551616 := Nat.mod_lt _ (by decide)
theorem all_testBit (i : Nat) : (18446744073709551615 : Nat).testBit i = decide (i < 64) := by
  rw [show (18446744073709551615 : Nat) = 2 ^ 64 - 1 from rfl, Nat.testBit_two_pow_sub_one]
theorem mask_lt (f l k : Nat) : maskW f l k < 18446744073709551616 := word_lt _ (inR_lt f l) k
theorem mask_r (f l k : Nat) (c1 : k < f) (c2 : k + 7 ≤ l) : 18446744073709551615 &&& shrA ((f - k) * 8) = maskW f l k := by
  apply Nat.eq_of_testBit_eq; intro i
  rw [maskW_testBit, Nat.testBit_and, all_testBit, shrA_testBit, Bool.eq_iff_iff]; simp; omega
theorem mask_l (f l k : Nat) (c1 : f ≤ k) (c2 : l < k + 7) : 18446744073709551615 &&& shlA ((k + 7 - l) * 8) = maskW f l k := by
  apply Nat.eq_of_testBit_eq; intro i
  rw [maskW_testBit, Nat.testBit_and, all_testBit, shlA_testBit, Bool.eq_iff_iff]; simp; omega
theorem mask_b (f l k : Nat) (c1 : k < f) (c2 : l < k + 7) : (18446744073709551615 &&& shrA ((f - k) * 8)) &&& shlA ((k + 7 - l) * 8) = maskW f l k := by
  apply Nat.eq_of_testBit_eq; intro i
  rw [maskW_testBit, Nat.testBit_and, Nat.testBit_and, all_testBit, shrA_testBit, shlA_testBit, Bool.eq_iff_iff]; simp; omega
theorem mask_n (f l k : Nat) (c1 : f ≤ k) (c2 : k + 7 ≤ l) : 18446744073709551615 = maskW f l k := by
  apply Nat.eq_of_testBit_eq; intro i
  rw [maskW_testBit, all_testBit, Bool.eq_iff_iff]; simp; omega
theorem shr_cast (s : Int) : (18446744073709551615 : Int) / 2 ^ min s.toNat 64 = ((shrA s.toNat : Nat) : Int) := by
  unfold shrA; generalize min s.toNat 64 = n; rw [Int.natCast_ediv, Int.natCast_pow]; rfl
theorem shl_cast (s : Int) : IntKind.u64.wrap ((18446744073709551615 : Int) * 2 ^ min s.toNat 64) = ((shlA s.toNat : Nat) : Int) := by
  unfold shlA; generalize min s.toNat 64 = n; rw [IntKind.wrap_u64, Int.natCast_emod, Int.natCast_mul, Int.natCast_pow]; rfl
theorem ret_int {k : IntKind} {a b : Int} (h : a = b) : Ending.returned (.int k a) = .returned (.int k b) := by rw [h]
theorem ret_bool {a b : Bool} (h : a = b) : Ending.returned (.bool a) = .returned (.bool b) := by rw [h]
end Go.Proofs.YtgdagfhdimoklaaGreat.Mem
/-
  Contracts of New and may of package memory. Conditions: words are below 2 to the 64.
-/
namespace Go.Proofs.YtgdagfhdimoklaaGreat.Mem
open Go.ChangeShapes Go.WideShapes Go.ChangeAt Go.RowKit Go.Maps
set_option maxHeartbeats 400000
/-- The error of n bytes at an address that must be a multiple of st. -/
def mayI (S a st n : Int) : Int := if a % st ≠ 0 then 4 else if 0 < n ∧ (S ≤ a ∨ S - a < n) then 5 else 0
theorem may_any (sb : Nat) (S a st n : Int) (w : World) (hS0 : 0 ≤ S) (hS1 : S ≤ 2199023255552) (h0 : 0 ≤ a) (h1 : a < 18446744073709551616) (hst : 0 < st) (hst1 : st ≤ 16) (n0 : 0 ≤ n) (n1 : n < 18446744073709551616)
    (c0 : w.cell? ⟨sb, 0, none⟩ = some (.int .u64 S)) :
    Calls Tryz.prog 76 #[.pointer (some ⟨sb, 0, none⟩), .int .u64 a, .int .u64 st, .int .u64 n] w fun e w' => e = .returned (.int .i64 (mayI S a st n)) ∧ w = w' := by
  have m0 : 0 ≤ a % st := Int.emod_nonneg _ (by omega)
  have m1 : a % st < st := Int.emod_lt_of_pos _ hst
  by_cases c1 : a % st = 0
  · by_cases c2 : 0 < n
    · by_cases c3 : S ≤ a
      · have M := Lib.hid (show mayI S a st n = 5 by unfold mayI; rw [if_neg (by omega), if_pos (by omega)])
        go_enter Tryz.func76, Tryz.ntmps76
        go_wp2
        go_ret
        exact ⟨ret_int M.out.symm, rfl⟩
      · by_cases c4 : S - a < n
        · have M := Lib.hid (show mayI S a st n = 5 by unfold mayI; rw [if_neg (by omega), if_pos (by omega)])
          go_enter Tryz.func76, Tryz.ntmps76
          go_wp2
          go_ret
          exact ⟨ret_int M.out.symm, rfl⟩
        · have M := Lib.hid (show mayI S a st n = 0 by unfold mayI; rw [if_neg (by omega), if_neg (by omega)])
          go_enter Tryz.func76, Tryz.ntmps76
          go_wp2
          go_ret
          exact ⟨ret_int M.out.symm, rfl⟩
    · have M := Lib.hid (show mayI S a st n = 0 by unfold mayI; rw [if_neg (by omega), if_neg (by omega)])
      have c3 : n = 0 := by omega
      subst c3
      go_enter Tryz.func76, Tryz.ntmps76
      go_wp2
      go_ret
      exact ⟨ret_int M.out.symm, rfl⟩
  · have M := Lib.hid (show mayI S a st n = 4 by unfold mayI; rw [if_pos c1])
    go_enter Tryz.func76, Tryz.ntmps76
    go_wp2
    go_ret
    exact ⟨ret_int M.out.symm, rfl⟩
theorem new_mem (w : World) (n : Nat) (hn : n ≤ 2199023255552) : MemAt ((w.alloc (Obj.map #[] 0)).alloc (.cells #[.int .u64 (n : Int), .map (some w.heap.size), .int .i64 0] 83)) (w.heap.size + 1) w.heap.size n (fun _ => 0) where
  row := ⟨0, by omega, by
    have := heap_alloc_new (w.alloc (Obj.map #[] 0)) (.cells #[.int .u64 (n : Int), .map (some w.heap.size), .int .i64 0] 83)
    simpa using this⟩
  words := ⟨.map [], ((World.ownsMap_made _ _ _ _).alloc _).mono (by simp [Maps.size]), MapIs.empty⟩
  good := ⟨hn, fun _ => by decide, fun _ _ => rfl⟩
theorem new_any (s : Int) (h0 : 0 ≤ s) (h1 : s < 18446744073709551616) (w : World) :
    Calls Tryz.prog 20 #[.int .u64 s] w fun e w' => e = .returned (.pointer (some ⟨w.heap.size + 1, 0, none⟩)) ∧ MemAt w' (w.heap.size + 1) w.heap.size (min s 2199023255552).toNat (fun _ => 0) ∧ Below w.heap.size w w' := by
  have hmm := @run_makeMap Tryz.prog
  by_cases c : s ≤ 2199023255552
  · have M := new_mem w s.toNat (by omega)
    rw [Int.toNat_of_nonneg h0] at M
    have E := Lib.hid (show (min s 2199023255552).toNat = s.toNat by omega)
    go_enter Tryz.func20, Tryz.ntmps20
    go_wp2
    all_goals (try (exfalso; omega))
    go_ret
    exact ⟨rfl, by rw [E.out]; exact M, ((Below.refl _ _).alloc (Nat.le_refl _) _).alloc (by simp) _⟩
  · have M := new_mem w 2199023255552 (by omega)
    have E := Lib.hid (show (min s 2199023255552).toNat = 2199023255552 by omega)
    go_enter Tryz.func20, Tryz.ntmps20
    go_wp2
    all_goals (try (exfalso; omega))
    go_ret
    exact ⟨rfl, by rw [E.out]; exact M, ((Below.refl _ _).alloc (Nat.le_refl _) _).alloc (by simp) _⟩
end Go.Proofs.YtgdagfhdimoklaaGreat.Mem
/-
  Contract of maps.Copy at maps of words: the new map has what the other one has. Conditions: the new map is empty, and another one.
-/
namespace Go.Proofs.YtgdagfhdimoklaaGreat.Mem
open Go.ChangeShapes Go.WideShapes Go.ChangeAt Go.RowKit Go.Maps
set_option maxHeartbeats 400000
set_option maxRecDepth 100000 in
theorem mcopy_any (b d n : Nat) (D0 : DataW Unit) (w : World) (hown : w.ownsMap Tryz.prog 31 (plainElem Tryz.prog 31) b n D0) (hd : w.ownsMap Tryz.prog 31 (plainElem Tryz.prog 31) d 0 (.map [] : DataW Unit)) (hne : b ≠ d) (hmax : Maps.size D0 ≤ 274877906944) :
    Calls Tryz.prog 113 #[.map (some d), .map (some b)] w fun e w' => e = .returned (.tuple #[]) ∧ w'.ownsMap Tryz.prog 31 (plainElem Tryz.prog 31) d (Maps.size D0) D0 ∧ w.grownBy w' (some d) := by
  have hbl := hown.lt
  have hdl := hd.lt
  go_enter Tryz.func113, Tryz.ntmps113
  go_wp2_with (first
    | (at_range; refine wpList_range_own _ rfl _ 81 rfl 31 31 lawU Tryz.underlying81 _ b n _ rfl hown ?_; intro w0 hrg0 hg0 hs0)
    | go_in)
  go_frame
  go_loopw [4] (fun _ wr => ∃ (left : Lit → Bool) (cnt : Nat) (Dout : DataW Unit), wr.ranges Tryz.prog 31 (plainElem Tryz.prog 31) b w.heap.size n D0 left cnt ∧ cnt ≤ Maps.size D0 ∧
      wr.ownsMap Tryz.prog 31 (plainElem Tryz.prog 31) d (Maps.size D0 - cnt) Dout ∧ Agree Dout D0 left ∧ w.grownBy wr (some d))
    (fun _ wr => wr.rangeLeft b w.heap.size)
  case atStart =>
    exact ⟨_, _, .map [], hrg0, Nat.le_refl _, (hd.kept hg0 (by simp)).mono (Nat.zero_le _), agree_start D0, hg0.but _⟩
  case round =>
    obtain ⟨left, cnt, Dout, hrg, hcs, hout, hA, hnx⟩ := hrel
    go_wp2_with (first
      | (at_next; refine wpList_next_ranges_ii _ rfl _ rfl 31 31 .u64 .u64 lawU Tryz.underlying31 Tryz.underlying31 b w.heap.size n _ _ _ rfl hrg ?_ ?_)
      | go_in)
    · intro hc0 hl0
      go_wp2
      go_end0
      subst hc0
      have e := agree_end hA hl0 (hout.canon lawU) (hown.canon lawU)
      subst e
      exact ⟨rfl, by simpa using hout, hnx⟩
    · intro x c w1 cnt1 hwx hwc hlx hat hrg1 hlt hg1 hs1 hen
      have hout1 := hout.kept hg1 (fun e => by have := Option.some.inj e; omega)
      go_wp2_with (first
        | (at_mapUpdate; refine wpList_mapUpdate_own _ rfl _ _ _ 81 rfl 31 31 lawU Tryz.underlying81 _ d _ _ rfl hout1 (by unfold maxLen; omega) _ _ _ rfl rfl (keyOf_int_mk Tryz.underlying31 hwx) _ [] (plainElem_int Tryz.underlying31 hwc) ?_; intro w2 hout2 hg2; go_frame)
        | go_in)
      have hrg2 := hrg1.kept hg2 (fun e => by have := Option.some.inj e; omega) (fun e => by have := Option.some.inj e; omega)
      go_roundw
      case rel =>
        exact ⟨_, cnt1, _, hrg2, by omega, hout2.mono (by omega), agree_step hA hout.isMap trivial hat,
          (hnx.andThen hg1 (fun j hj => by cases hj; exact .inl (Nat.le_refl _))).andThen hg2 (fun j hj => by cases hj; exact .inr rfl)⟩
      case measure => rw [hrg2.left_eq, hrg.left_eq]; exact hlt
end Go.Proofs.YtgdagfhdimoklaaGreat.Mem
/-
  Contracts of shrink and set of package memory. Conditions: words are below 2 to the 64, and a word that is put is in the memory, or 0.
-/
namespace Go.Proofs.YtgdagfhdimoklaaGreat.Mem
open Go.ChangeShapes Go.WideShapes Go.ChangeAt Go.RowKit Go.Maps
set_option maxHeartbeats 400000
theorem run_makeMap_hint (n : Int) (w : World) : (Instr.makeMap 81 (some (.int .i64 n))).run Tryz.prog w = .ok (.map (some w.heap.size)) (w.alloc (.map #[] 0)) := by
  kernel_rfl
theorem ret_none {fn : Func} {R : Ending → World → Prop} {a : Act} {w : World} (h : fn.results = #[]) (hd : a.defers = []) (hR : R (.returned (.tuple #[])) w) : bodyPost Tryz.prog fn R .ret a w := bodyPost_ret (results_none h _ _ _) hd hR
theorem heap_drewN (w : World) (n : Nat) : (w.drewN n).heap = w.heap := rfl
theorem Turn.drewN {a b : World} {sb bm : Nat} (h : Turn a b sb bm) (n : Nat) : Turn a (b.drewN n) sb bm := ⟨h.os, h.tape, h.output, h.size, h.block⟩
theorem MemAt.drewN {w : World} {sb bm S : Nat} {g : Nat → Nat} (h : MemAt w sb bm S g) (n : Nat) : MemAt (w.drewN n) sb bm S g := h.same rfl rfl
theorem MemTo.drewN {w w' : World} {sb bm S : Nat} {g : Nat → Nat} (h : MemTo w w' sb bm S g) (n : Nat) : MemTo w (w'.drewN n) sb bm S g := by
  obtain ⟨b, h1, h2, h3⟩ := h
  exact ⟨b, h1.drewN n, h2, h3.drewN n⟩
theorem heap_set {w : World} {b o : Nat} {c : Array Value} {e : TypeId} {f : Nat × Nat} (h : w.heap[b]? = some (.cells c e f)) (v : Value) : (w.setCell ⟨b, o, none⟩ v).heap[b]? = some (.cells (c.setIfInBounds o v) e f) := by
  simp [World.setCell, Array.getElem?_modify, h]
theorem row_cells {w : World} {sb bm S most : Nat} {t : TypeId} (h1 : w.heap[sb]? = some (.cells #[.int .u64 (S : Int), .map (some bm), .int .i64 (most : Int)] t (0, 0))) : w.cell? ⟨sb, 0, none⟩ = some (.int .u64 (S : Int)) ∧ w.cell? ⟨sb, 1, none⟩ = some (.map (some bm)) ∧ w.cell? ⟨sb, 2, none⟩ = some (.int .i64 (most : Int)) ∧
    w.frozen? ⟨sb, 1, none⟩ = false ∧ w.frozen? ⟨sb, 2, none⟩ = false := by
  exact ⟨by simp [World.cell?, h1], by simp [World.cell?, h1], by simp [World.cell?, h1], by simp [World.frozen?, h1], by simp [World.frozen?, h1]⟩
theorem row_two {w : World} {sb bm bm' S most n : Nat} (h1 : w.heap[sb]? = some (.cells #[.int .u64 (S : Int), .map (some bm), .int .i64 (most : Int)] 83 (0, 0))) :
    ((w.setCell ⟨sb, 1, none⟩ (.map (some bm'))).setCell ⟨sb, 2, none⟩ (.int .i64 (n : Int))).heap[sb]? = some (.cells #[.int .u64 (S : Int), .map (some bm'), .int .i64 (n : Int)] 83 (0, 0)) := by
  rw [heap_set (heap_set h1 _) _]; rfl
theorem shrink_any (sb bm S : Nat) (g : Nat → Nat) (w : World) (h : MemAt w sb bm S g) :
    Calls Tryz.prog 105 #[.pointer (some ⟨sb, 0, none⟩)] w fun e w' => e = .returned (.tuple #[]) ∧ MemTo w w' sb bm S g := by
  obtain ⟨most, hmost, c0, c1, c2, f1, f2⟩ := h.cells
  obtain ⟨D, hown, hD⟩ := h.words
  have hsz := h.good.size_le hD (hown.canon lawU)
  have hln := fun n ty => (show (w.drewN n).ownsMap Tryz.prog 31 (plainElem Tryz.prog 31) bm (Maps.size D) D from hown).len Tryz.underlying81 ty
  have P1 := Lib.hid hown
  have P2 := Lib.hid hD
  by_cases k1 : (most : Int) ≤ 64
  · go_enter Tryz.func105, Tryz.ntmps105
    go_wp2
    go_quiet (fail)
    go_wp2
    exact ret_none rfl rfl ⟨rfl, h.to.drewN _⟩
  · have d1 : decide ((most : Int) ≤ 64) = false := by simpa using k1
    by_cases k2 : (most : Int) / 4 < (Maps.size D : Int)
    · go_enter Tryz.func105, Tryz.ntmps105
      go_wp2
      go_quiet (fail)
      go_wp2
      exact ret_none rfl rfl ⟨rfl, h.to.drewN _⟩
    · obtain ⟨m2, hm2, hrow⟩ := h.row
      obtain ⟨lt1, lt2⟩ := h.lt
      have hne := h.ne
      have hmh := run_makeMap_hint
      have HR := Lib.hid hrow
      clear hrow
      go_enter Tryz.func105, Tryz.ntmps105
      go_wp2
      go_quiet (fail)
      have c1a : ((w.drewN nq).alloc (Obj.map #[] 0)).cell? ⟨sb, 1, none⟩ = some (.map (some bm)) := (World.cell?_of_block (Below.heap_alloc (w.drewN nq) _ sb lt1)).trans c1
      go_wp2_with (go_at_call 113; refine (mcopy_any bm _ _ D _ ((show (w.drewN nq).ownsMap Tryz.prog 31 (plainElem Tryz.prog 31) bm (Maps.size D) D from hown).alloc _) (World.ownsMap_made _ _ _ _) (by simp; omega) hsz).mono ?_; rintro e w2 ⟨rfl, ho2, hg2⟩; have hb2 := (hg2.block sb (by simp; omega) (by simp; omega)).trans (Below.heap_alloc (w.drewN nq) (.map #[] 0) sb lt1); obtain ⟨d0, d1', d2, d3, d4⟩ := row_cells (hb2.trans HR.out); have hl2 : ∀ ty, (Builtin.len_ #[81] ty #[.map (some w.heap.size)]).run Tryz.prog w2 = .ok (.int .i64 (Maps.size D)) w2 := fun ty => ho2.len Tryz.underlying81 ty)
      go_end0
      refine ⟨rfl, w.heap.size, ⟨⟨Maps.size D, hsz, row_two (hb2.trans HR.out)⟩, ?_, h.good⟩, .inr (Nat.le_refl _), ?_⟩
      · refine WordsAt.same (w := w2) ⟨D, ho2, hD⟩ ?_
        rw [Below.heap_setCell _ _ _ _ (by simp; omega), Below.heap_setCell _ _ _ _ (by simp; omega)]
      · exact (((((Turn.refl w sb bm).drewN nq).alloc _).grown hg2 (fun j hj => by cases hj; exact .inr (.inr (Nat.le_refl _)))).setCell _ (.inl rfl) _).setCell _ (.inl rfl) _
end Go.Proofs.YtgdagfhdimoklaaGreat.Mem
/-
  Contract of set of package memory: the word stands there. Conditions: words are below 2 to the 64, and a word that is put is in the memory, or 0.
-/
namespace Go.Proofs.YtgdagfhdimoklaaGreat.Mem
open Go.ChangeShapes Go.WideShapes Go.ChangeAt Go.RowKit Go.Maps
set_option maxHeartbeats 400000
theorem wf_u64 {k : Nat} (h : k < 18446744073709551616) : (Lit.int .u64 (k : Int)).wf = true := by
  exact WalkArith.wf_u64 (by omega)
theorem MemTo.step {w w1 w2 : World} {sb bm S : Nat} {g' : Nat → Nat} (t : Turn w w1 sb bm) (h2 : MemTo w1 w2 sb bm S g') : MemTo w w2 sb bm S g' := by
  obtain ⟨b, a1, a2, a3⟩ := h2
  exact ⟨b, a1, a2.imp id (fun h => Nat.le_trans t.size h), t.trans a3 (.inl rfl)⟩
theorem set_zero (sb bm S k : Nat) (g : Nat → Nat) (w : World) (h : MemAt w sb bm S g) (hk : k % 8 = 0) (hk1 : k < 18446744073709551616) (hg : Good S (setW g k 0)) :
    Calls Tryz.prog 82 #[.pointer (some ⟨sb, 0, none⟩), .int .u64 (k : Int), .int .u64 0] w fun e w' => e = .returned (.tuple #[]) ∧ MemTo w w' sb bm S (setW g k 0) := by
  obtain ⟨most, hmost, c0, c1, c2, f1, f2⟩ := h.cells
  obtain ⟨m2, hm2, hrow⟩ := h.row
  obtain ⟨D, hown, hD⟩ := h.words
  obtain ⟨lt1, lt2⟩ := h.lt
  have hne := h.ne
  have HR := Lib.hid hrow
  clear hrow
  go_enter Tryz.func82, Tryz.ntmps82
  go_wp2_with (first
    | (at_delete; refine wpList_delete_own _ rfl _ _ 81 31 rfl 31 lawU Tryz.underlying81 _ bm _ D rfl hown _ _ rfl (keyOf_int_mk Tryz.underlying31 (wf_u64 hk1)) ?_; intro w1 hown1 hturn1; have hb1 := hturn1.grown.block sb lt1 (by simp; omega); have M1 : MemAt w1 sb bm S (setW g k 0) := ⟨⟨m2, hm2, hb1.trans HR.out⟩, ⟨_, owns_size hown1, hD.del h.good.lt hk⟩, hg⟩)
    | (go_at_call 105; refine (shrink_any sb bm S _ _ M1).mono ?_; rintro e w2 ⟨rfl, H2⟩))
  exact ret_none rfl rfl ⟨rfl, MemTo.step ((Turn.refl w sb bm).grown hturn1.grown (fun j hj => by cases hj; exact .inr (.inl rfl))) H2⟩
theorem set_some (sb bm S k v : Nat) (g : Nat → Nat) (w : World) (h : MemAt w sb bm S g) (hk : k % 8 = 0) (hk1 : k < 18446744073709551616) (hv : v < 18446744073709551616) (hv0 : v ≠ 0) (hg : Good S (setW g k v)) :
    Calls Tryz.prog 82 #[.pointer (some ⟨sb, 0, none⟩), .int .u64 (k : Int), .int .u64 (v : Int)] w fun e w' => e = .returned (.tuple #[]) ∧ MemTo w w' sb bm S (setW g k v) := by
  obtain ⟨m2, hm2, hrow⟩ := h.row
  obtain ⟨c0, c1, c2, f1, f2⟩ := row_cells hrow
  obtain ⟨D, hown, hD⟩ := h.words
  obtain ⟨lt1, lt2⟩ := h.lt
  have hne := h.ne
  have hsz := h.good.size_le hD (hown.canon lawU)
  have hv1 : ((v : Int) == 0) = false := by simpa using hv0
  have HR := Lib.hid hrow
  clear hrow
  go_enter Tryz.func82, Tryz.ntmps82
  go_wp2_with (first
    | (at_mapUpdate; refine wpList_mapUpdate_in _ rfl _ _ _ 81 rfl 31 31 lawU Tryz.underlying81 _ bm _ D rfl hown (by unfold maxLen; omega) _ _ _ rfl rfl (keyOf_int_mk Tryz.underlying31 (wf_u64 hk1)) _ [] (plainElem_int Tryz.underlying31 (wf_u64 hv)) ?_; intro w1 hown1 hturn1; have hb1 := Lib.hid ((hturn1.grown.block sb lt1 (by simp; omega)).trans HR.out)))
  go_frame
  have hs1 := hg.size_le (hD.put hown.isMap h.good.lt hk hv hv0) (hown1.canon lawU)
  have M1 := Lib.hid (show WordsAt w1 bm (setW g k v) from ⟨_, owns_size hown1, hD.put hown.isMap h.good.lt hk hv hv0⟩)
  have t1 := Lib.hid ((Turn.refl w sb bm).grown hturn1.grown (fun j hj => by cases hj; exact .inr (.inl rfl)))
  obtain ⟨d0, d1, d2, d3, d4⟩ := row_cells hb1.out
  obtain ⟨n1, hn1, hl⟩ : ∃ n1 : Nat, n1 ≤ 274877906944 ∧ ∀ n ty, (Builtin.len_ #[81] ty #[.map (some bm)]).run Tryz.prog (w1.drewN n) = .ok (.int .i64 (n1 : Int)) (w1.drewN n) := ⟨_, hs1, fun n ty => (show (w1.drewN n).ownsMap Tryz.prog 31 (plainElem Tryz.prog 31) bm _ _ from hown1).len Tryz.underlying81 ty⟩
  have hl0 : ∀ ty, (Builtin.len_ #[81] ty #[.map (some bm)]).run Tryz.prog w1.drew = .ok (.int .i64 (n1 : Int)) w1.drew := fun ty => hl 1 ty
  clear hl hs1 hown1 hturn1 c0 c1 c2 f1 f2 hown hD hv0
  go_region
  go_end0
  refine ⟨rfl, bm, ⟨⟨if m2 < n1 then n1 else m2, by split <;> omega, ?_⟩, ?_, hg⟩, .inl rfl, ?_⟩
  · show ((w1.setCell _ _).drew).heap[sb]? = _
    rw [show (w1.setCell ⟨sb, 2, none⟩ (Value.int IntKind.i64 (if m2 < n1 then (n1 : Int) else (m2 : Int)))).drew.heap[sb]? = _ from heap_set hb1.out _]
    split <;> rfl
  · exact WordsAt.same (w := w1) M1.out (Below.heap_setCell _ _ _ _ hne)
  · exact (t1.out.setCell _ (.inl rfl) _).drew
/-- set: the word stands there. -/
theorem set_nat (sb bm S k v : Nat) (g : Nat → Nat) (w : World) (h : MemAt w sb bm S g) (hk : k % 8 = 0) (hk1 : k < 18446744073709551616) (hv : v < 18446744073709551616) (hg : Good S (setW g k v)) :
    Calls Tryz.prog 82 #[.pointer (some ⟨sb, 0, none⟩), .int .u64 (k : Int), .int .u64 (v : Int)] w fun e w' => e = .returned (.tuple #[]) ∧ MemTo w w' sb bm S (setW g k v) := by
  by_cases h0 : v = 0
  · subst h0; exact set_zero sb bm S k g w h hk hk1 hg
  · exact set_some sb bm S k v g w h hk hk1 hv h0 hg
theorem set_any (sb bm S : Nat) (k v : Int) (g : Nat → Nat) (w : World) (h : MemAt w sb bm S g) (k0 : 0 ≤ k) (hk : k % 8 = 0) (hk1 : k < 18446744073709551616) (v0 : 0 ≤ v) (hv : v < 18446744073709551616) (hg : Good S (setW g k.toNat v.toNat)) :
    Calls Tryz.prog 82 #[.pointer (some ⟨sb, 0, none⟩), .int .u64 k, .int .u64 v] w fun e w' => e = .returned (.tuple #[]) ∧ MemTo w w' sb bm S (setW g k.toNat v.toNat) := by
  have := set_nat sb bm S k.toNat v.toNat g w h (by omega) (by omega) (by omega) hg
  rwa [Int.toNat_of_nonneg k0, Int.toNat_of_nonneg v0] at this
end Go.Proofs.YtgdagfhdimoklaaGreat.Mem
/-
  Contracts of Byte, Word, Pair, Used of package memory: what stands there, or the error. Conditions: addresses are below 2 to the 64.
-/
namespace Go.Proofs.YtgdagfhdimoklaaGreat.Mem
open Go.ChangeShapes Go.WideShapes Go.ChangeAt Go.RowKit Go.Maps
set_option maxHeartbeats 400000
set_option maxRecDepth 100000
theorem WordsAt.look {w : World} {b : Nat} {g : Nat → Nat} (h : WordsAt w b g) (k : Int) (k0 : 0 ≤ k) (hk : k % 8 = 0) (hk1 : k < 18446744073709551616) :
    (Instr.lookup 81 (.map (some b)) (.int .u64 k) false).run Tryz.prog w = .ok (.int .u64 ((word g k.toNat : Nat) : Int)) w := by
  obtain ⟨D, hown, hD⟩ := h
  have hkey := keyOf_int_mk (P := Tryz.prog) Tryz.underlying31 (wf_u64 (k := k.toNat) (by omega))
  obtain ⟨c, hrun, hat, _⟩ := hown.lookup_int lawU Tryz.underlying81 Tryz.underlying31 (zeroU w) hkey
  have e := hD.at_ k.toNat (by omega)
  have e2 : (elt (word g k.toNat)) = .lit (.int .u64 c) := e.symm.trans hat
  injection e2 with e2; injection e2 with _ e2
  rw [Int.toNat_of_nonneg k0] at hrun
  rw [hrun, ← e2]
theorem WordsAt.drewN {w : World} {b : Nat} {g : Nat → Nat} (h : WordsAt w b g) (n : Nat) : WordsAt (w.drewN n) b g := h.same rfl
/-- What Byte, Word, Pair read. -/
def rdB (S : Nat) (g : Nat → Nat) (a : Int) : Int := if mayI S a 1 1 = 0 then ((g a.toNat : Nat) : Int) else 0
def rdW (S : Nat) (g : Nat → Nat) (a : Int) : Int := if mayI S a 8 8 = 0 then ((word g a.toNat : Nat) : Int) else 0
def rdP (S : Nat) (g : Nat → Nat) (a : Int) (d : Nat) : Int := if mayI S a 16 16 = 0 then ((word g (a.toNat + d) : Nat) : Int) else 0
theorem word_any (sb bm S : Nat) (g : Nat → Nat) (a : Int) (w : World) (h : MemAt w sb bm S g) (h0 : 0 ≤ a) (h1 : a < 18446744073709551616) :
    Calls Tryz.prog 62 #[.pointer (some ⟨sb, 0, none⟩), .int .u64 a] w fun e w' => e = .returned (.tuple #[.int .u64 (rdW S g a), .int .i64 (mayI S a 8 8)]) ∧ w = w' := by
  obtain ⟨m2, hm2, c0, c1, c2, f1, f2⟩ := h.cells
  have hS := h.good.le
  by_cases hm : mayI S a 8 8 = 0
  · have H := Lib.hid (show rdW S g a = ((word g a.toNat : Nat) : Int) by unfold rdW; rw [if_pos hm])
    have hl := h.words.look a h0 (by unfold mayI at hm; split at hm <;> omega) h1
    go_enter Tryz.func62, Tryz.ntmps62
    go_wp2_with (go_at_call 76; refine (may_any sb S _ _ _ _ (by omega) (by omega) (by omega) (by omega) (by omega) (by omega) (by omega) (by omega) c0).mono ?_; rintro e w' ⟨rfl, rfl⟩)
    go_ret2
    rw [H.out, hm]
    exact ⟨rfl, rfl⟩
  · have H := Lib.hid (show rdW S g a = 0 by unfold rdW; rw [if_neg hm])
    go_enter Tryz.func62, Tryz.ntmps62
    go_wp2_with (go_at_call 76; refine (may_any sb S _ _ _ _ (by omega) (by omega) (by omega) (by omega) (by omega) (by omega) (by omega) (by omega) c0).mono ?_; rintro e w' ⟨rfl, rfl⟩)
    go_ret2
    rw [H.out]
    exact ⟨rfl, rfl⟩
theorem byte_calc (g : Nat → Nat) (hg : ∀ a, g a < 256) (a : Int) (h0 : 0 ≤ a) : ((word g (a - a % 8).toNat : Nat) : Int) / 2 ^ ((7 - a % 8) * 8).toNat % 256 = ((g a.toNat : Nat) : Int) := by
  have e := byte_of_word g hg a.toNat
  unfold byteW at e
  have e1 : (a - a % 8).toNat = a.toNat - a.toNat % 8 := by omega
  have e2 : ((7 - a % 8) * 8).toNat = 8 * (7 - a.toNat % 8) := by omega
  rw [e1, e2, ← e, Int.natCast_emod, Int.natCast_ediv, Int.natCast_pow]; rfl
theorem pair_any (sb bm S : Nat) (g : Nat → Nat) (a : Int) (w : World) (h : MemAt w sb bm S g) (h0 : 0 ≤ a) (h1 : a < 18446744073709551616) :
    Calls Tryz.prog 49 #[.pointer (some ⟨sb, 0, none⟩), .int .u64 a] w fun e w' => e = .returned (.tuple #[.int .u64 (rdP S g a 0), .int .u64 (rdP S g a 8), .int .i64 (mayI S a 16 16)]) ∧ ∃ n, w' = w.drewN n := by
  obtain ⟨m2, hm2, c0, c1, c2, f1, f2⟩ := h.cells
  have hS := h.good.le
  by_cases hm : mayI S a 16 16 = 0
  · have hb : a % 16 = 0 ∧ a + 16 ≤ S := by unfold mayI at hm; split at hm <;> (try split at hm) <;> omega
    obtain ⟨hb1, hb2⟩ := hb
    have H := Lib.hid (show rdP S g a 0 = ((word g a.toNat : Nat) : Int) by unfold rdP; rw [if_pos hm]; rfl)
    have H2 := Lib.hid (show rdP S g a 8 = ((word g (a + 8).toNat : Nat) : Int) by unfold rdP; rw [if_pos hm]; congr 2; omega)
    have hl := fun n => (h.words.drewN n).look a (by omega) (by omega) (by omega)
    have hl8 := fun n => (h.words.drewN n).look (a + 8) (by omega) (by omega) (by omega)
    have wr : IntKind.u64.wrap (a + 8) = a + 8 := by rw [IntKind.wrap_u64]; omega
    go_enter Tryz.func49, Tryz.ntmps49
    go_wp2_with (go_at_call 76; refine (may_any sb S _ _ _ _ (by omega) (by omega) (by omega) (by omega) (by omega) (by omega) (by omega) (by omega) c0).mono ?_; rintro e w' ⟨rfl, rfl⟩)
    go_quiet (fail)
    go_wp2
    go_ret3
    rw [H.out, H2.out, hm]
    exact ⟨rfl, _, rfl⟩
  · have H := Lib.hid (show ∀ d, rdP S g a d = 0 by intro d; unfold rdP; rw [if_neg hm])
    go_enter Tryz.func49, Tryz.ntmps49
    go_wp2_with (go_at_call 76; refine (may_any sb S _ _ _ _ (by omega) (by omega) (by omega) (by omega) (by omega) (by omega) (by omega) (by omega) c0).mono ?_; rintro e w' ⟨rfl, rfl⟩)
    go_ret3
    rw [H.out, H.out]
    exact ⟨rfl, 0, rfl⟩
end Go.Proofs.YtgdagfhdimoklaaGreat.Mem
/-
  Contracts of PutByte, PutWord, PutPair of package memory: it stands there then, or the error. Conditions: addresses and words are below 2 to the 64.
-/
namespace Go.Proofs.YtgdagfhdimoklaaGreat.Mem
open Go.ChangeShapes Go.WideShapes Go.ChangeAt Go.RowKit Go.Maps
set_option maxHeartbeats 400000
theorem may_zero {S a st n : Int} (h : mayI S a st n = 0) : a % st = 0 ∧ (n ≤ 0 ∨ a + n ≤ S) := by
  unfold mayI at h
  split at h
  · omega
  · rename_i h1
    split at h
    · omega
    · rename_i h2; exact ⟨by omega, by omega⟩
theorem Good.setW {S : Nat} {g : Nat → Nat} (h : Good S g) {k : Nat} (hk : k + 8 ≤ S) (v : Nat) : Good S (setW g k v) :=
  ⟨h.le, setW_lt h.lt k v, fun a ha => by unfold Mem.setW; rw [if_neg (by omega)]; exact h.out a ha⟩
theorem Good.setB {S : Nat} {g : Nat → Nat} (h : Good S g) {k : Nat} (hk : k < S) {v : Nat} (hv : v < 256) : Good S (setB g k v) :=
  ⟨h.le, setB_lt h.lt k v hv, fun a ha => by unfold Mem.setB; rw [if_neg (by omega)]; exact h.out a ha⟩
theorem setW_of {g g' : Nat → Nat} {k : Nat} (h : ∀ a, g' a < 256) (hg : ∀ a, ¬ (k ≤ a ∧ a < k + 8) → g' a = g a) : setW g k (word g' k) = g' := by
  funext a; unfold setW; split
  · rw [byteW_word g' h _ _ (by omega)]; congr 1; omega
  · rw [hg a (by assumption)]
def notN (a b : Nat) : Nat := Fld.ob (fun i => a.testBit i && !b.testBit i) 64
theorem notN_testBit (a b i : Nat) : (notN a b).testBit i = (decide (i < 64) && (a.testBit i && !b.testBit i)) := Fld.ob_testBit _ _ _
theorem notN_lt (a b : Nat) : notN a b < 18446744073709551616 := Fld.ob_lt64 _
theorem shlN_testBit (b s i : Nat) : (b * 2 ^ s % 18446744073709551616).testBit i = (decide (i < 64) && (decide (s ≤ i) && b.testBit (i - s))) := by
  rw [show (18446744073709551616 : Nat) = 2 ^ 64 from rfl, Nat.testBit_mod_two_pow, Nat.mul_comm, Nat.testBit_two_pow_mul]
theorem putByte_nat (g : Nat → Nat) (hg : ∀ a, g a < 256) (n b : Nat) (hb : b < 256) :
    notN (word g (n - n % 8)) (255 * 2 ^ ((7 - n % 8) * 8) % 18446744073709551616) ||| (b * 2 ^ ((7 - n % 8) * 8) % 18446744073709551616) = word (setB g n b) (n - n % 8) := by
  apply Nat.eq_of_testBit_eq; intro i
  rw [Nat.testBit_or, notN_testBit, shlN_testBit, shlN_testBit, word_testBit _ hg, word_testBit _ (setB_lt hg n b hb), show (255 : Nat) = 2 ^ 8 - 1 from rfl, Nat.testBit_two_pow_sub_one]
  by_cases hi : i < 64
  · by_cases hs : (7 - n % 8) * 8 ≤ i ∧ i - (7 - n % 8) * 8 < 8
    · obtain ⟨h1, h2⟩ := hs
      have e1 : n - n % 8 + (7 - i / 8) = n := by omega
      have e2 : i - (7 - n % 8) * 8 = i % 8 := by omega
      have e3 : setB g n b n = b := by unfold setB; rw [if_pos rfl]
      have h3 : i % 8 < 8 := by omega
      rw [e1, e2, e3]
      simp [hi, h1, h3]
    · have e1 : n - n % 8 + (7 - i / 8) ≠ n := by omega
      have e3 : setB g n b (n - n % 8 + (7 - i / 8)) = g (n - n % 8 + (7 - i / 8)) := by unfold setB; rw [if_neg e1]
      rw [e3]
      by_cases h1 : (7 - n % 8) * 8 ≤ i
      · have h2 : ¬ i - (7 - n % 8) * 8 < 8 := fun h => hs ⟨h1, h⟩
        have h4 : b.testBit (i - (7 - n % 8) * 8) = false := testBit_hi8 hb (by omega)
        simp [hi, h2, h4]
      · simp [hi, h1]
  · simp [hi]
theorem putByte_calc (g : Nat → Nat) (hg : ∀ a, g a < 256) (a v : Int) (h0 : 0 ≤ a) (v0 : 0 ≤ v) (v1 : v < 256) :
    bits BinOp.or IntKind.u64 (bits BinOp.andNot IntKind.u64 ((word g (a - a % 8).toNat : Nat) : Int) (IntKind.u64.wrap (255 * 2 ^ ((7 - a % 8) * 8).toNat))) (IntKind.u64.wrap (v * 2 ^ ((7 - a % 8) * 8).toNat)) =
      ((word (setB g a.toNat v.toNat) (a - a % 8).toNat : Nat) : Int) := by
  have e1 : (a - a % 8).toNat = a.toNat - a.toNat % 8 := by omega
  have e2 : ((7 - a % 8) * 8).toNat = (7 - a.toNat % 8) * 8 := by omega
  have e := putByte_nat g hg a.toNat v.toNat (by omega)
  rw [e1, e2, ← e]
  generalize (7 - a.toNat % 8) * 8 = s
  have f1 : ∀ b : Nat, IntKind.u64.wrap ((b : Int) * 2 ^ s) = ((b * 2 ^ s % 18446744073709551616 : Nat) : Int) := fun b => by
    rw [IntKind.wrap_u64, Int.natCast_emod, Int.natCast_mul, Int.natCast_pow]; rfl
  have f2 : IntKind.u64.wrap (255 * 2 ^ s) = ((255 * 2 ^ s % 18446744073709551616 : Nat) : Int) := f1 255
  have f3 : IntKind.u64.wrap (v * 2 ^ s) = ((v.toNat * 2 ^ s % 18446744073709551616 : Nat) : Int) := by
    have := f1 v.toNat; rwa [Int.toNat_of_nonneg v0] at this
  rw [f2, f3, Fld.bits_andNot_u64_nat _ _ (word_lt g hg _) (Nat.mod_lt _ (by decide))]
  exact bits_or_u64_nat _ _ (Fld.ob_lt64 _) (Nat.mod_lt _ (by decide))
def stW (S : Nat) (g : Nat → Nat) (a v : Int) : Nat → Nat := if mayI S a 8 8 = 0 then setW g a.toNat v.toNat else g
def stB (S : Nat) (g : Nat → Nat) (a v : Int) : Nat → Nat := if mayI S a 1 1 = 0 then setB g a.toNat v.toNat else g
def stP (S : Nat) (g : Nat → Nat) (a x y : Int) : Nat → Nat := if mayI S a 16 16 = 0 then setW (setW g a.toNat x.toNat) (a.toNat + 8) y.toNat else g
theorem putWord_any (sb bm S : Nat) (g : Nat → Nat) (a v : Int) (w : World) (h : MemAt w sb bm S g) (h0 : 0 ≤ a) (h1 : a < 18446744073709551616) (v0 : 0 ≤ v) (v1 : v < 18446744073709551616) :
    Calls Tryz.prog 58 #[.pointer (some ⟨sb, 0, none⟩), .int .u64 a, .int .u64 v] w fun e w' => e = .returned (.int .i64 (mayI S a 8 8)) ∧ MemTo w w' sb bm S (stW S g a v) := by
  obtain ⟨m2, hm2, c0, c1, c2, f1, f2⟩ := h.cells
  have hS := h.good.le
  by_cases hm : mayI S a 8 8 = 0
  · obtain ⟨q1, q2⟩ := may_zero hm
    have H := Lib.hid (show stW S g a v = setW g a.toNat v.toNat by unfold stW; rw [if_pos hm])
    go_enter Tryz.func58, Tryz.ntmps58
    go_wp2_with (first | (go_at_call 76; refine (may_any sb S _ _ _ _ (by omega) (by omega) (by omega) (by omega) (by omega) (by omega) (by omega) (by omega) c0).mono ?_; rintro e w' ⟨rfl, rfl⟩) | (go_at_call 82; refine (set_any sb bm S _ _ g _ h (by omega) (by omega) (by omega) (by omega) (by omega) (h.good.setW (by omega) _)).mono ?_; rintro e w' ⟨rfl, M⟩))
    go_ret
    exact ⟨ret_int hm.symm, by rw [H.out]; exact M⟩
  · have H := Lib.hid (show stW S g a v = g by unfold stW; rw [if_neg hm])
    go_enter Tryz.func58, Tryz.ntmps58
    go_wp2_with (go_at_call 76; refine (may_any sb S _ _ _ _ (by omega) (by omega) (by omega) (by omega) (by omega) (by omega) (by omega) (by omega) c0).mono ?_; rintro e w' ⟨rfl, rfl⟩)
    go_ret
    exact ⟨rfl, by rw [H.out]; exact h.to⟩
theorem MemTo.trans {w w1 w2 : World} {sb bm bm1 S : Nat} {g' : Nat → Nat} (hb : bm1 = bm ∨ w.heap.size ≤ bm1) (t : Turn w w1 sb bm) (h2 : MemTo w1 w2 sb bm1 S g') : MemTo w w2 sb bm S g' := by
  obtain ⟨b, a1, a2, a3⟩ := h2
  refine ⟨b, a1, ?_, t.trans a3 hb⟩
  rcases a2 with rfl | a2
  · exact hb
  · exact .inr (Nat.le_trans t.size a2)
theorem putPair_any (sb bm S : Nat) (g : Nat → Nat) (a x y : Int) (w : World) (h : MemAt w sb bm S g) (h0 : 0 ≤ a) (h1 : a < 18446744073709551616) (x0 : 0 ≤ x) (x1 : x < 18446744073709551616) (y0 : 0 ≤ y) (y1 : y < 18446744073709551616) :
    Calls Tryz.prog 81 #[.pointer (some ⟨sb, 0, none⟩), .int .u64 a, .int .u64 x, .int .u64 y] w fun e w' => e = .returned (.int .i64 (mayI S a 16 16)) ∧ MemTo w w' sb bm S (stP S g a x y) := by
  obtain ⟨m2, hm2, c0, c1, c2, f1, f2⟩ := h.cells
  have hS := h.good.le
  by_cases hm : mayI S a 16 16 = 0
  · obtain ⟨q1, q2⟩ := may_zero hm
    have H := Lib.hid (show stP S g a x y = setW (setW g a.toNat x.toNat) (a + 8).toNat y.toNat by unfold stP; rw [if_pos hm]; congr 1; omega)
    go_enter Tryz.func81, Tryz.ntmps81
    go_wp2_with (first | (go_at_call 76; refine (may_any sb S _ _ _ _ (by omega) (by omega) (by omega) (by omega) (by omega) (by omega) (by omega) (by omega) c0).mono ?_; rintro e w' ⟨rfl, rfl⟩) | fail)
    refine (set_any sb bm S _ _ g _ h (by omega) (by omega) (by omega) (by omega) (by omega) (h.good.setW (by omega) _)).mono ?_
    rintro e w1 ⟨rfl, bm1, M1, b1, t1⟩
    go_wp2_with (go_at_call 82; refine (set_any sb bm1 S _ _ _ _ M1 (by omega) (by omega) (by omega) (by omega) (by omega) (M1.good.setW (by omega) _)).mono ?_; rintro e w' ⟨rfl, M⟩)
    go_ret
    exact ⟨ret_int hm.symm, by rw [H.out]; exact M.trans b1 t1⟩
  · have H := Lib.hid (show stP S g a x y = g by unfold stP; rw [if_neg hm])
    go_enter Tryz.func81, Tryz.ntmps81
    go_wp2_with (go_at_call 76; refine (may_any sb S _ _ _ _ (by omega) (by omega) (by omega) (by omega) (by omega) (by omega) (by omega) (by omega) c0).mono ?_; rintro e w' ⟨rfl, rfl⟩)
    go_ret
    exact ⟨rfl, by rw [H.out]; exact h.to⟩
end Go.Proofs.YtgdagfhdimoklaaGreat.Mem
/-
  A memory that was made since a world W, and what each call in range does to it. Conditions: addresses and words are below 2 to the 64.
-/
namespace Go.Proofs.YtgdagfhdimoklaaGreat.Mem
open Go.ChangeShapes Go.WideShapes Go.ChangeAt Go.RowKit Go.Maps
set_option maxHeartbeats 400000
/-- Since W nothing that was there has turned, and there is a memory at sb. -/
def Has (W w : World) (sb S : Nat) (g : Nat → Nat) : Prop := ∃ bm, W.heap.size ≤ sb ∧ W.heap.size ≤ bm ∧ Below W.heap.size W w ∧ MemAt w sb bm S g
theorem Has.below {W w : World} {sb S : Nat} {g : Nat → Nat} (h : Has W w sb S g) : Below W.heap.size W w := by obtain ⟨_, _, _, h, _⟩ := h; exact h
theorem Has.good {W w : World} {sb S : Nat} {g : Nat → Nat} (h : Has W w sb S g) : Good S g := by obtain ⟨_, _, _, _, h⟩ := h; exact h.good
theorem Has.drewN {W w : World} {sb S : Nat} {g : Nat → Nat} (h : Has W w sb S g) (n : Nat) : Has W (w.drewN n) sb S g := by
  obtain ⟨bm, a, b, c, d⟩ := h
  exact ⟨bm, a, b, ⟨c.os, c.tape, c.output, c.size, c.block⟩, d.drewN n⟩
theorem Has.call {W w w' : World} {sb S : Nat} {g : Nat → Nat} (h : Has W w sb S g) (hb : Below w.heap.size w w') : Has W w' sb S g := by
  obtain ⟨bm, a, b, c, d⟩ := h
  exact ⟨bm, a, b, c.trans (hb.mono c.size), d.same (hb.block _ d.lt.1) (hb.block _ d.lt.2)⟩
theorem Has.to {W w w' : World} {sb bm S : Nat} {g g' : Nat → Nat} (a : W.heap.size ≤ sb) (b : W.heap.size ≤ bm) (c : Below W.heap.size W w) (_d : MemAt w sb bm S g) (k : MemTo w w' sb bm S g') : Has W w' sb S g' := by
  obtain ⟨bm', k1, k2, k3⟩ := k
  have hs := c.size
  refine ⟨bm', a, by omega, ⟨k3.os.trans c.os, k3.tape.trans c.tape, k3.output.trans c.output, Nat.le_trans hs k3.size, fun i hi => ?_⟩, k1⟩
  rw [k3.block i (by omega) (by omega) (by omega)]; exact c.block i hi
theorem may_ok {S a st n : Int} (h1 : a % st = 0) (h2 : a + n ≤ S) : mayI S a st n = 0 := by
  unfold mayI; rw [if_neg (by omega), if_neg (by omega)]
theorem hnew (s : Nat) (h1 : s ≤ 2199023255552) (w : World) :
    Calls Tryz.prog 20 #[.int .u64 (s : Int)] w fun e w' => e = .returned (.pointer (some ⟨w.heap.size + 1, 0, none⟩)) ∧ Has w w' (w.heap.size + 1) s (fun _ => 0) := by
  refine (new_any s (by omega) (by omega) w).mono ?_
  rintro e w' ⟨rfl, M, B⟩
  have e1 : (min (s : Int) 2199023255552).toNat = s := by omega
  rw [e1] at M
  exact ⟨rfl, _, by omega, Nat.le_refl _, B, M⟩
theorem hputWord {W w : World} {sb S : Nat} {g : Nat → Nat} (h : Has W w sb S g) (a v : Int) (h0 : 0 ≤ a) (h1 : a % 8 = 0) (h2 : a + 8 ≤ S) (v0 : 0 ≤ v) (v1 : v < 18446744073709551616) :
    Calls Tryz.prog 58 #[.pointer (some ⟨sb, 0, none⟩), .int .u64 a, .int .u64 v] w fun e w' => e = .returned (.int .i64 0) ∧ Has W w' sb S (setW g a.toNat v.toNat) := by
  obtain ⟨bm, a1, b1, c1, d1⟩ := h
  have hS := d1.good.le
  have hm : mayI S a 8 8 = 0 := may_ok h1 h2
  refine (putWord_any sb bm S g a v w d1 h0 (by omega) v0 v1).mono ?_
  rintro e w' ⟨rfl, M⟩
  unfold stW at M; rw [if_pos hm] at M
  exact ⟨by rw [hm], Has.to a1 b1 c1 d1 M⟩
theorem hputPair {W w : World} {sb S : Nat} {g : Nat → Nat} (h : Has W w sb S g) (a x y : Int) (h0 : 0 ≤ a) (h1 : a % 16 = 0) (h2 : a + 16 ≤ S) (x0 : 0 ≤ x) (x1 : x < 18446744073709551616) (y0 : 0 ≤ y) (y1 : y < 18446744073709551616) :
    Calls Tryz.prog 81 #[.pointer (some ⟨sb, 0, none⟩), .int .u64 a, .int .u64 x, .int .u64 y] w fun e w' => e = .returned (.int .i64 0) ∧ Has W w' sb S (setW (setW g a.toNat x.toNat) (a.toNat + 8) y.toNat) := by
  obtain ⟨bm, a1, b1, c1, d1⟩ := h
  have hS := d1.good.le
  have hm : mayI S a 16 16 = 0 := may_ok h1 h2
  refine (putPair_any sb bm S g a x y w d1 h0 (by omega) x0 x1 y0 y1).mono ?_
  rintro e w' ⟨rfl, M⟩
  unfold stP at M; rw [if_pos hm] at M
  exact ⟨by rw [hm], Has.to a1 b1 c1 d1 M⟩
theorem hword {W w : World} {sb S : Nat} {g : Nat → Nat} (h : Has W w sb S g) (a : Int) (h0 : 0 ≤ a) (h1 : a % 8 = 0) (h2 : a + 8 ≤ S) :
    Calls Tryz.prog 62 #[.pointer (some ⟨sb, 0, none⟩), .int .u64 a] w fun e w' => e = .returned (.tuple #[.int .u64 ((word g a.toNat : Nat) : Int), .int .i64 0]) ∧ w = w' := by
  obtain ⟨bm, a1, b1, c1, d1⟩ := h
  have hS := d1.good.le
  have hm : mayI S a 8 8 = 0 := may_ok h1 h2
  refine (word_any sb bm S g a w d1 h0 (by omega)).mono ?_
  rintro e w' ⟨rfl, rfl⟩
  unfold rdW; rw [if_pos hm, hm]; exact ⟨rfl, rfl⟩
theorem hpair {W w : World} {sb S : Nat} {g : Nat → Nat} (h : Has W w sb S g) (a : Int) (h0 : 0 ≤ a) (h1 : a % 16 = 0) (h2 : a + 16 ≤ S) :
    Calls Tryz.prog 49 #[.pointer (some ⟨sb, 0, none⟩), .int .u64 a] w fun e w' => e = .returned (.tuple #[.int .u64 ((word g a.toNat : Nat) : Int), .int .u64 ((word g (a.toNat + 8) : Nat) : Int), .int .i64 0]) ∧ Has W w' sb S g := by
  obtain ⟨bm, a1, b1, c1, d1⟩ := h
  have hS := d1.good.le
  have hm : mayI S a 16 16 = 0 := may_ok h1 h2
  refine (pair_any sb bm S g a w d1 h0 (by omega)).mono ?_
  rintro e w' ⟨rfl, n, rfl⟩
  unfold rdP; rw [if_pos hm, if_pos hm, hm]; exact ⟨rfl, Has.drewN ⟨bm, a1, b1, c1, d1⟩ n⟩
theorem hword' {W w : World} {sb S : Nat} {g : Nat → Nat} (h : Has W w sb S g) (a v : Int) (h0 : 0 ≤ a) (h1 : a % 8 = 0) (h2 : a + 8 ≤ S) (hv : ((word g a.toNat : Nat) : Int) = v) :
    Calls Tryz.prog 62 #[.pointer (some ⟨sb, 0, none⟩), .int .u64 a] w fun e w' => e = .returned (.tuple #[.int .u64 v, .int .i64 0]) ∧ w = w' := hv ▸ hword h a h0 h1 h2
theorem hpair' {W w : World} {sb S : Nat} {g : Nat → Nat} (h : Has W w sb S g) (a x y : Int) (h0 : 0 ≤ a) (h1 : a % 16 = 0) (h2 : a + 16 ≤ S) (hx : ((word g a.toNat : Nat) : Int) = x) (hy : ((word g (a.toNat + 8) : Nat) : Int) = y) :
    Calls Tryz.prog 49 #[.pointer (some ⟨sb, 0, none⟩), .int .u64 a] w fun e w' => e = .returned (.tuple #[.int .u64 x, .int .u64 y, .int .i64 0]) ∧ Has W w' sb S g := hx ▸ hy ▸ hpair h a h0 h1 h2
theorem one_support {k v : Nat} (hk : k % 8 = 0) (hv : v < 18446744073709551616) (hv0 : v ≠ 0) : ∀ x, x ∈ [k] ↔ x % 8 = 0 ∧ word (setW (fun _ => 0) k v) x ≠ 0 := fun x => by
  constructor
  · intro hx
    obtain rfl : x = k := by simpa using hx
    exact ⟨hk, by rw [word_setW_same (fun _ => by decide) _ hv]; exact hv0⟩
  · rintro ⟨h1, h2⟩
    by_cases e : x = k
    · simp [e]
    · rw [word_setW_other hk h1 e, word_eq_zero (fun _ _ => rfl)] at h2; exact absurd rfl h2
end Go.Proofs.YtgdagfhdimoklaaGreat.Mem
