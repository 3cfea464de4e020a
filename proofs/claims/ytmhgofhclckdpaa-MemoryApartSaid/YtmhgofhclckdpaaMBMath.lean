/-
  Plain facts on lists of bytes at addresses (the document's memory), and their cells. Conditions: none.
-/
import Derived.Test.YtmhgofhclckdpaaMEdge
namespace Go.Proofs.Ytmhgofhclckdpaa.Mem
open Go.ChangeShapes Go.WideShapes Go.ChangeAt Go.RowKit Go.Maps
set_option maxHeartbeats 400000
theorem infoR : (Try.prog.info? 69).map (fun i => (i.zero, i.size, i.bytes)) = some (some (.agg #[.int .u64 0, .int .u8 0]), 2, 16) := by kernel_rfl
def flatB : List (Nat × Nat) → List Value
  | [] => []
  | p :: r => .int .u64 (p.1 : Int) :: .int .u8 (p.2 : Int) :: flatB r
theorem flatB_one (P : List (Nat × Nat)) (k b : Nat) : flatB (P ++ [(k, b)]) = flatB P ++ [.int .u64 (k : Int), .int .u8 (b : Int)] := by
  induction P with
  | nil => rfl
  | cons p r ih => simp [flatB, ih]
theorem flatB_at : ∀ (P : List (Nat × Nat)) (i : Nat) (k b : Nat), P[i]? = some (k, b) → (flatB P)[i * 2]? = some (.int .u64 (k : Int)) ∧ (flatB P)[i * 2 + 1]? = some (.int .u8 (b : Int))
  | [], i, k, b, h => by simp at h
  | p :: r, 0, k, b, h => by simp at h; subst h; exact ⟨rfl, rfl⟩
  | p :: r, i + 1, k, b, h => by
    have := flatB_at r i k b (by simpa using h)
    rw [show (i + 1) * 2 = i * 2 + 1 + 1 by omega]
    simpa [flatB] using this
theorem two_oneB (x y : Int) : ∀ u ∈ [Value.int .u64 x, Value.int .u8 y], u.oneCell' = true := by
  intro u hu; simp at hu; rcases hu with rfl | rfl <;> rfl
/-- The cells of byte i of a list. -/
theorem rowB_at {w : World} {B cap : Nat} {ao : Option Addr} {l : List (Nat × Nat)} (h : w.ownsRow B 69 2 (.slice ao l.length cap) l.length (flatB l)) (i : Nat) (hi : i < l.length) :
    ∃ gb k b, ao = some ⟨gb, 0, none⟩ ∧ l[i]? = some (k, b) ∧ w.cell? ⟨gb, i * 2, none⟩ = some (.int .u64 (k : Int)) ∧ w.cell? ⟨gb, i * 2 + 1, none⟩ = some (.int .u8 (b : Int)) := by
  have hh := h
  rcases h.2 with ⟨_, hz⟩ | ⟨gb, cap', cur, hv, _⟩
  · omega
  · obtain rfl : ao = some ⟨gb, 0, none⟩ := by injection hv
    have hkb : l[i]? = some (l[i].1, l[i].2) := List.getElem?_eq_getElem hi
    obtain ⟨u1, u2⟩ := flatB_at l i _ _ hkb
    have cc := hh.cells (g := gb) rfl
    have k1 := cc _ _ u1
    have k2 := cc _ _ u2
    rw [addr_add] at k1 k2
    exact ⟨gb, _, _, rfl, hkb, k1, k2⟩
/-! ### What the document's functions answer -/
def getL : List (Nat × Nat) → Nat → Nat
  | [], _ => 0
  | p :: r, a => if p.1 = a then p.2 else getL r a
def putL (l : List (Nat × Nat)) (a b : Nat) : List (Nat × Nat) := l.filter (fun p => p.1 != a) ++ (if b = 0 then [] else [(a, b)])
def keepC (a n : Nat) (p : Nat × Nat) : Bool := decide (p.1 < a ∨ n ≤ p.1 - a)
def clrL (l : List (Nat × Nat)) (a n : Nat) : List (Nat × Nat) := l.filter (keepC a n)
/-- Of the bytes l those from f on, n of them, are laid into o from t on. -/
def layL (f t n : Nat) : List (Nat × Nat) → List (Nat × Nat) → List (Nat × Nat)
  | [], o => o
  | p :: r, o => layL f t n r (if f ≤ p.1 ∧ p.1 - f < n then putL o (t + p.1 - f) p.2 else o)
def cpL (l : List (Nat × Nat)) (f t n : Nat) : List (Nat × Nat) := layL f t n l (clrL l t n)
theorem getL_drop {l : List (Nat × Nat)} {i k b : Nat} (h : l[i]? = some (k, b)) (a : Nat) : getL (l.drop i) a = if k = a then b else getL (l.drop (i + 1)) a := by
  obtain ⟨hi, he⟩ := List.getElem?_eq_some_iff.1 h
  rw [List.drop_eq_getElem_cons hi, he]; rfl
theorem filter_step {l : List (Nat × Nat)} {i k b : Nat} (h : l[i]? = some (k, b)) (f : Nat × Nat → Bool) : (l.take (i + 1)).filter f = (l.take i).filter f ++ (if f (k, b) then [(k, b)] else []) := by
  rw [List.take_add_one, h, List.filter_append]
  cases hf : f (k, b) <;> simp [hf]
theorem getL_filter (f : Nat × Nat → Bool) (a : Nat) (h : ∀ b, f (a, b) = true) : ∀ l : List (Nat × Nat), getL (l.filter f) a = getL l a
  | [] => rfl
  | p :: r => by
    by_cases e : p.1 = a
    · have : f p = true := by have := h p.2; rwa [← e] at this
      rw [List.filter_cons_of_pos this]; simp [getL, e]
    · cases hf : f p
      · rw [List.filter_cons_of_neg (by simp [hf]), getL_filter f a h r]; simp [getL, e]
      · rw [List.filter_cons_of_pos hf]; simp only [getL, if_neg e]; exact getL_filter f a h r
theorem getL_none (f : Nat × Nat → Bool) (a : Nat) (h : ∀ b, f (a, b) = false) : ∀ l : List (Nat × Nat), getL (l.filter f) a = 0
  | [] => rfl
  | p :: r => by
    cases hf : f p
    · rw [List.filter_cons_of_neg (by simp [hf])]; exact getL_none f a h r
    · rw [List.filter_cons_of_pos hf]
      have e : p.1 ≠ a := fun e => by have := h p.2; rw [← e] at this; rw [show (p.1, p.2) = p from rfl, hf] at this; cases this
      simp only [getL, if_neg e]; exact getL_none f a h r
theorem getL_append (a : Nat) : ∀ (l m : List (Nat × Nat)), (∀ p ∈ l, p.1 ≠ a) → getL (l ++ m) a = getL m a
  | [], _, _ => rfl
  | p :: r, m, h => by
    simp only [List.cons_append, getL]
    rw [if_neg (h p (by simp)), getL_append a r m (fun q hq => h q (by simp [hq]))]
theorem getL_append0 (a : Nat) : ∀ (l : List (Nat × Nat)) (q : Nat × Nat), q.1 ≠ a → getL (l ++ [q]) a = getL l a
  | [], q, h => by simp [getL, h]
  | p :: r, q, h => by simp only [List.cons_append, getL]; rw [getL_append0 a r q h]
theorem getL_put (l : List (Nat × Nat)) (a b x : Nat) : getL (putL l a b) x = if x = a then b else getL l x := by
  unfold putL
  by_cases e : x = a
  · subst e
    rw [if_pos rfl, getL_append x _ _ (fun p hp => by simpa using (List.mem_filter.1 hp).2)]
    by_cases hb : b = 0
    · rw [if_pos hb, hb]; rfl
    · rw [if_neg hb]; simp [getL]
  · rw [if_neg e]
    have hf := getL_filter (fun p => p.1 != a) x (fun b => by simpa using e) l
    by_cases hb : b = 0
    · rw [if_pos hb, List.append_nil]; exact hf
    · rw [if_neg hb, getL_append0 x _ _ (fun h => e h.symm)]; exact hf
theorem getL_clr (l : List (Nat × Nat)) (a n x : Nat) : getL (clrL l a n) x = if a ≤ x ∧ x < a + n then 0 else getL l x := by
  unfold clrL
  by_cases h : a ≤ x ∧ x < a + n
  · rw [if_pos h]; exact getL_none _ _ (fun b => by simp [keepC]; omega) l
  · rw [if_neg h]; exact getL_filter _ _ (fun b => by simp [keepC]; omega) l
/-- What a list of bytes is: each address once, no byte 0. -/
structure TidyL (l : List (Nat × Nat)) : Prop where
  nodup : (l.map Prod.fst).Nodup
  nz : ∀ p ∈ l, p.2 ≠ 0 ∧ p.2 < 256
theorem TidyL.nil : TidyL [] := ⟨List.nodup_nil, by simp⟩
theorem TidyL.filter {l : List (Nat × Nat)} (h : TidyL l) (f : Nat × Nat → Bool) : TidyL (l.filter f) :=
  ⟨h.nodup.sublist (List.filter_sublist.map _), fun p hp => h.nz p (List.mem_filter.1 hp).1⟩
theorem TidyL.put {l : List (Nat × Nat)} (h : TidyL l) (a b : Nat) (hb : b < 256) : TidyL (putL l a b) := by
  have h1 := h.filter (fun p => p.1 != a)
  unfold putL
  by_cases e : b = 0
  · rw [if_pos e, List.append_nil]; exact h1
  · rw [if_neg e]
    refine ⟨?_, fun p hp => ?_⟩
    · rw [List.map_append]
      refine List.nodup_append.2 ⟨h1.nodup, by simp, ?_⟩
      intro x hx y hy e2
      simp at hy; subst hy; subst e2
      obtain ⟨p, hp, rfl⟩ := List.mem_map.1 hx
      have := (List.mem_filter.1 hp).2
      simp at this
    · rcases List.mem_append.1 hp with h2 | h2
      · exact h1.nz p h2
      · simp at h2; subst h2; exact ⟨e, hb⟩
theorem TidyL.get {l : List (Nat × Nat)} (h : TidyL l) {p : Nat × Nat} (hp : p ∈ l) : getL l p.1 = p.2 := by
  induction l with
  | nil => cases hp
  | cons q r ih =>
    simp only [getL]
    have hn := h.nodup
    simp only [List.map_cons, List.nodup_cons] at hn
    rcases List.mem_cons.1 hp with rfl | hp
    · rw [if_pos rfl]
    · rw [if_neg (show ¬ q.1 = p.1 from fun e => hn.1 (by rw [e]; exact List.mem_map_of_mem hp))]
      exact ih ⟨hn.2, fun p hp => h.nz p (by simp [hp])⟩ hp
/-- The list l has the bytes g. -/
structure Rel (S : Nat) (g : Nat → Nat) (l : List (Nat × Nat)) : Prop where
  tidy : TidyL l
  get : ∀ a, getL l a = g a
  good : Good S g
theorem Rel.few {S : Nat} {g : Nat → Nat} {l : List (Nat × Nat)} (h : Rel S g l) : l.length ≤ 2199023255552 := by
  have := nodup_le 2199023255552 (l.map Prod.fst) h.tidy.nodup (fun x hx => by
    obtain ⟨p, hp, rfl⟩ := List.mem_map.1 hx
    have h1 := h.tidy.get hp
    rw [h.get] at h1
    have h2 := (h.tidy.nz p hp).1
    have h3 := h.good.le
    rcases Nat.lt_or_ge p.1 S with h4 | h4
    · omega
    · exact absurd (h1.symm.trans (h.good.out _ h4)) h2)
  simpa using this
theorem Rel.put {S : Nat} {g : Nat → Nat} {l : List (Nat × Nat)} (h : Rel S g l) {a b : Nat} (ha : a < S) (hb : b < 256) : Rel S (setB g a b) (putL l a b) :=
  ⟨h.tidy.put a b hb, fun x => by rw [getL_put, h.get]; rfl, h.good.setB ha hb⟩
theorem Rel.clr {S : Nat} {g : Nat → Nat} {l : List (Nat × Nat)} (h : Rel S g l) (a n : Nat) : Rel S (clr g a n) (clrL l a n) :=
  ⟨h.tidy.filter _, fun x => by rw [getL_clr, h.get]; rfl, h.good.clr a n⟩
end Go.Proofs.Ytmhgofhclckdpaa.Mem
