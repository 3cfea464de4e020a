/-
  YtffpfceclhogoaaGreatGI: the contracts and plain facts of several texts, laid together. Conditions: those that each theorem names.
-/
import Derived.Test.YtffpfceclhogoaaGreatGA
import Derived.Test.YtffpfceclhogoaaGreatGC
import Derived.Lib.MinMax
import Derived.Deep.RegionHeld3
namespace Go.Proofs.YtffpfceclhogoaaGreat.Hs
open Fld
structure Inv (n : Nat) (L : Nat → List Bk) : Prop where
  pl : ∀ i, i < n → ∀ b ∈ L i, chainN b.k n = i
  un : ∀ i, i < n → ((L i).map Bk.k).Nodup
def MemT (n : Nat) (L : Nat → List Bk) (k : Ky) (v : Int) : Prop := (⟨k, v⟩ : Bk) ∈ L (chainN k n)
theorem Inv.nil (n : Nat) : Inv n (fun _ => []) := ⟨fun _ _ b hb => (by cases hb), fun _ _ => List.nodup_nil⟩
theorem mem_nil (n : Nat) (k : Ky) (v : Int) : ¬ MemT n (fun _ => []) k v := fun h => by cases h
theorem at_pos {l : List Bk} (hu : (l.map Bk.k).Nodup) {b : Bk} (hb : b ∈ l) : hasB l b.k = true ∧ at_ l (posN l b.k) = b := by
  have hh := has_mem.2 ⟨b, hb, rfl⟩
  refine ⟨hh, ?_⟩
  have h1 := at_mem (has_lt hh)
  have h2 := pos_key hh
  have inj : ∀ {m : List Bk}, (m.map Bk.k).Nodup → ∀ {x y : Bk}, x ∈ m → y ∈ m → x.k = y.k → x = y := by
    intro m
    induction m with
    | nil => intro _ x y h; cases h
    | cons c m ih =>
      intro hn x y hx hy e
      rw [List.map_cons, List.nodup_cons] at hn
      rcases List.mem_cons.1 hx with hx | hx <;> rcases List.mem_cons.1 hy with hy | hy
      · rw [hx, hy]
      · exact absurd (List.mem_map.2 ⟨y, hy, by rw [← e, hx]⟩) hn.1
      · exact absurd (List.mem_map.2 ⟨x, hx, by rw [e, hy]⟩) hn.1
      · exact ih hn.2 hx hy e
  exact inj hu h1 hb h2
section
variable {n : Nat} {L : Nat → List Bk}
theorem Inv.get (h : Inv n L) (hn : 1 ≤ n) {k : Ky} (hk : k.Ok) {v : Int} (hm : MemT n L k v) : getB n L k = true ∧ getV n L k = v ∧ 1 ≤ getN n L k ∧ getN n L k ≤ (lngL L n : Int) := by
  obtain ⟨h1, h2⟩ := at_pos (h.un _ (chain_lt k hn)) hm
  have hb : getB n L k = true := by unfold getB; rw [hk.may]; exact h1
  have hl := has_lt h1
  have := lng_one L (chain_lt k hn)
  refine ⟨hb, ?_, ?_, ?_⟩
  · unfold getV; rw [if_pos hb]; exact congrArg Bk.v h2
  · unfold getN; rw [if_pos hb]; omega
  · unfold getN; rw [if_pos hb]
    have : posN (L (chainN k n)) k < (L (chainN k n)).length := hl
    omega
theorem get_no {k : Ky} (hm : ∀ v, ¬ MemT n L k v) : hasB (L (chainN k n)) k = false := by
  cases e : hasB (L (chainN k n)) k
  · rfl
  · obtain ⟨b, hb, rfl⟩ := has_mem.1 e
    exact absurd hb (hm b.v)
theorem has_yes (h : Inv n L) (hn : 1 ≤ n) {k : Ky} {v : Int} (hm : MemT n L k v) : hasB (L (chainN k n)) k = true := (at_pos (h.un _ (chain_lt k hn)) hm).1
theorem setL_mem {c : Nat} {l : List Bk} {k : Ky} {v : Int} : MemT n (setL L c l) k v ↔ if chainN k n = c then (⟨k, v⟩ : Bk) ∈ l else MemT n L k v := by
  unfold MemT setL; split <;> rfl
/-- What Put does to a table with room. -/
theorem Inv.put (h : Inv n L) {bl : Int} (hn : 1 ≤ n) {k : Ky} (hk : k.Ok) (v : Int) (hroom : (lenL L n : Int) < bl) :
    (putE bl n L k = 0 ∧ (∀ x, ¬ MemT n L k x) ∧ Inv n (putT bl n L k v) ∧ (∀ k' v', MemT n (putT bl n L k v) k' v' ↔ MemT n L k' v' ∨ (k' = k ∧ v' = v)) ∧ lenL (putT bl n L k v) n = lenL L n + 1) ∨
    (putE bl n L k = 9 ∧ putT bl n L k v = L ∧ ∃ x, MemT n L k x) := by
  have hr : ¬ bl ≤ (lenL L n : Int) := by omega
  cases e : hasB (L (chainN k n)) k
  · left
    have hE : putE bl n L k = 0 := by unfold putE; rw [hk.may, e, if_neg (by simp), if_neg (by simp), if_neg hr]
    have hT : putT bl n L k v = setL L (chainN k n) (⟨k, v⟩ :: L (chainN k n)) := by unfold putT; rw [if_pos hE]
    have hno : ∀ x, ¬ MemT n L k x := fun x hx => by
      have := has_mem.2 ⟨_, hx, rfl⟩
      rw [e] at this; cases this
    refine ⟨hE, hno, ⟨fun i hi b hb => ?_, fun i hi => ?_⟩, fun k' v' => ?_, (put_len hn hE).1⟩
    · rw [hT] at hb
      by_cases f : i = chainN k n
      · subst f; rw [setL_same] at hb
        rcases List.mem_cons.1 hb with rfl | hb
        · rfl
        · exact h.pl _ hi b hb
      · rw [setL_other _ _ f] at hb; exact h.pl i hi b hb
    · rw [hT]
      by_cases f : i = chainN k n
      · subst f; rw [setL_same, List.map_cons, List.nodup_cons]
        refine ⟨fun hm => ?_, h.un _ hi⟩
        obtain ⟨b, hb, e2⟩ := List.mem_map.1 hm
        have := has_mem.2 ⟨b, hb, e2⟩
        rw [e] at this; cases this
      · rw [setL_other _ _ f]; exact h.un i hi
    · rw [hT, setL_mem]
      by_cases f : chainN k' n = chainN k n
      · rw [if_pos f, List.mem_cons, ← f]
        constructor
        · rintro (h1 | h1)
          · cases h1; exact .inr ⟨rfl, rfl⟩
          · exact .inl h1
        · rintro (h1 | ⟨rfl, rfl⟩)
          · exact .inr h1
          · exact .inl rfl
      · rw [if_neg f]
        constructor
        · exact .inl
        · rintro (h1 | ⟨rfl, rfl⟩)
          · exact h1
          · exact absurd rfl f
  · right
    have hE : putE bl n L k = 9 := by unfold putE; rw [hk.may, e, if_neg (by simp), if_pos rfl]
    refine ⟨hE, by unfold putT; rw [if_neg (by rw [hE]; decide)], ?_⟩
    obtain ⟨b, hb, rfl⟩ := has_mem.1 e
    exact ⟨b.v, hb⟩
theorem erase_mem {l : List Bk} (hu : (l.map Bk.k).Nodup) {k : Ky} (h : hasB l k = true) {b : Bk} : b ∈ l.eraseIdx (posN l k) ↔ b ∈ l ∧ b.k ≠ k := by
  have hlt := has_lt h
  have hkey := pos_key h
  have e1 : l = l.take (posN l k) ++ at_ l (posN l k) :: l.drop (posN l k + 1) := by
    have h2 : l[posN l k] = at_ l (posN l k) := by simp [at_, hlt]
    rw [← h2, ← List.drop_eq_getElem_cons hlt, List.take_append_drop]
  rw [List.eraseIdx_eq_take_drop_succ, List.mem_append]
  generalize posN l k = p at *
  generalize at_ l p = a at *
  constructor
  · intro hb
    refine ⟨?_, fun e => ?_⟩
    · rw [e1, List.mem_append, List.mem_cons]
      rcases hb with hb | hb
      · exact .inl hb
      · exact .inr (.inr hb)
    · rw [e1, List.map_append, List.map_cons, List.nodup_append] at hu
      obtain ⟨_, h3, h4⟩ := hu
      rcases hb with hb | hb
      · exact h4 b.k (List.mem_map.2 ⟨b, hb, rfl⟩) a.k List.mem_cons_self (by rw [e, hkey])
      · rw [List.nodup_cons] at h3
        exact h3.1 (List.mem_map.2 ⟨b, hb, by rw [e, hkey]⟩)
  · rintro ⟨hb, hne⟩
    rw [e1, List.mem_append, List.mem_cons] at hb
    rcases hb with hb | rfl | hb
    · exact .inl hb
    · exact absurd hkey hne
    · exact .inr hb
theorem Inv.cut (h : Inv n L) (hn : 1 ≤ n) {k : Ky} (hk : k.Ok) {v : Int} (hm : MemT n L k v) :
    setE n L k = 0 ∧ Inv n (cutT n L k) ∧ (∀ k' v', MemT n (cutT n L k) k' v' ↔ MemT n L k' v' ∧ k' ≠ k) ∧ lenL (cutT n L k) n + 1 = lenL L n := by
  have hb : getB n L k = true := (h.get hn hk hm).1
  have hh := has_yes h hn hm
  have hu := h.un _ (chain_lt k hn)
  have hT : cutT n L k = setL L (chainN k n) ((L (chainN k n)).eraseIdx (posN (L (chainN k n)) k)) := by unfold cutT; rw [if_pos hb]
  refine ⟨by unfold setE; rw [if_pos hb], ⟨fun i hi b hb2 => ?_, fun i hi => ?_⟩, fun k' v' => ?_, cut_len hn hb⟩
  · rw [hT] at hb2
    by_cases f : i = chainN k n
    · subst f; rw [setL_same] at hb2; exact h.pl _ hi b (List.mem_of_mem_eraseIdx hb2)
    · rw [setL_other _ _ f] at hb2; exact h.pl i hi b hb2
  · rw [hT]
    by_cases f : i = chainN k n
    · subst f; rw [setL_same]; exact hu.sublist ((List.eraseIdx_sublist ..).map _)
    · rw [setL_other _ _ f]; exact h.un i hi
  · rw [hT, setL_mem]
    by_cases f : chainN k' n = chainN k n
    · rw [if_pos f, erase_mem hu hh]; unfold MemT; rw [f]
    · rw [if_neg f]
      exact ⟨fun h1 => ⟨h1, fun e => f (by rw [e])⟩, fun h1 => h1.1⟩
theorem not_get {k : Ky} (hm : ∀ v, ¬ MemT n L k v) : getB n L k = false := by unfold getB; rw [get_no hm]; simp
theorem all_nodup (h : Inv n L) : ∀ j, j ≤ n → ((allL L j).map Bk.k).Nodup
  | 0, _ => List.nodup_nil
  | j + 1, hj => by
    unfold allL
    rw [List.map_append, List.nodup_append]
    refine ⟨all_nodup h j (by omega), h.un j (by omega), fun a ha b hb e => ?_⟩
    obtain ⟨x, hx, rfl⟩ := List.mem_map.1 ha
    obtain ⟨y, hy, rfl⟩ := List.mem_map.1 hb
    obtain ⟨i, hi, hx⟩ := mem_all.1 hx
    have h1 := h.pl i (by omega) x hx
    have h2 := h.pl j (by omega) y hy
    rw [e] at h1; omega
theorem Inv.res (h : Inv n L) (hn : 1 ≤ n) (m : Nat) : Inv m (resT L n m) ∧ ∀ k v, MemT m (resT L n m) k v ↔ MemT n L k v := by
  refine ⟨⟨fun i _ b hb => ?_, fun i _ => ?_⟩, fun k v => ?_⟩
  · unfold resT at hb
    simpa using (List.mem_filter.1 hb).2
  · unfold resT
    exact (all_nodup h n (Nat.le_refl _)).sublist (List.filter_sublist.map _)
  · unfold MemT resT
    rw [List.mem_filter, mem_all]
    constructor
    · rintro ⟨⟨i, hi, hb⟩, _⟩
      have := h.pl i hi _ hb
      dsimp only at this
      rw [this]; exact hb
    · intro hb
      exact ⟨⟨_, chain_lt k hn, hb⟩, by simp⟩
end
theorem no_cut {n : Nat} {L : Nat → List Bk} {k : Ky} (h : getB n L k = false) : setE n L k = 10 ∧ cutT n L k = L ∧ (∀ v, setT n L k v = L) ∧ getV n L k = 0 :=
  ⟨by unfold setE; rw [h]; rfl, by unfold cutT; rw [h]; rfl, fun v => by unfold setT; rw [h]; rfl, by unfold getV; rw [h]; rfl⟩
/-! ### A table into which keys were put, one behind the other -/
/-- The table has just the keys of the list, each with its number. -/
structure Puts (n : Nat) (L : Nat → List Bk) (own : List Ky) : Prop where
  inv : Inv n L
  mem : ∀ k v, MemT n L k v ↔ ∃ i : Nat, own[i]? = some k ∧ v = (i : Int)
  un : own.Nodup
  len : lenL L n = own.length
  ok : ∀ k ∈ own, k.Ok
theorem tlen_nil (n : Nat) : lenL (fun _ => []) n = 0 := by unfold lenL; rw [all_empty (fun _ _ => rfl)]; rfl
theorem Puts.nil (n : Nat) : Puts n (fun _ => []) [] := ⟨Inv.nil n, fun k v => ⟨fun h => absurd h (mem_nil n k v), fun ⟨i, h, _⟩ => by simp at h⟩, List.nodup_nil, tlen_nil n, fun k h => by cases h⟩
theorem Puts.put {n : Nat} {L : Nat → List Bk} {own : List Ky} (h : Puts n L own) (hn : 1 ≤ n) {k : Ky} (hk : k.Ok) {bl : Int} (hr : (own.length : Int) < bl) :
    (putE bl n L k = 0 ∧ Puts n (putT bl n L k (own.length : Int)) (own ++ [k])) ∨ (putE bl n L k = 9 ∧ putT bl n L k (own.length : Int) = L ∧ Puts n L own) := by
  rcases h.inv.put (bl := bl) hn hk (own.length : Int) (by rw [h.len]; exact hr) with ⟨h1, h2, h3, h4, h5⟩ | ⟨h1, h2, _⟩
  · left
    have hno : k ∉ own := fun hm => by
      obtain ⟨i, hi, e⟩ := List.getElem_of_mem hm
      exact h2 (i : Int) ((h.mem k i).2 ⟨i, by rw [List.getElem?_eq_getElem hi, e], rfl⟩)
    refine ⟨h1, h3, fun k' v' => ?_, List.nodup_append.2 ⟨h.un, by simp, fun a ha b hb e => ?_⟩, by rw [h5, h.len]; simp, fun x hx => ?_⟩
    · rw [h4, h.mem]
      constructor
      · rintro (⟨i, hi, e⟩ | ⟨rfl, rfl⟩)
        · exact ⟨i, by rw [List.getElem?_append_left (List.getElem?_eq_some_iff.1 hi).1]; exact hi, e⟩
        · exact ⟨own.length, by simp, rfl⟩
      · rintro ⟨i, hi, e⟩
        by_cases f : i < own.length
        · rw [List.getElem?_append_left f] at hi; exact .inl ⟨i, hi, e⟩
        · have hl := (List.getElem?_eq_some_iff.1 hi).1
          simp at hl
          obtain rfl : i = own.length := by omega
          simp at hi
          exact .inr ⟨hi.symm, e⟩
    · obtain rfl : b = k := by simpa using hb
      subst e; exact hno ha
    · rcases List.mem_append.1 hx with hx | hx
      · exact h.ok x hx
      · obtain rfl : x = k := by simpa using hx
        exact hk
  · exact .inr ⟨h1, h2, h⟩
/-- Behind a Cut of one of the keys. -/
theorem Puts.cut {n : Nat} {L : Nat → List Bk} {own : List Ky} (h : Puts n L own) (hn : 1 ≤ n) {q : Nat} {k : Ky} (hq : own[q]? = some k) :
    setE n L k = 0 ∧ getB n (cutT n L k) k = false ∧ lenL (cutT n L k) n + 1 = own.length ∧ ∀ i x, own[i]? = some x → i ≠ q → getB n (cutT n L k) x = true ∧ getV n (cutT n L k) x = (i : Int) := by
  have hm := (h.mem k q).2 ⟨q, hq, rfl⟩
  have hk := h.ok k (List.mem_of_getElem? hq)
  obtain ⟨a, b, c, d⟩ := h.inv.cut hn hk hm
  refine ⟨a, not_get (fun v hv => ((c k v).1 hv).2 rfl), by rw [d, h.len], fun i x hi hne => ?_⟩
  have hx := h.ok x (List.mem_of_getElem? hi)
  have hne2 : x ≠ k := fun e => by
    rw [e] at hi
    have h1 := (List.getElem?_eq_some_iff.1 hi); have h2 := (List.getElem?_eq_some_iff.1 hq)
    obtain ⟨l1, e1⟩ := h1; obtain ⟨l2, e2⟩ := h2
    exact hne ((List.getElem_inj h.un).1 (e1.trans e2.symm))
  have := b.get hn hx ((c x (i : Int)).2 ⟨(h.mem x i).2 ⟨i, hi, rfl⟩, hne2⟩)
  exact ⟨this.1, this.2.1⟩
theorem Puts.at {n : Nat} {L : Nat → List Bk} {own : List Ky} (h : Puts n L own) {i : Nat} {k : Ky} (hi : own[i]? = some k) : MemT n L k (i : Int) := (h.mem k i).2 ⟨i, hi, rfl⟩
end Go.Proofs.YtffpfceclhogoaaGreat.Hs
namespace Go.Proofs.YtffpfceclhogoaaGreat.Hs
open Fld
open Go.ChangeShapes Go.WideShapes Go.ChangeAt Go.RowKit Go.Maps
set_option maxHeartbeats 1000000
set_option maxRecDepth 100000
abbrev POwn (w : World) (v : Value) (l : List Bk) : Prop := w.ownsRow 0 151 4 v l.length (bkL l)
/-- The chains of a table of the document's: s is the slice, U the chains' slices. -/
structure ChW (w : World) (s : Value) (n : Nat) (L : Nat → List Bk) (U : Nat → Value) : Prop where
  outer : w.ownsRow 0 124 1 s n ((List.range n).map U)
  rows : ∀ i, i < n → POwn w (U i) (L i)
  n0 : 1 ≤ n
  n1 : n ≤ 1000000
  few : lenL L n ≤ 1073741824
/-- Its blocks. -/
def DocB (s : Value) (n : Nat) (U : Nat → Value) (k : Nat) : Prop := s.ownBlock = some k ∨ ∃ i, i < n ∧ (U i).ownBlock = some k
section
variable {w w' : World} {s : Value} {n : Nat} {L : Nat → List Bk} {U : Nat → Value}
theorem ChW.lt (h : ChW w s n L U) {k : Nat} (hk : DocB s n U k) : k < w.heap.size := by
  rcases hk with hk | ⟨i, hi, hk⟩
  · exact (h.outer.lt k hk).2
  · exact ((h.rows i hi).lt k hk).2
theorem ChW.same (h : ChW w s n L U) (hk : ∀ k, DocB s n U k → w'.heap[k]? = w.heap[k]?) : ChW w' s n L U :=
  ⟨own_same h.outer (fun g hg => hk g (.inl hg)), fun i hi => own_same (h.rows i hi) (fun g hg => hk g (.inr ⟨i, hi, hg⟩)), h.n0, h.n1, h.few⟩
theorem ChW.low (h : ChW w s n L U) (hb : Below w.heap.size w w') : ChW w' s n L U := h.same (fun k hk => hb.block k (h.lt hk))
theorem ChW.drew (h : ChW w s n L U) : ChW w.drew s n L U := h.low (Below.refl _ w).drew
theorem ChW.drewN (h : ChW w s n L U) (m : Nat) : ChW (w.drewN m) s n L U := h.low (below_drewN (Below.refl _ w) m)
theorem ChW.alloc (h : ChW w s n L U) (o : Obj) : ChW (w.alloc o) s n L U := h.low ((Below.refl _ w).alloc (Nat.le_refl _) o)
theorem ChW.form (h : ChW w s n L U) : ∃ g cap, s = .slice (some ⟨g, 0, none⟩) n cap ∧ s.ownBlock = some g ∧ n ≤ cap ∧ cap ≤ 9223372036854775807 := by
  rcases own_form h.outer with ⟨_, h0⟩ | ⟨g, cap, hv, hg, a, b⟩
  · have := h.n0; omega
  · exact ⟨g, cap, hv, hg, a, by simpa [maxLen] using b⟩
theorem ChW.cell (h : ChW w s n L U) {g : Nat} (hg : s.ownBlock = some g) {i : Nat} (hi : i < n) : w.cell? ⟨g, i, none⟩ = some (U i) := by
  have h1 := h.outer.cells hg i (U i) (by simp [hi])
  rwa [addr_lit, Nat.zero_add] at h1
theorem pown_shape {v : Value} {l : List Bk} (h : POwn w v l) : ∃ ao cap, v = .slice ao l.length cap := own_shape3 h
theorem pown_cells {v : Value} {l : List Bk} {g : Nat} (h : POwn w v l) (hg : v.ownBlock = some g) {i : Nat} (hi : i < l.length) : RowC w g l i := own_rowC h hg hi
theorem len_le (L : Nat → List Bk) : ∀ {j n : Nat}, j ≤ n → lenL L j ≤ lenL L n := by
  intro j n h
  induction n with
  | zero => obtain rfl : j = 0 := by omega
            exact Nat.le_refl _
  | succ n ih =>
    by_cases e : j = n + 1
    · rw [e]; exact Nat.le_refl _
    · rw [len_succ]; have := ih (by omega); omega
theorem lng_succ (L : Nat → List Bk) (n : Nat) : lngL L (n + 1) = max (lngL L n) (L n).length := rfl
end
theorem tlen_any {s : Value} {n : Nat} {L : Nat → List Bk} {U : Nat → Value} (bl : Int) (w : World) (h : ChW w s n L U) :
    Calls Tryz.prog 102 #[.agg #[.int .i64 bl, s]] w fun e w' => e = .returned (.int .i64 (lenL L n : Int)) ∧ Below w.heap.size w w' := by
  obtain ⟨g, cap, rfl, hg, hnc, hcm⟩ := h.form
  have hn1 := h.n1
  have hfew := h.few
  have b1 : Below w.heap.size w (w.alloc (.cells #[.int .i64 bl, .slice (some ⟨g, 0, none⟩) n cap] 28)) := (Below.refl _ _).alloc (Nat.le_refl _) _
  have H1 := h.alloc (.cells #[.int .i64 bl, .slice (some ⟨g, 0, none⟩) n cap] 28)
  have x1 := heap_alloc_new w (.cells #[.int .i64 bl, .slice (some ⟨g, 0, none⟩) n cap] 28)
  clear h
  go_enter Tryz.func102, Tryz.ntmps102
  go_wp2_with fail
  generalize World.alloc w _ = W1 at *
  have y1 : W1.cell? ⟨w.heap.size, 1, none⟩ = some (.slice (some ⟨g, 0, none⟩) n cap) := by simp [World.cell?, x1]
  clear x1
  go_loopw [3, 4] (fun a i wr => ∃ j : Nat, a = .int .i64 (lenL L j : Int) ∧ i = .int .i64 (j : Int) ∧ j ≤ n ∧ wr = W1) (fun _ i _ => n - (RowKit.intOf i).toNat)
  case atStart => exact ⟨0, rfl, rfl, Nat.zero_le _, rfl⟩
  case round =>
    obtain ⟨j, rfl, rfl, hj, rfl⟩ := hrel
    by_cases hlt : j < n
    · have hc := H1.cell hg hlt
      obtain ⟨ao, capj, hU⟩ := pown_shape (H1.rows j hlt)
      rw [hU] at hc
      have hlt' : (j : Int) < (n : Int) := by omega
      have hs := Lib.hid (len_succ L j)
      have hle := len_le L (show j + 1 ≤ n by omega)
      rw [hs.out] at hle
      clear hU
      generalize lenL L j = a at *
      generalize (L j).length = b at *
      go_wp2_with fail
      go_roundw
      case rel => exact ⟨j + 1, by rw [hs.out]; go_num, by go_num, by omega, by trivial⟩
      case measure => simp [RowKit.intOf]; omega
    · obtain rfl : n = j := by omega
      go_wp2_with fail
      go_ret
      exact ⟨rfl, b1⟩
theorem tlong_any {s : Value} {n : Nat} {L : Nat → List Bk} {U : Nat → Value} (bl : Int) (w : World) (h : ChW w s n L U) :
    Calls Tryz.prog 44 #[.agg #[.int .i64 bl, s]] w fun e w' => e = .returned (.int .i64 (lngL L n : Int)) ∧ Below w.heap.size w w' := by
  obtain ⟨g, cap, rfl, hg, hnc, hcm⟩ := h.form
  have hn1 := h.n1
  have hfew := h.few
  have b1 : Below w.heap.size w (w.alloc (.cells #[.int .i64 bl, .slice (some ⟨g, 0, none⟩) n cap] 28)) := (Below.refl _ _).alloc (Nat.le_refl _) _
  have H1 := h.alloc (.cells #[.int .i64 bl, .slice (some ⟨g, 0, none⟩) n cap] 28)
  have x1 := heap_alloc_new w (.cells #[.int .i64 bl, .slice (some ⟨g, 0, none⟩) n cap] 28)
  clear h
  go_enter Tryz.func44, Tryz.ntmps44
  go_wp2_with fail
  generalize World.alloc w _ = W1 at *
  have y1 : W1.cell? ⟨w.heap.size, 1, none⟩ = some (.slice (some ⟨g, 0, none⟩) n cap) := by simp [World.cell?, x1]
  clear x1
  go_loopw [3, 4] (fun a i wr => ∃ j : Nat, a = .int .i64 (lngL L j : Int) ∧ i = .int .i64 (j : Int) ∧ j ≤ n ∧ wr = W1) (fun _ i _ => n - (RowKit.intOf i).toNat)
  case atStart => exact ⟨0, rfl, rfl, Nat.zero_le _, rfl⟩
  case round =>
    obtain ⟨j, rfl, rfl, hj, rfl⟩ := hrel
    by_cases hlt : j < n
    · have hc := H1.cell hg hlt
      obtain ⟨ao, capj, hU⟩ := pown_shape (H1.rows j hlt)
      rw [hU] at hc
      have hlt' : (j : Int) < (n : Int) := by omega
      have hs := Lib.hid (lng_succ L j)
      have hmx : ((lngL L (j + 1) : Nat) : Int) = max (lngL L j : Int) ((L j).length : Int) := by rw [hs.out]; omega
      have HX := Lib.hid hmx
      clear hU hmx
      generalize lngL L j = a at *
      generalize (L j).length = b at *
      go_wp2_with fail
      go_roundw
      case rel => exact ⟨j + 1, by rw [HX.out], by go_num, by omega, by trivial⟩
      case measure => simp [RowKit.intOf]; omega
    · obtain rfl : n = j := by omega
      go_wp2_with fail
      go_ret
      exact ⟨rfl, b1⟩
theorem ret_place {a b : Int} (h : a = b) : Ending.returned (.int .i64 b) = .returned (.int .i64 a) := by rw [h]
theorem rat_any (v : Value) (l : List Bk) (k : Ky) (w : World) (h : POwn w v l) (hl : l.length ≤ 1073741824) :
    Calls Tryz.prog 100 #[v, .agg #[.int .i64 k.sp, .int .u64 k.va, .int .i64 k.sz]] w fun e w' => e = .returned (.int .i64 (placeI l k)) ∧ Below w.heap.size w w' := by
  have b1 : Below w.heap.size w (w.alloc (.cells #[.int .i64 k.sp, .int .u64 k.va, .int .i64 k.sz] 114)) := (Below.refl _ _).alloc (Nat.le_refl _) _
  have h1 := own_same h (w' := w.alloc (.cells #[.int .i64 k.sp, .int .u64 k.va, .int .i64 k.sz] 114)) (fun q hq => Below.heap_alloc w _ q (h.lt q hq).2)
  obtain ⟨x0, x1, x2⟩ := key_cells (heap_alloc_new w (.cells #[.int .i64 k.sp, .int .u64 k.va, .int .i64 k.sz] 114))
  rcases own_form h1 with ⟨rfl, h0⟩ | ⟨g, cap, rfl, hgb, hnc, hcm⟩
  · obtain rfl : l = [] := List.eq_nil_of_length_eq_zero h0
    clear h h1 x0 x1 x2
    go_enter Tryz.func100, Tryz.ntmps100
    go_wp2_with fail
    go_loopw [5] (fun i wr => i = .int .i64 0 ∧ wr = w.alloc (.cells #[.int .i64 k.sp, .int .u64 k.va, .int .i64 k.sz] 114)) (fun _ _ => 0)
    case atStart => exact ⟨rfl, rfl⟩
    case round =>
      obtain ⟨rfl, rfl⟩ := hrel
      go_wp2_with fail
      go_ret
      exact ⟨rfl, b1⟩
  · have hcell := fun i hi => pown_cells h1 hgb (i := i) hi
    unfold maxLen at hcm
    clear h h1 hgb
    go_enter Tryz.func100, Tryz.ntmps100
    go_wp2_with fail
    generalize World.alloc w _ = W1 at *
    go_loopw [5] (fun i wr => ∃ j m : Nat, j ≤ l.length ∧ i = .int .i64 (j : Int) ∧ (∀ i, i < j → keyEq (at_ l i).k k = false) ∧ wr = W1.drewN m) (fun i _ => l.length - (RowKit.intOf i).toNat)
    case atStart => exact ⟨0, 0, by omega, rfl, fun k hk => absurd hk (Nat.not_lt_zero k), rfl⟩
    case round =>
      obtain ⟨j, m, hj, rfl, hno, rfl⟩ := hrel
      by_cases hlt : j < l.length
      · obtain ⟨y0, y1, y2, y3⟩ := hcell j hlt
        have hlt' : (j : Int) < (l.length : Int) := by omega
        have HK := kk_is (at_ l j).k k
        have HN := Lib.hid hno
        clear hno hcell
        go_wp2_with fail
        cases hq : keyEq (at_ l j).k k
        · rw [hq] at HK
          go_quiet (fail)
          go_wp2_with fail
          go_roundw
          case rel => exact ⟨j + 1, m + nq, by omega, by go_num, fun k hk => (by by_cases e : k = j; rw [e]; exact hq; exact HN.out k (by omega)), rfl⟩
          case measure => simp [RowKit.intOf]; omega
        · rw [hq] at HK
          obtain ⟨_, _, p3⟩ := place_here hlt HN.out hq
          go_quiet (fail)
          go_wp2_with fail
          go_ret
          exact ⟨ret_place p3, by rw [World.drewN_drewN]; exact below_drewN b1 _⟩
      · obtain rfl : l.length = j := by omega
        obtain ⟨_, p⟩ := place_none (l := l) (k := k) (fun i hi => hno i hi)
        clear hno hcell
        go_wp2_with fail
        go_ret
        exact ⟨ret_place p, below_drewN b1 _⟩
end Go.Proofs.YtffpfceclhogoaaGreat.Hs
namespace Go.Proofs.YtffpfceclhogoaaGreat.Hs
open Fld
open Go.ChangeShapes Go.WideShapes Go.ChangeAt Go.RowKit Go.Maps
set_option maxHeartbeats 1000000
set_option maxRecDepth 100000
/-- A table and a key in boxes. -/
structure DB (w : World) (tb : Nat) (bl : Int) (s : Value) (n : Nat) (L : Nat → List Bk) (U : Nat → Value) (kb : Nat) (k : Ky) : Prop where
  ch : ChW w s n L U
  tx : w.heap[tb]? = some (.cells #[.int .i64 bl, s] 28 (0, 0))
  kx : w.heap[kb]? = some (.cells #[.int .i64 k.sp, .int .u64 k.va, .int .i64 k.sz] 114 (0, 0))
section
variable {w w' : World} {tb kb n : Nat} {bl : Int} {s : Value} {L : Nat → List Bk} {U : Nat → Value} {k : Ky}
theorem DB.low (h : DB w tb bl s n L U kb k) (hb : Below w.heap.size w w') : DB w' tb bl s n L U kb k := ⟨h.ch.low hb, blk_low h.tx hb, blk_low h.kx hb⟩
theorem DB.drew (h : DB w tb bl s n L U kb k) : DB w.drew tb bl s n L U kb k := h.low (Below.refl _ w).drew
theorem DB.drewN (h : DB w tb bl s n L U kb k) (m : Nat) : DB (w.drewN m) tb bl s n L U kb k := h.low (below_drewN (Below.refl _ w) m)
theorem DB.alloc (h : DB w tb bl s n L U kb k) (o : Obj) : DB (w.alloc o) tb bl s n L U kb k := h.low ((Below.refl _ w).alloc (Nat.le_refl _) o)
theorem DB.new (h : ChW w s n L U) (bl : Int) (k : Ky) : DB ((w.alloc (.cells #[.int .i64 bl, s] 28)).alloc (.cells #[.int .i64 k.sp, .int .u64 k.va, .int .i64 k.sz] 114)) w.heap.size bl s n L U (w.heap.size + 1) k := by
  refine ⟨(h.alloc _).alloc _, blk_low (heap_alloc_new w _) ((Below.refl _ _).alloc (Nat.le_refl _) _), ?_⟩
  have := heap_alloc_new (w.alloc (.cells #[.int .i64 bl, s] 28)) (.cells #[.int .i64 k.sp, .int .u64 k.va, .int .i64 k.sz] 114)
  rwa [World.size_alloc] at this
theorem t_cells {t : TypeId} (h : w.heap[tb]? = some (.cells #[.int .i64 bl, s] t (0, 0))) : w.cell? ⟨tb, 0, none⟩ = some (.int .i64 bl) ∧ w.cell? ⟨tb, 1, none⟩ = some s := ⟨by simp [World.cell?, h], by simp [World.cell?, h]⟩
theorem DB.sc (h : DB w tb bl s n L U kb k) {g : Nat} (hg : s.ownBlock = some g) {c : Nat} (hc : c < n) {v : Value} (hv : U c = v) : (w.cell? ⟨tb, 0, none⟩ = some (.int .i64 bl) ∧ w.cell? ⟨tb, 1, none⟩ = some s) ∧ (w.cell? ⟨kb, 0, none⟩ = some (.int .i64 k.sp) ∧ w.cell? ⟨kb, 1, none⟩ = some (.int .u64 k.va) ∧ w.cell? ⟨kb, 2, none⟩ = some (.int .i64 k.sz)) ∧ w.cell? ⟨g, c, none⟩ = some v :=
  ⟨t_cells h.tx, key_cells h.kx, by rw [← hv]; exact h.ch.cell hg hc⟩
end
theorem got_eq {a b a' b' : Int} {c c' : Bool} (h1 : a = a') (h2 : b = b') (h3 : c = c') : Ending.returned (.tuple #[.int .i64 a', .int .i64 b', .bool c']) = .returned (.tuple #[.int .i64 a, .int .i64 b, .bool c]) := by rw [h1, h2, h3]
theorem tget_any {s : Value} {n : Nat} {L : Nat → List Bk} {U : Nat → Value} (bl : Int) (k : Ky) (hk : k.wf) (w : World) (h : ChW w s n L U) :
    Calls Tryz.prog 76 #[.agg #[.int .i64 bl, s], .agg #[.int .i64 k.sp, .int .u64 k.va, .int .i64 k.sz]] w fun e w' => e = .returned (.tuple #[.int .i64 (getV n L k), .int .i64 (getN n L k), .bool (getB n L k)]) ∧ Below w.heap.size w w' := by
  obtain ⟨g, cap, rfl, hg, hnc, hcm⟩ := h.form
  have hn0 := h.n0
  have hn1 := h.n1
  have b1 : Below w.heap.size w ((w.alloc (.cells #[.int .i64 bl, .slice (some ⟨g, 0, none⟩) n cap] 28)).alloc (.cells #[.int .i64 k.sp, .int .u64 k.va, .int .i64 k.sz] 114)) := by (repeat (first | (with_reducible assumption) | (with_reducible exact Below.refl _ _) | (with_reducible refine lo_step ?_ (by assumption)) | (with_reducible refine lo_drew ?_) | (with_reducible refine lo_drewN ?_ _) | (with_reducible refine lo_alloc ?_ _))) 
  have D1 := DB.new h bl k
  have CM := Lib.hid (fun w => Hs.rmay_any k hk w)
  cases hm : kmayB k
  · have e1 := Lib.hid (show getV n L k = 0 by unfold getV getB; rw [hm]; rfl)
    have e2 := Lib.hid (show getN n L k = 0 by unfold getN getB; rw [hm]; rfl)
    have e3 := Lib.hid (show getB n L k = false by unfold getB; rw [hm]; rfl)
    rw [hm] at CM
    clear h D1
    go_enter Tryz.func76, Tryz.ntmps76
    go_wp2_with fail
    refine (CM.out _).mono ?_; rintro e w2 ⟨rfl, hb2⟩
    have b2 := lo_step b1 hb2
    go_wp2_with fail
    go_ret3
    exact ⟨got_eq e1.out e2.out e3.out, b2⟩
  · rw [hm] at CM
    have hok := hk.ok hm
    have CC := Lib.hid (fun w => rchain_any k hok n hn0 (by omega) w)
    rw [chain_cast k hn0] at CC
    have hcn := chain_lt k hn0
    obtain ⟨c, hc⟩ : ∃ c, c = chainN k n := ⟨_, rfl⟩
    rw [← hc] at CC hcn
    have hrow := h.rows c hcn
    have hll := len_one L hcn
    have hfew := h.few
    have hgB : getB n L k = hasB (L c) k := by unfold getB; rw [hm, ← hc]; rfl
    have HV : Hid (getV n L k = if hasB (L c) k then (at_ (L c) (posN (L c) k)).v else 0) := Lib.hid (by unfold getV; rw [hgB, ← hc])
    have HN : Hid (getN n L k = if hasB (L c) k then (posN (L c) k : Int) + 1 else ((L c).length : Int)) := Lib.hid (by unfold getN; rw [hgB, ← hc, hm]; rfl)
    have HB := Lib.hid hgB
    obtain ⟨v, hv⟩ : ∃ v, U c = v := ⟨_, rfl⟩
    have CA := Lib.hid (fun (W : World) (h : ChW W (.slice (some ⟨g, 0, none⟩) n cap) n L U) => rat_any v (L c) k W (by rw [← hv]; exact h.rows c hcn) (by omega))
    have HR := Lib.hid (fun (W : World) (h : ChW W (.slice (some ⟨g, 0, none⟩) n cap) n L U) => (by rw [← hv]; exact h.rows c hcn : POwn W v (L c)))
    have SC := Lib.hid (fun (W : World) (tb kb : Nat) (h : DB W tb bl (.slice (some ⟨g, 0, none⟩) n cap) n L U kb k) => h.sc hg hcn hv)
    have hcn' : (c : Int) < (n : Int) := by omega
    have hvs := own_form hrow
    rw [hv] at hvs
    have hHV := Lib.hid hv
    clear hv hgB hrow hc h
    go_enter Tryz.func76, Tryz.ntmps76
    go_wp2_with fail
    refine (CM.out _).mono ?_; rintro e w2 ⟨rfl, hb2⟩
    have D2 := D1.low hb2
    have b2 := lo_step b1 hb2
    have sc2 := SC.out _ _ _ D2
    have HB2 := Lib.hid (And.intro b2 D2)
    clear D1 hb2 b1 CM
    go_wp2_with fail
    go_region_held3 (fun w1 => (w1.cell? ⟨w.heap.size, 0, none⟩ = some (.int .i64 bl) ∧ w1.cell? ⟨w.heap.size, 1, none⟩ = some (.slice (some ⟨g, 0, none⟩) n cap)) ∧ (w1.cell? ⟨w.heap.size + 1, 0, none⟩ = some (.int .i64 k.sp) ∧ w1.cell? ⟨w.heap.size + 1, 1, none⟩ = some (.int .u64 k.va) ∧ w1.cell? ⟨w.heap.size + 1, 2, none⟩ = some (.int .i64 k.sz)) ∧ w1.cell? ⟨g, c, none⟩ = some v)
      ((refine SC.out _ _ _ ?_; (repeat (first | (with_reducible assumption) | (with_reducible refine DB.drew ?_) | (with_reducible refine DB.drewN ?_ _) | (with_reducible refine DB.alloc ?_ _) | (with_reducible refine DB.low ?_ (by assumption)))) ))
      (first | (go_at_call 101; (with_reducible refine (CC.out _).mono ?_); rintro r w3 ⟨rfl, hb3⟩))
    have D3 := D2.drew.low hb3
    have b3 := lo_step (lo_drew HB2.out.1) hb3
    obtain ⟨_, ⟨k0, k1, k2⟩, _⟩ := SC.out _ _ _ D3
    have hlc : ((L c).length : Int) ≤ 1073741824 := by omega
    clear sc2 D2 b2 hb3 SC CC
    go_wp2_with fail
    refine (CA.out _ D3.ch).mono ?_; rintro e w4 ⟨rfl, hb4⟩
    have b4 := lo_step b3 hb4
    have p4 := HR.out _ (D3.ch.low hb4)
    clear D3 hb4 b3 CA k0 k1 k2
    cases hh : hasB (L c) k
    · rw [hh] at HV HN HB
      have e1 := HV; have e2 := HN; have e3 := HB
      rw [place_no hh]
      obtain ⟨ao, cap2, rfl⟩ := pown_shape p4
      clear hvs p4 hHV HV HN HB hh
      go_wp2_with fail
      go_ret3
      exact ⟨got_eq e1.out e2.out e3.out, b4⟩
    · rw [hh] at HV HN HB
      have e1 := HV; have e2 := HN; have e3 := HB
      have hlt := has_lt hh
      rw [place_yes hh]
      rcases hvs with ⟨_, h0⟩ | ⟨g2, cap2, rfl, hg2, hnc2, hcm2⟩
      · omega
      obtain ⟨y0, y1, y2, y3⟩ := pown_cells p4 hg2 hlt
      unfold maxLen at hcm2
      clear p4 hHV HV HN HB hh
      generalize posN (L c) k = j at *
      generalize L c = l at *
      have hlt' : (j : Int) < (l.length : Int) := by omega
      have hj0 : ¬ (j : Int) < 0 := by omega
      go_wp2_with fail
      go_ret3
      exact ⟨got_eq e1.out e2.out e3.out, b4⟩

/-! ### Lists that are appended -/
theorem infoP : (Tryz.prog.info? 151).map (fun i => (i.zero, i.size, i.bytes)) = some (some (.agg #[.int .i64 0, .int .u64 0, .int .i64 0, .int .i64 0]), 4, 32) := by kernel_rfl
theorem p_append0 (ty : TypeId) (base xo : Option Addr) (n cap xc : Nat) (h : n ≤ cap) (w : World) : (Builtin.append_ #[124, 124] ty #[.slice base n cap, .slice xo 0 xc]).run Tryz.prog w = .ok (.slice base n cap) w := by
  obtain ⟨i0, hi, hz0, hz1, hz2⟩ := info_parts infoP
  cases base <;> cases xo <;> simp [Builtin.append_, run_underlying Tryz.underlying124, sizeOf, typeInfo, hi, Builtin.lenOf, h, Builtin.firstCells, storeCells, loadCells, loadCellsFrom]
theorem grown_refl (w : World) (r : Option Nat) : w.grownBy w r := ⟨rfl, rfl, rfl, Nat.le_refl _, fun _ _ _ => rfl⟩
/-- A chain appended to a list of one's own. -/
theorem p_append (ty : TypeId) (W : World) (B : Nat) (v x : Value) (l m : List Bk) (ho : W.ownsRow B 151 4 v l.length (bkL l)) (hx : POwn W x m) (hB : B ≤ W.heap.size) (hle : l.length + m.length ≤ 1073741824) :
    ∃ v' W', (Builtin.append_ #[124, 124] ty #[v, x]).run Tryz.prog W = .ok v' W' ∧ W'.ownsRow B 151 4 v' (l ++ m).length (bkL (l ++ m)) ∧ W.grownBy W' v.ownBlock ∧ (∀ k, v'.ownBlock = some k → v.ownBlock = some k ∨ k = W.heap.size) := by
  obtain ⟨i0, hi, hz0, hz1, hz2⟩ := info_parts infoP
  by_cases hm : m = []
  · subst hm
    obtain ⟨ao, c1, rfl⟩ := own_shape3 ho
    obtain ⟨xo, c2, rfl⟩ := own_shape3 hx
    have hc : l.length ≤ c1 := by
      rcases own_form ho with ⟨hv, h0⟩ | ⟨g, cap, hv, _, h1, _⟩
      · omega
      · cases hv; exact h1
    exact ⟨_, W, p_append0 ty ao xo _ c1 c2 hc W, by simpa using ho, grown_refl _ _, fun k hk => .inl hk⟩
  · have hpos : 0 < m.length := List.length_pos_iff.2 hm
    rcases own_form hx with ⟨_, h0⟩ | ⟨g, cap, rfl, hg, hnc, hcm⟩
    · omega
    have hnews := hx.cells hg
    obtain ⟨g2, cap2, W', hr, h2, h3, h4, _⟩ := run_append_lies (P := Tryz.prog) W 124 ty B 151 i0 _ 4 32 Tryz.underlying124 hi hz0 hz1 hz2 rfl (by decide) v l.length (bkL l) ho ⟨g, 0, none⟩ m.length cap (bkL m) (bkL_length m) hnews (bkL_one m) hpos (by unfold maxLen; omega) (by omega) hB _ rfl
    refine ⟨_, W', hr, by rw [List.length_append, bkL_append]; exact h2, h3, fun k hk => ?_⟩
    obtain rfl : g2 = k := by simpa [Value.ownBlock] using hk
    exact h4
theorem tall_any {s : Value} {n : Nat} {L : Nat → List Bk} {U : Nat → Value} (bl : Int) (w : World) (h : ChW w s n L U) :
    Calls Tryz.prog 106 #[.agg #[.int .i64 bl, s]] w fun e w' => ∃ v, e = .returned v ∧ w'.ownsRow w.heap.size 151 4 v (allL L n).length (bkL (allL L n)) ∧ Below w.heap.size w w' := by
  obtain ⟨g, cap, rfl, hg, hnc, hcm⟩ := h.form
  have hn1 := h.n1
  have hfew := h.few
  have b1 : Below w.heap.size w (w.alloc (.cells #[.int .i64 bl, .slice (some ⟨g, 0, none⟩) n cap] 28)) := (Below.refl _ _).alloc (Nat.le_refl _) _
  have H1 := h.alloc (.cells #[.int .i64 bl, .slice (some ⟨g, 0, none⟩) n cap] 28)
  have x1 := heap_alloc_new w (.cells #[.int .i64 bl, .slice (some ⟨g, 0, none⟩) n cap] 28)
  have s1 : (w.alloc (.cells #[.int .i64 bl, .slice (some ⟨g, 0, none⟩) n cap] 28)).heap.size = w.heap.size + 1 := by simp
  clear h
  go_enter Tryz.func106, Tryz.ntmps106
  go_wp2_with fail
  generalize World.alloc w _ = W1 at *
  go_loopw [3, 4] (fun a i wr => ∃ (j : Nat), i = .int .i64 (j : Int) ∧ j ≤ n ∧ wr.ownsRow (w.heap.size + 1) 151 4 a (allL L j).length (bkL (allL L j)) ∧ Below W1.heap.size W1 wr) (fun _ i _ => n - (RowKit.intOf i).toNat)
  case atStart => exact ⟨0, rfl, Nat.zero_le _, World.ownsRow_nil _ _ _ 4, Below.refl _ _⟩
  case round =>
    obtain ⟨j, rfl, hj, ho, hb⟩ := hrel
    obtain ⟨ao, capo, rfl⟩ := own_shape3 ho
    have hs1 := hb.size
    have y1 : wr.cell? ⟨w.heap.size, 1, none⟩ = some (.slice (some ⟨g, 0, none⟩) n cap) := by have := blk_low x1 hb; simp [World.cell?, this]
    by_cases hlt : j < n
    · have H2 := H1.low hb
      have hc := H2.cell hg hlt
      have hle := len_le L (show j + 1 ≤ n by omega)
      rw [len_succ] at hle
      have hll : (allL L j).length = lenL L j := rfl
      obtain ⟨v', W', hrun, ho', hg', hfre⟩ := p_append 124 wr (w.heap.size + 1) _ (U j) _ (L j) ho (H2.rows j hlt) (by omega) (by omega)
      have hlt' : (j : Int) < (n : Int) := by omega
      have hb' : Below W1.heap.size W1 W' := hb.grown hg' hb.size (fun q hq => by have := (ho.lt q hq).1; omega)
      have HA := Lib.hid (show allL L (j + 1) = allL L j ++ L j from rfl)
      obtain ⟨ao2, cap2, rfl⟩ := own_shape3 ho'
      generalize U j = u at *
      have HO := Lib.hid ho'
      have HB := Lib.hid hb'
      clear H2 ho hle hll ho' hg' hfre hb' hb
      go_wp2_with (at_builtin; refine Lib.wpList_append_run _ rfl _ _ 124 124 rfl _ _ rfl rfl _ _ hrun ?_)
      go_roundw
      case rel => exact ⟨j + 1, by go_num, by omega, by rw [HA.out]; simpa only [List.length_append] using HO.out, HB.out⟩
      case measure => simp [RowKit.intOf]; omega
    · obtain rfl : n = j := by omega
      have HO := Lib.hid ho
      have HB := Lib.hid hb
      clear ho hb
      go_wp2_with fail
      go_ret
      refine ⟨_, rfl, ⟨HO.out.1, ?_⟩, b1.trans (HB.out.mono (by omega))⟩
      rcases HO.out.2 with hn | ⟨q, cq, cur, a, b, c⟩
      · exact .inl hn
      · exact .inr ⟨q, cq, cur, a, by omega, c⟩
end Go.Proofs.YtffpfceclhogoaaGreat.Hs
namespace Go.Proofs.YtffpfceclhogoaaGreat.Hs
open Fld
open Go.ChangeShapes Go.WideShapes Go.ChangeAt Go.RowKit Go.Maps
set_option maxHeartbeats 1000000
set_option maxRecDepth 100000
theorem infoS : (Tryz.prog.info? 124).map (fun i => (i.zero, i.size, i.bytes)) = some (some (.slice none 0 0), 1, 24) := by kernel_rfl
theorem set_two {W : World} {g : Nat} {a b : Value} {t : TypeId} (h : W.heap[g]? = some (.cells #[a, b] t (0, 0))) (x y : Value) :
    ((W.setCell ⟨g, 0, none⟩ x).setCell ⟨g, 1, none⟩ y).heap[g]? = some (.cells #[x, y] t (0, 0)) ∧ (∀ B, B ≤ g → Below B W ((W.setCell ⟨g, 0, none⟩ x).setCell ⟨g, 1, none⟩ y)) ∧ (∀ k, k ≠ g → ((W.setCell ⟨g, 0, none⟩ x).setCell ⟨g, 1, none⟩ y).heap[k]? = W.heap[k]?) := by
  refine ⟨?_, fun B hB => (((Below.refl B W).setCell hB x).setCell hB y), fun k hk => (Below.heap_setCell _ _ _ _ hk).trans (Below.heap_setCell _ _ _ _ hk)⟩
  rw [setCell_eq_setRow W g 0 _ _ _ _ h]
  have h1 := setRow_heap W g _ (#[a, b].setIfInBounds 0 x) _ _ h
  rw [setCell_eq_setRow _ g 1 _ _ _ _ h1]
  have h2 := setRow_heap _ g _ ((#[a, b].setIfInBounds 0 x).setIfInBounds 1 y) _ _ h1
  simpa using h2
theorem slice_one {v : Value} {ao : Option Addr} {n cap : Nat} (h : v = .slice ao n cap) : v.oneCell' = true := by rw [h]; rfl
theorem rows_one {w : World} {s : Value} {n : Nat} {L : Nat → List Bk} {U : Nat → Value} (h : ChW w s n L U) : ∀ u ∈ (List.range n).map U, u.oneCell' = true := fun u hu => by
  obtain ⟨i, hi, rfl⟩ := List.mem_map.1 hu
  obtain ⟨ao, cap, e⟩ := pown_shape (h.rows i (List.mem_range.1 hi))
  exact slice_one e
theorem range_set (U : Nat → Value) (v : Value) {c n : Nat} : ((List.range n).map U).set c v = (List.range n).map (setV U c v) := by
  apply List.ext_getElem
  · simp
  · intro i h1 h2
    simp only [List.getElem_set, List.getElem_map, List.getElem_range, setV]
    by_cases e : c = i
    · subst e; simp
    · rw [if_neg e, if_neg (fun x => e x.symm)]
theorem out_set {w : World} {B e q cap n : Nat} {xs : List Value} (h : w.ownsRow B e 1 (.slice (some ⟨q, 0, none⟩) n cap) n xs) {c : Nat} (v : Value) :
    (w.setCell ⟨q, c, none⟩ v).ownsRow B e 1 (.slice (some ⟨q, 0, none⟩) n cap) n (xs.set c v) := by
  rcases h.2 with ⟨hv, _⟩ | ⟨g', cap', cur, hv, hb, hgg, hnc, hcm, hcs, htake⟩
  · cases hv
  · cases hv
    rw [setCell_eq_setRow w q c cur e (0, 0) _ hgg]
    refine ⟨by rw [List.length_set]; exact h.1, .inr ⟨q, cap, _, rfl, hb, setRow_heap w q cur _ e _ hgg, by simpa using hnc, hcm, by simpa using hcs, ?_⟩⟩
    rw [← htake, Array.toList_setIfInBounds, List.take_set]
/-- What with hands back. -/
structure WithTo (w w' : World) (s' : Value) (n : Nat) (L' : Nat → List Bk) (U' : Nat → Value) : Prop where
  ch : ChW w' s' n L' U'
  new : ∀ k, s'.ownBlock = some k → w.heap.size ≤ k
  low : Below w.heap.size w w'
theorem rwith_any {s : Value} {n : Nat} {L : Nat → List Bk} {U : Nat → Value} (bl : Int) (c : Nat) (v : Value) (l : List Bk) (w : World) (h : ChW w s n L U) (hc : c < n) (hp : POwn w v l) (hfew : lenL (setL L c l) n ≤ 1073741824) :
    Calls Tryz.prog 104 #[.agg #[.int .i64 bl, s], .int .i64 (c : Int), v] w fun e w' => ∃ s', e = .returned (.agg #[.int .i64 bl, s']) ∧ WithTo w w' s' n (setL L c l) (setV U c v) := by
  obtain ⟨ik, hik, hz0, hz1, hz2⟩ := info_parts infoS
  obtain ⟨g, cap, rfl, hg, hnc, hcm⟩ := h.form
  have hn0 := h.n0
  have hn1 := h.n1
  obtain ⟨ao, capv, rfl⟩ := pown_shape hp
  have b1 : Below w.heap.size w ((w.alloc (.cells #[.int .i64 bl, .slice (some ⟨g, 0, none⟩) n cap] 28)).alloc (.cells #[.int .i64 0, .slice none 0 0] 28)) := by (repeat (first | (with_reducible assumption) | (with_reducible exact Below.refl _ _) | (with_reducible refine lo_step ?_ (by assumption)) | (with_reducible refine lo_drew ?_) | (with_reducible refine lo_drewN ?_ _) | (with_reducible refine lo_alloc ?_ _))) 
  have s1 : ((w.alloc (.cells #[.int .i64 bl, .slice (some ⟨g, 0, none⟩) n cap] 28)).alloc (.cells #[.int .i64 0, .slice none 0 0] 28)).heap.size = w.heap.size + 1 + 1 := by simp
  have x1 : ((w.alloc (.cells #[.int .i64 bl, .slice (some ⟨g, 0, none⟩) n cap] 28)).alloc (.cells #[.int .i64 0, .slice none 0 0] 28)).heap[w.heap.size]? = some (.cells #[.int .i64 bl, .slice (some ⟨g, 0, none⟩) n cap] 28 (0, 0)) := blk_low (heap_alloc_new w _) ((Below.refl _ _).alloc (Nat.le_refl _) _)
  have x2 : ((w.alloc (.cells #[.int .i64 bl, .slice (some ⟨g, 0, none⟩) n cap] 28)).alloc (.cells #[.int .i64 0, .slice none 0 0] 28)).heap[w.heap.size + 1]? = some (.cells #[.int .i64 0, .slice none 0 0] 28 (0, 0)) := by
    have := heap_alloc_new (w.alloc (.cells #[.int .i64 bl, .slice (some ⟨g, 0, none⟩) n cap] 28)) (.cells #[.int .i64 0, .slice none 0 0] 28)
    rwa [World.size_alloc] at this
  have H1 := h.low b1
  have P1 := own_same hp (fun q hq => b1.block q (hp.lt q hq).2)
  obtain ⟨q, cap2, W2, hrun, ho, hgr, hat, hql⟩ := run_append_lies (P := Tryz.prog) ((w.alloc (.cells #[.int .i64 bl, .slice (some ⟨g, 0, none⟩) n cap] 28)).alloc (.cells #[.int .i64 0, .slice none 0 0] 28)) 26 26 w.heap.size 124 ik _ 1 24 Tryz.underlying26 hik hz0 hz1 hz2 rfl (by decide) (.slice none 0 0) 0 [] (World.ownsRow_nil _ _ _ 1) ⟨g, 0, none⟩ n cap ((List.range n).map U) (by simp) (H1.outer.cells hg) (rows_one H1) (by omega) (by unfold maxLen; omega) (by omega) (by omega) _ rfl
  have hq : q = ((w.alloc (.cells #[.int .i64 bl, .slice (some ⟨g, 0, none⟩) n cap] 28)).alloc (.cells #[.int .i64 0, .slice none 0 0] 28)).heap.size := hat.elim (fun e => by simp [Value.ownBlock] at e) id
  simp only [Nat.zero_add, List.nil_append] at hrun ho
  have b2 : Below ((w.alloc (.cells #[.int .i64 bl, .slice (some ⟨g, 0, none⟩) n cap] 28)).alloc (.cells #[.int .i64 0, .slice none 0 0] 28)).heap.size ((w.alloc (.cells #[.int .i64 bl, .slice (some ⟨g, 0, none⟩) n cap] 28)).alloc (.cells #[.int .i64 0, .slice none 0 0] 28)) W2 := ⟨hgr.os, hgr.tape, hgr.output, hgr.size, fun k hk => hgr.block k hk (by simp [Value.ownBlock])⟩
  have o3 := out_set ho (c := c) (.slice ao l.length capv)
  rw [range_set] at o3
  have b3 : Below ((w.alloc (.cells #[.int .i64 bl, .slice (some ⟨g, 0, none⟩) n cap] 28)).alloc (.cells #[.int .i64 0, .slice none 0 0] 28)).heap.size ((w.alloc (.cells #[.int .i64 bl, .slice (some ⟨g, 0, none⟩) n cap] 28)).alloc (.cells #[.int .i64 0, .slice none 0 0] 28)) (W2.setCell ⟨q, c, none⟩ (.slice ao l.length capv)) := b2.setCell (by show ((w.alloc (.cells #[.int .i64 bl, .slice (some ⟨g, 0, none⟩) n cap] 28)).alloc (.cells #[.int .i64 0, .slice none 0 0] 28)).heap.size ≤ q; omega) _
  have x1c := blk_low x1 b2
  have x2c := blk_low x2 b3
  have x1d := blk_low x1 b3
  have y1 : ((w.alloc (.cells #[.int .i64 bl, .slice (some ⟨g, 0, none⟩) n cap] 28)).alloc (.cells #[.int .i64 0, .slice none 0 0] 28)).cell? ⟨w.heap.size, 1, none⟩ = some (.slice (some ⟨g, 0, none⟩) n cap) := by simp [World.cell?, x1]
  have hqc : W2.cell? ⟨q, c, none⟩ = some (U c) := by
    have := ho.cells rfl c (U c) (by simp [hc])
    rwa [addr_lit, Nat.zero_add] at this
  have hqf : W2.frozen? ⟨q, c, none⟩ = false := own_frozen ho rfl c
  have hc' : (c : Int) < (n : Int) := by omega
  obtain ⟨t0, t1⟩ := t_cells x1c
  have x2b := blk_low x2 b2
  obtain ⟨r0, r1⟩ := t_cells x2b
  have tf0 : W2.frozen? ⟨w.heap.size, 0, none⟩ = false := by simp [World.frozen?, x1c]
  have tf : W2.frozen? ⟨w.heap.size, 1, none⟩ = false := by simp [World.frozen?, x1c]
  have rf0 : W2.frozen? ⟨w.heap.size + 1, 0, none⟩ = false := by simp [World.frozen?, x2b]
  have rf1 : W2.frozen? ⟨w.heap.size + 1, 1, none⟩ = false := by simp [World.frozen?, x2b]
  have q1 : ¬ q = w.heap.size := by omega
  have q2 : ¬ w.heap.size = q := by omega
  have q3 : ¬ q = w.heap.size + 1 := by omega
  have q4 : ¬ w.heap.size + 1 = q := by omega
  have hn2 : n ≤ cap2 := by
    rcases own_form ho with ⟨hv, _⟩ | ⟨g', c', hv, _, a, _⟩
    · cases hv
    · cases hv; exact a
  have HB3 := Lib.hid b3
  have HO3 := Lib.hid o3
  have HX2 := Lib.hid x2c
  have HX1 := Lib.hid x1d
  have HQ := Lib.hid hq
  have HH := Lib.hid H1
  have HP := Lib.hid P1
  have HS := Lib.hid s1
  have HW := Lib.hid h
  clear H1 P1 x2c x1c x2b b2 b3 o3 ho hgr hat hik hz0 hz1 hz2 hql hq s1
  go_enter Tryz.func104, Tryz.ntmps104
  go_wp2_with (at_builtin; refine Lib.wpList_append_run _ rfl _ _ 26 26 rfl _ _ rfl rfl _ _ hrun ?_)
  have e3 := HB3.out
  have e4 := HX2.out
  have e5 := HO3.out
  generalize World.setCell W2 ⟨q, c, none⟩ _ = X3 at *
  have x4 : (X3.setCell ⟨w.heap.size, 1, none⟩ (.slice (some ⟨q, 0, none⟩) n cap2)).heap[w.heap.size + 1]? = some (.cells #[.int .i64 0, .slice none 0 0] 28 (0, 0)) := (Below.heap_setCell _ _ _ _ (by show w.heap.size + 1 ≠ w.heap.size; omega)).trans e4
  have h5 := set_two x4 (.int .i64 bl) (.slice (some ⟨q, 0, none⟩) n cap2)
  have hlow : Below w.heap.size w X3 := b1.trans (e3.mono (by simp; omega))
  have hlow2 := (hlow.setCell (p := ⟨w.heap.size, 1, none⟩) (Nat.le_refl _) (.slice (some ⟨q, 0, none⟩) n cap2)).trans (h5.2.1 w.heap.size (by omega))
  refine bodyPost_ret (results_cell_row rfl _ _ _ _ _ (0, 0) _ rfl h5.1 Tryz.underlying28 (by kernel_rfl) (by kernel_rfl)) rfl ⟨_, rfl, ⟨?_, ?_, hn0, hn1, hfew⟩, ?_, hlow2⟩
  · refine own_base (own_same e5 (fun k hk => ?_))
    obtain rfl : q = k := by simpa [Value.ownBlock] using hk
    exact (h5.2.2 q q3).trans (Below.heap_setCell _ _ _ _ q1)
  · intro i hi
    by_cases e : i = c
    · subst e; rw [setL_same, setV_same]; exact own_same hp (fun k hk => hlow2.block k (hp.lt k hk).2)
    · rw [setL_other _ _ e, setV_other _ _ e]; exact own_same (HW.out.rows i hi) (fun k hk => hlow2.block k ((HW.out.rows i hi).lt k hk).2)
  · intro k hk
    obtain rfl : q = k := by simpa [Value.ownBlock] using hk
    have h6 := HQ.out
    rw [HS.out] at h6
    omega

theorem made_slices (n : Nat) : (madeCells (Value.slice none 0 0).cells (n * 1)).toList = (List.range n).map (fun _ => nilS) := by
  rw [Nat.mul_one]
  show (madeCells #[.slice none 0 0] n).toList = _
  rw [toList_madeCells_one, List.map_const', List.length_range]; rfl
theorem rnew_any (bl ch : Int) (hc1 : ch ≤ 1000000) (w : World) :
    Calls Tryz.prog 27 #[.int .i64 bl, .int .i64 ch] w fun e w' => ∃ s', e = .returned (.agg #[.int .i64 (max bl 0), s']) ∧ WithTo w w' s' (max ch 1).toNat (fun _ => []) (fun _ => nilS) := by
  obtain ⟨i, hi, hz0, hz1, hz2⟩ := info_parts infoS
  obtain ⟨N, hN⟩ : ∃ N : Nat, (max ch 1).toNat = N := ⟨_, rfl⟩
  have hNI : max ch 1 = (N : Int) := by omega
  have hN0 : 1 ≤ N := by omega
  have hN1 : N ≤ 1000000 := by omega
  have hb : (i.bytes : Int) * (N : Int) ≤ 281474976710656 := by rw [hz2]; omega
  have hr := run_make (P := Tryz.prog) (w.alloc (.cells #[.int .i64 0, .slice none 0 0] 28)) 26 124 i _ Tryz.underlying26 hi hz0 .i64 .i64 (N : Int) (N : Int) (by omega) (Int.le_refl _) hb (by omega)
  simp only [Int.toNat_natCast, hz1] at hr
  obtain ⟨cur, hcur⟩ : ∃ cur, cur = madeCells (Value.slice none 0 0).cells (N * 1) := ⟨_, rfl⟩
  have hcl : cur.toList = (List.range N).map (fun _ => nilS) := by rw [hcur]; exact made_slices N
  rw [← hcur] at hr
  have x1 := heap_alloc_new (w.alloc (.cells #[.int .i64 0, .slice none 0 0] 28)) (.cells cur 124)
  have x0 : ((w.alloc (.cells #[.int .i64 0, .slice none 0 0] 28)).alloc (.cells cur 124)).heap[w.heap.size]? = some (.cells #[.int .i64 0, .slice none 0 0] 28 (0, 0)) := blk_low (heap_alloc_new w _) ((Below.refl _ _).alloc (Nat.le_refl _) _)
  rw [World.size_alloc] at x1 hr
  have b1 : Below w.heap.size w ((w.alloc (.cells #[.int .i64 0, .slice none 0 0] 28)).alloc (.cells cur 124)) := by (repeat (first | (with_reducible assumption) | (with_reducible exact Below.refl _ _) | (with_reducible refine lo_step ?_ (by assumption)) | (with_reducible refine lo_drew ?_) | (with_reducible refine lo_drewN ?_ _) | (with_reducible refine lo_alloc ?_ _))) 
  obtain ⟨t0, t1⟩ := t_cells x0
  have f0 : ((w.alloc (.cells #[.int .i64 0, .slice none 0 0] 28)).alloc (.cells cur 124)).frozen? ⟨w.heap.size, 0, none⟩ = false := by simp [World.frozen?, x0]
  have f1 : ((w.alloc (.cells #[.int .i64 0, .slice none 0 0] 28)).alloc (.cells cur 124)).frozen? ⟨w.heap.size, 1, none⟩ = false := by simp [World.frozen?, x0]
  have z1 := heap_alloc_new (w.alloc (.cells #[.int .i64 (max bl 0), .slice (some ⟨w.heap.size + 1, 0, none⟩) N N] 28)) (.cells cur 124)
  have z0 : ((w.alloc (.cells #[.int .i64 (max bl 0), .slice (some ⟨w.heap.size + 1, 0, none⟩) N N] 28)).alloc (.cells cur 124)).heap[w.heap.size]? = some (.cells #[.int .i64 (max bl 0), .slice (some ⟨w.heap.size + 1, 0, none⟩) N N] 28 (0, 0)) := blk_low (heap_alloc_new w _) ((Below.refl _ _).alloc (Nat.le_refl _) _)
  rw [World.size_alloc] at z1
  have b2 : Below w.heap.size w ((w.alloc (.cells #[.int .i64 (max bl 0), .slice (some ⟨w.heap.size + 1, 0, none⟩) N N] 28)).alloc (.cells cur 124)) := by (repeat (first | (with_reducible assumption) | (with_reducible exact Below.refl _ _) | (with_reducible refine lo_step ?_ (by assumption)) | (with_reducible refine lo_drew ?_) | (with_reducible refine lo_drewN ?_ _) | (with_reducible refine lo_alloc ?_ _))) 
  have own1 : ((w.alloc (.cells #[.int .i64 (max bl 0), .slice (some ⟨w.heap.size + 1, 0, none⟩) N N] 28)).alloc (.cells cur 124)).ownsRow 0 124 1 (.slice (some ⟨w.heap.size + 1, 0, none⟩) N N) N ((List.range N).map (fun _ => nilS)) := by
    have hsz : cur.size = N := by have := congrArg List.length hcl; simpa using this
    refine ⟨by simp, .inr ⟨w.heap.size + 1, N, cur, rfl, Nat.zero_le _, z1, Nat.le_refl _, by unfold maxLen; omega, by omega, ?_⟩⟩
    rw [hcl]; exact List.take_of_length_le (by simp)
  have HO := Lib.hid own1
  have HN := Lib.hid (And.intro hN hNI)
  have HB := Lib.hid b2
  have HX := Lib.hid z0
  clear hcur hcl own1 hi hz0 hz1 hz2 hb hN b1 b2 x0 x1 z0 z1
  go_enter Tryz.func27, Tryz.ntmps27
  go_wp2_with fail
  refine bodyPost_ret (results_cell_row rfl _ _ _ _ _ (0, 0) _ rfl HX.out Tryz.underlying28 (by kernel_rfl) (by kernel_rfl)) rfl ⟨_, rfl, ?_⟩
  rw [HN.out.1]
  refine ⟨⟨HO.out, fun i _ => World.ownsRow_nil _ _ _ 4, hN0, hN1, by rw [tlen_nil]; exact Nat.zero_le _⟩, fun k hk => ?_, HB.out⟩
  obtain rfl : w.heap.size + 1 = k := by simpa [Value.ownBlock] using hk
  omega

/-- A table that a function of the document's made of another one. -/
def DocTo (w w' : World) (s : Value) (n : Nat) (U : Nat → Value) (s' : Value) (n' : Nat) (L' : Nat → List Bk) : Prop :=
  ∃ U', ChW w' s' n' L' U' ∧ (∀ k, DocB s' n' U' k → DocB s n U k ∨ w.heap.size ≤ k) ∧ Below w.heap.size w w'
theorem DocTo.id {w w' : World} {s : Value} {n : Nat} {L : Nat → List Bk} {U : Nat → Value} (h : ChW w s n L U) (hb : Below w.heap.size w w') : DocTo w w' s n U s n L := ⟨U, h.low hb, fun _ hk => .inl hk, hb⟩
theorem DocTo.low {w w' w2 : World} {s s' : Value} {n n' : Nat} {L' : Nat → List Bk} {U : Nat → Value} (h : DocTo w w' s n U s' n' L') (hb : Below w'.heap.size w' w2) : DocTo w w2 s n U s' n' L' := by
  obtain ⟨U', a, b, c⟩ := h; exact ⟨U', a.low hb, b, lo_step c hb⟩
theorem WithTo.doc {w w1 w' : World} {s s' : Value} {n c : Nat} {L' : Nat → List Bk} {U : Nat → Value} {v : Value} (h : WithTo w1 w' s' n L' (setV U c v)) (hv : ∀ k, v.ownBlock = some k → w.heap.size ≤ k) (hb : Below w.heap.size w w1) : DocTo w w' s n U s' n L' := by
  refine ⟨_, h.ch, fun k hk => ?_, lo_step hb h.low⟩
  rcases hk with hk | ⟨i, hi, hk⟩
  · exact .inr (Nat.le_trans hb.size (h.new k hk))
  · by_cases e : i = c
    · subst e; rw [setV_same] at hk; exact .inr (hv k hk)
    · rw [setV_other _ _ e] at hk; exact .inl (.inr ⟨i, hi, hk⟩)
/-- A table in a box, and a result's box. -/
structure DP (w : World) (tb : Nat) (bl : Int) (s : Value) (n : Nat) (L : Nat → List Bk) (U : Nat → Value) (rb : Nat) : Prop where
  ch : ChW w s n L U
  tx : w.heap[tb]? = some (.cells #[.int .i64 bl, s] 28 (0, 0))
  rx : w.heap[rb]? = some (.cells #[.int .i64 0, .slice none 0 0] 28 (0, 0))
section
variable {w w' : World} {tb rb n : Nat} {bl : Int} {s : Value} {L : Nat → List Bk} {U : Nat → Value}
theorem DP.low (h : DP w tb bl s n L U rb) (hb : Below w.heap.size w w') : DP w' tb bl s n L U rb := ⟨h.ch.low hb, blk_low h.tx hb, blk_low h.rx hb⟩
theorem DP.drew (h : DP w tb bl s n L U rb) : DP w.drew tb bl s n L U rb := h.low (Below.refl _ w).drew
theorem DP.drewN (h : DP w tb bl s n L U rb) (m : Nat) : DP (w.drewN m) tb bl s n L U rb := h.low (below_drewN (Below.refl _ w) m)
theorem DP.alloc (h : DP w tb bl s n L U rb) (o : Obj) : DP (w.alloc o) tb bl s n L U rb := h.low ((Below.refl _ w).alloc (Nat.le_refl _) o)
theorem DP.sc (h : DP w tb bl s n L U rb) {g : Nat} (hg : s.ownBlock = some g) {c : Nat} (hc : c < n) {v : Value} (hv : U c = v) : (w.cell? ⟨tb, 0, none⟩ = some (.int .i64 bl) ∧ w.cell? ⟨tb, 1, none⟩ = some s) ∧ w.cell? ⟨g, c, none⟩ = some v :=
  ⟨t_cells h.tx, by rw [← hv]; exact h.ch.cell hg hc⟩
theorem DP.rc (h : DP w tb bl s n L U rb) : (w.cell? ⟨rb, 0, none⟩ = some (.int .i64 0) ∧ w.cell? ⟨rb, 1, none⟩ = some (.slice none 0 0)) ∧ w.frozen? ⟨rb, 0, none⟩ = false ∧ w.frozen? ⟨rb, 1, none⟩ = false := by
  have := h.rx
  exact ⟨t_cells h.rx, by simp [World.frozen?, this], by simp [World.frozen?, this]⟩
theorem DP.grown {r : Option Nat} (h : DP w tb bl s n L U rb) (hg : w.grownBy w' r) (h1 : r ≠ some tb) (h2 : r ≠ some rb) (h3 : ∀ k, DocB s n U k → r ≠ some k) : DP w' tb bl s n L U rb :=
  ⟨h.ch.same (fun k hk => hg.block k (h.ch.lt hk) (fun e => h3 k hk e.symm)), (hg.block tb (Array.getElem?_eq_some_iff.1 h.tx).1 (fun e => h1 e.symm)).trans h.tx, (hg.block rb (Array.getElem?_eq_some_iff.1 h.rx).1 (fun e => h2 e.symm)).trans h.rx⟩
end
theorem ChW.typ {w : World} {s : Value} {n : Nat} {L : Nat → List Bk} {U : Nat → Value} (h : ChW w s n L U) {k : Nat} (hk : DocB s n U k) : ∃ cur t, w.heap[k]? = some (.cells cur t (0, 0)) ∧ t ≠ 28 ∧ t ≠ 114 ∧ t ≠ 89 ∧ t ≠ 3 ∧ t ≠ 4 := by
  rcases hk with hk | ⟨i, hi, hk⟩
  · obtain ⟨cur, hc⟩ := own_obj h.outer hk
    exact ⟨cur, _, hc, by decide, by decide, by decide, by decide, by decide⟩
  · obtain ⟨cur, hc⟩ := own_obj (h.rows i hi) hk
    exact ⟨cur, _, hc, by decide, by decide, by decide, by decide, by decide⟩
/-- A box of a table's is filled. -/
theorem DocTo.store {w w1 w2 : World} {s s' : Value} {n n' rb : Nat} {L' : Nat → List Bk} {U : Nat → Value} {cs : Array Value} (h : DocTo w w1 s n U s' n' L') (hx : w1.heap[rb]? = some (.cells cs 28 (0, 0))) (hk : ∀ k, k ≠ rb → w2.heap[k]? = w1.heap[k]?) (hb : Below w.heap.size w1 w2) : DocTo w w2 s n U s' n' L' := by
  obtain ⟨U', a, b, c⟩ := h
  refine ⟨U', a.same (fun k hkk => hk k (fun e => ?_)), b, c.trans hb⟩
  obtain ⟨cur, t, h1, h2, _⟩ := a.typ hkk
  rw [e, hx] at h1
  injection h1 with h1
  injection h1 with _ h1 _
  exact h2 h1.symm
end Go.Proofs.YtffpfceclhogoaaGreat.Hs
namespace Go.Proofs.YtffpfceclhogoaaGreat.Hs
open Fld
open Go.ChangeShapes Go.WideShapes Go.ChangeAt Go.RowKit Go.Maps
set_option maxHeartbeats 2000000
set_option maxRecDepth 100000
theorem rpush_any {s : Value} {n : Nat} {L : Nat → List Bk} {U : Nat → Value} (bl : Int) (b : Bk) (hok : b.k.Ok) (w : World) (h : ChW w s n L U) (hroom : lenL L n + 1 ≤ 1073741824) :
    Calls Tryz.prog 103 #[.agg #[.int .i64 bl, s], .agg #[.int .i64 b.k.sp, .int .u64 b.k.va, .int .i64 b.k.sz, .int .i64 b.v]] w fun e w' => ∃ s', e = .returned (.agg #[.int .i64 bl, s']) ∧ DocTo w w' s n U s' n (setL L (chainN b.k n) (b :: L (chainN b.k n))) := by
  obtain ⟨g, cap, rfl, hg, hnc, hcm⟩ := h.form
  have hn0 := h.n0
  have hn1 := h.n1
  have CC := Lib.hid (fun w => rchain_any b.k hok n hn0 (by omega) w)
  rw [chain_cast b.k hn0] at CC
  have hcn := chain_lt b.k hn0
  generalize chainN b.k n = c at *
  have b1 : Below w.heap.size w (((w.alloc (.cells #[.int .i64 bl, .slice (some ⟨g, 0, none⟩) n cap] 28)).alloc (.cells #[.int .i64 b.k.sp, .int .u64 b.k.va, .int .i64 b.k.sz, .int .i64 b.v] 151)).alloc (.cells #[.int .i64 0, .slice none 0 0] 28)) := by (repeat (first | (with_reducible assumption) | (with_reducible exact Below.refl _ _) | (with_reducible refine lo_step ?_ (by assumption)) | (with_reducible refine lo_drew ?_) | (with_reducible refine lo_drewN ?_ _) | (with_reducible refine lo_alloc ?_ _))) 
  have s1 : (((w.alloc (.cells #[.int .i64 bl, .slice (some ⟨g, 0, none⟩) n cap] 28)).alloc (.cells #[.int .i64 b.k.sp, .int .u64 b.k.va, .int .i64 b.k.sz, .int .i64 b.v] 151)).alloc (.cells #[.int .i64 0, .slice none 0 0] 28)).heap.size = w.heap.size + 1 + 1 + 1 := by simp
  have x1 : (((w.alloc (.cells #[.int .i64 bl, .slice (some ⟨g, 0, none⟩) n cap] 28)).alloc (.cells #[.int .i64 b.k.sp, .int .u64 b.k.va, .int .i64 b.k.sz, .int .i64 b.v] 151)).alloc (.cells #[.int .i64 0, .slice none 0 0] 28)).heap[w.heap.size]? = some (.cells #[.int .i64 bl, .slice (some ⟨g, 0, none⟩) n cap] 28 (0, 0)) := blk_low (blk_low (heap_alloc_new w _) ((Below.refl _ _).alloc (Nat.le_refl _) _)) ((Below.refl _ _).alloc (Nat.le_refl _) _)
  have x2 : (((w.alloc (.cells #[.int .i64 bl, .slice (some ⟨g, 0, none⟩) n cap] 28)).alloc (.cells #[.int .i64 b.k.sp, .int .u64 b.k.va, .int .i64 b.k.sz, .int .i64 b.v] 151)).alloc (.cells #[.int .i64 0, .slice none 0 0] 28)).heap[w.heap.size + 1]? = some (.cells #[.int .i64 b.k.sp, .int .u64 b.k.va, .int .i64 b.k.sz, .int .i64 b.v] 151 (0, 0)) := by
    refine blk_low ?_ ((Below.refl _ _).alloc (Nat.le_refl _) _)
    have := heap_alloc_new (w.alloc (.cells #[.int .i64 bl, .slice (some ⟨g, 0, none⟩) n cap] 28)) (.cells #[.int .i64 b.k.sp, .int .u64 b.k.va, .int .i64 b.k.sz, .int .i64 b.v] 151)
    rwa [World.size_alloc] at this
  have x3 : (((w.alloc (.cells #[.int .i64 bl, .slice (some ⟨g, 0, none⟩) n cap] 28)).alloc (.cells #[.int .i64 b.k.sp, .int .u64 b.k.va, .int .i64 b.k.sz, .int .i64 b.v] 151)).alloc (.cells #[.int .i64 0, .slice none 0 0] 28)).heap[w.heap.size + 1 + 1]? = some (.cells #[.int .i64 0, .slice none 0 0] 28 (0, 0)) := by
    have := heap_alloc_new ((w.alloc (.cells #[.int .i64 bl, .slice (some ⟨g, 0, none⟩) n cap] 28)).alloc (.cells #[.int .i64 b.k.sp, .int .u64 b.k.va, .int .i64 b.k.sz, .int .i64 b.v] 151)) (.cells #[.int .i64 0, .slice none 0 0] 28)
    rwa [World.size_alloc, World.size_alloc] at this
  have D1 : DP (((w.alloc (.cells #[.int .i64 bl, .slice (some ⟨g, 0, none⟩) n cap] 28)).alloc (.cells #[.int .i64 b.k.sp, .int .u64 b.k.va, .int .i64 b.k.sz, .int .i64 b.v] 151)).alloc (.cells #[.int .i64 0, .slice none 0 0] 28)) w.heap.size bl (.slice (some ⟨g, 0, none⟩) n cap) n L U (w.heap.size + 1 + 1) := ⟨h.low b1, x1, x3⟩
  have hcn' : (c : Int) < (n : Int) := by omega
  obtain ⟨v, hv⟩ : ∃ v, U c = v := ⟨_, rfl⟩
  have hpc := h.rows c hcn
  have hll := len_one L hcn
  have hset := len_set L c (b :: L c) hcn
  have hfew2 : lenL (setL L c (b :: L c)) n ≤ 1073741824 := by simp at hset; omega
  have HH := Lib.hid (And.intro h (And.intro hpc (And.intro hfew2 hv)))
  have HB1 := Lib.hid b1
  have HS1 := Lib.hid s1
  have HD1 := Lib.hid D1
  have HX2 := Lib.hid x2
  clear x1 x2 x3 D1 b1 s1 hpc hset hfew2 h hv
  go_enter Tryz.func103, Tryz.ntmps103
  go_wp2_with fail
  refine (CC.out _).mono ?_; rintro e w2 ⟨rfl, hb2⟩
  have b2 := lo_step HB1.out hb2
  have D2 := HD1.out.low hb2
  have hx2 := blk_low HX2.out hb2
  have hs2 := hb2.size
  rw [HS1.out] at hs2
  obtain ⟨p0, p1, p2, p3⟩ : w2.cell? ⟨w.heap.size + 1, 0, none⟩ = some (.int .i64 b.k.sp) ∧ w2.cell? ⟨w.heap.size + 1, 1, none⟩ = some (.int .u64 b.k.va) ∧ w2.cell? ⟨w.heap.size + 1, 2, none⟩ = some (.int .i64 b.k.sz) ∧ w2.cell? ⟨w.heap.size + 1, 3, none⟩ = some (.int .i64 b.v) := ⟨by simp [World.cell?, hx2], by simp [World.cell?, hx2], by simp [World.cell?, hx2], by simp [World.cell?, hx2]⟩
  have HD2 := Lib.hid D2
  have HB2 := Lib.hid b2
  clear CC HD1 HB1 HX2 hb2 hx2 D2 b2
  go_wp2_with fail
  clear p0 p1 p2 p3
  have D3 := HD2.out.alloc (.cells #[.int .i64 b.k.sp, .int .u64 b.k.va, .int .i64 b.k.sz, .int .i64 b.v] 151)
  have b3 := lo_alloc HB2.out (.cells #[.int .i64 b.k.sp, .int .u64 b.k.va, .int .i64 b.k.sz, .int .i64 b.v] 151)
  have hx3 := heap_alloc_new w2 (.cells #[.int .i64 b.k.sp, .int .u64 b.k.va, .int .i64 b.k.sz, .int .i64 b.v] 151)
  have hs3 : (w2.alloc (.cells #[.int .i64 b.k.sp, .int .u64 b.k.va, .int .i64 b.k.sz, .int .i64 b.v] 151)).heap.size = w2.heap.size + 1 := by simp
  generalize World.alloc w2 _ = w3 at *
  have own3 : w3.drew.ownsRow w2.heap.size 151 4 (.slice (some ⟨w2.heap.size, 0, none⟩) 1 1) [b].length (bkL [b]) := ⟨rfl, .inr ⟨w2.heap.size, 1, _, rfl, Nat.le_refl _, hx3, Nat.le_refl _, by unfold maxLen; omega, rfl, rfl⟩⟩
  have pc3 : POwn w3.drew v (L c) := by rw [← HH.out.2.2.2]; exact D3.drew.ch.rows c hcn
  obtain ⟨v', W4, hrun, ho4, hg4, hf4⟩ := p_append 124 w3.drew w2.heap.size _ v [b] (L c) own3 pc3 (by show w2.heap.size ≤ w3.heap.size; omega) (by simp; omega)
  have D4 : DP W4 w.heap.size bl (.slice (some ⟨g, 0, none⟩) n cap) n L U (w.heap.size + 1 + 1) := D3.drew.grown hg4 (fun e => by simp [Value.ownBlock] at e; omega) (fun e => by simp [Value.ownBlock] at e; omega) (fun k hk e => by
    obtain rfl : w2.heap.size = k := by simpa [Value.ownBlock] using e
    have := HD2.out.ch.lt hk; omega)
  have b4 : Below w.heap.size w W4 := (lo_drew b3).grown hg4 (lo_drew b3).size (fun q hq => by
    obtain rfl : w2.heap.size = q := by simpa [Value.ownBlock] using hq
    omega)
  have hv4 : ∀ k, v'.ownBlock = some k → w.heap.size ≤ k := fun k hk => by
    rcases hf4 k hk with e | e
    · obtain rfl : w2.heap.size = k := by simpa [Value.ownBlock] using e
      omega
    · rw [e]; show w.heap.size ≤ w3.heap.size; omega
  have CW := Lib.hid (rwith_any bl c v' (b :: L c) W4 D4.ch hcn (own_base ho4) HH.out.2.2.1)
  obtain ⟨ao4, cap4, rfl⟩ := own_shape3 ho4
  have SC := Lib.hid (fun (W : World) (h : DP W w.heap.size bl (.slice (some ⟨g, 0, none⟩) n cap) n L U (w.heap.size + 1 + 1)) => h.sc hg hcn HH.out.2.2.2)
  have hS3 := SC.out _ D3.drew
  have hS4 := SC.out _ D4
  have HV4 := Lib.hid hv4
  have HB4 := Lib.hid b4
  have HD4 := Lib.hid D4
  clear D3 b3 hx3 hs3 own3 pc3 ho4 hg4 hf4 D4 b4 hv4 hs2 HS1 HD2 HB2
  refine wp_region_held_drew (S := fun w1 => (w1.cell? ⟨w.heap.size, 0, none⟩ = some (.int .i64 bl) ∧ w1.cell? ⟨w.heap.size, 1, none⟩ = some (.slice (some ⟨g, 0, none⟩) n cap)) ∧ w1.cell? ⟨g, c, none⟩ = some v) (by kernel_rfl) hS3 (fun hHeld => ?_)
  refine wpAnyH_take (i := 0) (v := ?vt0) rfl (by kernel_rfl) (by kernel_rfl) (by kernel_rfl) (fun _ _ _ h => h) (Or.inl ⟨by rfl, ?ht0⟩) (by assumption) ?rt0
  case ht0 => (intro w hSw; (try dsimp only at hSw); go_simp <;> (with_reducible rfl))
  (try simp only [Act.put, List.setIfInBounds_toArray, List.set_cons_zero, List.set_cons_succ, List.getElem_toArray, List.getElem_cons_zero])
  refine wpAnyH_take (i := 1) (v := ?vt1) rfl (by kernel_rfl) (by kernel_rfl) (by kernel_rfl) (fun _ _ _ h => h) (Or.inl ⟨by rfl, ?ht1⟩) (by assumption) ?rt1
  case ht1 => (intro w hSw; (try dsimp only at hSw); go_simp <;> (with_reducible rfl))
  (try simp only [Act.put, List.setIfInBounds_toArray, List.set_cons_zero, List.set_cons_succ, List.getElem_toArray, List.getElem_cons_zero, List.getElem_cons_succ])
  refine wpAnyH_take (i := 2) (v := ?vt2) rfl (by kernel_rfl) (by kernel_rfl) (by kernel_rfl) (fun _ _ _ h => h) (Or.inl ⟨by rfl, ?ht2⟩) (by assumption) ?rt2
  case ht2 => (intro w hSw; (try dsimp only at hSw); go_simp <;> (with_reducible rfl))
  (try simp only [Act.put, List.setIfInBounds_toArray, List.set_cons_zero, List.set_cons_succ, List.getElem_toArray, List.getElem_cons_zero, List.getElem_cons_succ])
  refine wpAnyH_take (i := 3) (v := ?vt3) rfl (by kernel_rfl) (by kernel_rfl) (by kernel_rfl) (fun _ _ _ h => h) (Or.inl ⟨by rfl, ?ht3⟩) (by assumption) ?rt3
  case ht3 => (intro w hSw; (try dsimp only at hSw); go_simp <;> (with_reducible rfl))
  (try simp only [Act.put, List.setIfInBounds_toArray, List.set_cons_zero, List.set_cons_succ, List.getElem_toArray, List.getElem_cons_zero, List.getElem_cons_succ])
  refine wpAnyH_take (i := 4) (v := ?vt4) rfl (by kernel_rfl) (by kernel_rfl) (by kernel_rfl) (fun _ _ _ h => h) (Or.inl ⟨by rfl, ?ht4⟩) (by assumption) ?rt4
  case ht4 => (intro w hSw; (try dsimp only at hSw); go_simp <;> (with_reducible rfl))
  (try simp only [Act.put, List.setIfInBounds_toArray, List.set_cons_zero, List.set_cons_succ, List.getElem_toArray, List.getElem_cons_zero, List.getElem_cons_succ])
  refine wpAnyH_take (i := 5) (v := ?vt5) rfl (by kernel_rfl) (by kernel_rfl) (by kernel_rfl) (fun _ _ _ h => h) (Or.inl ⟨by rfl, ?ht5⟩) (by assumption) ?rt5
  case ht5 => (intro w hSw; (try dsimp only at hSw); go_simp <;> (with_reducible rfl))
  (try simp only [Act.put, List.setIfInBounds_toArray, List.set_cons_zero, List.set_cons_succ, List.getElem_toArray, List.getElem_cons_zero, List.getElem_cons_succ])
  refine wpAnyH_take (i := 6) (v := ?vt6) rfl (by kernel_rfl) (by kernel_rfl) (by kernel_rfl) (fun _ _ _ h => h) (Or.inl ⟨by rfl, ?ht6⟩) (by assumption) ?rt6
  case ht6 => (intro w hSw; (try dsimp only at hSw); go_simp <;> (with_reducible rfl))
  (try simp only [Act.put, List.setIfInBounds_toArray, List.set_cons_zero, List.set_cons_succ, List.getElem_toArray, List.getElem_cons_zero, List.getElem_cons_succ])
  refine wpAnyH_take (i := 7) (v := ?vt7) rfl (by kernel_rfl) (by kernel_rfl) (by kernel_rfl) (fun _ _ _ h => h) (Or.inl ⟨by rfl, ?ht7⟩) (by assumption) ?rt7
  case ht7 => (intro w hSw; (try dsimp only at hSw); go_simp <;> (with_reducible rfl))
  (try simp only [Act.put, List.setIfInBounds_toArray, List.set_cons_zero, List.set_cons_succ, List.getElem_toArray, List.getElem_cons_zero, List.getElem_cons_succ])
  refine wpAnyH_ready (rs := [8]) (by kernel_rfl) (by simp) ?_
  refine AllReadyH.cons rfl (fun K hK => ?_) AllReadyH.nil
  refine step_builtin_is Builtin.append_ (fun _ _ _ _ => rfl) rfl _ _ 124 124 rfl _ _ (by simp [Act.eval]) (by simp [Act.eval]) hrun ?_
  refine hK.out _ _ hS4 (fun hHeld => ?_)
  clear hK K
  (try simp only [Act.put, List.setIfInBounds_toArray, List.set_cons_zero, List.set_cons_succ, List.getElem_toArray, List.getElem_cons_zero, List.getElem_cons_succ])
  refine wpAnyH_ready (rs := [9]) (by kernel_rfl) (by simp) ?_
  refine AllReadyH.cons rfl (fun K hK => ?_) AllReadyH.nil
  go_simp
  refine (CW.out).mono ?_
  rintro r w5 ⟨s5, rfl, hw5⟩
  obtain ⟨g5, cap5, rfl, _, _, _⟩ := hw5.ch.form
  have D5 := HD4.out.low hw5.low
  have DT := Lib.hid (hw5.doc (w := w) (s := .slice (some ⟨g, 0, none⟩) n cap) HV4.out HB4.out)
  obtain ⟨⟨r0, r1⟩, r2, r3⟩ := D5.rc
  have hS5 := SC.out _ D5
  (try go_simp)
  refine hK.out _ _ hS5 (fun hHeld => ?_)
  clear hK K
  (try simp only [Act.put, List.setIfInBounds_toArray, List.set_cons_zero, List.set_cons_succ, List.getElem_toArray, List.getElem_cons_zero, List.getElem_cons_succ])
  have h6 := set_two D5.rx (.int .i64 bl) (.slice (some ⟨g5, 0, none⟩) n cap5)
  have hS6 : ((((w5.setCell ⟨w.heap.size + 1 + 1, 0, none⟩ (.int .i64 bl)).setCell ⟨w.heap.size + 1 + 1, 1, none⟩ (.slice (some ⟨g5, 0, none⟩) n cap5)).cell? ⟨w.heap.size, 0, none⟩ = some (.int .i64 bl) ∧ ((w5.setCell ⟨w.heap.size + 1 + 1, 0, none⟩ (.int .i64 bl)).setCell ⟨w.heap.size + 1 + 1, 1, none⟩ (.slice (some ⟨g5, 0, none⟩) n cap5)).cell? ⟨w.heap.size, 1, none⟩ = some (.slice (some ⟨g, 0, none⟩) n cap))) ∧ ((w5.setCell ⟨w.heap.size + 1 + 1, 0, none⟩ (.int .i64 bl)).setCell ⟨w.heap.size + 1 + 1, 1, none⟩ (.slice (some ⟨g5, 0, none⟩) n cap5)).cell? ⟨g, c, none⟩ = some v := by
    have hgl := HH.out.1.lt (.inl hg)
    have t1 := t_cells ((h6.2.2 w.heap.size (by omega)).trans D5.tx)
    refine ⟨t1, ?_⟩
    have := hS5.2
    unfold World.cell? at this ⊢
    dsimp only at this ⊢
    rw [h6.2.2 g (by omega)]
    exact this
  refine wpAnyH_ready (rs := [10]) (by kernel_rfl) (by simp) ?_
  refine AllReadyH.cons rfl (fun K hK => ?_) AllReadyH.nil
  go_simp
  refine hK.out _ _ hS6 (fun hHeld => ?_)
  clear hK K
  (try simp only [Act.put, List.setIfInBounds_toArray, List.set_cons_zero, List.set_cons_succ, List.getElem_toArray, List.getElem_cons_zero, List.getElem_cons_succ])
  refine wpAnyH_done (by kernel_rfl) ?_ _
  have DF := Lib.hid (DT.out.store D5.rx h6.2.2 (h6.2.1 w.heap.size (by omega)))
  have HX6 := Lib.hid h6.1
  clear h6 hS6 hS5 D5 DT r0 r1 r2 r3 hw5
  go_wp2_with fail
  exact bodyPost_ret (results_cell_row rfl _ _ _ _ _ (0, 0) _ rfl HX6.out Tryz.underlying28 (by kernel_rfl) (by kernel_rfl)) rfl ⟨_, rfl, DF.out⟩
end Go.Proofs.YtffpfceclhogoaaGreat.Hs
namespace Go.Proofs.YtffpfceclhogoaaGreat.Hs
open Fld
open Go.ChangeShapes Go.WideShapes Go.ChangeAt Go.RowKit Go.Maps
set_option maxHeartbeats 2000000
set_option maxRecDepth 100000
theorem res_T {fn : Func} {p u : Tmp} (h : fn.results = #[.cell p 28, .tmp u]) (tmps : Array Value) (w : World) (g : Nat) (x y : Value) (hp : tmps.getD p undef = .pointer (some ⟨g, 0, none⟩)) (hR : w.heap[g]? = some (.cells #[x, y] 28 (0, 0))) :
    (results fn tmps).run Tryz.prog w = .ok (.tuple #[.agg #[x, y], tmps.getD u undef]) w := by
  have hl := run_loadVar_row (P := Tryz.prog) w g 28 28 _ (0, 0) _ hR Tryz.underlying28 (by kernel_rfl) (by kernel_rfl)
  rw [results_cell_tmp h, hp]
  simp only [asAddr, Sem.run_pure, Result.andThen_ok, hl]
theorem ret_T {x : Value} {s : Value} {a b : Int} (h : a = b) : Ending.returned (.tuple #[.agg #[x, s], .int .i64 a]) = .returned (.tuple #[.agg #[x, s], .int .i64 b]) := by rw [h]
/-- A table, a key, a result's place, in boxes. -/
structure DQ (w : World) (tb : Nat) (bl : Int) (s : Value) (n : Nat) (L : Nat → List Bk) (U : Nat → Value) (kb : Nat) (k : Ky) (rb : Nat) : Prop where
  ch : ChW w s n L U
  tx : w.heap[tb]? = some (.cells #[.int .i64 bl, s] 28 (0, 0))
  kx : w.heap[kb]? = some (.cells #[.int .i64 k.sp, .int .u64 k.va, .int .i64 k.sz] 114 (0, 0))
  rx : w.heap[rb]? = some (.cells #[.int .i64 0, .slice none 0 0] 28 (0, 0))
section
variable {w w' : World} {tb kb rb n : Nat} {bl : Int} {s : Value} {L : Nat → List Bk} {U : Nat → Value} {k : Ky}
theorem DQ.low (h : DQ w tb bl s n L U kb k rb) (hb : Below w.heap.size w w') : DQ w' tb bl s n L U kb k rb := ⟨h.ch.low hb, blk_low h.tx hb, blk_low h.kx hb, blk_low h.rx hb⟩
theorem DQ.drew (h : DQ w tb bl s n L U kb k rb) : DQ w.drew tb bl s n L U kb k rb := h.low (Below.refl _ w).drew
theorem DQ.drewN (h : DQ w tb bl s n L U kb k rb) (m : Nat) : DQ (w.drewN m) tb bl s n L U kb k rb := h.low (below_drewN (Below.refl _ w) m)
theorem DQ.alloc (h : DQ w tb bl s n L U kb k rb) (o : Obj) : DQ (w.alloc o) tb bl s n L U kb k rb := h.low ((Below.refl _ w).alloc (Nat.le_refl _) o)
theorem DQ.sc (h : DQ w tb bl s n L U kb k rb) {g : Nat} (hg : s.ownBlock = some g) {c : Nat} (hc : c < n) {v : Value} (hv : U c = v) : (w.cell? ⟨tb, 0, none⟩ = some (.int .i64 bl) ∧ w.cell? ⟨tb, 1, none⟩ = some s) ∧ (w.cell? ⟨kb, 0, none⟩ = some (.int .i64 k.sp) ∧ w.cell? ⟨kb, 1, none⟩ = some (.int .u64 k.va) ∧ w.cell? ⟨kb, 2, none⟩ = some (.int .i64 k.sz)) ∧ w.cell? ⟨g, c, none⟩ = some v :=
  ⟨t_cells h.tx, key_cells h.kx, by rw [← hv]; exact h.ch.cell hg hc⟩
theorem DQ.tc (h : DQ w tb bl s n L U kb k rb) : w.cell? ⟨tb, 0, none⟩ = some (.int .i64 bl) ∧ w.cell? ⟨tb, 1, none⟩ = some s := t_cells h.tx
theorem DQ.rc (h : DQ w tb bl s n L U kb k rb) : (w.cell? ⟨rb, 0, none⟩ = some (.int .i64 0) ∧ w.cell? ⟨rb, 1, none⟩ = some (.slice none 0 0)) ∧ w.frozen? ⟨rb, 0, none⟩ = false ∧ w.frozen? ⟨rb, 1, none⟩ = false := by
  have := h.rx
  exact ⟨t_cells h.rx, by simp [World.frozen?, this], by simp [World.frozen?, this]⟩
theorem DQ.new (h : ChW w s n L U) (bl : Int) (k : Ky) : DQ (((w.alloc (.cells #[.int .i64 bl, s] 28)).alloc (.cells #[.int .i64 k.sp, .int .u64 k.va, .int .i64 k.sz] 114)).alloc (.cells #[.int .i64 0, .slice none 0 0] 28)) w.heap.size bl s n L U (w.heap.size + 1) k (w.heap.size + 1 + 1) := by
  have d := (DB.new h bl k).alloc (.cells #[.int .i64 0, .slice none 0 0] 28)
  refine ⟨d.ch, d.tx, d.kx, ?_⟩
  have := heap_alloc_new ((w.alloc (.cells #[.int .i64 bl, s] 28)).alloc (.cells #[.int .i64 k.sp, .int .u64 k.va, .int .i64 k.sz] 114)) (.cells #[.int .i64 0, .slice none 0 0] 28)
  rwa [World.size_alloc, World.size_alloc] at this
/-- A table is put into the result's place. -/
theorem DQ.fin {w0 : World} {s0 s' : Value} {n0 n' : Nat} {L' : Nat → List Bk} {U0 : Nat → Value} (h : DQ w tb bl s n L U kb k rb) (hd : DocTo w0 w s0 n0 U0 s' n' L') (hr : w0.heap.size ≤ rb) (b' : Int) :
    ((w.setCell ⟨rb, 0, none⟩ (.int .i64 b')).setCell ⟨rb, 1, none⟩ s').heap[rb]? = some (.cells #[.int .i64 b', s'] 28 (0, 0)) ∧ DocTo w0 ((w.setCell ⟨rb, 0, none⟩ (.int .i64 b')).setCell ⟨rb, 1, none⟩ s') s0 n0 U0 s' n' L' := by
  have h6 := set_two h.rx (.int .i64 b') s'
  exact ⟨h6.1, hd.store h.rx h6.2.2 (h6.2.1 _ hr)⟩
end
theorem tput_any {s : Value} {n : Nat} {L : Nat → List Bk} {U : Nat → Value} (bl : Int) (hb0 : bl ≤ 1073741824) (k : Ky) (hk : k.wf) (x : Int) (w : World) (h : ChW w s n L U) :
    Calls Tryz.prog 68 #[.agg #[.int .i64 bl, s], .agg #[.int .i64 k.sp, .int .u64 k.va, .int .i64 k.sz], .int .i64 x] w fun e w' => ∃ s', e = .returned (.tuple #[.agg #[.int .i64 bl, s'], .int .i64 (putE bl n L k)]) ∧ DocTo w w' s n U s' n (putT bl n L k x) := by
  obtain ⟨g, cap, rfl, hg, hnc, hcm⟩ := h.form
  have hn0 := h.n0
  have hn1 := h.n1
  have b1 : Below w.heap.size w (((w.alloc (.cells #[.int .i64 bl, .slice (some ⟨g, 0, none⟩) n cap] 28)).alloc (.cells #[.int .i64 k.sp, .int .u64 k.va, .int .i64 k.sz] 114)).alloc (.cells #[.int .i64 0, .slice none 0 0] 28)) := by (repeat (first | (with_reducible assumption) | (with_reducible exact Below.refl _ _) | (with_reducible refine lo_step ?_ (by assumption)) | (with_reducible refine lo_drew ?_) | (with_reducible refine lo_drewN ?_ _) | (with_reducible refine lo_alloc ?_ _))) 
  have D1 := DQ.new h bl k
  have CM := Lib.hid (fun w => Hs.rmay_any k hk w)
  have HH := Lib.hid h
  cases hm : kmayB k
  · have e1 := Lib.hid (show putE bl n L k = 1 by unfold putE; rw [hm]; rfl)
    have e2 := Lib.hid (show putT bl n L k x = L by unfold putT putE; rw [hm]; rfl)
    rw [hm] at CM
    have HD1 := Lib.hid (And.intro b1 D1)
    clear h D1 b1
    go_enter Tryz.func68, Tryz.ntmps68
    go_wp2_with fail
    refine (CM.out _).mono ?_; rintro e w2 ⟨rfl, hb2⟩
    have D2 := HD1.out.2.low hb2
    obtain ⟨t0, t1⟩ := D2.tc
    obtain ⟨⟨r0, r1⟩, r2, r3⟩ := D2.rc
    have DF := D2.fin (DocTo.id HH.out (lo_step HD1.out.1 hb2)) (by omega) bl
    have HF := Lib.hid DF
    clear D2 DF HD1 hb2
    go_wp2_with fail
    exact bodyPost_ret (res_T rfl _ _ _ _ _ rfl HF.out.1) rfl ⟨_, ret_T e1.out.symm, by rw [e2.out]; exact HF.out.2⟩
  · rw [hm] at CM
    have hok := hk.ok hm
    have CC := Lib.hid (fun w => rchain_any k hok n hn0 (by omega) w)
    rw [chain_cast k hn0] at CC
    have hcn := chain_lt k hn0
    have hE : putE bl n L k = if hasB (L (chainN k n)) k then 9 else if bl ≤ (lenL L n : Int) then 6 else 0 := by unfold putE; rw [hm]; rfl
    have hTT : putT bl n L k x = if putE bl n L k = 0 then setL L (chainN k n) (⟨k, x⟩ :: L (chainN k n)) else L := rfl
    have CPu := Lib.hid (fun (W : World) (h : ChW W (.slice (some ⟨g, 0, none⟩) n cap) n L U) (hr : lenL L n + 1 ≤ 1073741824) => rpush_any bl ⟨k, x⟩ hok W h hr)
    obtain ⟨c, hc⟩ : ∃ c, c = chainN k n := ⟨_, rfl⟩
    dsimp only at CPu
    rw [← hc] at CC hcn hE hTT CPu
    have hll := len_one L hcn
    have hfew := h.few
    obtain ⟨v, hv⟩ : ∃ v, U c = v := ⟨_, rfl⟩
    have CA := Lib.hid (fun (W : World) (h : DQ W w.heap.size bl (.slice (some ⟨g, 0, none⟩) n cap) n L U (w.heap.size + 1) k (w.heap.size + 1 + 1)) => rat_any v (L c) k W (by rw [← hv]; exact h.ch.rows c hcn) (by omega))
    have SC := Lib.hid (fun (W : World) (tb kb rb : Nat) (h : DQ W tb bl (.slice (some ⟨g, 0, none⟩) n cap) n L U kb k rb) => h.sc hg hcn hv)
    have hcn' : (c : Int) < (n : Int) := by omega
    have HE := Lib.hid hE
    have HT := Lib.hid hTT
    have HD1 := Lib.hid (And.intro b1 D1)
    clear hv hE hTT hc h D1 b1
    go_enter Tryz.func68, Tryz.ntmps68
    go_wp2_with fail
    refine (CM.out _).mono ?_; rintro e w2 ⟨rfl, hb2⟩
    have D2 := HD1.out.2.low hb2
    have b2 := lo_step HD1.out.1 hb2
    have sc2 := SC.out _ _ _ _ D2
    have HB2 := Lib.hid b2
    clear HD1 hb2 CM b2
    go_wp2_with fail
    go_region_held3 (fun w1 => (w1.cell? ⟨w.heap.size, 0, none⟩ = some (.int .i64 bl) ∧ w1.cell? ⟨w.heap.size, 1, none⟩ = some (.slice (some ⟨g, 0, none⟩) n cap)) ∧ (w1.cell? ⟨w.heap.size + 1, 0, none⟩ = some (.int .i64 k.sp) ∧ w1.cell? ⟨w.heap.size + 1, 1, none⟩ = some (.int .u64 k.va) ∧ w1.cell? ⟨w.heap.size + 1, 2, none⟩ = some (.int .i64 k.sz)) ∧ w1.cell? ⟨g, c, none⟩ = some v)
      ((refine SC.out _ _ _ (w.heap.size + 1 + 1) ?_; (repeat (first | (with_reducible assumption) | (with_reducible refine DQ.drew ?_) | (with_reducible refine DQ.drewN ?_ _) | (with_reducible refine DQ.alloc ?_ _) | (with_reducible refine DQ.low ?_ (by assumption)))) ))
      (first | (go_at_call 101; (with_reducible refine (CC.out _).mono ?_); rintro r w3 ⟨rfl, hb3⟩) | (go_at_call 100; refine (CA.out _ (by (repeat (first | (with_reducible assumption) | (with_reducible refine DQ.drew ?_) | (with_reducible refine DQ.drewN ?_ _) | (with_reducible refine DQ.alloc ?_ _) | (with_reducible refine DQ.low ?_ (by assumption)))) )).mono ?_; rintro r w4 ⟨rfl, hb4⟩))
    have D4 := (D2.drew.low hb3).low hb4
    have b4 := lo_step (lo_step (lo_drew HB2.out) hb3) hb4
    obtain ⟨t0, t1⟩ := D4.tc
    clear sc2 SC CC CA hb3 hb4 D2 HB2
    cases hh : hasB (L c) k
    · rw [hh] at HE
      rw [place_no hh]
      have CLn := Lib.hid (fun (W : World) (h : DQ W w.heap.size bl (.slice (some ⟨g, 0, none⟩) n cap) n L U (w.heap.size + 1) k (w.heap.size + 1 + 1)) => tlen_any bl W h.ch)
      have TC := Lib.hid (fun (W : World) (h : DQ W w.heap.size bl (.slice (some ⟨g, 0, none⟩) n cap) n L U (w.heap.size + 1) k (w.heap.size + 1 + 1)) => h.tc)
      have HB4 := Lib.hid b4
      clear b4
      go_wp2_with fail
      have tc4 := TC.out _ D4.drew
      go_region_held3 (fun w1 => w1.cell? ⟨w.heap.size, 0, none⟩ = some (.int .i64 bl) ∧ w1.cell? ⟨w.heap.size, 1, none⟩ = some (.slice (some ⟨g, 0, none⟩) n cap))
        ((refine TC.out _ ?_; (repeat (first | (with_reducible assumption) | (with_reducible refine DQ.drew ?_) | (with_reducible refine DQ.drewN ?_ _) | (with_reducible refine DQ.alloc ?_ _) | (with_reducible refine DQ.low ?_ (by assumption)))) ))
        (first | (go_at_call 102; refine (CLn.out _ (by (repeat (first | (with_reducible assumption) | (with_reducible refine DQ.drew ?_) | (with_reducible refine DQ.drewN ?_ _) | (with_reducible refine DQ.alloc ?_ _) | (with_reducible refine DQ.low ?_ (by assumption)))) )).mono ?_; rintro r w5 ⟨rfl, hb5⟩))
      have D5 := D4.drew.low hb5
      have b5 := lo_step (lo_drew HB4.out) hb5
      obtain ⟨t0, t1⟩ := D5.tc
      obtain ⟨⟨r0, r1⟩, r2, r3⟩ := D5.rc
      clear tc4 hb5 D4 CLn TC HB4
      by_cases hfull : bl ≤ (lenL L n : Int)
      · have e1 := Lib.hid (show putE bl n L k = 6 by rw [HE.out]; simp [hfull])
        have e2 := Lib.hid (show putT bl n L k x = L by rw [HT.out, e1.out]; rfl)
        have HF := Lib.hid (D5.fin (DocTo.id HH.out b5) (by omega) bl)
        clear D5 b5
        go_wp2_with fail
        exact bodyPost_ret (res_T rfl _ _ _ _ _ rfl HF.out.1) rfl ⟨_, ret_T e1.out.symm, by rw [e2.out]; exact HF.out.2⟩
      · have e1 := Lib.hid (show putE bl n L k = 0 by rw [HE.out]; simp [hfull])
        have e2 := Lib.hid (show putT bl n L k x = setL L c (⟨k, x⟩ :: L c) by rw [HT.out, e1.out]; rfl)
        have CP := Lib.hid (CPu.out _ D5.ch (by omega))
        obtain ⟨k0, k1, k2⟩ := key_cells D5.kx
        have HD5 := Lib.hid (And.intro b5 D5)
        clear CPu b5 D5 r0 r1 r2 r3
        go_wp2_with fail
        refine CP.out.mono ?_; rintro e w6 ⟨s6, rfl, hd6⟩
        have hb6 : Below w5.heap.size w5 w6 := by obtain ⟨_, _, _, h⟩ := hd6; exact h
        have D6 := HD5.out.2.low hb6
        obtain ⟨⟨r0, r1⟩, r2, r3⟩ := D6.rc
        have hd : DocTo w w6 (.slice (some ⟨g, 0, none⟩) n cap) n U s6 n (setL L c (⟨k, x⟩ :: L c)) := by
          obtain ⟨U', a, b, d⟩ := hd6
          exact ⟨U', a, fun q hq => (b q hq).imp _root_.id (Nat.le_trans HD5.out.1.size), lo_step HD5.out.1 d⟩
        have hsh : ∃ g6 c6, s6 = .slice (some ⟨g6, 0, none⟩) n c6 := by obtain ⟨U', a, _⟩ := hd6; obtain ⟨g6, c6, h, _⟩ := a.form; exact ⟨g6, c6, h⟩
        obtain ⟨g6, c6, rfl⟩ := hsh
        have HF := Lib.hid (D6.fin hd (by omega) bl)
        clear D6 hd6 hb6 hd CP HD5 k0 k1 k2 t0 t1
        go_wp2_with fail
        exact bodyPost_ret (res_T rfl _ _ _ _ _ rfl HF.out.1) rfl ⟨_, ret_T e1.out.symm, by rw [e2.out]; exact HF.out.2⟩
    · rw [hh] at HE
      have e1 := Lib.hid (show putE bl n L k = 9 by rw [HE.out]; rfl)
      have e2 := Lib.hid (show putT bl n L k x = L by rw [HT.out, e1.out]; rfl)
      rw [place_yes hh]
      have hj0 : (0 : Int) ≤ (posN (L c) k : Int) := by omega
      obtain ⟨⟨r0, r1⟩, r2, r3⟩ := D4.rc
      have HF := Lib.hid (D4.fin (DocTo.id HH.out b4) (by omega) bl)
      clear D4 b4 hh
      go_wp2_with fail
      exact bodyPost_ret (res_T rfl _ _ _ _ _ rfl HF.out.1) rfl ⟨_, ret_T e1.out.symm, by rw [e2.out]; exact HF.out.2⟩
end Go.Proofs.YtffpfceclhogoaaGreat.Hs
namespace Go.Proofs.YtffpfceclhogoaaGreat.Hs
open Fld
open Go.ChangeShapes Go.WideShapes Go.ChangeAt Go.RowKit Go.Maps
set_option maxHeartbeats 2000000
set_option maxRecDepth 100000
theorem get_place {n : Nat} {L : Nat → List Bk} {k : Ky} (h : getB n L k = true) : hasB (L (chainN k n)) k = true ∧ kmayB k = true ∧ getN n L k = (posN (L (chainN k n)) k : Int) + 1 := by
  have h2 := h
  unfold getB at h2
  simp at h2
  exact ⟨h2.2, h2.1, by unfold getN; rw [if_pos h]⟩
theorem doc_from {w w1 w' : World} {s s' : Value} {n n' : Nat} {L' : Nat → List Bk} {U : Nat → Value} (h : DocTo w1 w' s n U s' n' L') (hb : Below w.heap.size w w1) : DocTo w w' s n U s' n' L' := by
  obtain ⟨U', a, b, c⟩ := h
  exact ⟨U', a, fun k hk => (b k hk).imp id (Nat.le_trans hb.size), lo_step hb c⟩
theorem DocTo.form {w w' : World} {s s' : Value} {n n' : Nat} {L' : Nat → List Bk} {U : Nat → Value} (h : DocTo w w' s n U s' n' L') : ∃ g c, s' = .slice (some ⟨g, 0, none⟩) n' c := by
  obtain ⟨U', a, _⟩ := h
  obtain ⟨g, c, h, _⟩ := a.form
  exact ⟨g, c, h⟩
end Go.Proofs.YtffpfceclhogoaaGreat.Hs
