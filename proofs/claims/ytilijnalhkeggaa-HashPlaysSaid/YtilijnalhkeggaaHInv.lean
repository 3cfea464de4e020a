/-
  Plain facts on tables whose keys stand each once, in its own chain: what is got behind Put, Cut and Resize. Conditions: none.
-/
import Derived.Test.YtilijnalhkeggaaHMath
namespace Go.Proofs.Ytilijnalhkeggaa.Hs
open Fld
structure Inv (n : Nat) (L : Nat → List Bk) : Prop where
  pl : ∀ i, i < n → ∀ b ∈ L i, chainN b.k n = i
  un : ∀ i, i < n → ((L i).map Bk.k).Nodup
def MemT (n : Nat) (L : Nat → List Bk) (k : Ky) (v : Int) : Prop := (⟨k, v⟩ : Bk) ∈ L (chainN k n)
theorem Inv.nil (n : Nat) : Inv n (fun _ => []) := ⟨fun _ _ b hb => (by cases hb), fun _ _ => List.nodup_nil⟩
theorem mem_nil (n : Nat) (k : Ky) (v : Int) : ¬ MemT n (fun _ => []) k v := fun h => by cases h
theorem at_pos {l : List Bk} (hu : (l.map Bk.k).Nodup) {b : Bk} (hb : b ∈ l) : hasB l b.k = true ∧ at_ l (posN l b.k) = b := by
  have hh := has_mem.2 ⟨b, hb, rfl⟩
  refine ⟨hh, ?_⟩
  have h1 := at_mem (has_lt hh)
  have h2 := pos_key hh
  have inj : ∀ {m : List Bk}, (m.map Bk.k).Nodup → ∀ {x y : Bk}, x ∈ m → y ∈ m → x.k = y.k → x = y := by
    intro m
    induction m with
    | nil => intro _ x y h; cases h
    | cons c m ih =>
      intro hn x y hx hy e
      rw [List.map_cons, List.nodup_cons] at hn
      rcases List.mem_cons.1 hx with hx | hx <;> rcases List.mem_cons.1 hy with hy | hy
      · rw [hx, hy]
      · exact absurd (List.mem_map.2 ⟨y, hy, by rw [← e, hx]⟩) hn.1
      · exact absurd (List.mem_map.2 ⟨x, hx, by rw [e, hy]⟩) hn.1
      · exact ih hn.2 hx hy e
  exact inj hu h1 hb h2
section
variable {n : Nat} {L : Nat → List Bk}
theorem Inv.get (h : Inv n L) (hn : 1 ≤ n) {k : Ky} (hk : k.Ok) {v : Int} (hm : MemT n L k v) : getB n L k = true ∧ getV n L k = v ∧ 1 ≤ getN n L k ∧ getN n L k ≤ (lngL L n : Int) := by
  obtain ⟨h1, h2⟩ := at_pos (h.un _ (chain_lt k hn)) hm
  have hb : getB n L k = true := by unfold getB; rw [hk.may]; exact h1
  have hl := has_lt h1
  have := lng_one L (chain_lt k hn)
  refine ⟨hb, ?_, ?_, ?_⟩
  · unfold getV; rw [if_pos hb]; exact congrArg Bk.v h2
  · unfold getN; rw [if_pos hb]; omega
  · unfold getN; rw [if_pos hb]
    have : posN (L (chainN k n)) k < (L (chainN k n)).length := hl
    omega
theorem get_no {k : Ky} (hm : ∀ v, ¬ MemT n L k v) : hasB (L (chainN k n)) k = false := by
  cases e : hasB (L (chainN k n)) k
  · rfl
  · obtain ⟨b, hb, rfl⟩ := has_mem.1 e
    exact absurd hb (hm b.v)
theorem has_yes (h : Inv n L) (hn : 1 ≤ n) {k : Ky} {v : Int} (hm : MemT n L k v) : hasB (L (chainN k n)) k = true := (at_pos (h.un _ (chain_lt k hn)) hm).1
theorem setL_mem {c : Nat} {l : List Bk} {k : Ky} {v : Int} : MemT n (setL L c l) k v ↔ if chainN k n = c then (⟨k, v⟩ : Bk) ∈ l else MemT n L k v := by
  unfold MemT setL; split <;> rfl
/-- What Put does to a table with room. -/
theorem Inv.put (h : Inv n L) {bl : Int} (hn : 1 ≤ n) {k : Ky} (hk : k.Ok) (v : Int) (hroom : (lenL L n : Int) < bl) :
    (putE bl n L k = 0 ∧ (∀ x, ¬ MemT n L k x) ∧ Inv n (putT bl n L k v) ∧ (∀ k' v', MemT n (putT bl n L k v) k' v' ↔ MemT n L k' v' ∨ (k' = k ∧ v' = v)) ∧ lenL (putT bl n L k v) n = lenL L n + 1) ∨
    (putE bl n L k = 9 ∧ putT bl n L k v = L ∧ ∃ x, MemT n L k x) := by
  have hr : ¬ bl ≤ (lenL L n : Int) := by omega
  cases e : hasB (L (chainN k n)) k
  · left
    have hE : putE bl n L k = 0 := by unfold putE; rw [hk.may, e, if_neg (by simp), if_neg (by simp), if_neg hr]
    have hT : putT bl n L k v = setL L (chainN k n) (⟨k, v⟩ :: L (chainN k n)) := by unfold putT; rw [if_pos hE]
    have hno : ∀ x, ¬ MemT n L k x := fun x hx => by
      have := has_mem.2 ⟨_, hx, rfl⟩
      rw [e] at this; cases this
    refine ⟨hE, hno, ⟨fun i hi b hb => ?_, fun i hi => ?_⟩, fun k' v' => ?_, (put_len hn hE).1⟩
    · rw [hT] at hb
      by_cases f : i = chainN k n
      · subst f; rw [setL_same] at hb
        rcases List.mem_cons.1 hb with rfl | hb
        · rfl
        · exact h.pl _ hi b hb
      · rw [setL_other _ _ f] at hb; exact h.pl i hi b hb
    · rw [hT]
      by_cases f : i = chainN k n
      · subst f; rw [setL_same, List.map_cons, List.nodup_cons]
        refine ⟨fun hm => ?_, h.un _ hi⟩
        obtain ⟨b, hb, e2⟩ := List.mem_map.1 hm
        have := has_mem.2 ⟨b, hb, e2⟩
        rw [e] at this; cases this
      · rw [setL_other _ _ f]; exact h.un i hi
    · rw [hT, setL_mem]
      by_cases f : chainN k' n = chainN k n
      · rw [if_pos f, List.mem_cons, ← f]
        constructor
        · rintro (h1 | h1)
          · cases h1; exact .inr ⟨rfl, rfl⟩
          · exact .inl h1
        · rintro (h1 | ⟨rfl, rfl⟩)
          · exact .inr h1
          · exact .inl rfl
      · rw [if_neg f]
        constructor
        · exact .inl
        · rintro (h1 | ⟨rfl, rfl⟩)
          · exact h1
          · exact absurd rfl f
  · right
    have hE : putE bl n L k = 9 := by unfold putE; rw [hk.may, e, if_neg (by simp), if_pos rfl]
    refine ⟨hE, by unfold putT; rw [if_neg (by rw [hE]; decide)], ?_⟩
    obtain ⟨b, hb, rfl⟩ := has_mem.1 e
    exact ⟨b.v, hb⟩
theorem erase_mem {l : List Bk} (hu : (l.map Bk.k).Nodup) {k : Ky} (h : hasB l k = true) {b : Bk} : b ∈ l.eraseIdx (posN l k) ↔ b ∈ l ∧ b.k ≠ k := by
  have hlt := has_lt h
  have hkey := pos_key h
  have e1 : l = l.take (posN l k) ++ at_ l (posN l k) :: l.drop (posN l k + 1) := by
    have h2 : l[posN l k] = at_ l (posN l k) := by simp [at_, hlt]
    rw [← h2, ← List.drop_eq_getElem_cons hlt, List.take_append_drop]
  rw [List.eraseIdx_eq_take_drop_succ, List.mem_append]
  generalize posN l k = p at *
  generalize at_ l p = a at *
  constructor
  · intro hb
    refine ⟨?_, fun e => ?_⟩
    · rw [e1, List.mem_append, List.mem_cons]
      rcases hb with hb | hb
      · exact .inl hb
      · exact .inr (.inr hb)
    · rw [e1, List.map_append, List.map_cons, List.nodup_append] at hu
      obtain ⟨_, h3, h4⟩ := hu
      rcases hb with hb | hb
      · exact h4 b.k (List.mem_map.2 ⟨b, hb, rfl⟩) a.k List.mem_cons_self (by rw [e, hkey])
      · rw [List.nodup_cons] at h3
        exact h3.1 (List.mem_map.2 ⟨b, hb, by rw [e, hkey]⟩)
  · rintro ⟨hb, hne⟩
    rw [e1, List.mem_append, List.mem_cons] at hb
    rcases hb with hb | rfl | hb
    · exact .inl hb
    · exact absurd hkey hne
    · exact .inr hb
theorem Inv.cut (h : Inv n L) (hn : 1 ≤ n) {k : Ky} (hk : k.Ok) {v : Int} (hm : MemT n L k v) :
    setE n L k = 0 ∧ Inv n (cutT n L k) ∧ (∀ k' v', MemT n (cutT n L k) k' v' ↔ MemT n L k' v' ∧ k' ≠ k) ∧ lenL (cutT n L k) n + 1 = lenL L n := by
  have hb : getB n L k = true := (h.get hn hk hm).1
  have hh := has_yes h hn hm
  have hu := h.un _ (chain_lt k hn)
  have hT : cutT n L k = setL L (chainN k n) ((L (chainN k n)).eraseIdx (posN (L (chainN k n)) k)) := by unfold cutT; rw [if_pos hb]
  refine ⟨by unfold setE; rw [if_pos hb], ⟨fun i hi b hb2 => ?_, fun i hi => ?_⟩, fun k' v' => ?_, cut_len hn hb⟩
  · rw [hT] at hb2
    by_cases f : i = chainN k n
    · subst f; rw [setL_same] at hb2; exact h.pl _ hi b (List.mem_of_mem_eraseIdx hb2)
    · rw [setL_other _ _ f] at hb2; exact h.pl i hi b hb2
  · rw [hT]
    by_cases f : i = chainN k n
    · subst f; rw [setL_same]; exact hu.sublist ((List.eraseIdx_sublist ..).map _)
    · rw [setL_other _ _ f]; exact h.un i hi
  · rw [hT, setL_mem]
    by_cases f : chainN k' n = chainN k n
    · rw [if_pos f, erase_mem hu hh]; unfold MemT; rw [f]
    · rw [if_neg f]
      exact ⟨fun h1 => ⟨h1, fun e => f (by rw [e])⟩, fun h1 => h1.1⟩
theorem not_get {k : Ky} (hm : ∀ v, ¬ MemT n L k v) : getB n L k = false := by unfold getB; rw [get_no hm]; simp
theorem all_nodup (h : Inv n L) : ∀ j, j ≤ n → ((allL L j).map Bk.k).Nodup
  | 0, _ => List.nodup_nil
  | j + 1, hj => by
    unfold allL
    rw [List.map_append, List.nodup_append]
    refine ⟨all_nodup h j (by omega), h.un j (by omega), fun a ha b hb e => ?_⟩
    obtain ⟨x, hx, rfl⟩ := List.mem_map.1 ha
    obtain ⟨y, hy, rfl⟩ := List.mem_map.1 hb
    obtain ⟨i, hi, hx⟩ := mem_all.1 hx
    have h1 := h.pl i (by omega) x hx
    have h2 := h.pl j (by omega) y hy
    rw [e] at h1; omega
theorem Inv.res (h : Inv n L) (hn : 1 ≤ n) (m : Nat) : Inv m (resT L n m) ∧ ∀ k v, MemT m (resT L n m) k v ↔ MemT n L k v := by
  refine ⟨⟨fun i _ b hb => ?_, fun i _ => ?_⟩, fun k v => ?_⟩
  · unfold resT at hb
    simpa using (List.mem_filter.1 hb).2
  · unfold resT
    exact (all_nodup h n (Nat.le_refl _)).sublist (List.filter_sublist.map _)
  · unfold MemT resT
    rw [List.mem_filter, mem_all]
    constructor
    · rintro ⟨⟨i, hi, hb⟩, _⟩
      have := h.pl i hi _ hb
      dsimp only at this
      rw [this]; exact hb
    · intro hb
      exact ⟨⟨_, chain_lt k hn, hb⟩, by simp⟩
end
theorem no_cut {n : Nat} {L : Nat → List Bk} {k : Ky} (h : getB n L k = false) : setE n L k = 10 ∧ cutT n L k = L ∧ (∀ v, setT n L k v = L) ∧ getV n L k = 0 :=
  ⟨by unfold setE; rw [h]; rfl, by unfold cutT; rw [h]; rfl, fun v => by unfold setT; rw [h]; rfl, by unfold getV; rw [h]; rfl⟩
/-! ### A table into which keys were put, one behind the other -/
/-- The table has just the keys of the list, each with its number. -/
structure Puts (n : Nat) (L : Nat → List Bk) (own : List Ky) : Prop where
  inv : Inv n L
  mem : ∀ k v, MemT n L k v ↔ ∃ i : Nat, own[i]? = some k ∧ v = (i : Int)
  un : own.Nodup
  len : lenL L n = own.length
  ok : ∀ k ∈ own, k.Ok
theorem tlen_nil (n : Nat) : lenL (fun _ => []) n = 0 := by unfold lenL; rw [all_empty (fun _ _ => rfl)]; rfl
theorem Puts.nil (n : Nat) : Puts n (fun _ => []) [] := ⟨Inv.nil n, fun k v => ⟨fun h => absurd h (mem_nil n k v), fun ⟨i, h, _⟩ => by simp at h⟩, List.nodup_nil, tlen_nil n, fun k h => by cases h⟩
theorem Puts.put {n : Nat} {L : Nat → List Bk} {own : List Ky} (h : Puts n L own) (hn : 1 ≤ n) {k : Ky} (hk : k.Ok) {bl : Int} (hr : (own.length : Int) < bl) :
    (putE bl n L k = 0 ∧ Puts n (putT bl n L k (own.length : Int)) (own ++ [k])) ∨ (putE bl n L k = 9 ∧ putT bl n L k (own.length : Int) = L ∧ Puts n L own) := by
  rcases h.inv.put (bl := bl) hn hk (own.length : Int) (by rw [h.len]; exact hr) with ⟨h1, h2, h3, h4, h5⟩ | ⟨h1, h2, _⟩
  · left
    have hno : k ∉ own := fun hm => by
      obtain ⟨i, hi, e⟩ := List.getElem_of_mem hm
      exact h2 (i : Int) ((h.mem k i).2 ⟨i, by rw [List.getElem?_eq_getElem hi, e], rfl⟩)
    refine ⟨h1, h3, fun k' v' => ?_, List.nodup_append.2 ⟨h.un, by simp, fun a ha b hb e => ?_⟩, by rw [h5, h.len]; simp, fun x hx => ?_⟩
    · rw [h4, h.mem]
      constructor
      · rintro (⟨i, hi, e⟩ | ⟨rfl, rfl⟩)
        · exact ⟨i, by rw [List.getElem?_append_left (List.getElem?_eq_some_iff.1 hi).1]; exact hi, e⟩
        · exact ⟨own.length, by simp, rfl⟩
      · rintro ⟨i, hi, e⟩
        by_cases f : i < own.length
        · rw [List.getElem?_append_left f] at hi; exact .inl ⟨i, hi, e⟩
        · have hl := (List.getElem?_eq_some_iff.1 hi).1
          simp at hl
          obtain rfl : i = own.length := by omega
          simp at hi
          exact .inr ⟨hi.symm, e⟩
    · obtain rfl : b = k := by simpa using hb
      subst e; exact hno ha
    · rcases List.mem_append.1 hx with hx | hx
      · exact h.ok x hx
      · obtain rfl : x = k := by simpa using hx
        exact hk
  · exact .inr ⟨h1, h2, h⟩
/-- Behind a Cut of one of the keys. -/
theorem Puts.cut {n : Nat} {L : Nat → List Bk} {own : List Ky} (h : Puts n L own) (hn : 1 ≤ n) {q : Nat} {k : Ky} (hq : own[q]? = some k) :
    setE n L k = 0 ∧ getB n (cutT n L k) k = false ∧ lenL (cutT n L k) n + 1 = own.length ∧ ∀ i x, own[i]? = some x → i ≠ q → getB n (cutT n L k) x = true ∧ getV n (cutT n L k) x = (i : Int) := by
  have hm := (h.mem k q).2 ⟨q, hq, rfl⟩
  have hk := h.ok k (List.mem_of_getElem? hq)
  obtain ⟨a, b, c, d⟩ := h.inv.cut hn hk hm
  refine ⟨a, not_get (fun v hv => ((c k v).1 hv).2 rfl), by rw [d, h.len], fun i x hi hne => ?_⟩
  have hx := h.ok x (List.mem_of_getElem? hi)
  have hne2 : x ≠ k := fun e => by
    rw [e] at hi
    have h1 := (List.getElem?_eq_some_iff.1 hi); have h2 := (List.getElem?_eq_some_iff.1 hq)
    obtain ⟨l1, e1⟩ := h1; obtain ⟨l2, e2⟩ := h2
    exact hne ((List.getElem_inj h.un).1 (e1.trans e2.symm))
  have := b.get hn hx ((c x (i : Int)).2 ⟨(h.mem x i).2 ⟨i, hi, rfl⟩, hne2⟩)
  exact ⟨this.1, this.2.1⟩
theorem Puts.at {n : Nat} {L : Nat → List Bk} {own : List Ky} (h : Puts n L own) {i : Nat} {k : Ky} (hi : own[i]? = some k) : MemT n L k (i : Int) := (h.mem k i).2 ⟨i, hi, rfl⟩
end Go.Proofs.Ytilijnalhkeggaa.Hs
