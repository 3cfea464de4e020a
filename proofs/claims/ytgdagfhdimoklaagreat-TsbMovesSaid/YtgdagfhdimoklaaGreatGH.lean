/-
  YtgdagfhdimoklaaGreatGH: the contracts and plain facts of several texts, laid together. Conditions: those that each theorem names.
-/
import Derived.Test.YtgdagfhdimoklaaGreatGG
import Derived.Deep.CutBlock
import Derived.Test.YtgdagfhdimoklaaGreatGD
/-
  Plain facts on TSBs: the document's list of words tells what the places hold. Conditions: none.
-/
namespace Go.Proofs.YtgdagfhdimoklaaGreat.Ts
open Fld
open Pt (idxI idx_bd)
open Tl (nthE)
theorem find_ext {l : List Wd} {f g : Wd → Bool} (h : ∀ x ∈ l, f x = g x) : l.find? f = l.find? g := by
  induction l with
  | nil => rfl
  | cons y l ih =>
    rw [List.find?_cons, List.find?_cons, h y (List.mem_cons_self ..), ih fun x hx => h x (List.mem_cons_of_mem _ hx)]
theorem get_put (l : List Wd) (x : Wd) (j : Nat) : getW (putW l x) j = if j = x.i then ⟨x.t, x.d⟩ else getW l j := by
  unfold getW putW
  rw [List.find?_append, List.find?_filter]
  by_cases hj : j = x.i
  · subst hj
    rw [if_pos rfl]
    have : l.find? (fun a => decide ((a.i != x.i) = true ∧ (a.i == x.i) = true)) = none := by
      rw [List.find?_eq_none]
      intro y _
      by_cases h : y.i = x.i <;> simp [h]
    rw [this]
    by_cases hx : x.t = 9223372036854775807 ∧ x.d = 0
    · rw [if_pos hx]
      simp only [List.find?_nil, Option.or_none]
      unfold Pl.none; rw [hx.1, hx.2]
    · rw [if_neg hx]
      simp
  · rw [if_neg hj]
    have e : l.find? (fun a => decide ((a.i != x.i) = true ∧ (a.i == j) = true)) = l.find? (fun a => a.i == j) := find_ext fun y _ => by
      by_cases h : y.i = j
      · simp [h, hj]
      · simp [h]
    rw [e]
    have n : (if x.t = 9223372036854775807 ∧ x.d = 0 then [] else [x]).find? (fun a => a.i == j) = none := by
      rw [List.find?_eq_none]
      intro y hy
      split at hy
      · simp at hy
      · rw [List.mem_singleton.1 hy]; simp; exact fun h => hj h.symm
    rw [n, Option.or_none]
/-- The document's list tells what the places hold, each place at most once. -/
structure Tie (p : Par) (l : List Wd) (T : Nat → Pl) : Prop where
  tells : ∀ i, i < p.n → getW l i = T i
  one : (l.map (·.i)).Nodup
  lt : ∀ x ∈ l, x.i < p.n
  no : ∀ x ∈ l, ¬ (x.t = 9223372036854775807 ∧ x.d = 0)
theorem tie_nil (p : Par) : Tie p [] (fun _ => Pl.none) := ⟨fun _ _ => rfl, by simp, fun _ h => absurd h (by simp), fun _ h => absurd h (by simp)⟩
theorem tie_put {p : Par} {l : List Wd} {T : Nat → Pl} (h : Tie p l T) {x : Wd} (hx : x.i < p.n) : Tie p (putW l x) (setP T x.i ⟨x.t, x.d⟩) := by
  refine ⟨fun i hi => ?_, ?_, fun y hy => ?_, fun y hy => ?_⟩
  · rw [get_put]
    unfold setP
    by_cases e : i = x.i
    · rw [if_pos e, if_pos e]
    · rw [if_neg e, if_neg e, h.tells i hi]
  · unfold putW
    rw [List.map_append, List.nodup_append]
    refine ⟨h.one.sublist (List.Sublist.map _ List.filter_sublist), ?_, ?_⟩
    · split <;> simp
    · intro a ha b hb hab
      subst hab
      obtain ⟨y, hy, rfl⟩ := List.mem_map.1 ha
      have h1 := (List.mem_filter.1 hy).2
      obtain ⟨z, hz, hzi⟩ := List.mem_map.1 hb
      split at hz
      · simp at hz
      · rw [List.mem_singleton.1 hz] at hzi
        rw [hzi] at h1; simp at h1
  · unfold putW at hy
    rcases List.mem_append.1 hy with hy | hy
    · exact h.lt y (List.mem_filter.1 hy).1
    · split at hy
      · simp at hy
      · rw [List.mem_singleton.1 hy]; exact hx
  · unfold putW at hy
    rcases List.mem_append.1 hy with hy | hy
    · exact h.no y (List.mem_filter.1 hy).1
    · split at hy
      · simp at hy
      · rename_i hn
        rw [List.mem_singleton.1 hy]; exact hn
theorem tie_lok {p : Par} (hp : p.Ok) {l : List Wd} {T : Nat → Pl} (h : Tie p l T) (va : Int) : Tie p (lokW p l va) (lokT p T va) := by
  have hi := (hp.idx va).2
  have := tie_put h (x := ⟨p.pl va, 9223372036854775807, (getW l (p.pl va)).d⟩) hi
  unfold lokW lokT
  rw [h.tells _ hi] at this ⊢
  exact this
theorem tie_dat {p : Par} (hp : p.Ok) {l : List Wd} {T : Nat → Pl} (h : Tie p l T) {e : Ent} (hm : mayT p e = true) : Tie p (datW p l e) (datT p T e) := by
  have hi := (hp.idx e.va).2
  have := tie_put h (x := ⟨p.pl e.va, (getW l (p.pl e.va)).t, e.dataW⟩) hi
  unfold datW datT
  rw [if_pos hm]
  rw [h.tells _ hi] at this ⊢
  exact this
theorem tie_tag {p : Par} (hp : p.Ok) {l : List Wd} {T : Nat → Pl} (h : Tie p l T) {e : Ent} (hm : mayT p e = true) : Tie p (tagW p l e) (tagT p T e) := by
  have hi := (hp.idx e.va).2
  have := tie_put h (x := ⟨p.pl e.va, e.tagW, (getW l (p.pl e.va)).d⟩) hi
  unfold tagW tagT
  rw [if_pos hm]
  rw [h.tells _ hi] at this ⊢
  exact this
theorem tie_ins {p : Par} (hp : p.Ok) {l : List Wd} {T : Nat → Pl} (h : Tie p l T) {e : Ent} (hm : mayT p e = true) : Tie p (insW p l e) (insT p T e) := by
  have := tie_tag hp (tie_dat hp (tie_lok hp h e.va) hm) hm
  rw [ins_row p T e hm] at this
  exact this
/-- A place's words are taken away: what a drop does. -/
theorem tie_gone {p : Par} {l : List Wd} {T : Nat → Pl} (h : Tie p l T) {i : Nat} (hi : i < p.n) : Tie p (putW l ⟨i, 9223372036854775807, 0⟩) (setP T i Pl.none) := tie_put h (x := ⟨i, 9223372036854775807, 0⟩) hi
theorem tie_find {p : Par} (hp : p.Ok) {l : List Wd} {T : Nat → Pl} (h : Tie p l T) (va : Int) : getW l (p.pl va) = T (p.pl va) := h.tells _ (hp.idx va).2
/-- Places are few: so is the list. -/
theorem tie_len {p : Par} {l : List Wd} {T : Nat → Pl} (h : Tie p l T) : l.length ≤ p.n := by
  have := Mem.nodup_le p.n (l.map (·.i)) h.one (fun x hx => by
    obtain ⟨y, hy, rfl⟩ := List.mem_map.1 hx
    exact h.lt y hy)
  simpa using this
theorem lck_congr {T U : Nat → Pl} {n : Nat} (h : ∀ i, i < n → T i = U i) : lckN T n = lckN U n := by
  induction n with
  | zero => rfl
  | succ n ih =>
    unfold lckN
    rw [ih fun i hi => h i (by omega), h n (by omega)]
theorem lck_tag {T U : Nat → Pl} {n : Nat} (h : ∀ i, i < n → (T i).t = (U i).t) : lckN T n = lckN U n := by
  induction n with
  | zero => rfl
  | succ n ih =>
    unfold lckN
    rw [ih fun i hi => h i (by omega), h n (by omega)]
theorem get_cons (x : Wd) (l : List Wd) : getW (x :: l) = setP (getW l) x.i ⟨x.t, x.d⟩ := by
  funext j
  unfold getW setP
  rw [List.find?_cons]
  by_cases e : j = x.i
  · rw [if_pos e, e]; simp
  · rw [if_neg e]
    have : (x.i == j) = false := by simp; exact fun h => e h.symm
    rw [this]
theorem get_far {l : List Wd} {i : Nat} (h : i ∉ l.map (·.i)) : getW l i = Pl.none := by
  unfold getW
  have : l.find? (fun x => x.i == i) = none := by
    rw [List.find?_eq_none]
    intro x hx hi
    exact h (List.mem_map.2 ⟨x, hx, by simpa using hi⟩)
  rw [this]
theorem lck_list (n : Nat) : ∀ l : List Wd, (l.map (·.i)).Nodup → (∀ x ∈ l, x.i < n) → lckN (getW l) n + l.countP (fun x => x.t != 9223372036854775807) = n := by
  intro l
  induction l with
  | nil =>
    intro _ _
    have : getW [] = fun _ => Pl.none := by funext i; rfl
    rw [this, clear_lck]; simp
  | cons x l ih =>
    intro hn hl
    rw [List.map_cons, List.nodup_cons] at hn
    have h1 := ih hn.2 fun y hy => hl y (List.mem_cons_of_mem _ hy)
    have hx := hl x (List.mem_cons_self ..)
    have hf := get_far hn.1
    rw [get_cons]
    by_cases t : x.t = 9223372036854775807
    · have e : lckN (setP (getW l) x.i ⟨x.t, x.d⟩) n = lckN (getW l) n := by
        refine lck_tag fun i _ => ?_
        by_cases c : i = x.i
        · rw [c, setP_at, hf, t]; rfl
        · rw [setP_ne c]
      rw [e, List.countP_cons_of_neg (by simp [t])]; exact h1
    · have e := lck_set (T := setP (getW l) x.i ⟨x.t, x.d⟩) (i := x.i) (by rw [setP_at]; exact t) n
      rw [setP_twice, if_pos hx] at e
      have e2 : setP (getW l) x.i Pl.none = getW l := by
        funext j
        by_cases c : j = x.i
        · rw [c, setP_at, hf]
        · rw [setP_ne c]
      rw [e2] at e
      rw [List.countP_cons_of_pos (by simp [t])]; omega
theorem tie_lck {p : Par} {l : List Wd} {T : Nat → Pl} (h : Tie p l T) : lckN T p.n + l.countP (fun x => x.t != 9223372036854775807) = p.n := by
  rw [← lck_congr h.tells]
  exact lck_list p.n l h.one h.lt
/-- An empty list: nothing is there. -/
theorem tie_empty {p : Par} {T : Nat → Pl} (h : Tie p [] T) : lstP p T p.n = [] := by
  have : ∀ k, k ≤ p.n → lstP p T k = [] := by
    intro k
    induction k with
    | zero => exact fun _ => rfl
    | succ k ih =>
      intro hk
      rw [lst_miss (by rw [own_none ((h.tells k (by omega)).symm.trans rfl)]; decide), ih (by omega)]
  exact this _ (Nat.le_refl _)
/-- At the k-th step of DropContext the k-th place is as it was. -/
theorem ctx_step {p : Par} {T : Nat → Pl} (c : Int) (k : Nat) : drpT p T c k k = T k := if_neg (by simp)
theorem ctx_next {p : Par} {T : Nat → Pl} (c : Int) (k : Nat) : drpT p T c (k + 1) = if gonB p T c k then setP (drpT p T c k) k Pl.none else drpT p T c k := by
  funext i
  unfold drpT
  by_cases e : i = k
  · subst e
    cases h : gonB p T c i
    · simp
    · simp [setP]
  · have : i < k + 1 ↔ i < k := by omega
    cases h : gonB p T c k
    · simp [this]
    · simp [this, setP, e]
end Go.Proofs.YtgdagfhdimoklaaGreat.Ts
/-
  Plain facts on TSBs: what a place of the document's list has at its address, lists of entries at places that are inserted into another TSB. Conditions: none.
-/
namespace Go.Proofs.YtgdagfhdimoklaaGreat.Ts
open Fld
open Pt (idxI idx_bd)
open Tl (nthE)
theorem pages_least {s : Int} (h : sizeB s = true) : 4194304 / bytesI s = leastI s := by
  rcases sizeB_true h with rfl | rfl | rfl | rfl <;> rfl
def owB (p : Par) (x : Pl) (i : Nat) : Bool := p.pl (adrI p.s i x.t) == i && rdB p.s x (adrI p.s i x.t)
def owE (p : Par) (x : Pl) (i : Nat) : Ent := if owB p x i then rdE p.s x (adrI p.s i x.t) else Ent.zero
theorem ow_own (p : Par) (T : Nat → Pl) (i : Nat) : ownB p T i = owB p (T i) i := rfl
theorem ow_hit {p : Par} {T : Nat → Pl} {i : Nat} (h : ownB p T i = true) : owE p (T i) i = ownE p T i := by
  unfold owE; rw [← ow_own, if_pos h]; rfl
theorem lst_congr {p : Par} {T U : Nat → Pl} {n : Nat} (h : ∀ i, i < n → T i = U i) : lstP p T n = lstP p U n := by
  induction n with
  | zero => rfl
  | succ n ih =>
    have ih := ih fun i hi => h i (by omega)
    obtain ⟨a, b⟩ := own_same (p := p) (h n (by omega))
    cases ho : ownB p T n
    · rw [lst_miss (by rw [ho]; decide), lst_miss (by rw [← a, ho]; decide), ih]
    · rw [lst_hit ho, lst_hit (by rw [← a, ho]), ih, b]
/-- The entries of a list stand at places of their own. -/
theorem lst_places {p : Par} (hp : p.Ok) {T : Nat → Pl} (h : Gd p T) (k : Nat) : ((lstP p T k).map fun e => p.pl e.va).Nodup ∧ ∀ e ∈ lstP p T k, p.pl e.va < k := by
  induction k with
  | zero => exact ⟨by simp [lstP], fun e he => absurd he (by simp [lstP])⟩
  | succ k ih =>
    obtain ⟨i1, i2⟩ := ih
    rcases h k with a | ⟨e, e1, e2, e3, e4⟩
    · rw [lst_miss (by rw [own_none a]; decide)]
      exact ⟨i1, fun x hx => Nat.lt_succ_of_lt (i2 x hx)⟩
    · obtain ⟨o1, o2⟩ := own_pl hp e1 e2 e3 e4
      rw [lst_hit o1, o2]
      refine ⟨?_, fun x hx => ?_⟩
      · rw [List.map_append, List.nodup_append]
        refine ⟨i1, by simp, fun a ha b hb => ?_⟩
        obtain ⟨y, hy, rfl⟩ := List.mem_map.1 ha
        have h1 := i2 y hy
        simp only [List.map_cons, List.map_nil, List.mem_singleton] at hb
        omega
      · rcases List.mem_append.1 hx with hx | hx
        · exact Nat.lt_succ_of_lt (i2 x hx)
        · rw [List.mem_singleton.1 hx, e3]; exact Nat.lt_succ_self _
theorem lst_fine {p : Par} (hp : p.Ok) {T : Nat → Pl} (h : Gd p T) : Fine p (lstP p T p.n) := fun e he => by
  obtain ⟨a, b, _⟩ := lst_good hp h p.n e he
  exact ⟨a, b⟩
theorem pl_mod {p q : Par} (hp : p.Ok) (hq : q.Ok) (hs : p.s = q.s) (hn : p.n ≤ q.n) (va : Int) : p.pl va = q.pl va % p.n := by
  have h1 := (hp.idx va).1
  have h2 := (hq.idx va).1
  unfold idxI at h1 h2
  have hd : (p.n : Int) ∣ (q.n : Int) := by
    have a := hp.hn
    have b := hq.hn
    have c := least_pos hp.hs
    have hle : (p.n : Int) ≤ (q.n : Int) := by omega
    rw [a, b] at hle ⊢
    rw [hs] at hle c ⊢
    unfold placesI at hle ⊢
    generalize leastI q.s = m at *
    rcases twoP_or hp.g0 hp.g1 with ⟨_, u⟩ | ⟨_, u⟩ | ⟨_, u⟩ | ⟨_, u⟩ <;> rcases twoP_or hq.g0 hq.g1 with ⟨_, v⟩ | ⟨_, v⟩ | ⟨_, v⟩ | ⟨_, v⟩ <;> rw [u, v] at hle ⊢ <;> first | (exfalso; omega) | exact ⟨1, by omega⟩ | exact ⟨2, by omega⟩ | exact ⟨4, by omega⟩ | exact ⟨8, by omega⟩
  rw [← hs] at h2
  have h3 := Int.emod_emod_of_dvd (va / bytesI p.s) hd
  rw [h2] at h3
  rw [h1] at h3
  omega
theorem nodup_great {p q : Par} (hp : p.Ok) (hq : q.Ok) (hs : p.s = q.s) (hn : p.n ≤ q.n) {l : List Ent} (h : (l.map fun e => p.pl e.va).Nodup) : (l.map fun e => q.pl e.va).Nodup := by
  unfold List.Nodup at h ⊢
  rw [List.pairwise_map] at h ⊢
  refine h.imp fun {a b} hab hh => hab ?_
  rw [pl_mod hp hq hs hn, pl_mod hp hq hs hn b.va, hh]
theorem lck_put {T : Nat → Pl} {i n : Nat} {x : Pl} (hT : T i = Pl.none) (hx : x.t ≠ 9223372036854775807) (hi : i < n) : lckN (setP T i x) n + 1 = lckN T n := by
  have e := lck_set (T := setP T i x) (i := i) (by rw [setP_at]; exact hx) n
  rw [setP_twice, if_pos hi] at e
  have e2 : setP T i Pl.none = T := by
    funext j
    by_cases c : j = i
    · rw [c, setP_at, hT]
    · rw [setP_ne c]
  rw [e2] at e
  omega
theorem ins_lck {q : Par} (hq : q.Ok) (l : List Ent) (hf : Fine q l) (hn : (l.map fun e => q.pl e.va).Nodup) : lckN (insAll q l) q.n + l.length = q.n := by
  revert hf hn
  refine rev_ind (P := fun l => Fine q l → (l.map fun e => q.pl e.va).Nodup → lckN (insAll q l) q.n + l.length = q.n) ?_ ?_ l
  · intro _ _
    show lckN (fun _ => Pl.none) q.n + 0 = q.n
    rw [clear_lck]; rfl
  · intro l e ih hf hn
    have hl : Fine q l := fun x hx => hf x (List.mem_append_left _ hx)
    obtain ⟨he, hs⟩ := hf e (List.mem_append_right _ (by simp))
    rw [List.map_append, List.nodup_append] at hn
    have h1 := ih hl hn.1
    have h0 : insAll q l (q.pl e.va) = Pl.none := by
      rcases insAll_or l hl (q.pl e.va) with ⟨a, _⟩ | ⟨k, k1, k2, _, _⟩
      · exact a
      · exact absurd k2 (hn.2.2 _ (List.mem_map.2 ⟨_, nth_mem k1, rfl⟩) _ (by simp))
    have e1 : insAll q (l ++ [e]) = setP (insAll q l) (q.pl e.va) (Ent.pl e) := by
      rw [insAll_snoc]; unfold insT; rw [if_pos (fine_may he hs)]
    have h2 := lck_put (n := q.n) h0 (tag_no he) (hq.idx e.va).2
    rw [e1, List.length_append]
    show lckN _ q.n + (l.length + 1) = q.n
    omega
/-- What a TSB has, one that is no less has behind Into. -/
theorem moves_len {p q : Par} (hp : p.Ok) (hq : q.Ok) (hs : p.s = q.s) (hn : p.n ≤ q.n) {T : Nat → Pl} (h : Gd p T) : (lstP q (insAll q (lstP p T p.n)) q.n).length = (lstP p T p.n).length := by
  have f : Fine q (lstP p T p.n) := fun e he => by
    obtain ⟨a, b⟩ := lst_fine hp h e he
    exact ⟨a, by rw [b, hs]⟩
  have h1 := ins_lck hq _ f (nodup_great hp hq hs hn (lst_places hp h p.n).1)
  have h2 := lck_sum hq (gd_all _ f) q.n
  omega
end Go.Proofs.YtgdagfhdimoklaaGreat.Ts
/-
  Contracts of Read and May of the document's package for layer 10. Conditions: lists that are there; numbers are what Go's types hold.
-/
namespace Go.Proofs.YtgdagfhdimoklaaGreat.Ts
open Fld
open Pt (idxI idx_bd)
open Tl (res_ent ret_entB)
open Go.ChangeShapes Go.WideShapes Go.ChangeAt Go.RowKit Go.Shelf
set_option maxRecDepth 100000
set_option maxHeartbeats 4000000
abbrev tcell (p : Par) (v : Value) : Array Value := #[.int .i64 p.s, .int .i64 (p.n : Int), v]
/-- The boxes of a list and of an entry that is answered. -/
abbrev bxZ (b : Nat) (p : Par) (v : Value) : List Bx := [(b, tcell p v, 26), bx (b + 1) Ent.zero]
theorem bxZ_new (w : World) (p : Par) (v : Value) {B : Nat} {l : List Wd} (h : WsAt w B v l) :
    PV w ((w.alloc (.cells #[.int .i64 p.s, .int .i64 (p.n : Int), v] 26)).alloc (.cells #[.int .i64 0, .int .i64 0, .int .u64 0, .int .u64 0, .bool false, .bool false, .bool false, .bool false, .bool false, .bool false, .bool false] 35)) (bxZ w.heap.size p v) B v l := by
  have z1 : Below w.heap.size w ((w.alloc (.cells #[.int .i64 p.s, .int .i64 (p.n : Int), v] 26)).alloc (.cells #[.int .i64 0, .int .i64 0, .int .u64 0, .int .u64 0, .bool false, .bool false, .bool false, .bool false, .bool false, .bool false, .bool false] 35)) := ((Below.refl _ _).alloc (Nat.le_refl _) _).alloc (by simp) _
  exact ⟨z1, Rows.add (t := 26) (Rows.add (t := 35) (c := ecell Ent.zero) (L := []) (fun q hq => absurd hq (by simp)) (alloc_new2 _ _ _) ⟨by decide, by decide⟩ (Nat.le_succ _)) (alloc_old (World.alloc_heap_new _ _) _) ⟨by decide, by decide⟩ (Nat.le_refl _), ws_low h z1⟩
theorem PV.res {w wr : World} {b B : Nat} {p : Par} {v u : Value} {l : List Wd} (h : PV w wr (bxZ b p u) B v l) : RowE wr (b + 1) Ent.zero := ⟨(h.rows _ (List.mem_cons_of_mem _ (List.mem_cons_self ..))).1⟩
theorem PV.box {w wr : World} {b B : Nat} {p : Par} {v u : Value} {l : List Wd} (h : PV w wr (bxZ b p u) B v l) : wr.cell? ⟨b, 0, none⟩ = some (.int .i64 p.s) ∧ wr.cell? ⟨b, 1, none⟩ = some (.int .i64 (p.n : Int)) ∧ wr.cell? ⟨b, 2, none⟩ = some u := h.sc (List.mem_cons_self ..)
theorem below_eleven {w wr : World} {b : Nat} (hb : w.heap.size ≤ b) (h : Below w.heap.size w wr) (x0 x1 x2 x3 x4 x5 x6 x7 x8 x9 x10 : Value) :
    Below w.heap.size w (((((((((((wr.setCell ⟨b, 0, none⟩ x0).setCell ⟨b, 1, none⟩ x1).setCell ⟨b, 2, none⟩ x2).setCell ⟨b, 3, none⟩ x3).setCell ⟨b, 4, none⟩ x4).setCell ⟨b, 5, none⟩ x5).setCell ⟨b, 6, none⟩ x6).setCell ⟨b, 7, none⟩ x7).setCell ⟨b, 8, none⟩ x8).setCell ⟨b, 9, none⟩ x9).setCell ⟨b, 10, none⟩ x10) := by
  iterate 11 refine below_setN ?_ hb
  exact h
theorem oread_any {p : Par} (l : List Wd) (B : Nat) (v : Value) (i : Nat) (x : Pl) (hx : getW l i = x) (U : x.U) (va : Int) (v0 : 0 ≤ va) (v1 : va ≤ 18446744073709551615) (w : World) (h : WsAt w B v l) :
    Calls Tryz.prog 53 #[.agg #[.int .i64 p.s, .int .i64 (p.n : Int), v], .int .i64 (i : Int), .int .u64 va] w fun e w' => e = .returned (.tuple #[.agg #[.int .i64 (rdE p.s x va).size, .int .i64 (rdE p.s x va).ctx, .int .u64 (rdE p.s x va).va, .int .u64 (rdE p.s x va).pa, .bool (rdE p.s x va).att.write, .bool (rdE p.s x va).att.priv, .bool (rdE p.s x va).att.exec, .bool (rdE p.s x va).att.lock, .bool (rdE p.s x va).att.global, .bool (rdE p.s x va).att.quiet, .bool (rdE p.s x va).valid], .bool (rdB p.s x va)]) ∧ Below w.heap.size w w' := by
  obtain ⟨ao, cap, rfl⟩ := own_shape h
  have P1 := bxZ_new w p _ h
  have CG := Lib.hid (fun W (hW : WsAt W B (.slice ao l.length cap) l) => Ts.rget_any (p := p) l B _ i W hW)
  subst hx
  generalize getW l i = x at *
  have CR := Lib.hid (fun W => rread_any x.t x.d va U.t0 U.t1 U.d0 U.d1 v0 v1 W)
  have hB := Lib.hid (show rdB p.s x va = (Ent.readN x.t x.d va == 0 && (Ent.ofW x.t x.d va).size == p.s) from rfl)
  have hE := Lib.hid (show rdE p.s x va = if rdB p.s x va then Ent.ofW x.t x.d va else Ent.zero from rfl)
  have hX := Lib.hid (show Ent.readE x.t x.d va = if Ent.readN x.t x.d va = 0 then Ent.ofW x.t x.d va else Ent.zero from rfl)
  generalize rdE p.s x va = RE at *
  generalize rdB p.s x va = RB at *
  generalize Ent.readN x.t x.d va = RN at *
  generalize Ent.ofW x.t x.d va = RO at *
  generalize Ent.readE x.t x.d va = RX at *
  clear h
  go_enter Tryz.func53, Tryz.ntmps53
  go_wp2_with fail
  generalize World.alloc (World.alloc w _) _ = W1 at *
  obtain ⟨t0, t1, t2⟩ := P1.box
  go_wp2_with fail
  refine (CG.out _ P1.ws).mono ?_; rintro r w1 ⟨rfl, hb1⟩
  have P2 := P1.low hb1
  clear P1 CG hb1 t0 t1 t2
  go_wp2_with fail
  refine (CR.out _).mono ?_; rintro r w2 ⟨rfl, hb2⟩
  have P3 := (P2.alloc _).low hb2
  clear P2 CR hb2
  have N4 := RowE.new w2 RX
  have P4 := P3.alloc (.cells #[.int .i64 RX.size, .int .i64 RX.ctx, .int .u64 RX.va, .int .u64 RX.pa, .bool RX.att.write, .bool RX.att.priv, .bool RX.att.exec, .bool RX.att.lock, .bool RX.att.global, .bool RX.att.quiet, .bool RX.valid] 35)
  clear P3
  obtain ⟨t0, t1, t2⟩ := P4.box
  obtain ⟨d0, d1, d2, d3, d4, d5, d6, d7, d8, d9, d10⟩ := N4.cells
  have R4 := P4.res
  obtain ⟨r0, r1, r2, r3, r4, r5, r6, r7, r8, r9, r10⟩ := R4.cells
  have fr := R4.frozen
  have B4 := P4.bel
  clear P4 N4
  by_cases hn : RN = 0
  · have hXO : RX = RO := by rw [hX.out, if_pos hn]
    subst hXO
    by_cases hs : RX.size = p.s
    · have HRB := Lib.hid (show RB = true by rw [hB.out, hn, hs]; simp)
      have HRE := Lib.hid (show RE = RX by rw [hE.out, HRB.out]; rfl)
      subst hn
      have hs2 : (RX.size != p.s) = false := by rw [hs]; simp
      clear hB hE hX hs
      go_wp2_with fail
      have RR := RowE.setAll (e := RX) R4
      (try simp only [Exit.inBlock, Exit.then])
      refine bodyPost_ret (res_ent rfl _ _ _ _ rfl RR) rfl ?_
      exact ⟨ret_entB HRE.out HRB.out, below_eleven (Nat.le_succ _) B4 _ _ _ _ _ _ _ _ _ _ _⟩
    · have HRB := Lib.hid (show RB = false by rw [hB.out, beq_false_of_ne hs, Bool.and_false])
      have HRE := Lib.hid (show RE = Ent.zero by rw [hE.out, HRB.out]; rfl)
      subst hn
      have hs2 : (RX.size != p.s) = true := bne_iff_ne.2 hs
      clear hB hE hX
      go_wp2_with fail
      have RR := RowE.setAll (e := Ent.zero) R4
      (try simp only [Exit.inBlock, Exit.then])
      refine bodyPost_ret (res_ent rfl _ _ _ _ rfl RR) rfl ?_
      exact ⟨ret_entB HRE.out HRB.out, below_eleven (Nat.le_succ _) B4 _ _ _ _ _ _ _ _ _ _ _⟩
  · have HRB := Lib.hid (show RB = false by rw [hB.out, beq_false_of_ne hn, Bool.false_and])
    have HRE := Lib.hid (show RE = Ent.zero by rw [hE.out, HRB.out]; rfl)
    have hn2 : (RN != 0) = true := bne_iff_ne.2 hn
    clear hB hE hX
    go_wp2_with fail
    have RR := RowE.setAll (e := Ent.zero) R4
    (try simp only [Exit.inBlock, Exit.then])
    refine bodyPost_ret (res_ent rfl _ _ _ _ rfl RR) rfl ?_
    exact ⟨ret_entB HRE.out HRB.out, below_eleven (Nat.le_succ _) B4 _ _ _ _ _ _ _ _ _ _ _⟩
theorem omay_any {p : Par} (ao : Option Addr) (m cap : Nat) (e : Ent) (u : EntU e) (w : World) :
    Calls Tryz.prog 46 #[.agg #[.int .i64 p.s, .int .i64 (p.n : Int), .slice ao m cap], .agg #[.int .i64 e.size, .int .i64 e.ctx, .int .u64 e.va, .int .u64 e.pa, .bool e.att.write, .bool e.att.priv, .bool e.att.exec, .bool e.att.lock, .bool e.att.global, .bool e.att.quiet, .bool e.valid]] w fun r w' => r = .returned (.bool (mayT p e)) ∧ Below w.heap.size w w' := by
  have z1 : Below w.heap.size w ((w.alloc (.cells #[.int .i64 p.s, .int .i64 (p.n : Int), .slice ao m cap] 26)).alloc (.cells #[.int .i64 e.size, .int .i64 e.ctx, .int .u64 e.va, .int .u64 e.pa, .bool e.att.write, .bool e.att.priv, .bool e.att.exec, .bool e.att.lock, .bool e.att.global, .bool e.att.quiet, .bool e.valid] 35)) := ((Below.refl _ _).alloc (Nat.le_refl _) _).alloc (by simp) _
  have b1 : ((w.alloc (.cells #[.int .i64 p.s, .int .i64 (p.n : Int), .slice ao m cap] 26)).alloc (.cells #[.int .i64 e.size, .int .i64 e.ctx, .int .u64 e.va, .int .u64 e.pa, .bool e.att.write, .bool e.att.priv, .bool e.att.exec, .bool e.att.lock, .bool e.att.global, .bool e.att.quiet, .bool e.valid] 35)).heap[w.heap.size]? = some (.cells #[.int .i64 p.s, .int .i64 (p.n : Int), .slice ao m cap] 26 (0, 0)) := alloc_old (World.alloc_heap_new _ _) _
  have R1 := RowE.new (w.alloc (.cells #[.int .i64 p.s, .int .i64 (p.n : Int), .slice ao m cap] 26)) e
  rw [World.size_alloc] at R1
  have CM := Lib.hid (fun W => rmaye_any e u.v0 u.v1 u.p0 u.p1 W)
  have hM := Lib.hid (show mayT p e = (e.mayB && e.size == p.s) from rfl)
  generalize mayT p e = MT at *
  generalize e.mayB = mb at *
  go_enter Tryz.func46, Tryz.ntmps46
  go_wp2_with fail
  generalize World.alloc (World.alloc w _) _ = W1 at *
  obtain ⟨d0, d1, d2, d3, d4, d5, d6, d7, d8, d9, d10⟩ := R1.cells
  go_wp2_with fail
  refine (CM.out _).mono ?_; rintro r w1 ⟨rfl, hb1⟩
  have R2 := R1.call hb1
  have b2 := (hb1.block _ (Array.getElem?_eq_some_iff.1 b1).1).trans b1
  have z2 := z1.trans (hb1.mono z1.size)
  clear R1 b1 z1 hb1 CM d0 d1 d2 d3 d4 d5 d6 d7 d8 d9 d10
  obtain ⟨d0, d1, d2, d3, d4, d5, d6, d7, d8, d9, d10⟩ := R2.cells
  have t0 := cell_row 0 b2 rfl
  cases mb
  · have H := Lib.hid (show false = MT by rw [hM.out]; rfl)
    clear hM
    go_wp2_with fail
    go_ret
    exact ⟨ret_b H.out, z2⟩
  · have H := Lib.hid (show (e.size == p.s) = MT by rw [hM.out]; rfl)
    clear hM
    go_wp2_with fail
    go_ret
    exact ⟨ret_b H.out, z2⟩
end Go.Proofs.YtgdagfhdimoklaaGreat.Ts
/-
  Contract of Own of the document's package for layer 10. Conditions: lists that are there; numbers are what Go's types hold.
-/
namespace Go.Proofs.YtgdagfhdimoklaaGreat.Ts
open Fld
open Pt (idxI idx_bd)
open Tl (res_ent ret_entB)
open Go.ChangeShapes Go.WideShapes Go.ChangeAt Go.RowKit Go.Shelf
set_option maxRecDepth 100000
set_option maxHeartbeats 4000000
theorem oown_any {p : Par} (hp : p.Ok) (l : List Wd) (B : Nat) (v : Value) (i : Nat) (hi : i < p.n) (x : Pl) (hx : getW l i = x) (U : x.U) (w : World) (h : WsAt w B v l) :
    Calls Tryz.prog 39 #[.agg #[.int .i64 p.s, .int .i64 (p.n : Int), v], .int .i64 (i : Int)] w fun e w' => e = .returned (.tuple #[.agg #[.int .i64 (owE p x i).size, .int .i64 (owE p x i).ctx, .int .u64 (owE p x i).va, .int .u64 (owE p x i).pa, .bool (owE p x i).att.write, .bool (owE p x i).att.priv, .bool (owE p x i).att.exec, .bool (owE p x i).att.lock, .bool (owE p x i).att.global, .bool (owE p x i).att.quiet, .bool (owE p x i).valid], .bool (owB p x i)]) ∧ Below w.heap.size w w' := by
  obtain ⟨ao, cap, rfl⟩ := own_shape h
  have P1 := bxZ_new w p _ h
  have hnb := hp.n_bd
  obtain ⟨a0, a1, -, -, -⟩ := adr_bd p.s i x.t hp.hs
  have CG := Lib.hid (fun W (hW : WsAt W B (.slice ao l.length cap) l) => Ts.rget_any (p := p) l B _ i W hW)
  rw [hx] at CG
  have CD := Lib.hid (fun W (hW : WsAt W B (.slice ao l.length cap) l) => oread_any (p := p) l B _ i x hx U (adrI p.s i x.t) a0 a1 W hW)
  have CP := Lib.hid (fun W => rplace_any hp ao l.length cap (adrI p.s i x.t) a0 a1 W)
  have CB := Lib.hid (fun W => rbytes_any p.s W)
  have hb1 := bytes_pos hp.hs
  have hb2 := bytes_bd p.s
  have hle := least_pos hp.hs
  have hlb := least_bytes hp.hs
  have hpg := pages_least hp.hs
  have hA := Lib.hid (show adrI p.s i x.t = x.t % 4194304 * 4194304 + (if 2097152 ≤ x.t % 4194304 then 18446726481523507200 else 0) + i % leastI p.s * bytesI p.s from rfl)
  have hB := Lib.hid (show owB p x i = (p.pl (adrI p.s i x.t) == i && rdB p.s x (adrI p.s i x.t)) from rfl)
  have hE := Lib.hid (show owE p x i = if owB p x i then rdE p.s x (adrI p.s i x.t) else Ent.zero from rfl)
  have hE2 := Lib.hid (show rdE p.s x (adrI p.s i x.t) = if rdB p.s x (adrI p.s i x.t) then Ent.ofW x.t x.d (adrI p.s i x.t) else Ent.zero from rfl)
  have t0' := U.t0
  have t1' := U.t1
  generalize owE p x i = RE at *
  generalize owB p x i = RB at *
  generalize rdB p.s x (adrI p.s i x.t) = DB at *
  generalize rdE p.s x (adrI p.s i x.t) = DE at *
  generalize p.pl (adrI p.s i x.t) = pa at *
  generalize adrI p.s i x.t = A at *
  have hm0 : 0 ≤ x.t % 4194304 := by omega
  have hm1 : x.t % 4194304 < 4194304 := by omega
  have hi2 : (i : Int) ≤ 9223372036854775807 := by omega
  have him : 0 ≤ (i : Int) % leastI p.s := Int.emod_nonneg _ (by omega)
  have him2 : (i : Int) % leastI p.s < leastI p.s := Int.emod_lt_of_pos _ (by omega)
  have hprod : 0 ≤ (i : Int) % leastI p.s * bytesI p.s := Int.mul_nonneg him (by omega)
  have hprod2 : (i : Int) % leastI p.s * bytesI p.s ≤ 4194304 := by
    have := Int.mul_le_mul_of_nonneg_right (Int.le_of_lt him2) (show (0 : Int) ≤ bytesI p.s by omega)
    omega
  have hne : bytesI p.s ≠ 0 := by omega
  have hne2 : leastI p.s ≠ 0 := by omega
  clear h hx
  go_enter Tryz.func39, Tryz.ntmps39
  go_wp2_with fail
  generalize World.alloc (World.alloc w _) _ = W1 at *
  obtain ⟨t0, t1, t2⟩ := P1.box
  go_wp2_with fail
  refine (CG.out _ P1.ws).mono ?_; rintro r w1 ⟨rfl, hb1⟩
  have P2 := P1.low hb1
  have P3 := P2.alloc (.cells #[.int .i64 (i : Int), .int .u64 x.t, .int .u64 x.d] 75)
  clear P1 CG hb1 t0 t1 t2 P2
  obtain ⟨t0, t1, t2⟩ := P3.box
  by_cases hc : 2097152 ≤ x.t % 4194304
  · have hS : x.t % 4194304 * 4194304 + 18446726481523507200 + (i : Int) % leastI p.s * bytesI p.s = A := by have := hA.out; rw [if_pos hc] at this; exact this.symm
    have hS0 : 0 ≤ x.t % 4194304 * 4194304 + 18446726481523507200 + (i : Int) % leastI p.s * bytesI p.s := by omega
    have hS1 : x.t % 4194304 * 4194304 + 18446726481523507200 + (i : Int) % leastI p.s * bytesI p.s ≤ 18446744073709551615 := by omega
    have HS := Lib.hid hS
    clear hS
    go_wp2_with (go_at_call 66; refine (CB.out _).mono ?_; rintro e w' ⟨rfl, rfl⟩)
    rw [hpg]
    go_quiet ((go_at_call 66; refine (CB.out _).mono ?_; rintro e w' ⟨rfl, rfl⟩; exact ⟨rfl, _, rfl⟩))
    have P4 := P3.drewN nq
    clear P3 t0 t1 t2
    obtain ⟨t0, t1, t2⟩ := P4.box
    generalize World.drewN _ nq = W4 at *
    go_wp2_with fail
    rw [HS.out]
    clear HS hS0 hS1 hA hprod hprod2 him him2
    refine (CP.out _).mono ?_; rintro r w5 ⟨rfl, hb5⟩
    have P5 := P4.low hb5
    clear P4 CP hb5 t0 t1 t2
    obtain ⟨t0, t1, t2⟩ := P5.box
    have Z5 := P5.res
    obtain ⟨r0, r1, r2, r3, r4, r5, r6, r7, r8, r9, r10⟩ := Z5.cells
    have fr := Z5.frozen
    by_cases hpa : pa = i
    · have hpa2 : (pa : Int) = (i : Int) := by omega
      have HB := Lib.hid (show RB = DB by rw [hB.out, hpa]; simp)
      have HE := Lib.hid (show RE = DE by
        have h1 := hE.out
        have h2 := hE2.out
        rw [HB.out] at h1
        rw [h1]
        cases DB
        · rw [if_neg (by decide)] at h2 ⊢; exact h2.symm
        · rfl)
      clear hB hE hE2
      go_wp2_with fail
      refine (CD.out _ P5.ws).mono ?_; rintro r w6 ⟨rfl, hb6⟩
      have P6 := P5.low hb6
      have B6 := P6.bel
      have Z6 := P6.res
      clear P5 CD hb6 t0 t1 t2 r0 r1 r2 r3 r4 r5 r6 r7 r8 r9 r10 fr Z5 P6
      obtain ⟨r0, r1, r2, r3, r4, r5, r6, r7, r8, r9, r10⟩ := Z6.cells
      have fr := Z6.frozen
      go_wp2_with fail
      have RR := RowE.setAll (e := DE) Z6
      (try simp only [Exit.inBlock, Exit.then])
      refine bodyPost_ret (res_ent rfl _ _ _ _ rfl RR) rfl ?_
      exact ⟨ret_entB HE.out HB.out, below_eleven (Nat.le_succ _) B6 _ _ _ _ _ _ _ _ _ _ _⟩
    · have hpa2 : ¬ (pa : Int) = (i : Int) := by omega
      have HB := Lib.hid (show RB = false by rw [hB.out, beq_false_of_ne hpa]; rfl)
      have HE := Lib.hid (show RE = Ent.zero by rw [hE.out, HB.out]; rfl)
      have B5 := P5.bel
      clear hB hE hE2 CD
      go_wp2_with fail
      have RR := RowE.setAll (e := Ent.zero) Z5
      (try simp only [Exit.inBlock, Exit.then])
      refine bodyPost_ret (res_ent rfl _ _ _ _ rfl RR) rfl ?_
      exact ⟨ret_entB HE.out HB.out, below_eleven (Nat.le_succ _) B5 _ _ _ _ _ _ _ _ _ _ _⟩
  · have hS : x.t % 4194304 * 4194304 + (i : Int) % leastI p.s * bytesI p.s = A := by have := hA.out; rw [if_neg hc, Int.add_zero] at this; exact this.symm
    have hS0 : 0 ≤ x.t % 4194304 * 4194304 + (i : Int) % leastI p.s * bytesI p.s := by omega
    have hS1 : x.t % 4194304 * 4194304 + (i : Int) % leastI p.s * bytesI p.s ≤ 18446744073709551615 := by omega
    have HS := Lib.hid hS
    clear hS
    go_wp2_with (go_at_call 66; refine (CB.out _).mono ?_; rintro e w' ⟨rfl, rfl⟩)
    rw [hpg]
    go_quiet ((go_at_call 66; refine (CB.out _).mono ?_; rintro e w' ⟨rfl, rfl⟩; exact ⟨rfl, _, rfl⟩))
    have P4 := P3.drewN nq
    clear P3 t0 t1 t2
    obtain ⟨t0, t1, t2⟩ := P4.box
    generalize World.drewN _ nq = W4 at *
    go_wp2_with fail
    rw [HS.out]
    clear HS hS0 hS1 hA hprod hprod2 him him2
    refine (CP.out _).mono ?_; rintro r w5 ⟨rfl, hb5⟩
    have P5 := P4.low hb5
    clear P4 CP hb5 t0 t1 t2
    obtain ⟨t0, t1, t2⟩ := P5.box
    have Z5 := P5.res
    obtain ⟨r0, r1, r2, r3, r4, r5, r6, r7, r8, r9, r10⟩ := Z5.cells
    have fr := Z5.frozen
    by_cases hpa : pa = i
    · have hpa2 : (pa : Int) = (i : Int) := by omega
      have HB := Lib.hid (show RB = DB by rw [hB.out, hpa]; simp)
      have HE := Lib.hid (show RE = DE by
        have h1 := hE.out
        have h2 := hE2.out
        rw [HB.out] at h1
        rw [h1]
        cases DB
        · rw [if_neg (by decide)] at h2 ⊢; exact h2.symm
        · rfl)
      clear hB hE hE2
      go_wp2_with fail
      refine (CD.out _ P5.ws).mono ?_; rintro r w6 ⟨rfl, hb6⟩
      have P6 := P5.low hb6
      have B6 := P6.bel
      have Z6 := P6.res
      clear P5 CD hb6 t0 t1 t2 r0 r1 r2 r3 r4 r5 r6 r7 r8 r9 r10 fr Z5 P6
      obtain ⟨r0, r1, r2, r3, r4, r5, r6, r7, r8, r9, r10⟩ := Z6.cells
      have fr := Z6.frozen
      go_wp2_with fail
      have RR := RowE.setAll (e := DE) Z6
      (try simp only [Exit.inBlock, Exit.then])
      refine bodyPost_ret (res_ent rfl _ _ _ _ rfl RR) rfl ?_
      exact ⟨ret_entB HE.out HB.out, below_eleven (Nat.le_succ _) B6 _ _ _ _ _ _ _ _ _ _ _⟩
    · have hpa2 : ¬ (pa : Int) = (i : Int) := by omega
      have HB := Lib.hid (show RB = false by rw [hB.out, beq_false_of_ne hpa]; rfl)
      have HE := Lib.hid (show RE = Ent.zero by rw [hE.out, HB.out]; rfl)
      have B5 := P5.bel
      clear hB hE hE2 CD
      go_wp2_with fail
      have RR := RowE.setAll (e := Ent.zero) Z5
      (try simp only [Exit.inBlock, Exit.then])
      refine bodyPost_ret (res_ent rfl _ _ _ _ rfl RR) rfl ?_
      exact ⟨ret_entB HE.out HB.out, below_eleven (Nat.le_succ _) B5 _ _ _ _ _ _ _ _ _ _ _⟩
end Go.Proofs.YtgdagfhdimoklaaGreat.Ts
/-
  Contracts of List and Locked of the document's package for layer 10. Conditions: lists that are there; numbers are what Go's types hold.
-/
namespace Go.Proofs.YtgdagfhdimoklaaGreat.Ts
open Fld
open Pt (idxI idx_bd)
open Tl (ListAt DocAt nthE eleven eleven_one rowL_list cell_eleven_new doc_low doc_below list_nil infoE rowL rowL_length)
open Go.ChangeShapes Go.WideShapes Go.ChangeAt Go.RowKit Go.Shelf
set_option maxRecDepth 100000
set_option maxHeartbeats 4000000
theorem list_base {w : World} {B C : Nat} {v : Value} {l : List Ent} (h : ListAt w B v l) (hC : C ≤ B) : ListAt w C v l := by
  refine ⟨h.1, ?_⟩
  rcases h.2 with hn | ⟨g, cap, cur, rfl, hb2, rest⟩
  · exact .inl hn
  · exact .inr ⟨g, cap, cur, rfl, by omega, rest⟩
theorem tie_nil_k {p : Par} {T : Nat → Pl} (h : Tie p [] T) : ∀ k, k ≤ p.n → lstP p T k = [] := by
  intro k
  induction k with
  | zero => exact fun _ => rfl
  | succ k ih =>
    intro hk
    rw [lst_miss (by rw [own_none ((h.tells k (by omega)).symm.trans rfl)]; decide), ih (by omega)]
/-- The box of a list, the list, and a list of entries that is made. -/
structure LX (w wr : World) (p : Par) (u : Value) (B : Nat) (l : List Wd) (v : Value) (o : List Ent) : Prop where
  bel : Below w.heap.size w wr
  row : wr.heap[w.heap.size]? = some (.cells #[.int .i64 p.s, .int .i64 (p.n : Int), u] 26 (0, 0))
  ws : WsAt wr B u l
  own : ListAt wr (w.heap.size + 1) v o
theorem LX.low {w wr w' : World} {p : Par} {u v : Value} {B : Nat} {l : List Wd} {o : List Ent} (h : LX w wr p u B l v o) (hb : Below wr.heap.size wr w') : LX w w' p u B l v o :=
  ⟨h.bel.trans (hb.mono h.bel.size), (hb.block _ (Array.getElem?_eq_some_iff.1 h.row).1).trans h.row, ws_low h.ws hb, doc_below h.own hb⟩
theorem LX.alloc {w wr : World} {p : Par} {u v : Value} {B : Nat} {l : List Wd} {o : List Ent} (h : LX w wr p u B l v o) (ob : Obj) : LX w (wr.alloc ob) p u B l v o := h.low ((Below.refl _ _).alloc (Nat.le_refl _) _)
theorem LX.grown {w wr w1 : World} {p : Par} {u v v' : Value} {B : Nat} {l : List Wd} {o o' : List Ent} (h : LX w wr p u B l v o) (hg : wr.grownBy w1 v.ownBlock) (ho : ListAt w1 (w.heap.size + 1) v' o') : LX w w1 p u B l v' o' := by
  have hblk : ∀ g, v.ownBlock = some g → w.heap.size + 1 ≤ g ∧ ∃ cur, wr.heap[g]? = some (.cells cur 35 (0, 0)) := by
    intro g hg2
    rcases list_lt h.own with ⟨_, rfl, _, _⟩ | ⟨g', cap, cur, rfl, a, b⟩
    · simp [Value.ownBlock] at hg2
    · simp [Value.ownBlock] at hg2
      subst hg2
      exact ⟨a, cur, b⟩
  refine ⟨h.bel.grown hg h.bel.size (fun g hg2 => by have := (hblk g hg2).1; omega), (hg.block _ (Array.getElem?_eq_some_iff.1 h.row).1 (fun e => by have := (hblk _ e.symm).1; omega)).trans h.row, ?_, ho⟩
  refine ws_same h.ws fun g cur _ hh => hg.block _ (Array.getElem?_eq_some_iff.1 hh).1 (fun e => ?_)
  obtain ⟨_, cur', h2⟩ := hblk _ e.symm
  rw [h2] at hh
  injection (Option.some.inj hh) with _ h3
  exact absurd h3 (by decide)
theorem olist_any {p : Par} (hp : p.Ok) {l : List Wd} {B : Nat} {v : Value} {T : Nat → Pl} (ht : Tie p l T) (hU : ∀ i, i < p.n → (T i).U) (w : World) (h : WsAt w B v l) :
    Calls Tryz.prog 12 #[.agg #[.int .i64 p.s, .int .i64 (p.n : Int), v]] w fun e w' => ∃ v', e = .returned v' ∧ ListAt w' w.heap.size v' (lstP p T p.n) ∧ Below w.heap.size w w' := by
  obtain ⟨i0, hi0, hz0, hz1, hz2⟩ := info_parts infoE
  obtain ⟨ao, cap, rfl⟩ := own_shape h
  obtain ⟨m, hm⟩ : ∃ m, l.length = m := ⟨_, rfl⟩
  have HM := Lib.hid hm
  have hnb := hp.n_bd
  have hlen := tie_len ht
  have hNil := Lib.hid (fun (h0 : l.length = 0) k (hk : k ≤ p.n) => tie_nil_k (p := p) (T := T) (by rw [List.eq_nil_of_length_eq_zero h0] at ht; exact ht) k hk)
  rw [hm] at hlen ⊢
  have z1 : Below w.heap.size w (w.alloc (.cells #[.int .i64 p.s, .int .i64 (p.n : Int), .slice ao m cap] 26)) := (Below.refl _ _).alloc (Nat.le_refl _) _
  have P1 : LX w (w.alloc (.cells #[.int .i64 p.s, .int .i64 (p.n : Int), .slice ao m cap] 26)) p (.slice ao m cap) B l (.slice none 0 0) [] := ⟨z1, World.alloc_heap_new _ _, by have := ws_low h z1; rw [hm] at this; exact this, list_nil _ _⟩
  have CO := Lib.hid (fun W k hk v o (hW : LX w W p (.slice ao m cap) B l v o) => oown_any hp l B _ k hk (T k) (ht.tells k hk) (hU k hk) W hW.ws)
  clear h z1 hm
  go_enter Tryz.func12, Tryz.ntmps12
  go_wp2_with fail
  generalize World.alloc w _ = W1 at *
  go_loopw [3, 4] (fun v i wr => ∃ k : Nat, k ≤ p.n ∧ i = .int .i64 (k : Int) ∧ LX w wr p (.slice ao m cap) B l v (lstP p T k)) (fun _ i _ => p.n - (intOf i).toNat)
  case atStart => exact ⟨0, Nat.zero_le _, rfl, P1⟩
  case round =>
    clear P1
    obtain ⟨k, hk, rfl, PP⟩ := hrel
    have t0 := cell_row 0 PP.row rfl
    have t1 := cell_row 1 PP.row rfl
    have t2 := cell_row 2 PP.row rfl
    by_cases hkn : k < p.n
    · have hkn' : (k : Int) < (p.n : Int) := by omega
      by_cases hm0 : m = 0
      · have hl0 : l.length = 0 := by rw [HM.out]; exact hm0
        have hE : lstP p T k = lstP p T p.n := by rw [hNil.out hl0 k hk, hNil.out hl0 p.n (Nat.le_refl _)]
        rw [hE] at PP
        subst hm0
        clear hE hNil
        go_wp2_with fail
        go_ret
        exact ⟨_, rfl, list_base PP.own (Nat.le_succ _), PP.bel⟩
      · have hm1 : (0 : Int) < (m : Int) := by omega
        have CK := Lib.hid (CO.out _ k hkn _ _ PP)
        have hO := Lib.hid (ow_own p T k)
        have hOE := Lib.hid (fun h => ow_hit (p := p) (T := T) (i := k) h)
        have hHit := Lib.hid (fun h => lst_hit (p := p) (T := T) (k := k) h)
        have hMiss := Lib.hid (fun h => lst_miss (p := p) (T := T) (k := k) h)
        have hlk := lst_le p T k
        have hsz := PP.bel.size
        clear CO hNil
        go_wp2_with fail
        refine CK.out.mono ?_; rintro r w2 ⟨rfl, hb2⟩
        have P2 := PP.low hb2
        clear PP CK hb2 t0 t1 t2
        generalize owE p (T k) k = E at *
        generalize ownE p T k = OE at *
        generalize lstP p T k = LK at *
        have t1 := cell_row 1 P2.row rfl
        obtain ⟨ao2, cap2, rfl⟩ := own_shape P2.own
        generalize owB p (T k) k = OB at *
        cases OB
        · have hN := Lib.hid (hMiss.out (by rw [hO.out]; decide))
          have P3 := P2.alloc (.cells #[.int .i64 E.size, .int .i64 E.ctx, .int .u64 E.va, .int .u64 E.pa, .bool E.att.write, .bool E.att.priv, .bool E.att.exec, .bool E.att.lock, .bool E.att.global, .bool E.att.quiet, .bool E.valid] 35)
          clear P2 hMiss hHit hOE hO
          go_wp2_with fail
          go_roundw
          case rel => exact ⟨k + 1, by omega, by go_num, by rw [hN.out]; exact P3⟩
          case measure => simp [intOf]; omega
        · have hN := Lib.hid (hHit.out hO.out)
          have hEE := hOE.out hO.out
          subst hEE
          have P3 := P2.alloc (.cells #[.int .i64 E.size, .int .i64 E.ctx, .int .u64 E.va, .int .u64 E.pa, .bool E.att.write, .bool E.att.priv, .bool E.att.exec, .bool E.att.lock, .bool E.att.global, .bool E.att.quiet, .bool E.valid] 35)
          obtain ⟨d0, d1, d2, d3, d4, d5, d6, d7, d8, d9, d10⟩ := (RowE.new w2 E).cells
          have P4 := P3.alloc (.cells #[.int .i64 E.size, .int .i64 E.ctx, .int .u64 E.va, .int .u64 E.pa, .bool E.att.write, .bool E.att.priv, .bool E.att.exec, .bool E.att.lock, .bool E.att.global, .bool E.att.quiet, .bool E.valid] 35)
          have HC0 := cell_eleven_new (w2.alloc (.cells #[.int .i64 E.size, .int .i64 E.ctx, .int .u64 E.va, .int .u64 E.pa, .bool E.att.write, .bool E.att.priv, .bool E.att.exec, .bool E.att.lock, .bool E.att.global, .bool E.att.quiet, .bool E.valid] 35)) E 35
          rw [World.size_alloc] at HC0
          have HC := Lib.hid HC0
          clear HC0
          have HE := Lib.hid (rowL_list LK E)
          have HO := Lib.hid (eleven_one E)
          obtain ⟨mm, hmm⟩ : ∃ mm, LK.length = mm := ⟨_, rfl⟩
          have hO3 : ((w2.alloc (.cells #[.int .i64 E.size, .int .i64 E.ctx, .int .u64 E.va, .int .u64 E.pa, .bool E.att.write, .bool E.att.priv, .bool E.att.exec, .bool E.att.lock, .bool E.att.global, .bool E.att.quiet, .bool E.valid] 35)).alloc (.cells #[.int .i64 E.size, .int .i64 E.ctx, .int .u64 E.va, .int .u64 E.pa, .bool E.att.write, .bool E.att.priv, .bool E.att.exec, .bool E.att.lock, .bool E.att.global, .bool E.att.quiet, .bool E.valid] 35)).ownsRow (w.heap.size + 1) 35 11 (.slice ao2 mm cap2) mm (rowL (nthE LK) mm) := by have := P4.own; unfold ListAt DocAt at this; rw [hmm] at this; exact this
          have hsz3 := P3.bel.size
          have hsz4 := (Array.getElem?_eq_some_iff.1 P2.row).1
          rw [hmm] at P4 hlk ⊢
          have HMM := Lib.hid hmm
          clear P2 P3 hmm hMiss hHit hOE hO
          go_wp2_with (at_builtin; (refine wpList_append_own_at _ rfl _ _ 41 rfl (w.heap.size + 1) 35 i0 _ 11 40 Tryz.underlying41 hi0 hz0 hz1 hz2 rfl (by decide) _ _ _ rfl (by exact hO3) ⟨w2.heap.size + 1, 0, none⟩ 1 1 (eleven E) rfl rfl HC.out HO.out (by unfold maxLen; omega) (by omega) (by simp; omega) ?_))
          intro v' w5 hown' hgrow _ _
          have R1 : ListAt w5 (w.heap.size + 1) v' (LK ++ [E]) := by
            unfold ListAt DocAt
            rw [HE.out, List.length_append, HMM.out]; exact hown'
          have P6 := P4.grown hgrow R1
          rw [← hN.out] at P6
          clear hown' hgrow hO3 HC HE HO P4 R1 d0 d1 d2 d3 d4 d5 d6 d7 d8 d9 d10
          go_wp2
          go_roundw
          case rel => exact ⟨k + 1, by omega, by go_num, P6⟩
          case measure => simp [intOf]; omega
    · obtain rfl : k = p.n := by omega
      go_wp2_with fail
      go_ret
      exact ⟨_, rfl, list_base PP.own (Nat.le_succ _), PP.bel⟩
/-! ### Locked -/
def cW (l : List Wd) (k : Nat) : Nat := (l.take k).countP (fun x => x.t != 9223372036854775807)
theorem cW_hit {l : List Wd} {k : Nat} (h : k < l.length) (ht : (nthW l k).t ≠ 9223372036854775807) : cW l (k + 1) = cW l k + 1 := by
  unfold cW
  rw [List.take_succ_eq_append_getElem h, List.countP_append]
  have : nthW l k = l[k] := by simp [nthW, h]
  rw [this] at ht
  simp [ht]
theorem cW_miss {l : List Wd} {k : Nat} (h : k < l.length) (ht : (nthW l k).t = 9223372036854775807) : cW l (k + 1) = cW l k := by
  unfold cW
  rw [List.take_succ_eq_append_getElem h, List.countP_append]
  have : nthW l k = l[k] := by simp [nthW, h]
  rw [this] at ht
  simp [ht]
theorem cW_le (l : List Wd) (k : Nat) : cW l k ≤ k := Nat.le_trans List.countP_le_length (by simp; omega)
theorem cW_all (l : List Wd) : cW l l.length = l.countP (fun x => x.t != 9223372036854775807) := by unfold cW; rw [List.take_length]
theorem olck_any {p : Par} (hp : p.Ok) {l : List Wd} {B : Nat} {v : Value} {T : Nat → Pl} (ht : Tie p l T) (w : World) (h : WsAt w B v l) :
    Calls Tryz.prog 9 #[.agg #[.int .i64 p.s, .int .i64 (p.n : Int), v]] w fun e w' => e = .returned (.int .i64 (lckN T p.n : Int)) ∧ Below w.heap.size w w' := by
  obtain ⟨ao, cap, rfl⟩ := own_shape h
  obtain ⟨m, hm⟩ : ∃ m, l.length = m := ⟨_, rfl⟩
  have HM := Lib.hid hm
  have hnb := hp.n_bd
  have hlen := tie_len ht
  have hL := tie_lck ht
  rw [← cW_all, hm] at hL
  rw [hm] at hlen ⊢
  have z1 : Below w.heap.size w (w.alloc (.cells #[.int .i64 p.s, .int .i64 (p.n : Int), .slice ao m cap] 26)) := (Below.refl _ _).alloc (Nat.le_refl _) _
  have P1 : LX w (w.alloc (.cells #[.int .i64 p.s, .int .i64 (p.n : Int), .slice ao m cap] 26)) p (.slice ao m cap) B l (.slice none 0 0) [] := ⟨z1, World.alloc_heap_new _ _, by have := ws_low h z1; rw [hm] at this; exact this, list_nil _ _⟩
  have CB := Lib.hid rbad_any
  clear h z1 hm ht
  have hc0 : cW l 0 = 0 := by simp [cW]
  generalize lckN T p.n = K at *
  go_enter Tryz.func9, Tryz.ntmps9
  go_wp2_with fail
  generalize World.alloc w _ = W1 at *
  have t1 := cell_row 1 P1.row rfl
  go_wp2_with fail
  go_loopw [3, 4] (fun c i wr => ∃ k : Nat, c = .int .i64 ((p.n : Int) - (cW l k : Int)) ∧ i = .int .i64 (k : Int) ∧ k ≤ m ∧ LX w wr p (.slice ao m cap) B l (.slice none 0 0) []) (fun _ i _ => m - (intOf i).toNat)
  case atStart => exact ⟨0, by rw [hc0]; simp, rfl, Nat.zero_le _, P1⟩
  case round =>
    clear P1 t1
    obtain ⟨k, rfl, rfl, hk, PP⟩ := hrel
    have t2 := cell_row 2 PP.row rfl
    have hcl := cW_le l k
    by_cases hkm : k < m
    · have hkl : k < l.length := by rw [HM.out]; exact hkm
      have hkm' : (k : Int) < (m : Int) := by omega
      obtain ⟨o, ho⟩ : ∃ o, k * 3 = o := ⟨_, rfl⟩
      obtain ⟨g, cap', hv, hc1, hc2, c0, c1, c2⟩ := ws_at PP.ws hkl ho
      rw [HM.out] at hv hc1
      simp only [Value.slice.injEq, true_and] at hv
      obtain ⟨rfl, rfl⟩ := hv
      unfold maxLen at hc2
      have hAE : (⟨g, 0, none⟩ : Addr).add o = ⟨g, o, none⟩ := add_at g o
      have hH := Lib.hid (fun h => cW_hit (l := l) (k := k) hkl h)
      have hM := Lib.hid (fun h => cW_miss (l := l) (k := k) hkl h)
      by_cases hx : (nthW l k).t = 9223372036854775807
      · have hN := Lib.hid (hM.out hx)
        rw [hx] at c1
        clear hH hM hx
        generalize cW l k = ck at *
        go_wp2_with fail
        go_quiet ((go_at_call 37; refine (CB.out _).mono ?_; rintro e w' ⟨rfl, rfl⟩; exact ⟨rfl, _, rfl⟩))
        have PQ := PP.low (drewN_low wr nq)
        clear PP c0 c1 c2 t2
        go_wp2_with fail
        go_roundw
        case rel => exact ⟨k + 1, by rw [hN.out], by go_num, by omega, PQ⟩
        case measure => simp [intOf]; omega
      · have hN := Lib.hid (hH.out hx)
        have hx2 : ((nthW l k).t != 9223372036854775807) = true := bne_iff_ne.2 hx
        clear hH hM
        generalize cW l k = ck at *
        go_wp2_with fail
        go_quiet ((go_at_call 37; refine (CB.out _).mono ?_; rintro e w' ⟨rfl, rfl⟩; exact ⟨rfl, _, rfl⟩))
        have PQ := PP.low (drewN_low wr nq)
        clear PP c0 c1 c2 t2
        go_wp2_with fail
        go_roundw
        case rel => exact ⟨k + 1, by rw [hN.out]; go_num, by go_num, by omega, PQ⟩
        case measure => simp [intOf]; omega
    · obtain rfl : m = k := by omega
      have hK : ((p.n : Int) - (cW l m : Int)) = (K : Int) := by omega
      rw [hK]
      go_wp2_with fail
      go_ret
      exact ⟨rfl, PP.bel⟩
end Go.Proofs.YtgdagfhdimoklaaGreat.Ts
/-
  Contracts of Find and Drop of the document's package for layer 10. Conditions: lists that are there; numbers are what Go's types hold.
-/
namespace Go.Proofs.YtgdagfhdimoklaaGreat.Ts
open Fld
open Pt (idxI idx_bd)
open Tl (res_ent ret_entB)
open Go.ChangeShapes Go.WideShapes Go.ChangeAt Go.RowKit Go.Shelf
set_option maxRecDepth 100000
set_option maxHeartbeats 4000000
theorem PV.far {w X : World} {b B : Nat} {p : Par} {v u : Value} {l : List Wd} (h : PV w X (bxZ b p u) B v l) : b + 1 < X.heap.size := (Array.getElem?_eq_some_iff.1 (h.rows _ (List.mem_cons_of_mem _ (List.mem_cons_self ..))).1).1
/-- Eleven stores into a block that is new since X. -/
theorem PV.setE {w X wr : World} {L : List Bx} {B : Nat} {v : Value} {l : List Wd} {x0 x1 x2 x3 x4 x5 x6 x7 x8 x9 x10 : Value} (hX : PV w X L B v l) (h : PV w wr L B v l) :
    PV w (((((((((((wr.setCell ⟨X.heap.size, 0, none⟩ x0).setCell ⟨X.heap.size, 1, none⟩ x1).setCell ⟨X.heap.size, 2, none⟩ x2).setCell ⟨X.heap.size, 3, none⟩ x3).setCell ⟨X.heap.size, 4, none⟩ x4).setCell ⟨X.heap.size, 5, none⟩ x5).setCell ⟨X.heap.size, 6, none⟩ x6).setCell ⟨X.heap.size, 7, none⟩ x7).setCell ⟨X.heap.size, 8, none⟩ x8).setCell ⟨X.heap.size, 9, none⟩ x9).setCell ⟨X.heap.size, 10, none⟩ x10) L B v l := by
  refine ⟨below_eleven hX.bel.size h.bel _ _ _ _ _ _ _ _ _ _ _, fun q hq => ?_, ws_setNew hX.ws h.ws⟩
  obtain ⟨a, b, c⟩ := h.rows q hq
  have := (Array.getElem?_eq_some_iff.1 (hX.rows q hq).1).1
  exact ⟨(row_far (by omega)).trans a, b, c⟩
theorem ofind_any {p : Par} (hp : p.Ok) {l : List Wd} {B : Nat} {v : Value} {T : Nat → Pl} (ht : Tie p l T) (hU : ∀ i, i < p.n → (T i).U) (va ctx : Int) (v0 : 0 ≤ va) (v1 : va ≤ 18446744073709551615) (w : World) (h : WsAt w B v l) :
    Calls Tryz.prog 24 #[.agg #[.int .i64 p.s, .int .i64 (p.n : Int), v], .int .u64 va, .int .i64 ctx] w fun e w' => e = .returned (.tuple #[.agg #[.int .i64 (fndE p T va ctx).size, .int .i64 (fndE p T va ctx).ctx, .int .u64 (fndE p T va ctx).va, .int .u64 (fndE p T va ctx).pa, .bool (fndE p T va ctx).att.write, .bool (fndE p T va ctx).att.priv, .bool (fndE p T va ctx).att.exec, .bool (fndE p T va ctx).att.lock, .bool (fndE p T va ctx).att.global, .bool (fndE p T va ctx).att.quiet, .bool (fndE p T va ctx).valid], .bool (fndB p T va ctx)]) ∧ Below w.heap.size w w' := by
  obtain ⟨ao, cap, rfl⟩ := own_shape h
  have P1 := bxZ_new w p _ h
  have hpl := (hp.idx va).2
  have CP := Lib.hid (fun W => rplace_any hp ao l.length cap va v0 v1 W)
  have CR := Lib.hid (fun W (hW : WsAt W B (.slice ao l.length cap) l) => oread_any (p := p) l B _ (p.pl va) (T (p.pl va)) (ht.tells _ hpl) (hU _ hpl) va v0 v1 W hW)
  obtain ⟨q0, q1⟩ := rdE_bd p.s (T (p.pl va)) va v0 v1
  have CH := Lib.hid (fun W => rhits_any (rdE p.s (T (p.pl va)) va) va ctx q0 q1 v0 v1 W)
  have hB := Lib.hid (show fndB p T va ctx = (rdB p.s (T (p.pl va)) va && (rdE p.s (T (p.pl va)) va).hitsB va ctx) from rfl)
  have hE := Lib.hid (show fndE p T va ctx = if fndB p T va ctx then rdE p.s (T (p.pl va)) va else Ent.zero from rfl)
  have hnb := hp.n_bd
  generalize fndE p T va ctx = FE at *
  generalize fndB p T va ctx = FB at *
  generalize rdB p.s (T (p.pl va)) va = RB at *
  generalize rdE p.s (T (p.pl va)) va = RE at *
  generalize RE.hitsB va ctx = HB at *
  generalize p.pl va = k at *
  clear h q0 q1
  go_enter Tryz.func24, Tryz.ntmps24
  go_wp2_with fail
  generalize World.alloc (World.alloc w _) _ = W1 at *
  obtain ⟨t0, t1, t2⟩ := P1.box
  have hds : ∀ W : World, W.drew.heap.size = W.heap.size := fun _ => rfl
  go_cut [8, 9] (fun a b wx => ∃ c, a = .pointer (some ⟨c, 0, none⟩) ∧ b = .bool RB ∧ PV w wx (bxZ w.heap.size p (.slice ao l.length cap)) B (.slice ao l.length cap) l ∧ RowE wx c RE)
  case first =>
    go_region_held3 (fun w1 => w1.cell? ⟨w.heap.size, 0, none⟩ = some (.int .i64 p.s) ∧ w1.cell? ⟨w.heap.size, 1, none⟩ = some (.int .i64 (p.n : Int)) ∧ w1.cell? ⟨w.heap.size, 2, none⟩ = some (.slice ao l.length cap)) ((refine PV.box (w := w) (b := w.heap.size) (B := B) (v := .slice ao l.length cap) (l := l) ?_; (repeat (first | (with_reducible assumption) | (with_reducible refine PV.drew ?_) | (with_reducible refine PV.drewN ?_ _) | (with_reducible refine PV.alloc ?_ _) | (with_reducible refine PV.setE ?_ ?_) | (with_reducible refine PV.low ?_ (by assumption)))) ))
      (first | (go_at_call 54; (with_reducible refine (CP.out _).mono ?_); rintro r w' ⟨rfl, hb⟩; obtain ⟨hcc, hf, hs1, hs2⟩ := bfacts hb; (try have hv : W1.heap.size < w'.heap.size := by (have hsz := hb.size; (try simp only [hds] at hsz); (try simp only [World.size_alloc] at hsz); omega))) | (go_at_call 53; (refine (CR.out _ (PV.ws (w := w) (L := bxZ w.heap.size p (.slice ao l.length cap)) (by (repeat (first | (with_reducible assumption) | (with_reducible refine PV.drew ?_) | (with_reducible refine PV.drewN ?_ _) | (with_reducible refine PV.alloc ?_ _) | (with_reducible refine PV.setE ?_ ?_) | (with_reducible refine PV.low ?_ (by assumption)))) ))).mono ?_); rintro r w' ⟨rfl, hb⟩; obtain ⟨hcc, hf, hs1, hs2⟩ := bfacts hb; (try have hv : W1.heap.size < w'.heap.size := by (have hsz := hb.size; (try simp only [hds] at hsz); (try simp only [World.size_alloc] at hsz); omega))))
    all_goals
      go_wp2_with fail
      go_meet
      refine ⟨_, rfl, rfl, ?_, ?_⟩
      · (repeat (first | (with_reducible assumption) | (with_reducible refine PV.drew ?_) | (with_reducible refine PV.drewN ?_ _) | (with_reducible refine PV.alloc ?_ _) | (with_reducible refine PV.setE ?_ ?_) | (with_reducible refine PV.low ?_ (by assumption)))) 
      · (first | (with_reducible exact RowE.new _ _) | (refine RowE.setAll (z := Ent.zero) ?_; (repeat (first | (with_reducible refine RowE.call ?_ (by assumption)) | (with_reducible refine RowE.drew ?_) | exact RowE.new _ Ent.zero))))
  case rest =>
    obtain ⟨c, rfl, rfl, PP, hR⟩ := hcut
    clear P1 t0 t1 t2 CP CR
    obtain ⟨d0, d1, d2, d3, d4, d5, d6, d7, d8, d9, d10⟩ := hR.cells
    go_wp2_with fail
    refine (CH.out _).mono ?_; rintro r w2 ⟨rfl, hb2⟩
    have P2 := PP.low hb2
    have R2 := hR.call hb2
    have B2 := P2.bel
    have Z2 := P2.res
    clear PP hR hb2 CH d0 d1 d2 d3 d4 d5 d6 d7 d8 d9 d10
    obtain ⟨d0, d1, d2, d3, d4, d5, d6, d7, d8, d9, d10⟩ := R2.cells
    obtain ⟨r0, r1, r2, r3, r4, r5, r6, r7, r8, r9, r10⟩ := Z2.cells
    have fr := Z2.frozen
    cases RB
    · have HB := Lib.hid (show FB = false by rw [hB.out]; rfl)
      have HE := Lib.hid (show FE = Ent.zero by rw [hE.out, HB.out]; rfl)
      clear hB hE
      go_wp2_with fail
      have RR := RowE.setAll (e := Ent.zero) Z2
      (try simp only [Exit.inBlock, Exit.then])
      refine bodyPost_ret (res_ent rfl _ _ _ _ rfl RR) rfl ?_
      exact ⟨ret_entB HE.out HB.out, below_eleven (Nat.le_succ _) B2 _ _ _ _ _ _ _ _ _ _ _⟩
    · cases HB
      · have HB := Lib.hid (show FB = false by rw [hB.out]; rfl)
        have HE := Lib.hid (show FE = Ent.zero by rw [hE.out, HB.out]; rfl)
        clear hB hE
        go_wp2_with fail
        have RR := RowE.setAll (e := Ent.zero) Z2
        (try simp only [Exit.inBlock, Exit.then])
        refine bodyPost_ret (res_ent rfl _ _ _ _ rfl RR) rfl ?_
        exact ⟨ret_entB HE.out HB.out, below_eleven (Nat.le_succ _) B2 _ _ _ _ _ _ _ _ _ _ _⟩
      · have HB := Lib.hid (show FB = true by rw [hB.out]; rfl)
        have HE := Lib.hid (show FE = RE by rw [hE.out, HB.out]; rfl)
        clear hB hE
        go_wp2_with fail
        have RR := RowE.setAll (e := RE) Z2
        (try simp only [Exit.inBlock, Exit.then])
        refine bodyPost_ret (res_ent rfl _ _ _ _ rfl RR) rfl ?_
        exact ⟨ret_entB HE.out HB.out, below_eleven (Nat.le_succ _) B2 _ _ _ _ _ _ _ _ _ _ _⟩
end Go.Proofs.YtgdagfhdimoklaaGreat.Ts
/-
  Contracts of Drop and DropContext of the document's package for layer 10. Conditions: lists that are there; numbers are what Go's types hold.
-/
namespace Go.Proofs.YtgdagfhdimoklaaGreat.Ts
open Fld
open Pt (idxI idx_bd)
open Go.ChangeShapes Go.WideShapes Go.ChangeAt Go.RowKit Go.Shelf
set_option maxRecDepth 100000
set_option maxHeartbeats 4000000
/-- The boxes of a list that came in, and of one that is answered. -/
abbrev bxT (b : Nat) (p : Par) (v : Value) : List Bx := [(b, tcell p v, 26), (b + 1, #[.int .i64 0, .int .i64 0, .slice none 0 0], 26)]
theorem bxT_new (w : World) (p : Par) (v : Value) {B : Nat} {l : List Wd} (h : WsAt w B v l) :
    PV w ((w.alloc (.cells #[.int .i64 p.s, .int .i64 (p.n : Int), v] 26)).alloc (.cells #[.int .i64 0, .int .i64 0, .slice none 0 0] 26)) (bxT w.heap.size p v) B v l := by
  have z1 : Below w.heap.size w ((w.alloc (.cells #[.int .i64 p.s, .int .i64 (p.n : Int), v] 26)).alloc (.cells #[.int .i64 0, .int .i64 0, .slice none 0 0] 26)) := ((Below.refl _ _).alloc (Nat.le_refl _) _).alloc (by simp) _
  exact ⟨z1, Rows.add (t := 26) (Rows.add (t := 26) (L := []) (fun q hq => absurd hq (by simp)) (alloc_new2 _ _ _) ⟨by decide, by decide⟩ (Nat.le_succ _)) (alloc_old (World.alloc_heap_new _ _) _) ⟨by decide, by decide⟩ (Nat.le_refl _), ws_low h z1⟩
theorem PV.boxT {w wr : World} {b B : Nat} {p : Par} {v u : Value} {l : List Wd} (h : PV w wr (bxT b p u) B v l) : wr.cell? ⟨b, 0, none⟩ = some (.int .i64 p.s) ∧ wr.cell? ⟨b, 1, none⟩ = some (.int .i64 (p.n : Int)) ∧ wr.cell? ⟨b, 2, none⟩ = some u := h.sc (List.mem_cons_self ..)
theorem PV.resT {w wr : World} {b B : Nat} {p : Par} {v u : Value} {l : List Wd} (h : PV w wr (bxT b p u) B v l) : wr.heap[b + 1]? = some (.cells #[.int .i64 0, .int .i64 0, .slice none 0 0] 26 (0, 0)) := (h.rows _ (List.mem_cons_of_mem _ (List.mem_cons_self ..))).1
theorem res_Tt {fn : Func} {p u : Tmp} (h : fn.results = #[.cell p 26, .tmp u]) (tmps : Array Value) (w : World) (g : Nat) (x y v : Value) (hp : tmps.getD p undef = .pointer (some ⟨g, 0, none⟩)) (hR : w.heap[g]? = some (.cells #[x, y, v] 26 (0, 0))) :
    (results fn tmps).run Tryz.prog w = .ok (.tuple #[.agg #[x, y, v], tmps.getD u undef]) w := by
  have hl := run_loadVar_row (P := Tryz.prog) w g 26 26 _ (0, 0) _ hR Tryz.underlying26 (by kernel_rfl) (by kernel_rfl)
  rw [results_cell_tmp h, hp]
  simp only [asAddr, Sem.run_pure, Result.andThen_ok, hl]
/-- Three stores into a list's box: a list of words stays. -/
theorem tfin {w wr : World} {b D : Nat} {p : Par} {v x y u : Value} {l : List Wd} (hl : w.heap.size ≤ b) (h : Below w.heap.size w wr) (hb : wr.heap[b]? = some (.cells #[x, y, u] 26 (0, 0))) (hw : WsAt wr D v l) :
    (((wr.setCell ⟨b, 0, none⟩ (.int .i64 p.s)).setCell ⟨b, 1, none⟩ (.int .i64 (p.n : Int))).setCell ⟨b, 2, none⟩ v).heap[b]? = some (.cells #[.int .i64 p.s, .int .i64 (p.n : Int), v] 26 (0, 0)) ∧
    WsAt (((wr.setCell ⟨b, 0, none⟩ (.int .i64 p.s)).setCell ⟨b, 1, none⟩ (.int .i64 (p.n : Int))).setCell ⟨b, 2, none⟩ v) D v l ∧
    Below w.heap.size w (((wr.setCell ⟨b, 0, none⟩ (.int .i64 p.s)).setCell ⟨b, 1, none⟩ (.int .i64 (p.n : Int))).setCell ⟨b, 2, none⟩ v) := by
  have q1 := Mem.heap_set hb (o := 0) (.int .i64 p.s)
  have q2 := Mem.heap_set q1 (o := 1) (.int .i64 (p.n : Int))
  have q3 := Mem.heap_set q2 (o := 2) v
  exact ⟨q3, ws_put (ws_put (ws_put hw hb t_w _ _) q1 t_w _ _) q2 t_w _ _, ((h.setCell (p := ⟨b, 0, none⟩) hl _).setCell (p := ⟨b, 1, none⟩) hl _).setCell (p := ⟨b, 2, none⟩) hl _⟩
/-- A list's box that stays. -/
structure KC (wr : World) (b : Nat) (p : Par) (v : Value) : Prop where
  row : wr.heap[b]? = some (.cells #[.int .i64 p.s, .int .i64 (p.n : Int), v] 26 (0, 0))
theorem KC.drew {wr : World} {b : Nat} {p : Par} {v : Value} (h : KC wr b p v) : KC wr.drew b p v := ⟨h.row⟩
theorem KC.drewN {wr : World} {b : Nat} {p : Par} {v : Value} (h : KC wr b p v) (n : Nat) : KC (wr.drewN n) b p v := ⟨h.row⟩
theorem KC.low {wr w' : World} {b : Nat} {p : Par} {v : Value} (h : KC wr b p v) (hb : Below wr.heap.size wr w') : KC w' b p v := ⟨(hb.block _ (Array.getElem?_eq_some_iff.1 h.row).1).trans h.row⟩
theorem KC.alloc {wr : World} {b : Nat} {p : Par} {v : Value} (h : KC wr b p v) (o : Obj) : KC (wr.alloc o) b p v := h.low ((Below.refl _ _).alloc (Nat.le_refl _) _)
theorem KC.set3 {wr : World} {b : Nat} {p : Par} {v : Value} (h : KC wr b p v) (x y z : Value) : KC (((wr.setCell ⟨b + 1, 0, none⟩ x).setCell ⟨b + 1, 1, none⟩ y).setCell ⟨b + 1, 2, none⟩ z) b p v := ⟨(three_far (by omega)).trans h.row⟩
theorem KC.of {w wr : World} {b B : Nat} {p : Par} {u v : Value} {l : List Wd} (h : PV w wr (bxT b p v) B u l) : KC wr b p v := ⟨(h.rows _ (List.mem_cons_self ..)).1⟩
theorem KC.all {wr : World} {b : Nat} {p : Par} {v : Value} (h : KC wr b p v) : wr.cell? ⟨b, 0, none⟩ = some (.int .i64 p.s) ∧ wr.cell? ⟨b, 1, none⟩ = some (.int .i64 (p.n : Int)) ∧ wr.cell? ⟨b, 2, none⟩ = some v := ⟨cell_row 0 h.row rfl, cell_row 1 h.row rfl, cell_row 2 h.row rfl⟩
theorem pput {w W : World} {p : Par} {B : Nat} {u v : Value} {l : List Wd} (h : PV w W (bxT w.heap.size p u) B v l) (hl : l.length ≤ 100000) (hB : B ≤ w.heap.size) (x : Wd) :
    Calls Tryz.prog 56 #[.agg #[.int .i64 p.s, .int .i64 (p.n : Int), v], .agg #[.int .i64 (x.i : Int), .int .u64 x.t, .int .u64 x.d]] W fun r w' => ∃ v', r = .returned (.agg #[.int .i64 p.s, .int .i64 (p.n : Int), v']) ∧ PV w w' (bxT w.heap.size p u) B v l ∧ ∃ C, w.heap.size + 1 < C ∧ WsAt w' C v' (putW l x) := by
  refine (Ts.rput_any (p := p) l B v x hl W h.ws (Nat.le_trans hB h.bel.size)).mono ?_
  rintro r w' ⟨v', rfl, a, b⟩
  exact ⟨v', rfl, h.low b, W.heap.size, (Array.getElem?_eq_some_iff.1 h.resT).1, a⟩
theorem odrop_any {p : Par} (hp : p.Ok) {l : List Wd} {B : Nat} {v : Value} {T : Nat → Pl} (ht : Tie p l T) (hU : ∀ i, i < p.n → (T i).U) (va ctx : Int) (v0 : 0 ≤ va) (v1 : va ≤ 18446744073709551615) (w : World) (h : WsAt w B v l) (hB : B ≤ w.heap.size) :
    Calls Tryz.prog 25 #[.agg #[.int .i64 p.s, .int .i64 (p.n : Int), v], .int .u64 va, .int .i64 ctx] w fun e w' => ∃ v' l', e = .returned (.tuple #[.agg #[.int .i64 p.s, .int .i64 (p.n : Int), v'], .bool (fndB p T va ctx)]) ∧ WsAt w' B v' l' ∧ Tie p l' (dropT p T va ctx) ∧ Below w.heap.size w w' := by
  obtain ⟨ao, cap, rfl⟩ := own_shape h
  have P1 := bxT_new w p _ h
  have hpl := (hp.idx va).2
  have hnb := hp.n_bd
  have hlen := tie_len ht
  have CF := Lib.hid (fun W (hW : WsAt W B (.slice ao l.length cap) l) => ofind_any hp ht hU va ctx v0 v1 W hW)
  have CP := Lib.hid (fun W => rplace_any hp ao l.length cap va v0 v1 W)
  have CB := Lib.hid rbad_any
  have CQ := Lib.hid (fun W (hW : PV w W (bxT w.heap.size p (.slice ao l.length cap)) B (.slice ao l.length cap) l) => pput hW (by omega) hB ⟨p.pl va, 9223372036854775807, 0⟩)
  have hD := Lib.hid (show dropT p T va ctx = if fndB p T va ctx then setP T (p.pl va) Pl.none else T from rfl)
  have hG := Lib.hid (tie_gone ht hpl)
  have hT := Lib.hid ht
  generalize dropT p T va ctx = DT at *
  generalize fndE p T va ctx = FE at *
  generalize fndB p T va ctx = FB at *
  generalize p.pl va = k at *
  clear h ht hU
  go_enter Tryz.func25, Tryz.ntmps25
  go_wp2_with fail
  generalize World.alloc (World.alloc w _) _ = W1 at *
  obtain ⟨t0, t1, t2⟩ := P1.boxT
  go_wp2_with fail
  refine (CF.out _ P1.ws).mono ?_; rintro r w1 ⟨rfl, hb1⟩
  have P2 := (P1.low hb1).alloc (.cells #[.int .i64 FE.size, .int .i64 FE.ctx, .int .u64 FE.va, .int .u64 FE.pa, .bool FE.att.write, .bool FE.att.priv, .bool FE.att.exec, .bool FE.att.lock, .bool FE.att.global, .bool FE.att.quiet, .bool FE.valid] 35)
  clear P1 CF hb1 t0 t1 t2
  obtain ⟨t0, t1, t2⟩ := P2.boxT
  cases FB
  · have q9 := P2.resT
    have r0 := cell_row 0 q9 rfl
    have r1 := cell_row 1 q9 rfl
    have r2 := cell_row 2 q9 rfl
    have f9 : ∀ i, World.frozen? (w1.alloc (.cells #[.int .i64 FE.size, .int .i64 FE.ctx, .int .u64 FE.va, .int .u64 FE.pa, .bool FE.att.write, .bool FE.att.priv, .bool FE.att.exec, .bool FE.att.lock, .bool FE.att.global, .bool FE.att.quiet, .bool FE.valid] 35)) ⟨w.heap.size + 1, i, none⟩ = false := fun i => by simp only [World.frozen?, q9]; rfl
    obtain ⟨z1, z2, z3⟩ := tfin (p := p) (Nat.le_succ _) P2.bel q9 P2.ws
    have hDT := hD.out
    rw [if_neg (by decide)] at hDT
    subst hDT
    clear CP CB CQ hG hD
    go_wp2_with fail
    (try simp only [Exit.inBlock, Exit.then])
    refine bodyPost_ret (res_Tt rfl _ _ _ _ _ _ rfl z1) rfl ⟨_, _, rfl, z2, hT.out, z3⟩
  · have hDT := hD.out
    rw [if_pos rfl] at hDT
    subst hDT
    clear hD
    go_wp2_with fail
    generalize World.alloc w1 _ = W4 at *
    have K4 := KC.of P2
    have hds : ∀ W : World, W.drew.heap.size = W.heap.size := fun _ => rfl
    go_region_held3 (fun w1 => w1.cell? ⟨w.heap.size, 0, none⟩ = some (.int .i64 p.s) ∧ w1.cell? ⟨w.heap.size, 1, none⟩ = some (.int .i64 (p.n : Int)) ∧ w1.cell? ⟨w.heap.size, 2, none⟩ = some (.slice ao l.length cap)) ((refine KC.all ?_; (repeat (first | (with_reducible assumption) | (with_reducible refine KC.drew ?_) | (with_reducible refine KC.drewN ?_ _) | (with_reducible refine KC.alloc ?_ _) | (with_reducible refine KC.set3 ?_ _ _ _) | (with_reducible refine KC.low ?_ (by assumption)))) ))
      (first | (go_at_call 37; (with_reducible refine (CB.out _).mono ?_); rintro r w' ⟨rfl, rfl⟩) | (go_at_call 54; (with_reducible refine (CP.out _).mono ?_); rintro r w' ⟨rfl, hb⟩; obtain ⟨hcc, hf, hs1, hs2⟩ := bfacts hb) | (go_at_call 56; (refine (CQ.out _ (by (repeat (first | (with_reducible assumption) | (with_reducible refine PV.drew ?_) | (with_reducible refine PV.drewN ?_ _) | (with_reducible refine PV.alloc ?_ _) | (with_reducible refine PV.setNew ?_ ?_) | (with_reducible refine PV.low ?_ (by assumption)))) )).mono ?_); rintro r w' ⟨v', rfl, PQ, C, hC, hws⟩; have KQ := KC.of PQ; obtain ⟨ao', cap', rfl⟩ := own_shape hws; have q9 := PQ.resT; have r0 := cell_row 0 q9 rfl; have r1 := cell_row 1 q9 rfl; have r2 := cell_row 2 q9 rfl; have f9 : ∀ i, World.frozen? w' ⟨w.heap.size + 1, i, none⟩ = false := (fun i => by simp only [World.frozen?, q9]; rfl); obtain ⟨z1, z2, z3⟩ := PV.finAt (p := p) (Nat.le_succ _) PQ.bel q9 hws hC))
    all_goals
      go_wp2_with fail
      (try simp only [Exit.inBlock, Exit.then])
      refine bodyPost_ret (res_Tt rfl _ _ _ _ _ _ rfl z1) rfl ⟨_, _, rfl, ws_base z2 hB, hG.out, z3⟩
end Go.Proofs.YtgdagfhdimoklaaGreat.Ts
/-
  Contract of DropContext of the document's package for layer 10. Conditions: lists that are there; numbers are what Go's types hold.
-/
namespace Go.Proofs.YtgdagfhdimoklaaGreat.Ts
open Fld
open Pt (idxI idx_bd)
open Go.ChangeShapes Go.WideShapes Go.ChangeAt Go.RowKit Go.Shelf
set_option maxRecDepth 100000
set_option maxHeartbeats 4000000
/-- The boxes of a list that turns, and of one that is answered. -/
structure CX (w wr : World) (p : Par) (v : Value) (D : Nat) (l : List Wd) : Prop where
  bel : Below w.heap.size w wr
  row : wr.heap[w.heap.size]? = some (.cells #[.int .i64 p.s, .int .i64 (p.n : Int), v] 26 (0, 0))
  res : wr.heap[w.heap.size + 1]? = some (.cells #[.int .i64 0, .int .i64 0, .slice none 0 0] 26 (0, 0))
  le : D ≤ wr.heap.size
  ws : WsAt wr D v l
theorem CX.low {w wr w' : World} {p : Par} {v : Value} {D : Nat} {l : List Wd} (h : CX w wr p v D l) (hb : Below wr.heap.size wr w') : CX w w' p v D l :=
  ⟨h.bel.trans (hb.mono h.bel.size), (hb.block _ (Array.getElem?_eq_some_iff.1 h.row).1).trans h.row, (hb.block _ (Array.getElem?_eq_some_iff.1 h.res).1).trans h.res, Nat.le_trans h.le hb.size, ws_low h.ws hb⟩
theorem CX.drewN {w wr : World} {p : Par} {v : Value} {D : Nat} {l : List Wd} (h : CX w wr p v D l) (n : Nat) : CX w (wr.drewN n) p v D l := h.low (drewN_low wr n)
theorem CX.drew {w wr : World} {p : Par} {v : Value} {D : Nat} {l : List Wd} (h : CX w wr p v D l) : CX w wr.drew p v D l := h.drewN 1
theorem CX.alloc {w wr : World} {p : Par} {v : Value} {D : Nat} {l : List Wd} (h : CX w wr p v D l) (o : Obj) : CX w (wr.alloc o) p v D l := h.low ((Below.refl _ _).alloc (Nat.le_refl _) _)
theorem CX.put {w wr : World} {p : Par} {v u : Value} {D E : Nat} {l m : List Wd} (h : CX w wr p v D l) (hw : WsAt wr E u m) (hE : E ≤ wr.heap.size) :
    CX w (((wr.setCell ⟨w.heap.size, 0, none⟩ (.int .i64 p.s)).setCell ⟨w.heap.size, 1, none⟩ (.int .i64 (p.n : Int))).setCell ⟨w.heap.size, 2, none⟩ u) p u E m := by
  obtain ⟨a, b, c⟩ := tfin (p := p) (Nat.le_refl _) h.bel h.row hw
  exact ⟨c, a, (three_far (by omega)).trans h.res, by simp; exact hE, b⟩
theorem cput {w W : World} {p : Par} {D : Nat} {v : Value} {l : List Wd} (h : CX w W p v D l) (hl : l.length ≤ 100000) (x : Wd) :
    Calls Tryz.prog 56 #[.agg #[.int .i64 p.s, .int .i64 (p.n : Int), v], .agg #[.int .i64 (x.i : Int), .int .u64 x.t, .int .u64 x.d]] W fun r w' => ∃ v' E, r = .returned (.agg #[.int .i64 p.s, .int .i64 (p.n : Int), v']) ∧ CX w w' p v D l ∧ D ≤ E ∧ E ≤ w'.heap.size ∧ WsAt w' E v' (putW l x) := by
  refine (Ts.rput_any (p := p) l D v x hl W h.ws h.le).mono ?_
  rintro r w' ⟨v', rfl, a, b⟩
  exact ⟨v', W.heap.size, rfl, h.low b, h.le, b.size, a⟩
theorem octx_any {p : Par} (hp : p.Ok) {l : List Wd} {B : Nat} {v : Value} {T : Nat → Pl} (ht : Tie p l T) (hU : ∀ i, i < p.n → (T i).U) (c : Int) (w : World) (h : WsAt w B v l) (hB : B ≤ w.heap.size) :
    Calls Tryz.prog 27 #[.agg #[.int .i64 p.s, .int .i64 (p.n : Int), v], .int .i64 c] w fun e w' => ∃ v' l', e = .returned (.tuple #[.agg #[.int .i64 p.s, .int .i64 (p.n : Int), v'], .int .i64 (drpN p T c p.n : Int)]) ∧ WsAt w' B v' l' ∧ Tie p l' (drpT p T c p.n) ∧ Below w.heap.size w w' := by
  have hnb := hp.n_bd
  have z1 : Below w.heap.size w ((w.alloc (.cells #[.int .i64 p.s, .int .i64 (p.n : Int), v] 26)).alloc (.cells #[.int .i64 0, .int .i64 0, .slice none 0 0] 26)) := ((Below.refl _ _).alloc (Nat.le_refl _) _).alloc (by simp) _
  have P1 : CX w ((w.alloc (.cells #[.int .i64 p.s, .int .i64 (p.n : Int), v] 26)).alloc (.cells #[.int .i64 0, .int .i64 0, .slice none 0 0] 26)) p v B l := ⟨z1, alloc_old (World.alloc_heap_new _ _) _, alloc_new2 _ _ _, Nat.le_trans hB z1.size, ws_low h z1⟩
  have CB := Lib.hid rbad_any
  have ht0 : Tie p l (drpT p T c 0) := by rw [drpT_zero]; exact ht
  obtain ⟨ao, cap, rfl⟩ := own_shape h
  clear z1 h ht
  go_enter Tryz.func27, Tryz.ntmps27
  go_wp2_with fail
  generalize World.alloc (World.alloc w _) _ = W1 at *
  go_loopw [6, 7] (fun n i wr => ∃ (k D : Nat) (v' : Value) (l' : List Wd), n = .int .i64 (drpN p T c k : Int) ∧ i = .int .i64 (k : Int) ∧ k ≤ p.n ∧ CX w wr p v' D l' ∧ Tie p l' (drpT p T c k) ∧ B ≤ D) (fun _ i _ => p.n - (intOf i).toNat)
  case atStart => exact ⟨0, B, _, l, rfl, rfl, Nat.zero_le _, P1, ht0, Nat.le_refl _⟩
  case round =>
    clear P1 ht0
    obtain ⟨k, D, v', l', rfl, rfl, hk, PP, ht, hD⟩ := hrel
    obtain ⟨ao', cap', rfl⟩ := own_shape PP.ws
    have t0 := cell_row 0 PP.row rfl
    have t1 := cell_row 1 PP.row rfl
    have t2 := cell_row 2 PP.row rfl
    by_cases hkn : k < p.n
    · have hkn' : (k : Int) < (p.n : Int) := by omega
      have hx : getW l' k = T k := (ht.tells k hkn).trans (ctx_step c k)
      have CO := Lib.hid (oown_any hp l' D _ k hkn (T k) hx (hU k hkn) wr PP.ws)
      have hlen := tie_len ht
      have hg := tie_gone ht hkn
      have hO := Lib.hid (ow_own p T k)
      have hOE := Lib.hid (fun h => ow_hit (p := p) (T := T) (i := k) h)
      have hGon := Lib.hid (show gonB p T c k = (ownB p T k && ((ownE p T k).ctx == c && !(ownE p T k).att.global)) from rfl)
      have hHit := Lib.hid (fun h => drpT_hit (p := p) (T := T) (c := c) (k := k) h)
      have hMiss := Lib.hid (fun h => drpT_miss (p := p) (T := T) (c := c) (k := k) h)
      have hNum := Lib.hid (show drpN p T c (k + 1) = if gonB p T c k then drpN p T c k + 1 else drpN p T c k from rfl)
      have hnk := drpN_le p T c k
      go_wp2_with fail
      refine CO.out.mono ?_; rintro r w2 ⟨rfl, hb2⟩
      have P2 := PP.low hb2
      clear PP CO hb2 t0 t1 t2 hx
      generalize owE p (T k) k = E at *
      generalize ownE p T k = OE at *
      generalize drpT p T c k = TK at *
      generalize drpN p T c k = NK at *
      generalize gonB p T c k = GB at *
      rw [hO.out] at hGon hOE
      generalize owB p (T k) k = OB at *
      have P3 := P2.alloc (.cells #[.int .i64 E.size, .int .i64 E.ctx, .int .u64 E.va, .int .u64 E.pa, .bool E.att.write, .bool E.att.priv, .bool E.att.exec, .bool E.att.lock, .bool E.att.global, .bool E.att.quiet, .bool E.valid] 35)
      obtain ⟨d0, d1, d2, d3, d4, d5, d6, d7, d8, d9, d10⟩ := (RowE.new w2 E).cells
      clear P2 hO
      cases OB
      · have hG := Lib.hid (show GB = false by rw [hGon.out]; rfl)
        have hTN := Lib.hid (hMiss.out (by rw [hG.out]; decide))
        have hNN := Lib.hid (show drpN p T c (k + 1) = NK by rw [hNum.out, hG.out]; rfl)
        clear hGon hOE hHit hMiss hNum
        go_wp2_with fail
        go_roundw
        case rel => exact ⟨k + 1, D, _, l', by rw [hNN.out], by go_num, by omega, P3, by rw [hTN.out]; exact ht, hD⟩
        case measure => simp [intOf]; omega
      · have hEE := hOE.out rfl
        subst hEE
        cases hgl : E.att.global
        · rw [hgl] at d8 P3 d0 d1 d2 d3 d4 d5 d6 d7 d9 d10
          by_cases hc : E.ctx = c
          · have hG := Lib.hid (show GB = true by rw [hGon.out, hgl, hc]; simp)
            have hTN := Lib.hid (hHit.out hG.out)
            have hNN := Lib.hid (show drpN p T c (k + 1) = NK + 1 by rw [hNum.out, hG.out]; rfl)
            have CQ := Lib.hid (fun W (hW : CX w W p (.slice ao' l'.length cap') D l') => cput hW (by omega) ⟨k, 9223372036854775807, 0⟩)
            clear hGon hOE hHit hMiss hNum
            subst hc
            go_wp2_with fail
            generalize World.alloc w2 _ = w3 at *
            have t0 := cell_row 0 P3.row rfl
            have t1 := cell_row 1 P3.row rfl
            have t2 := cell_row 2 P3.row rfl
            go_cut [7] (fun a wx => a = .int .i64 (k : Int) ∧ ∃ (D' : Nat) (v2 : Value), CX w wx p v2 D' (putW l' ⟨k, 9223372036854775807, 0⟩) ∧ D ≤ D')
            case first =>
              go_region_with (first | (go_at_call 37; (with_reducible refine (CB.out _).mono ?_); rintro r w' ⟨rfl, rfl⟩) | (go_at_call 56; (refine (CQ.out _ (by (repeat (first | (with_reducible assumption) | (with_reducible refine CX.drew ?_) | (with_reducible refine CX.drewN ?_ _) | (with_reducible refine CX.alloc ?_ _) | (with_reducible refine CX.low ?_ (by assumption)))) )).mono ?_); rintro r w' ⟨v2, E2, rfl, PQ, hE2, hE3, hws⟩; obtain ⟨ao2, cap2, rfl⟩ := own_shape hws; have r0 := cell_row 0 PQ.row rfl; have r1 := cell_row 1 PQ.row rfl; have r2 := cell_row 2 PQ.row rfl; have f9 : ∀ i, World.frozen? w' ⟨w.heap.size, i, none⟩ = false := (fun i => by simp only [World.frozen?, PQ.row]; rfl); have PZ := PQ.put hws hE3))
              all_goals
                go_wp2_with fail
                go_meet
                exact ⟨rfl, _, _, PZ, hE2⟩
            case rest =>
              obtain ⟨rfl, D', v2, P4, hD'⟩ := hcut
              clear P3 CQ t0 t1 t2 d0 d1 d2 d3 d4 d5 d6 d7 d8 d9 d10
              have t1 := cell_row 1 P4.row rfl
              go_wp2_with fail
              go_roundw
              case rel => exact ⟨k + 1, D', _, _, by rw [hNN.out]; go_num, by go_num, by omega, P4, by rw [hTN.out]; exact hg, by omega⟩
              case measure => simp [intOf]; omega
          · have hG := Lib.hid (show GB = false by rw [hGon.out]; simp [hc])
            have hTN := Lib.hid (hMiss.out (by rw [hG.out]; decide))
            have hNN := Lib.hid (show drpN p T c (k + 1) = NK by rw [hNum.out, hG.out]; rfl)
            clear hGon hOE hHit hMiss hNum
            go_wp2_with fail
            go_roundw
            case rel => exact ⟨k + 1, D, _, l', by rw [hNN.out], by go_num, by omega, P3, by rw [hTN.out]; exact ht, hD⟩
            case measure => simp [intOf]; omega
        · rw [hgl] at d8 P3 d0 d1 d2 d3 d4 d5 d6 d7 d9 d10
          have hG := Lib.hid (show GB = false by rw [hGon.out, hgl]; simp)
          have hTN := Lib.hid (hMiss.out (by rw [hG.out]; decide))
          have hNN := Lib.hid (show drpN p T c (k + 1) = NK by rw [hNum.out, hG.out]; rfl)
          clear hGon hOE hHit hMiss hNum
          go_wp2_with fail
          go_roundw
          case rel => exact ⟨k + 1, D, _, l', by rw [hNN.out], by go_num, by omega, P3, by rw [hTN.out]; exact ht, hD⟩
          case measure => simp [intOf]; omega
    · obtain rfl : k = p.n := by omega
      have q9 := PP.res
      have r0 := cell_row 0 q9 rfl
      have r1 := cell_row 1 q9 rfl
      have r2 := cell_row 2 q9 rfl
      have f9 : ∀ i, World.frozen? wr ⟨w.heap.size + 1, i, none⟩ = false := fun i => by simp only [World.frozen?, q9]; rfl
      obtain ⟨z1, z2, z3⟩ := tfin (p := p) (Nat.le_succ _) PP.bel q9 PP.ws
      go_wp2_with fail
      (try simp only [Exit.inBlock, Exit.then])
      refine bodyPost_ret (res_Tt rfl _ _ _ _ _ _ rfl z1) rfl ⟨_, _, rfl, ws_base z2 hD, ht, z3⟩
end Go.Proofs.YtgdagfhdimoklaaGreat.Ts
/-
  Two TSBs in one world, and the program's Into. Conditions: numbers are what Go's types hold.
-/
namespace Go.Proofs.YtgdagfhdimoklaaGreat.Ts
open Fld
open Pt (idxI idx_bd)
open Tl (ListAt DocAt nthE list_nil)
open Go.ChangeShapes Go.WideShapes Go.ChangeAt Go.RowKit Go.Shelf
set_option maxRecDepth 100000
set_option maxHeartbeats 4000000
theorem TsbAt.two {w : World} {st sb bm st2 sb2 bm2 : Nat} {p q : Par} {T U : Nat → Pl} (h : TsbAt w st sb bm p T) (o : TsbAt w st2 sb2 bm2 q U) : st ≠ sb2 ∧ st ≠ bm2 ∧ sb ≠ bm2 := by
  obtain ⟨g, hm, _⟩ := h.mem
  obtain ⟨m, _, h1⟩ := hm.row
  obtain ⟨g', hm', _⟩ := o.mem
  obtain ⟨m', _, h1'⟩ := hm'.row
  obtain ⟨D', ⟨es', clock', h2', _⟩, _⟩ := hm'.words
  have h0 := h.row.row
  refine ⟨?_, ?_, ?_⟩
  · rintro rfl; rw [h0] at h1'; simp at h1'
  · rintro rfl; rw [h0] at h2'; simp at h2'
  · rintro rfl; rw [h1] at h2'; simp at h2'
/-- Another TSB beside. -/
structure OT (W w : World) (sb bm st2 sb2 bm2 : Nat) (q : Par) (U : Nat → Pl) : Prop where
  f2 : W.heap.size ≤ sb2
  f3 : W.heap.size ≤ bm2
  tsb : TsbAt w st2 sb2 bm2 q U
  n1 : sb ≠ sb2
  n2 : bm ≠ bm2
theorem OT.low {W w w' : World} {sb bm st2 sb2 bm2 : Nat} {q : Par} {U : Nat → Pl} (h : OT W w sb bm st2 sb2 bm2 q U) (hb : Below w.heap.size w w') : OT W w' sb bm st2 sb2 bm2 q U := ⟨h.f2, h.f3, h.tsb.low hb, h.n1, h.n2⟩
theorem OT.drewN {W w : World} {sb bm st2 sb2 bm2 : Nat} {q : Par} {U : Nat → Pl} (h : OT W w sb bm st2 sb2 bm2 q U) (n : Nat) : OT W (w.drewN n) sb bm st2 sb2 bm2 q U := h.low (drewN_low w n)
theorem OT.alloc {W w : World} {sb bm st2 sb2 bm2 : Nat} {q : Par} {U : Nat → Pl} (h : OT W w sb bm st2 sb2 bm2 q U) (o : Obj) : OT W (w.alloc o) sb bm st2 sb2 bm2 q U := h.low ((Below.refl _ _).alloc (Nat.le_refl _) _)
theorem OT.put {W w : World} {sb bm st2 sb2 bm2 b : Nat} {q : Par} {U : Nat → Pl} {c : Array Value} {t : TypeId} (h : OT W w sb bm st2 sb2 bm2 q U) (hb : w.heap[b]? = some (.cells c t (0, 0))) (ht : okT t) (o : Nat) (u : Value) : OT W (w.setCell ⟨b, o, none⟩ u) sb bm st2 sb2 bm2 q U := by
  obtain ⟨n1, n2, n3⟩ := h.tsb.ne_row hb ht
  exact ⟨h.f2, h.f3, h.tsb.same (Below.heap_setCell _ _ _ _ (Ne.symm n1)) (Below.heap_setCell _ _ _ _ (Ne.symm n2)) (Below.heap_setCell _ _ _ _ (Ne.symm n3)), h.n1, h.n2⟩
theorem OT.put3 {W w : World} {sb bm st2 sb2 bm2 b : Nat} {q : Par} {U : Nat → Pl} {x y u x' y' u' : Value} (h : OT W w sb bm st2 sb2 bm2 q U) (hb : w.heap[b]? = some (.cells #[x, y, u] 26 (0, 0))) : OT W (((w.setCell ⟨b, 0, none⟩ x').setCell ⟨b, 1, none⟩ y').setCell ⟨b, 2, none⟩ u') sb bm st2 sb2 bm2 q U := by
  have r1 := Mem.heap_set hb (o := 0) x'
  have r2 := Mem.heap_set r1 (o := 1) y'
  exact ((h.put hb ⟨by decide, by decide⟩ _ _).put r1 ⟨by decide, by decide⟩ _ _).put r2 ⟨by decide, by decide⟩ _ _
theorem OT.setNew {W X wr : World} {sb bm st2 sb2 bm2 : Nat} {q : Par} {U : Nat → Pl} {x0 x1 x2 x3 x4 x5 x6 x7 x8 x9 x10 : Value} (hX : OT W X sb bm st2 sb2 bm2 q U) (h : OT W wr sb bm st2 sb2 bm2 q U) :
    OT W (((((((((((wr.setCell ⟨X.heap.size, 0, none⟩ x0).setCell ⟨X.heap.size, 1, none⟩ x1).setCell ⟨X.heap.size, 2, none⟩ x2).setCell ⟨X.heap.size, 3, none⟩ x3).setCell ⟨X.heap.size, 4, none⟩ x4).setCell ⟨X.heap.size, 5, none⟩ x5).setCell ⟨X.heap.size, 6, none⟩ x6).setCell ⟨X.heap.size, 7, none⟩ x7).setCell ⟨X.heap.size, 8, none⟩ x8).setCell ⟨X.heap.size, 9, none⟩ x9).setCell ⟨X.heap.size, 10, none⟩ x10) sb bm st2 sb2 bm2 q U := by
  have h1 := hX.tsb.lt
  exact ⟨h.f2, h.f3, h.tsb.same (row_far (by omega)) (row_far (by omega)) (row_far (by omega)), h.n1, h.n2⟩
theorem PL.to_at {W wr w' : World} {st sb bm b' C : Nat} {p : Par} {T U : Nat → Pl} {L : List Bx} {v : Value} {l : List Ent} (h : PL W wr st sb bm p T L C v l) (k1 : TsbAt w' st sb b' p U) (k2 : b' = bm ∨ wr.heap.size ≤ b') (k3 : Mem.Turn wr w' sb bm) : PL W w' st sb b' p U L C v l := by
  have hs := h.bel.size
  have a := h.f2
  have b := h.f3
  refine ⟨h.f1, h.f2, by omega, ⟨k3.os.trans h.bel.os, k3.tape.trans h.bel.tape, k3.output.trans h.bel.output, Nat.le_trans hs k3.size, fun i hi => ?_⟩, k1, h.rows.to h.tsb k3, list_same h.own fun g cur _ hg => ?_, h.base⟩
  · rw [k3.block i (by omega) (by omega) (by omega)]; exact h.bel.block i hi
  · obtain ⟨_, n2, n3⟩ := h.tsb.ne_row hg ⟨by decide, by decide⟩
    exact k3.block g (Array.getElem?_eq_some_iff.1 hg).1 n2 n3
/-- The one TSB turns, the other stays. -/
theorem two_to {W wr w' : World} {st sb bm st2 sb2 bm2 C : Nat} {p q : Par} {T T' U : Nat → Pl} {L : List Bx} {v : Value} {l : List Ent} (P : PL W wr st sb bm p T L C v l) (O : OT W wr sb bm st2 sb2 bm2 q U) (k : TsbTo wr w' st sb bm p T') : ∃ b', PL W w' st sb b' p T' L C v l ∧ OT W w' sb b' st2 sb2 bm2 q U := by
  obtain ⟨b', k1, k2, k3⟩ := k
  obtain ⟨t1, t2, t3⟩ := O.tsb.two P.tsb
  obtain ⟨_, _, s3⟩ := P.tsb.two O.tsb
  obtain ⟨l1, l2, l3, _⟩ := O.tsb.lt
  have hn2 := O.n2
  refine ⟨b', P.to_at k1 k2 k3, O.f2, O.f3, O.tsb.same (k3.block _ l1 t1 t2) (k3.block _ l2 (Ne.symm O.n1) t3) (k3.block _ l3 (Ne.symm s3) (Ne.symm O.n2)), O.n1, ?_⟩
  rcases k2 with rfl | k2 <;> omega
/-- The other TSB turns, the one stays. -/
theorem two_ot {W wr w' : World} {st sb bm st2 sb2 bm2 C : Nat} {p q : Par} {T U U' : Nat → Pl} {L : List Bx} {v : Value} {l : List Ent} (P : PL W wr st sb bm p T L C v l) (O : OT W wr sb bm st2 sb2 bm2 q U) (k : TsbTo wr w' st2 sb2 bm2 q U') : ∃ b', PL W w' st sb bm p T L C v l ∧ OT W w' sb bm st2 sb2 b' q U' := by
  obtain ⟨b', k1, k2, k3⟩ := k
  obtain ⟨t1, t2, t3⟩ := P.tsb.two O.tsb
  obtain ⟨_, _, s3⟩ := O.tsb.two P.tsb
  obtain ⟨l1, l2, l3, _⟩ := P.tsb.lt
  have hs := P.bel.size
  have hf2 := O.f2
  have hf3 := O.f3
  have hn2 := O.n2
  refine ⟨b', ⟨P.f1, P.f2, P.f3, ⟨k3.os.trans P.bel.os, k3.tape.trans P.bel.tape, k3.output.trans P.bel.output, Nat.le_trans hs k3.size, fun i hi => ?_⟩, P.tsb.same (k3.block _ l1 t1 t2) (k3.block _ l2 O.n1 t3) (k3.block _ l3 (Ne.symm s3) O.n2), P.rows.to O.tsb k3, list_same P.own fun g cur _ hg => ?_, P.base⟩, O.f2, ?_, k1, O.n1, ?_⟩
  · rw [k3.block i (by omega) (by omega) (by omega)]; exact P.bel.block i hi
  · obtain ⟨_, n2, n3⟩ := O.tsb.ne_row hg ⟨by decide, by decide⟩
    exact k3.block g (Array.getElem?_eq_some_iff.1 hg).1 n2 n3
  · rcases k2 with rfl | k2 <;> omega
  · rcases k2 with rfl | k2 <;> omega
theorem PL.nil {W wr : World} {st sb bm C : Nat} {p : Par} {T : Nat → Pl} {L : List Bx} {v : Value} {l : List Ent} (h : PL W wr st sb bm p T L C v l) : PL W wr st sb bm p T L C (.slice none 0 0) [] := ⟨h.f1, h.f2, h.f3, h.bel, h.tsb, h.rows, list_nil _ _, h.base⟩
theorem PL.base_at {W wr : World} {st sb bm C D : Nat} {p : Par} {T : Nat → Pl} {L : List Bx} (h : PL W wr st sb bm p T L C (.slice none 0 0) []) (hD : W.heap.size ≤ D) : PL W wr st sb bm p T L D (.slice none 0 0) [] := ⟨h.f1, h.f2, h.f3, h.bel, h.tsb, h.rows, list_nil _ _, hD⟩
/-! ### What a law with two TSBs carries -/
structure DO (w W wr : World) (st sb bm : Nat) (p : Par) (T : Nat → Pl) (L : List Bx) (C : Nat) (v : Value) (l : List Ent) (ib o : Nat) (x : Ent) (D : Nat) (rv : Value) (ws : List Wd) (st2 sb2 bm2 : Nat) (q : Par) (U : Nat → Pl) : Prop where
  di : DI w W wr st sb bm p T L C v l ib o x D rv ws
  ot : OT W wr sb bm st2 sb2 bm2 q U
theorem DO.low {w W wr w' : World} {st sb bm C ib o D st2 sb2 bm2 : Nat} {p q : Par} {T U : Nat → Pl} {L : List Bx} {v rv : Value} {l : List Ent} {x : Ent} {ws : List Wd} (h : DO w W wr st sb bm p T L C v l ib o x D rv ws st2 sb2 bm2 q U) (hb : Below wr.heap.size wr w') : DO w W w' st sb bm p T L C v l ib o x D rv ws st2 sb2 bm2 q U := ⟨h.di.low hb, h.ot.low hb⟩
theorem DO.drewN {w W wr : World} {st sb bm C ib o D st2 sb2 bm2 : Nat} {p q : Par} {T U : Nat → Pl} {L : List Bx} {v rv : Value} {l : List Ent} {x : Ent} {ws : List Wd} (h : DO w W wr st sb bm p T L C v l ib o x D rv ws st2 sb2 bm2 q U) (n : Nat) : DO w W (wr.drewN n) st sb bm p T L C v l ib o x D rv ws st2 sb2 bm2 q U := h.low (drewN_low wr n)
theorem DO.drew {w W wr : World} {st sb bm C ib o D st2 sb2 bm2 : Nat} {p q : Par} {T U : Nat → Pl} {L : List Bx} {v rv : Value} {l : List Ent} {x : Ent} {ws : List Wd} (h : DO w W wr st sb bm p T L C v l ib o x D rv ws st2 sb2 bm2 q U) : DO w W wr.drew st sb bm p T L C v l ib o x D rv ws st2 sb2 bm2 q U := h.drewN 1
theorem DO.alloc {w W wr : World} {st sb bm C ib o D st2 sb2 bm2 : Nat} {p q : Par} {T U : Nat → Pl} {L : List Bx} {v rv : Value} {l : List Ent} {x : Ent} {ws : List Wd} (h : DO w W wr st sb bm p T L C v l ib o x D rv ws st2 sb2 bm2 q U) (ob : Obj) : DO w W (wr.alloc ob) st sb bm p T L C v l ib o x D rv ws st2 sb2 bm2 q U := h.low ((Below.refl _ _).alloc (Nat.le_refl _) _)
theorem DO.setNew {w W X wr : World} {st sb bm C ib o D st2 sb2 bm2 : Nat} {p q : Par} {T U : Nat → Pl} {L : List Bx} {v rv : Value} {l : List Ent} {x : Ent} {ws : List Wd} {x0 x1 x2 x3 x4 x5 x6 x7 x8 x9 x10 : Value} (hX : DO w W X st sb bm p T L C v l ib o x D rv ws st2 sb2 bm2 q U) (h : DO w W wr st sb bm p T L C v l ib o x D rv ws st2 sb2 bm2 q U) :
    DO w W (((((((((((wr.setCell ⟨X.heap.size, 0, none⟩ x0).setCell ⟨X.heap.size, 1, none⟩ x1).setCell ⟨X.heap.size, 2, none⟩ x2).setCell ⟨X.heap.size, 3, none⟩ x3).setCell ⟨X.heap.size, 4, none⟩ x4).setCell ⟨X.heap.size, 5, none⟩ x5).setCell ⟨X.heap.size, 6, none⟩ x6).setCell ⟨X.heap.size, 7, none⟩ x7).setCell ⟨X.heap.size, 8, none⟩ x8).setCell ⟨X.heap.size, 9, none⟩ x9).setCell ⟨X.heap.size, 10, none⟩ x10) st sb bm p T L C v l ib o x D rv ws st2 sb2 bm2 q U :=
  ⟨DI.setNew hX.di h.di, OT.setNew hX.ot h.ot⟩
theorem DO.sc {w W wr : World} {st sb bm C ib o tb D st2 sb2 bm2 : Nat} {p q : Par} {T U : Nat → Pl} {M : List Bx} {v u n rv : Value} {s : Int} {l : List Ent} {x : Ent} {ws : List Wd} (h : DO w W wr st sb bm p T ((tb, #[.int .i64 s, n, u], 26) :: M) C v l ib o x D rv ws st2 sb2 bm2 q U) : (wr.cell? ⟨ib, o, none⟩ = some (.int .i64 x.size) ∧ wr.cell? ⟨ib, o + 1, none⟩ = some (.int .i64 x.ctx) ∧ wr.cell? ⟨ib, o + 2, none⟩ = some (.int .u64 x.va) ∧ wr.cell? ⟨ib, o + 3, none⟩ = some (.int .u64 x.pa) ∧ wr.cell? ⟨ib, o + 4, none⟩ = some (.bool x.att.write) ∧ wr.cell? ⟨ib, o + 5, none⟩ = some (.bool x.att.priv) ∧ wr.cell? ⟨ib, o + 6, none⟩ = some (.bool x.att.exec) ∧ wr.cell? ⟨ib, o + 7, none⟩ = some (.bool x.att.lock) ∧ wr.cell? ⟨ib, o + 8, none⟩ = some (.bool x.att.global) ∧ wr.cell? ⟨ib, o + 9, none⟩ = some (.bool x.att.quiet) ∧ wr.cell? ⟨ib, o + 10, none⟩ = some (.bool x.valid)) ∧ wr.cell? ⟨tb, 0, none⟩ = some (.int .i64 s) := ⟨h.di.pi.inp, cell_row 0 (h.di.pi.pl.rows _ (List.mem_cons_self ..)).1 rfl⟩
theorem tinsert {W w : World} {st sb bm C D st2 sb2 bm2 : Nat} {p q : Par} {T U : Nat → Pl} {L : List Bx} {v rv : Value} {l : List Ent} {ws : List Wd} (h : PL W w st sb bm p T L C v l) (hw : WsAt w D rv ws) (O : OT W w sb bm st2 sb2 bm2 q U) (e : Ent) (u : EntU e) :
    Calls Tryz.prog 15 #[.pointer (some ⟨st, 0, none⟩), .agg #[.int .i64 e.size, .int .i64 e.ctx, .int .u64 e.va, .int .u64 e.pa, .bool e.att.write, .bool e.att.priv, .bool e.att.exec, .bool e.att.lock, .bool e.att.global, .bool e.att.quiet, .bool e.valid]] w fun r w' => r = .returned (.int .i64 (errP p e)) ∧ (∃ b', PL W w' st sb b' p (insT p T e) L C v l ∧ OT W w' sb b' st2 sb2 bm2 q U) ∧ WsAt w' D rv ws ∧ ∀ eb x, RowE w eb x → RowE w' eb x :=
  (insert_any e u w h.tsb).mono fun _ _ ⟨x, y⟩ => ⟨x, two_to h O y, ws_turn hw h.tsb y, fun _ _ hr => h.kept y hr⟩
theorem tdocins {W w : World} {st sb bm C D st2 sb2 bm2 : Nat} {p q : Par} {T U : Nat → Pl} {L : List Bx} {v rv : Value} {l : List Ent} {ws : List Wd} (h : PL W w st sb bm p T L C v l) (hw : WsAt w D rv ws) (O : OT W w sb bm st2 sb2 bm2 q U) (hD : D ≤ W.heap.size) (e : Ent) (he : e.Fit) (u : EntU e) (hl : ws.length ≤ 99990) {s n : Int} (hs : p.s = s) (hn : (p.n : Int) = n) :
    Calls Tryz.prog 16 #[.agg #[.int .i64 s, .int .i64 n, rv], .agg #[.int .i64 e.size, .int .i64 e.ctx, .int .u64 e.va, .int .u64 e.pa, .bool e.att.write, .bool e.att.priv, .bool e.att.exec, .bool e.att.lock, .bool e.att.global, .bool e.att.quiet, .bool e.valid]] w fun r w' => ∃ v', r = .returned (.agg #[.int .i64 s, .int .i64 n, v']) ∧ WsAt w' D v' (insW p ws e) ∧ PL W w' st sb bm p T L C v l ∧ OT W w' sb bm st2 sb2 bm2 q U := by
  subst hs hn
  have hz := h.bel.size
  refine (rinsert_any h.tsb.ok ws D rv e he u hl w hw (by omega)).mono ?_
  rintro r w' ⟨v', rfl, a, b⟩
  exact ⟨v', rfl, ws_base a (by omega), h.low b, O.low b⟩
end Go.Proofs.YtgdagfhdimoklaaGreat.Ts
/-
  The program's Into of package tsb. Conditions: numbers are what Go's types hold.
-/
namespace Go.Proofs.YtgdagfhdimoklaaGreat.Ts
open Fld
open Pt (idxI idx_bd)
open Tl (ListAt DocAt nthE list_nil)
open Go.ChangeShapes Go.WideShapes Go.ChangeAt Go.RowKit Go.Shelf
set_option maxRecDepth 100000
set_option maxHeartbeats 4000000
theorem take_nth {l : List Ent} {k : Nat} (h : k < l.length) : l.take (k + 1) = l.take k ++ [nthE l k] := by
  rw [List.take_succ_eq_append_getElem h]
  have : nthE l k = l[k] := by simp [nthE, h]
  rw [this]
theorem pinto2 {W w : World} {st sb bm st2 sb2 bm2 C : Nat} {p q : Par} {T : Nat → Pl} {L : List Bx} (P : PL W w st sb bm p T L C (.slice none 0 0) []) (O : OT W w sb bm st2 sb2 bm2 q (fun _ => Pl.none)) (hG : Gd p T) (hs : p.s = q.s) :
    Calls Tryz.prog 18 #[.pointer (some ⟨st, 0, none⟩), .pointer (some ⟨st2, 0, none⟩)] w fun e w' => e = .returned (.int .i64 ((lstP p T p.n).length : Int)) ∧ ∃ b', PL W w' st sb bm p T L C (.slice none 0 0) [] ∧ OT W w' sb bm st2 sb2 b' q (insAll q (lstP p T p.n)) ∧ ∀ D rv ws, WsAt w D rv ws → WsAt w' D rv ws := by
  have CL := Lib.hid (tlist_any w P.tsb)
  have hPok := P.tsb.ok
  have hQok := O.tsb.ok
  have hle := lst_le p T p.n
  have hnb := hPok.n_bd
  have hF := Lib.hid (fun e (he : e ∈ lstP p T p.n) => lst_fine hPok hG e he)
  have hC := P.base
  have hZ := P.bel.size
  generalize lstP p T p.n = es at *
  obtain ⟨m, hm⟩ : ∃ m, es.length = m := ⟨_, rfl⟩
  have HM := Lib.hid hm
  rw [hm] at hle ⊢
  have hnil : (fun _ => Pl.none) = insAll q (es.take 0) := rfl
  have hall := Lib.hid (show insAll q (es.take m) = insAll q es by rw [← hm, List.take_length])
  clear hm
  go_enter Tryz.func18, Tryz.ntmps18
  go_wp2_with fail
  refine CL.out.mono ?_; rintro e w6 ⟨v6, rfl, hl6, hb6⟩
  obtain ⟨ao, cap, rfl⟩ := own_shape hl6
  have P6 := P.low hb6
  have K6 : ∀ D rv ws, WsAt w D rv ws → WsAt w6 D rv ws := fun D rv ws h => ws_low h hb6
  have P7 : PL W w6 st sb bm p T L w.heap.size (.slice ao es.length cap) es := ⟨P6.f1, P6.f2, P6.f3, P6.bel, P6.tsb, P6.rows, hl6, hZ⟩
  have O7 := O.low hb6
  rw [hnil] at O7
  rw [HM.out]
  clear P P6 O CL hl6 hb6 hnil
  go_wp2_with fail
  go_loopw [5, 13] (fun n i wr => ∃ (k b2 : Nat), n = .int .i64 (k : Int) ∧ i = .int .i64 (k : Int) ∧ k ≤ m ∧ PL W wr st sb bm p T L w.heap.size (.slice ao es.length cap) es ∧ OT W wr sb bm st2 sb2 b2 q (insAll q (es.take k)) ∧ ∀ D rv ws, WsAt w D rv ws → WsAt wr D rv ws) (fun _ i _ => m - (intOf i).toNat)
  case atStart => exact ⟨0, bm2, rfl, rfl, Nat.zero_le _, P7, O7, K6⟩
  case round =>
    clear P7 O7 K6
    obtain ⟨k, b2, rfl, rfl, hk, PP, OO, KK⟩ := hrel
    by_cases hkm : k < m
    · have hkl : k < es.length := by rw [HM.out]; exact hkm
      have hkm' : (k : Int) < (m : Int) := by omega
      obtain ⟨g, cap', hv, hcc1, hcc2, _⟩ := PP.cells hkl rfl
      simp only [Value.slice.injEq, true_and] at hv
      obtain ⟨rfl, rfl⟩ := hv
      unfold maxLen at hcc2
      rw [HM.out] at hcc1
      obtain ⟨o, ho⟩ : ∃ o, k * 11 = o := ⟨_, rfl⟩
      have hAK : (⟨g, 0, none⟩ : Addr).add o = ⟨g, o, none⟩ := add_at g o
      obtain ⟨d0, d1, d2, d3, d4, d5, d6, d7, d8, d9, d10⟩ := PP.oc hkl ho
      obtain ⟨okE, szE⟩ := hF.out _ (nth_mem hkl)
      have hT := Lib.hid (take_nth hkl)
      rw [hs] at szE
      generalize nthE es k = E at *
      have uE := wf_u (ok_wf okE)
      have hE0 : errP q E = 0 := by unfold errP; rw [fine_may okE szE]; rfl
      have P3 := PP.alloc (.cells #[.int .i64 E.size, .int .i64 E.ctx, .int .u64 E.va, .int .u64 E.pa, .bool E.att.write, .bool E.att.priv, .bool E.att.exec, .bool E.att.lock, .bool E.att.global, .bool E.att.quiet, .bool E.valid] 35)
      have O3 := OO.alloc (.cells #[.int .i64 E.size, .int .i64 E.ctx, .int .u64 E.va, .int .u64 E.pa, .bool E.att.write, .bool E.att.priv, .bool E.att.exec, .bool E.att.lock, .bool E.att.global, .bool E.att.quiet, .bool E.valid] 35)
      have CI := Lib.hid (insert_any E uE _ O3.tsb)
      rw [hE0, ← insAll_snoc, ← hT.out] at CI
      obtain ⟨f0, f1, f2, f3, f4, f5, f6, f7, f8, f9, f10⟩ := (RowE.new wr E).cells
      clear PP OO hE0 szE
      go_wp2_with fail
      refine CI.out.mono ?_; rintro e w4 ⟨rfl, kt⟩
      obtain ⟨b4, P4, O4⟩ := two_ot P3 O3 kt
      have K4 := Lib.hid (show ∀ D rv ws, WsAt w D rv ws → WsAt w4 D rv ws from fun D rv ws h => ws_turn (ws_low (KK D rv ws h) ((Below.refl _ _).alloc (Nat.le_refl _) _)) O3.tsb kt)
      clear CI P3 O3 kt d0 d1 d2 d3 d4 d5 d6 d7 d8 d9 d10 f0 f1 f2 f3 f4 f5 f6 f7 f8 f9 f10
      go_wp2_with fail
      go_roundw
      case rel => exact ⟨k + 1, b4, by go_num, by go_num, by omega, P4, O4, K4.out⟩
      case measure => simp [intOf]; omega
    · obtain rfl : m = k := by omega
      rw [hall.out] at OO
      go_wp2_with fail
      go_ret
      exact ⟨rfl, b2, PP.nil.base_at hC, OO, KK⟩
end Go.Proofs.YtgdagfhdimoklaaGreat.Ts
/-
  Contract of Into of the document's package for layer 10. Conditions: lists that are there, whose places hold entries or nothing; numbers are what Go's types hold.
-/
namespace Go.Proofs.YtgdagfhdimoklaaGreat.Ts
open Fld
open Pt (idxI idx_bd)
open Tl (ListAt DocAt nthE doc_at doc_below list_nil)
open Go.ChangeShapes Go.WideShapes Go.ChangeAt Go.RowKit Go.Shelf
set_option maxRecDepth 100000
set_option maxHeartbeats 4000000
theorem list_put {w : World} {C b : Nat} {v : Value} {l : List Ent} {c : Array Value} {t : TypeId} (h : ListAt w C v l) (hb : w.heap[b]? = some (.cells c t (0, 0))) (ht : t ≠ 35) (o : Nat) (u : Value) : ListAt (w.setCell ⟨b, o, none⟩ u) C v l :=
  list_same h fun g cur _ hg => Below.heap_setCell _ _ _ _ (by
    show g ≠ b
    rintro rfl
    rw [hb] at hg
    simp only [Option.some.injEq, Obj.cells.injEq] at hg
    exact ht hg.2.1)
theorem gd_U {p : Par} {T : Nat → Pl} (h : Gd p T) (i : Nat) : (T i).U := by
  rcases h i with a | ⟨e, e1, _, _, e4⟩
  · rw [a]; exact Pl.none_U
  · rw [e4]; exact ent_pl_U e1.fit
/-- The boxes of Into: the list that turns, the one that is answered, and the entries. -/
structure IX (w wr : World) (q : Par) (v : Value) (D : Nat) (l : List Wd) (lv : Value) (es : List Ent) : Prop where
  bel : Below w.heap.size w wr
  row : wr.heap[w.heap.size + 1]? = some (.cells #[.int .i64 q.s, .int .i64 (q.n : Int), v] 26 (0, 0))
  res : wr.heap[w.heap.size + 1 + 1]? = some (.cells #[.int .i64 0, .int .i64 0, .slice none 0 0] 26 (0, 0))
  le : D ≤ wr.heap.size
  ws : WsAt wr D v l
  own : ListAt wr (w.heap.size + 1 + 1 + 1) lv es
theorem IX.low {w wr w' : World} {q : Par} {v lv : Value} {D : Nat} {l : List Wd} {es : List Ent} (h : IX w wr q v D l lv es) (hb : Below wr.heap.size wr w') : IX w w' q v D l lv es :=
  ⟨h.bel.trans (hb.mono h.bel.size), (hb.block _ (Array.getElem?_eq_some_iff.1 h.row).1).trans h.row, (hb.block _ (Array.getElem?_eq_some_iff.1 h.res).1).trans h.res, Nat.le_trans h.le hb.size, ws_low h.ws hb, doc_below h.own hb⟩
theorem IX.drewN {w wr : World} {q : Par} {v lv : Value} {D : Nat} {l : List Wd} {es : List Ent} (h : IX w wr q v D l lv es) (n : Nat) : IX w (wr.drewN n) q v D l lv es := h.low (drewN_low wr n)
theorem IX.drew {w wr : World} {q : Par} {v lv : Value} {D : Nat} {l : List Wd} {es : List Ent} (h : IX w wr q v D l lv es) : IX w wr.drew q v D l lv es := h.drewN 1
theorem IX.alloc {w wr : World} {q : Par} {v lv : Value} {D : Nat} {l : List Wd} {es : List Ent} (h : IX w wr q v D l lv es) (o : Obj) : IX w (wr.alloc o) q v D l lv es := h.low ((Below.refl _ _).alloc (Nat.le_refl _) _)
theorem IX.put {w wr : World} {q : Par} {v u lv : Value} {D E : Nat} {l m : List Wd} {es : List Ent} (h : IX w wr q v D l lv es) (hw : WsAt wr E u m) (hE : E ≤ wr.heap.size) :
    IX w (((wr.setCell ⟨w.heap.size + 1, 0, none⟩ (.int .i64 q.s)).setCell ⟨w.heap.size + 1, 1, none⟩ (.int .i64 (q.n : Int))).setCell ⟨w.heap.size + 1, 2, none⟩ u) q u E m lv es := by
  obtain ⟨a, b, c⟩ := tfin (p := q) (Nat.le_succ _) h.bel h.row hw
  have q1 := Mem.heap_set h.row (o := 0) (.int .i64 q.s)
  have q2 := Mem.heap_set q1 (o := 1) (.int .i64 (q.n : Int))
  exact ⟨c, a, (three_far (by omega)).trans h.res, by simp; exact hE, b, list_put (list_put (list_put h.own h.row (by decide) _ _) q1 (by decide) _ _) q2 (by decide) _ _⟩
theorem IX.sc {w wr : World} {q : Par} {v : Value} {D g n cap : Nat} {l : List Wd} {es : List Ent} (h : IX w wr q v D l (.slice (some ⟨g, 0, none⟩) n cap) es) {i o : Nat} (hi : i < es.length) (ho : i * 11 = o) :
    wr.cell? ⟨w.heap.size + 1, 0, none⟩ = some (.int .i64 q.s) ∧ wr.cell? ⟨w.heap.size + 1, 1, none⟩ = some (.int .i64 (q.n : Int)) ∧ wr.cell? ⟨w.heap.size + 1, 2, none⟩ = some v ∧ wr.cell? ⟨g, o, none⟩ = some (.int .i64 (nthE es i).size) ∧ wr.cell? ⟨g, o + 1, none⟩ = some (.int .i64 (nthE es i).ctx) ∧ wr.cell? ⟨g, o + 2, none⟩ = some (.int .u64 (nthE es i).va) ∧ wr.cell? ⟨g, o + 3, none⟩ = some (.int .u64 (nthE es i).pa) ∧ wr.cell? ⟨g, o + 4, none⟩ = some (.bool (nthE es i).att.write) ∧ wr.cell? ⟨g, o + 5, none⟩ = some (.bool (nthE es i).att.priv) ∧ wr.cell? ⟨g, o + 6, none⟩ = some (.bool (nthE es i).att.exec) ∧ wr.cell? ⟨g, o + 7, none⟩ = some (.bool (nthE es i).att.lock) ∧ wr.cell? ⟨g, o + 8, none⟩ = some (.bool (nthE es i).att.global) ∧ wr.cell? ⟨g, o + 9, none⟩ = some (.bool (nthE es i).att.quiet) ∧ wr.cell? ⟨g, o + 10, none⟩ = some (.bool (nthE es i).valid) := by
  obtain ⟨g', cap', hv, _, _, _, _, c, _⟩ := doc_at h.own (by omega)
  simp only [Value.slice.injEq, Option.some.injEq, Addr.mk.injEq, and_true] at hv
  obtain ⟨rfl, _⟩ := hv
  exact ⟨cell_row 0 h.row rfl, cell_row 1 h.row rfl, cell_row 2 h.row rfl, c i o hi ho⟩
theorem iput {w W : World} {q : Par} (hq : q.Ok) {D : Nat} {v lv : Value} {l : List Wd} {es : List Ent} (h : IX w W q v D l lv es) (e : Ent) (he : e.Fit) (u : EntU e) (hl : l.length ≤ 99990) :
    Calls Tryz.prog 16 #[.agg #[.int .i64 q.s, .int .i64 (q.n : Int), v], .agg #[.int .i64 e.size, .int .i64 e.ctx, .int .u64 e.va, .int .u64 e.pa, .bool e.att.write, .bool e.att.priv, .bool e.att.exec, .bool e.att.lock, .bool e.att.global, .bool e.att.quiet, .bool e.valid]] W fun r w' => ∃ v' E, r = .returned (.agg #[.int .i64 q.s, .int .i64 (q.n : Int), v']) ∧ IX w w' q v D l lv es ∧ D ≤ E ∧ E ≤ w'.heap.size ∧ WsAt w' E v' (insW q l e) := by
  refine (rinsert_any hq l D v e he u hl W h.ws h.le).mono ?_
  rintro r w' ⟨v', rfl, a, b⟩
  exact ⟨v', W.heap.size, rfl, h.low b, h.le, b.size, a⟩
theorem ointo_any {p q : Par} (hp : p.Ok) (hq : q.Ok) (hs : p.s = q.s) {l l2 : List Wd} {B B2 : Nat} {v v2 : Value} {T : Nat → Pl} (ht : Tie p l T) (hG : Gd p T) (ht2 : Tie q l2 (fun _ => Pl.none)) (w : World) (h : WsAt w B v l) (h2 : WsAt w B2 v2 l2) (hB2 : B2 ≤ w.heap.size) :
    Calls Tryz.prog 17 #[.agg #[.int .i64 p.s, .int .i64 (p.n : Int), v], .agg #[.int .i64 q.s, .int .i64 (q.n : Int), v2]] w fun e w' => ∃ v' l', e = .returned (.tuple #[.agg #[.int .i64 q.s, .int .i64 (q.n : Int), v'], .int .i64 ((lstP p T p.n).length : Int)]) ∧ WsAt w' B2 v' l' ∧ Tie q l' (insAll q (lstP p T p.n)) ∧ Below w.heap.size w w' := by
  have hnb := hp.n_bd
  have hnq := hq.n_bd
  have hle := lst_le p T p.n
  have z1 : Below w.heap.size w (((w.alloc (.cells #[.int .i64 p.s, .int .i64 (p.n : Int), v] 26)).alloc (.cells #[.int .i64 q.s, .int .i64 (q.n : Int), v2] 26)).alloc (.cells #[.int .i64 0, .int .i64 0, .slice none 0 0] 26)) := (((Below.refl _ _).alloc (Nat.le_refl _) _).alloc (by simp) _).alloc (by simp; omega) _
  have b0 : (((w.alloc (.cells #[.int .i64 p.s, .int .i64 (p.n : Int), v] 26)).alloc (.cells #[.int .i64 q.s, .int .i64 (q.n : Int), v2] 26)).alloc (.cells #[.int .i64 0, .int .i64 0, .slice none 0 0] 26)).heap[w.heap.size]? = some (.cells #[.int .i64 p.s, .int .i64 (p.n : Int), v] 26 (0, 0)) := alloc_old (alloc_old (World.alloc_heap_new _ _) _) _
  have b1 : (((w.alloc (.cells #[.int .i64 p.s, .int .i64 (p.n : Int), v] 26)).alloc (.cells #[.int .i64 q.s, .int .i64 (q.n : Int), v2] 26)).alloc (.cells #[.int .i64 0, .int .i64 0, .slice none 0 0] 26)).heap[w.heap.size + 1]? = some (.cells #[.int .i64 q.s, .int .i64 (q.n : Int), v2] 26 (0, 0)) := alloc_old (alloc_new2 _ _ _) _
  have b2 := alloc_new2 (w.alloc (.cells #[.int .i64 p.s, .int .i64 (p.n : Int), v] 26)) (.cells #[.int .i64 q.s, .int .i64 (q.n : Int), v2] 26) (.cells #[.int .i64 0, .int .i64 0, .slice none 0 0] 26)
  rw [World.size_alloc] at b2
  have s3 : (((w.alloc (.cells #[.int .i64 p.s, .int .i64 (p.n : Int), v] 26)).alloc (.cells #[.int .i64 q.s, .int .i64 (q.n : Int), v2] 26)).alloc (.cells #[.int .i64 0, .int .i64 0, .slice none 0 0] 26)).heap.size = w.heap.size + 1 + 1 + 1 := by simp
  have h1 := ws_low h z1
  have h3 := ws_low h2 z1
  have CL := Lib.hid (fun W (hW : WsAt W B v l) => olist_any hp ht (fun i _ => gd_U hG i) W hW)
  have hF := Lib.hid (fun e (he : e ∈ lstP p T p.n) => lst_fine hp hG e he)
  have HS := Lib.hid hs
  generalize lstP p T p.n = es at *
  obtain ⟨m, hm⟩ : ∃ m, es.length = m := ⟨_, rfl⟩
  have HM := Lib.hid hm
  rw [hm] at hle ⊢
  have ht0 : Tie q l2 (insAll q (es.take 0)) := ht2
  have hall := Lib.hid (show insAll q (es.take m) = insAll q es by rw [← hm, List.take_length])
  obtain ⟨ao, cap, rfl⟩ := own_shape h
  obtain ⟨ao2, cap2, rfl⟩ := own_shape h2
  clear hm hs h h2 ht ht2 hG
  go_enter Tryz.func17, Tryz.ntmps17
  go_wp2_with fail
  generalize World.alloc (World.alloc (World.alloc w _) _) _ = W1 at *
  have t0 := cell_row 0 b0 rfl
  have t1 := cell_row 1 b0 rfl
  have t2 := cell_row 2 b0 rfl
  go_wp2_with fail
  refine (CL.out _ h1).mono ?_; rintro e w6 ⟨v6, rfl, hl6, hb6⟩
  obtain ⟨ao6, cap6, rfl⟩ := own_shape hl6
  have P6 : IX w w6 q (.slice ao2 l2.length cap2) B2 l2 (.slice ao6 es.length cap6) es := ⟨z1.trans (hb6.mono z1.size), (hb6.block _ (Array.getElem?_eq_some_iff.1 b1).1).trans b1, (hb6.block _ (Array.getElem?_eq_some_iff.1 b2).1).trans b2, by have := hb6.size; omega, ws_low h3 hb6, list_base hl6 (by omega)⟩
  rw [HM.out] at P6
  rw [HM.out]
  clear CL h1 h3 hl6 hb6 b0 b1 b2 z1 t0 t1 t2 s3
  go_wp2_with fail
  go_loopw [7, 8] (fun n i wr => ∃ (k D : Nat) (v' : Value) (l' : List Wd), n = .int .i64 (k : Int) ∧ i = .int .i64 (k : Int) ∧ k ≤ m ∧ IX w wr q v' D l' (.slice ao6 m cap6) es ∧ Tie q l' (insAll q (es.take k)) ∧ B2 ≤ D) (fun _ i _ => m - (intOf i).toNat)
  case atStart => exact ⟨0, B2, _, l2, rfl, rfl, Nat.zero_le _, P6, ht0, Nat.le_refl _⟩
  case round =>
    clear P6 ht0
    obtain ⟨k, D, v', l', rfl, rfl, hk, PP, ht, hD⟩ := hrel
    obtain ⟨ao', cap', rfl⟩ := own_shape PP.ws
    by_cases hkm : k < m
    · have hkl : k < es.length := by rw [HM.out]; exact hkm
      have hkm' : (k : Int) < (m : Int) := by omega
      obtain ⟨g, capg, hv, hcc1, hcc2, _⟩ := doc_at PP.own (by omega)
      rw [HM.out] at hv hcc1
      simp only [Value.slice.injEq, true_and] at hv
      obtain ⟨rfl, rfl⟩ := hv
      unfold maxLen at hcc2
      obtain ⟨o, ho⟩ : ∃ o, k * 11 = o := ⟨_, rfl⟩
      have hAK : (⟨g, 0, none⟩ : Addr).add o = ⟨g, o, none⟩ := add_at g o
      obtain ⟨okE, szE⟩ := hF.out _ (nth_mem hkl)
      rw [HS.out] at szE
      have uE := wf_u (ok_wf okE)
      have hmay := fine_may okE szE
      have CM := Lib.hid (fun W => omay_any (p := q) ao' l'.length cap' (nthE es k) uE W)
      rw [hmay] at CM
      have hlen := tie_len ht
      have CI := Lib.hid (fun W (hW : IX w W q (.slice ao' l'.length cap') D l' (.slice (some ⟨g, 0, none⟩) m cap6) es) => iput hq hW (nthE es k) okE.fit uE (by omega))
      have hT := Lib.hid (take_nth hkl)
      have hti := tie_ins hq ht hmay
      rw [← insAll_snoc, ← hT.out] at hti
      obtain ⟨t0, t1, t2, d0, d1, d2, d3, d4, d5, d6, d7, d8, d9, d10⟩ := PP.sc hkl ho
      clear szE hmay
      go_wp2_with fail
      go_cut [9] (fun a wx => a = .bool true ∧ IX w wx q (.slice ao' l'.length cap') D l' (.slice (some ⟨g, 0, none⟩) m cap6) es)
      case first =>
        go_region_held3 (fun w1 => w1.cell? ⟨w.heap.size + 1, 0, none⟩ = some (.int .i64 q.s) ∧ w1.cell? ⟨w.heap.size + 1, 1, none⟩ = some (.int .i64 (q.n : Int)) ∧ w1.cell? ⟨w.heap.size + 1, 2, none⟩ = some (.slice ao' l'.length cap') ∧ w1.cell? ⟨g, o, none⟩ = some (.int .i64 (nthE es k).size) ∧ w1.cell? ⟨g, o + 1, none⟩ = some (.int .i64 (nthE es k).ctx) ∧ w1.cell? ⟨g, o + 2, none⟩ = some (.int .u64 (nthE es k).va) ∧ w1.cell? ⟨g, o + 3, none⟩ = some (.int .u64 (nthE es k).pa) ∧ w1.cell? ⟨g, o + 4, none⟩ = some (.bool (nthE es k).att.write) ∧ w1.cell? ⟨g, o + 5, none⟩ = some (.bool (nthE es k).att.priv) ∧ w1.cell? ⟨g, o + 6, none⟩ = some (.bool (nthE es k).att.exec) ∧ w1.cell? ⟨g, o + 7, none⟩ = some (.bool (nthE es k).att.lock) ∧ w1.cell? ⟨g, o + 8, none⟩ = some (.bool (nthE es k).att.global) ∧ w1.cell? ⟨g, o + 9, none⟩ = some (.bool (nthE es k).att.quiet) ∧ w1.cell? ⟨g, o + 10, none⟩ = some (.bool (nthE es k).valid)) ((refine IX.sc (w := w) (D := D) (n := m) (cap := cap6) (l := l') (es := es) ?_ hkl ho; (repeat (first | (with_reducible assumption) | (with_reducible refine IX.drew ?_) | (with_reducible refine IX.drewN ?_ _) | (with_reducible refine IX.alloc ?_ _) | (with_reducible refine IX.low ?_ (by assumption)))) ))
          ((go_at_call 46; (with_reducible refine (CM.out _).mono ?_); rintro r w' ⟨rfl, hb⟩; obtain ⟨hcc, hf, hs1, hs2⟩ := bfacts hb))
        all_goals
          go_wp2_with fail
          go_meet
          refine ⟨rfl, ?_⟩
          (repeat (first | (with_reducible assumption) | (with_reducible refine IX.drew ?_) | (with_reducible refine IX.drewN ?_ _) | (with_reducible refine IX.alloc ?_ _) | (with_reducible refine IX.low ?_ (by assumption)))) 
      case rest =>
        obtain ⟨rfl, P7⟩ := hcut
        clear PP t0 t1 t2 d0 d1 d2 d3 d4 d5 d6 d7 d8 d9 d10 CM
        obtain ⟨t0, t1, t2, d0, d1, d2, d3, d4, d5, d6, d7, d8, d9, d10⟩ := P7.sc hkl ho
        go_wp2_with fail
        go_cut [8] (fun a wx => a = .int .i64 (k : Int) ∧ ∃ (D' : Nat) (v2 : Value), IX w wx q v2 D' (insW q l' (nthE es k)) (.slice (some ⟨g, 0, none⟩) m cap6) es ∧ D ≤ D')
        case first =>
          go_region_with ((go_at_call 16; (refine (CI.out _ (by (repeat (first | (with_reducible assumption) | (with_reducible refine IX.drew ?_) | (with_reducible refine IX.drewN ?_ _) | (with_reducible refine IX.alloc ?_ _) | (with_reducible refine IX.low ?_ (by assumption)))) )).mono ?_); rintro r w' ⟨v2, E2, rfl, PQ, hE2, hE3, hws⟩; obtain ⟨ao2', cap2', rfl⟩ := own_shape hws; have r0 := cell_row 0 PQ.row rfl; have r1 := cell_row 1 PQ.row rfl; have r2 := cell_row 2 PQ.row rfl; have f9 : ∀ i, World.frozen? w' ⟨w.heap.size + 1, i, none⟩ = false := (fun i => by simp only [World.frozen?, PQ.row]; rfl); have PZ := PQ.put hws hE3))
          all_goals
            go_wp2_with fail
            go_meet
            exact ⟨rfl, _, _, PZ, hE2⟩
        case rest =>
          obtain ⟨rfl, D', v9, P9, hD'⟩ := hcut
          clear P7 CI t0 t1 t2 d0 d1 d2 d3 d4 d5 d6 d7 d8 d9 d10
          go_wp2_with fail
          go_roundw
          case rel => exact ⟨k + 1, D', _, _, by go_num, by go_num, by omega, P9, hti, by omega⟩
          case measure => simp [intOf]; omega
    · obtain rfl : m = k := by omega
      rw [hall.out] at ht
      have t0 := cell_row 0 PP.row rfl
      have t1 := cell_row 1 PP.row rfl
      have t2 := cell_row 2 PP.row rfl
      have q9 := PP.res
      have r0 := cell_row 0 q9 rfl
      have r1 := cell_row 1 q9 rfl
      have r2 := cell_row 2 q9 rfl
      have f9 : ∀ i, World.frozen? wr ⟨w.heap.size + 1 + 1, i, none⟩ = false := fun i => by simp only [World.frozen?, q9]; rfl
      obtain ⟨z1, z2, z3⟩ := tfin (p := q) (show w.heap.size ≤ w.heap.size + 1 + 1 by omega) PP.bel q9 PP.ws
      have hne : w.heap.size + 1 ≠ w.heap.size + 1 + 1 := by omega
      go_wp2_with fail
      (try simp only [Exit.inBlock, Exit.then])
      refine bodyPost_ret (res_Tt rfl _ _ _ _ _ _ rfl z1) rfl ⟨_, _, rfl, ws_base z2 hD, ht, z3⟩
end Go.Proofs.YtgdagfhdimoklaaGreat.Ts
/-
  What the law TsbMoves carries over its last statement: two TSBs, and the document's two lists. Conditions: numbers are what Go's types hold.
-/
namespace Go.Proofs.YtgdagfhdimoklaaGreat.Ts
open Fld
open Pt (idxI idx_bd)
open Tl (ListAt DocAt nthE doc_at doc_below list_nil)
open Go.ChangeShapes Go.WideShapes Go.ChangeAt Go.RowKit Go.Shelf
set_option maxRecDepth 100000
set_option maxHeartbeats 4000000
/-- A list of entries, wherever it lies. -/
structure LE (w : World) (v : Value) (l : List Ent) : Prop where
  at_ : ∃ B, ListAt w B v l
theorem LE.low {w w' : World} {v : Value} {l : List Ent} (h : LE w v l) (hb : Below w.heap.size w w') : LE w' v l := by
  obtain ⟨B, x⟩ := h.at_
  exact ⟨B, doc_below x hb⟩
theorem LE.drew {w : World} {v : Value} {l : List Ent} (h : LE w v l) : LE w.drew v l := h.low (drewN_low w 1)
theorem LE.shape {w : World} {v : Value} {l : List Ent} (h : LE w v l) : ∃ ao cap, v = .slice ao l.length cap := by
  obtain ⟨B, x⟩ := h.at_
  exact own_shape x
theorem le_same {l : List Ent} {u v : Value} {w : World} (h1 : LE w u l) (h2 : LE w v l) (hl : l.length ≤ 1000000) :
    Calls Tryz.prog 10 #[u, v] w fun r w' => r = .returned (.bool true) ∧ Below w.heap.size w w' := by
  obtain ⟨B, x⟩ := h1.at_
  obtain ⟨C, y⟩ := h2.at_
  exact Tl.rsame_any l u v B C w hl x y
theorem PL.sub {W wr : World} {st sb bm C : Nat} {p : Par} {T : Nat → Pl} {L M : List Bx} {v : Value} {l : List Ent} (h : PL W wr st sb bm p T L C v l) (hM : ∀ q ∈ M, q ∈ L) : PL W wr st sb bm p T M C v l := ⟨h.f1, h.f2, h.f3, h.bel, h.tsb, fun q hq => h.rows q (hM q hq), h.own, h.base⟩
/-- The boxes of the document's two lists. -/
structure MB (w wr : World) (tb ob : Nat) (s n m : Int) (rv v : Value) : Prop where
  bel : Below w.heap.size w wr
  r1 : wr.heap[tb]? = some (.cells #[.int .i64 s, .int .i64 n, rv] 26 (0, 0))
  r2 : wr.heap[ob]? = some (.cells #[.int .i64 s, .int .i64 m, v] 26 (0, 0))
theorem MB.low {w wr w' : World} {tb ob : Nat} {s n m : Int} {rv v : Value} (h : MB w wr tb ob s n m rv v) (hb : Below wr.heap.size wr w') : MB w w' tb ob s n m rv v :=
  ⟨h.bel.trans (hb.mono h.bel.size), (hb.block _ (Array.getElem?_eq_some_iff.1 h.r1).1).trans h.r1, (hb.block _ (Array.getElem?_eq_some_iff.1 h.r2).1).trans h.r2⟩
theorem MB.drew {w wr : World} {tb ob : Nat} {s n m : Int} {rv v : Value} (h : MB w wr tb ob s n m rv v) : MB w wr.drew tb ob s n m rv v := h.low (drewN_low wr 1)
theorem MB.sc {w wr : World} {tb ob : Nat} {s n m : Int} {rv v : Value} (h : MB w wr tb ob s n m rv v) : wr.cell? ⟨tb, 0, none⟩ = some (.int .i64 s) ∧ wr.cell? ⟨tb, 1, none⟩ = some (.int .i64 n) ∧ wr.cell? ⟨tb, 2, none⟩ = some rv ∧ wr.cell? ⟨ob, 0, none⟩ = some (.int .i64 s) ∧ wr.cell? ⟨ob, 1, none⟩ = some (.int .i64 m) ∧ wr.cell? ⟨ob, 2, none⟩ = some v :=
  ⟨cell_row 0 h.r1 rfl, cell_row 1 h.r1 rfl, cell_row 2 h.r1 rfl, cell_row 0 h.r2 rfl, cell_row 1 h.r2 rfl, cell_row 2 h.r2 rfl⟩
/-- Both TSBs, and the document's lists. -/
structure M9 (w wr : World) (st st2 : Nat) (p q : Par) (T U : Nat → Pl) (tb ob : Nat) (s n m : Int) (rv v : Value) (ws us : List Wd) : Prop where
  two : ∃ sb bm sb2 bm2, PL w wr st sb bm p T [(ob, #[.int .i64 s, .int .i64 m, v], 26), (tb, #[.int .i64 s, .int .i64 n, rv], 26)] w.heap.size (.slice none 0 0) [] ∧ OT w wr sb bm st2 sb2 bm2 q U
  w1 : WsAt wr w.heap.size rv ws
  w2 : WsAt wr w.heap.size v us
theorem M9.low {w wr w' : World} {st st2 tb ob : Nat} {p q : Par} {T U : Nat → Pl} {s n m : Int} {rv v : Value} {ws us : List Wd} (h : M9 w wr st st2 p q T U tb ob s n m rv v ws us) (hb : Below wr.heap.size wr w') : M9 w w' st st2 p q T U tb ob s n m rv v ws us := by
  obtain ⟨⟨sb, bm, sb2, bm2, P, O⟩, a, b⟩ := h
  exact ⟨⟨sb, bm, sb2, bm2, P.low hb, O.low hb⟩, ws_low a hb, ws_low b hb⟩
theorem M9.drew {w wr : World} {st st2 tb ob : Nat} {p q : Par} {T U : Nat → Pl} {s n m : Int} {rv v : Value} {ws us : List Wd} (h : M9 w wr st st2 p q T U tb ob s n m rv v ws us) : M9 w wr.drew st st2 p q T U tb ob s n m rv v ws us := h.low (drewN_low wr 1)
theorem MB.of {w wr : World} {st st2 tb ob : Nat} {p q : Par} {T U : Nat → Pl} {s n m : Int} {rv v : Value} {ws us : List Wd} (h : M9 w wr st st2 p q T U tb ob s n m rv v ws us) : MB w wr tb ob s n m rv v := by
  obtain ⟨⟨sb, bm, sb2, bm2, P, O⟩, a, b⟩ := h
  exact ⟨P.bel, (P.rows _ (List.mem_cons_of_mem _ (List.mem_cons_self ..))).1, (P.rows _ (List.mem_cons_self ..)).1⟩
theorem m_into {w W : World} {st st2 tb ob : Nat} {p q : Par} {T : Nat → Pl} {s n m : Int} {rv v : Value} {ws us : List Wd} (h : M9 w W st st2 p q T (fun _ => Pl.none) tb ob s n m rv v ws us) (hG : Gd p T) (hs : p.s = q.s) :
    Calls Tryz.prog 18 #[.pointer (some ⟨st, 0, none⟩), .pointer (some ⟨st2, 0, none⟩)] W fun e w' => e = .returned (.int .i64 ((lstP p T p.n).length : Int)) ∧ M9 w w' st st2 p q T (insAll q (lstP p T p.n)) tb ob s n m rv v ws us := by
  obtain ⟨⟨sb, bm, sb2, bm2, P, O⟩, a, b⟩ := h
  refine (pinto2 P O hG hs).mono ?_
  rintro e w' ⟨rfl, b', P', O', hk⟩
  exact ⟨rfl, ⟨sb, bm, sb2, b', P', O'⟩, hk _ _ _ a, hk _ _ _ b⟩
theorem m_olist {w W : World} {st st2 tb ob : Nat} {p q : Par} {T U : Nat → Pl} {s n m : Int} {rv v : Value} {ws us : List Wd} (h : M9 w W st st2 p q T U tb ob s n m rv v ws us) :
    Calls Tryz.prog 11 #[.pointer (some ⟨st2, 0, none⟩)] W fun e w' => ∃ v', e = .returned v' ∧ LE w' v' (lstP q U q.n) ∧ Below W.heap.size W w' := by
  obtain ⟨⟨sb, bm, sb2, bm2, P, O⟩, a, b⟩ := h
  exact (tlist_any W O.tsb).mono fun _ _ ⟨v', x, y, z⟩ => ⟨v', x, ⟨_, y⟩, z⟩
theorem m_tlist {w W : World} {st st2 tb ob : Nat} {p q : Par} {T U : Nat → Pl} {s n m : Int} {rv v : Value} {ws us : List Wd} (h : M9 w W st st2 p q T U tb ob s n m rv v ws us) :
    Calls Tryz.prog 11 #[.pointer (some ⟨st, 0, none⟩)] W fun e w' => ∃ v', e = .returned v' ∧ LE w' v' (lstP p T p.n) ∧ Below W.heap.size W w' := by
  obtain ⟨⟨sb, bm, sb2, bm2, P, O⟩, a, b⟩ := h
  exact (tlist_any W P.tsb).mono fun _ _ ⟨v', x, y, z⟩ => ⟨v', x, ⟨_, y⟩, z⟩
theorem m_dlist {w W : World} {st st2 tb ob : Nat} {p q : Par} {T U : Nat → Pl} {s n m : Int} {rv v : Value} {ws us : List Wd} (h : M9 w W st st2 p q T U tb ob s n m rv v ws us) (hq : q.Ok) (ht : Tie q us U) (hU : ∀ i, i < q.n → (U i).U) (hs : q.s = s) (hm : (q.n : Int) = m) :
    Calls Tryz.prog 12 #[.agg #[.int .i64 s, .int .i64 m, v]] W fun e w' => ∃ v', e = .returned v' ∧ LE w' v' (lstP q U q.n) ∧ Below W.heap.size W w' := by
  subst hs hm
  exact (olist_any hq ht hU W h.w2).mono fun _ _ ⟨v', x, y, z⟩ => ⟨v', x, ⟨_, y⟩, z⟩
theorem m_dlist2 {w W : World} {st st2 tb ob : Nat} {p q : Par} {T U : Nat → Pl} {s n m : Int} {rv v : Value} {ws us : List Wd} (h : M9 w W st st2 p q T U tb ob s n m rv v ws us) (hp : p.Ok) (ht : Tie p ws T) (hU : ∀ i, i < p.n → (T i).U) (hs : p.s = s) (hn : (p.n : Int) = n) :
    Calls Tryz.prog 12 #[.agg #[.int .i64 s, .int .i64 n, rv]] W fun e w' => ∃ v', e = .returned v' ∧ LE w' v' (lstP p T p.n) ∧ Below W.heap.size W w' := by
  subst hs hn
  exact (olist_any hp ht hU W h.w1).mono fun _ _ ⟨v', x, y, z⟩ => ⟨v', x, ⟨_, y⟩, z⟩
theorem m_olen {w W : World} {st st2 tb ob : Nat} {p q : Par} {T U : Nat → Pl} {s n m : Int} {rv v : Value} {ws us : List Wd} (h : M9 w W st st2 p q T U tb ob s n m rv v ws us) (hm : (q.n : Int) = m) :
    Calls Tryz.prog 7 #[.pointer (some ⟨st2, 0, none⟩)] W fun e w' => e = .returned (.int .i64 m) ∧ Below W.heap.size W w' := by
  obtain ⟨⟨sb, bm, sb2, bm2, P, O⟩, a, b⟩ := h
  subst hm
  refine (len_any O.tsb.ok W O.tsb.row).mono ?_
  rintro _ _ ⟨x, k, rfl⟩
  exact ⟨x, drewN_low W k⟩
theorem m_tlen {w W : World} {st st2 tb ob : Nat} {p q : Par} {T U : Nat → Pl} {s n m : Int} {rv v : Value} {ws us : List Wd} (h : M9 w W st st2 p q T U tb ob s n m rv v ws us) (hn : (p.n : Int) = n) :
    Calls Tryz.prog 7 #[.pointer (some ⟨st, 0, none⟩)] W fun e w' => e = .returned (.int .i64 n) ∧ Below W.heap.size W w' := by
  obtain ⟨⟨sb, bm, sb2, bm2, P, O⟩, a, b⟩ := h
  subst hn
  refine (len_any P.tsb.ok W P.tsb.row).mono ?_
  rintro _ _ ⟨x, k, rfl⟩
  exact ⟨x, drewN_low W k⟩
end Go.Proofs.YtgdagfhdimoklaaGreat.Ts
