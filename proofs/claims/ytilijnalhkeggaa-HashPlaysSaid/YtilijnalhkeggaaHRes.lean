/-
  Resize of package hash: what is there between two rounds of its loop. Conditions: none.
-/
import Derived.Test.YtilijnalhkeggaaHIter
namespace Go.Proofs.Ytilijnalhkeggaa.Hs
open Fld
open Ts (Stay Soft Firm Lp Sp)
open Go.ChangeShapes Go.WideShapes Go.ChangeAt Go.RowKit Go.Maps
set_option maxHeartbeats 1000000
set_option maxRecDepth 100000
/-- The chains of the first j keys. -/
def resN (l : List Bk) (m j : Nat) : Nat → List Bk := fun i => (l.take j).filter (fun b => chainN b.k m == i)
theorem resN_zero (l : List Bk) (m i : Nat) : resN l m 0 i = [] := by simp [resN]
theorem resN_all (L : Nat → List Bk) (n m : Nat) : resN (allL L n) m (allL L n).length = resT L n m := by
  funext i; unfold resN resT; rw [List.take_length]
theorem resN_step {l : List Bk} {m j : Nat} (h : j < l.length) : resN l m (j + 1) = setL (resN l m j) (chainN (at_ l j).k m) (resN l m j (chainN (at_ l j).k m) ++ [at_ l j]) := by
  funext i
  unfold resN setL
  rw [List.take_add_one, at_eq l j h, List.filter_append]
  by_cases e : i = chainN (at_ l j).k m
  · subst e; simp
  · rw [if_neg e]
    have : (chainN (at_ l j).k m == i) = false := by simpa using fun x => e x.symm
    simp [this]
theorem resN_len {l : List Bk} {m j : Nat} (hm : 1 ≤ m) (hj : j ≤ l.length) : lenL (resN l m j) m = j := by
  rw [len_res (l.take j) (fun b => chainN b.k m) (resN l m j) (fun _ => rfl) m, List.filter_eq_self.2 (fun b _ => by simpa using chain_lt b.k hm), List.length_take]
  omega
theorem live_le {n : Nat} {L : Nat → List Bk} {V : Nat → Value} (h : ∀ i, i < n → L i = [] → V i = nilS) : ∀ m, m ≤ n → (liveN V m).length ≤ lenL L m
  | 0, _ => Nat.zero_le _
  | m + 1, hm => by
    have ih := live_le h m (by omega)
    rw [len_succ]
    unfold liveN
    split
    · omega
    · rename_i hv
      have : L m ≠ [] := fun e => hv (nilB_iff.2 (h m (by omega) e))
      have := List.length_pos_iff.2 this
      simp; omega
/-- What is there between two rounds. -/
structure RS (w : World) (B C cb rb mb xb m : Nat) (v : Value) (l : List Bk) (j : Nat) (V : World) : Prop where
  bel : Below w.heap.size w V
  cbx : V.heap[cb]? = some (.cells #[.int .i64 (m : Int)] 3 (0, 0))
  rbx : V.heap[rb]? = some (.cells #[.map (some mb)] 64 (0, 0))
  it : ItAt V B xb v l
  sz : C ≤ V.heap.size
  mp : ∃ VV, (∃ D, Owns V mb (Maps.size D) D ∧ MapIs D m VV) ∧ (∀ i, i < m → V.ownsRow C 83 4 (VV i) (resN l m j i).length (bkL (resN l m j i))) ∧ (∀ i, i < m → resN l m j i = [] → VV i = nilS) ∧
    (∀ i k g, i < m → k < m → (VV i).ownBlock = some g → (VV k).ownBlock = some g → i = k)
/-- What does not change over the loop. -/
structure RF (w : World) (C cb rb mb xb m : Nat) (v : Value) (l : List Bk) : Prop where
  cb0 : w.heap.size ≤ cb
  rb0 : w.heap.size ≤ rb
  mb0 : w.heap.size ≤ mb
  xb0 : w.heap.size ≤ xb
  C0 : w.heap.size ≤ C
  cb1 : cb < C
  rb1 : rb < C
  mb1 : mb < C
  xb1 : xb < C
  vlt : ∀ g, v.ownBlock = some g → g < C
  m0 : 1 ≤ m
  m1 : m ≤ 9223372036854775807
  ok : ∀ b ∈ l, b.k.Ok
  few : l.length ≤ 1073741824
theorem RS.firm {w : World} {B C cb rb mb xb m j F : Nat} {v : Value} {l : List Bk} (hF : w.heap.size ≤ F) : Firm F (RS w B C cb rb mb xb m v l j) := by
  intro V V' h hs
  have keep : ∀ {k : Nat} {cs : Array Value} {t : TypeId} {fr : Nat × Nat}, V.heap[k]? = some (.cells cs t fr) → V'.heap[k]? = V.heap[k]? := fun {k cs t fr} hk =>
    hs.block k (Array.getElem?_eq_some_iff.1 hk).1 (.inr fun o ho => by rw [hk] at ho; cases ho; exact id)
  obtain ⟨VV, hmap, hrows, hnil, hap⟩ := h.mp
  refine ⟨⟨hs.os.trans h.bel.os, hs.tape.trans h.bel.tape, hs.output.trans h.bel.output, Nat.le_trans h.bel.size hs.size, fun k hk => (hs.block k (Nat.lt_of_lt_of_le hk h.bel.size) (.inl (by omega))).trans (h.bel.block k hk)⟩,
    (keep h.cbx).trans h.cbx, (keep h.rbx).trans h.rbx, ⟨(keep h.it.box).trans h.it.box, own_same h.it.own (fun g hg => by obtain ⟨cur, hc⟩ := own_obj h.it.own hg; exact keep hc)⟩, Nat.le_trans h.sz hs.size,
    VV, map_same hmap ?_, fun i hi => own_same (hrows i hi) (fun g hg => by obtain ⟨cur, hc⟩ := own_obj (hrows i hi) hg; exact keep hc), hnil, hap⟩
  obtain ⟨D, ⟨es, clock, h1, _⟩, _⟩ := hmap
  exact hs.block mb (Array.getElem?_eq_some_iff.1 h1).1 (.inr fun o ho => by rw [h1] at ho; cases ho; exact id)
theorem RS.low {w V V' : World} {B C cb rb mb xb m j : Nat} {v : Value} {l : List Bk} (h : RS w B C cb rb mb xb m v l j V) (hb : Below V.heap.size V V') : RS w B C cb rb mb xb m v l j V' :=
  RS.firm (F := w.heap.size) (Nat.le_refl _) _ _ h (Soft.below hb)
theorem own_base {w : World} {B e s n : Nat} {v : Value} {xs : List Value} (h : w.ownsRow B e s v n xs) : w.ownsRow 0 e s v n xs := by
  refine ⟨h.1, ?_⟩
  rcases h.2 with hn | ⟨g, cap, cur, rfl, _, rest⟩
  · exact .inl hn
  · exact .inr ⟨g, cap, cur, rfl, Nat.zero_le _, rest⟩
/-- A key in a box, beside it. -/
structure RK (w : World) (B C cb rb mb xb m : Nat) (v : Value) (l : List Bk) (j kb : Nat) (V : World) : Prop where
  rs : RS w B C cb rb mb xb m v l j V
  key : V.heap[kb]? = some (.cells #[.int .i64 (at_ l j).k.sp, .int .u64 (at_ l j).k.va, .int .i64 (at_ l j).k.sz] 41 (0, 0))
theorem RK.low {w V V' : World} {B C cb rb mb xb m j kb : Nat} {v : Value} {l : List Bk} (h : RK w B C cb rb mb xb m v l j kb V) (hb : Below V.heap.size V V') : RK w B C cb rb mb xb m v l j kb V' := ⟨h.rs.low hb, blk_low h.key hb⟩
theorem RK.cells {w V : World} {B C cb rb mb xb m j kb : Nat} {v : Value} {l : List Bk} (h : RK w B C cb rb mb xb m v l j kb V) : V.cell? ⟨rb, 0, none⟩ = some (.map (some mb)) ∧ V.cell? ⟨kb, 0, none⟩ = some (.int .i64 (at_ l j).k.sp) ∧ V.cell? ⟨kb, 1, none⟩ = some (.int .u64 (at_ l j).k.va) ∧ V.cell? ⟨kb, 2, none⟩ = some (.int .i64 (at_ l j).k.sz) := by
  have := h.rs.rbx
  exact ⟨by simp [World.cell?, this], key_cells h.key⟩
theorem bk_new (W : World) (b : Bk) : (W.alloc (.cells #[.int .i64 b.k.sp, .int .u64 b.k.va, .int .i64 b.k.sz, .int .i64 b.v] 83)).heap[W.heap.size]? = some (.cells #[.int .i64 b.k.sp, .int .u64 b.k.va, .int .i64 b.k.sz, .int .i64 b.v] 83 (0, 0)) := heap_alloc_new W _
/-- The rows and the map, as RS has them. -/
structure RV (V : World) (C mb m : Nat) (l : List Bk) (j : Nat) (VV : Nat → Value) : Prop where
  map : ∃ D, Owns V mb (Maps.size D) D ∧ MapIs D m VV
  rows : ∀ i, i < m → V.ownsRow C 83 4 (VV i) (resN l m j i).length (bkL (resN l m j i))
  nil : ∀ i, i < m → resN l m j i = [] → VV i = nilS
  apart : ∀ i k g, i < m → k < m → (VV i).ownBlock = some g → (VV k).ownBlock = some g → i = k
theorem RS.rv {w V : World} {B C cb rb mb xb m j : Nat} {v : Value} {l : List Bk} (h : RS w B C cb rb mb xb m v l j V) : ∃ VV, RV V C mb m l j VV := by
  obtain ⟨VV, a, b, c, d⟩ := h.mp; exact ⟨VV, a, b, c, d⟩
theorem RV.low {V V' : World} {C mb m j : Nat} {l : List Bk} {VV : Nat → Value} (h : RV V C mb m l j VV) (hb : Below V.heap.size V V') : RV V' C mb m l j VV := by
  refine ⟨map_same h.map ?_, fun i hi => own_same (h.rows i hi) (fun g hg => hb.block g ((h.rows i hi).lt g hg).2), h.nil, h.apart⟩
  obtain ⟨D, ⟨es, clock, h1, _⟩, _⟩ := h.map
  exact hb.block mb (Array.getElem?_eq_some_iff.1 h1).1
theorem RV.drew {V : World} {C mb m j : Nat} {l : List Bk} {VV : Nat → Value} (h : RV V C mb m l j VV) : RV V.drew C mb m l j VV := h.low (Below.refl _ V).drew
theorem RV.zero {V : World} {C mb m : Nat} {l : List Bk} (hm : ∃ D, Owns V mb (Maps.size D) D ∧ MapIs D m (fun _ => nilS)) : RV V C mb m l 0 (fun _ => nilS) :=
  ⟨hm, fun i _ => by rw [resN_zero]; exact World.ownsRow_nil _ _ _ 4, fun _ _ _ => rfl, fun _ _ _ _ _ h => by cases h⟩
theorem RV.look {V : World} {C mb m j : Nat} {l : List Bk} {VV : Nat → Value} (h : RV V C mb m l j VV) (hm1 : m ≤ 9223372036854775807) {c : Nat} (hc : c < m) :
    (Instr.lookup 64 (.map (some mb)) (.int .i64 (c : Int)) false).run Try.prog V = .ok (VV c) V := by
  obtain ⟨D, hown, hD⟩ := h.map
  obtain ⟨v, ps, hrun, hv⟩ := hown.lookup lawI Try.underlying64 (zeroS V) hdR_nil (keyOf_int_mk Try.underlying3 (wfI (a := (c : Int)) (by omega) (by omega)))
  have e1 := (hdR_inv hv).1
  have e2 : hdD v = hdD (VV c) := by
    have := congrArg Prod.fst e1
    refine this.symm.trans ((hD.at_ (c : Int)).trans ?_)
    rw [rowV_in hc]
  rw [hrun, hdD_inj hv (hdR_own (h.rows c hc)) e2]
theorem RV.msize {V : World} {C mb m j : Nat} {l : List Bk} {VV : Nat → Value} (h : RV V C mb m l j VV) (hm : 1 ≤ m) (hj : j ≤ l.length) (hl : l.length ≤ 1073741824) {D : DataW Unit} (ho : Owns V mb (Maps.size D) D) (hD : MapIs D m VV) : Maps.size D ≤ 1073741824 := by
  have h1 := hD.size_le (ho.canon lawI)
  have h2 := live_le h.nil m (Nat.le_refl _)
  rw [resN_len hm hj] at h2
  omega
/-- A row's longer, and stands in the map. -/
theorem RK.put {w V W2 : World} {B C cb rb mb xb m j kb c g cap : Nat} {v : Value} {l : List Bk} {VV : Nat → Value} (F : RF w C cb rb mb xb m v l) (h : RK w B C cb rb mb xb m v l j kb V) (hv : RV V C mb m l j VV) (hj : j < l.length) (hc : c = chainN (at_ l j).k m)
    (ho : W2.ownsRow C 83 4 (.slice (some ⟨g, 0, none⟩) ((resN l m j c).length + 1) cap) ((resN l m j c).length + 1) (bkL (resN l m j c) ++ bkC (at_ l j)))
    (hg : (V.drew.alloc (.cells #[.int .i64 (at_ l j).k.sp, .int .u64 (at_ l j).k.va, .int .i64 (at_ l j).k.sz, .int .i64 (at_ l j).v] 83)).grownBy W2 (VV c).ownBlock) (hat : (VV c).ownBlock = some g ∨ g = (V.drew.alloc (.cells #[.int .i64 (at_ l j).k.sp, .int .u64 (at_ l j).k.va, .int .i64 (at_ l j).k.sz, .int .i64 (at_ l j).v] 83)).heap.size) :
    (W2.cell? ⟨rb, 0, none⟩ = some (.map (some mb)) ∧ W2.cell? ⟨kb, 0, none⟩ = some (.int .i64 (at_ l j).k.sp) ∧ W2.cell? ⟨kb, 1, none⟩ = some (.int .u64 (at_ l j).k.va) ∧ W2.cell? ⟨kb, 2, none⟩ = some (.int .i64 (at_ l j).k.sz)) ∧
    ∃ W3, (Instr.mapUpdate 64 (.map (some mb)) (.int .i64 (c : Int)) (.slice (some ⟨g, 0, none⟩) ((resN l m j c).length + 1) cap)).run Try.prog W2 = .ok () W3 ∧
      (W3.cell? ⟨rb, 0, none⟩ = some (.map (some mb)) ∧ W3.cell? ⟨kb, 0, none⟩ = some (.int .i64 (at_ l j).k.sp) ∧ W3.cell? ⟨kb, 1, none⟩ = some (.int .u64 (at_ l j).k.va) ∧ W3.cell? ⟨kb, 2, none⟩ = some (.int .i64 (at_ l j).k.sz)) ∧ RS w B C cb rb mb xb m v l (j + 1) W3 ∧ Stay C V W3 := by
  have hcm : c < m := by rw [hc]; exact chain_lt _ F.m0
  have hlt : ∀ {k o}, V.heap[k]? = some o → k < V.heap.size := fun h => (Array.getElem?_eq_some_iff.1 h).1
  have ha : ∀ k, k < V.heap.size → (V.drew.alloc (.cells #[.int .i64 (at_ l j).k.sp, .int .u64 (at_ l j).k.va, .int .i64 (at_ l j).k.sz, .int .i64 (at_ l j).v] 83)).heap[k]? = V.heap[k]? := fun k hk => Below.heap_alloc V.drew _ k hk
  have hsa : (V.drew.alloc (.cells #[.int .i64 (at_ l j).k.sp, .int .u64 (at_ l j).k.va, .int .i64 (at_ l j).k.sz, .int .i64 (at_ l j).v] 83)).heap.size = V.heap.size + 1 := by simp
  -- the row that grows is none of the others
  have hrow : ∀ k, (VV c).ownBlock = some k → C ≤ k ∧ k < V.heap.size ∧ ∃ cur, V.heap[k]? = some (.cells cur 83 (0, 0)) := fun k hk => ⟨((hv.rows c hcm).lt k hk).1, ((hv.rows c hcm).lt k hk).2, own_obj (hv.rows c hcm) hk⟩
  have hkb : (VV c).ownBlock ≠ some kb := fun e => by
    obtain ⟨_, _, cur, h1⟩ := hrow kb e
    rw [h.key] at h1; injection h1 with h1; injection h1 with _ h1 _; exact absurd h1 (by decide)
  have k2 : ∀ k, k < V.heap.size → (VV c).ownBlock ≠ some k → W2.heap[k]? = V.heap[k]? := fun k hk hne => (hg.block k (by omega) (fun e => hne e.symm)).trans (ha k hk)
  have lowne : ∀ k, k < C → (VV c).ownBlock ≠ some k := fun k hk e => by have := (hrow k e).1; omega
  have hrs := h.rs
  have hsz := hrs.sz
  obtain ⟨D, hown, hD⟩ := hv.map
  have hmb := hown.lt
  have hms := hv.msize F.m0 (Nat.le_of_lt hj) F.few hown hD
  have e2 : W2.heap[mb]? = V.heap[mb]? := k2 mb hmb (lowne mb F.mb1)
  have key2 : W2.heap[kb]? = some (.cells #[.int .i64 (at_ l j).k.sp, .int .u64 (at_ l j).k.va, .int .i64 (at_ l j).k.sz] 41 (0, 0)) := (k2 kb (hlt h.key) hkb).trans h.key
  have rbx2 : W2.heap[rb]? = some (.cells #[.map (some mb)] 64 (0, 0)) := (k2 rb (by have := F.rb1; omega) (lowne rb F.rb1)).trans hrs.rbx
  have hown2 : ∃ D, Owns W2 mb (Maps.size D) D ∧ MapIs D m VV ∧ Maps.size D ≤ 1073741824 := by
    obtain ⟨es, clock, h1, h2⟩ := hown
    exact ⟨D, ⟨es, clock, e2.trans h1, h2⟩, hD, hms⟩
  obtain ⟨W3, hr, hm3, hg3⟩ := map_store hown2 hcm F.m1 (v := .slice (some ⟨g, 0, none⟩) ((resN l m j c).length + 1) cap) (fun e => by cases e) rfl
  have hs2 : V.heap.size + 1 ≤ W2.heap.size := by have := hg.size; omega
  have hs3 := hg3.size
  have k3 : ∀ k, k < V.heap.size → (VV c).ownBlock ≠ some k → k ≠ mb → W3.heap[k]? = V.heap[k]? := fun k hk h1 h2 => (hg3.block k (by omega) (fun e => h2 (Option.some.inj e))).trans (k2 k hk h1)
  have key3 : W3.heap[kb]? = some (.cells #[.int .i64 (at_ l j).k.sp, .int .u64 (at_ l j).k.va, .int .i64 (at_ l j).k.sz] 41 (0, 0)) := (k3 kb (hlt h.key) hkb (fun e => by
    obtain ⟨es, clock, h1, _⟩ := hown
    rw [← e, h.key] at h1; cases h1)).trans h.key
  have nemb : ∀ {k : Nat} {cs : Array Value} {t : TypeId} {fr : Nat × Nat}, V.heap[k]? = some (.cells cs t fr) → k ≠ mb := fun {k cs t fr} hk e => by
    obtain ⟨es, clock, h1, _⟩ := hown
    rw [← e, hk] at h1; cases h1
  have rbx3 : W3.heap[rb]? = some (.cells #[.map (some mb)] 64 (0, 0)) := (k3 rb (hlt hrs.rbx) (lowne rb F.rb1) (nemb hrs.rbx)).trans hrs.rbx
  have r2 := rbx2
  refine ⟨⟨by simp [World.cell?, rbx2], key_cells key2⟩, W3, hr, ⟨by simp [World.cell?, rbx3], key_cells key3⟩, ?_, ?_⟩
  · refine ⟨⟨hg3.os.trans (hg.os.trans hrs.bel.os), hg3.tape.trans (hg.tape.trans hrs.bel.tape), hg3.output.trans (hg.output.trans hrs.bel.output), Nat.le_trans hrs.bel.size (by omega), fun k hk => ?_⟩, ?_, rbx3, ⟨?_, own_same hrs.it.own (fun q hq => ?_)⟩, by omega, setV VV c (.slice (some ⟨g, 0, none⟩) ((resN l m j c).length + 1) cap), ?_, ?_, ?_, ?_⟩
    · have := F.C0; have := F.mb0; have := hrs.bel.size
      exact (k3 k (by omega) (lowne k (by omega)) (by omega)).trans (hrs.bel.block k hk)
    · exact (k3 cb (hlt hrs.cbx) (lowne cb F.cb1) (nemb hrs.cbx)).trans hrs.cbx
    · exact (k3 xb (hlt hrs.it.box) (lowne xb F.xb1) (nemb hrs.it.box)).trans hrs.it.box
    · obtain ⟨cur, hc3⟩ := own_obj hrs.it.own hq
      exact k3 q (hlt hc3) (lowne q (F.vlt q hq)) (nemb hc3)
    · obtain ⟨D', h1, h2⟩ := hm3; exact ⟨D', h1, h2⟩
    · intro i hi
      rw [resN_step hj, ← hc]
      by_cases e : i = c
      · subst e
        rw [setL_same, setV_same, List.length_append, bkL_append]
        refine own_same (by simpa [bkL] using ho) (fun q hq => hg3.block q ?_ (fun e => ?_))
        · exact ((ho.lt q (by simpa [Value.ownBlock] using hq))).2
        · obtain ⟨cur, hc3⟩ := own_obj ho (by simpa [Value.ownBlock] using hq : (Value.slice (some ⟨g, 0, none⟩) ((resN l m j i).length + 1) cap).ownBlock = some q)
          obtain ⟨D2, ⟨es, clock, h1, _⟩, _⟩ := hown2
          obtain rfl := Option.some.inj e
          rw [h1] at hc3; cases hc3
      · rw [setL_other _ _ e, setV_other _ _ e]
        refine own_same (hv.rows i hi) (fun q hq => ?_)
        obtain ⟨cur, hc3⟩ := own_obj (hv.rows i hi) hq
        exact k3 q (hlt hc3) (fun e2 => e (hv.apart i c q hi hcm hq e2)) (nemb hc3)
    · intro i hi he
      rw [resN_step hj, ← hc] at he
      by_cases e : i = c
      · subst e; rw [setL_same] at he; simp at he
      · rw [setL_other _ _ e] at he; rw [setV_other _ _ e]; exact hv.nil i hi he
    · have hfre : ∀ q, (Value.slice (some ⟨g, 0, none⟩) ((resN l m j c).length + 1) cap).ownBlock = some q → (VV c).ownBlock = some q ∨ V.heap.size ≤ q := fun q hq => by
        obtain rfl : g = q := by simpa [Value.ownBlock] using hq
        rcases hat with h1 | h1
        · exact .inl h1
        · right; omega
      intro i k q hi hk h1 h2
      by_cases e : i = c
      · by_cases f : k = c
        · omega
        · subst e
          rw [setV_same] at h1; rw [setV_other _ _ f] at h2
          rcases hfre q h1 with h3 | h3
          · exact hv.apart i k q hi hk h3 h2
          · have := ((hv.rows k hk).lt q h2).2; omega
      · by_cases f : k = c
        · subst f
          rw [setV_same] at h2; rw [setV_other _ _ e] at h1
          rcases hfre q h2 with h3 | h3
          · exact hv.apart i k q hi hk h1 h3
          · have := ((hv.rows i hi).lt q h1).2; omega
        · rw [setV_other _ _ e] at h1; rw [setV_other _ _ f] at h2; exact hv.apart i k q hi hk h1 h2
  · refine ((Stay.below (V := V) (W := V.drew.alloc (.cells #[.int .i64 (at_ l j).k.sp, .int .u64 (at_ l j).k.va, .int .i64 (at_ l j).k.sz, .int .i64 (at_ l j).v] 83)) ((Below.refl _ V).drew.alloc (Nat.le_refl _) _)).trans (Stay.grown hg (fun q hq => .inr fun o ho hs => ?_))).trans (Stay.grown hg3 (fun q hq => .inl (by cases hq; exact F.mb1)))
    obtain ⟨_, hlq, cur, hcq⟩ := hrow q hq
    rw [ha q hlq, hcq] at ho
    cases ho
    rcases (hv.rows c hcm).2 with ⟨hn, _⟩ | ⟨g', cap', cur', hv', _, hgg, h1, h2, h3, h4⟩
    · rw [hn] at hq; cases hq
    · rw [hv'] at hq
      obtain rfl : g' = q := by simpa [Value.ownBlock] using hq
      rw [hcq] at hgg
      cases hgg
      have : cur.size = 1 := hs
      omega
/-- At the end: the table has the new chains. -/
theorem RS.done {w V X : World} {B C cb rb mb xb m sb bm n : Nat} {v : Value} {bl : Int} {L : Nat → List Bk} {V0 : Nat → Value} {O : Nat → Prop} (F : RF w C cb rb mb xb m v (allL L n)) (ht : TabAt w sb bm n bl L V0) (hO : ∀ k, O k ↔ own sb bm n V0 k)
    (h : RS w B C cb rb mb xb m v (allL L n) (allL L n).length V) (hD : V.heap[C]? = some (.deferred (some []))) (hos : X.os = V.os) (htp : X.tape = V.tape) (hou : X.output = V.output) (hsz : X.heap.size = V.heap.size)
    (hsb : X.heap[sb]? = some (.cells #[.int .i64 bl, .int .i64 (lenL L n : Int), .int .i64 (m : Int), .map (some mb)] 66 (0, 0)))
    (hX : ∀ k, k ≠ sb → k ≠ C → X.heap[k]? = V.heap[k]?) : TabTo w X sb O m bl (resT L n m) := by
  obtain ⟨VV, rv⟩ := h.rv
  have hsl := ht.lt (.inl rfl)
  have hlen : lenL (resT L n m) m = lenL L n := res_len F.m0
  have hfew := ht.few
  have hC0 := F.C0
  have hrows : ∀ i, i < m → X.ownsRow 0 83 4 (VV i) (resT L n m i).length (bkL (resT L n m i)) := fun i hi => by
    have h1 := rv.rows i hi
    rw [resN_all] at h1
    refine own_base (own_same h1 (fun g hg => ?_))
    obtain ⟨cur, hc⟩ := own_obj h1 hg
    have := (h1.lt g hg).1
    exact hX g (by omega) (fun e => by rw [e, hD] at hc; cases hc)
  have hT : TabAt X sb mb m bl (resT L n m) VV := by
    refine ⟨by rw [hlen]; exact hsb, map_same rv.map ?_, hrows, fun i hi he => rv.nil i hi (by rw [resN_all]; exact he), rv.apart, ht.good.res m, F.m0, F.m1, by rw [hlen]; exact hfew, ht.b1⟩
    obtain ⟨D, ⟨es, clock, h1, _⟩, _⟩ := rv.map
    have := F.mb0
    exact hX mb (by omega) (fun e => by rw [e, hD] at h1; cases h1)
  refine ⟨own sb mb m VV, ⟨mb, VV, hT, fun _ => Iff.rfl⟩, ⟨hos.trans h.bel.os, htp.trans h.bel.tape, hou.trans h.bel.output, by rw [hsz]; exact h.bel.size, fun k hk hk2 => (hX k (fun e => hk2 (by rw [e]; exact (hO sb).2 (.inl rfl))) (by omega)).trans (h.bel.block k hk)⟩, fun k hk => ?_⟩
  rcases hk with rfl | rfl | ⟨i, hi, e⟩
  · exact .inl ((hO _).2 (.inl rfl))
  · exact .inr F.mb0
  · have h1 := rv.rows i hi
    have := (h1.lt k e).1
    exact .inr (by omega)
end Go.Proofs.Ytilijnalhkeggaa.Hs
