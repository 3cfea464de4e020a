/-
  Contracts and plain facts: NLoops, NNew, NList, NDoc, NLive, NBegin, NDeed, NCar. Conditions: each says its own.
-/
import Derived.Test.YtnbdoemnepfhdaaGreatR22
import Derived.Test.YtnbdoemnepfhdaaGreatR24
import Derived.Test.YtnbdoemnepfhdaaGreatR5
import Derived.Test.YtnbdoemnepfhdaaGreatR10
import Derived.Test.YtnbdoemnepfhdaaGreatR11
import Derived.Test.YtnbdoemnepfhdaaGreatR12
import Derived.Test.YtnbdoemnepfhdaaGreatR7
namespace Go.Proofs.YtnbdoemnepfhdaaGreat.Ts
open Fld
open Pt (idxI idx_bd slotI lastI)
open Mem (MemAt MemTo word setW)
open Go.ChangeShapes Go.WideShapes Go.ChangeAt Go.RowKit Go.Shelf
attribute [local go_sem] Oper.semAt_some
set_option maxRecDepth 100000
set_option maxHeartbeats 2000000
theorem Firm.tsb (B st sb bm : Nat) (p : Par) (T : Nat → Pl) : Firm B (fun V => TsbAt V st sb bm p T) := fun _ _ h hs => h.soft hs
theorem Firm.bel {w : World} {B : Nat} (hB : w.heap.size ≤ B) : Firm B (fun V => Below w.heap.size w V) := fun _ _ h hs =>
  ⟨hs.os.trans h.os, hs.tape.trans h.tape, hs.output.trans h.output, Nat.le_trans h.size hs.size, fun k hk => (hs.block k (Nat.lt_of_lt_of_le hk h.size) (.inl (by omega))).trans (h.block k hk)⟩
theorem Firm.turn {w : World} {B : Nat} (sb bm : Nat) (hB : w.heap.size ≤ B) : Firm B (fun V => Mem.Turn w V sb bm) := fun _ _ h hs =>
  ⟨hs.os.trans h.os, hs.tape.trans h.tape, hs.output.trans h.output, Nat.le_trans h.size hs.size, fun k hk h1 h2 => (hs.block k (Nat.lt_of_lt_of_le hk h.size) (.inl (by omega))).trans (h.block k hk h1 h2)⟩
theorem Firm.ex {α : Type} {B : Nat} {I : α → World → Prop} (h : ∀ a, Firm B (I a)) : Firm B (fun V => ∃ a, I a V) := fun V V' ⟨a, ha⟩ hs => ⟨a, h a V V' ha hs⟩
/-- A box of one cell is none of a TSB's blocks. -/
theorem TsbAt.ne_box {w : World} {st sb bm b : Nat} {p : Par} {T : Nat → Pl} (h : TsbAt w st sb bm p T) {v : Value} {t : TypeId} {f : Nat × Nat} (hb : w.heap[b]? = some (.cells #[v] t f)) : b ≠ st ∧ b ≠ sb ∧ b ≠ bm := by
  obtain ⟨g, hm, _⟩ := h.mem
  obtain ⟨m, _, h1⟩ := hm.row
  obtain ⟨D, ⟨es, clock, h2, _⟩, _⟩ := hm.words
  refine ⟨?_, ?_, ?_⟩
  · rintro rfl; rw [h.row.row] at hb; simp at hb
  · rintro rfl; rw [h1] at hb; simp at hb
  · rintro rfl; rw [h2] at hb; cases hb
theorem TsbAt.setBox {w : World} {st sb bm b : Nat} {p : Par} {T : Nat → Pl} (h : TsbAt w st sb bm p T) {v : Value} {t : TypeId} {f : Nat × Nat} (hb : w.heap[b]? = some (.cells #[v] t f)) (u : Value) : TsbAt (w.setCell ⟨b, 0, none⟩ u) st sb bm p T := by
  obtain ⟨a, b, c⟩ := h.ne_box hb
  exact h.same (Below.heap_setCell _ _ _ _ (Ne.symm a)) (Below.heap_setCell _ _ _ _ (Ne.symm b)) (Below.heap_setCell _ _ _ _ (Ne.symm c))
theorem box_turn {w w' : World} {st sb bm b : Nat} {p : Par} {T : Nat → Pl} (h : TsbAt w st sb bm p T) (ht : Mem.Turn w w' sb bm) {v : Value} {t : TypeId} {f : Nat × Nat} (hb : w.heap[b]? = some (.cells #[v] t f)) : w'.heap[b]? = some (.cells #[v] t f) :=
  stay_turn (B := 0) h ht b _ (Nat.zero_le _) hb rfl
theorem box_set {w : World} {b : Nat} {v : Value} {t : TypeId} {f : Nat × Nat} (hb : w.heap[b]? = some (.cells #[v] t f)) (u : Value) : (w.setCell ⟨b, 0, none⟩ u).heap[b]? = some (.cells #[u] t f) := by
  rw [Mem.heap_set hb]; rfl
theorem alloc_old {w : World} {b : Nat} {o : Obj} (hb : w.heap[b]? = some o) (o' : Obj) : (w.alloc o').heap[b]? = some o := (Below.heap_alloc _ _ _ (Array.getElem?_eq_some_iff.1 hb).1).trans hb
theorem alloc_new2 (w : World) (o o' : Obj) : ((w.alloc o).alloc o').heap[w.heap.size + 1]? = some o' := by
  have := World.alloc_heap_new (w.alloc o) o'
  rwa [World.size_alloc] at this
theorem clear_any {st sb bm : Nat} {p : Par} {T : Nat → Pl} (w : World) (h : TsbAt w st sb bm p T) :
    Calls Tryz.prog 102 #[.pointer (some ⟨st, 0, none⟩)] w fun e w' => e = .returned (.tuple #[]) ∧ TsbTo w w' st sb bm p (fun _ => Pl.none) := by
  have hnb := h.ok.n_bd
  refine (callsIn_wide (n := 3)).1 ?_
  refine callsIn_of_wp_marks Tryz.func102 rfl trivial ?_ rfl; simp only [Tryz.ntmps102, List.size_toArray, List.length_cons, List.length_nil, Nat.reduceAdd, Nat.reduceSub, Array.replicate_succ, Array.replicate_zero, List.push_toArray, List.append_toArray, List.nil_append, List.cons_append]
  have z1 : Below w.heap.size w (w.alloc (.cells #[.pointer (some ⟨st, 0, none⟩)] 47)) := (Below.refl _ _).alloc (Nat.le_refl _) _
  have b1 : (w.alloc (.cells #[.pointer (some ⟨st, 0, none⟩)] 47)).heap[w.heap.size]? = some (.cells #[.pointer (some ⟨st, 0, none⟩)] 47 (0, 0)) := World.alloc_heap_new _ _
  have s1 : (w.alloc (.cells #[.pointer (some ⟨st, 0, none⟩)] 47)).heap.size = w.heap.size + 1 := by simp
  have h1 := h.low z1
  have hl := h.lt
  have hok := h.ok
  clear h
  gi_wp2
  generalize (World.alloc w (.cells #[.pointer (some ⟨st, 0, none⟩)] 47)) = W1 at *
  refine range_it (n := 3) (gf := 69) (bnd := #[.pointer (some ⟨st, 0, none⟩)]) (lb := #[]) rfl (enters_of Tryz.func69 (by kernel_rfl) rfl) (fun n => places_iter n (st := st) (sb := sb) hok) (fun _ => rfl)
    (fun i V => (∃ b', TsbAt V st sb b' p (fun j => if j < i then Pl.none else T j) ∧ (b' = bm ∨ w.heap.size ≤ b')) ∧ Mem.Turn w V sb bm ∧ V.heap[w.heap.size]? = some (.cells #[.pointer (some ⟨st, 0, none⟩)] 47 (0, 0)))
    (fun i V h => by obtain ⟨⟨b', ht, _⟩, _⟩ := h; exact ht.row)
    (fun i => Firm.and (Firm.ex fun b' => Firm.and (Firm.tsb _ _ _ _ _ _) (Firm.pure _ _)) (Firm.and (Firm.turn _ _ (by omega)) (Firm.cells _ _ _ _ _)))
    (fun _ _ _ _ h => absurd trivial h) ⟨⟨bm, h1.congr (fun _ _ => by simp), .inl rfl⟩, turn_low _ _ z1, b1⟩
    (fun i a' _ => a' = { tmps := #[.pointer (some ⟨st, 0, none⟩), .pointer (some ⟨w.heap.size, 0, none⟩), undef, .int .u64 ((p.b + 16 * i : Nat) : Int), .pointer (some ⟨st, 0, none⟩), .func (.func 69) #[.pointer (some ⟨st, 0, none⟩)] #[], .int .i64 (i : Int), .int .u64 ((p.b + 16 * i : Nat) : Int), undef, undef, undef], defers := [] })
    (fun i a' => Firm.pure _ _) ?assign ?body ?done
  case assign =>
    intro m l2 i V K hI hi _ hK
    unfold encP
    gi_wp2
    exact hK _ _ (Stay.refl _ _) hI rfl
  case body =>
    rintro m l2 i a' V ⟨⟨b', ht, hb'⟩, htn, c1⟩ rfl hi _
    have CE := Lib.hid (empty_any V ht hi)
    have e1 := cell_row 0 c1 rfl
    have hT : setP (fun j => if j < i then Pl.none else T j) i Pl.none = (fun j => if j < i + 1 then Pl.none else T j) := by
      funext j
      show (if j = i then Pl.none else if j < i then Pl.none else T j) = (if j < i + 1 then Pl.none else T j)
      by_cases h1 : j = i
      · subst h1; rw [if_pos rfl, if_pos (by omega)]
      · rw [if_neg h1]
        by_cases h2 : j < i
        · rw [if_pos h2, if_pos (by omega)]
        · rw [if_neg h2, if_neg (by omega)]
    rw [hT] at CE
    have hsz := htn.size
    clear hT
    generalize p.b + 16 * i = A at *
    gi_wp2_with (((first | (refine ⟨trivial, ?_⟩; gi_at_call 128) | (refine ⟨trivial, fun h => absurd h (by decide), ?_⟩; gi_at_call 128)); refine (CallsIn.inRound l2 (callsIn_wide.2 CE.out)).mono ?_; rintro e w' ⟨rfl, b2, t2, n2, u2⟩))
    refine ⟨stay_turn ht u2, ⟨b2, t2, ?_⟩, htn.trans u2 hb', box_turn ht u2 c1⟩
    rcases n2 with rfl | n2
    · exact hb'
    · exact .inr (by omega)
  case done =>
    rintro V ⟨⟨b', ht, hb'⟩, htn, c1⟩ hK
    unfold lastMark
    gi_wp2
    refine ⟨by simp, .inl ⟨_, _, rfl, run_takeDeferred hK, ?_⟩⟩
    have hs := Soft.put (B := W1.heap.size) (o' := .deferred none) hK trivial (by omega)
    exact ⟨_, results_none rfl _ _ _, rfl, b', (ht.soft hs).congr (fun i hi => if_pos hi), hb', (Firm.turn (B := W1.heap.size) _ _ (by omega)) _ _ htn hs⟩
end Go.Proofs.YtnbdoemnepfhdaaGreat.Ts

namespace Go.Proofs.YtnbdoemnepfhdaaGreat.Ts
open Fld
open Pt (idxI idx_bd slotI lastI)
open Mem (MemAt MemTo word setW mayI)
open Go.ChangeShapes Go.WideShapes Go.ChangeAt Go.RowKit Go.Shelf
set_option maxRecDepth 100000
set_option maxHeartbeats 2000000
def newE (S b s g : Int) : Int := if placesI s g = 0 then 1 else if mayI S b 16 16 = 0 then mayI S (lastI b (placesI s g)) 16 16 else mayI S b 16 16
theorem index_two (b L : Int) (k : Nat) (hk : k < 2) (w : World) : (Instr.index 146 (.agg #[.int .u64 b, .int .u64 L]) (.int .i64 (k : Int))).run Tryz.prog w = .ok (.int .u64 (if k = 0 then b else L)) w := by
  have : k = 0 ∨ k = 1 := by omega
  rcases this with rfl | rfl <;> (show _ = _; kernel_rfl)
theorem may_in {S a : Int} (h : mayI S a 16 16 = 0) : a % 16 = 0 ∧ a + 16 ≤ S := by
  unfold mayI at h; split at h
  · omega
  · split at h <;> omega
theorem new_par {S : Nat} {b s g : Int} {o : Nat → Nat} (hS : S ≤ 2199023255552) (b0 : 0 ≤ b) (he : newE S b s g = 0) : (⟨S, b.toNat, (placesI s g).toNat, s, g, o⟩ : Par).Ok := by
  unfold newE at he
  split at he
  · omega
  · rename_i h0
    have hok : sizeB s = true ∧ 0 ≤ g ∧ g ≤ 3 := by
      by_cases hh : sizeB s = true ∧ 0 ≤ g ∧ g ≤ 3
      · exact hh
      · exact absurd (places_no hh) h0
    have hbd := places_bd hok.1 hok.2.1 hok.2.2
    split at he
    · rename_i h1
      have q1 := may_in h1
      have q2 := may_in he
      unfold lastI at q2
      rw [if_pos (by omega)] at q2
      exact ⟨hok.1, hok.2.1, hok.2.2, by show ((placesI s g).toNat : Int) = placesI s g; omega, by show b.toNat % 16 = 0; omega, by show b.toNat + 16 * (placesI s g).toNat ≤ S; omega, hS⟩
    · rename_i h1; exact absurd he h1
theorem new_yes (S : Nat) (g0 : Nat → Nat) (sb bm : Nat) (b s g : Int) (b0 : 0 ≤ b) (b1 : b ≤ 18446744073709551615) (w : World) (h : MemAt w sb bm S g0) (he : newE S b s g = 0) :
    Calls Tryz.prog 65 #[.pointer (some ⟨sb, 0, none⟩), .int .u64 b, .int .i64 s, .int .i64 g] w fun e w' => e = .returned (.tuple #[.pointer (some ⟨w.heap.size, 0, none⟩), .int .i64 0]) ∧ ∃ bm', TsbAt w' w.heap.size sb bm' ⟨S, b.toNat, (placesI s g).toNat, s, g, g0⟩ (fun _ => Pl.none) ∧ (bm' = bm ∨ w.heap.size ≤ bm') ∧ Mem.Turn w w' sb bm := by
  have hok := new_par (o := g0) h.good.le b0 he
  have CP := Lib.hid (fun W => places_any s g W)
  unfold newE at he
  by_cases h0 : placesI s g = 0
  · rw [if_pos h0] at he; exact absurd he (by decide)
  · rw [if_neg h0] at he
    have hn := hok.n_bd
    have hbd : 1 ≤ placesI s g ∧ placesI s g ≤ 4096 := by
      have e1 : 1 ≤ (placesI s g).toNat := hn.1
      have e2 : (placesI s g).toNat ≤ 4096 := hn.2
      omega
    have CL := Lib.hid (fun W => Pt.last_any b (placesI s g) b0 b1 hbd.1 hbd.2 W)
    have hlb : 0 ≤ lastI b (placesI s g) ∧ lastI b (placesI s g) ≤ 18446744073709551615 := by unfold lastI; split <;> omega
    have C1 := Lib.hid (fun n => Mem.pair_any sb bm S g0 b (w.drewN n) (h.drewN n) b0 (by omega))
    have C2 := Lib.hid (fun n => Mem.pair_any sb bm S g0 (lastI b (placesI s g)) (w.drewN n) (h.drewN n) hlb.1 (by omega))
    have e1 : mayI S b 16 16 = 0 := by
      by_cases hh : mayI S b 16 16 = 0
      · exact hh
      · rw [if_neg hh] at he; exact absurd he hh
    rw [if_pos e1] at he
    rw [e1] at C1
    rw [he] at C2
    have HC := Lib.hid (fun W (hW : TsbAt W w.heap.size sb bm ⟨S, b.toNat, (placesI s g).toNat, s, g, g0⟩ (fun i => ⟨((word g0 (b.toNat + 16 * i) : Nat) : Int), ((word g0 (b.toNat + 16 * i + 8) : Nat) : Int)⟩)) => clear_any W hW)
    have HT := Lib.hid (show ∀ m, TsbAt ((w.drewN m).alloc (.cells #[.pointer (some ⟨sb, 0, none⟩), .int .u64 b, .int .i64 s, .int .i64 g] 111)) w.heap.size sb bm ⟨S, b.toNat, (placesI s g).toNat, s, g, g0⟩ (fun i => ⟨((word g0 (b.toNat + 16 * i) : Nat) : Int), ((word g0 (b.toNat + 16 * i + 8) : Nat) : Int)⟩) from fun m => by
      refine ⟨hok, ⟨?_⟩, g0, (h.drewN m).same (Below.heap_alloc _ _ _ h.lt.1) (Below.heap_alloc _ _ _ h.lt.2), fun i _ => ⟨rfl, rfl⟩, fun _ _ => rfl⟩
      have := World.alloc_heap_new (w.drewN m) (.cells #[.pointer (some ⟨sb, 0, none⟩), .int .u64 b, .int .i64 s, .int .i64 g] 111)
      rw [show ((⟨S, b.toNat, (placesI s g).toNat, s, g, g0⟩ : Par).b : Int) = b from Int.toNat_of_nonneg b0]
      exact this)
    generalize lastI b (placesI s g) = L at *
    generalize (⟨S, b.toNat, (placesI s g).toNat, s, g, g0⟩ : Par) = P at *
    generalize (fun i : Nat => (⟨((word g0 (b.toNat + 16 * i) : Nat) : Int), ((word g0 (b.toNat + 16 * i + 8) : Nat) : Int)⟩ : Pl)) = T0 at *
    generalize placesI s g = n at *
    generalize Mem.rdP S g0 b 0 = x1 at *
    generalize Mem.rdP S g0 b 8 = x2 at *
    generalize Mem.rdP S g0 L 0 = y1 at *
    generalize Mem.rdP S g0 L 8 = y2 at *
    have hlt2 := h.lt
    clear h e1 he hok hn
    have hn0 : ¬ n = 0 := h0
    have hix := index_two b L
    go_enter Tryz.func65, Tryz.ntmps65
    go_wp2_with (first | (go_at_call 40; refine (CP.out _).mono ?_; rintro e w' ⟨rfl, rfl⟩) | (go_at_call 101; refine (CL.out _).mono ?_; rintro e w' ⟨rfl, m0, rfl⟩))
    go_loopw [27] (fun i wr => ∃ k m : Nat, i = .int .i64 (k : Int) ∧ k ≤ 2 ∧ wr = w.drewN m) (fun i _ => 2 - (intOf i).toNat)
    case atStart => exact ⟨0, m0, rfl, by omega, rfl⟩
    case round =>
      obtain ⟨k, m, rfl, hk, rfl⟩ := hrel
      by_cases hlt : k < 2
      · have C := Lib.hid (fun n => if h : k = 0 then (show Calls Tryz.prog 74 #[.pointer (some ⟨sb, 0, none⟩), .int .u64 (if k = 0 then b else L)] (w.drewN n) fun e w' => e = .returned (.tuple #[.int .u64 (if k = 0 then x1 else y1), .int .u64 (if k = 0 then x2 else y2), .int .i64 0]) ∧ ∃ m, w' = (w.drewN n).drewN m by rw [if_pos h, if_pos h, if_pos h]; exact C1.out n) else (show Calls Tryz.prog 74 #[.pointer (some ⟨sb, 0, none⟩), .int .u64 (if k = 0 then b else L)] (w.drewN n) fun e w' => e = .returned (.tuple #[.int .u64 (if k = 0 then x1 else y1), .int .u64 (if k = 0 then x2 else y2), .int .i64 0]) ∧ ∃ m, w' = (w.drewN n).drewN m by rw [if_neg h, if_neg h, if_neg h]; exact C2.out n))
        have hi := hix k hlt
        clear hix C1 C2 HC HT
        generalize (if k = 0 then b else L) = X at *
        generalize (if k = 0 then x1 else y1) = xx at *
        generalize (if k = 0 then x2 else y2) = yy at *
        have hlt' : (k : Int) < 2 := by omega
        go_wp2_with (go_at_call 74; (with_reducible refine (C.out _).mono ?_); rintro e w' ⟨rfl, m2, rfl⟩)
        go_roundw
        case rel => exact ⟨k + 1, m + m2, by go_num, by omega, rfl⟩
        case measure => simp [intOf]; omega
      · have hlt' : ¬ (k : Int) < 2 := by omega
        have ht := HT.out m
        have hb : Below w.heap.size w ((w.drewN m).alloc (.cells #[.pointer (some ⟨sb, 0, none⟩), .int .u64 b, .int .i64 s, .int .i64 g] 111)) := (drewN_low w m).alloc (Nat.le_refl _) _
        clear hix C1 C2 HT
        go_wp2_with fail
        refine (HC.out _ ht).mono ?_
        rintro r w3 ⟨rfl, b3, t3, n3, u3⟩
        clear HC
        go_wp2_with fail
        go_ret2
        refine ⟨rfl, b3, t3, ?_, (turn_low sb bm hb).trans u3 (.inl rfl)⟩
        rcases n3 with rfl | n3
        · exact .inl rfl
        · exact .inr (Nat.le_trans hb.size n3)
end Go.Proofs.YtnbdoemnepfhdaaGreat.Ts

namespace Go.Proofs.YtnbdoemnepfhdaaGreat.Ts
open Fld
open Pt (idxI idx_bd slotI lastI)
open Mem (MemAt MemTo word setW)
open Tl (ListAt DocAt nthE eleven eleven_one rowL_list cell_eleven_new doc_low list_nil infoE rowL_length)
open Go.ChangeShapes Go.WideShapes Go.ChangeAt Go.RowKit Go.Shelf
attribute [local go_sem] Oper.semAt_some
set_option maxRecDepth 100000
set_option maxHeartbeats 2000000
theorem Firm.list (B C : Nat) (v : Value) (l : List Ent) : Firm B (fun V => ListAt V C v l) := fun V V' h hs => by
  refine ⟨h.1, ?_⟩
  rcases h.2 with hn | ⟨g, cap, cur, rfl, hb2, hg, rest⟩
  · exact .inl hn
  · exact .inr ⟨g, cap, cur, rfl, hb2, (Firm.cells B g _ _ _) V V' hg hs, rest⟩
theorem Firm.rowE (B b : Nat) (e : Ent) : Firm B (fun V => RowE V b e) := fun V V' h hs => ⟨(Firm.cells B b _ _ _) V V' h.row hs⟩
/-- The list's row is no box. -/
theorem list_spare {V : World} {C : Nat} {v : Value} {l : List Ent} (h : ListAt V C v l) : ∀ j, v.ownBlock = some j → ∀ o, V.heap[j]? = some o → ¬ Sp o := by
  intro j hj o ho hs
  rcases h.2 with ⟨rfl, _⟩ | ⟨g, cap, cur, rfl, hb2, hg, h1, h2, h3, h4⟩
  · simp [Value.ownBlock] at hj
  · simp [Value.ownBlock] at hj
    subst hj
    rw [hg] at ho
    cases ho
    have : cur.size = 1 := hs
    omega
theorem list_far {V : World} {C b : Nat} {v : Value} {l : List Ent} (h : ListAt V C v l) (hb : b < C) (u : Value) : ListAt (V.setCell ⟨b, 0, none⟩ u) C v l := by
  refine ⟨h.1, ?_⟩
  rcases h.2 with hn | ⟨g, cap, cur, rfl, hb2, hg, rest⟩
  · exact .inl hn
  · exact .inr ⟨g, cap, cur, rfl, hb2, (Below.heap_setCell _ _ _ _ (by show g ≠ b; omega)).trans hg, rest⟩
theorem tlist_any {st sb bm : Nat} {p : Par} {T : Nat → Pl} (w : World) (h : TsbAt w st sb bm p T) :
    Calls Tryz.prog 13 #[.pointer (some ⟨st, 0, none⟩)] w fun e w' => ∃ v, e = .returned v ∧ ListAt w' w.heap.size v (lstP p T p.n) ∧ Below w.heap.size w w' := by
  obtain ⟨i0, hi0, hz0, hz1, hz2⟩ := info_parts infoE
  have hnb := h.ok.n_bd
  refine (callsIn_wide (n := 3)).1 ?_
  refine callsIn_of_wp_marks Tryz.func13 rfl trivial ?_ rfl; simp only [Tryz.ntmps13, List.size_toArray, List.length_cons, List.length_nil, Nat.reduceAdd, Nat.reduceSub, Array.replicate_succ, Array.replicate_zero, List.push_toArray, List.append_toArray, List.nil_append, List.cons_append]
  have z1 : Below w.heap.size w (w.alloc (.cells #[.slice none 0 0] 35)) := (Below.refl _ _).alloc (Nat.le_refl _) _
  have b1 : (w.alloc (.cells #[.slice none 0 0] 35)).heap[w.heap.size]? = some (.cells #[.slice none 0 0] 35 (0, 0)) := World.alloc_heap_new _ _
  have s1 : (w.alloc (.cells #[.slice none 0 0] 35)).heap.size = w.heap.size + 1 := by simp
  have h1 := h.low z1
  have hl := h.lt
  have hok := h.ok
  clear h
  gi_wp2
  generalize (World.alloc w (.cells #[.slice none 0 0] 35)) = W1 at *
  refine range_it (n := 3) (gf := 42) (bnd := #[.pointer (some ⟨st, 0, none⟩)]) (lb := #[]) rfl (enters_of Tryz.func42 (by kernel_rfl) rfl) (fun n => entries_iter n (st := st) (sb := sb) hok T) (fun _ => rfl)
    (fun i V => Below w.heap.size w V ∧ TsbAt V st sb bm p T ∧ ∃ v, V.heap[w.heap.size]? = some (.cells #[v] 35 (0, 0)) ∧ ListAt V (w.heap.size + 1) v (lstP p T i))
    (fun i V h => ⟨bm, T, h.2.1, fun _ _ _ => rfl⟩)
    (fun i => Firm.and (Firm.bel (by omega)) (Firm.and (Firm.tsb _ _ _ _ _ _) (Firm.ex fun v => Firm.and (Firm.cells _ _ _ _ _) (Firm.list _ _ _ _))))
    (fun i V h _ hno => by rw [lst_miss hno]; exact h) ⟨z1, h1, _, b1, list_nil _ _⟩
    (fun i a' V => ∃ eb, a' = { tmps := #[.pointer (some ⟨st, 0, none⟩), undef, .slice none 0 0, .pointer (some ⟨w.heap.size, 0, none⟩), undef, .pointer (some ⟨eb, 0, none⟩), .pointer (some ⟨st, 0, none⟩), .func (.func 42) #[.pointer (some ⟨st, 0, none⟩)] #[], .int .u64 ((p.b + 16 * i : Nat) : Int), .agg #[.int .i64 (ownE p T i).size, .int .i64 (ownE p T i).ctx, .int .u64 (ownE p T i).va, .int .u64 (ownE p T i).pa, .bool (ownE p T i).att.write, .bool (ownE p T i).att.priv, .bool (ownE p T i).att.exec, .bool (ownE p T i).att.lock, .bool (ownE p T i).att.global, .bool (ownE p T i).att.quiet, .bool (ownE p T i).valid], undef, undef, undef, undef, undef], defers := [] } ∧ RowE V eb (ownE p T i))
    (fun i a' => Firm.ex fun eb => Firm.and (Firm.pure _ _) (Firm.rowE _ _ _)) ?assign ?body ?done
  case assign =>
    rintro m l2 i V K hI hi _ hK
    have hI2 := hI
    obtain ⟨hB, ht, v, c1, hv⟩ := hI
    generalize hE : ownE p T i = E at *
    have NL : Below V.heap.size V (V.alloc (.cells #[.int .i64 E.size, .int .i64 E.ctx, .int .u64 E.va, .int .u64 E.pa, .bool E.att.write, .bool E.att.priv, .bool E.att.exec, .bool E.att.lock, .bool E.att.global, .bool E.att.quiet, .bool E.valid] 30)) := (Below.refl _ _).alloc (Nat.le_refl _) _
    have NR := RowE.new V E
    have hI3 := (Firm.and (Firm.bel (w := w) (B := W1.heap.size) (by omega)) (Firm.and (Firm.tsb _ _ _ _ _ _) (Firm.ex fun v => Firm.and (Firm.cells _ _ _ _ _) (Firm.list _ _ _ _)))).sub NL hI2
    have hS : Stay W1.heap.size V _ := Stay.below NL
    unfold encE
    rw [hE]
    gi_wp2
    exact hK _ _ hS hI3 ⟨_, rfl, NR⟩
  case body =>
    rintro m l2 i a' V ⟨hB, ht, v, c1, hv⟩ ⟨eb, rfl, hR⟩ hi hown
    have e1 := cell_row 0 c1 rfl
    obtain ⟨d0, d1, d2, d3, d4, d5, d6, d7, d8, d9, d10⟩ := hR.cells
    have fz : V.frozen? ⟨w.heap.size, 0, none⟩ = false := by simp [World.frozen?, c1]
    have hlen := lst_le p T i
    have HS := Lib.hid (lst_hit hown)
    have hspare := Lib.hid (list_spare hv)
    generalize ownE p T i = E at *
    have NL : Below V.heap.size V (V.alloc (.cells #[.int .i64 E.size, .int .i64 E.ctx, .int .u64 E.va, .int .u64 E.pa, .bool E.att.write, .bool E.att.priv, .bool E.att.exec, .bool E.att.lock, .bool E.att.global, .bool E.att.quiet, .bool E.valid] 30)) := (Below.refl _ _).alloc (Nat.le_refl _) _
    have HC := Lib.hid (cell_eleven_new V E 30)
    have HE := Lib.hid (rowL_list (lstP p T i) E)
    have HO := Lib.hid (eleven_one E)
    obtain ⟨mm, hm⟩ : ∃ mm, (lstP p T i).length = mm := ⟨_, rfl⟩
    have hO2 : V.ownsRow (w.heap.size + 1) 30 11 v mm (Tl.rowL (nthE (lstP p T i)) mm) := by rw [← hm]; exact hv
    rw [hm] at hlen
    have HMM := Lib.hid hm
    have hsz := (Array.getElem?_eq_some_iff.1 c1).1
    have hO3 := hO2.alloc (.cells #[.int .i64 E.size, .int .i64 E.ctx, .int .u64 E.va, .int .u64 E.pa, .bool E.att.write, .bool E.att.priv, .bool E.att.exec, .bool E.att.lock, .bool E.att.global, .bool E.att.quiet, .bool E.valid] 30)
    have hB3 := hB.trans (NL.mono hB.size)
    have ht3 := ht.low NL
    have c3 := (NL.block _ hsz).trans c1
    have e3 := cell_row 0 c3 rfl
    have hsp3 := Lib.hid (show ∀ j, v.ownBlock = some j → ∀ o, (V.alloc (.cells #[.int .i64 E.size, .int .i64 E.ctx, .int .u64 E.va, .int .u64 E.pa, .bool E.att.write, .bool E.att.priv, .bool E.att.exec, .bool E.att.lock, .bool E.att.global, .bool E.att.quiet, .bool E.valid] 30)).heap[j]? = some o → ¬ Sp o from fun j hj o ho => by
      have hlt := (hO2.lt j hj).2
      exact hspare.out j hj o ((NL.block _ hlt).symm.trans ho))
    have hS3 := Stay.below (B := W1.heap.size) NL
    clear hm hv hO2 hspare hown hB ht
    gi_wp2_with (gi_at_builtin; (refine wpListIn_append_own _ rfl _ _ 35 rfl (w.heap.size + 1) 30 i0 _ 11 40 Tryz.underlying35 hi0 hz0 hz1 hz2 rfl (by decide) _ _ _ rfl (by exact hO3) ⟨V.heap.size, 0, none⟩ 1 1 (eleven E) rfl rfl HC.out HO.out (by unfold maxLen; omega) (by omega) (by simp; omega) ?_))
    intro v' w1 hown' hgrow _
    have R1 : ListAt w1 (w.heap.size + 1) v' (lstP p T (i + 1)) := by
      unfold ListAt DocAt
      rw [HS.out, HE.out, List.length_append, HMM.out]; exact hown'
    have hfar : ∀ g, v.ownBlock = some g → w.heap.size + 1 ≤ g := fun g hg => (hO3.lt g hg).1
    have R2 : Below w.heap.size w w1 := hB3.grown hgrow hB3.size (fun g hg => by have := hfar g hg; omega)
    have R3 : Stay W1.heap.size V w1 := hS3.trans (Stay.grown hgrow (fun j hj => .inr (hsp3.out j hj)))
    have c4 : w1.heap[w.heap.size]? = some (.cells #[v] 35 (0, 0)) := (hgrow.block _ (Array.getElem?_eq_some_iff.1 c3).1 (fun e => by have := hfar _ e.symm; omega)).trans c3
    have t4 : TsbAt w1 st sb bm p T := by
      have hl3 := ht3.lt
      exact ht3.same (hgrow.block _ hl3.1 (fun e => by have := hfar _ e.symm; omega)) (hgrow.block _ hl3.2.1 (fun e => by have := hfar _ e.symm; omega)) (hgrow.block _ hl3.2.2.1 (fun e => by have := hfar _ e.symm; omega))
    have e4 := cell_row 0 c4 rfl
    have fz4 : w1.frozen? ⟨w.heap.size, 0, none⟩ = false := by simp [World.frozen?, c4]
    obtain ⟨ao2, cap2, rfl⟩ := own_shape R1
    clear hown' hgrow hO3 hB3 HC HE HO hsp3 e3 c3 ht3 hS3 e1 c1 d0 d1 d2 d3 d4 d5 d6 d7 d8 d9 d10 fz
    gi_wp2
    refine ⟨R3.trans (Stay.cell _ _ _ (by show w.heap.size < _; omega)), R2.setCell (p := ⟨w.heap.size, 0, none⟩) (Nat.le_refl _) _, t4.setBox c4 _, _, box_set c4 _, list_far R1 (Nat.lt_succ_self _) _⟩
  case done =>
    rintro V ⟨hB, ht, v, c1, hv⟩ hK
    have e1 := cell_row 0 c1 rfl
    unfold lastMark
    gi_wp2
    refine ⟨by simp, .inl ⟨_, _, rfl, run_takeDeferred hK, ?_⟩⟩
    have hs := Soft.put (B := W1.heap.size) (o' := .deferred none) hK trivial (by omega)
    exact ⟨_, results_tmp rfl _ _ _, _, rfl, doc_low ((Firm.list _ _ _ _) _ _ hv hs) (Nat.le_succ _), (Firm.bel (B := W1.heap.size) (by omega)) _ _ hB hs⟩
end Go.Proofs.YtnbdoemnepfhdaaGreat.Ts

namespace Go.Proofs.YtnbdoemnepfhdaaGreat.Ts
open Fld
open Pt (idxI idx_bd slotI lastI)
open Mem (MemAt MemTo word setW mayI)
open Go.ChangeShapes Go.WideShapes Go.ChangeAt Go.RowKit Go.Shelf
set_option maxRecDepth 100000
set_option maxHeartbeats 2000000
theorem rplaces_any (s g : Int) (w : World) :
    Calls Tryz.prog 44 #[.int .i64 s, .int .i64 g] w fun e w' => e = .returned (.int .i64 (placesI s g)) ∧ Below w.heap.size w w' := by
  have CM := Lib.hid (fun w => rpmay_any s w)
  cases hs : sizeB s
  · have H := Lib.hid (show (0 : Int) = placesI s g from (places_no (by rw [hs]; simp)).symm)
    rw [hs] at CM
    go_enter Tryz.func44, Tryz.ntmps44
    go_wp2_with (go_at_call 73; refine (CM.out _).mono ?_; rintro e w' ⟨rfl, rfl⟩)
    go_ret
    exact ⟨ret_i H.out, Below.refl _ _⟩
  · rw [hs] at CM
    by_cases h0 : g < 0
    · have H := Lib.hid (show (0 : Int) = placesI s g from (places_no (fun h => by omega)).symm)
      go_enter Tryz.func44, Tryz.ntmps44
      go_wp2_with (go_at_call 73; refine (CM.out _).mono ?_; rintro e w' ⟨rfl, rfl⟩)
      go_ret
      exact ⟨ret_i H.out, Below.refl _ _⟩
    · by_cases h1 : 4 ≤ g
      · have H := Lib.hid (show (0 : Int) = placesI s g from (places_no (fun h => by omega)).symm)
        go_enter Tryz.func44, Tryz.ntmps44
        go_wp2_with (go_at_call 73; refine (CM.out _).mono ?_; rintro e w' ⟨rfl, rfl⟩)
        go_ret
        exact ⟨ret_i H.out, Below.refl _ _⟩
      · have hg : g = 0 ∨ g = 1 ∨ g = 2 ∨ g = 3 := by omega
        have BL : ∀ o1 o2, Below w.heap.size w ((w.alloc o1).alloc o2) := fun o1 o2 => ((Below.refl _ _).alloc (Nat.le_refl _) _).alloc (by simp) _
        have BH := Lib.hid BL
        clear BL
        rcases sizeB_true hs with rfl | rfl | rfl | rfl <;> rcases hg with rfl | rfl | rfl | rfl
        all_goals
          clear hs h0 h1
          go_enter Tryz.func44, Tryz.ntmps44
          go_wp2_with (go_at_call 73; refine (CM.out _).mono ?_; rintro e w' ⟨rfl, rfl⟩)
          go_quiet (fail)
          go_wp2
          go_ret
          exact ⟨rfl, below_drewN (BH.out _ _) _⟩
end Go.Proofs.YtnbdoemnepfhdaaGreat.Ts

namespace Go.Proofs.YtnbdoemnepfhdaaGreat.Ts
open Fld
open Pt (idxI idx_bd slotI lastI)
open Mem (MemAt MemTo word setW mayI)
open Go.ChangeShapes Go.WideShapes Go.ChangeAt Go.RowKit Go.Shelf
set_option maxRecDepth 100000
set_option maxHeartbeats 2000000
/-- A TSB that was made since a world W; nothing that was there then has turned. -/
def New (W w : World) (st : Nat) (p : Par) (T : Nat → Pl) : Prop := ∃ sb bm, W.heap.size ≤ st ∧ W.heap.size ≤ sb ∧ W.heap.size ≤ bm ∧ Below W.heap.size W w ∧ TsbAt w st sb bm p T
theorem New.below {W w : World} {st : Nat} {p : Par} {T : Nat → Pl} (h : New W w st p T) : Below W.heap.size W w := by obtain ⟨_, _, _, _, _, h, _⟩ := h; exact h
theorem New.low {W w w' : World} {st : Nat} {p : Par} {T : Nat → Pl} (h : New W w st p T) (hb : Below w.heap.size w w') : New W w' st p T := by
  obtain ⟨sb, bm, a, b, c, d, e⟩ := h
  exact ⟨sb, bm, a, b, c, d.trans (hb.mono d.size), e.low hb⟩
theorem New.drewN {W w : World} {st : Nat} {p : Par} {T : Nat → Pl} (h : New W w st p T) (n : Nat) : New W (w.drewN n) st p T := h.low (drewN_low w n)
theorem New.to {W w w' : World} {st sb bm : Nat} {p : Par} {T U : Nat → Pl} (a : W.heap.size ≤ st) (b : W.heap.size ≤ sb) (c : W.heap.size ≤ bm) (d : Below W.heap.size W w) (_e : TsbAt w st sb bm p T) (k : TsbTo w w' st sb bm p U) : New W w' st p U := by
  obtain ⟨b', k1, k2, k3⟩ := k
  have hs := d.size
  refine ⟨sb, b', a, b, by omega, ⟨k3.os.trans d.os, k3.tape.trans d.tape, k3.output.trans d.output, Nat.le_trans hs k3.size, fun i hi => ?_⟩, k1⟩
  rw [k3.block i (by omega) (by omega) (by omega)]; exact d.block i hi
/-- What else lies there since W, and is none of the TSB's, stays. -/
theorem New.keeps {w w' : World} {st sb bm : Nat} {p : Par} {T : Nat → Pl} {U : Nat → Pl} (e : TsbAt w st sb bm p T) (k : TsbTo w w' st sb bm p U) {eb : Nat} {x : Ent} (h : RowE w eb x) : RowE w' eb x := by
  obtain ⟨b', k1, k2, k3⟩ := k
  exact row_turn h e k3
end Go.Proofs.YtnbdoemnepfhdaaGreat.Ts

namespace Go.Proofs.YtnbdoemnepfhdaaGreat.Ts
open Fld
open Pt (idxI idx_bd slotI lastI arI ar_bd raround_any)
open Mem (MemAt MemTo word setW mayI)
open Go.ChangeShapes Go.WideShapes Go.ChangeAt Go.RowKit Go.Shelf
set_option maxRecDepth 100000
set_option maxHeartbeats 2000000
theorem rtnew_any (s g : Int) (w : World) :
    Calls Tryz.prog 68 #[.int .i64 s, .int .i64 g] w fun e w' => e = .returned (.agg #[.int .i64 s, .int .i64 (placesI s g), .slice none 0 0]) ∧ Below w.heap.size w w' := by
  have C := Lib.hid (fun W => rplaces_any s g W)
  have z1 : Below w.heap.size w (w.alloc (.cells #[.int .i64 0, .int .i64 0, .slice none 0 0] 68)) := (Below.refl _ _).alloc (Nat.le_refl _) _
  have b1 : (w.alloc (.cells #[.int .i64 0, .int .i64 0, .slice none 0 0] 68)).heap[w.heap.size]? = some (.cells #[.int .i64 0, .int .i64 0, .slice none 0 0] 68 (0, 0)) := World.alloc_heap_new _ _
  generalize placesI s g = n at *
  go_enter Tryz.func68, Tryz.ntmps68
  go_wp2_with fail
  refine (C.out _).mono ?_; rintro e w2 ⟨rfl, hb2⟩
  have b2 := (hb2.block _ (Array.getElem?_eq_some_iff.1 b1).1).trans b1
  have z2 := z1.trans (hb2.mono z1.size)
  clear b1 z1 hb2 C
  have e0 := cell_row 0 b2 rfl
  have e1 := cell_row 1 b2 rfl
  have e2 := cell_row 2 b2 rfl
  have fr : ∀ i, w2.frozen? ⟨w.heap.size, i, none⟩ = false := fun i => by simp [World.frozen?, b2]
  go_wp2
  have b3 : (((w2.setCell ⟨w.heap.size, 0, none⟩ (.int .i64 s)).setCell ⟨w.heap.size, 1, none⟩ (.int .i64 n)).setCell ⟨w.heap.size, 2, none⟩ (.slice none 0 0)).heap[w.heap.size]? = some (.cells #[.int .i64 s, .int .i64 n, .slice none 0 0] 68 (0, 0)) := by
    rw [Mem.heap_set (Mem.heap_set (Mem.heap_set b2 _) _) _]; rfl
  (try simp only [Exit.inBlock, Exit.then])
  refine bodyPost_ret (results_cell_row rfl _ _ _ _ _ (0, 0) _ rfl b3 Tryz.underlying68 (by kernel_rfl) (by kernel_rfl)) rfl ⟨rfl, ?_⟩
  exact ((z2.setCell (p := ⟨w.heap.size, 0, none⟩) (Nat.le_refl _) _).setCell (p := ⟨w.heap.size, 1, none⟩) (Nat.le_refl _) _).setCell (p := ⟨w.heap.size, 2, none⟩) (Nat.le_refl _) _
/-- Cells of another type are none of a TSB's blocks. -/
theorem TsbAt.ne_row {w : World} {st sb bm b : Nat} {p : Par} {T : Nat → Pl} (h : TsbAt w st sb bm p T) {c : Array Value} {t : TypeId} {f : Nat × Nat} (hb : w.heap[b]? = some (.cells c t f)) (ht : t ≠ 98 ∧ t ≠ 111) : b ≠ st ∧ b ≠ sb ∧ b ≠ bm := by
  obtain ⟨g, hm, _⟩ := h.mem
  obtain ⟨m, _, h1⟩ := hm.row
  obtain ⟨D, ⟨es, clock, h2, _⟩, _⟩ := hm.words
  refine ⟨?_, ?_, ?_⟩
  · rintro rfl; rw [h.row.row] at hb; cases hb; exact ht.2 rfl
  · rintro rfl; rw [h1] at hb; cases hb; exact ht.1 rfl
  · rintro rfl; rw [h2] at hb; cases hb
theorem New.set {W w : World} {st b : Nat} {p : Par} {T : Nat → Pl} (h : New W w st p T) {c : Array Value} {t : TypeId} {f : Nat × Nat} (hb : w.heap[b]? = some (.cells c t f)) (ht : t ≠ 98 ∧ t ≠ 111) (hB : W.heap.size ≤ b) (o : Nat) (u : Value) : New W (w.setCell ⟨b, o, none⟩ u) st p T := by
  obtain ⟨sb, bm, x, y, z, d, e⟩ := h
  obtain ⟨n1, n2, n3⟩ := e.ne_row hb ht
  exact ⟨sb, bm, x, y, z, d.setCell (p := ⟨b, o, none⟩) hB u, e.same (Below.heap_setCell _ _ _ _ (Ne.symm n1)) (Below.heap_setCell _ _ _ _ (Ne.symm n2)) (Below.heap_setCell _ _ _ _ (Ne.symm n3))⟩
theorem New.drew {W w : World} {st : Nat} {p : Par} {T : Nat → Pl} (h : New W w st p T) : New W w.drew st p T := h.drewN 1
end Go.Proofs.YtnbdoemnepfhdaaGreat.Ts

namespace Go.Proofs.YtnbdoemnepfhdaaGreat.Ts
open Fld
open Go.ChangeShapes Go.WideShapes Go.ChangeAt Go.RowKit Go.Shelf
set_option maxRecDepth 100000
set_option maxHeartbeats 2000000
structure DeedV where
  kind : Int
  ctx : Int
  va : Int
  e : Ent
  raw : Bool
structure DeedV.wf (d : DeedV) : Prop where
  c0 : -9223372036854775808 ≤ d.ctx
  c1 : d.ctx ≤ 9223372036854775807
  v0 : 0 ≤ d.va
  v1 : d.va ≤ 18446744073709551615
  e : d.e.wf
theorem ok_wf {g : Ent} (h : g.Ok) : g.wf := by
  have h1 := h.fit.s0; have h2 := h.fit.s1; have h3 := h.fit.c0; have h4 := h.fit.c1; have h5 := h.fit.p0; have h6 := h.p1
  exact ⟨⟨by omega, by omega⟩, ⟨by omega, by omega⟩, ⟨h.v0, h.v1⟩, ⟨h5, h6⟩⟩
theorem wf_u {e : Ent} (h : e.wf) : EntU e := ⟨h.2.2.1.1, h.2.2.1.2, h.2.2.2.1, h.2.2.2.2⟩
theorem nrm_id {s : Int} (h : 0 ≤ s ∧ s < 4) : nrm s 4 = s := by
  rw [← nrm_pos s 4 (by omega)]; omega
theorem made_size (e : Ent) {s : Int} (h : 0 ≤ s ∧ s < 4) : ({ e with size := s } : Ent).good.size = s := nrm_id h
/-- An entry of a size, made such as may be there. -/
def made (s : Int) (e : Ent) : Ent := ({ e with size := s } : Ent).good
theorem made_ok (s : Int) (e : Ent) : (made s e).Ok := Ent.good_ok _
end Go.Proofs.YtnbdoemnepfhdaaGreat.Ts

namespace Go.Proofs.YtnbdoemnepfhdaaGreat.Ts
open Fld
open Pt (idxI idx_bd slotI lastI arI ar_bd)
open Tl (ListAt DocAt)
open Go.ChangeShapes Go.WideShapes Go.ChangeAt Go.RowKit Go.Shelf
set_option maxRecDepth 100000
set_option maxHeartbeats 2000000
abbrev Bx := Nat × Array Value × TypeId
def okT (t : TypeId) : Prop := t ≠ 98 ∧ t ≠ 111
def ecell (e : Ent) : Array Value := #[.int .i64 e.size, .int .i64 e.ctx, .int .u64 e.va, .int .u64 e.pa, .bool e.att.write, .bool e.att.priv, .bool e.att.exec, .bool e.att.lock, .bool e.att.global, .bool e.att.quiet, .bool e.valid]
abbrev bx (b : Nat) (e : Ent) : Bx := (b, ecell e, 30)
/-- Boxes that lie there. -/
def Rows (W w : World) (L : List Bx) : Prop := ∀ q ∈ L, w.heap[q.1]? = some (.cells q.2.1 q.2.2 (0, 0)) ∧ okT q.2.2 ∧ W.heap.size ≤ q.1
theorem Rows.low {W w w' : World} {L : List Bx} (h : Rows W w L) (hb : Below w.heap.size w w') : Rows W w' L := fun q hq => by
  obtain ⟨a, b, c⟩ := h q hq
  exact ⟨(hb.block _ (Array.getElem?_eq_some_iff.1 a).1).trans a, b, c⟩
theorem Rows.to {W w w' : World} {st sb bm : Nat} {p : Par} {T : Nat → Pl} {L : List Bx} (h : Rows W w L) (e : TsbAt w st sb bm p T) (k : Mem.Turn w w' sb bm) : Rows W w' L := fun q hq => by
  obtain ⟨a, b, c⟩ := h q hq
  obtain ⟨_, n2, n3⟩ := e.ne_row a b
  exact ⟨(k.block _ (Array.getElem?_eq_some_iff.1 a).1 n2 n3).trans a, b, c⟩
theorem Rows.add {W w : World} {L : List Bx} (h : Rows W w L) {b : Nat} {c : Array Value} {t : TypeId} (hb : w.heap[b]? = some (.cells c t (0, 0))) (ht : okT t) (hB : W.heap.size ≤ b) : Rows W w ((b, c, t) :: L) := fun q hq => by
  rcases List.mem_cons.1 hq with rfl | hq
  · exact ⟨hb, ht, hB⟩
  · exact h q hq
theorem Rows.put {W w : World} {L : List Bx} {b : Nat} {c : Array Value} {t : TypeId} (h : Rows W w ((b, c, t) :: L)) (hne : ∀ q ∈ L, q.1 ≠ b) (o : Nat) (u : Value) : Rows W (w.setCell ⟨b, o, none⟩ u) ((b, c.setIfInBounds o u, t) :: L) := fun q hq => by
  rcases List.mem_cons.1 hq with rfl | hq
  · obtain ⟨x, y, z⟩ := h (b, c, t) (List.mem_cons_self ..)
    exact ⟨Mem.heap_set x u, y, z⟩
  · obtain ⟨x, y, z⟩ := h q (List.mem_cons_of_mem _ hq)
    exact ⟨(Below.heap_setCell _ _ _ _ (hne q hq)).trans x, y, z⟩
structure Car (W w : World) (st : Nat) (p : Par) (T : Nat → Pl) (L : List Bx) : Prop where
  new : New W w st p T
  rows : Rows W w L
theorem Car.low {W w w' : World} {st : Nat} {p : Par} {T : Nat → Pl} {L : List Bx} (h : Car W w st p T L) (hb : Below w.heap.size w w') : Car W w' st p T L := ⟨h.new.low hb, h.rows.low hb⟩
theorem Car.drewN {W w : World} {st : Nat} {p : Par} {T : Nat → Pl} {L : List Bx} (h : Car W w st p T L) (n : Nat) : Car W (w.drewN n) st p T L := h.low (drewN_low w n)
theorem Car.drew {W w : World} {st : Nat} {p : Par} {T : Nat → Pl} {L : List Bx} (h : Car W w st p T L) : Car W w.drew st p T L := h.drewN 1
theorem Car.alloc {W w : World} {st : Nat} {p : Par} {T : Nat → Pl} {L : List Bx} (h : Car W w st p T L) (o : Obj) : Car W (w.alloc o) st p T L := h.low ((Below.refl _ _).alloc (Nat.le_refl _) _)
theorem Car.push {W w : World} {st : Nat} {p : Par} {T : Nat → Pl} {L : List Bx} (h : Car W w st p T L) (c : Array Value) (t : TypeId) (ht : okT t) : Car W (w.alloc (.cells c t)) st p T ((w.heap.size, c, t) :: L) :=
  ⟨(h.alloc _).new, (h.alloc _).rows.add (World.alloc_heap_new _ _) ht h.new.below.size⟩
theorem Car.box {W w : World} {st : Nat} {p : Par} {T : Nat → Pl} {L : List Bx} (h : Car W w st p T L) (e : Ent) : Car W (w.alloc (.cells #[.int .i64 e.size, .int .i64 e.ctx, .int .u64 e.va, .int .u64 e.pa, .bool e.att.write, .bool e.att.priv, .bool e.att.exec, .bool e.att.lock, .bool e.att.global, .bool e.att.quiet, .bool e.valid] 30)) st p T (bx w.heap.size e :: L) :=
  h.push (ecell e) 30 ⟨by decide, by decide⟩
theorem Car.sub {W w : World} {st : Nat} {p : Par} {T : Nat → Pl} {L M : List Bx} (h : Car W w st p T L) (hM : ∀ q ∈ M, q ∈ L) : Car W w st p T M := ⟨h.new, fun q hq => h.rows q (hM q hq)⟩
theorem Car.row {W w : World} {st : Nat} {p : Par} {T : Nat → Pl} {L : List Bx} (h : Car W w st p T L) {b : Nat} {e : Ent} (hq : bx b e ∈ L) : RowE w b e := ⟨(h.rows _ hq).1⟩
theorem Car.put {W w : World} {st b : Nat} {p : Par} {T : Nat → Pl} {c : Array Value} {t : TypeId} {L : List Bx} (h : Car W w st p T ((b, c, t) :: L)) (hne : ∀ q ∈ L, q.1 ≠ b) (o : Nat) (u : Value) : Car W (w.setCell ⟨b, o, none⟩ u) st p T ((b, c.setIfInBounds o u, t) :: L) := by
  obtain ⟨x, y, z⟩ := h.rows (b, c, t) (List.mem_cons_self ..)
  exact ⟨h.new.set x y z o u, h.rows.put hne o u⟩
theorem Car.to {W w w' : World} {st sb bm : Nat} {p : Par} {T U : Nat → Pl} {L : List Bx} (h : Car W w st p T L) (a : W.heap.size ≤ st) (b : W.heap.size ≤ sb) (c : W.heap.size ≤ bm) (d : Below W.heap.size W w) (e : TsbAt w st sb bm p T) (k : TsbTo w w' st sb bm p U) : Car W w' st p U L :=
  ⟨New.to a b c d e k, by obtain ⟨_, _, _, u⟩ := k; exact h.rows.to e u⟩
theorem clock {W w : World} {st : Nat} {p : Par} {T : Nat → Pl} {L : List Bx} (h : Car W w st p T L) (va : Int) (v0 : 0 ≤ va) (v1 : va ≤ 18446744073709551615) :
    Calls Tryz.prog 59 #[.pointer (some ⟨st, 0, none⟩), .int .u64 va] w fun r w' => r = .returned (.tuple #[]) ∧ Car W w' st p (lokT p T va) L := by
  obtain ⟨sb, bm, a, b, c, d, t⟩ := h.new
  exact (lock_any va v0 v1 w t).mono fun _ _ ⟨x, y⟩ => ⟨x, h.to a b c d t y⟩
theorem Car.ok {W w : World} {st : Nat} {p : Par} {T : Nat → Pl} {L : List Bx} (h : Car W w st p T L) : p.Ok := by
  obtain ⟨sb, bm, a, b, c, d, t⟩ := h.new; exact t.ok
end Go.Proofs.YtnbdoemnepfhdaaGreat.Ts

