/-
  The document's Resize of layer 11. Conditions: a table that is there; no more than a million chains.
-/
import Derived.Test.YtilijnalhkeggaaHDg
import Derived.Deep.CutBlock
import Derived.Deep.DeepCutAuto
namespace Go.Proofs.Ytilijnalhkeggaa.Hs
open Fld
open Go.ChangeShapes Go.WideShapes Go.ChangeAt Go.RowKit Go.Maps
set_option maxHeartbeats 2000000
set_option maxRecDepth 100000
/-- The chains of the keys from the place j on. -/
def pushL (l : List Bk) (m j : Nat) : Nat → List Bk := fun i => (l.drop j).filter (fun b => chainN b.k m == i)
theorem pushL_end (l : List Bk) (m : Nat) : pushL l m l.length = fun _ => [] := by funext i; simp [pushL]
theorem pushL_zero (L : Nat → List Bk) (n m : Nat) : pushL (allL L n) m 0 = resT L n m := by funext i; simp [pushL, resT]
theorem pushL_step {l : List Bk} {m j : Nat} (h : j < l.length) : pushL l m j = setL (pushL l m (j + 1)) (chainN (at_ l j).k m) (at_ l j :: pushL l m (j + 1) (chainN (at_ l j).k m)) := by
  have h2 : l[j] = at_ l j := by simp [at_, h]
  funext i
  unfold pushL setL
  rw [List.drop_eq_getElem_cons h, h2]
  by_cases e : i = chainN (at_ l j).k m
  · subst e; simp
  · rw [if_neg e]
    have : (chainN (at_ l j).k m == i) = false := by simpa using fun x => e x.symm
    simp [this]
theorem pushL_len {l : List Bk} {m j : Nat} (hm : 1 ≤ m) : lenL (pushL l m j) m = l.length - j := by
  rw [len_res (l.drop j) (fun b => chainN b.k m) (pushL l m j) (fun _ => rfl) m, List.filter_eq_self.2 (fun b _ => by simpa using chain_lt b.k hm), List.length_drop]
/-- Between two rounds. -/
structure DR (w0 w : World) (bl : Int) (m : Nat) (l : List Bk) (vl : Value) (B ob rb j : Nat) : Prop where
  low : Below w0.heap.size w0 w
  box : ∃ s' U', w.heap[ob]? = some (.cells #[.int .i64 bl, s'] 27 (0, 0)) ∧ ChW w s' m (pushL l m j) U' ∧ ∀ k, DocB s' m U' k → w0.heap.size ≤ k
  own : w.ownsRow B 73 4 vl l.length (bkL l)
  rx : w.heap[rb]? = some (.cells #[.int .i64 0, .slice none 0 0] 27 (0, 0))
  ob0 : w0.heap.size ≤ ob
  rb0 : w0.heap.size ≤ rb
  ne : ob ≠ rb
theorem DR.start {w0 w2 W : World} {bl : Int} {m : Nat} {l : List Bk} {vl : Value} {B ob rb q : Nat} {cur : Array Value} (hm : 1 ≤ m) (m1 : m ≤ 1000000) (b2 : Below w0.heap.size w0 w2) (hb : Below w2.heap.size w2 W) (hown : w2.ownsRow B 73 4 vl l.length (bkL l)) (y1 : w2.heap[rb]? = some (.cells #[.int .i64 0, .slice none 0 0] 27 (0, 0))) (r0 : w0.heap.size ≤ rb)
    (ho : W.heap[ob]? = some (.cells #[.int .i64 bl, .slice (some ⟨q, 0, none⟩) m m] 27 (0, 0))) (hq : W.heap[q]? = some (.cells cur 58 (0, 0))) (hcl : cur.toList = (List.range m).map (fun _ => nilS)) (q0 : w2.heap.size ≤ q) (o0 : w2.heap.size ≤ ob) : DR w0 W bl m l vl B ob rb l.length := by
  have hs := b2.size
  have hrl := (Array.getElem?_eq_some_iff.1 y1).1
  refine ⟨lo_step b2 hb, ⟨_, fun _ => nilS, ho, ⟨?_, fun i _ => by rw [pushL_end]; exact World.ownsRow_nil _ _ _ 4, hm, m1, by rw [pushL_end, tlen_nil]; exact Nat.zero_le _⟩, fun k hk => ?_⟩, own_same hown (fun k hk => hb.block k (hown.lt k hk).2), blk_low y1 hb, by omega, r0, by omega⟩
  · have hsz : cur.size = m := by have := congrArg List.length hcl; simpa using this
    refine ⟨by simp, .inr ⟨q, m, cur, rfl, Nat.zero_le _, hq, Nat.le_refl _, by unfold maxLen; omega, by omega, ?_⟩⟩
    rw [hcl]; exact List.take_of_length_le (by simp)
  · rcases hk with hk | ⟨i, _, hk⟩
    · obtain rfl : q = k := by simpa [Value.ownBlock] using hk
      omega
    · cases hk
theorem DR.stay {w0 w w' : World} {bl : Int} {m : Nat} {l : List Bk} {vl : Value} {B ob rb j : Nat} (h : DR w0 w bl m l vl B ob rb j) (hb : Below w.heap.size w w') : DR w0 w' bl m l vl B ob rb j := by
  obtain ⟨s', U', x, c, u⟩ := h.box
  exact ⟨lo_step h.low hb, ⟨s', U', blk_low x hb, c.low hb, u⟩, own_same h.own (fun k hk => hb.block k (h.own.lt k hk).2), blk_low h.rx hb, h.ob0, h.rb0, h.ne⟩
theorem DR.drew {w0 w : World} {bl : Int} {m : Nat} {l : List Bk} {vl : Value} {B ob rb j : Nat} (h : DR w0 w bl m l vl B ob rb j) : DR w0 w.drew bl m l vl B ob rb j := h.stay (Below.refl _ w).drew
theorem DocTo.bel {w w' : World} {s s' : Value} {n n' : Nat} {L' : Nat → List Bk} {U : Nat → Value} (h : DocTo w w' s n U s' n' L') : Below w.heap.size w w' := by obtain ⟨_, _, _, c⟩ := h; exact c
theorem DR.put {w0 w w6 : World} {bl : Int} {m : Nat} {l : List Bk} {vl s s6 : Value} {U : Nat → Value} {L6 : Nat → List Bk} {B ob rb j : Nat} (h : DR w0 w bl m l vl B ob rb (j + 1)) (hd : DocTo w.drew w6 s m U s6 m L6) (hu : ∀ k, DocB s m U k → w0.heap.size ≤ k) (hL : L6 = pushL l m j) (h6 : DR w0 w6 bl m l vl B ob rb (j + 1)) :
    DR w0 ((w6.setCell ⟨ob, 0, none⟩ (.int .i64 bl)).setCell ⟨ob, 1, none⟩ s6) bl m l vl B ob rb j := by
  obtain ⟨s', U', x, _, _⟩ := h6.box
  have h7 := set_two x (.int .i64 bl) s6
  have hst := (doc_from hd (lo_drew h.low)).store x h7.2.2 (h7.2.1 _ h.ob0)
  obtain ⟨U6, c6, k6, b6⟩ := hst
  subst hL
  refine ⟨?_, ⟨s6, U6, h7.1, c6, fun k hk => ?_⟩, own_same h6.own (fun k hk => h7.2.2 k fun e => ?_), ?_, h.ob0, h.rb0, h.ne⟩
  · exact h6.low.trans (h7.2.1 _ h.ob0)
  · rcases k6 k hk with hk | hk
    · exact hu k hk
    · exact hk
  · obtain ⟨cur, ho⟩ := own_obj h6.own hk
    rw [e, x] at ho
    injection ho with ho
    injection ho with _ ho _
    exact absurd ho (by decide)
  · rw [h7.2.2 rb h.ne.symm]; exact h6.rx
theorem DR.cells {w0 w : World} {bl : Int} {m : Nat} {l : List Bk} {vl : Value} {B ob rb j : Nat} (h : DR w0 w bl m l vl B ob rb j) : ∃ s' : Value, (w.cell? ⟨ob, 0, none⟩ = some (.int .i64 bl) ∧ w.cell? ⟨ob, 1, none⟩ = some s') ∧ w.frozen? ⟨ob, 0, none⟩ = false ∧ w.frozen? ⟨ob, 1, none⟩ = false := by
  obtain ⟨s', U', x, _, _⟩ := h.box
  exact ⟨s', t_cells x, by simp [World.frozen?, x], by simp [World.frozen?, x]⟩
theorem DR.fin {w0 w : World} {bl : Int} {m : Nat} {l : List Bk} {vl s s0 : Value} {U U0 : Nat → Value} {L : Nat → List Bk} {n B ob rb : Nat} (h : DR w0 w bl m l vl B ob rb 0) (hl : l = allL L n) (_ : w.heap[ob]? = some (.cells #[.int .i64 bl, s] 27 (0, 0))) (c : ChW w s m (pushL l m 0) U) (u : ∀ k, DocB s m U k → w0.heap.size ≤ k) :
    ((w.setCell ⟨rb, 0, none⟩ (.int .i64 bl)).setCell ⟨rb, 1, none⟩ s).heap[rb]? = some (.cells #[.int .i64 bl, s] 27 (0, 0)) ∧ DocTo w0 ((w.setCell ⟨rb, 0, none⟩ (.int .i64 bl)).setCell ⟨rb, 1, none⟩ s) s0 n U0 s m (resT L n m) := by
  subst hl
  rw [pushL_zero] at c
  have h6 := set_two h.rx (.int .i64 bl) s
  exact ⟨h6.1, DocTo.store ⟨U, c, fun k hk => .inr (u k hk), h.low⟩ h.rx h6.2.2 (h6.2.1 w0.heap.size h.rb0)⟩
theorem tresize_no {s : Value} {n : Nat} {L : Nat → List Bk} {U : Nat → Value} (bl m : Int) (hm : m < 1) (w : World) (h : ChW w s n L U) :
    Calls Try.prog 36 #[.agg #[.int .i64 bl, s], .int .i64 m] w fun e w' => ∃ s', e = .returned (.tuple #[.agg #[.int .i64 bl, s'], .int .i64 1]) ∧ DocTo w w' s n U s' n L := by
  obtain ⟨g, cap, rfl, hg, hnc, hcm⟩ := h.form
  have b1 : Below w.heap.size w ((w.alloc (.cells #[.int .i64 bl, .slice (some ⟨g, 0, none⟩) n cap] 27)).alloc (.cells #[.int .i64 0, .slice none 0 0] 27)) := by (repeat (first | (with_reducible assumption) | (with_reducible exact Below.refl _ _) | (with_reducible refine lo_step ?_ (by assumption)) | (with_reducible refine lo_drew ?_) | (with_reducible refine lo_drewN ?_ _) | (with_reducible refine lo_alloc ?_ _))) 
  have x1 : ((w.alloc (.cells #[.int .i64 bl, .slice (some ⟨g, 0, none⟩) n cap] 27)).alloc (.cells #[.int .i64 bl, .slice (some ⟨g, 0, none⟩) n cap] 27)).heap[w.heap.size + 1]? = some (.cells #[.int .i64 bl, .slice (some ⟨g, 0, none⟩) n cap] 27 (0, 0)) := by
    have := heap_alloc_new (w.alloc (.cells #[.int .i64 bl, .slice (some ⟨g, 0, none⟩) n cap] 27)) (.cells #[.int .i64 bl, .slice (some ⟨g, 0, none⟩) n cap] 27)
    rwa [World.size_alloc] at this
  have HX := Lib.hid x1
  have HH := Lib.hid h
  clear h x1 b1
  go_enter Try.func36, Try.ntmps36
  go_wp2_with fail
  refine bodyPost_ret (res_T rfl _ _ _ _ _ rfl HX.out) rfl ⟨_, rfl, DocTo.id HH.out (by (repeat (first | (with_reducible assumption) | (with_reducible exact Below.refl _ _) | (with_reducible refine lo_step ?_ (by assumption)) | (with_reducible refine lo_drew ?_) | (with_reducible refine lo_drewN ?_ _) | (with_reducible refine lo_alloc ?_ _))) )⟩
theorem tresize_yes {s : Value} {n : Nat} {L : Nat → List Bk} {U : Nat → Value} (bl : Int) (m : Nat) (hm : 1 ≤ m) (m1 : m ≤ 1000000) (hg0 : Good n L) (w : World) (h : ChW w s n L U) :
    Calls Try.prog 36 #[.agg #[.int .i64 bl, s], .int .i64 (m : Int)] w fun e w' => ∃ s', e = .returned (.tuple #[.agg #[.int .i64 bl, s'], .int .i64 0]) ∧ DocTo w w' s n U s' m (resT L n m) := by
  obtain ⟨i, hi, hz0, hz1, hz2⟩ := info_parts infoS
  obtain ⟨g, cap, rfl, hg, hnc, hcm⟩ := h.form
  have b1 : Below w.heap.size w ((w.alloc (.cells #[.int .i64 bl, .slice (some ⟨g, 0, none⟩) n cap] 27)).alloc (.cells #[.int .i64 0, .slice none 0 0] 27)) := by (repeat (first | (with_reducible assumption) | (with_reducible exact Below.refl _ _) | (with_reducible refine lo_step ?_ (by assumption)) | (with_reducible refine lo_drew ?_) | (with_reducible refine lo_drewN ?_ _) | (with_reducible refine lo_alloc ?_ _))) 
  have x0 : ((w.alloc (.cells #[.int .i64 bl, .slice (some ⟨g, 0, none⟩) n cap] 27)).alloc (.cells #[.int .i64 0, .slice none 0 0] 27)).heap[w.heap.size]? = some (.cells #[.int .i64 bl, .slice (some ⟨g, 0, none⟩) n cap] 27 (0, 0)) := blk_low (heap_alloc_new w _) ((Below.refl _ _).alloc (Nat.le_refl _) _)
  have x1 : ((w.alloc (.cells #[.int .i64 bl, .slice (some ⟨g, 0, none⟩) n cap] 27)).alloc (.cells #[.int .i64 0, .slice none 0 0] 27)).heap[w.heap.size + 1]? = some (.cells #[.int .i64 0, .slice none 0 0] 27 (0, 0)) := by
    have := heap_alloc_new (w.alloc (.cells #[.int .i64 bl, .slice (some ⟨g, 0, none⟩) n cap] 27)) (.cells #[.int .i64 0, .slice none 0 0] 27)
    rwa [World.size_alloc] at this
  have CAl := Lib.hid (tall_any bl _ (h.low b1))
  have s1 : ((w.alloc (.cells #[.int .i64 bl, .slice (some ⟨g, 0, none⟩) n cap] 27)).alloc (.cells #[.int .i64 0, .slice none 0 0] 27)).heap.size = w.heap.size + 1 + 1 := by simp
  have hfew := h.few
  have HX := Lib.hid (And.intro b1 (And.intro x0 (And.intro x1 s1)))
  have HH := Lib.hid h
  have hm0 : ¬ (m : Int) < 1 := by omega
  clear h x0 x1 b1 s1
  go_enter Try.func36, Try.ntmps36
  go_wp2_with fail
  refine CAl.out.mono ?_; rintro e w2 ⟨vl, rfl, hown, hb2⟩
  have b2 := lo_step HX.out.1 hb2
  have y0 := blk_low HX.out.2.1 hb2
  have y1 := blk_low HX.out.2.2.1 hb2
  rw [HX.out.2.2.2] at hown
  obtain ⟨t0, t1⟩ := t_cells y0
  have hll : (allL L n).length = lenL L n := rfl
  have hgl : ∀ b ∈ allL L n, b.k.Ok := fun b hb => by obtain ⟨i, hi, hb⟩ := mem_all.1 hb; exact hg0 i hi b hb
  generalize hgn : allL L n = l at *
  have HGN := Lib.hid hgn
  clear hgn
  replace hll := Lib.hid hll
  obtain ⟨aol, capl, rfl⟩ := own_shape3 hown
  have hmk : ∀ W : World, (Instr.makeSlice 25 (.int .i64 (m : Int)) (.int .i64 (m : Int))).run Try.prog W = .ok (.slice (some ⟨W.heap.size, 0, none⟩) m m) (W.alloc (.cells (madeCells (Value.slice none 0 0).cells (m * 1)) 58)) := fun W => by
    have hr := run_make (P := Try.prog) W 25 58 i _ Try.underlying25 hi hz0 .i64 .i64 (m : Int) (m : Int) (by omega) (Int.le_refl _) (by rw [hz2]; omega) (by omega)
    simpa only [Int.toNat_natCast, hz1] using hr
  obtain ⟨cur, hcur⟩ : ∃ cur, cur = madeCells (Value.slice none 0 0).cells (m * 1) := ⟨_, rfl⟩
  have hcl : cur.toList = (List.range m).map (fun _ => nilS) := by rw [hcur]; exact made_slices m
  rw [← hcur] at hmk
  have HC := Lib.hid hcl
  have HY := Lib.hid (And.intro b2 (And.intro y1 hown))
  have ta := (t_cells (blk_low y0 (show Below w2.heap.size w2 (w2.alloc (.cells #[.int .i64 0, .slice none 0 0] 27)) by (repeat (first | (with_reducible assumption) | (with_reducible exact Below.refl _ _) | (with_reducible refine lo_step ?_ (by assumption)) | (with_reducible refine lo_drew ?_) | (with_reducible refine lo_drewN ?_ _) | (with_reducible refine lo_alloc ?_ _))) ))).1
  have tb := (t_cells (blk_low y0 (show Below w2.heap.size w2 (w2.alloc (.cells cur 58)) by (repeat (first | (with_reducible assumption) | (with_reducible exact Below.refl _ _) | (with_reducible refine lo_step ?_ (by assumption)) | (with_reducible refine lo_drew ?_) | (with_reducible refine lo_drewN ?_ _) | (with_reducible refine lo_alloc ?_ _))) ))).1
  have tc := (t_cells (blk_low y0 (show Below w2.heap.size w2 ((w2.alloc (.cells #[.int .i64 0, .slice none 0 0] 27)).alloc (.cells cur 58)) by (repeat (first | (with_reducible assumption) | (with_reducible exact Below.refl _ _) | (with_reducible refine lo_step ?_ (by assumption)) | (with_reducible refine lo_drew ?_) | (with_reducible refine lo_drewN ?_ _) | (with_reducible refine lo_alloc ?_ _))) ))).1
  have td := (t_cells (blk_low y0 (show Below w2.heap.size w2 ((w2.alloc (.cells cur 58)).alloc (.cells #[.int .i64 0, .slice none 0 0] 27)) by (repeat (first | (with_reducible assumption) | (with_reducible exact Below.refl _ _) | (with_reducible refine lo_step ?_ (by assumption)) | (with_reducible refine lo_drew ?_) | (with_reducible refine lo_drewN ?_ _) | (with_reducible refine lo_alloc ?_ _))) ))).1
  clear hcur hcl HX CAl hb2 b2 y0 y1 hown hi hz0 hz1 hz2
  go_wp2_with fail
  go_cut [7] (fun o wx => ∃ ob, o = .pointer (some ⟨ob, 0, none⟩) ∧ DR w wx bl m l (.slice aol l.length capl) (w.heap.size + 1 + 1) ob (w.heap.size + 1) l.length)
  case first =>
    go_region
    · go_wp2_with fail
      go_meet
      refine ⟨_, rfl, DR.drew (DR.start (w2 := w2) (q := w2.heap.size) (cur := cur) (bl := bl) hm m1 HY.out.1 ?_ HY.out.2.2 HY.out.2.1 (Nat.le_succ _) ?_ ?_ HC.out (Nat.le_refl _) (Nat.le_succ _))⟩
      · (repeat (first | (with_reducible assumption) | (with_reducible exact Below.refl _ _) | (with_reducible refine lo_step ?_ (by assumption)) | (with_reducible refine lo_drew ?_) | (with_reducible refine lo_drewN ?_ _) | (with_reducible refine lo_alloc ?_ _))) 
      · have := heap_alloc_new (w2.alloc (.cells cur 58)) (.cells #[.int .i64 bl, .slice (some ⟨w2.heap.size, 0, none⟩) m m] 27)
        rwa [World.size_alloc] at this
      · exact blk_low (heap_alloc_new w2 _) ((Below.refl _ _).alloc (Nat.le_refl _) _)
    · go_wp2_with fail
      go_meet
      refine ⟨_, rfl, DR.drew (DR.start (w2 := w2) (q := w2.heap.size + 1) (cur := cur) (bl := bl) hm m1 HY.out.1 ?_ HY.out.2.2 HY.out.2.1 (Nat.le_succ _) ?_ ?_ HC.out (Nat.le_succ _) (Nat.le_refl _))⟩
      · (repeat (first | (with_reducible assumption) | (with_reducible exact Below.refl _ _) | (with_reducible refine lo_step ?_ (by assumption)) | (with_reducible refine lo_drew ?_) | (with_reducible refine lo_drewN ?_ _) | (with_reducible refine lo_alloc ?_ _))) 
      · exact blk_low (heap_alloc_new w2 _) ((Below.refl _ _).alloc (Nat.le_refl _) _)
      · have := heap_alloc_new (w2.alloc (.cells #[.int .i64 bl, .slice (some ⟨w2.heap.size + 1, 0, none⟩) m m] 27)) (.cells cur 58)
        rwa [World.size_alloc] at this
  case rest =>
    obtain ⟨ob, rfl, R0⟩ := hcut
    clear ta tb tc td t0 t1 HY HC hmk hm0
    have hlb : l.length ≤ 1073741824 := by have := hll.out; omega
    -- the loop
    go_wp2_with fail
    go_loopw [8] (fun i wr => ∃ (wx : World) (j : Nat), wx = wr ∧ i = .int .i64 ((j : Int) - 1) ∧ j ≤ l.length ∧ DR w wx bl m l (.slice aol l.length capl) (w.heap.size + 1 + 1) ob (w.heap.size + 1) j) (fun i _ => (RowKit.intOf i + 1).toNat)
    case atStart => exact ⟨_, l.length, rfl, rfl, Nat.le_refl _, R0⟩
    case round =>
      clear R0
      obtain ⟨wx, j, rfl, rfl, hj, R⟩ := hrel
      cases j with
      | zero =>
        have e1 : ((0 : Nat) : Int) - 1 = -1 := rfl
        rw [e1]
        obtain ⟨s', U', x, c', u⟩ := R.box
        obtain ⟨g5, c5, rfl, _, _, _⟩ := c'.form
        obtain ⟨t0, t1⟩ := t_cells x
        obtain ⟨f0, f1⟩ := t_cells R.rx
        have z0 : wx.frozen? ⟨w.heap.size + 1, 0, none⟩ = false := by simp [World.frozen?, R.rx]
        have z1 : wx.frozen? ⟨w.heap.size + 1, 1, none⟩ = false := by simp [World.frozen?, R.rx]
        have FI := Lib.hid (R.fin (s0 := .slice (some ⟨g, 0, none⟩) n cap) (U0 := U) HGN.out.symm x c' u)
        clear e1 x c' u R
        go_wp2_with fail
        exact bodyPost_ret (res_T rfl _ _ _ _ _ rfl FI.out.1) rfl ⟨_, rfl, FI.out.2⟩
      | succ j =>
        have e1 : ((j + 1 : Nat) : Int) - 1 = (j : Int) := by omega
        rw [e1]
        clear e1
        have hlt : j < l.length := by omega
        have hok : (at_ l j).k.Ok := by
          have := hgl (at_ l j) (by have h2 : l[j] = at_ l j := by simp [at_, hlt]
                                    rw [← h2]; exact List.getElem_mem _)
          exact this
        rcases own_form R.own with ⟨_, h0⟩ | ⟨g2, cap2, e2, _, hnc2, hcm2⟩
        · omega
        injection e2 with e3 e4 e5
        subst e3 e5
        unfold maxLen at hcm2
        obtain ⟨s', U', x, c', u⟩ := R.box
        have CP := Lib.hid (rpush_any bl (at_ l j) hok wx.drew (c'.low (Below.refl _ wx).drew) (by rw [pushL_len hm]; omega))
        obtain ⟨g5, c5, rfl, _, _, _⟩ := c'.form
        have SC := Lib.hid (fun (W : World) (j' : Nat) (h : DR w W bl m l (.slice (some ⟨g2, 0, none⟩) l.length capl) (w.heap.size + 1 + 1) ob (w.heap.size + 1) j') => (show (fun w1 => w1.cell? ⟨g2, j * 4, none⟩ = some (.int .i64 (at_ l j).k.sp) ∧ w1.cell? ⟨g2, j * 4 + 1, none⟩ = some (.int .u64 (at_ l j).k.va) ∧ w1.cell? ⟨g2, j * 4 + 2, none⟩ = some (.int .i64 (at_ l j).k.sz) ∧ w1.cell? ⟨g2, j * 4 + 3, none⟩ = some (.int .i64 (at_ l j).v)) W by
          obtain ⟨y0, y1, y2, y3⟩ := pown_cells (own_base h.own) rfl hlt
          exact ⟨y0, y1, y2, y3⟩))
        obtain ⟨t0, t1⟩ := t_cells (show wx.drew.heap[ob]? = _ from x)
        have hS := SC.out _ _ R.drew
        have HR := Lib.hid R
        have HP := Lib.hid (pushL_step (m := m) hlt)
        have hj0 : (0 : Int) ≤ (j : Int) := by omega
        have hlt' : (j : Int) < (l.length : Int) := by omega
        have HU := Lib.hid u
        have HX := Lib.hid x
        clear R u x c' hgl hok hm
        go_upto_region 8 with (fail)
        refine wp_region_held_drew (S := fun w1 => w1.cell? ⟨g2, j * 4, none⟩ = some (.int .i64 (at_ l j).k.sp) ∧ w1.cell? ⟨g2, j * 4 + 1, none⟩ = some (.int .u64 (at_ l j).k.va) ∧ w1.cell? ⟨g2, j * 4 + 2, none⟩ = some (.int .i64 (at_ l j).k.sz) ∧ w1.cell? ⟨g2, j * 4 + 3, none⟩ = some (.int .i64 (at_ l j).v)) (by kernel_rfl) hS (fun hHeld => ?_)
        refine wpAnyH_take (i := 1) (v := ?vt1) rfl (by kernel_rfl) (by kernel_rfl) (by kernel_rfl) (fun _ _ _ h => h) (Or.inl ⟨by rfl, ?ht1⟩) (by assumption) ?rt1
        case ht1 => (intro w hSw; (try dsimp only at hSw); go_simp <;> (with_reducible rfl))
        (try simp only [Act.put, List.setIfInBounds_toArray, List.set_cons_zero, List.set_cons_succ, List.getElem_toArray, List.getElem_cons_zero, List.getElem_cons_succ])
        refine wpAnyH_take (i := 2) (v := ?vt2) rfl (by kernel_rfl) (by kernel_rfl) (by kernel_rfl) (fun _ _ _ h => h) (Or.inl ⟨by rfl, ?ht2⟩) (by assumption) ?rt2
        case ht2 => (intro w hSw; (try dsimp only at hSw); go_simp <;> (with_reducible rfl))
        (try simp only [Act.put, List.setIfInBounds_toArray, List.set_cons_zero, List.set_cons_succ, List.getElem_toArray, List.getElem_cons_zero, List.getElem_cons_succ])
        refine wpAnyH_take (i := 3) (v := ?vt3) rfl (by kernel_rfl) (by kernel_rfl) (by kernel_rfl) (fun _ _ _ h => h) (Or.inl ⟨by rfl, ?ht3⟩) (by assumption) ?rt3
        case ht3 => (intro w hSw; (try dsimp only at hSw); go_simp <;> (with_reducible rfl))
        (try simp only [Act.put, List.setIfInBounds_toArray, List.set_cons_zero, List.set_cons_succ, List.getElem_toArray, List.getElem_cons_zero, List.getElem_cons_succ])
        refine wpAnyH_take (i := 4) (v := ?vt4) rfl (by kernel_rfl) (by kernel_rfl) (by kernel_rfl) (fun _ _ _ h => h) (Or.inl ⟨by rfl, ?ht4⟩) (by assumption) ?rt4
        case ht4 => (intro w hSw; (try dsimp only at hSw); go_simp <;> (with_reducible rfl))
        (try simp only [Act.put, List.setIfInBounds_toArray, List.set_cons_zero, List.set_cons_succ, List.getElem_toArray, List.getElem_cons_zero, List.getElem_cons_succ])
        refine wpAnyH_ready (rs := [0]) (by kernel_rfl) (by simp) ?_
        refine AllReadyH.cons rfl (fun K hK => ?_) AllReadyH.nil
        go_simp
        refine hK.out _ _ hS (fun hHeld => ?_)
        clear hK K
        (try simp only [Act.put, List.setIfInBounds_toArray, List.set_cons_zero, List.set_cons_succ, List.getElem_toArray, List.getElem_cons_zero, List.getElem_cons_succ])
        refine wpAnyH_ready (rs := [5]) (by kernel_rfl) (by simp) ?_
        refine AllReadyH.cons rfl (fun K hK => ?_) AllReadyH.nil
        go_simp
        refine (CP.out).mono ?_
        rintro r w6 ⟨s6, rfl, hd⟩
        have R6 := HR.out.drew.stay hd.bel
        obtain ⟨g6, c6, rfl⟩ := hd.form
        have hS6 := SC.out _ _ R6
        have R7 := HR.out.put hd HU.out HP.out.symm R6
        obtain ⟨sx, ⟨f0, f1⟩, f2, f3⟩ := R6.cells
        have HR7 := Lib.hid R7
        have hS7 := SC.out _ _ R7
        (try go_simp)
        refine hK.out _ _ hS6 (fun hHeld => ?_)
        clear hK K
        (try simp only [Act.put, List.setIfInBounds_toArray, List.set_cons_zero, List.set_cons_succ, List.getElem_toArray, List.getElem_cons_zero, List.getElem_cons_succ])
        clear hS hS6 R6 hd t0 t1
        refine wpAnyH_ready (rs := [6]) (by kernel_rfl) (by simp) ?_
        refine AllReadyH.cons rfl (fun K hK => ?_) AllReadyH.nil
        go_simp
        refine hK.out _ _ hS7 (fun hHeld => ?_)
        clear hK K
        (try simp only [Act.put, List.setIfInBounds_toArray, List.set_cons_zero, List.set_cons_succ, List.getElem_toArray, List.getElem_cons_zero, List.getElem_cons_succ])
        refine wpAnyH_done (by kernel_rfl) ?_ _
        clear f0 f1 f2 f3 hS7 R7 SC HP HU HX HR CP
        go_wp2_with fail
        go_roundw
        case rel => exact ⟨_, j, rfl, by go_num, by omega, HR7.out⟩
        case measure => simp [RowKit.intOf]
end Go.Proofs.Ytilijnalhkeggaa.Hs
