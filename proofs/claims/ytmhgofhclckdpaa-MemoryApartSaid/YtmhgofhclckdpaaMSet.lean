/-
  Contracts of shrink and set of package memory. Conditions: words are below 2 to the 64, and a word that is put is in the memory, or 0.
-/
import Derived.Test.YtmhgofhclckdpaaMCopy
import Derived.RegionTactic
import Derived.ChangeAlike
namespace Go.Proofs.Ytmhgofhclckdpaa.Mem
open Go.ChangeShapes Go.WideShapes Go.ChangeAt Go.RowKit Go.Maps
set_option maxHeartbeats 400000
theorem run_makeMap_hint (n : Int) (w : World) : (Instr.makeMap 54 (some (.int .i64 n))).run Try.prog w = .ok (.map (some w.heap.size)) (w.alloc (.map #[] 0)) := by
  kernel_rfl
theorem ret_none {fn : Func} {R : Ending → World → Prop} {a : Act} {w : World} (h : fn.results = #[]) (hd : a.defers = []) (hR : R (.returned (.tuple #[])) w) : bodyPost Try.prog fn R .ret a w := bodyPost_ret (results_none h _ _ _) hd hR
theorem heap_drewN (w : World) (n : Nat) : (w.drewN n).heap = w.heap := rfl
theorem Turn.drewN {a b : World} {sb bm : Nat} (h : Turn a b sb bm) (n : Nat) : Turn a (b.drewN n) sb bm := ⟨h.os, h.tape, h.output, h.size, h.block⟩
theorem MemAt.drewN {w : World} {sb bm S : Nat} {g : Nat → Nat} (h : MemAt w sb bm S g) (n : Nat) : MemAt (w.drewN n) sb bm S g := h.same rfl rfl
theorem MemTo.drewN {w w' : World} {sb bm S : Nat} {g : Nat → Nat} (h : MemTo w w' sb bm S g) (n : Nat) : MemTo w (w'.drewN n) sb bm S g := by
  obtain ⟨b, h1, h2, h3⟩ := h
  exact ⟨b, h1.drewN n, h2, h3.drewN n⟩
theorem heap_set {w : World} {b o : Nat} {c : Array Value} {e : TypeId} {f : Nat × Nat} (h : w.heap[b]? = some (.cells c e f)) (v : Value) : (w.setCell ⟨b, o, none⟩ v).heap[b]? = some (.cells (c.setIfInBounds o v) e f) := by
  simp [World.setCell, Array.getElem?_modify, h]
theorem row_cells {w : World} {sb bm S most : Nat} {t : TypeId} (h1 : w.heap[sb]? = some (.cells #[.int .u64 (S : Int), .map (some bm), .int .i64 (most : Int)] t (0, 0))) : w.cell? ⟨sb, 0, none⟩ = some (.int .u64 (S : Int)) ∧ w.cell? ⟨sb, 1, none⟩ = some (.map (some bm)) ∧ w.cell? ⟨sb, 2, none⟩ = some (.int .i64 (most : Int)) ∧
    w.frozen? ⟨sb, 1, none⟩ = false ∧ w.frozen? ⟨sb, 2, none⟩ = false := by
  exact ⟨by simp [World.cell?, h1], by simp [World.cell?, h1], by simp [World.cell?, h1], by simp [World.frozen?, h1], by simp [World.frozen?, h1]⟩
theorem row_two {w : World} {sb bm bm' S most n : Nat} (h1 : w.heap[sb]? = some (.cells #[.int .u64 (S : Int), .map (some bm), .int .i64 (most : Int)] 56 (0, 0))) :
    ((w.setCell ⟨sb, 1, none⟩ (.map (some bm'))).setCell ⟨sb, 2, none⟩ (.int .i64 (n : Int))).heap[sb]? = some (.cells #[.int .u64 (S : Int), .map (some bm'), .int .i64 (n : Int)] 56 (0, 0)) := by
  rw [heap_set (heap_set h1 _) _]; rfl
theorem shrink_any (sb bm S : Nat) (g : Nat → Nat) (w : World) (h : MemAt w sb bm S g) :
    Calls Try.prog 33 #[.pointer (some ⟨sb, 0, none⟩)] w fun e w' => e = .returned (.tuple #[]) ∧ MemTo w w' sb bm S g := by
  obtain ⟨most, hmost, c0, c1, c2, f1, f2⟩ := h.cells
  obtain ⟨D, hown, hD⟩ := h.words
  have hsz := h.good.size_le hD (hown.canon lawU)
  have hln := fun n ty => (show (w.drewN n).ownsMap Try.prog 22 (plainElem Try.prog 22) bm (Maps.size D) D from hown).len Try.underlying54 ty
  have P1 := Lib.hid hown
  have P2 := Lib.hid hD
  by_cases k1 : (most : Int) ≤ 64
  · go_enter Try.func33, Try.ntmps33
    go_wp2
    go_quiet (fail)
    go_wp2
    exact ret_none rfl rfl ⟨rfl, h.to.drewN _⟩
  · have d1 : decide ((most : Int) ≤ 64) = false := by simpa using k1
    by_cases k2 : (most : Int) / 4 < (Maps.size D : Int)
    · go_enter Try.func33, Try.ntmps33
      go_wp2
      go_quiet (fail)
      go_wp2
      exact ret_none rfl rfl ⟨rfl, h.to.drewN _⟩
    · obtain ⟨m2, hm2, hrow⟩ := h.row
      obtain ⟨lt1, lt2⟩ := h.lt
      have hne := h.ne
      have hmh := run_makeMap_hint
      have HR := Lib.hid hrow
      clear hrow
      go_enter Try.func33, Try.ntmps33
      go_wp2
      go_quiet (fail)
      have c1a : ((w.drewN nq).alloc (Obj.map #[] 0)).cell? ⟨sb, 1, none⟩ = some (.map (some bm)) := (World.cell?_of_block (Below.heap_alloc (w.drewN nq) _ sb lt1)).trans c1
      go_wp2_with (go_at_call 38; refine (mcopy_any bm _ _ D _ ((show (w.drewN nq).ownsMap Try.prog 22 (plainElem Try.prog 22) bm (Maps.size D) D from hown).alloc _) (World.ownsMap_made _ _ _ _) (by simp; omega) hsz).mono ?_; rintro e w2 ⟨rfl, ho2, hg2⟩; have hb2 := (hg2.block sb (by simp; omega) (by simp; omega)).trans (Below.heap_alloc (w.drewN nq) (.map #[] 0) sb lt1); obtain ⟨d0, d1', d2, d3, d4⟩ := row_cells (hb2.trans HR.out); have hl2 : ∀ ty, (Builtin.len_ #[54] ty #[.map (some w.heap.size)]).run Try.prog w2 = .ok (.int .i64 (Maps.size D)) w2 := fun ty => ho2.len Try.underlying54 ty)
      go_end0
      refine ⟨rfl, w.heap.size, ⟨⟨Maps.size D, hsz, row_two (hb2.trans HR.out)⟩, ?_, h.good⟩, .inr (Nat.le_refl _), ?_⟩
      · refine WordsAt.same (w := w2) ⟨D, ho2, hD⟩ ?_
        rw [Below.heap_setCell _ _ _ _ (by simp; omega), Below.heap_setCell _ _ _ _ (by simp; omega)]
      · exact (((((Turn.refl w sb bm).drewN nq).alloc _).grown hg2 (fun j hj => by cases hj; exact .inr (.inr (Nat.le_refl _)))).setCell _ (.inl rfl) _).setCell _ (.inl rfl) _
end Go.Proofs.Ytmhgofhclckdpaa.Mem
