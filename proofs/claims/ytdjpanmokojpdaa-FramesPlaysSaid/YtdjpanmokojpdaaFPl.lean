/-
  What the law FramesPlays asks of frames and of the document's behind each deed. Conditions: none.
-/
import Derived.Test.YtdjpanmokojpdaaFDod
namespace Go.Proofs.Ytdjpanmokojpdaa.Frm
open Fld
open Go.ChangeShapes Go.WideShapes Go.ChangeAt Go.RowKit
set_option maxHeartbeats 400000
/-- The frames, the runs, the document's frames in a row at ao, and its box at rb. -/
structure PR (w : World) (n : Nat) (T : Nat → Bool) (v : Value) (l : List (Nat × Nat)) (ao : Option Addr) (cap rb : Nat) (wr : World) : Prop where
  ap : ApIn w n T v l wr
  own : OwnI wr (w.heap.size + 2) ao cap (lst T n)
  bd : ∀ p ∈ l, p.1 + p.2 ≤ 65536
  r : BF w wr rb n (.slice ao (lst T n).length cap)
theorem PR.pl {w wr : World} {n : Nat} {T : Nat → Bool} {v : Value} {l : List (Nat × Nat)} {ao : Option Addr} {cap rb : Nat} (h : PR w n T v l ao cap rb wr) : PlIn w n T v l (.agg #[.int .i64 (n : Int), .slice ao (lst T n).length cap]) wr := ⟨h.ap, ⟨ao, cap, rfl, h.own⟩, h.bd⟩
theorem PR.below {w wr w' : World} {n : Nat} {T : Nat → Bool} {v : Value} {l : List (Nat × Nat)} {ao : Option Addr} {cap rb : Nat} (h : PR w n T v l ao cap rb wr) (hb : Below wr.heap.size wr w') : PR w n T v l ao cap rb w' :=
  ⟨h.ap.below hb, own_below h.own hb, h.bd, h.r.kp (Kp.of_below hb)⟩
theorem PR.drew {w wr : World} {n : Nat} {T : Nat → Bool} {v : Value} {l : List (Nat × Nat)} {ao : Option Addr} {cap rb : Nat} (h : PR w n T v l ao cap rb wr) : PR w n T v l ao cap rb wr.drew := h.below (below_drewN (Below.refl _ _) 1)
theorem PR.cells {w wr : World} {n : Nat} {T : Nat → Bool} {v : Value} {l : List (Nat × Nat)} {ao : Option Addr} {cap rb : Nat} (h : PR w n T v l ao cap rb wr) : wr.cell? ⟨rb, 0, none⟩ = some (.int .i64 (n : Int)) ∧ wr.cell? ⟨rb, 1, none⟩ = some (.slice ao (lst T n).length cap) := ⟨h.r.c0, h.r.c1⟩
theorem pr_free {w wr : World} {n : Nat} {T : Nat → Bool} {v : Value} {l : List (Nat × Nat)} {ao : Option Addr} {cap rb : Nat} (h : PR w n T v l ao cap rb wr) :
    Calls Try.prog 11 #[.pointer (some ⟨w.heap.size + 1, 0, none⟩)] wr fun e w' => e = .returned (.int .i64 ((n : Int) - ((lst T n).length : Int))) ∧ wr = w' := by
  have := free_any wr h.ap.fr.fr
  rwa [show (cnt T n : Int) = (n : Int) - ((lst T n).length : Int) by have := lst_length T n; omega] at this
theorem pr_len {w wr : World} {n : Nat} {T : Nat → Bool} {v : Value} {l : List (Nat × Nat)} {ao : Option Addr} {cap rb : Nat} (h : PR w n T v l ao cap rb wr) :
    Calls Try.prog 12 #[.pointer (some ⟨w.heap.size + 1, 0, none⟩)] wr fun e w' => e = .returned (.int .i64 (n : Int)) ∧ wr = w' := len_any wr h.ap.fr.fr
theorem pr_longest {w wr : World} {n : Nat} {T : Nat → Bool} {v : Value} {l : List (Nat × Nat)} {ao : Option Addr} {cap rb : Nat} (h : PR w n T v l ao cap rb wr) :
    Calls Try.prog 13 #[.pointer (some ⟨w.heap.size + 1, 0, none⟩)] wr fun e w' => e = .returned (.int .i64 (lng T n : Int)) ∧ PR w n T v l ao cap rb w' := (longest_any wr h.ap.fr.fr).mono fun _ _ ⟨a, b⟩ => ⟨a, h.below b⟩
theorem pr_rlongest {w wr : World} {n : Nat} {T : Nat → Bool} {v : Value} {l : List (Nat × Nat)} {ao : Option Addr} {cap rb : Nat} (h : PR w n T v l ao cap rb wr) :
    Calls Try.prog 14 #[.agg #[.int .i64 (n : Int), .slice ao (lst T n).length cap]] wr fun e w' => e = .returned (.int .i64 (lng T n : Int)) ∧ PR w n T v l ao cap rb w' := (rlongest_any n _ cap ao T wr h.own h.ap.fr.fr.le).mono fun _ _ ⟨a, b⟩ => ⟨a, h.below b⟩
theorem pr_list {w wr : World} {n : Nat} {T : Nat → Bool} {v : Value} {l : List (Nat × Nat)} {ao : Option Addr} {cap rb : Nat} (h : PR w n T v l ao cap rb wr) :
    Calls Try.prog 16 #[.pointer (some ⟨w.heap.size + 1, 0, none⟩)] wr fun e w' => ∃ ao9 cap9, e = .returned (.slice ao9 (lst T n).length cap9) ∧ PR w n T v l ao cap rb w' ∧ OwnI w' wr.heap.size ao9 cap9 (lst T n) := (list_any wr h.ap.fr.fr).mono fun _ _ ⟨y, a, b, c⟩ => by
      obtain ⟨ao9, cap9, rfl⟩ := own_shape b
      exact ⟨ao9, cap9, a, h.below c, b⟩
theorem pr_same {w wr : World} {n B : Nat} {T : Nat → Bool} {v : Value} {l : List (Nat × Nat)} {ao ao9 : Option Addr} {cap rb cap9 : Nat} (h : PR w n T v l ao cap rb wr) (h9 : OwnI wr B ao9 cap9 (lst T n)) :
    Calls Try.prog 15 #[.slice ao9 (lst T n).length cap9, .slice ao (lst T n).length cap] wr fun e w' => e = .returned (.bool true) ∧ PR w n T v l ao cap rb w' :=
  (rsame_any (lst T n) _ _ _ _ wr (by have := lst_length T n; have := h.ap.fr.fr.le; omega) h9 h.own).mono fun _ _ ⟨a, m, b⟩ => ⟨a, by rw [b]; exact h.below (below_drewN (Below.refl _ _) m)⟩
/-- The deed is done; the next frames have been laid into a box of their own. -/
theorem PR.next {w wr : World} {n m : Nat} {T : Nat → Bool} {v : Value} {l : List (Nat × Nat)} {ao ao2 : Option Addr} {cap cap2 rb : Nat} {sl0 : Value} (hap : ApIn w n T v l wr) (ho : OwnI wr (w.heap.size + 2) ao2 cap2 (lst T n)) (hb : ∀ p ∈ l, p.1 + p.2 ≤ 65536) (hr : BF w wr rb m sl0) (_ : ao = ao ∧ cap = cap) :
    PR w n T v l ao2 cap2 rb ((wr.setCell ⟨rb, 0, none⟩ (.int .i64 (n : Int))).setCell ⟨rb, 1, none⟩ (.slice ao2 (lst T n).length cap2)) :=
  ⟨laid_ap hap hr, laid_row ho hr, hb, hr.set⟩
end Go.Proofs.Ytdjpanmokojpdaa.Frm
