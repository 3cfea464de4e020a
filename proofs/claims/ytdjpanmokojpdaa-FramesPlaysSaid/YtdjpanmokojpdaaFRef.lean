/-
  Contracts of New and Run of the document's package for layer 5. Conditions: none.
-/
import Derived.Test.YtdjpanmokojpdaaFLive
namespace Go.Proofs.Ytdjpanmokojpdaa.Frm
open Fld
open Go.ChangeShapes Go.WideShapes Go.ChangeAt Go.RowKit
set_option maxHeartbeats 1000000
theorem rnew_any (n : Int) (w : World) :
    Calls Try.prog 9 #[.int .i64 n] w fun e w' => e = .returned (.agg #[.int .i64 (newN n : Int), .slice none 0 0]) ∧ Below w.heap.size w w' := by
  obtain ⟨N, hN⟩ : ∃ N, newN n = N := ⟨_, rfl⟩
  have hmn : min (max n 0) 65536 = (N : Int) := by rw [← hN]; unfold newN; omega
  rw [hN]
  clear hN
  go_enter Try.func9, Try.ntmps9
  go_wp2
  refine bodyPost_ret (v := .agg #[.int .i64 (N : Int), .slice none 0 0]) (by simp [results, Try.results9, go_sem]) rfl ⟨rfl, ?_⟩
  exact (Below.refl _ _).alloc (Nat.le_refl _) _
theorem rrun_any (s : Int) (w : World) :
    Calls Try.prog 24 #[.int .i64 s] w fun e w' => e = .returned (.int .i64 (runI s)) ∧ w = w' := by
  rcases runI_cases s with ⟨h, e⟩ | ⟨h, e⟩ | ⟨h, e⟩ | ⟨h, e⟩ | ⟨h | h, e⟩ <;> rw [e] <;> clear e
  · subst h; go_enter Try.func24, Try.ntmps24; go_wp2; go_ret; exact ⟨rfl, rfl⟩
  · subst h; go_enter Try.func24, Try.ntmps24; go_wp2; go_ret; exact ⟨rfl, rfl⟩
  · subst h; go_enter Try.func24, Try.ntmps24; go_wp2; go_ret; exact ⟨rfl, rfl⟩
  · subst h; go_enter Try.func24, Try.ntmps24; go_wp2; go_ret; exact ⟨rfl, rfl⟩
  · have h0 : (s == 0) = false := by simp; omega
    have h1 : (s == 1) = false := by simp; omega
    have h2 : (s == 2) = false := by simp; omega
    have h3 : (s == 3) = false := by simp; omega
    go_enter Try.func24, Try.ntmps24; go_wp2; go_ret; exact ⟨rfl, rfl⟩
  · have h0 : (s == 0) = false := by simp; omega
    have h1 : (s == 1) = false := by simp; omega
    have h2 : (s == 2) = false := by simp; omega
    have h3 : (s == 3) = false := by simp; omega
    go_enter Try.func24, Try.ntmps24; go_wp2; go_ret; exact ⟨rfl, rfl⟩
theorem field_n (x v : Value) (w : World) : (Instr.field 27 (.agg #[x, v]) 0).run Try.prog w = .ok x w := by
  simp [Instr.field, asAgg, go_sem]
theorem field_l (x : Value) (ao : Option Addr) (n cap : Nat) (w : World) : (Instr.field 27 (.agg #[x, .slice ao n cap]) 1).run Try.prog w = .ok (.slice ao n cap) w := by
  simp [Instr.field, asAgg, go_sem]
theorem lng_new (n : Nat) : lng (fun _ => false) n = n :=
  lng_eq ⟨0, by omega, allB_mem.2 fun _ _ _ => rfl⟩ (fun i k h _ => by omega)
theorem isB_neg (T : Nat → Bool) (n : Nat) : isB T n (-1) = false := rfl
theorem isB_len (T : Nat → Bool) (n : Nat) : isB T n (n : Int) = false := by simp [isB]
end Go.Proofs.Ytdjpanmokojpdaa.Frm
