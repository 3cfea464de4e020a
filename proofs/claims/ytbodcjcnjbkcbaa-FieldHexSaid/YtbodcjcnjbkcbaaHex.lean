/-
  Contracts of Hex of package field, of the document's Hex, and of the example that every law asks for: Hex returns the word's sixteen signs; what was in memory stays. Conditions: the word is below 2 to the 64.
-/
import Derived.Test.YtbodcjcnjbkcbaaRef
import Derived.Laws.IdiomStrings
import Derived.Deep.AppendLies
namespace Go.Proofs.Ytbodcjcnjbkcbaa.Fld
open Go.ChangeShapes Go.WideShapes Go.ChangeAt Go.RowKit
set_option maxHeartbeats 400000
theorem infoByte : (Try.prog.info? 5).map (fun i => (i.zero, i.size, i.bytes)) = some (some (.int .u8 0), 1, 1) := by kernel_rfl
theorem index_sign (n : Int) (h0 : 0 ≤ n) (h1 : n ≤ 15) (w : World) :
    (Instr.index 9 (.string ⟨#[48, 49, 50, 51, 52, 53, 54, 55, 56, 57, 97, 98, 99, 100, 101, 102]⟩) (.int .u64 n)).run Try.prog w = .ok (.int .u8 ((signOf n).toNat : Int)) w := by
  have h : n = 0 ∨ n = 1 ∨ n = 2 ∨ n = 3 ∨ n = 4 ∨ n = 5 ∨ n = 6 ∨ n = 7 ∨ n = 8 ∨ n = 9 ∨ n = 10 ∨ n = 11 ∨ n = 12 ∨ n = 13 ∨ n = 14 ∨ n = 15 := by omega
  rcases h with rfl | rfl | rfl | rfl | rfl | rfl | rfl | rfl | rfl | rfl | rfl | rfl | rfl | rfl | rfl | rfl <;> (clear h0 h1; show _ = _; kernel_rfl)
theorem make16 (w : World) : (Instr.makeSlice 40 (.int .i64 0) (.int .i64 16)).run Try.prog w = .ok (.slice (some ⟨w.heap.size, 0, none⟩) 0 16) (w.alloc (.cells (Array.replicate 16 (.int .u8 0)) 5)) := by kernel_rfl
theorem to_text {w : World} {B : Nat} {v : Value} {l : List UInt8} (n : Nat) (hn : n = l.length) (hpos : 0 < n) (h : w.ownsRow B 5 1 v n (cellsOf l)) :
    (convert 40 9 v).run Try.prog w = .ok (.string ⟨l.toArray⟩) w := by
  subst hn
  obtain ⟨g, cap, rfl, _, _⟩ := h.form hpos
  refine run_convert_bytes_back w _ _ 5 ⟨g, 0, none⟩ cap l Try.underlying40 Try.underlying5 Try.underlying9 (fun j hj => ?_)
  refine h.cells (g := g) rfl j _ ?_
  simp [cellsOf, hj]
theorem news_one (w : World) (n : Nat) (t : TypeId) (v : Value) : ∀ j u, [v][j]? = some u → ((w.drewN n).alloc (.cells #[v] t)).cell? ((⟨w.heap.size, 0, none⟩ : Addr).add j) = some u := by
  intro j u hj
  match j, hj with
  | 0, hj =>
    simp at hj; subst hj
    exact (World.cell?_alloc_mark (w.drewN n) #[v] t (0, 0) 0).trans rfl
theorem hex_any (x : Int) (x0 : 0 ≤ x) (x1 : x ≤ 18446744073709551615) (w : World) :
    Calls Try.prog 22 #[.int .u64 x] w fun e w' => e = .returned (.string (hexS x)) ∧ Below w.heap.size w w' := by
  have hmk := make16
  obtain ⟨i0, hi, hz0, hz1, hz2⟩ := info_parts infoByte
  go_enter Try.func22, Try.ntmps22
  go_wp2
  go_loopw [3, 4] (fun v p wr => ∃ k : Nat, k ≤ 16 ∧ p = .int .i64 (60 - 4 * (k : Int)) ∧ wr.ownsRow w.heap.size 5 1 v k (cellsOf (hexL x k)) ∧ Below w.heap.size w wr) (fun _ p _ => (intOf p + 4).toNat)
  case atStart => exact ⟨0, by omega, rfl, World.ownsRow_made w _ 16 (Nat.le_refl _) (by decide) (by simp), (Below.refl _ _).alloc (Nat.le_refl _) _⟩
  case round =>
    obtain ⟨k, hk, rfl, hown, hbel⟩ := hrel
    by_cases hlt : k < 16
    · have hd := get4_bd x (60 - 4 * (k : Int))
      have hix := index_sign (getI x (60 - 4 * (k : Int)) 4) hd.1 hd.2
      have hsz := hbel.size
      go_wp2_with (first
        | (go_at_call 13; refine (get_any _ _ _ x0 x1 _).mono ?_; rintro e w' ⟨rfl, n, rfl⟩)
        | (at_builtin; refine wpList_append_own _ rfl _ _ 40 rfl w.heap.size 5 i0 (.int .u8 0) 1 1 Try.underlying40 hi hz0 hz1 hz2 rfl (by decide) _ _ _ rfl (by exact hown.alloc _) ⟨wr.heap.size, 0, none⟩ 1 1 [.int .u8 ((hexAt x k).toNat : Int)] rfl rfl ?c1 ?c2 ?c3 ?c4 ?c5 ?_))
      case c1 => exact news_one wr n _ _
      case c2 => intro u hu; simp at hu; subst hu; rfl
      case c3 => unfold maxLen; omega
      case c4 => omega
      case c5 => simp; omega
      · intro v' w1 hown' hgrow _
        have R1 : w1.ownsRow w.heap.size 5 1 v' (k + 1) (cellsOf (hexL x (k + 1))) := by rw [cellsOf_succ]; exact hown'
        have R2 : Below w.heap.size w w1 := ((below_drewN hbel n).alloc (by simp; omega) _).grown hgrow (by simp; omega) (fun g hg => (hown.lt g hg).1)
        clear hown' hgrow hown hbel
        go_wp2
        go_roundw
        case rel => exact ⟨k + 1, by omega, by go_num, R1, R2⟩
        case measure => simp [intOf]; omega
    · obtain rfl : k = 16 := by omega
      have hcv := to_text 16 (hexL_length x 16).symm (by omega) hown
      go_wp2
      go_ret
      exact ⟨rfl, hbel⟩
end Go.Proofs.Ytbodcjcnjbkcbaa.Fld
