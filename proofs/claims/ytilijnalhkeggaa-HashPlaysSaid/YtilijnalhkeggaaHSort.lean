/-
  The sorted keys of a table's map: the chains that have keys, as their numbers rise. Conditions: a table that is there.
-/
import Derived.Test.YtilijnalhkeggaaHCar
import Derived.Test.YtilijnalhkeggaaHLay
namespace Go.Proofs.Ytilijnalhkeggaa.Hs
open Go.RowKit Go.Maps Go.Sort Go.Shelf
open Go.ChangeAt
set_option maxHeartbeats 1000000
set_option maxRecDepth 100000
/-- The numbers of the chains that have keys. -/
def liveI (V : Nat → Value) (n : Nat) : List Int := (liveN V n).map (fun i : Nat => (i : Int))
theorem live_perm {w : World} {b m n : Nat} {D : DataW Unit} {V : Nat → Value} (h : Owns w b m D) (hm : MapIs D n V) : (liveI V n).Perm (intKeys D) := by
  obtain ⟨es, rfl, hpw, hk⟩ := h.entries lawI
  have hp : es.Pairwise (fun p q => p.1 ≠ q.1) := by first | exact hpw | exact hpw.imp (fun h => h)
  refine perm_intKeys hp (fun p hp' => ?_) ?_ (fun x => ?_)
  · obtain ⟨i, _, e, _⟩ := hm.has_ p.1 (List.any_eq_true.2 ⟨p, hp', by obtain ⟨es', he, hr, hl⟩ := h.canon lawI; cases he; exact WideAt.sameKey_self (hl p hp')⟩)
    exact ⟨(i : Int), e⟩
  · unfold liveI
    exact List.pairwise_map.2 ((live_rises V n).imp (fun {a b} hab => by omega))
  · unfold liveI
    rw [List.mem_map]
    constructor
    · rintro ⟨i, hi, rfl⟩
      obtain ⟨a, c⟩ := mem_live.1 hi
      exact hm.nz i a c
    · intro hx
      obtain ⟨i, a, e, c⟩ := hm.has_ _ hx
      injection e with _ e
      exact ⟨i, mem_live.2 ⟨a, c⟩, e.symm⟩
theorem live_sorted {w : World} {b m n : Nat} {D : DataW Unit} {V : Nat → Value} (h : Owns w b m D) (hm : MapIs D n V) {ss : List Int} (hs : ss.Perm (intKeys D)) : ss.mergeSort (fun x y => decide (x ≤ y)) = liveI V n := by
  have e1 := mergeSort_of_perm_i (hs.trans (live_perm h hm).symm)
  refine e1.trans ?_
  have tr : ∀ a b c : Int, leI a b = true → leI b c = true → leI a c = true := fun a b c h1 h2 => by simp only [leI, decide_eq_true_eq] at *; exact Int.le_trans h1 h2
  have to : ∀ a b : Int, (leI a b || leI b a) = true := fun a b => by simp only [leI, Bool.or_eq_true, decide_eq_true_eq]; exact Int.le_total a b
  refine List.Perm.eq_of_pairwise (le := fun a b => leI a b = true) (fun a b _ _ h1 h2 => ?_) (List.pairwise_mergeSort tr to _) ?_ (List.mergeSort_perm _ leI)
  · simp only [leI, decide_eq_true_eq] at h1 h2
    exact Int.le_antisymm h1 h2
  · unfold liveI
    exact List.pairwise_map.2 ((live_rises V n).imp (fun {a b} hab => by simp only [leI, decide_eq_true_eq]; omega))
theorem sortsIn (m : Nat) : AnyZI.SortsIn Try.prog laySorted_ren Fence.wide m :=
  ⟨fun blk off cap ss W hH hblk hsz => callsIn_wide.2 (AnyM.slices_Sort_int laySort blk off cap ss W hH hblk hsz),
   fun p cap W => callsIn_wide.2 (AnyM.slices_Sort_int_none laySort p cap W)⟩
theorem mkeys_any (b : Nat) (w : World) : Calls Try.prog 60 #[.map (some b)] w fun e w' => e = .returned (.func (.func 68) #[] #[.pointer (some ⟨w.heap.size, 0, none⟩)]) ∧ w' = w.alloc (.cells #[.map (some b)] 64) :=
  (callsIn_wide (n := 5)).1 (AnyZI.keys_in layKeys Fence.wide 5 trivial rfl (some b) w)
theorem msorted_any {bp b m n : Nat} {D : DataW Unit} {V : Nat → Value} (w : World) (hb : w.heap[bp]? = some (.cells #[.map (some b)] 64 (0, 0))) (h : Owns w b m D) (hm : MapIs D n V) (hsz : Maps.size D ≤ 1073741824) :
    Calls Try.prog 59 #[.func (.func 68) #[] #[.pointer (some ⟨bp, 0, none⟩)]] w fun e w' =>
      ∃ v, e = .returned v ∧ w'.ownsRow w.heap.size 3 1 v (liveI V n).length ((liveI V n).map encZ) ∧ Below w.heap.size w w' := by
  have hbl := (Array.getElem?_eq_some_iff.1 hb).1
  have hseq : SeqGives Fence.wide 3 Try.prog 68 #[.pointer (some ⟨bp, 0, none⟩)] encZ (fun ss => ss.Perm (intKeys D)) (Maps.size D) w :=
    AnyZI.keys_gives (ρ := layKeys_ren) { layKeys with } Fence.wide _ trivial rfl (by omega) bp b m D _ hbl (by simp [World.cell?, hb]) h
  have cS := AnyZI.sorted_in laySorted Fence.wide 6 trivial trivial trivial trivial rfl (by omega) (sortsIn _) (enters_of Try.func67 (by kernel_rfl) rfl) 68 #[.pointer (some ⟨bp, 0, none⟩)] trivial (enters_of Try.func68 (by kernel_rfl) rfl) _ _ (by unfold maxLen; omega) (by omega) _ hseq
  refine ((callsIn_wide (n := 6)).1 cS).mono ?_
  rintro e w' ⟨v, ss, rfl, hS, hrow, _, hbel⟩
  have e1 := live_sorted h hm hS
  have e2 : ss.length = (liveI V n).length := by rw [← e1, List.length_mergeSort]
  rw [e1, e2] at hrow
  exact ⟨v, rfl, hrow, hbel⟩
end Go.Proofs.Ytilijnalhkeggaa.Hs
