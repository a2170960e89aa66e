/-
  Contracts of maps.Keys and slices.Sorted over a map of clients, or nil, and of Clients of the table. Conditions: a table in memory, whose clients rise.
-/
import Derived.Test.YtkjfaijdmpnjkaaDupPtt
import Derived.Test.YtkjfaijdmpnjkaaShelfB
namespace Go.Proofs.Ytkjfaijdmpnjkaa
open Go.ChangeShapes Go.WideShapes Go.ChangeAt Go.RowKit Go.Maps Go.Shelf Go.Sort
set_option linter.unusedVariables false

def keysL (x : List Lst) : List Int := x.map (·.1)
theorem keysL_length (x : List Lst) : (keysL x).length = x.length := by simp [keysL]
/-- the world behind maps.Keys -/
def boxed (w : World) (m : Option Nat) : World := w.alloc (.cells #[.map m] 24)
theorem Keys_any (m : Option Nat) (w : World) :
    Calls Try.prog 25 #[.map m] w fun e w' => e = .returned (.func (.func 33) #[] #[.pointer (some ⟨w.heap.size, 0, none⟩)]) ∧ w' = boxed w m :=
  (callsIn_wide (n := 5)).1 (AnyZI.keys_in Try.keysA Fence.wide 5 trivial rfl m w)
theorem sortsP (m : Nat) : AnyZI.SortsIn Try.prog Try.sortedA_ren Fence.wide m :=
  ⟨fun blk off cap ss W hH hblk hsz => callsIn_wide.2 (AnyM.slices_Sort_int Try.sortA blk off cap ss W hH hblk hsz),
   fun p cap W => callsIn_wide.2 (AnyM.slices_Sort_int_none Try.sortA p cap W)⟩
theorem tabD_keys (x : List Lst) : intKeys (tabD x) = keysL x := by
  unfold tabD intKeys keysL
  simp only [encT, List.map_map, Function.comp_def]
  rfl
theorem sorted_keys {x : List Lst} (h : Rise x) {ss : List Int} (hp : ss.Perm (keysL x)) : (ss.mergeSort (fun a b => decide (a ≤ b))).map encZ = numsV (keysL x) := by
  have e : ss.mergeSort leI = (keysL x).mergeSort leI := mergeSort_of_perm_i hp
  have e2 : (keysL x).mergeSort leI = keysL x := by
    refine List.mergeSort_of_pairwise ?_
    unfold keysL
    rw [List.pairwise_map]
    exact h.imp fun hlt => by simp only [leI, decide_eq_true_eq]; omega
  show (ss.mergeSort leI).map encZ = _
  rw [e, e2]
  rfl
/-- numbers of a row of its own, handed back -/
def NumsRet (l : List Int) (w : World) (en : Ending) (w' : World) : Prop :=
  ∃ A c, en = .returned (.slice A l.length c) ∧ w'.ownsRow w.heap.size 3 1 (.slice A l.length c) l.length (numsV l) ∧ Below w.heap.size w w'
theorem Sorted_some (b : Nat) (x : List Lst) (w : World) (h : TabM w b x) (hr : Rise x) (hl : x.length ≤ 1000000) :
    Calls Try.prog 24 #[.func (.func 33) #[] #[.pointer (some ⟨w.heap.size, 0, none⟩)]] (boxed w (some b)) (NumsRet (keysL x) w) := by
  have hlt := h.lt
  obtain ⟨es, clock, hb, F, hs, hD⟩ := h
  have hsz : Maps.size (tabD x) = x.length := tabD_size x
  have hseq : SeqGives Fence.wide 2 Try.prog 33 #[.pointer (some ⟨w.heap.size, 0, none⟩)] encZ (fun ss => ss.Perm (intKeys (tabD x))) (Maps.size (tabD x)) (boxed w (some b)) :=
    AnyZI.keys_gives (ρ := Try.keysA_ren) { Try.keysA with } Fence.wide _ trivial rfl (by omega) w.heap.size b x.length (tabD x) _ (by simp [boxed]) (by simp [boxed]) (R := lsR)
      ⟨es, clock, (Below.heap_alloc _ _ b hlt).trans hb, F, hs, hD⟩
  have cS := AnyZI.sorted_in Try.sortedA Fence.wide 5 trivial trivial trivial trivial rfl (by omega) (sortsP _) (enters_of Try.func32 (by kernel_rfl) rfl) 33 #[.pointer (some ⟨w.heap.size, 0, none⟩)] trivial
    (enters_of Try.func33 (by kernel_rfl) rfl) _ _ (by rw [hsz]; unfold maxLen; omega) (by rw [hsz]; omega) _ hseq
  change CallsIn _ _ Try.prog 24 _ _ _ at cS
  refine ((callsIn_wide (n := 5)).1 cS).mono ?_
  rintro e w' ⟨v, ss, rfl, hp, hown, hnil, hb⟩
  rw [tabD_keys] at hp
  rw [sorted_keys hr hp] at hown
  have hlen : ss.length = (keysL x).length := hp.length_eq
  rw [hlen] at hown
  have hb2 : Below w.heap.size w w' := ((Below.refl _ w).alloc (Nat.le_refl _) _).trans (hb.mono (by simp [boxed]))
  obtain ⟨A, c, rfl⟩ := own_formM hown
  exact ⟨A, c, rfl, own_base hown (by simp [boxed]), hb2⟩
theorem Sorted_none (w : World) :
    Calls Try.prog 24 #[.func (.func 33) #[] #[.pointer (some ⟨w.heap.size, 0, none⟩)]] (boxed w none) (NumsRet [] w) := by
  have hseq : SeqGives Fence.wide 2 Try.prog 33 #[.pointer (some ⟨w.heap.size, 0, none⟩)] encZ (fun ss : List Int => ss = []) 0 (boxed w none) :=
    AnyZI.keys_gives_nil (ρ := Try.keysA_ren) { Try.keysA with } Fence.wide _ trivial rfl w.heap.size _ (by simp [boxed]) (by simp [boxed])
  have cS := AnyZI.sorted_in Try.sortedA Fence.wide 5 trivial trivial trivial trivial rfl (by omega) (sortsP _) (enters_of Try.func32 (by kernel_rfl) rfl) 33 #[.pointer (some ⟨w.heap.size, 0, none⟩)] trivial
    (enters_of Try.func33 (by kernel_rfl) rfl) _ _ (by unfold maxLen; omega) (by omega) _ hseq
  change CallsIn _ _ Try.prog 24 _ _ _ at cS
  refine ((callsIn_wide (n := 5)).1 cS).mono ?_
  rintro e w' ⟨v, ss, rfl, hp, hown, hnil, hb⟩
  subst hp
  have hb2 : Below w.heap.size w w' := ((Below.refl _ w).alloc (Nat.le_refl _) _).trans (hb.mono (by simp [boxed]))
  obtain ⟨A, c, rfl⟩ := own_formM hown
  have hown' : w'.ownsRow (boxed w none).heap.size 3 1 (.slice A 0 c) 0 (numsV []) := by
    have e : (([] : List Int).mergeSort (fun x y => decide (x ≤ y))) = [] := by simp
    rw [e] at hown
    exact hown
  exact ⟨A, c, rfl, own_base hown' (by simp [boxed]), hb2⟩
theorem Sorted_any (m : Option Nat) (x : List Lst) (w : World) (h : MapT w m x) (hr : Rise x) (hl : x.length ≤ 1000000) :
    Calls Try.prog 24 #[.func (.func 33) #[] #[.pointer (some ⟨w.heap.size, 0, none⟩)]] (boxed w m) (NumsRet (keysL x) w) := by
  rcases h with ⟨rfl, rfl⟩ | ⟨b, rfl, h⟩
  · exact Sorted_none w
  · exact Sorted_some b x w h hr hl

set_option maxRecDepth 100000 in
theorem Clients_any (g : Nat) (m : Option Nat) (x : List Lst) (w : World) (H : TabAt w g m x) (hr : Rise x) (hl : x.length ≤ 1000000) :
    Calls Try.prog 13 #[.pointer (some ⟨g, 0, none⟩)] w (NumsRet (keysL x) w) := by
  have a0 : w.cell? ⟨g, 0, none⟩ = some (.map m) := row_cell H.1 0
  have HS := Lib.hid (Sorted_any m x w H.2 hr hl)
  clear H hr hl
  go_enter Try.func13, Try.ntmps13
  go_wp2_with fail
  refine (Keys_any m w).mono ?_
  rintro e w1 ⟨rfl, rfl⟩
  go_wp2_with fail
  refine HS.out.mono ?_
  rintro e w2 ⟨A, c, rfl, hown, hb2⟩
  have Hb := Lib.hid hb2; have Ho := Lib.hid hown
  clear hb2 hown
  go_wp2
  go_ret
  exact ⟨A, c, rfl, Ho.out, Hb.out⟩
end Go.Proofs.Ytkjfaijdmpnjkaa
