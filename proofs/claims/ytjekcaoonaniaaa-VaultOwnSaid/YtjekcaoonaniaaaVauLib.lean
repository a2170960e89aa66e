/-
  Contracts of maps.Keys, slices.Sorted, maps.Clone over a map of values, and of slices.Clone of bytes. Conditions: a map of values whose keys rise; what each names.
-/
import Derived.Test.YtjekcaoonaniaaaShelf
import Derived.Test.YtjekcaoonaniaaaVauMap
import Derived.Lib.SliceRun
namespace Go.Proofs.Ytjekcaoonaniaaa
open Go.ChangeShapes Go.WideShapes Go.ChangeAt Go.RowKit Go.Maps Go.Shelf
set_option linter.unusedVariables false

/-- keys as cells -/
def keysV (x : Vals) : List Value := x.map fun p => .int .i64 p.1
theorem keysV_length (x : Vals) : (keysV x).length = x.length := by simp [keysV]
theorem sorted_keys {x : Vals} (h : Rising x) {ss : List Int} (hp : ss.Perm (x.map (·.1))) : (ss.mergeSort (fun a b => decide (a ≤ b))).map encZ = keysV x := by
  have e : ss.mergeSort leI = (x.map (·.1)).mergeSort leI := mergeSort_of_perm_i hp
  have e2 : (x.map (·.1)).mergeSort leI = x.map (·.1) := by
    refine List.mergeSort_of_pairwise ?_
    rw [List.pairwise_map]
    exact h.imp fun hlt => by simp only [leI, decide_eq_true_eq]; omega
  show (ss.mergeSort leI).map encZ = _
  rw [e, e2, List.map_map]
  rfl

/-- the world behind maps.Keys -/
def boxed (w : World) (m : Nat) : World := w.alloc (.cells #[.map (some m)] 45)
theorem Keys_any (m : Nat) (w : World) :
    Calls Try.prog 23 #[.map (some m)] w fun e w' => e = .returned (.func (.func 43) #[] #[.pointer (some ⟨w.heap.size, 0, none⟩)]) ∧ w' = boxed w m :=
  (callsIn_wide (n := 5)).1 (AnyZI.keys_in Try.keysA Fence.wide 5 trivial rfl (some m) w)
theorem sortsA (m : Nat) : AnyZI.SortsIn Try.prog Try.sortedA_ren Fence.wide m :=
  ⟨fun blk off cap ss W hH hblk hsz => callsIn_wide.2 (AnyM.slices_Sort_int Try.sortA blk off cap ss W hH hblk hsz),
   fun p cap W => callsIn_wide.2 (AnyM.slices_Sort_int_none Try.sortA p cap W)⟩
theorem Sorted_any (B m : Nat) (x : Vals) (w : World) (h : ValsAt w B m x) (hr : Rising x) (hl : x.length ≤ 1000000) :
    Calls Try.prog 22 #[.func (.func 43) #[] #[.pointer (some ⟨w.heap.size, 0, none⟩)]] (boxed w m) fun e w' =>
      ∃ A c, e = .returned (.slice A x.length c) ∧ w'.ownsRow w.heap.size 3 1 (.slice A x.length c) x.length (keysV x) ∧ Below w.heap.size w w' := by
  obtain ⟨hB, f, hmap, hrow⟩ := h
  have hlt := hmap.lt
  have hmap' := hmap
  obtain ⟨es, clock, hb, F, hs, hD⟩ := hmap
  have hsz : Maps.size (valsD x f) = x.length := valsD_size x f
  have hseq : SeqGives Fence.wide 2 Try.prog 43 #[.pointer (some ⟨w.heap.size, 0, none⟩)] encZ (fun ss => ss.Perm (intKeys (valsD x f))) (Maps.size (valsD x f)) (boxed w m) :=
    AnyZI.keys_gives (ρ := Try.keysA_ren) { Try.keysA with } Fence.wide _ trivial rfl (by omega) w.heap.size m x.length (valsD x f) _ (by simp [boxed]) (by simp [boxed]) (R := heldR)
      ⟨es, clock, (Below.heap_alloc _ _ m hlt).trans hb, F, hs, hD⟩
  have cS := AnyZI.sorted_in Try.sortedA Fence.wide 5 trivial trivial trivial trivial rfl (by omega) (sortsA _) (enters_of Try.func42 (by kernel_rfl) rfl) 43 #[.pointer (some ⟨w.heap.size, 0, none⟩)] trivial
    (enters_of Try.func43 (by kernel_rfl) rfl) _ _ (by rw [hsz]; unfold maxLen; omega) (by rw [hsz]; omega) _ hseq
  change CallsIn _ _ Try.prog 22 _ _ _ at cS
  refine ((callsIn_wide (n := 5)).1 cS).mono ?_
  rintro e w' ⟨v, ss, rfl, hp, hown, hnil, hb⟩
  rw [valsD_keys] at hp
  rw [sorted_keys hr hp] at hown
  have hlen : ss.length = x.length := by have := hp.length_eq; simpa using this
  rw [hlen] at hown
  have hb2 : Below w.heap.size w w' := ((Below.refl _ w).alloc (Nat.le_refl _) _).trans (hb.mono (by simp [boxed]))
  obtain ⟨A, c, rfl⟩ := own_form hown
  exact ⟨A, c, rfl, own_base hown (by simp [boxed]), hb2⟩

theorem MClone_any (B m : Nat) (x : Vals) (w : World) (h : ValsAt w B m x) (hBw : B ≤ w.heap.size) :
    Calls Try.prog 65 #[.map (some m)] w fun e w' => e = .returned (.map (some w.heap.size)) ∧ ValsAt w' B w.heap.size x ∧ Below w.heap.size w w' := by
  obtain ⟨hB, f, hmap, hrow⟩ := h
  refine (AnyW.maps_Clone_owns Try.cloneA 3 heldR m _ _ w hmap).mono ?_
  rintro e w' ⟨rfl, h1, h2, hb⟩
  exact ⟨rfl, ⟨hBw, f, h1, fun p hp => own_below (hrow p hp) hb⟩, hb⟩

theorem SClone_any (A : Option Addr) (n c : Nat) (bs : List UInt8) (w : World) (hn : bs.length = n) (hl : n ≤ 1000000) (hs : Seen w A (bytesV bs)) :
    Calls Try.prog 20 #[.slice A n c] w (OwnRet 5 (bytesV bs) w) := by
  obtain ⟨i0, hi, hz0, hz1, hz2⟩ := info_parts u8_info
  cases A with
  | none =>
    have hb : bs = [] := by
      rcases hs with h | ⟨g, o, e, _⟩
      · simpa [bytesV] using h
      · cases e
    subst hb
    refine (AnyE.slices_Clone_nil Try.cloneB n c w).mono ?_
    rintro e w' ⟨rfl, rfl⟩
    exact ⟨none, 0, rfl, World.ownsRow_nil _ _ _ _, Below.refl _ _⟩
  | some ad =>
    have hx : (bytesV bs).length = n := by rw [bytes_length, hn]
    have q22 : ∀ (w : World) (a : Option Addr) (n c n' c' : Nat), (binOp .eql 30 (.slice a n c) (.slice none n' c')).run Try.prog w = .ok (.bool a.isNone) w := fun w a n c n' c' => Lib.run_eql_slice_nil w _ _ a n c n' c' Try.underlying30
    have Hs := Lib.hid hs; have Hx := Lib.hid hx
    clear hs hx hn
    go_enter Try.func20, Try.ntmps20
    go_wp2_with (at_builtin; refine wpList_app rfl (.tmp 5) (.tmp 6) _ rfl 5 _ 1 Try.underlying30 u8_info rfl w.heap.size (some ⟨w.heap.size, 0, none⟩) 0 0 [] rfl (World.ownsRow_made w #[] 0 (Nat.le_refl _) (Nat.zero_le _) (by simp)) (some ad) n c (bytesV bs) rfl Hx.out (Hs.out.alloc _) (bytes_one _) (by unfold maxLen; omega) (by omega) (by simp) ?_; intro A4 c4 w4 hown4 hb4; simp only [Nat.zero_add, List.nil_append] at hown4; have Hown4 := Lib.hid hown4; have Hb4 := Lib.hid hb4; clear hown4 hb4; simp only [Nat.zero_add])
    go_ret
    exact ⟨A4, c4, by rw [Hx.out]; rfl, by rw [Hx.out]; exact Hown4.out, ((Below.refl _ w).alloc (Nat.le_refl _) _).trans Hb4.out⟩
end Go.Proofs.Ytjekcaoonaniaaa
