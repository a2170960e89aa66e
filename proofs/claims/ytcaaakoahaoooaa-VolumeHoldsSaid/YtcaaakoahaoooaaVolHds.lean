/-
  Words for the law VolumeHolds: an array of 200 numbers, whatever Volume hands back, how many chunks were made, who has a chunk. Conditions: what each names.
-/
import Derived.Test.YtcaaakoahaoooaaVolGrt
import Derived.Test.YtcaaakoahaoooaaVolEpk
import Derived.Test.YtcaaakoahaoooaaVolHas
namespace Go.Proofs.Ytcaaakoahaoooaa
open Go.ChangeShapes Go.WideShapes Go.ChangeAt Go.RowKit
set_option linter.unusedVariables false
set_option linter.unusedSimpArgs false

/-- the array at g -/
def EpAt (w : World) (g : Nat) (F : Int → Int) : Prop := ∃ cs, w.heap[g]? = some (.cells cs 27 (0, 0)) ∧ cs.size = 200 ∧ ∀ i : Nat, i < 200 → cs[i]? = some (.int .i64 (F (i : Int)))
def z200 : Array Value := Array.replicate 200 (.int .i64 0)
def z200V : Value := .agg z200
theorem z200_run (w : World) : (zeroValue 27).run Try.prog w = .ok (.agg z200) w := (zero_of_info (n := 200) (v := z200V) (by kernel_rfl)).1 w
theorem EpAt.new (w : World) : EpAt (w.alloc (.cells z200 27)) w.heap.size (fun _ => 0) :=
  ⟨z200, heap_alloc_new _ _, by simp [z200], fun i hi => by simp [z200, hi]⟩
theorem EpAt.turned {p : Nat → Prop} {w w' : World} {g : Nat} {F : Int → Int} (h : EpAt w g F) (ht : Turned p w w') (hp : ¬ p g) : EpAt w' g F := by
  obtain ⟨cs, h1, h2⟩ := h
  exact ⟨cs, ht.heap h1 hp, h2⟩
theorem EpAt.below {w w' : World} {g : Nat} {F : Int → Int} (h : EpAt w g F) (hb : Below w.heap.size w w') : EpAt w' g F := h.turned (p := fun _ => False) (.of_below hb) id
theorem EpAt.lt {w : World} {g : Nat} {F : Int → Int} (h : EpAt w g F) : g < w.heap.size := by
  obtain ⟨cs, h1, h2⟩ := h
  exact (Array.getElem?_eq_some_iff.1 h1).1
theorem EpAt.cell {w : World} {g : Nat} {F : Int → Int} (h : EpAt w g F) {i : Nat} (hi : i < 200) : w.cell? ⟨g, i, none⟩ = some (.int .i64 (F (i : Int))) := by
  obtain ⟨cs, h1, h2, h3⟩ := h
  rw [row_cell h1 i]; exact h3 i hi
theorem EpAt.thaw {w : World} {g : Nat} {F : Int → Int} (h : EpAt w g F) (i : Nat) : w.frozen? ⟨g, i, none⟩ = false := by
  obtain ⟨cs, h1, h2, h3⟩ := h
  exact row_frozen h1 i
theorem EpAt.set {w : World} {g : Nat} {F : Int → Int} (h : EpAt w g F) {k : Nat} (hk : k < 200) (x : Int) : EpAt (w.setCell ⟨g, k, none⟩ (.int .i64 x)) g (fun y => if y = (k : Int) then x else F y) := by
  obtain ⟨cs, h1, h2, h3⟩ := h
  refine ⟨_, row_set h1 k _, by simpa using h2, fun i hi => ?_⟩
  rw [Array.getElem?_setIfInBounds]
  by_cases e : k = i
  · subst e
    simp [h2, hi]
  · have e2 : ¬ (i : Int) = (k : Int) := fun h => e (by omega)
    simp only [if_neg e, if_neg e2]
    exact h3 i hi
theorem EpAt.noCk {w : World} {g : Nat} {F : Int → Int} (h : EpAt w g F) : NoCk w (fun k => k = g) := by
  obtain ⟨cs, h1, h2⟩ := h
  exact noCk_box h1 (by decide) (by decide)

/-- whatever Volume hands back -/
def VolAny (s : St) (id : Int) (w : World) (e : Ending) (w' : World) : Prop :=
  ∃ (d bl re we li bu ver : Int) (S : Sl), e = .returned (.tuple #[.agg #[.int .i64 d, .int .i64 bl, .int .i64 re, .int .i64 we, .int .i64 li, .int .i64 bu, .int .i64 ver, .slice S.A S.n S.c], .bool (isVol s id)]) ∧ (isVol s id = true → ver = (s.vs id.toNat).ver) ∧ Below w.heap.size w w'
theorem VVolAny (g : Nat) (s : St) (id : Int) (w : World) (h : StAt w g s) (hf : StFit s) :
    Calls Try.prog 10 #[.pointer (some ⟨g, 0, none⟩), .int .i64 id] w (VolAny s id w) := by
  cases hv : isVol s id with
  | true =>
    obtain ⟨m, hm, _, _⟩ := isVol_nat hv
    subst hm
    refine (VVolume_yes g s m w h hf hv).mono ?_
    rintro e w' ⟨S, rfl, _, hb⟩
    exact ⟨_, _, _, _, _, _, _, S, by rw [hv], fun _ => by simp, hb⟩
  | false =>
    refine (VVolume_no g s id w h hv).mono ?_
    rintro e w' ⟨rfl, hb⟩
    exact ⟨0, 0, 0, 0, 0, 0, 0, Sl.nil, by rw [hv]; rfl, fun e => (by rw [hv] at e; cases e), hb⟩
theorem ldCmd_at {w : World} {g q : Nat} {c : Cmd} (h : CmdAt w g q c) : (ldCmd (.pointer (some ⟨g, q, none⟩))).run Try.prog w = .ok (cmdA c) w :=
  run_loadAt_mid w g q 36 (cmdV c) _ h.1 Try.underlying36 rfl cmd_info

/-! ### how many chunks are made -/
theorem bud_small {c : Cmd} (h : bigC c = false) : budC c ≤ 5 := by
  unfold budC
  split
  · rename_i hh
    obtain ⟨hk, h1, h2⟩ := hh
    have hb : c.b ≤ 40 := by
      unfold bigC at h
      rcases hk with hk | hk <;> · simp only [hk, decide_true, Bool.true_or, Bool.or_true, Bool.true_and, Bool.and_eq_false_iff, decide_eq_false_iff_not] at h; omega
    unfold countF
    omega
  · omega
theorem great_no {l : List Cmd} (h : greatF l = false) : l.length ≤ 30 ∧ ∀ c ∈ l, bigC c = false := by
  unfold greatF at h
  rw [Bool.or_eq_false_iff] at h
  obtain ⟨h1, h2⟩ := h
  have h3 : l.length ≤ 30 := by simpa using h2
  rw [List.take_of_length_le h3, List.any_eq_false] at h1
  exact ⟨h3, fun c hc => by simpa using h1 c hc⟩
/-! ### versions, servers, chunks -/
theorem applyS_ver {n : Int} {s : St} {c : Cmd} (h : GoodD n s) (hv : isVol s c.a = true) (h3 : c.k ≠ 3) : (s.vs c.a.toNat).ver ≤ ((applyS s c).1.vs c.a.toNat).ver := by
  obtain ⟨m, hm, _, _⟩ := isVol_nat hv
  have hd := doS_ver (a := m) h (by rw [← hm]; exact hv) h3
  have e : c.a.toNat = m := by omega
  rw [e]
  unfold applyS
  split
  · split
    · exact Int.le_refl _
    split
    · exact hd
    · exact Int.le_refl _
  · exact Int.le_refl _
theorem ids_good {n : Int} {s : St} (h : GoodD n s) {v : Int} (hv : v ∈ sortI (idsK (allKs s 64))) : ∃ i j k, findS s v = some (i, j, k) ∧ FoundAt s v i j k ∧ GoodK s.pk s.md n i k := by
  unfold sortI at hv
  rw [List.mem_mergeSort] at hv
  unfold idsK at hv
  obtain ⟨k, hk, rfl⟩ := List.mem_map.1 hv
  unfold allKs at hk
  obtain ⟨i, hi, hki⟩ := List.mem_flatMap.1 hk
  rw [List.mem_range] at hi
  cases hf : findS s k.id with
  | none => exact absurd rfl (findS_none hf i hi k hki)
  | some r =>
    obtain ⟨i', j', k'⟩ := r
    have hfa := findS_some hf
    exact ⟨i', j', k', rfl, hfa, (h.vs i' hfa.1).ks k' (List.mem_of_getElem? hfa.2.1)⟩
theorem nodup_has {l : List Int} (h : l.Nodup) {j : Nat} {v : Int} (hj : l[j]? = some v) : decide (v ∈ l.take j) = false := by
  rw [decide_eq_false_iff_not]
  intro hin
  have h1 := h.sublist (List.take_sublist (j + 1) l)
  rw [take_snoc hj, List.nodup_append] at h1
  exact h1.2.2 _ hin _ (by simp) rfl
end Go.Proofs.Ytcaaakoahaoooaa
