/-
  Contracts of slices.Clone and slices.SortFunc (with place.compare) at loads, in plain words. Conditions: a row of entries in memory.
-/
import Derived.Test.YtfigohlgckandaaPlcOrd
import Derived.Test.YtfigohlgckandaaShelf
namespace Go.Proofs.Ytfigohlgckandaa
open Go.ChangeShapes Go.WideShapes Go.ChangeAt Go.RowKit Go.Sort Go.Shelf Go.Lib
set_option linter.unusedVariables false

/-- slices.Clone of a slice of length 0 that isn't nil -/
theorem Clone_zero (a : Addr) (c : Nat) (w : World) : Calls Try.prog 16 #[.slice (some a) 0 c] w (LoadsRet [] w) := by
  obtain ⟨i0, hi, hz0, hz1, hz2⟩ := info_parts load_info
  have q22 : ∀ (w : World) (a : Option Addr) (n c n' c' : Nat), (binOp .eql 22 (.slice a n c) (.slice none n' c')).run Try.prog w = .ok (.bool a.isNone) w := fun w a n c n' c' => Lib.run_eql_slice_nil w _ _ a n c n' c' Try.underlying22
  go_enter Try.func16, Try.ntmps16
  go_wp2_with (at_builtin; refine wpList_append_own _ rfl _ _ 22 rfl w.heap.size 31 i0 _ 2 16 Try.underlying22 hi hz0 hz1 hz2 rfl (by decide) _ _ _ rfl (World.ownsRow_made w #[] 0 (Nat.le_refl _) (Nat.zero_le _) rfl) a 0 c [] rfl rfl (by intro j u hj; simp at hj) (by intro u hu; cases hu) (by unfold maxLen; omega) (by omega) (by simp) ?_)
  intro v' w1 hown hgrow hnil
  go_wp2
  go_ret
  obtain ⟨A', c', rfl⟩ := own_formM hown
  exact ⟨A', c', rfl, by simpa [entsV] using hown, ((Below.refl _ w).alloc (Nat.le_refl _) _).grown hgrow (by simp) (by intro k hk; simp [Value.ownBlock] at hk; omega)⟩
/-- slices.Clone: the same loads in a row of its own -/
theorem Clone_seen (A : Option Addr) (n c : Nat) (t : List Ent) (w : World) (hl : t.length = n) (hs : Seen w A (entsV t)) (hn : n ≤ 100000) :
    Calls Try.prog 16 #[.slice A n c] w (LoadsRet t w) := by
  obtain ⟨i0, hi, hz0, hz1, hz2⟩ := info_parts load_info
  subst hl
  cases A with
  | none =>
    have ht : t = [] := by
      rcases hs with h | ⟨g, o, h, _⟩
      · have := entsV_length t
        rw [h] at this
        exact List.length_eq_zero_iff.1 (by simp at this; omega)
      · cases h
    subst ht
    refine (AnyE.slices_Clone_nil Try.cloneE 0 c w).mono ?_
    rintro e w' ⟨rfl, rfl⟩
    exact ⟨none, 0, rfl, World.ownsRow_nil _ _ _ _, Below.refl _ _⟩
  | some a =>
    rcases hs with h | ⟨g, o, hA, hc⟩
    · have := entsV_length t
      rw [h] at this
      have ht : t = [] := List.length_eq_zero_iff.1 (by simp at this; omega)
      subst ht
      exact Clone_zero a c w
    · injection hA with hA
      subst hA
      have z : ∀ w, (Go.sizeOf 31).run Try.prog w = .ok 2 w := Try.sizeOf31
      have h := AnyE.slices_Clone Try.cloneE i0 _ 2 16 hi hz0 hz1 hz2 rfl (by omega) z g o t.length c (entsV t) w (entsV_length t) (by unfold maxLen; omega) (by omega) hc (entsV_one t)
      refine h.mono ?_
      rintro e w' ⟨v', rfl, h1, _, h3⟩
      obtain ⟨A', c', rfl⟩ := own_formM h1
      exact ⟨A', c', rfl, h1, h3⟩

theorem flat_list (d : Array Ent) {j : Nat} (hj : j < d.size * 2) : (entsV d.toList)[j]? = some (flatK entV 2 d)[j]! := by
  rw [get_flatK _ _ _ _ hj]
  have hd : j / 2 < d.size := by omega
  have e : d.toList[j / 2]? = some d[j / 2]! := by rw [getElem!_pos d (j / 2) hd, Array.getElem?_toList, Array.getElem?_eq_getElem hd]
  obtain ⟨e0, e1⟩ := entsV_get e
  rcases (by omega : j = j / 2 * 2 ∨ j = j / 2 * 2 + 1) with h | h
  · rw [show j % 2 = 0 by omega, h, e0, ← h]; rfl
  · rw [show j % 2 = 1 by omega]
    rw [← h] at e1
    rw [e1]
    rfl
theorem sorted_own {w : World} {B g n c q : Nat} {T : TypeId} {t : List Ent} {d : Array Ent} {os : Array Obj} (h : w.ownsRow B T 2 (.slice (some ⟨g, 0, none⟩) n c) n (entsV t)) (hd : d.size = n) :
    (sortWorldK entV 2 w g 0 q d os).ownsRow B T 2 (.slice (some ⟨g, 0, none⟩) n c) n (entsV d.toList) ∧ Below B w (sortWorldK entV 2 w g 0 q d os) := by
  rcases h.2 with ⟨hv, _⟩ | ⟨g', cap, cur, hv, hg, hh, h1, h2, h3, h4⟩
  · cases hv
  · injection hv with hv _ hc
    injection hv with hv
    injection hv with hv
    subst hv; subst hc
    have hlt := (Array.getElem?_eq_some_iff.1 hh).1
    have hrow : (sortWorldK entV 2 w g 0 q d os).heap[g]? = some (.cells (putCells id 0 (flatK entV 2 d) cur) T (0, 0)) := by
      show (w.heap.modify g (onCells (putCells id 0 (flatK entV 2 d))) ++ os)[g]? = _
      rw [Array.getElem?_append_left (by simpa using hlt), Array.getElem?_modify, if_pos rfl, hh]
      rfl
    refine ⟨⟨by rw [entsV_length, Array.length_toList, hd], .inr ⟨g, c, _, rfl, hg, hrow, h1, h2, by simp [putCells, h3], ?_⟩⟩, ⟨rfl, rfl, rfl, ?_, fun k hk => ?_⟩⟩
    · apply List.ext_getElem?
      intro j
      rw [List.getElem?_take]
      by_cases hj : j < n * 2
      · rw [if_pos hj, flat_list d (by rw [hd]; exact hj), Array.getElem?_toList]
        have hjc : j < cur.size := by omega
        simp only [putCells, Array.getElem?_mapIdx, Array.getElem?_eq_getElem hjc, Option.map_some]
        rw [if_pos ⟨Nat.zero_le _, by rw [size_flatK, hd]; omega⟩]
        simp
      · rw [if_neg hj, eq_comm, List.getElem?_eq_none_iff, entsV_length, Array.length_toList, hd]; omega
    · show w.heap.size ≤ (w.heap.modify g (onCells (putCells id 0 (flatK entV 2 d))) ++ os).size
      simp
    · show (w.heap.modify g (onCells (putCells id 0 (flatK entV 2 d))) ++ os)[k]? = _
      rw [Array.getElem?_append_left (by simp; omega), Array.getElem?_modify, if_neg (by omega)]

theorem cmpLays (blk off size : Nat) (w : World) : CmpLays Try.prog 12 #[] entV 2 cmpE blk off size w := fun _ _ _ _ x y => compare_any x y _
/-- slices.SortFunc: the row holds them sorted -/
theorem Sort_any (B : Nat) (A : Option Addr) (c : Nat) (t : List Ent) (w : World) (hown : w.ownsRow B 31 2 (.slice A t.length c) t.length (entsV t)) (hl : t.length ≤ 100000) :
    Calls Try.prog 17 #[.slice A t.length c, .func (.func 12) #[] #[]] w fun e w' => e = .returned (.tuple #[]) ∧ w'.ownsRow B 31 2 (.slice A t.length c) t.length (entsV (sortE t)) ∧ Below B w w' := by
  rcases hown.2 with ⟨hv, hn⟩ | ⟨g, cap, cur, hv, hg, hh, h1, h2, h3, h4⟩
  · have ht : t = [] := List.length_eq_zero_iff.1 hn
    subst ht
    refine (AnyF.slices_SortFunc_none Try.sortE A c _ w).mono ?_
    rintro e w' ⟨rfl, rfl⟩
    exact ⟨rfl, by simpa [sortE] using hown, Below.refl _ _⟩
  · injection hv with hA _ hc
    subst hA; subst hc
    have aE : ∀ w, (isAgg 31).run Try.prog w = .ok true w := Try.isAgg31
    have zE : ∀ w, (Go.sizeOf 31).run Try.prog w = .ok 2 w := Try.sizeOf31
    have eg : ∀ args w, (callFunc 12 args).run Try.prog w = .ok (.enter 12 args) w := enters_of Try.func12 (by kernel_rfl) rfl
    have hH : HoldsK entV 2 w g 0 t.toArray := by
      intro j hj
      rw [size_flatK, List.size_toArray] at hj
      have e := flat_list t.toArray (j := j) (by simpa using hj)
      refine ⟨?_, hown.frozenAt _⟩
      rw [Nat.zero_add, hown.cellAt _ (by omega)]
      simpa using e
    have h := AnyQ.slices_SortFunc_total Try.sortE 2 aE zE entV (fun _ => rfl) (fun x v hv => by simp [entV] at hv; rcases hv with rfl | rfl <;> rfl) cmpE swo_cmpE 12 #[] g 0 c t.toArray w eg (cmpLays g 0 _ w) hH (Array.getElem?_eq_some_iff.1 hh).1 (by simp; omega)
      (fun x y h1 h2 => by rw [ltOf_cmpE, decide_eq_false_iff_not] at h1 h2; exact antisymm_E h2 h1)
    refine h.mono ?_
    rintro e w' ⟨rfl, n, os, rfl⟩
    have hs := sorted_own (q := n) (d := (sortE t).toArray) (os := os) hown (by simp [sortE, List.length_mergeSort])
    refine ⟨rfl, ?_, ?_⟩
    · have := hs.1
      simpa [sortE] using this
    · have := hs.2
      simpa [sortE] using this
end Go.Proofs.Ytfigohlgckandaa
