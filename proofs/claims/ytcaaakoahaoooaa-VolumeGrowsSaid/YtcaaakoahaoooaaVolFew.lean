/-
  Contract of volume's fewest: servers ordered by a closure. Conditions: a state in memory.
-/
import Derived.Test.YtcaaakoahaoooaaVolHav
namespace Go.Proofs.Ytcaaakoahaoooaa
open Go.ChangeShapes Go.WideShapes Go.ChangeAt Go.RowKit Go.Sort Go.Shelf Go.Lib
set_option linter.unusedVariables false

/-- the closure's comparison -/
def cmpFew (L : List Int) (x y : Fin 16) : Int :=
  if Lib.compareInt (L.count ((x.1 : Nat) : Int) : Nat) (L.count ((y.1 : Nat) : Int) : Nat) = 0 then Lib.compareInt ((x.1 : Nat) : Int) ((y.1 : Nat) : Int) else Lib.compareInt (L.count ((x.1 : Nat) : Int) : Nat) (L.count ((y.1 : Nat) : Int) : Nat)
theorem cmpFew_lt (L : List Int) (x y : Fin 16) : cmpFew L x y < 0 ↔ (L.count ((x.1 : Nat) : Int) < L.count ((y.1 : Nat) : Int) ∨ (L.count ((x.1 : Nat) : Int) = L.count ((y.1 : Nat) : Int) ∧ x.1 < y.1)) := by
  unfold cmpFew Lib.compareInt
  generalize L.count ((x.1 : Nat) : Int) = a
  generalize L.count ((y.1 : Nat) : Int) = b
  obtain ⟨x, hx⟩ := x
  obtain ⟨y, hy⟩ := y
  simp only
  repeat' split
  all_goals omega
theorem ltOf_few (L : List Int) (x y : Fin 16) : (!(ltOf (cmpFew L)) y x) = fewerB (fun i => L.count (i : Int)) x.1 y.1 := by
  unfold ltOf fewerB
  rw [Bool.eq_iff_iff]
  simp only [Bool.not_eq_true', decide_eq_false_iff_not, cmpFew_lt, Bool.or_eq_true, Bool.and_eq_true, decide_eq_true_eq]
  omega
theorem ltOf_few_iff (L : List Int) (x y : Fin 16) : ltOf (cmpFew L) x y = true ↔ (L.count ((x.1 : Nat) : Int) < L.count ((y.1 : Nat) : Int) ∨ (L.count ((x.1 : Nat) : Int) = L.count ((y.1 : Nat) : Int) ∧ x.1 < y.1)) := by
  unfold ltOf
  rw [decide_eq_true_eq, cmpFew_lt]
theorem swo_few (L : List Int) : SWO (ltOf (cmpFew L)) := by
  refine ⟨fun x => ?_, fun x y z h1 h2 => ?_, fun x y z h1 h2 => ?_⟩
  · rw [← Bool.not_eq_true, ltOf_few_iff]; omega
  · rw [ltOf_few_iff] at *
    omega
  · rw [← Bool.not_eq_true, ltOf_few_iff] at *
    omega
theorem grown_more {w W1 W3 : World} {os : Array Obj} {o : Obj} (h : W1 = grow w os) (k : (W1.alloc o).drew = W3) : ∃ q os', W3 = grow (w.drewN q) os' :=
  ⟨1, os ++ #[o], by rw [← k, h, alloc_eq_grow, grow_grow]; rfl⟩
set_option maxRecDepth 100000 in
set_option maxHeartbeats 4000000 in
theorem VfewCmp (L : List Int) (bm : Nat) (x y : Fin 16) (w : World) (h : ManyAt w bm L) :
    Calls Try.prog 103 #[.int .i64 ((x.1 : Nat) : Int), .int .i64 ((y.1 : Nat) : Int), .pointer (some ⟨bm, 0, none⟩)] w fun e w' => e = .returned (.int .i64 (cmpFew L x y)) ∧ ∃ q os', w' = grow (w.drewN q) os' := by
  obtain ⟨x, hx⟩ := x
  obtain ⟨y, hy⟩ := y
  have f1 := h.cell hx
  have f2 := h.cell hy
  unfold cmpFew
  simp only
  obtain ⟨kx, hkx⟩ : ∃ k, L.count ((x : Nat) : Int) = k := ⟨_, rfl⟩
  obtain ⟨ky, hky⟩ : ∃ k, L.count ((y : Nat) : Int) = k := ⟨_, rfl⟩
  rw [hkx] at f1 ⊢
  rw [hky] at f2 ⊢
  obtain ⟨ck, hck⟩ : ∃ c, Lib.compareInt (kx : Int) (ky : Int) = c := ⟨_, rfl⟩
  obtain ⟨cn, hcn⟩ : ∃ c, Lib.compareInt (x : Int) (y : Int) = c := ⟨_, rfl⟩
  rw [hck, hcn]
  have Hk := Lib.hid (fun W => (by rw [← hck]; exact Compare_any (kx : Int) (ky : Int) W : Calls Try.prog 62 #[.int .i64 (kx : Int), .int .i64 (ky : Int)] W fun e w' => e = .returned (.int .i64 ck) ∧ W = w'))
  have Hn := Lib.hid (fun W => (by rw [← hcn]; exact Compare_any (x : Int) (y : Int) W : Calls Try.prog 62 #[.int .i64 (x : Int), .int .i64 (y : Int)] W fun e w' => e = .returned (.int .i64 cn) ∧ W = w'))
  clear hkx hky hck hcn h
  have x0 : (0 : Int) ≤ (x : Int) := by omega
  have x1 : (x : Int) < 16 := by omega
  have y0 : (0 : Int) ≤ (y : Int) := by omega
  have y1 : (y : Int) < 16 := by omega
  obtain ⟨r, hr⟩ : ∃ r, (if ck = 0 then cn else ck) = r := ⟨_, rfl⟩
  rw [hr]
  have Hres := Lib.hid hr
  clear hr hx hy
  obtain ⟨W3, hW3⟩ : ∃ W3, (w.alloc (.cells #[.int .i64 ck, .int .i64 cn] 3)).drew = W3 := ⟨_, rfl⟩
  have Hb3 : Below w.heap.size w W3 := by rw [← hW3]; exact ((Below.refl _ _).alloc (Nat.le_refl _) _).drew
  have g1 := (Hb3.cell (block_lt_of_cell f1)).trans f1
  have g2 := (Hb3.cell (block_lt_of_cell f2)).trans f2
  have d1 : W3.cell? ⟨w.heap.size, 0, none⟩ = some (.int .i64 ck) := by rw [← hW3]; exact (new_two _ _ _ _).1
  have d2 : W3.cell? ⟨w.heap.size, 1, none⟩ = some (.int .i64 cn) := by rw [← hW3]; exact (new_two _ _ _ _).2
  have HW3 := Lib.hid hW3
  have HO := Lib.hid (by rw [← Hres.out]; exact Or_two ck cn _ W3 d1 d2 : Calls Try.prog 104 #[.slice (some ⟨w.heap.size, 0, none⟩) 2 2] W3 fun e w' => e = .returned (.int .i64 r) ∧ W3 = w')
  have Hg := Lib.hid (And.intro g1 g2)
  clear hW3 Hb3 d1 d2 g1 g2
  go_enter Try.func103, Try.ntmps103
  go_wp2
  go_region_held3 (fun w' => w'.cell? ⟨bm, x, none⟩ = some (.int .i64 (kx : Int)) ∧ w'.cell? ⟨bm, y, none⟩ = some (.int .i64 (ky : Int)))
    (first | exact ⟨f1, f2⟩ | (rw [HW3.out]; exact Hg.out) | exact Hg.out)
    (first
      | (go_at_call 104; rw [HW3.out]; refine HO.out.mono ?_; rintro e w' ⟨rfl, rfl⟩)
      | (go_at_call_of 62 (Value.int .i64 (kx : Int)); refine (Hk.out _).mono ?_; rintro e w' ⟨rfl, rfl⟩)
      | (go_at_call_of 62 (Value.int .i64 (x : Int)); refine (Hn.out _).mono ?_; rintro e w' ⟨rfl, rfl⟩))
  all_goals
    go_wp2
    go_ret
    exact ⟨rfl, grown_more (show w = grow w #[] from (grow_empty w).symm) HW3.out⟩

/-! ### the sort -/
def encF (x : Fin 16) : Value := .int .i64 ((x.1 : Nat) : Int)
theorem encF_one : OneCell encF := fun _ => rfl
theorem finL_val (l : List Nat) (h : ∀ x ∈ l, x < 16) : (l.map (Fin.ofNat 16)).map (fun x => x.1) = l := by
  rw [List.map_map]
  conv => rhs; rw [← List.map_id l]
  apply List.map_congr_left
  intro x hx
  have := h x hx
  simp [Fin.ofNat]
  omega
theorem encF_list (l : List (Fin 16)) : l.map encF = numsV (toI (l.map fun x => x.1)) := by
  unfold numsV toI
  rw [List.map_map, List.map_map]
  rfl
theorem sort_fin (L : List Int) (l : List Nat) (h : ∀ x ∈ l, x < 16) : ((l.map (Fin.ofNat 16)).mergeSort fun x y => !(ltOf (cmpFew L)) y x).map (fun x => x.1) = l.mergeSort (fewerB fun i => L.count (i : Int)) := by
  rw [List.map_mergeSort (s := fewerB fun i => L.count (i : Int)) (f := fun x : Fin 16 => x.1) (fun a _ b _ => ltOf_few L a b), finL_val l h]
theorem sorted_ownF {w : World} {B g n c q : Nat} {T : TypeId} {xs : List Value} {d : Array (Fin 16)} {os : Array Obj} (h : w.ownsRow B T 1 (.slice (some ⟨g, 0, none⟩) n c) n xs) (hd : d.size = n) :
    (sortWorld encF w g 0 q d os).ownsRow B T 1 (.slice (some ⟨g, 0, none⟩) n c) n (d.toList.map encF) ∧ Turned (fun k => k = g) w (sortWorld encF w g 0 q d os) := by
  rcases h.2 with ⟨hv, _⟩ | ⟨g', cap, cur, hv, hg, hh, h1, h2, h3, h4⟩
  · cases hv
  · injection hv with hv _ hc
    injection hv with hv
    injection hv with hv
    subst hv; subst hc
    have hlt := (Array.getElem?_eq_some_iff.1 hh).1
    have hrow : (sortWorld encF w g 0 q d os).heap[g]? = some (.cells (putCells encF 0 d cur) T (0, 0)) := by
      show (w.heap.modify g (onCells (putCells encF 0 d)) ++ os)[g]? = _
      rw [Array.getElem?_append_left (by simpa using hlt), Array.getElem?_modify, if_pos rfl, hh]
      rfl
    refine ⟨⟨by rw [List.length_map, Array.length_toList, hd]; omega, .inr ⟨g, c, _, rfl, hg, hrow, h1, h2, by simp [putCells, h3], ?_⟩⟩, ⟨rfl, rfl, rfl, ?_, fun k hk hn => ?_⟩⟩
    · apply List.ext_getElem?
      intro j
      rw [List.getElem?_take]
      by_cases hj : j < n * 1
      · rw [if_pos hj, List.getElem?_map, Array.getElem?_toList, Array.getElem?_toList]
        have hjc : j < cur.size := by omega
        have hjd : j < d.size := by omega
        simp only [putCells, Array.getElem?_mapIdx, Array.getElem?_eq_getElem hjc, Option.map_some, Array.getElem?_eq_getElem hjd]
        rw [if_pos ⟨Nat.zero_le _, by omega⟩]
        simp [hjd]
      · rw [if_neg hj, eq_comm, List.getElem?_eq_none_iff, List.length_map, Array.length_toList, hd]; omega
    · show w.heap.size ≤ (w.heap.modify g (onCells (putCells encF 0 d)) ++ os).size
      simp
    · show (w.heap.modify g (onCells (putCells encF 0 d)) ++ os)[k]? = _
      rw [Array.getElem?_append_left (by simpa using hk), Array.getElem?_modify, if_neg (fun e => hn e.symm)]
theorem VSortFew (B bm : Nat) (A : Option Addr) (n c : Nat) (L : List Int) (l : List Nat) (w : World) (hl : l.length = n) (h16 : ∀ x ∈ l, x < 16) (hn : n ≤ 1000) (hown : w.ownsRow B 3 1 (.slice A n c) n (numsV (toI l))) (hm : ManyAt w bm L) :
    Calls Try.prog 102 #[.slice A n c, .func (.func 103) #[] #[.pointer (some ⟨bm, 0, none⟩)]] w fun e w' => e = .returned (.tuple #[]) ∧ w'.ownsRow B 3 1 (.slice A n c) n (numsV (toI (l.mergeSort (fewerB fun i => L.count (i : Int))))) ∧ Turned (fun k => (Value.slice A n c).ownBlock = some k) w w' := by
  rcases hown.2 with ⟨hv, hn0⟩ | ⟨g, cap, cur, hv, hg, hh, h1, h2, h3, h4⟩
  · have ht : l = [] := List.length_eq_zero_iff.1 (by omega)
    subst ht
    subst hn0
    refine (AnyF.slices_SortFunc_none { Try.sortFuncA with } A c _ w).mono ?_
    rintro e w' ⟨rfl, rfl⟩
    exact ⟨rfl, by simpa using hown, Turned.refl _ _⟩
  · injection hv with hA _ hc
    subst hA; subst hc
    have eg : ∀ args w, (callFunc 103 args).run Try.prog w = .ok (.enter 103 args) w := enters_of Try.func103 (by kernel_rfl) rfl
    have hdsz : (l.map (Fin.ofNat 16)).toArray.size = n := by simp [hl]
    have hlist : (l.map (Fin.ofNat 16)).map encF = numsV (toI l) := by rw [encF_list, finL_val l h16]
    have hne : g ≠ bm := fun e => by
      obtain ⟨cs, h5, _⟩ := hm
      rw [← e, hh] at h5
      injection h5 with h5
      injection h5 with _ h5
      exact absurd h5 (by decide)
    have hH : Holds encF w g 0 (l.map (Fin.ofNat 16)).toArray := by
      intro j hj
      refine ⟨?_, hown.frozenAt _⟩
      rw [hdsz] at hj
      rw [Nat.zero_add, hown.cellAt _ (by omega), ← hlist]
      rw [List.getElem?_map, getElem!_pos _ j (by rw [hdsz]; exact hj)]
      rw [List.getElem?_eq_getElem (by simpa [hl] using hj)]
      simp
    have hcmp : CmpLays1 Try.prog 103 #[.pointer (some ⟨bm, 0, none⟩)] encF (cmpFew L) g 0 (l.map (Fin.ofNat 16)).toArray.size w := fun m os dk hk x y => by
      refine VfewCmp L bm x y _ (hm.turned (p := fun k => k = g) ?_ (fun e => hne e.symm))
      rw [hdsz] at hk
      exact (sorted_ownF hown hk).2
    have h := Any.slices_SortFunc_total Try.sortFuncA encF encF_one (cmpFew L) (swo_few L) 103 #[.pointer (some ⟨bm, 0, none⟩)] g 0 c (l.map (Fin.ofNat 16)).toArray w eg hcmp hH (Array.getElem?_eq_some_iff.1 hh).1 (by rw [hdsz]; omega)
      (fun x y h1 h2 => by
        rw [← Bool.not_eq_true, ltOf_few_iff] at h1 h2
        exact Fin.ext (by omega))
    rw [hdsz] at h
    refine h.mono ?_
    rintro e w' ⟨rfl, m, os, rfl⟩
    have hs := sorted_ownF (q := m) (d := ((l.map (Fin.ofNat 16)).mergeSort fun x y => !(ltOf (cmpFew L)) y x).toArray) (os := os) hown (by simp [List.length_mergeSort, hl])
    refine ⟨rfl, ?_, hs.2.mono fun k _ e => by subst e; rfl⟩
    have := hs.1
    rw [encF_list, sort_fin L l h16] at this
    exact this
end Go.Proofs.Ytcaaakoahaoooaa
