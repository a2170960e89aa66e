/-
  Contracts of slices.Sort, Clone, BinarySearch, Insert and Delete at []int, in the words of rows of one's own. Conditions: how the slices lie in memory, as each names it.
-/
import Derived.Test.YtpoooehnobfjfaaShelf
import Derived.Test.YtpoooehnobfjfaaNums
import Derived.Test.YtpoooehnobfjfaaKept
import Derived.Lib.OwnBridge
import Derived.Sort.OwnSortedInts
namespace Go.Proofs.Ytpoooehnobfjfaa
open Go.ChangeShapes Go.WideShapes Go.ChangeAt Go.RowKit Go.Sort
set_option linter.unusedVariables false

theorem seen_ints {w : World} {A : Option Addr} {xs : List Int} (h : Seen w A (numsV xs)) (h0 : 0 < xs.length) :
    ∃ b off, A = some ⟨b, off, none⟩ ∧ ∀ j, j < xs.length → w.cell? ⟨b, off + j, none⟩ = some (.int .i64 (xs.getD j 0)) := by
  rcases h with h | ⟨g, o, hA, hc⟩
  · have : xs = [] := by simpa [numsV] using h
    subst this; simp at h0
  · refine ⟨g, o, hA, fun j hj => hc j _ ?_⟩
    simp only [numsV, List.getElem?_map, List.getElem?_eq_getElem hj, Option.map_some, List.getD_eq_getElem?_getD, Option.getD_some]

/-- a copy in a row of its own -/
theorem IClone_any (A : Option Addr) (n c : Nat) (xs : List Int) (w : World) (hn : xs.length = n) (h0 : 0 < n) (hl : n ≤ 1000000) (hs : Seen w A (numsV xs)) :
    Calls Try.prog 24 #[.slice A n c] w fun e w' => ∃ g cap, e = .returned (.slice (some ⟨g, 0, none⟩) n cap) ∧ w.heap.size ≤ g ∧ w'.ownsRow w.heap.size 3 1 (.slice (some ⟨g, 0, none⟩) n cap) n (numsV xs) ∧ Below w.heap.size w w' := by
  obtain ⟨b, off, rfl, hc⟩ := seen_ints hs (by omega)
  refine (Any.slices_Clone_int Try.intsClone b off n c xs w (by omega) (by omega) hc).mono ?_
  rintro e w' ⟨v, rfl, hown, hne, hb⟩
  rw [List.take_of_length_le (by omega)] at hown
  have hown : w'.ownsRow w.heap.size 3 1 v n (numsV xs) := hown
  obtain ⟨g, cap, rfl, hg, _⟩ := hown.form (by omega)
  exact ⟨g, cap, rfl, (hown.lt g rfl).1, hown, hb⟩

theorem ISort_any (B g n c : Nat) (xs : List Int) (w : World) (hl : n ≤ 1000000) (h : w.ownsRow B 3 1 (.slice (some ⟨g, 0, none⟩) n c) n (numsV xs)) :
    Calls Try.prog 28 #[.slice (some ⟨g, 0, none⟩) n c] w fun e w' => e = .returned (.tuple #[]) ∧ w'.ownsRow B 3 1 (.slice (some ⟨g, 0, none⟩) n c) n (numsV (xs.mergeSort fun x y => decide (x ≤ y))) ∧ Turned (fun k => k = g) w w' := by
  have hlen : xs.length = n := by have := h.1; rw [numsV_length] at this; omega
  subst hlen
  rcases h.2 with ⟨e0, _⟩ | ⟨g', cap, cur, e0, hb, hg, hn, hm, hs, ht⟩
  · cases e0
  injection e0 with e1 _ e3
  injection e1 with e1
  injection e1 with e1
  subst e1; subst e3
  rw [Nat.mul_one] at ht
  have hH := holds_of_blockI (ss := xs) hg ht
  refine (Any.slices_Sort_int Try.intsSort g 0 c xs w hH (Array.getElem?_eq_some_iff.1 hg).1 (by omega)).mono ?_
  rintro e w' ⟨rfl, n, os, rfl⟩
  refine ⟨rfl, ownsRow_sortedI (ss := xs) (List.length_mergeSort _) hb hg hn hm hs, Turned.of_grown (grownBy_sortedI _) fun k e => ?_⟩
  injection e with e
  exact e.symm

theorem ISearch_any (A : Option Addr) (n c : Nat) (xs : List Int) (x : Int) (w : World) (hn : xs.length = n) (h0 : 0 < n) (hl : n ≤ 1000000) (hs : Seen w A (numsV xs)) (hr : xs.Pairwise (· < ·)) :
    Calls Try.prog 23 #[.slice A n c, .int .i64 x] w fun e w' => e = .returned (.tuple #[Value.int .i64 ((xs.countP fun a => decide (a < x)) : Nat), .bool (decide (x ∈ xs))]) ∧ Below w.heap.size w w' := by
  obtain ⟨b, off, rfl, hc⟩ := seen_ints hs (by omega)
  refine (Any.slices_BinarySearch_int Try.intsBinarySearch b off n c xs x w (by omega) (by omega) hc ((hr.imp fun h => by omega).sublist (List.take_sublist _ _))).mono ?_
  rintro e w' ⟨rfl, q, rfl⟩
  rw [List.take_of_length_le (by omega)]
  refine ⟨?_, below_drewN (Below.refl _ _) q⟩
  have : xs.contains x = decide (x ∈ xs) := by rw [List.contains_eq_mem]
  rw [this]

theorem IDelete_any (B g n c i : Nat) (xs : List Int) (w : World) (hi : i < n) (hB : B ≤ g) (h : w.ownsRow B 3 1 (.slice (some ⟨g, 0, none⟩) n c) n (numsV xs)) :
    Calls Try.prog 26 #[.slice (some ⟨g, 0, none⟩) n c, .int .i64 (i : Int), .int .i64 ((i : Int) + 1)] w fun e w' => e = .returned (.slice (some ⟨g, 0, none⟩) (n - 1) c) ∧ w'.ownsRow B 3 1 (.slice (some ⟨g, 0, none⟩) (n - 1) c) (n - 1) (numsV (xs.take i ++ xs.drop (i + 1))) ∧ Below B w w' := by
  have hlen : xs.length = n := by have := h.1; rw [numsV_length] at this; omega
  obtain ⟨g', cap, e0, hb, hlt, hn, hm, _, hH⟩ := Lib.holds_of_ownsRow (enc := Value.int .i64) (zs := xs) h (by simp)
  injection e0 with e1 _ e3
  injection e1 with e1
  injection e1 with e1
  subst e1; subst e3
  have hC := Any.slices_Delete_int Try.intsDelete g 0 c i (i + 1) xs w hH (by omega) (by unfold maxLen at hm; omega) (by omega) (by omega)
  rw [hlen, show i + 1 - i = 1 by omega] at hC
  refine hC.mono ?_
  rintro e w' ⟨rfl, q, rfl⟩
  refine ⟨rfl, ?_, Lib.below_putRow (Below.refl _ _) hB⟩
  have hy : (xs.take i ++ xs.drop (i + 1) ++ List.replicate 1 0).length = n := by
    simp only [List.length_append, List.length_take, List.length_drop, List.length_replicate]; omega
  have := Lib.ownsRow_putRow (enc := Value.int .i64) (zs := xs) (ys := xs.take i ++ xs.drop (i + 1) ++ List.replicate 1 0) (q := q) (k := n - 1) h hy (by omega)
  have hl2 : (xs.take i ++ xs.drop (i + 1)).length = n - 1 := by simp only [List.length_append, List.length_take, List.length_drop]; omega
  have et : (xs.take i ++ xs.drop (i + 1) ++ List.replicate 1 0).take (n - 1) = xs.take i ++ xs.drop (i + 1) := by rw [← hl2, List.take_left]
  rw [et] at this
  exact this

/-! ### cells stored side by side -/
theorem turned_cellsI {p : Nat → Prop} {a : World} {b : Nat} (hb : b < a.heap.size → p b) : ∀ (vs : List Value) (o : Nat) (w : World), Turned p a w → Turned p a (w.setCells b o vs)
  | [], o, w, h => h
  | v :: r, o, w, h => turned_cellsI hb r (o + 1) (w.setCell ⟨b, o, none⟩ v) (h.setCell (b := ⟨b, o, none⟩) hb v)
theorem set_row {b : Nat} {e : TypeId} {Z : List Value} : ∀ (vs X Y : List Value) (w : World) (o : Nat), w.heap[b]? = some (.cells (X ++ Y ++ Z).toArray e (0, 0)) → vs.length = Y.length → X.length = o → (w.setCells b o vs).heap[b]? = some (.cells (X ++ vs ++ Z).toArray e (0, 0))
  | [], X, [], w, o, h, _, _ => h
  | [], X, y :: Y, w, o, h, hl, _ => by simp at hl
  | v :: r, X, [], w, o, h, hl, _ => by simp at hl
  | v :: r, X, y :: Y, w, o, h, hl, ho => by
    have h1 := row_set h o v
    have e1 : (X ++ y :: Y ++ Z).toArray.setIfInBounds o v = ((X ++ [v]) ++ Y ++ Z).toArray := by
      subst ho
      apply Array.ext'
      simp
    rw [e1] at h1
    have := set_row r (X ++ [v]) Y (w.setCell ⟨b, o, none⟩ v) (o + 1) h1 (by simpa using hl) (by simp [ho])
    have e2 : X ++ v :: r ++ Z = X ++ [v] ++ r ++ Z := by simp
    rw [e2]
    exact this

/-- one more, at its place -/
theorem IInsert_any (B g n c i vb : Nat) (xs : List Int) (x : Int) (tv : TypeId) (w : World) (hi : i ≤ n) (h0 : 0 < n) (hl : n ≤ 1000000) (hB : B ≤ g) (hBw : B ≤ w.heap.size) (h : w.ownsRow B 3 1 (.slice (some ⟨g, 0, none⟩) n c) n (numsV xs))
    (hv : w.heap[vb]? = some (.cells #[Value.int .i64 x] tv (0, 0))) (hne : vb ≠ g) :
    Calls Try.prog 25 #[.slice (some ⟨g, 0, none⟩) n c, .int .i64 (i : Int), .slice (some ⟨vb, 0, none⟩) 1 1] w fun e w' => ∃ A' c', e = .returned (.slice A' (n + 1) c') ∧ w'.ownsRow B 3 1 (.slice A' (n + 1) c') (n + 1) (numsV (xs.take i ++ [x] ++ xs.drop i)) ∧ Below B w w' := by
  have hlen : xs.length = n := by have := h.1; rw [numsV_length] at this; omega
  rcases h.2 with ⟨e0, _⟩ | ⟨g', cap, cur, e0, hb, hg, hn, hm, hs, ht⟩
  · cases e0
  injection e0 with e1 _ e3
  injection e1 with e1
  injection e1 with e1
  subst e1; subst e3
  rw [Nat.mul_one] at ht hs
  have hm' : c ≤ 9223372036854775807 := by unfold maxLen at hm; omega
  have hcs : ∀ (j : Nat) v, (numsV xs)[j]? = some v → w.cell? ⟨g, 0 + j, none⟩ = some v := fun j v hj => by
    rw [row_cell hg, Nat.zero_add]
    rw [← ht, List.getElem?_take] at hj
    split at hj
    · rw [← Array.getElem?_toList]; exact hj
    · cases hj
  have hvs : ∀ (j : Nat) v, ([Value.int .i64 x] : List Value)[j]? = some v → w.cell? ⟨vb, 0 + j, none⟩ = some v := fun j v hj => by
    rw [row_cell hv, Nat.zero_add]; simpa using hj
  have h1v : ∀ v ∈ ([Value.int .i64 x] : List Value), v.oneCell' = true := by intro v hv; simp at hv; subst hv; rfl
  have hcl : (numsV xs).length = n := by rw [numsV_length, hlen]
  have hlt := (Array.getElem?_eq_some_iff.1 hg).1
  have eall : numsV (xs.take i ++ [x] ++ xs.drop i) = numsV (xs.take i) ++ [Value.int .i64 x] ++ numsV (xs.drop i) := by rw [numsV_append, numsV_append]; rfl
  have etk : (numsV xs).take i = numsV (xs.take i) := by unfold numsV; rw [List.map_take]
  have edr : (numsV xs).drop i = numsV (xs.drop i) := by unfold numsV; rw [List.map_drop]
  have elen : (numsV (xs.take i) ++ [Value.int .i64 x] ++ numsV (xs.drop i)).length = n + 1 := by
    simp only [List.length_append, numsV_length, List.length_take, List.length_drop, List.length_singleton]; omega
  have ecur : cur = (numsV xs ++ cur.toList.drop n).toArray := by
    rw [← ht]; simp
  rw [eall]
  by_cases hroom : n + 1 ≤ c
  · -- there is room
    obtain ⟨y, rest, hrest⟩ : ∃ y rest, cur.toList.drop n = y :: rest := by
      cases hd : cur.toList.drop n with
      | nil => have := congrArg List.length hd; simp at this; omega
      | cons y r => exact ⟨y, r, rfl⟩
    have hg1 : w.heap[g]? = some (.cells (numsV xs ++ y :: rest).toArray 3 (0, 0)) := by rw [hg, ecur, hrest]
    have hsz : (numsV xs ++ y :: rest).length = c := by rw [← hrest, ← hs]; have := congrArg Array.size ecur; simpa using this.symm
    have finish : ∀ w' : World, w'.heap[g]? = some (.cells (numsV (xs.take i) ++ [Value.int .i64 x] ++ numsV (xs.drop i) ++ rest).toArray 3 (0, 0)) →
        w'.ownsRow B 3 1 (.slice (some ⟨g, 0, none⟩) (n + 1) c) (n + 1) (numsV (xs.take i) ++ [Value.int .i64 x] ++ numsV (xs.drop i)) := fun w' hw' => by
      refine ⟨by rw [elen]; omega, .inr ⟨g, c, _, rfl, hb, hw', hroom, hm, ?_, ?_⟩⟩
      · rw [List.size_toArray, List.length_append, elen]
        rw [List.length_append, hcl, List.length_cons] at hsz
        omega
      · rw [Nat.mul_one, ← elen]
        simp only
        exact List.take_left
    by_cases hin : i < n
    · obtain ⟨d0, D, hD⟩ : ∃ d0 D, xs.drop i = d0 :: D := by
        cases hd : xs.drop i with
        | nil => have := congrArg List.length hd; simp at this; omega
        | cons y r => exact ⟨y, r, rfl⟩
      refine (Any2.slices_Insert_int_shift Try.intsInsert g 0 n c i vb 0 1 1 (numsV xs) [Value.int .i64 x] w hin (by omega) hroom hm' hne hcl rfl hcs ?_ ?_ hvs (numsV_one xs) h1v tv 3 1 cur.size ?_ ?_ (by omega) (row_frozen hv 0) (row_frozen hv 1)).mono ?_
      · intro j hj
        rw [row_cell hg, Array.getElem?_eq_getElem (by omega)]; rfl
      · intro j _; exact row_frozen hg _
      · simp [World.shape?, hv]
      · simp [World.shape?, hg]
      · rintro e w' ⟨rfl, rfl⟩
        have hdr : w.drew.heap[g]? = some (.cells ((numsV (xs.take i) ++ [Value.int .i64 d0]) ++ (numsV D ++ [y]) ++ rest).toArray 3 (0, 0)) := by
          show w.heap[g]? = _
          rw [hg1, ← List.take_append_drop i xs, hD]
          simp [numsV, List.append_assoc, Nat.min_eq_left (show i ≤ xs.length by omega)]
        have k1 := set_row ((numsV xs).drop i) _ _ _ (0 + (i + 1)) hdr (by rw [edr, hD]; simp [numsV]) (by simp [numsV]; omega)
        rw [edr] at k1
        have k2 : (w.drew.setCells g (0 + (i + 1)) (numsV (xs.drop i))).heap[g]? = some (.cells (numsV (xs.take i) ++ [Value.int .i64 d0] ++ (numsV (xs.drop i) ++ rest)).toArray 3 (0, 0)) := by rw [k1]; simp
        have k3 := set_row [Value.int .i64 x] _ [Value.int .i64 d0] _ (0 + i) k2 rfl (by simp [numsV]; omega)
        rw [edr]
        refine ⟨_, _, rfl, finish _ (by rw [k3]; simp), ?_⟩
        exact (turned_cellsI (p := fun k => k = g) (fun _ => rfl) _ _ _ (turned_cellsI (p := fun k => k = g) (fun _ => rfl) _ _ w.drew (Turned.of_below (below_drewN (Below.refl _ w) 1)))).below (fun k e => by omega) hBw
    · obtain rfl : i = n := by omega
      refine (Any2.slices_Insert_int_end_room Try.intsInsert g 0 i c vb 0 1 1 [Value.int .i64 x] w (by omega) hroom hm' rfl ?_ ?_ hvs h1v).mono ?_
      · intro j hj
        rw [row_cell hg, Array.getElem?_eq_getElem (by omega)]; rfl
      · intro j _; exact row_frozen hg _
      · rintro e w' ⟨rfl, rfl⟩
        have hdr : w.heap[g]? = some (.cells (numsV xs ++ [y] ++ rest).toArray 3 (0, 0)) := by rw [hg1]; simp
        have k1 := set_row [Value.int .i64 x] _ _ _ (0 + i) hdr rfl (by rw [hcl]; omega)
        refine ⟨_, _, rfl, finish _ ?_, ?_⟩
        · rw [k1, List.take_of_length_le (by omega), List.drop_eq_nil_of_le (by omega)]; simp [numsV]
        · exact (turned_cellsI (p := fun k => k = g) (fun _ => rfl) _ _ _ (Turned.refl _ _)).below (fun k e => by omega) hBw
  · -- a new row
    have hge := grownCap_ge w (n + 1) c 3
    have hcm := grownCap_le_maxLen w (n + 1) c 3 (by unfold maxLen; omega)
    by_cases hin : i < n
    · refine (Any2.slices_Insert_int_grow Try.intsInsert g 0 n c i vb 0 1 1 (numsV xs) [Value.int .i64 x] w hin (by omega) hn (by omega) (by omega) hcl rfl hcs hvs (numsV_one xs) h1v).mono ?_
      rintro e w' ⟨rfl, rfl⟩
      have hz1 : (Builtin.zeroCells (Value.int .i64 0).cells (n + 1 - i)).toList.length = n + 1 - i := by simp [size_zeroCells, Value.cells]
      obtain ⟨z0, zr, hzr⟩ : ∃ z0 zr, (Builtin.zeroCells (Value.int .i64 0).cells (n + 1 - i)).toList = z0 :: zr := by
        cases hd : (Builtin.zeroCells (Value.int .i64 0).cells (n + 1 - i)).toList with
        | nil => rw [hd] at hz1; simp at hz1; omega
        | cons y r => exact ⟨y, r, rfl⟩
      rw [hzr, List.length_cons] at hz1
      generalize hz2 : (Builtin.zeroCells (Value.int .i64 0).cells (grownCap w (n + 1) c 3 - (n + 1))) = zs2
      have hz2l : zs2.toList.length = grownCap w (n + 1) c 3 - (n + 1) := by rw [← hz2]; simp [size_zeroCells, Value.cells]
      have ha : ((numsV xs).take i).toArray ++ Builtin.zeroCells (Value.int .i64 0).cells (n + 1 - i) ++ zs2 = (numsV (xs.take i) ++ [z0] ++ (zr ++ zs2.toList)).toArray := by
        apply Array.ext'
        simp [hzr, etk]
      have e1 : ∀ zz, Builtin.zeroCells (Value.int .i64 0).cells (grownCap w (n + 1) c (Try.intsInsert_ren.t 3) - (n + 1)) = zz → zz = zs2 := fun zz h => h.symm.trans hz2
      have hw1 : (w.alloc (.cells (((numsV xs).take i).toArray ++ Builtin.zeroCells (Value.int .i64 0).cells (n + 1 - i) ++ Builtin.zeroCells (Value.int .i64 0).cells (grownCap w (n + 1) c (Try.intsInsert_ren.t 3) - (n + 1))) (Try.intsInsert_ren.t 3))).drew.heap[w.heap.size]? = some (.cells (numsV (xs.take i) ++ [z0] ++ (zr ++ zs2.toList)).toArray 3 (0, 0)) := by
        rw [e1 _ rfl, ha]
        exact heap_alloc_new w _
      have k1 := set_row [Value.int .i64 x] _ _ _ i hw1 rfl (by simp [numsV]; omega)
      generalize hW1 : ((w.alloc (.cells (((numsV xs).take i).toArray ++ Builtin.zeroCells (Value.int .i64 0).cells (n + 1 - i) ++ Builtin.zeroCells (Value.int .i64 0).cells (grownCap w (n + 1) c (Try.intsInsert_ren.t 3) - (n + 1))) (Try.intsInsert_ren.t 3))).drew.setCells w.heap.size i [Value.int .i64 x]) = W1 at k1 ⊢
      have k2 : W1.drew.heap[w.heap.size]? = some (.cells ((numsV (xs.take i) ++ [Value.int .i64 x]) ++ zr ++ zs2.toList).toArray 3 (0, 0)) := by
        show W1.heap[w.heap.size]? = _
        rw [k1]; simp
      have k3 := set_row ((numsV xs).drop i) _ _ _ (i + 1) k2 (by rw [edr, numsV_length, List.length_drop]; omega) (by simp [numsV]; omega)
      have tW : Turned (fun k => B ≤ k) w W1 := by
        rw [← hW1]
        exact turned_cellsI (fun h => absurd h (by omega)) _ _ _ (Turned.of_below (below_drewN ((Below.refl _ w).alloc (Nat.le_refl _) _) 1))
      refine ⟨_, _, rfl, ⟨by rw [elen]; omega, .inr ⟨w.heap.size, _, _, rfl, hBw, k3, hge, hcm, ?_, ?_⟩⟩, ?_⟩
      · rw [List.size_toArray, List.length_append, edr, elen, hz2l]
        show _ = grownCap w (n + 1) c 3 * 1
        omega
      · rw [Nat.mul_one, edr, ← elen]
        simp only
        exact List.take_left
      · refine (turned_cellsI (p := fun k => B ≤ k) (fun h => absurd h (by omega)) _ _ _ ?_).below (fun k e => e) hBw
        exact tW.trans (Turned.of_below (p := fun _ => False) (below_drewN (Below.refl _ W1) 1)) (fun _ e => e) (fun _ _ e => e.elim)
    · obtain rfl : i = n := by omega
      refine (Any2.slices_Insert_int_end_grow Try.intsInsert (some ⟨g, 0, none⟩) i c vb 0 1 1 (numsV xs) [Value.int .i64 x] w (by omega) hn (by omega) (by omega) hcl rfl (by simp) (fun a ea j v hj => by injection ea with ea; subst ea; rw [Addr.add_lit]; exact hcs j v hj) hvs h1v).mono ?_
      rintro e w' ⟨rfl, rfl⟩
      have hb2 : Below w.heap.size w (w.drew.alloc (.cells ((numsV xs ++ [Value.int .i64 x]).toArray ++ Builtin.zeroCells (Value.int .i64 0).cells (grownCap w (i + 1) c (Try.intsInsert_ren.t 3) - (i + 1))) (Try.intsInsert_ren.t 3))) := (below_drewN (Below.refl _ w) 1).alloc (Nat.le_refl _) _
      refine ⟨_, _, rfl, ⟨by rw [elen]; omega, .inr ⟨w.heap.size, _, _, rfl, hBw, heap_alloc_new w.drew _, hge, hcm, ?_, ?_⟩⟩, hb2.mono hBw⟩
      · simp only [Array.size_append, List.size_toArray, size_zeroCells, List.length_append, hcl, List.length_singleton, Value.cells]
        show i + 1 + (grownCap w (i + 1) c 3 - (i + 1)) * 1 = grownCap w (i + 1) c 3 * 1
        omega
      · rw [Nat.mul_one, show xs.take i = xs from List.take_of_length_le (by omega), show xs.drop i = [] from List.drop_eq_nil_of_le (by omega)]
        simp only [Array.toList_append]
        rw [show i + 1 = (numsV xs ++ [Value.int .i64 x]).length by rw [List.length_append, hcl]; rfl]
        rw [List.take_left]
        simp [numsV]
end Go.Proofs.Ytpoooehnobfjfaa
