/-
  Contract of slices.MinFunc with place.compare, and of place.Least. Conditions: what the slice reads as.
-/
import Derived.Test.YtfigohlgckandaaPlcCmp
import Derived.Shelf.SlSortCmp.QuietGrown
import Derived.Deep.LoopGhost
namespace Go.Proofs.Ytfigohlgckandaa
open Go.ChangeShapes Go.WideShapes Go.ChangeAt Go.RowKit Go.Sort
set_option linter.unusedVariables false

theorem below_ofgrow (w : World) (n : Nat) (os : Array Obj) : Below w.heap.size w (grow (w.drewN n) os) :=
  ⟨rfl, rfl, rfl, by rw [size_grow]; exact Nat.le_add_right _ _, fun k hk => by
    show ((w.drewN n).heap ++ os)[k]? = _
    rw [Array.getElem?_append_left (by exact hk)]; rfl⟩
theorem mixed_is : Try.prog.follows .mixedOrders = true := by kernel_rfl
theorem load_size : (Try.prog.info? 31).map (·.size) = some 2 := by kernel_rfl
/-- a load in a box of its own -/
def BoxAt (w : World) (g : Nat) (x : Ent) : Prop := w.heap[g]? = some (.cells #[.int .i64 x.1, .int .i64 x.2] 31 (0, 0))
theorem BoxAt.below {w w' : World} {g : Nat} {x : Ent} (h : BoxAt w g x) (hb : Below w.heap.size w w') : BoxAt w' g x := (hb.block g (Array.getElem?_eq_some_iff.1 h).1).trans h
theorem BoxAt.cells {w : World} {g : Nat} {x : Ent} (h : BoxAt w g x) : g < w.heap.size ∧ w.cell? ⟨g, 0, none⟩ = some (.int .i64 x.1) ∧ w.cell? ⟨g, 1, none⟩ = some (.int .i64 x.2) := ⟨(Array.getElem?_eq_some_iff.1 h).1, row_cell h 0, row_cell h 1⟩
theorem BoxAt.put {w : World} {g : Nat} {x : Ent} (h : BoxAt w g x) (y : Ent) : BoxAt (w.setRow g #[.int .i64 y.1, .int .i64 y.2]) g y := setRow_heap w g _ _ _ (0, 0) h
theorem BoxAt.put_else {w : World} {g k : Nat} {x : Ent} (h : BoxAt w g x) (hk : ¬ k = g) (cs : Array Value) : BoxAt (w.setRow k cs) g x := by
  unfold BoxAt
  rw [setRow_other w k g _ (fun e => hk e.symm)]; exact h
theorem below_row {B : Nat} {a w : World} (h : Below B a w) {g : Nat} (hg : B ≤ g) (cs : Array Value) (hB : B ≤ w.heap.size) : Below B a (w.setRow g cs) := h.trans ⟨rfl, rfl, rfl, by simp, fun k hk => setRow_other w g k _ (by omega)⟩
/-- the least of a list -/
def MinRet (l : List Ent) (w : World) (e : Ending) (w' : World) : Prop :=
  ∃ x, x ∈ l ∧ (∀ y ∈ l, ¬ ahead y x) ∧ e = .returned (.agg #[.int .i64 x.1, .int .i64 x.2]) ∧ Below w.heap.size w w'
set_option maxRecDepth 100000 in
set_option maxHeartbeats 2000000 in
theorem PMin (A : Option Addr) (n c : Nat) (l : List Ent) (w : World) (hl : l.length = n) (h0 : 0 < n) (hn : n ≤ 100000) (hs : Seen w A (entsV l)) :
    Calls Try.prog 11 #[.slice A n c, .func (.func 12) #[] #[]] w (MinRet l w) := by
  obtain ⟨z, hz⟩ : ∃ z, l[0]? = some z := ⟨_, List.getElem?_eq_getElem (by omega)⟩
  obtain ⟨W1, hW1⟩ : ∃ W1, (w.alloc (.cells #[.int .i64 0, .int .i64 0] 31)).alloc (.cells #[.int .i64 z.1, .int .i64 z.2] 31) = W1 := ⟨_, rfl⟩
  have hb1 : Below w.heap.size w W1 := by rw [← hW1]; exact ((Below.refl _ _).alloc (Nat.le_refl _) _).alloc (by simp) _
  have hR1 : BoxAt W1 w.heap.size (0, 0) := by
    rw [← hW1]
    have h1 : BoxAt (w.alloc (.cells #[.int .i64 0, .int .i64 0] 31)) w.heap.size (0, 0) := heap_alloc_new _ _
    exact h1.below ((Below.refl _ _).alloc (Nat.le_refl _) _)
  have hM1 : BoxAt W1 (w.heap.size + 1) z := by
    rw [← hW1]
    have := heap_alloc_new (w.alloc (.cells #[.int .i64 0, .int .i64 0] 31)) (.cells #[.int .i64 z.1, .int .i64 z.2] 31)
    simpa [BoxAt] using this
  have HS := Lib.hid hs; have Hl := Lib.hid hl; have Hz := Lib.hid hz
  obtain ⟨g, o, rfl, c0, c1⟩ := (hs.below ((Below.refl _ _).alloc (Nat.le_refl _) (.cells #[.int .i64 0, .int .i64 0] 31))).ent hz
  simp only [Nat.zero_mul, Nat.add_zero] at c0 c1
  have n1 : ¬ (n : Int) < 1 := by omega
  have n2 : (0 : Int) < (n : Int) := by omega
  have Hb1 := Lib.hid hb1; have HR1 := Lib.hid hR1; have HM1 := Lib.hid hM1
  clear hs hl hz hb1 hR1 hM1
  go_enter Try.func11, Try.ntmps11
  go_wp2
  go_loopw [6] (fun iv wr => ∃ (i : Nat) (x : Ent), 1 ≤ i ∧ i ≤ n ∧ iv = .int .i64 (i : Int) ∧ BoxAt wr w.heap.size (0, 0) ∧ BoxAt wr (w.heap.size + 1) x ∧ x ∈ l ∧ (∀ y ∈ l.take i, ¬ ahead y x) ∧ Below w.heap.size w wr) (fun iv _ => n - (intOf iv).toNat)
  case atStart =>
    refine ⟨1, z, Nat.le_refl _, h0, rfl, HR1.out, HM1.out, List.mem_of_getElem? Hz.out, fun y hy => ?_, Hb1.out⟩
    have h := Hz.out
    cases l with
    | nil => simp at h
    | cons q r =>
      simp at h hy
      subst h; subst hy
      exact ahead_irr _
  case round =>
    obtain ⟨i, x, hi1, hin, rfl, hR, hM, hxl, hxm, hb⟩ := hrel
    by_cases hi : i < n
    · obtain ⟨y, hy⟩ : ∃ y, l[i]? = some y := ⟨_, List.getElem?_eq_getElem (by have := Hl.out; omega)⟩
      obtain ⟨g', o', hA, d0, d1⟩ := (HS.out.below hb).ent hy
      injection hA with hA
      injection hA with hA1 hA2 _
      subst hA1; subst hA2
      obtain ⟨hml, m0, m1⟩ := hM.cells
      have k1 : ∀ n os, (grow (wr.drewN n) os).cell? ⟨g, o + i * 2, none⟩ = some (.int .i64 y.1) := cell_grown (block_lt_of_cell d0) d0
      have k2 : ∀ n os, (grow (wr.drewN n) os).cell? ⟨g, o + i * 2 + 1, none⟩ = some (.int .i64 y.2) := cell_grown (block_lt_of_cell d1) d1
      have k3 : ∀ n os, (grow (wr.drewN n) os).cell? ⟨w.heap.size + 1, 0, none⟩ = some (.int .i64 x.1) := cell_grown hml m0
      have k4 : ∀ n os, (grow (wr.drewN n) os).cell? ⟨w.heap.size + 1, 1, none⟩ = some (.int .i64 x.2) := cell_grown hml m1
      have i0 : (0 : Int) ≤ (i : Int) := by omega
      have i1 : (i : Int) < (n : Int) := by omega
      have mixed : Try.prog.follows .mixedOrders = true := mixed_is
      have htk := take_snocE hy
      obtain ⟨r, hr⟩ : ∃ r, cmpE y x = r := ⟨_, rfl⟩
      have hcmp : ∀ W, Calls Try.prog 12 #[.agg #[.int .i64 y.1, .int .i64 y.2], .agg #[.int .i64 x.1, .int .i64 x.2]] W fun en w' => en = .returned (.int .i64 r) ∧ ∃ q os', w' = grow (W.drewN q) os' := fun W => by rw [← hr]; exact compare_any y x W
      have hneg := cmpE_lt y x
      rw [hr] at hneg
      have Hcmp := Lib.hid hcmp; have Hneg := Lib.hid hneg; have Htk := Lib.hid htk; have Hy := Lib.hid (List.mem_of_getElem? hy); have HR := Lib.hid hR; have HM := Lib.hid hM; have Hxl := Lib.hid hxl; have Hxm := Lib.hid hxm; have Hb := Lib.hid hb
      clear hr hcmp hneg htk hy hR hM hxl hxm hb d0 d1 m0 m1 c0 c1
      by_cases hlt : r < 0
      · have hd : decide (r < 0) = true := decide_eq_true hlt
        have Hlt := Lib.hid hlt
        clear hlt
        go_wp2
        go_quiet_grown (first | (go_at_call 12; refine Calls.grown_of (Hcmp.out _)))
        obtain ⟨W2, hW2⟩ : ∃ W2, grow (wr.drewN nq) osq = W2 := ⟨_, rfl⟩
        dsimp only
        rw [hW2]
        have hb2 : Below wr.heap.size wr W2 := by rw [← hW2]; exact below_ofgrow _ _ _
        have y1 : W2.cell? ⟨g, o + i * 2, none⟩ = some (.int .i64 y.1) := by rw [← hW2]; exact k1 _ _
        have y2 : W2.cell? ⟨g, o + i * 2 + 1, none⟩ = some (.int .i64 y.2) := by rw [← hW2]; exact k2 _ _
        have HM2 := Lib.hid (HM.out.below hb2); have HR2 := Lib.hid (HR.out.below hb2); have Hb2 := Lib.hid (Hb.out.trans (hb2.mono Hb.out.size))
        clear hW2 hb2 k1 k2 k3 k4
        go_wp2_with (refine wpList_store_row rfl 31 (.tmp 5) (.tmp 31) rfl (w.heap.size + 1) #[.int .i64 y.1, .int .i64 y.2] rfl rfl 31 _ HM2.out load_size rfl (by simp [Value.oneCell']) ?_)
        go_roundw
        case rel =>
          refine ⟨i + 1, y, by omega, by omega, by go_num, HR2.out.put_else (by omega) _, HM2.out.put y, Hy.out, fun u hu => ?_, below_row Hb2.out (by omega) _ Hb2.out.size⟩
          rw [Htk.out] at hu
          rcases List.mem_append.1 hu with hu | hu
          · intro h
            exact Hxm.out u hu (ahead_trans h (Hneg.out.1 Hlt.out))
          · simp at hu
            subst hu
            exact ahead_irr _
        case measure => simp [intOf]; omega
      · have hd : decide (r < 0) = false := decide_eq_false hlt
        have Hlt := Lib.hid hlt
        clear hlt
        go_wp2
        go_quiet_grown (first | (go_at_call 12; refine Calls.grown_of (Hcmp.out _)))
        obtain ⟨W2, hW2⟩ : ∃ W2, grow (wr.drewN nq) osq = W2 := ⟨_, rfl⟩
        dsimp only
        rw [hW2]
        have hb2 : Below wr.heap.size wr W2 := by rw [← hW2]; exact below_ofgrow _ _ _
        have HM2 := Lib.hid (HM.out.below hb2); have HR2 := Lib.hid (HR.out.below hb2); have Hb2 := Lib.hid (Hb.out.trans (hb2.mono Hb.out.size))
        clear hW2 hb2 k1 k2 k3 k4
        go_wp2
        go_roundw
        case rel =>
          refine ⟨i + 1, x, by omega, by omega, by go_num, HR2.out, HM2.out, Hxl.out, fun u hu => ?_, Hb2.out⟩
          rw [Htk.out] at hu
          rcases List.mem_append.1 hu with hu | hu
          · exact Hxm.out u hu
          · simp at hu
            subst hu
            exact fun h => by have h1 := Hneg.out.2 h; have h2 := Hlt.out; omega
        case measure => simp [intOf]; omega
    · obtain rfl : i = n := by omega
      have i1 : ¬ (i : Int) < (i : Int) := by omega
      have hty : l.take i = l := List.take_of_length_le (by rw [Hl.out]; exact Nat.le_refl _)
      rw [hty] at hxm
      obtain ⟨hml, m0, m1⟩ := hM.cells
      have HR := Lib.hid hR; have HM := Lib.hid hM; have Hxl := Lib.hid hxl; have Hxm := Lib.hid hxm; have Hb := Lib.hid hb
      clear hR hM hxl hxm hb hty c0 c1
      go_wp2_with (refine wpList_store_row rfl 31 (.tmp 4) (.tmp 32) rfl w.heap.size #[.int .i64 x.1, .int .i64 x.2] rfl rfl 31 _ HR.out load_size rfl (by simp [Value.oneCell']) ?_)
      refine bodyPost_ret (results_cell_row rfl _ _ w.heap.size 31 _ (0, 0) _ rfl (HR.out.put x) Try.underlying31 rfl load_size) rfl ?_
      exact ⟨x, Hxl.out, Hxm.out, rfl, below_row Hb.out (Nat.le_refl _) _ Hb.out.size⟩
theorem load_id (a b : Int) (W : World) : (Instr.field 31 (.agg #[.int .i64 a, .int .i64 b]) 0).run Try.prog W = .ok (.int .i64 a) W := by
  simp [Instr.field, run_underlying Try.underlying31, asAgg, part, Try.sizeOf3, Try.isAgg3, go_sem]
/-- what Least hands back -/
def LeastRet (l : List Ent) (w : World) (e : Ending) (w' : World) : Prop :=
  ((l = [] ∧ e = .returned (.tuple #[.int .i64 0, .bool false])) ∨ ∃ x, x ∈ l ∧ (∀ y ∈ l, ¬ ahead y x) ∧ e = .returned (.tuple #[.int .i64 x.1, .bool true])) ∧ Below w.heap.size w w'
set_option maxRecDepth 100000 in
set_option maxHeartbeats 1000000 in
theorem PLeast (A : Option Addr) (n c : Nat) (l : List Ent) (w : World) (hl : l.length = n) (hn : n ≤ 100000) (hs : Seen w A (entsV l)) :
    Calls Try.prog 7 #[.slice A n c] w (LeastRet l w) := by
  by_cases h0 : n = 0
  · subst h0
    go_enter Try.func7, Try.ntmps7
    go_wp2
    go_ret2
    exact ⟨.inl ⟨List.length_eq_zero_iff.1 hl, rfl⟩, Below.refl _ _⟩
  · have K := Lib.hid (PMin A n c l w hl (by omega) hn hs)
    have hq : ((n : Int) == 0) = false := by simp; omega
    have hq2 : ¬ (n : Int) = 0 := by omega
    clear hl hs
    have hid := load_id
    go_enter Try.func7, Try.ntmps7
    go_wp2_with (go_at_call 11; refine K.out.mono ?_; rintro e w' ⟨x, hx, hm, rfl, hb⟩; have Hx := Lib.hid hx; have Hm := Lib.hid hm; have Hb := Lib.hid hb; clear hx hm hb)
    go_ret2
    exact ⟨.inr ⟨x, Hx.out, Hm.out, rfl⟩, Hb.out⟩
end Go.Proofs.Ytfigohlgckandaa
