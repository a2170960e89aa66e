/-
  Contracts of dotterelref09's ahead, Out, Put, At, Names. Conditions: the entries are in memory.
-/
import Derived.Test.YtleibgihaplhnaaHeapTwo
namespace Go.Proofs.Ytleibgihaplhnaa
open Go.ChangeShapes Go.WideShapes Go.ChangeAt Go.RowKit Go.Maps Go.Sort
set_option linter.unusedVariables false

theorem Seen.ent {w : World} {A : Option Addr} {l : List Ent} (h : Seen w A (entsV l)) {i : Nat} {r : Ent} (hi : l[i]? = some r) :
    ∃ g o, A = some ⟨g, o, none⟩ ∧ w.cell? ⟨g, o + i * 2, none⟩ = some (.int .i64 r.1) ∧ w.cell? ⟨g, o + i * 2 + 1, none⟩ = some (.int .i64 r.2) := by
  have hl := (List.getElem?_eq_some_iff.1 hi).1
  obtain ⟨e0, e1⟩ := entsV_get hi
  rcases h with h | ⟨g, o, hA, hc⟩
  · have := entsV_length l
    rw [h] at this
    simp at this
    omega
  · exact ⟨g, o, hA, hc _ _ e0, by have := hc _ _ e1; rwa [← Nat.add_assoc] at this⟩
theorem seen_ownE {w : World} {B n c : Nat} {e : TypeId} {A : Option Addr} {l : List Ent} (h : w.ownsRow B e 2 (.slice A n c) n (entsV l)) : Seen w A (entsV l) := by
  rcases h.2 with ⟨hv, hn⟩ | ⟨g, cap, cur, hv, _⟩
  · have h1 := h.1
    rw [hn, Nat.zero_mul, List.length_eq_zero_iff] at h1
    exact .inl h1
  · injection hv with hv _ hc
    subst hv; subst hc
    refine .inr ⟨g, 0, rfl, fun j v hv => ?_⟩
    have hj := (List.getElem?_eq_some_iff.1 hv).1
    have h1 := h.1
    rw [Nat.zero_add, h.cellAt _ (by omega)]
    exact hv
theorem ref_info : (Try.prog.info? 34).map (fun i => (i.zero, i.size, i.bytes)) = some (some (.agg #[.int .i64 0, .int .i64 0]), 2, 16) := by kernel_rfl
theorem new_ref (w : World) (l : Ent) : ∃ W, w.alloc (.cells #[.int .i64 l.1, .int .i64 l.2] 34) = W ∧ Below w.heap.size w W ∧ W.cell? ⟨w.heap.size, 0, none⟩ = some (.int .i64 l.1) ∧ W.cell? ⟨w.heap.size, 1, none⟩ = some (.int .i64 l.2) ∧ Seen W (some ⟨w.heap.size, 0, none⟩) (entsV [l]) :=
  ⟨_, rfl, (Below.refl _ _).alloc (Nat.le_refl _) _, (new_two _ _ _ _).1, (new_two _ _ _ _).2, Seen.of_cells (heap_alloc_new w _)⟩
/-- entries of a row of their own, handed back -/
def EntsRet (x : List Ent) (w : World) (en : Ending) (w' : World) : Prop :=
  ∃ A c, en = .returned (.slice A x.length c) ∧ w'.ownsRow w.heap.size 34 2 (.slice A x.length c) x.length (entsV x) ∧ Below w.heap.size w w'

/-! ### ahead -/
theorem ahead_any (x y : Ent) (w : World) : Calls Try.prog 21 #[.agg #[.int .i64 x.1, .int .i64 x.2], .agg #[.int .i64 y.1, .int .i64 y.2]] w fun e w' => e = .returned (.bool (decide (ahead x y))) ∧ ∃ q os', w' = grow (w.drewN q) os' := by
  obtain ⟨n1, k1⟩ := x
  obtain ⟨n2, k2⟩ := y
  have hfin : ∃ q os', (w.alloc (.cells #[.int .i64 n1, .int .i64 k1] 34)).alloc (.cells #[.int .i64 n2, .int .i64 k2] 34) = grow (w.drewN q) os' := ⟨0, _, by rw [alloc_eq_grow, alloc_eq_grow, grow_grow]; rfl⟩
  have Hfin := Lib.hid hfin
  clear hfin
  by_cases h1 : k1 < k2
  · have hr : decide (ahead (n1, k1) (n2, k2)) = true := decide_eq_true (.inl h1)
    rw [hr]
    go_enter Try.func21, Try.ntmps21
    go_wp2
    go_ret
    exact ⟨rfl, Hfin.out⟩
  · by_cases h2 : k1 = k2
    · subst h2
      by_cases h3 : n1 < n2
      · have hr : decide (ahead (n1, k1) (n2, k1)) = true := decide_eq_true (.inr ⟨rfl, h3⟩)
        rw [hr]
        go_enter Try.func21, Try.ntmps21
        go_wp2
        go_ret
        exact ⟨rfl, Hfin.out⟩
      · have hr : decide (ahead (n1, k1) (n2, k1)) = false := decide_eq_false (by unfold ahead; simp only; omega)
        rw [hr]
        go_enter Try.func21, Try.ntmps21
        go_wp2
        go_ret
        exact ⟨rfl, Hfin.out⟩
    · have hr : decide (ahead (n1, k1) (n2, k2)) = false := decide_eq_false (by unfold ahead; simp only; omega)
      have hq : (k1 == k2) = false := by simpa using h2
      rw [hr]
      go_enter Try.func21, Try.ntmps21
      go_wp2
      go_ret
      exact ⟨rfl, Hfin.out⟩

/-! ### Out -/
theorem outE_snoc (x : List Ent) (r : Ent) (n : Int) : outE (x ++ [r]) n = outE x n ++ (if r.1 = n then [] else [r]) := by
  unfold outE
  rw [List.filter_append]
  congr 1
  by_cases h : r.1 = n <;> simp [h]
theorem take_snoc {x : List Ent} {i : Nat} {r : Ent} (h : x[i]? = some r) : x.take (i + 1) = x.take i ++ [r] := by
  obtain ⟨hk, rfl⟩ := List.getElem?_eq_some_iff.1 h
  exact List.take_succ_eq_append_getElem hk

set_option maxRecDepth 100000 in
set_option maxHeartbeats 2000000 in
theorem Out_any (A : Option Addr) (n c : Nat) (l : List Ent) (nm : Int) (w : World) (hl : l.length = n) (hn : n ≤ 100000) (hs : Seen w A (entsV l)) :
    Calls Try.prog 11 #[.slice A n c, .int .i64 nm] w (EntsRet (outE l nm) w) := by
  have Hl := Lib.hid hl; have Hs := Lib.hid hs
  clear hl hs
  go_enter Try.func11, Try.ntmps11
  go_wp2
  go_loopw [5, 6] (fun sv iv wr => ∃ (i k : Nat) (A' : Option Addr) (c' : Nat), i ≤ n ∧ k ≤ i ∧ iv = .int .i64 (i : Int) ∧ sv = .slice A' k c' ∧ (outE (l.take i) nm).length = k ∧ wr.ownsRow w.heap.size 34 2 (.slice A' k c') k (entsV (outE (l.take i) nm)) ∧ Below w.heap.size w wr) (fun _ iv _ => n - (intOf iv).toNat)
  case atStart => exact ⟨0, 0, none, 0, by omega, by omega, rfl, rfl, rfl, World.ownsRow_nil _ _ _ _, Below.refl _ _⟩
  case round =>
    obtain ⟨i, k, A', c', hin, hki, rfl, rfl, hk, ho, hb⟩ := hrel
    have Hk := Lib.hid hk
    by_cases hi : i < n
    · obtain ⟨r, hr⟩ : ∃ r, l[i]? = some r := ⟨_, List.getElem?_eq_getElem (by have := Hl.out; omega)⟩
      obtain ⟨g, o, rfl, d0, d1⟩ := (Hs.out.below hb).ent hr
      have Hr := Lib.hid hr
      have i0 : (0 : Int) ≤ (i : Int) := by omega
      have i1 : (i : Int) < (n : Int) := by omega
      by_cases he : r.1 = nm
      · have hq : (r.1 != nm) = false := by simp [he]
        have Ho := Lib.hid ho; have Hb := Lib.hid hb; have He := Lib.hid he
        clear ho hb hr he hk
        go_wp2
        go_roundw
        case rel =>
          have e := outE_snoc (l.take i) r nm
          rw [← take_snoc Hr.out, if_pos He.out, List.append_nil] at e
          exact ⟨i + 1, k, A', c', by omega, by omega, by go_num, rfl, by rw [e]; exact Hk.out, by rw [e]; exact Ho.out, Hb.out⟩
        case measure => simp [intOf]; omega
      · have hq : (r.1 != nm) = true := by simpa using he
        obtain ⟨Wa, hWa, hba, -, -, hsa⟩ := new_ref wr r
        have Ho := Lib.hid (own_belowM ho hba); have Hb := Lib.hid (hb.trans (hba.mono hb.size)); have Hsa := Lib.hid hsa; have He := Lib.hid he
        clear ho hb hba hsa hr he hk
        go_wp2_with (at_builtin; refine wpList_app3 rfl (.tmp 20) (.tmp 25) _ rfl 34 _ 2 16 Try.underlying28 ref_info rfl (by omega) w.heap.size A' k c' (entsV (outE (l.take i) nm)) rfl Ho.out wr.heap.size 0 1 1 (entsV [r]) rfl rfl Hsa.out (entsV_one _) (by unfold maxLen; omega) (by omega) Hb.out.size ?_; intro A4 c4 w4 hown4 hg4 hbk4; have Hown4 := Lib.hid hown4; have Hg4 := Lib.hid hg4; clear hown4 hg4 hbk4)
        go_roundw
        case rel =>
          have e := outE_snoc (l.take i) r nm
          rw [← take_snoc Hr.out, if_neg He.out] at e
          have tg : Turned (fun k0 => (Value.slice A' k c').ownBlock = some k0) Wa w4 := Turned.of_grown Hg4.out fun k e => e
          exact ⟨i + 1, k + 1, A4, c4, by omega, by omega, by go_num, rfl, by rw [e, List.length_append, Hk.out]; rfl, by rw [e, entsV_append]; exact Hown4.out, Hb.out.trans (tg.below (fun k e => (Ho.out.lt k e).1) Hb.out.size)⟩
        case measure => simp [intOf]; omega
    · obtain rfl : i = n := by omega
      have i1 : ¬ (i : Int) < (i : Int) := by omega
      have hty : l.take i = l := List.take_of_length_le (by rw [Hl.out]; exact Nat.le_refl _)
      rw [hty] at ho hk
      have Ho := Lib.hid ho; have Hb := Lib.hid hb; have Hk2 := Lib.hid hk
      clear ho hb hk hty
      go_wp2
      go_ret
      unfold EntsRet
      rw [Hk2.out]
      exact ⟨A', c', rfl, Ho.out, Hb.out⟩

/-! ### At -/
def AtRet (l : List Ent) (nm : Int) (w : World) (en : Ending) (w' : World) : Prop :=
  ∃ v : Int, en = .returned (.int .i64 v) ∧ ((v = -1 ∧ ∀ r ∈ l, r.1 ≠ nm) ∨ ∃ (i : Nat) (k : Int), v = (i : Int) ∧ l[i]? = some (nm, k)) ∧ w = w'
set_option maxRecDepth 100000 in
theorem At_any (A : Option Addr) (n c : Nat) (l : List Ent) (nm : Int) (w : World) (hl : l.length = n) (hn : n ≤ 100000) (hs : Seen w A (entsV l)) :
    Calls Try.prog 10 #[.slice A n c, .int .i64 nm] w (AtRet l nm w) := by
  have Hl := Lib.hid hl; have Hs := Lib.hid hs
  clear hl hs
  go_enter Try.func10, Try.ntmps10
  go_wp2
  go_loopw [5] (fun iv wr => ∃ (i : Nat), i ≤ n ∧ iv = .int .i64 (i : Int) ∧ (∀ r ∈ l.take i, r.1 ≠ nm) ∧ wr = w) (fun iv _ => n - (intOf iv).toNat)
  case atStart => exact ⟨0, by omega, rfl, fun r h => (by simp at h), rfl⟩
  case round =>
    obtain ⟨i, hin, rfl, hno, rfl⟩ := hrel
    have Hno := Lib.hid hno
    clear hno
    by_cases hi : i < n
    · obtain ⟨r, hr⟩ : ∃ r, l[i]? = some r := ⟨_, List.getElem?_eq_getElem (by have := Hl.out; omega)⟩
      obtain ⟨g, o, rfl, d0, d1⟩ := Hs.out.ent hr
      have Hr := Lib.hid hr
      have i0 : (0 : Int) ≤ (i : Int) := by omega
      have i1 : (i : Int) < (n : Int) := by omega
      clear hr
      by_cases he : r.1 = nm
      · have hq : (r.1 == nm) = true := by simp [he]
        have He := Lib.hid he
        clear he
        go_wp2
        go_ret
        unfold AtRet
        exact ⟨(i : Int), rfl, .inr ⟨i, r.2, rfl, by rw [Hr.out, ← He.out]⟩, rfl⟩
      · have hq : (r.1 == nm) = false := by simpa using he
        have He := Lib.hid he
        clear he
        go_wp2
        go_roundw
        case rel =>
          refine ⟨i + 1, by omega, by go_num, fun r' hr' => ?_, trivial⟩
          rw [take_snoc Hr.out, List.mem_append, List.mem_singleton] at hr'
          rcases hr' with hr' | rfl
          · exact Hno.out r' hr'
          · exact He.out
        case measure => simp [intOf]; omega
    · obtain rfl : i = n := by omega
      have i1 : ¬ (i : Int) < (i : Int) := by omega
      have hty : l.take i = l := List.take_of_length_le (by rw [Hl.out]; exact Nat.le_refl _)
      have Hty := Lib.hid hty
      clear hty
      go_wp2
      go_ret
      unfold AtRet
      exact ⟨-1, rfl, .inl ⟨rfl, fun r hr => Hno.out r (by rw [Hty.out]; exact hr)⟩, rfl⟩

/-! ### Names -/
def NamesRet (x : List Ent) (w : World) (en : Ending) (w' : World) : Prop :=
  ∃ A c, en = .returned (.slice A x.length c) ∧ w'.ownsRow w.heap.size 3 1 (.slice A x.length c) x.length (numsV (namesE x)) ∧ Below w.heap.size w w'
set_option maxRecDepth 100000 in
set_option maxHeartbeats 2000000 in
theorem Names_any (A : Option Addr) (n c : Nat) (l : List Ent) (w : World) (hl : l.length = n) (hn : n ≤ 100000) (hs : Seen w A (entsV l)) :
    Calls Try.prog 17 #[.slice A n c] w (NamesRet l w) := by
  have Hl := Lib.hid hl; have Hs := Lib.hid hs
  clear hl hs
  go_enter Try.func17, Try.ntmps17
  go_wp2
  go_loopw [3, 4] (fun sv iv wr => ∃ (i : Nat) (A' : Option Addr) (c' : Nat), i ≤ n ∧ iv = .int .i64 (i : Int) ∧ sv = .slice A' i c' ∧ wr.ownsRow w.heap.size 3 1 (.slice A' i c') i (numsV (namesE (l.take i))) ∧ Below w.heap.size w wr) (fun _ iv _ => n - (intOf iv).toNat)
  case atStart => exact ⟨0, none, 0, by omega, rfl, rfl, World.ownsRow_nil _ _ _ _, Below.refl _ _⟩
  case round =>
    obtain ⟨i, A', c', hin, rfl, rfl, ho, hb⟩ := hrel
    by_cases hi : i < n
    · obtain ⟨r, hr⟩ : ∃ r, l[i]? = some r := ⟨_, List.getElem?_eq_getElem (by have := Hl.out; omega)⟩
      obtain ⟨g, o, rfl, d0, d1⟩ := (Hs.out.below hb).ent hr
      obtain ⟨Wb, hWb⟩ : ∃ Wb, wr.alloc (.cells #[.int .i64 r.1] 3) = Wb := ⟨_, rfl⟩
      have hbb : Below wr.heap.size wr Wb := by rw [← hWb]; exact (Below.refl _ _).alloc (Nat.le_refl _) _
      have hsb : Seen Wb (some ⟨wr.heap.size, 0, none⟩) [.int .i64 r.1] := by rw [← hWb]; exact Seen.of_cells (heap_alloc_new wr _)
      have Ho := Lib.hid (own_belowM ho hbb); have Hb := Lib.hid (hb.trans (hbb.mono hb.size)); have Hsb := Lib.hid hsb; have Hr := Lib.hid hr
      have i0 : (0 : Int) ≤ (i : Int) := by omega
      have i1 : (i : Int) < (n : Int) := by omega
      clear ho hb hbb hsb hr
      go_wp2_with (at_builtin; refine wpList_app2 rfl (.tmp 11) (.tmp 17) _ rfl 3 _ 8 Try.underlying44 int_info rfl w.heap.size A' i c' (numsV (namesE (l.take i))) rfl Ho.out (some ⟨wr.heap.size, 0, none⟩) 1 1 [.int .i64 r.1] rfl rfl Hsb.out (fun u hu => by simp at hu; subst hu; rfl) (by unfold maxLen; omega) (by omega) Hb.out.size ?_; intro A4 c4 w4 hown4 hg4 hbk4; have Hown4 := Lib.hid hown4; have Hg4 := Lib.hid hg4; clear hown4 hg4 hbk4)
      go_roundw
      case rel =>
        have tg : Turned (fun k => (Value.slice A' i c').ownBlock = some k) Wb w4 := Turned.of_grown Hg4.out fun k e => e
        refine ⟨i + 1, A4, c4, by omega, by go_num, rfl, ?_, Hb.out.trans (tg.below (fun k e => (Ho.out.lt k e).1) Hb.out.size)⟩
        have := Hown4.out
        rw [namesE_take Hr.out, numsV_append]
        exact this
      case measure => simp [intOf]; omega
    · obtain rfl : i = n := by omega
      have i1 : ¬ (i : Int) < (i : Int) := by omega
      have hty : l.take i = l := List.take_of_length_le (by rw [Hl.out]; exact Nat.le_refl _)
      rw [hty] at ho
      have Ho := Lib.hid ho; have Hb := Lib.hid hb
      clear ho hb hty
      go_wp2
      go_ret
      unfold NamesRet
      rw [Hl.out]
      exact ⟨A', c', rfl, Ho.out, Hb.out⟩
end Go.Proofs.Ytleibgihaplhnaa
