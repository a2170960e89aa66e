/-
  Contracts of Bytes of the table. Conditions: a table in memory that is well.
-/
import Derived.Test.YtkjfaijdmpnjkaaDupKey
namespace Go.Proofs.Ytkjfaijdmpnjkaa
open Go.ChangeShapes Go.WideShapes Go.ChangeAt Go.RowKit Go.Maps Go.Shelf Go.Sort
set_option linter.unusedVariables false

theorem lastOf_mem : ∀ {x : List Lst} {l : Lst}, Rise x → l ∈ x → lastOf x l.1 = l.2
  | [], l, _, h => by simp at h
  | y :: r, l, hr, h => by
    unfold lastOf atL
    rcases List.mem_cons.1 h with rfl | h
    · simp
    · have h1 := (List.pairwise_cons.1 hr).1 l h
      rw [List.find?_cons_of_neg (by simp; omega)]
      exact lastOf_mem (List.pairwise_cons.1 hr).2 h
theorem putN {xs : List UInt8} (x : List Lst) (i : Nat) {l : Lst} (hi : x[i]? = some l) : flatL (x.take (i + 1)) = flatL (x.take i) ++ lstB l := by
  obtain ⟨hk, rfl⟩ := List.getElem?_eq_some_iff.1 hi
  rw [List.take_succ_eq_append_getElem hk, flatL_snoc]
theorem flat_take_len {x : List Lst} (h : TabOk x) (i : Nat) : (flatL (x.take i)).length ≤ 864 := by
  have h1 := flatL_len (x := x.take i) fun l hl => h.right l (List.mem_of_mem_take hl)
  have h2 : (x.take i).length ≤ 32 := by rw [List.length_take]; have := h.len; omega
  omega

theorem IsW.spares {w : World} {B g : Nat} {r : Option Nat} {xs : List UInt8} (h : IsW w B g r xs) {k : Nat} {cs : Array Value} {T : TypeId} {fr : Nat × Nat} (hk : w.heap[k]? = some (.cells cs T fr)) (h1 : T ≠ 63) (h2 : T ≠ 5) : ¬ (k = g ∨ r = some k) := by
  obtain ⟨hB, A, n, c, hh, hown, hxl, hro, hne⟩ := h
  rintro (rfl | e)
  · rw [hh] at hk
    injection hk with hk
    injection hk with _ hT
    exact h1 hT.symm
  · subst hro
    obtain ⟨cs', hc⟩ := row_blockM hown e
    rw [hc] at hk
    injection hk with hk
    injection hk with _ hT
    exact h2 hT.symm
/-- a Writer made since w, and ints of a row of one's own -/
structure BytAt (w wr : World) (A : Option Addr) (n c : Nat) (ks : List Int) (r : Option Nat) (xs : List UInt8) : Prop where
  isw : IsW wr w.heap.size w.heap.size r xs
  below : Below w.heap.size w wr
  own : wr.ownsRow w.heap.size 3 1 (.slice A n c) n (numsV ks)
theorem BytAt.alloc {w wr : World} {A : Option Addr} {n c : Nat} {ks : List Int} {r : Option Nat} {xs : List UInt8} (h : BytAt w wr A n c ks r xs) (o : Obj) : BytAt w (wr.alloc o) A n c ks r xs := by
  have hb := below_alloc wr o
  exact ⟨h.isw.turned (.of_below hb) id (fun _ _ e => e), h.below.trans (hb.mono h.below.size), own_belowM h.own hb⟩
def NumRet (w : World) (A : Option Addr) (n c : Nat) (ks : List Int) (xs : List UInt8) (wr : World) (e : Ending) (w' : World) : Prop :=
  e = .returned (.tuple #[]) ∧ (∃ r', BytAt w w' A n c ks r' xs) ∧ ∀ (k : Nat) (cs : Array Value) (T : TypeId) (fr : Nat × Nat), wr.heap[k]? = some (.cells cs T fr) → T ≠ 63 → T ≠ 5 → w'.heap[k]? = some (.cells cs T fr)
theorem BytAt.num {w wr : World} {A : Option Addr} {n c : Nat} {ks : List Int} {r : Option Nat} {xs : List UInt8} (h : BytAt w wr A n c ks r xs) (hx : xs.length ≤ 1000000) (v : Int) (h1 : -9223372036854775808 ≤ v) (h2 : v ≤ 9223372036854775807) :
    Calls Try.prog 22 #[.pointer (some ⟨w.heap.size, 0, none⟩), .int .i64 v] wr (NumRet w A n c ks (xs ++ numB v.toNat) wr) := by
  refine (WNum_any _ _ r xs v wr h.isw hx h1 h2).mono ?_
  rintro e w' ⟨rfl, r', hw', hf, ht⟩
  refine ⟨rfl, ⟨r', hw', h.below.trans (ht.below (fun k e => ?_) h.below.size), own_turnedM ht h.own fun k hk => ?_⟩, fun k cs T fr hk q1 q2 => ht.heap hk (h.isw.spares hk q1 q2)⟩
  · rcases e with rfl | e
    · exact Nat.le_refl _
    · exact (h.isw.lt.2 k e).1
  · obtain ⟨cs, hcs⟩ := row_blockM h.own hk
    exact h.isw.spares hcs (by decide) (by decide)

set_option maxRecDepth 100000 in
set_option maxHeartbeats 4000000 in
theorem Bytes_any (g : Nat) (m : Option Nat) (x : List Lst) (w : World) (H : TabAt w g m x) (hx : TabOk x) :
    Calls Try.prog 10 #[.pointer (some ⟨g, 0, none⟩)] w (OwnRet 5 (bytesV (bytesL x)) w) := by
  obtain ⟨W1, hW1⟩ : ∃ W1, w.alloc (.cells #[.slice none 0 0] 63) = W1 := ⟨_, rfl⟩
  have hb1 : Below w.heap.size w W1 := by rw [← hW1]; exact below_alloc _ _
  have hw1 : IsW W1 w.heap.size w.heap.size none [] := by rw [← hW1]; exact IsW.zero w w.heap.size (Nat.le_refl _)
  have H1 := H.below hb1
  have a0 : W1.cell? ⟨g, 0, none⟩ = some (.map m) := row_cell H1.1 0
  have hlen := fun ty => len_run H1.2 ty
  have hl32 := hx.len
  have hnum := WNum_any w.heap.size w.heap.size none [] (x.length : Int) W1 hw1 (by simp) (by omega) (by omega)
  rw [toNat_of, List.nil_append] at hnum
  have Hnum := Lib.hid hnum; have HH := Lib.hid H; have H1' := Lib.hid H1; have Hx := Lib.hid hx; have Hb1 := Lib.hid hb1; have Hg := Lib.hid H.lt
  clear hnum H1 H hx hb1 hw1
  go_enter Try.func10, Try.ntmps10
  go_wp2_with (first
    | (go_at_call 22; refine Hnum.out.mono ?_; rintro e2 w2 ⟨rfl, r2, hr2, hf2, ht2⟩; have Hw2 := Lib.hid hr2; have Hb2 := Lib.hid (Hb1.out.trans (ht2.below (fun k e => by rcases e with rfl | e; exact Nat.le_refl _; cases e) Hb1.out.size)); have T2 := Lib.hid (HH.out.below Hb2.out); clear hr2 hf2 ht2)
    | (go_at_call 13; refine (Clients_any g m x _ T2.out Hx.out.rise (by omega)).mono ?_; rintro e3 w3 ⟨A, c, rfl, hown, hb3⟩; have Hk3 := Lib.hid hown; have Hb3 := Lib.hid hb3; clear hown hb3))
  have B3 := Lib.hid (show BytAt w w3 A (keysL x).length c (keysL x) r2 (numB x.length) from ⟨Hw2.out.turned (.of_below Hb3.out) id (fun _ _ e => e), Hb2.out.trans (Hb3.out.mono Hb2.out.size), own_baseM Hk3.out Hb2.out.size⟩)
  have hkl := keysL_length x
  rw [hkl] at B3 ⊢
  clear a0 hlen hW1
  go_loopw [16] (fun iv wr => ∃ (i : Nat) (r : Option Nat), iv = .int .i64 (i : Int) ∧ i ≤ x.length ∧ BytAt w wr A x.length c (keysL x) r (numB x.length ++ flatL (x.take i))) (fun iv _ => x.length - (intOf iv).toNat)
  case atStart => exact ⟨0, r2, rfl, by omega, by simpa [flatL] using B3.out⟩
  case round =>
    obtain ⟨i, r, rfl, hin, hB⟩ := hrel
    have HB := Lib.hid hB
    clear hB
    by_cases hi : i < x.length
    · obtain ⟨l, hl⟩ : ∃ l, x[i]? = some l := ⟨_, List.getElem?_eq_getElem hi⟩
      have hmem : l ∈ x := List.mem_of_getElem? hl
      have hright := rightL_iff.1 (Hx.out.right l hmem)
      have hlast := lastOf_mem Hx.out.rise hmem
      have hkey : (keysL x)[i]? = some l.1 := by unfold keysL; rw [List.getElem?_map, hl]; rfl
      obtain ⟨lc, ln, le⟩ := l
      simp only at hright hlast hkey
      have hT := HH.out.below HB.out.below
      have hg1 := get_run (k := lc) hT.2 (by omega) (by omega)
      rw [hlast] at hg1
      simp only at hg1
      have a0 : wr.cell? ⟨g, 0, none⟩ = some (.map m) := row_cell hT.1 0
      obtain ⟨q, o, rfl, hq⟩ : ∃ q o, A = some ⟨q, o, none⟩ ∧ wr.cell? ⟨q, o + i, none⟩ = some (.int .i64 lc) := by
        rcases own_seenM HB.out.own with h | ⟨q, o, hA, hc⟩
        · have := congrArg List.length h
          simp [numsV, keysL] at this
          rw [this] at hi
          simp at hi
        · exact ⟨q, o, hA, hc i _ (by unfold numsV; rw [List.getElem?_map, hkey]; rfl)⟩
      obtain ⟨W4, hW4⟩ : ∃ W4, wr.alloc (.cells #[.int .i64 ln, .int .i64 le] 54) = W4 := ⟨_, rfl⟩
      have B4 := Lib.hid (show BytAt w W4 _ _ _ _ _ _ by rw [← hW4]; exact HB.out.alloc _)
      have h4 : W4.heap[wr.heap.size]? = some (.cells #[.int .i64 ln, .int .i64 le] 54 (0, 0)) := by rw [← hW4]; exact heap_alloc_new _ _
      have H4 := Lib.hid h4
      have i0 : (0 : Int) ≤ (i : Int) := by omega
      have i1 : (i : Int) < (x.length : Int) := by omega
      have Hl := Lib.hid hl; have Hri := Lib.hid hright
      have Hfl := Lib.hid (flat_take_len Hx.out i)
      have Hnb := Lib.hid (numB_len9 (n := x.length) (by omega))
      clear h4 hl hright hlast hkey hT hmem
      go_wp2_with (first
        | (go_at_call_of 22 (Value.int .i64 lc); refine (B4.out.num (by rw [List.length_append]; have := Hfl.out; have := Hnb.out; omega) lc (by have := Hri.out; omega) (by have := Hri.out; omega)).mono ?_; rintro e5 w5 ⟨rfl, ⟨r5, b5⟩, k5⟩; have h5 := k5 _ _ _ _ H4.out (by decide) (by decide); have c5 : w5.cell? ⟨wr.heap.size, 0, none⟩ = some (.int .i64 ln) := row_cell h5 0; have B5 := Lib.hid b5; have H5 := Lib.hid h5; clear b5 k5 h5)
        | (go_at_call_of 22 (Value.int .i64 ln); refine (B5.out.num (by rw [List.length_append, List.length_append]; have := Hfl.out; have := Hnb.out; have := numB_len9 (n := lc.toNat) (by have := Hri.out; omega); omega) ln (by have := Hri.out; omega) (by have := Hri.out; omega)).mono ?_; rintro e6 w6 ⟨rfl, ⟨r6, b6⟩, k6⟩; have h6 := k6 _ _ _ _ H5.out (by decide) (by decide); have c6 : w6.cell? ⟨wr.heap.size, 1, none⟩ = some (.int .i64 le) := row_cell h6 1; have B6 := Lib.hid b6; clear b6 k6 h6 c5)
        | (go_at_call_of 22 (Value.int .i64 le); refine (B6.out.num (by rw [List.length_append, List.length_append, List.length_append]; have := Hfl.out; have := Hnb.out; have := numB_len9 (n := lc.toNat) (by have := Hri.out; omega); have := numB_len9 (n := ln.toNat) (by have := Hri.out; omega); omega) le (by have := Hri.out; omega) (by have := Hri.out; omega)).mono ?_; rintro e7 w7 ⟨rfl, ⟨r7, b7⟩, -⟩; have B7 := Lib.hid b7; clear b7 c6))
      go_roundw
      case rel =>
        refine ⟨i + 1, r7, by go_num, by omega, ?_⟩
        rw [putN (xs := []) x i Hl.out]
        have := B7.out
        simp only [List.append_assoc] at this ⊢
        exact this
      case measure => simp [intOf]; omega
    · obtain rfl : i = x.length := by omega
      have i1 : ¬ (x.length : Int) < (x.length : Int) := by omega
      have hB := HB.out
      rw [List.take_of_length_le (Nat.le_refl _)] at hB
      have hbl := Hx.out.bytes_len
      have HB2 := Lib.hid (show BytAt w wr A x.length c (keysL x) r (bytesL x) from hB)
      clear hB
      go_wp2_with (go_at_call 23; refine (WBytes_any _ _ r _ wr HB2.out.isw (by omega)).mono ?_; rintro e8 w8 ⟨A8, c8, rfl, ho8, hb8⟩; have Ho8 := Lib.hid ho8; have Hb8 := Lib.hid hb8; clear ho8 hb8)
      go_ret
      exact ⟨A8, c8, rfl, own_baseM Ho8.out HB2.out.below.size, HB2.out.below.trans (Hb8.out.mono HB2.out.below.size)⟩
end Go.Proofs.Ytkjfaijdmpnjkaa
