/-
  A content of package block in memory, what a write makes of it by definition, and the contracts of isBlock, Write, Trim, Read. Conditions: a content at an address of its own, numbers that an int holds.
-/
import Derived.Test.YteebkolccbcehaaCrcE
import Derived.Test.YteebkolccbcehaaKept
import Derived.Test.YteebkolccbcehaaMade
import Derived.Deep.MidRow
import Derived.Deep.WholeRow
import Derived.StillTailTactics
namespace Go.Proofs.Yteebkolccbcehaa
open Go.ChangeShapes Go.WideShapes Go.ChangeAt Go.RowKit
set_option linter.unusedVariables false
set_option linter.unusedSimpArgs false

/-- a content's bytes l with block i set to b; its block i -/
def setB (l : List UInt8) (i : Nat) (b : List UInt8) : List UInt8 := l.take (16 * i) ++ b ++ l.drop (16 * i + 16)
def getB (l : List UInt8) (i : Nat) : List UInt8 := (l.drop (16 * i)).take 16
def isB (i : Int) : Bool := decide (0 ≤ i ∧ i ≤ 7)
theorem setB_length {l b : List UInt8} {i : Nat} (hl : l.length = 128) (hi : i < 8) (hb : b.length = 16) : (setB l i b).length = 128 := by
  unfold setB; simp; omega
theorem getB_length {l : List UInt8} {i : Nat} (hl : l.length = 128) (hi : i < 8) : (getB l i).length = 16 := by
  unfold getB; simp; omega
theorem cut3 {l : List UInt8} {i : Nat} (hl : l.length = 128) (hi : i < 8) : l = l.take (16 * i) ++ getB l i ++ l.drop (16 * i + 16) := by
  unfold getB
  rw [List.append_assoc, ← List.drop_drop, List.take_append_drop, List.take_append_drop]
theorem getB_set {l b : List UInt8} {i : Nat} (hl : l.length = 128) (hi : i < 8) (hb : b.length = 16) : getB (setB l i b) i = b := by
  unfold getB setB
  rw [List.append_assoc, List.drop_left' (by simp; omega), List.take_left' hb]
theorem getB_set_ne {l b : List UInt8} {i k : Nat} (hl : l.length = 128) (hi : i < 8) (hb : b.length = 16) (hk : k ≠ i) : getB (setB l i b) k = getB l k := by
  apply List.ext_getElem?
  intro j
  unfold getB setB
  rw [List.getElem?_take, List.getElem?_take]
  split
  · rw [List.getElem?_drop, List.getElem?_drop, List.append_assoc, List.getElem?_append]
    split
    · rename_i h; rw [List.getElem?_take, if_pos (by simp at h; omega)]
    · rename_i h
      simp only [List.length_take] at h ⊢
      rw [List.getElem?_append, if_neg (by omega), List.getElem?_drop]
      congr 1
      omega
  · rfl

section
variable {w : World}
/-- cells of a row stored from an offset on: the row so set -/
theorem setCells_row {g : Nat} {t : TypeId} (post : List Value) : ∀ (vs mid pre : List Value) (w : World), w.heap[g]? = some (.cells (pre ++ mid ++ post).toArray t (0, 0)) → mid.length = vs.length →
    w.setCells g pre.length vs = w.setRow g (pre ++ vs ++ post).toArray
  | [], mid, pre, w, h, hm => by
    obtain rfl : mid = [] := List.eq_nil_of_length_eq_zero hm
    rw [setRow_self w g _ t (0, 0) h]
    rfl
  | v :: vs, m :: mid, pre, w, h, hm => by
    have h1 : (pre ++ (m :: mid) ++ post).toArray.setIfInBounds pre.length v = (pre ++ [v] ++ mid ++ post).toArray := by
      apply Array.toList_inj.1
      simp
    have e : w.setCell ⟨g, pre.length, none⟩ v = w.setRow g (pre ++ [v] ++ mid ++ post).toArray := by
      rw [setCell_eq_setRow w g pre.length _ t (0, 0) v h, h1]
    have ih := setCells_row (g := g) (t := t) post vs mid (pre ++ [v]) (w.setRow g (pre ++ [v] ++ mid ++ post).toArray) (setRow_heap w g _ _ t (0, 0) h) (by simpa using hm)
    show (w.setCell ⟨g, pre.length, none⟩ v).setCells g (pre.length + 1) vs = _
    rw [e]
    rw [List.length_append, List.length_singleton] at ih
    rw [ih, setRow_setRow]
    congr 2
    simp
end
/-- a content with the bytes l at g -/
structure CtAt (w : World) (g : Nat) (l : List UInt8) : Prop where
  len : l.length = 128
  blk : w.heap[g]? = some (.cells (bytesV l).toArray 27 (0, 0))
theorem CtAt.lt {w : World} {g : Nat} {l : List UInt8} (h : CtAt w g l) : g < w.heap.size := (Array.getElem?_eq_some_iff.1 h.blk).1
theorem CtAt.turned {w w' : World} {p : Nat → Prop} {g : Nat} {l : List UInt8} (h : CtAt w g l) (ht : Turned p w w') (hn : ¬ p g) : CtAt w' g l := ⟨h.len, ht.heap h.blk hn⟩
theorem CtAt.below {w w' : World} {g : Nat} {l : List UInt8} (h : CtAt w g l) (hb : Below w.heap.size w w') : CtAt w' g l := ⟨h.len, (hb.block g h.lt).trans h.blk⟩
theorem CtAt.put {w : World} {g : Nat} {l l' : List UInt8} (h : CtAt w g l) (hl : l'.length = 128) : CtAt (w.setRow g (bytesV l').toArray) g l' := ⟨hl, setRow_heap w g _ _ _ (0, 0) h.blk⟩
theorem turned_row (w : World) (g : Nat) (cs : Array Value) : Turned (fun k => k = g) w (w.setRow g cs) := ⟨rfl, rfl, rfl, by simp, fun k _ hk => setRow_other w g k _ hk⟩

theorem b16_und : Try.prog.underlying 24 = some (.array 16 5) := by kernel_rfl
theorem b16_size : (Try.prog.info? 24).map (·.size) = some 16 := by kernel_rfl
theorem b128_und : Try.prog.underlying 25 = some (.array 8 24) := by kernel_rfl
theorem b128_size : (Try.prog.info? 25).map (·.size) = some 128 := by kernel_rfl
theorem ct_size : (Try.prog.info? 27).map (·.size) = some 128 := by kernel_rfl
/-- loads and stores of a block: behind names -/
def ldB (p : Value) : Sem Value := Instr.loadAt 24 p
theorem ldB_eq (p : Value) : Instr.loadAt 24 p = ldB p := rfl
def stB (p v : Value) : Sem Unit := Instr.storeAt 24 p v
theorem stB_eq (p v : Value) : Instr.storeAt 24 p v = stB p v := rfl
theorem ldB_run {w : World} {b o : Nat} {bs : List UInt8} (h : w.rangeAt b o (bytesV bs)) (hl : bs.length = 16) : (ldB (.pointer (some ⟨b, o, none⟩))).run Try.prog w = .ok (.agg (bytesV bs).toArray) w :=
  run_loadAt_mid w b o _ _ _ h b16_und rfl (by rw [b16_size, bytes_length, hl])
theorem Seen.range {w : World} {b o : Nat} {xs : List Value} (h : Seen w (some ⟨b, o, none⟩) xs) : w.rangeAt b o xs := by
  rcases h with rfl | ⟨g, q, hA, hc⟩
  · intro j v hv; simp at hv
  · injection hA with hA
    injection hA with h1 h2
    subst h1; subst h2
    exact hc
theorem CtAt.range {w : World} {g : Nat} {l : List UInt8} (h : CtAt w g l) {i : Nat} (hi : i < 8) : w.rangeAt g (i * 16) (bytesV (getB l i)) := fun j v hv => by
  rw [row_cell h.blk]
  unfold bytesV getB at hv
  rw [List.getElem?_map, List.getElem?_take] at hv
  split at hv
  · rw [List.getElem?_drop] at hv
    rw [List.getElem?_toArray, bytesV, List.getElem?_map, Nat.mul_comm]
    exact hv
  · cases hv
theorem stB_run {w : World} {g : Nat} {l b : List UInt8} (h : CtAt w g l) {i : Nat} (hi : i < 8) (hb : b.length = 16) :
    (stB (.pointer (some ⟨g, i * 16, none⟩)) (.agg (bytesV b).toArray)).run Try.prog w = .ok () (w.setRow g (bytesV (setB l i b)).toArray) := by
  have hlen := h.len
  refine (run_storeAt_mid w g (i * 16) _ _ (fun j hj => ?_) (by rw [b16_size]; simp [bytes_length, hb]) (all_oneCell_toArray (bytes_one _))).trans ?_
  · refine ⟨?_, row_frozen h.blk _⟩
    rw [row_cell h.blk]
    simp [bytes_length, hb] at hj
    rw [List.getElem?_toArray, List.getElem?_eq_getElem (by rw [bytes_length]; omega)]
    rfl
  · have hc : (bytesV l).toArray = (bytesV (l.take (16 * i)) ++ bytesV (getB l i) ++ bytesV (l.drop (16 * i + 16))).toArray := by
      rw [← bytes_append, ← bytes_append, ← cut3 hlen hi]
    have hh := h.blk
    rw [hc] at hh
    have := setCells_row (bytesV (l.drop (16 * i + 16))) (bytesV b) (bytesV (getB l i)) (bytesV (l.take (16 * i))) w hh (by rw [bytes_length, bytes_length, getB_length hlen hi, hb])
    rw [bytes_length, List.length_take, Nat.min_eq_left (by omega), Nat.mul_comm 16] at this
    simp only [List.toList_toArray]
    rw [this]
    unfold setB
    rw [bytes_append, bytes_append, Nat.mul_comm 16]
attribute [local go_sem ↓] ldB_eq stB_eq

theorem isBlock_any (i : Int) (w : World) : Calls Try.prog 23 #[.int .i64 i] w fun e w' => e = .returned (.bool (isB i)) ∧ w = w' := by
  by_cases h0 : 0 ≤ i
  · by_cases h7 : i < 8
    · rw [show isB i = true from by unfold isB; simp; omega]
      go_enter Try.func23, Try.ntmps23
      go_wp2
      go_ret
      exact ⟨rfl, rfl⟩
    · rw [show isB i = false from by unfold isB; simp; omega]
      go_enter Try.func23, Try.ntmps23
      go_wp2
      go_ret
      exact ⟨rfl, rfl⟩
  · rw [show isB i = false from by unfold isB; simp; omega]
    go_enter Try.func23, Try.ntmps23
    go_wp2
    go_ret
    exact ⟨rfl, rfl⟩
theorem own_base {w : World} {b b' : Nat} {e : TypeId} {z : Nat} {v : Value} {n : Nat} {xs : List Value} (h : w.ownsRow b e z v n xs) (hb : b' ≤ b) : w.ownsRow b' e z v n xs := by
  refine ⟨h.1, ?_⟩
  rcases h.2 with h2 | ⟨g, cap, cur, rfl, hg, r⟩
  · exact .inl h2
  · exact .inr ⟨g, cap, cur, rfl, Nat.le_trans hb hg, r⟩
theorem own_lo {w : World} {base : Nat} {e : TypeId} {z : Nat} {v : Value} {n : Nat} {xs : List Value} (h : w.ownsRow base e z v n xs) : ∀ k, v.ownBlock = some k → base ≤ k := by
  intro k hk
  rcases h.2 with ⟨rfl, _⟩ | ⟨g, cap, cur, rfl, hg, _⟩
  · cases hk
  · injection hk with hk
    subst hk
    exact hg
def inI (a : Int) : Prop := -9223372036854775808 ≤ a ∧ a ≤ 9223372036854775807
theorem isB_yes {i : Int} (h : isB i = true) : ∃ k : Nat, i = (k : Int) ∧ k < 8 := by
  unfold isB at h
  rw [decide_eq_true_iff] at h
  exact ⟨i.toNat, by omega, by omega⟩
theorem b16_arr (A : Option Addr) (c : Nat) (w : World) : (Instr.arrayAt 24 (.slice A 16 c)).run Try.prog w = .ok (.pointer A) w := by
  simp [Instr.arrayAt, run_underlying b16_und]
set_option maxRecDepth 100000 in
set_option maxHeartbeats 2000000 in
/-- Write where it goes through -/
theorem BWrite_yes (g : Nat) (l : List UInt8) (i : Nat) (A : Option Addr) (c : Nat) (b : List UInt8) (w : World) (h : CtAt w g l) (hi : i < 8) (hb : b.length = 16) (hs : Seen w A (bytesV b)) :
    Calls Try.prog 10 #[.pointer (some ⟨g, 0, none⟩), .int .i64 (i : Int), .slice A 16 c] w fun e w' => e = .returned (.int .i64 0) ∧ CtAt w' g (setB l i b) ∧ Turned (fun k => k = g) w w' := by
  have K := Lib.hid (isBlock_any (i : Int) w)
  have hq : isB (i : Int) = true := by unfold isB; simp; omega
  have H := Lib.hid h; have Hb := Lib.hid hb
  obtain ⟨p, q, rfl⟩ : ∃ p q, A = some ⟨p, q, none⟩ := by
    rcases hs with h0 | ⟨p, q, hA, _⟩
    · have := congrArg List.length h0; simp [bytes_length, hb] at this
    · exact ⟨p, q, hA⟩
  have hl := ldB_run (w := w.drew) (Seen.range hs) hb
  have hst := stB_run (w := w.drew) (g := g) (l := l) ⟨h.len, h.blk⟩ hi hb
  have ha := b16_arr (some ⟨p, q, none⟩) c
  have i0 : (0 : Int) ≤ (i : Int) := by omega
  have i8 : (i : Int) < 8 := by omega
  clear h hb hs
  go_enter Try.func10, Try.ntmps10
  go_wp2_with (go_at_call 23; refine K.out.mono ?_; rintro e w1 ⟨rfl, rfl⟩; rw [hq])
  go_still_tail 8, (by kernel_rfl)
  change wpList _ _ _ _ _ w.drew
  go_wp2
  go_ret
  exact ⟨rfl, CtAt.put (w := w.drew) ⟨H.out.len, H.out.blk⟩ (setB_length H.out.len hi Hb.out), (Turned.of_below (Below.refl _ w).drew).trans (turned_row _ _ _) (fun _ e => e) (fun _ _ e => e)⟩
/-- Write that is refused -/
theorem BWrite_no (g : Nat) (l : List UInt8) (i : Int) (A : Option Addr) (n c : Nat) (w : World) (hi : isB i = true → n ≠ 16) :
    Calls Try.prog 10 #[.pointer (some ⟨g, 0, none⟩), .int .i64 i, .slice A n c] w fun e w' => e = .returned (.int .i64 1) ∧ w = w' := by
  have K := Lib.hid (isBlock_any i w)
  cases hq : isB i with
  | true =>
    have hn := hi hq
    have hn' : ((n : Int) == 16) = false := by rw [beq_eq_false_iff_ne]; omega
    clear hi
    go_enter Try.func10, Try.ntmps10
    go_wp2_with (go_at_call 23; refine K.out.mono ?_; rintro e w1 ⟨rfl, rfl⟩; rw [hq])
    go_ret
    exact ⟨rfl, rfl⟩
  | false =>
    clear hi
    go_enter Try.func10, Try.ntmps10
    go_wp2_with (go_at_call 23; refine K.out.mono ?_; rintro e w1 ⟨rfl, rfl⟩; rw [hq])
    go_ret
    exact ⟨rfl, rfl⟩
def zB : List UInt8 := List.replicate 16 0
theorem zB_lits : (bytesV zB).toArray = #[.int .u8 0, .int .u8 0, .int .u8 0, .int .u8 0, .int .u8 0, .int .u8 0, .int .u8 0, .int .u8 0, .int .u8 0, .int .u8 0, .int .u8 0, .int .u8 0, .int .u8 0, .int .u8 0, .int .u8 0, .int .u8 0] := by kernel_rfl
set_option maxRecDepth 100000 in
set_option maxHeartbeats 2000000 in
theorem BTrim_yes (g : Nat) (l : List UInt8) (i : Nat) (w : World) (h : CtAt w g l) (hi : i < 8) :
    Calls Try.prog 12 #[.pointer (some ⟨g, 0, none⟩), .int .i64 (i : Int)] w fun e w' => e = .returned (.int .i64 0) ∧ CtAt w' g (setB l i zB) ∧ Turned (fun k => k = g) w w' := by
  have K := Lib.hid (isBlock_any (i : Int) w)
  have hq : isB (i : Int) = true := by unfold isB; simp; omega
  have H := Lib.hid h
  have hst := stB_run h hi (b := zB) rfl
  rw [zB_lits] at hst
  have i0 : (0 : Int) ≤ (i : Int) := by omega
  have i8 : (i : Int) < 8 := by omega
  clear h
  go_enter Try.func12, Try.ntmps12
  go_wp2_with (go_at_call 23; refine K.out.mono ?_; rintro e w1 ⟨rfl, rfl⟩; rw [hq])
  go_ret
  exact ⟨rfl, H.out.put (setB_length H.out.len hi rfl), turned_row _ _ _⟩
theorem BTrim_no (g : Nat) (i : Int) (w : World) (hq : isB i = false) :
    Calls Try.prog 12 #[.pointer (some ⟨g, 0, none⟩), .int .i64 i] w fun e w' => e = .returned (.int .i64 1) ∧ w = w' := by
  have K := Lib.hid (isBlock_any i w)
  go_enter Try.func12, Try.ntmps12
  go_wp2_with (go_at_call 23; refine K.out.mono ?_; rintro e w1 ⟨rfl, rfl⟩; rw [hq])
  go_ret
  exact ⟨rfl, rfl⟩
/-- Read: a row of its own with the block's bytes -/
theorem BRead_no (g : Nat) (i : Int) (w : World) (hq : isB i = false) :
    Calls Try.prog 15 #[.pointer (some ⟨g, 0, none⟩), .int .i64 i] w fun e w' => e = .returned (.tuple #[.slice none 0 0, .int .i64 1]) ∧ w = w' := by
  have K := Lib.hid (isBlock_any i w)
  go_enter Try.func15, Try.ntmps15
  go_wp2_with (go_at_call 23; refine K.out.mono ?_; rintro e w1 ⟨rfl, rfl⟩; rw [hq])
  go_ret2
  exact ⟨rfl, rfl⟩
theorem stB_new {b : List UInt8} (h16 : b.length = 16) (w : World) : (stB (.pointer (some ⟨w.heap.size, 0, none⟩)) (.agg (bytesV b).toArray)).run Try.prog (w.alloc (.cells (bytesV zB).toArray 24)) = .ok () (w.alloc (.cells (bytesV b).toArray 24)) :=
  run_storeAt_new w _ (bytesV zB).toArray (bytesV b).toArray (by rw [b16_size]; simp [bytes_length, h16]) (by simp [bytes_length, h16, zB]) (all_oneCell_toArray (bytes_one _))
theorem zb_run (w : World) : (zeroValue 24).run Try.prog w = .ok (.agg (bytesV zB).toArray) w := by kernel_rfl
set_option maxRecDepth 100000 in
set_option maxHeartbeats 2000000 in
theorem BRead_yes (g : Nat) (l : List UInt8) (i : Nat) (w : World) (h : CtAt w g l) (hi : i < 8) :
    Calls Try.prog 15 #[.pointer (some ⟨g, 0, none⟩), .int .i64 (i : Int)] w fun e w' => e = .returned (.tuple #[.slice (some ⟨w.heap.size, 0, none⟩) 16 16, .int .i64 0]) ∧ Seen w' (some ⟨w.heap.size, 0, none⟩) (bytesV (getB l i)) ∧ Below w.heap.size w w' := by
  have K := Lib.hid (isBlock_any (i : Int) w)
  have hq : isB (i : Int) = true := by unfold isB; simp; omega
  have h16 := getB_length h.len hi
  have hl := ldB_run (h.range hi) h16
  obtain ⟨b, hb⟩ : ∃ b, getB l i = b := ⟨_, rfl⟩
  rw [hb] at h16 hl ⊢
  have hst := stB_new h16 w
  have hz := zb_run
  have i0 : (0 : Int) ≤ (i : Int) := by omega
  have i8 : (i : Int) < 8 := by omega
  have H16 := Lib.hid h16
  clear h hb h16
  go_enter Try.func15, Try.ntmps15
  go_wp2_with (go_at_call 23; refine K.out.mono ?_; rintro e w1 ⟨rfl, rfl⟩; rw [hq])
  go_ret2
  exact ⟨rfl, by have := Seen.of_cells (heap_alloc_new w (.cells (bytesV b).toArray 24)); simpa using this, (Below.refl _ w).alloc (Nat.le_refl _) _⟩
end Go.Proofs.Yteebkolccbcehaa
