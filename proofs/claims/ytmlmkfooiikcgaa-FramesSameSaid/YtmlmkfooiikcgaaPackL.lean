/-
  Words of the laws on lists of fields: their bytes, what a Writer and a list beside it hold, what reading them gives.
-/
import Derived.Test.YtmlmkfooiikcgaaPackF
import Derived.Test.YtmlmkfooiikcgaaFields
namespace Go.Proofs.Ytmlmkfooiikcgaa
open Go.ChangeShapes Go.WideShapes Go.ChangeAt Go.RowKit
set_option linter.unusedVariables false

/-- a field's bytes -/
def encF (f : Fld) : List UInt8 := if f.t = true then numB f.m ++ f.bs else numB f.n.toNat
def encL (fs : List Fld) : List UInt8 := fs.flatMap encF
theorem encL_snoc (fs : List Fld) (f : Fld) : encL (fs ++ [f]) = encL fs ++ encF f := by simp [encL]
theorem encL_cons (fs : List Fld) (f : Fld) : encL (f :: fs) = encF f ++ encL fs := by simp [encL]
theorem encF_text {f : Fld} (h : f.t = true) : encF f = numB f.m ++ f.bs := by unfold encF; rw [if_pos h]
theorem encF_num {f : Fld} (h : f.t = false) : encF f = numB f.n.toNat := by unfold encF; rw [if_neg (by simp [h])]
theorem encF_len {f : Fld} {q : Nat} (h1 : f.bs.length = f.m) (h2 : f.m ≤ q) (hq : q ≤ 10000) (h3 : f.n ≤ 9223372036854775807) : (encF f).length ≤ q + 9 := by
  unfold encF
  split
  · have := numB_len9 (n := f.m) (by omega)
    rw [List.length_append]; omega
  · have := numB_len9 (n := f.n.toNat) (by omega)
    omega

/-- what the Writer's methods leave -/
theorem keep {wr w' : World} {B g : Nat} {r : Option Nat} {ws : List UInt8} (h : IsW wr B g r ws) (t : Turned (fun k => k = g ∨ r = some k) wr w') : Below B wr w' := by
  refine t.below (fun k hk => ?_) (by have := h.1; have := h.lt.1; omega)
  rcases hk with rfl | hk
  · exact h.1
  · exact (h.lt.2 k hk).1

/-- a Writer at g and a list beside it, both with ws; W: the world when the law began -/
structure Both (W wr : World) (B g : Nat) (A : Option Addr) (n c : Nat) (r : Option Nat) (ws : List UInt8) : Prop where
  w : IsW wr B g r ws
  own : wr.ownsRow B 5 1 (.slice A n c) n (bytesV ws)
  len : ws.length = n
  far : ∀ j, (Value.slice A n c).ownBlock = some j → j ≠ g ∧ r ≠ some j
  below : Below B W wr

theorem Both.keep {W wr w' : World} {B g : Nat} {A : Option Addr} {n c : Nat} {r : Option Nat} {ws : List UInt8} (h : Both W wr B g A n c r ws) (t : Turned (fun k => k = g ∨ r = some k) wr w') : Below B W w' := by
  refine h.below.trans (t.below (fun k hk => ?_) (by have := h.w.1; have := h.w.lt.1; omega))
  rcases hk with rfl | hk
  · exact h.w.1
  · exact (h.w.lt.2 k hk).1
theorem GrewW.turned {w w' : World} {B g : Nat} {r : Option Nat} {xs : List UInt8} (h : GrewW B g r xs w w') : Turned (fun k => k = g ∨ r = some k) w w' := h.choose_spec.2.2
theorem Both.size {W wr : World} {B g : Nat} {A : Option Addr} {n c : Nat} {r : Option Nat} {ws : List UInt8} (h : Both W wr B g A n c r ws) : B ≤ wr.heap.size := by have := h.w.1; have := h.w.lt.1; omega

/-- behind the Writer's call and a call that lays new memory -/
theorem Both.mid {W wr w1 w2 : World} {B g : Nat} {A : Option Addr} {n c : Nat} {r : Option Nat} {ws x : List UInt8} (h : Both W wr B g A n c r ws) (hg : GrewW B g r (ws ++ x) wr w1) (hb : Below w1.heap.size w1 w2) :
    w2.ownsRow B 5 1 (.slice A n c) n (bytesV ws) ∧ Below B W w2 ∧ B ≤ w2.heap.size ∧ ∃ r1, IsW w2 B g r1 (ws ++ x) ∧ ∀ j, (Value.slice A n c).ownBlock = some j → j ≠ g ∧ r1 ≠ some j := by
  have hb1 := GrewW.below h.w hg
  obtain ⟨r1, h1, h2, h3⟩ := hg
  have ho1 := h3.own h.own fun k hk => by
    have := h.far k hk
    rintro (e | e)
    · exact this.1 e
    · exact this.2 e
  have hB := h.w.1
  have hlt := h.w.lt.1
  have hb2 := hb.mono (show B ≤ w1.heap.size by have := h3.size; omega)
  refine ⟨own_below ho1 hb, (h.below.trans hb1).trans hb2, by have := h3.size; have := hb.size; omega, r1, h1.below hb, fun j hj => ⟨(h.far j hj).1, fun e => ?_⟩⟩
  rcases h2 j e with e1 | e1
  · exact (h.far j hj).2 e1
  · have := (h.own.lt j hj).2
    omega
/-- behind the append -/
theorem Both.done {W w2 w3 : World} {B g : Nat} {A A3 : Option Addr} {n c n3 c3 : Nat} {r1 : Option Nat} {ws x : List UInt8} (h1 : IsW w2 B g r1 (ws ++ x)) (hf : ∀ j, (Value.slice A n c).ownBlock = some j → j ≠ g ∧ r1 ≠ some j) (ho : w2.ownsRow B 5 1 (.slice A n c) n (bytesV ws)) (hb : Below B W w2)
    (hg : w2.grownBy w3 (Value.slice A n c).ownBlock) (hr : ∀ k, (Value.slice A3 n3 c3).ownBlock = some k → (Value.slice A n c).ownBlock = some k ∨ k = w2.heap.size) (ho3 : w3.ownsRow B 5 1 (.slice A3 n3 c3) n3 (bytesV ws ++ bytesV x)) (hl : (ws ++ x).length = n3) :
    Both W w3 B g A3 n3 c3 r1 (ws ++ x) := by
  have t := Turned.of_grown hg (p := fun k => (Value.slice A n c).ownBlock = some k) fun k e => e
  have hlt := h1.lt
  refine ⟨h1.turned t (fun e => (hf g e).1 rfl) (fun k hk e => (hf k e).2 hk), by rw [bytes_append]; exact ho3, hl, fun j hj => ?_, hb.trans (t.below (fun k hk => (ho.lt k hk).1) (by have := h1.1; omega))⟩
  rcases hr j hj with e | e
  · exact hf j e
  · exact ⟨by omega, fun e1 => by have := (hlt.2 j e1).2; omega⟩

/-- a text that was written, read -/
theorem rd_text {bs rest : List UInt8} {m : Nat} {most : Int} (hl : bs.length = m) (hm : (m : Int) ≤ most) (h63 : m < 9223372036854775808) : rdText (numB m ++ bs ++ rest) 0 most = (bs, rest, 0) := by
  have h := numR_numB h63 (bs ++ rest)
  rw [← List.append_assoc] at h
  unfold rdText rdNum
  rw [h]
  have e1 : ¬ most < (m : Int) := by omega
  have e2 : (numB m ++ bs ++ rest).drop (numB m).length = bs ++ rest := by rw [List.append_assoc, List.drop_left]
  simp only [ne_eq, not_true_eq_false, if_false, if_neg e1, e2]
  rw [if_neg (by rw [List.length_append]; omega), ← hl, List.take_left, List.drop_left]
theorem rd_num {rest : List UInt8} {m : Nat} {most : Int} (hm : (m : Int) ≤ most) (h63 : m < 9223372036854775808) : rdNum (numB m ++ rest) 0 most = (m, rest, 0) := by
  have h := numR_numB h63 rest
  unfold rdNum
  rw [h]
  have e1 : ¬ most < (m : Int) := by omega
  simp only [ne_eq, not_true_eq_false, if_false, if_neg e1]
  rw [List.drop_left]
end Go.Proofs.Ytmlmkfooiikcgaa
