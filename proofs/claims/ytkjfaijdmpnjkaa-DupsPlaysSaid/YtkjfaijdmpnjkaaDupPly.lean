/-
  A table beside the document's list (PlayAt), and what each call does with the two. Conditions: what each names.
-/
import Derived.Test.YtkjfaijdmpnjkaaDupAwk
import Derived.Test.YtkjfaijdmpnjkaaDupRf3
import Derived.Test.YtkjfaijdmpnjkaaActs9
namespace Go.Proofs.Ytkjfaijdmpnjkaa
open Go.ChangeShapes Go.WideShapes Go.ChangeAt Go.RowKit Go.Maps Go.Shelf Go.Sort
set_option linter.unusedVariables false

/-- a table that has x (at the block of w's size), and a slice that reads as y -/
structure PlayAt (w wr : World) (x y : List Lst) (A : Option Addr) (m cp : Nat) : Prop where
  tab : TabIn w wr w.heap.size x
  list : ListAt wr A y
  len : y.length = m
  cap : m ≤ cp
  top : cp ≤ maxLen
theorem PlayAt.start (w : World) : PlayAt w (w.alloc (.cells #[.map none] 26)) [] [] none 0 0 := ⟨TabIn.start w, ListAt.nil _, rfl, Nat.le_refl _, Nat.zero_le _⟩
section
variable {w wr : World} {x y : List Lst} {A : Option Addr} {m cp : Nat}
theorem PlayAt.over (h : PlayAt w wr x y A m cp) {w' : World} (hb : Below wr.heap.size wr w') : PlayAt w w' x y A m cp := ⟨h.tab.over hb, h.list.below hb, h.len, h.cap, h.top⟩
theorem PlayAt.apart (h : PlayAt w wr x y A m cp) : ∀ g o, A = some ⟨g, o, none⟩ → ¬ g = w.heap.size := fun g o e hg => by
  obtain ⟨cs, fr, hh⟩ := h.list.kind g o e
  obtain ⟨mm, ht, _⟩ := h.tab.tab
  subst hg
  rw [ht] at hh
  injection hh with hh
  injection hh with _ hT
  exact absurd hT (by decide)
def PPutRet (w : World) (x y : List Lst) (A : Option Addr) (m cp : Nat) (c n e : Int) (wr : World) (en : Ending) (w' : World) : Prop :=
  en = .returned (.int .i64 (putA x c n e)) ∧ PlayAt w w' (putX x c n e) y A m cp ∧ Turned (fun k => k = w.heap.size) wr w'
theorem PlayAt.put (h : PlayAt w wr x y A m cp) (c n e : Int) (h1 : In64 c) :
    Calls Try.prog 8 #[.pointer (some ⟨w.heap.size, 0, none⟩), .int .i64 c, .int .i64 n, .int .i64 e] wr (PPutRet w x y A m cp c n e wr) := by
  refine (h.tab.put c n e h1.1 h1.2).mono ?_
  rintro en w' ⟨rfl, ht, hu⟩
  exact ⟨rfl, ⟨ht, h.list.turned hu h.apart, h.len, h.cap, h.top⟩, hu⟩
def PRPutRet (w : World) (x : List Lst) (c n e : Int) (wr : World) (en : Ending) (w' : World) : Prop :=
  ∃ A' m' cp', en = .returned (.tuple #[.slice A' m' cp', .int .i64 (putA x c n e)]) ∧ PlayAt w w' x (putX x c n e) A' m' cp' ∧ Below wr.heap.size wr w'
theorem PlayAt.rput (h : PlayAt w wr x x A m cp) (c n e : Int) :
    Calls Try.prog 7 #[.slice A m cp, .int .i64 c, .int .i64 n, .int .i64 e] wr (PRPutRet w x c n e wr) := by
  refine (RPut_any A m cp x c n e wr h.len (by have := h.tab.ok.len; have := h.len; omega) h.cap h.top h.list).mono ?_
  rintro en w' ⟨A', k, c', rfl, hl, hk, hc, hL, hb⟩
  exact ⟨A', k, c', rfl, ⟨h.tab.over hb, hL, hl, hk, hc⟩, hb⟩
theorem PlayAt.check (h : PlayAt w wr x y A m cp) (c n : Int) (h1 : In64 c) :
    Calls Try.prog 11 #[.pointer (some ⟨w.heap.size, 0, none⟩), .int .i64 c, .int .i64 n] wr fun en w' => en = .returned (.tuple #[.int .i64 (chkL x c n).1, .int .i64 (chkL x c n).2]) ∧ PlayAt w w' x y A m cp ∧ Below wr.heap.size wr w' := by
  refine (h.tab.check c n h1.1 h1.2).mono ?_
  rintro en w' ⟨rfl, _, hb⟩
  exact ⟨rfl, h.over hb, hb⟩
theorem PlayAt.rcheck (h : PlayAt w wr x x A m cp) (c n : Int) :
    Calls Try.prog 12 #[.slice A m cp, .int .i64 c, .int .i64 n] wr fun en w' => en = .returned (.tuple #[.int .i64 (chkL x c n).1, .int .i64 (chkL x c n).2]) ∧ PlayAt w w' x x A m cp ∧ Below wr.heap.size wr w' := by
  refine (RCheck_any A m cp x c n wr h.len (by have := h.tab.ok.len; have := h.len; omega) h.list).mono ?_
  rintro en w' ⟨rfl, hb⟩
  exact ⟨rfl, h.over hb, hb⟩
theorem PlayAt.clients (h : PlayAt w wr x y A m cp) :
    Calls Try.prog 13 #[.pointer (some ⟨w.heap.size, 0, none⟩)] wr (NumsRet (keysL x) wr) := by
  obtain ⟨mm, ht⟩ := h.tab.tab
  exact Clients_any _ mm x wr ht h.tab.ok.rise (by have := h.tab.ok.len; omega)
theorem PlayAt.bytes (h : PlayAt w wr x y A m cp) :
    Calls Try.prog 10 #[.pointer (some ⟨w.heap.size, 0, none⟩)] wr (OwnRet 5 (bytesV (bytesL x)) wr) := by
  obtain ⟨mm, ht⟩ := h.tab.tab
  exact Bytes_any _ mm x wr ht h.tab.ok
theorem PlayAt.rbytes (h : PlayAt w wr x x A m cp) :
    Calls Try.prog 15 #[.slice A m cp] wr (OwnRet 5 (bytesV (bytesL x)) wr) := RBytes_any A m cp x wr h.len h.list h.tab.ok
/-- another map with the same clients, laid into the table -/
theorem PlayAt.relaid (h : PlayAt w wr x y A m cp) {m' : Option Nat} (hm : MapT wr m' x) : PlayAt w (wr.setCell ⟨w.heap.size, 0, none⟩ (.map m')) x y A m cp ∧ Turned (fun k => k = w.heap.size) wr (wr.setCell ⟨w.heap.size, 0, none⟩ (.map m')) := by
  obtain ⟨mm, ht⟩ := h.tab.tab
  obtain ⟨h1, t⟩ := ht.set hm (hm.notCells ht.1)
  exact ⟨⟨⟨h.tab.below.trans (t.below (fun k e => by omega) h.tab.below.size), ⟨m', h1⟩, h.tab.ok, h.tab.lo⟩, h.list.turned t h.apart, h.len, h.cap, h.top⟩, t⟩
theorem PlayAt.cell (h : PlayAt w wr x y A m cp) : ∃ mm, wr.cell? ⟨w.heap.size, 0, none⟩ = some (.map mm) ∧ wr.frozen? ⟨w.heap.size, 0, none⟩ = false := by
  obtain ⟨mm, ht⟩ := h.tab.tab
  exact ⟨mm, row_cell ht.1 0, row_frozen ht.1 0⟩
end
theorem acts_heap (w : World) (a b c d : Int) : ∃ W, w.alloc (.cells #[.int .i64 a, .int .i64 b, .int .i64 c, .int .i64 d] 29) = W ∧ Below w.heap.size w W ∧ W.heap[w.heap.size]? = some (.cells #[.int .i64 a, .int .i64 b, .int .i64 c, .int .i64 d] 29 (0, 0)) :=
  ⟨_, rfl, below_alloc _ _, heap_alloc_new _ _⟩
theorem tab_heap (w : World) (m : Option Nat) : ∃ W, w.alloc (.cells #[.map m] 26) = W ∧ Below w.heap.size w W ∧ W.cell? ⟨w.heap.size, 0, none⟩ = some (.map m) :=
  ⟨_, rfl, below_alloc _ _, row_cell (heap_alloc_new w _) 0⟩
end Go.Proofs.Ytkjfaijdmpnjkaa
