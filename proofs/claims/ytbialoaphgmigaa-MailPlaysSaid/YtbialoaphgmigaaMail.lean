/-
  A box of letters in memory (IsB), and contracts of mail's has, Len, Post, of bytes.Clone. Conditions: what each names.
-/
import Derived.Test.YtbialoaphgmigaaLone
import Derived.Test.YtbialoaphgmigaaSame
import Derived.StillTailTactics
import Derived.BigQuiet
import Derived.BigRegion
import Derived.Deep.DeepCutAuto
import Derived.Deep.WholeRow
import Derived.Laws.Cover3
namespace Go.Proofs.Ytbialoaphgmigaa
open Go.ChangeShapes Go.WideShapes Go.ChangeAt Go.RowKit Go.Conc
set_option linter.unusedVariables false

/-- a box at g: its channels are c 0, c 1, c 2, each has room for so many, and holds q k -/
structure IsB (w : World) (g : Nat) (c : Nat → Nat) (room : Nat) (q : Nat → List Value) : Prop where
  row : w.heap[g]? = some (.cells #[.chan (some (c 0)), .chan (some (c 1)), .chan (some (c 2))] 49 (0, 0))
  ch : ∀ k, k < 3 → ∃ s r, w.heap[c k]? = some (.chan room (q k).toArray false s r false)
  ne : ∀ k j, k < 3 → j < 3 → c k = c j → k = j
/-- the box's channels -/
def Chans (c : Nat → Nat) (k : Nat) : Prop := ∃ j, j < 3 ∧ k = c j
theorem IsB.turned {w w' : World} {g room : Nat} {c : Nat → Nat} {q : Nat → List Value} {p : Nat → Prop} (h : IsB w g c room q) (ht : Turned p w w') (hg : ¬ p g) (hc : ∀ k, k < 3 → ¬ p (c k)) : IsB w' g c room q :=
  ⟨ht.heap h.row hg, fun k hk => by obtain ⟨s, r, h1⟩ := h.ch k hk; exact ⟨s, r, ht.heap h1 (hc k hk)⟩, h.ne⟩
theorem IsB.below {w w' : World} {g room : Nat} {c : Nat → Nat} {q : Nat → List Value} (h : IsB w g c room q) (hb : Below w.heap.size w w') : IsB w' g c room q :=
  h.turned (p := fun _ => False) (.of_below hb) (fun e => e) (fun _ _ e => e)
theorem IsB.lt {w : World} {g room : Nat} {c : Nat → Nat} {q : Nat → List Value} (h : IsB w g c room q) : g < w.heap.size := (Array.getElem?_eq_some_iff.1 h.row).1
theorem IsB.clt {w : World} {g room : Nat} {c : Nat → Nat} {q : Nat → List Value} (h : IsB w g c room q) {k : Nat} (hk : k < 3) : c k < w.heap.size := by
  obtain ⟨s, r, h1⟩ := h.ch k hk
  exact (Array.getElem?_eq_some_iff.1 h1).1
theorem IsB.gne {w : World} {g room : Nat} {c : Nat → Nat} {q : Nat → List Value} (h : IsB w g c room q) {k : Nat} (hk : k < 3) : c k ≠ g := by
  obtain ⟨s, r, h1⟩ := h.ch k hk
  intro e
  rw [e, h.row] at h1
  cases h1
theorem IsB.cell {w : World} {g room : Nat} {c : Nat → Nat} {q : Nat → List Value} (h : IsB w g c room q) {k : Nat} (hk : k < 3) : w.cell? ⟨g, k, none⟩ = some (.chan (some (c k))) := by
  rw [row_cell h.row]
  match k, hk with
  | 0, _ => rfl
  | 1, _ => rfl
  | 2, _ => rfl
/-- one of its channels turned -/
theorem IsB.set {w : World} {g room : Nat} {c : Nat → Nat} {q : Nat → List Value} (h : IsB w g c room q) {k : Nat} (hk : k < 3) (xs : List Value) (s r : Nat) : IsB (w.setChan (c k) room xs.toArray false s r false) g c room (fun j => if j = k then xs else q j) := by
  obtain ⟨s0, r0, h0⟩ := h.ch k hk
  refine ⟨?_, fun j hj => ?_, h.ne⟩
  · rw [setChan_else (h.gne hk)]; exact h.row
  · by_cases e : j = k
    · subst e
      exact ⟨s, r, by rw [if_pos rfl]; exact setChan_at h0⟩
    · obtain ⟨s1, r1, h1⟩ := h.ch j hj
      refine ⟨s1, r1, ?_⟩
      rw [if_neg e, setChan_else (fun e' => e (h.ne _ _ hj hk e'.symm))]
      exact h1
theorem IsB.same {w : World} {g room : Nat} {c : Nat → Nat} {q q' : Nat → List Value} (h : IsB w g c room q) (e : ∀ k, k < 3 → q' k = q k) : IsB w g c room q' :=
  ⟨h.row, fun k hk => by rw [e k hk]; exact h.ch k hk, h.ne⟩

def zeroL : Value := .agg #[.int .i64 0, .int .i64 0, .slice none 0 0]
theorem letter_info : ∃ i, Try.prog.info? 29 = some i ∧ i.zero = some zeroL := by
  have h : (Try.prog.info? 29).map (·.zero) = some (some zeroL) := by kernel_rfl
  obtain ⟨i, hi, hb⟩ := Option.map_eq_some_iff.1 h
  exact ⟨i, hi, hb⟩
theorem letter_size : (Try.prog.info? 29).map (·.size) = some 3 := by kernel_rfl

theorem has_yes (k : Int) (w : World) (h0 : 0 ≤ k) (h1 : k < 3) : Calls Try.prog 16 #[.int .i64 k] w fun e w' => e = .returned (.bool true) ∧ w = w' := by
  go_enter Try.func16, Try.ntmps16
  go_wp2
  go_ret
  exact ⟨rfl, rfl⟩
theorem has_no (k : Int) (w : World) (h : ¬ (0 ≤ k ∧ k < 3)) : Calls Try.prog 16 #[.int .i64 k] w fun e w' => e = .returned (.bool false) ∧ w = w' := by
  by_cases h0 : 0 ≤ k
  · have h1 : ¬ k < 3 := by omega
    clear h
    go_enter Try.func16, Try.ntmps16
    go_wp2
    go_ret
    exact ⟨rfl, rfl⟩
  · clear h
    go_enter Try.func16, Try.ntmps16
    go_wp2
    go_ret
    exact ⟨rfl, rfl⟩

theorem eql_nil (A : Option Addr) (n c : Nat) (w : World) : (binOp .eql 27 (.slice A n c) (.slice none 0 0)).run Try.prog w = .ok (.bool A.isNone) w := by
  simp only [binOp]
  simp [run_equal_slice_nil w 27 5 A n c Try.underlying27]

set_option maxRecDepth 100000 in
theorem BClone_any (A : Option Addr) (n c : Nat) (bs : List UInt8) (w : World) (hn : bs.length = n) (hl : n ≤ 10000) (h : Seen w A (bytesV bs)) :
    Calls Try.prog 17 #[.slice A n c] w fun e w' => ∃ A' c', e = .returned (.slice A' n c') ∧ w'.ownsRow w.heap.size 5 1 (.slice A' n c') n (bytesV bs) ∧ Below w.heap.size w w' := by
  have H := Lib.hid h; have Hn := Lib.hid hn
  cases A with
  | none =>
    obtain rfl : bs = [] := by
      rcases h with h | ⟨g, o, hA, _⟩
      · simpa [bytesV] using h
      · cases hA
    simp at hn
    subst hn
    clear h
    have he := eql_nil none 0 c
    simp only [Option.isNone_none] at he
    go_enter Try.func17, Try.ntmps17
    go_wp2
    go_ret
    exact ⟨none, 0, rfl, World.ownsRow_nil _ _ _ _, Below.refl _ _⟩
  | some ad =>
    clear h hn
    have he := eql_nil (some ad) n c
    simp only [Option.isNone_some] at he
    have hown0 : (w.alloc (.cells #[] 5)).ownsRow w.heap.size 5 1 (.slice (some ⟨w.heap.size, 0, none⟩) 0 0) 0 [] := World.ownsRow_lit w #[] 0 (Nat.le_refl _) (by unfold maxLen; omega) rfl
    have hb0 : Below w.heap.size w (w.alloc (.cells #[] 5)) := (Below.refl _ _).alloc (Nat.le_refl _) _
    have H0 := Lib.hid hown0; have Hb0 := Lib.hid hb0; clear hown0 hb0
    go_enter Try.func17, Try.ntmps17
    go_wp2_with (at_builtin; refine wpList_app rfl (.tmp 5) (.tmp 6) _ rfl 5 _ 1 Try.underlying27 u8_info rfl w.heap.size (some ⟨w.heap.size, 0, none⟩) 0 0 [] rfl H0.out (some ad) n c (bytesV bs) rfl (by rw [bytes_length]; exact Hn.out) (H.out.below Hb0.out) (bytes_one _) (by unfold maxLen; omega) (by omega) (by simp) ?_; intro A4 c4 w4 hown4 hb4; simp only [Nat.zero_add, List.nil_append] at hown4; have Hown4 := Lib.hid hown4; have Hb4 := Lib.hid (Hb0.out.trans hb4); clear hown4 hb4; simp only [Nat.zero_add])
    go_ret
    exact ⟨A4, c4, rfl, Hown4.out, Hb4.out⟩

/-! ### Len -/
theorem len_chan {w : World} {c room s r : Nat} {buf : List Value} (ty : TypeId) (h : w.heap[c]? = some (.chan room buf.toArray false s r false)) :
    (Builtin.len_ #[46] ty #[.chan (some c)]).run Try.prog w = .ok (.int .i64 (buf.length : Int)) w := by
  simp [Builtin.len_, run_underlying Try.underlying46, run_getObj_chan _ _ h, goInt]
theorem Len_no (g room : Nat) (c : Nat → Nat) (q : Nat → List Value) (k : Int) (w : World) (hk : ¬ (0 ≤ k ∧ k < 3)) :
    Calls Try.prog 15 #[.pointer (some ⟨g, 0, none⟩), .int .i64 k] w fun e w' => e = .returned (.int .i64 0) ∧ w = w' := by
  have Hk := Lib.hid hk; clear hk
  go_enter Try.func15, Try.ntmps15
  go_wp2_with (go_at_call 16; refine (has_no k w Hk.out).mono ?_; rintro e w1 ⟨rfl, rfl⟩)
  go_ret
  exact ⟨rfl, rfl⟩
set_option maxRecDepth 100000 in
theorem Len_yes (g room : Nat) (c : Nat → Nat) (q : Nat → List Value) (k : Nat) (w : World) (h : IsB w g c room q) (hk : k < 3) :
    Calls Try.prog 15 #[.pointer (some ⟨g, 0, none⟩), .int .i64 (k : Int)] w fun e w' => e = .returned (.int .i64 ((q k).length : Int)) ∧ w = w' := by
  obtain ⟨s, r, hc⟩ := h.ch k hk
  have hlen := fun ty => len_chan ty hc
  have hcell := h.cell hk
  have k0 : (0 : Int) ≤ (k : Int) := by omega
  have k1 : (k : Int) < 3 := by omega
  have H := Lib.hid h
  clear h hc
  go_enter Try.func15, Try.ntmps15
  go_wp2_with (go_at_call 16; refine (has_yes (k : Int) w k0 k1).mono ?_; rintro e w1 ⟨rfl, rfl⟩)
  go_ret
  exact ⟨rfl, rfl⟩
end Go.Proofs.Ytbialoaphgmigaa
