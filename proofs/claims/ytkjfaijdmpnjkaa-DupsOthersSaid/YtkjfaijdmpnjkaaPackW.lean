/-
  Contracts of pack's Writer: Num, Text, Bytes; and of copyOf.
-/
import Derived.Test.YtkjfaijdmpnjkaaKept
import Derived.Test.YtkjfaijdmpnjkaaRef01
import Derived.Test.YtkjfaijdmpnjkaaPackMath
namespace Go.Proofs.Ytkjfaijdmpnjkaa
open Go.ChangeShapes Go.WideShapes Go.ChangeAt Go.RowKit
set_option linter.unusedVariables false

/-- a Writer at g, whose fields are xs, in a row r of its own -/
def IsW (w : World) (B g : Nat) (r : Option Nat) (xs : List UInt8) : Prop :=
  B ≤ g ∧ ∃ A n c, w.heap[g]? = some (.cells #[.slice A n c] 63 (0, 0)) ∧ w.ownsRow B 5 1 (.slice A n c) n (bytesV xs) ∧ xs.length = n ∧ (Value.slice A n c).ownBlock = r ∧ r ≠ some g
/-- only the Writer and its row may have turned; its row is the old one, or new -/
def GrewW (B g : Nat) (r : Option Nat) (xs : List UInt8) (w w' : World) : Prop :=
  ∃ r', IsW w' B g r' xs ∧ (∀ k, r' = some k → r = some k ∨ w.heap.size ≤ k) ∧ Turned (fun k => k = g ∨ r = some k) w w'

theorem GrewW.refl {w : World} {B g : Nat} {r : Option Nat} {xs : List UInt8} (h : IsW w B g r xs) : GrewW B g r xs w w := ⟨r, h, fun k hk => .inl hk, .refl _ _⟩
theorem GrewW.trans {w w1 w2 : World} {B g : Nat} {r : Option Nat} {xs ys : List UInt8} (h : GrewW B g r xs w w1) (k : ∀ r1, IsW w1 B g r1 xs → GrewW B g r1 ys w1 w2) : GrewW B g r ys w w2 := by
  obtain ⟨r1, h1, h2, h3⟩ := h
  obtain ⟨r2, k1, k2, k3⟩ := k r1 h1
  refine ⟨r2, k1, fun i hi => ?_, h3.trans k3 (fun _ e => e) fun i hi e => ?_⟩
  · rcases k2 i hi with e | e
    · exact h2 i e
    · exact .inr (Nat.le_trans h3.size e)
  · rcases e with e | e
    · exact .inl e
    · rcases h2 i e with e | e
      · exact .inr e
      · omega
theorem IsW.lt {w : World} {B g : Nat} {r : Option Nat} {xs : List UInt8} (h : IsW w B g r xs) : g < w.heap.size ∧ ∀ k, r = some k → B ≤ k ∧ k < w.heap.size := by
  obtain ⟨hB, A, n, c, hh, hown, hx, hr, hne⟩ := h
  refine ⟨(Array.getElem?_eq_some_iff.1 hh).1, fun k hk => ?_⟩
  subst hr
  exact hown.lt k hk
theorem IsW.turned {p : Nat → Prop} {w w' : World} {B g : Nat} {r : Option Nat} {xs : List UInt8} (h : IsW w B g r xs) (ht : Turned p w w') (hg : ¬ p g) (hr : ∀ k, r = some k → ¬ p k) : IsW w' B g r xs := by
  obtain ⟨hB, A, n, c, hh, hown, hx, hr0, hne⟩ := h
  subst hr0
  exact ⟨hB, A, n, c, ht.heap hh hg, ht.own hown hr, hx, rfl, hne⟩
/-- an append to the Writer's fields, stored back -/
theorem GrewW.app {w w0 w1 : World} {B g : Nat} {ys : List UInt8} {A A' : Option Addr} {n c n' c' : Nat} (hB : B ≤ g) (hh : w.heap[g]? = some (.cells #[.slice A n c] 63 (0, 0))) (hne : (Value.slice A n c).ownBlock ≠ some g)
    (h0 : Below w.heap.size w w0) (hg : w0.grownBy w1 (Value.slice A n c).ownBlock) (hr : ∀ k, (Value.slice A' n' c').ownBlock = some k → (Value.slice A n c).ownBlock = some k ∨ k = w0.heap.size)
    (hown : w1.ownsRow B 5 1 (.slice A' n' c') n' (bytesV ys)) (hl : ys.length = n') : GrewW B g (Value.slice A n c).ownBlock ys w (w1.setCell ⟨g, 0, none⟩ (.slice A' n' c')) := by
  have hlt := (Array.getElem?_eq_some_iff.1 hh).1
  have t1 : Turned (fun k => k = g ∨ (Value.slice A n c).ownBlock = some k) w w1 := (Turned.of_below h0 (p := fun k => k = g ∨ (Value.slice A n c).ownBlock = some k)).trans (Turned.of_grown hg (p := fun k => (Value.slice A n c).ownBlock = some k) fun k hk => hk) (fun _ e => e) (fun _ _ e => .inr e)
  have hr' : ∀ k, (Value.slice A' n' c').ownBlock = some k → (Value.slice A n c).ownBlock = some k ∨ w.heap.size ≤ k := fun k hk => by
    rcases hr k hk with e | e
    · exact .inl e
    · exact .inr (by have := h0.size; omega)
  have hne' : (Value.slice A' n' c').ownBlock ≠ some g := fun e => by
    rcases hr' g e with e | e
    · exact hne e
    · omega
  have hw1 : w1.heap[g]? = some (.cells #[.slice A n c] 63 (0, 0)) := by
    rw [hg.block g (Nat.lt_of_lt_of_le hlt h0.size) (fun e => hne e.symm), h0.block g hlt]
    exact hh
  refine ⟨_, ⟨hB, A', n', c', ?_, ?_, hl, rfl, hne'⟩, hr', t1.setCell (fun _ => .inl rfl) _⟩
  · rw [row_set hw1]; rfl
  · exact (Turned.setCell (Turned.refl (fun k => k = g) w1) (b := ⟨g, 0, none⟩) (fun _ => rfl) _).own hown fun k hk e => by subst e; exact hne' hk

theorem or_more (m : Nat) : bits .or .u8 ((m : Int) % 256) 128 = ((m % 128 + 128 : Nat) : Int) := by
  have h : ∀ x : Fin 256, bits .or .u8 (x.1 : Int) 128 = ((x.1 % 128 + 128 : Nat) : Int) := by decide +kernel
  have := h ⟨m % 256, by omega⟩
  simp only at this
  rw [show ((m : Int) % 256) = ((m % 256 : Nat) : Int) by omega, this]
  congr 2
  omega
theorem u8_toV {m : Nat} (h : m < 256) : byteV (UInt8.ofNat m) = .int .u8 (m : Int) := by simp [byteV]; omega
theorem bytes_snoc {xs : List UInt8} {m : Nat} (h : m < 256) : bytesV xs ++ [.int .u8 (m : Int)] = bytesV (xs ++ [UInt8.ofNat m]) := by
  rw [bytes_append, show bytesV [UInt8.ofNat m] = [byteV (UInt8.ofNat m)] from rfl, u8_toV h]

theorem app_heap {w w4 : World} {g : Nat} {r : Option Nat} {cs : Array Value} {t : TypeId} {o : Obj} {u : Value} (hh : w.heap[g]? = some (.cells cs t (0, 0))) (hr : u.ownBlock = r) (hne : r ≠ some g) (hg : (w.alloc o).grownBy w4 u.ownBlock) : w4.heap[g]? = some (.cells cs t (0, 0)) := by
  have hlt := (Array.getElem?_eq_some_iff.1 hh).1
  rw [hg.block g (by simp; omega) (fun e => hne (by rw [← hr, ← e])), Below.heap_alloc _ _ _ hlt, hh]

theorem GrewW.step {w w1 w2 : World} {B g : Nat} {r r1 : Option Nat} {xs ys : List UInt8} (h1 : IsW w1 B g r1 xs) (h2 : ∀ k, r1 = some k → r = some k ∨ w.heap.size ≤ k) (h3 : Turned (fun k => k = g ∨ r = some k) w w1) (k : GrewW B g r1 ys w1 w2) : GrewW B g r ys w w2 := by
  obtain ⟨r2, k1, k2, k3⟩ := k
  refine ⟨r2, k1, fun i hi => ?_, h3.trans k3 (fun _ e => e) fun i hi e => ?_⟩
  · rcases k2 i hi with e | e
    · exact h2 i e
    · exact .inr (Nat.le_trans h3.size e)
  · rcases e with e | e
    · exact .inl e
    · rcases h2 i e with e | e
      · exact .inr e
      · omega
theorem grew_num {w wr w4 : World} {B g z : Nat} {r r1 : Option Nat} {xs : List UInt8} {A A4 : Option Addr} {n1 c c4 : Nat} {o : Obj} (hB : B ≤ g) (hz : z < 256) (h1 : IsW wr B g r1 xs) (h2 : ∀ k, r1 = some k → r = some k ∨ w.heap.size ≤ k) (h3 : Turned (fun k => k = g ∨ r = some k) w wr)
    (hh : wr.heap[g]? = some (.cells #[.slice A n1 c] 63 (0, 0))) (hro : (Value.slice A n1 c).ownBlock = r1) (hne : r1 ≠ some g) (hg4 : (wr.alloc o).grownBy w4 (Value.slice A n1 c).ownBlock)
    (hr4 : ∀ k, (Value.slice A4 (n1 + 1) c4).ownBlock = some k → (Value.slice A n1 c).ownBlock = some k ∨ k = (wr.alloc o).heap.size) (hown4 : w4.ownsRow B 5 1 (.slice A4 (n1 + 1) c4) (n1 + 1) (bytesV xs ++ [.int .u8 (z : Int)])) (hxl : xs.length = n1) :
    GrewW B g r (xs ++ [UInt8.ofNat z]) w (w4.setCell ⟨g, 0, none⟩ (.slice A4 (n1 + 1) c4)) := by
  subst hro
  rw [bytes_snoc hz] at hown4
  exact GrewW.step h1 h2 h3 (GrewW.app hB hh hne ((Below.refl _ _).alloc (Nat.le_refl _) o) hg4 hr4 hown4 (by simp [hxl]))

theorem app_heap0 {w w4 : World} {g : Nat} {r : Option Nat} {cs : Array Value} {t : TypeId} {u : Value} (hh : w.heap[g]? = some (.cells cs t (0, 0))) (hr : u.ownBlock = r) (hne : r ≠ some g) (hg : w.grownBy w4 u.ownBlock) : w4.heap[g]? = some (.cells cs t (0, 0)) := by
  rw [hg.block g (Array.getElem?_eq_some_iff.1 hh).1 (fun e => hne (by rw [← hr, ← e])), hh]

theorem apart_of {g : Nat} {r : Option Nat} {A : Option Addr} (h : ∀ k o, A = some ⟨k, o, none⟩ → k ≠ g ∧ r ≠ some k) : ∀ k o, A = some ⟨k, o, none⟩ → ¬ (k = g ∨ r = some k) := fun k o e => by
  have h1 := h k o e
  rintro (e1 | e1)
  · exact h1.1 e1
  · exact h1.2 e1

/-- the loop's relation: what is written, and what is still to be -/
def NumAt (B g : Nat) (r : Option Nat) (xs : List UInt8) (m : Nat) (w : World) (k : Nat) (wr : World) : Prop :=
  k ≤ m ∧ ∃ ys, ys ++ numB k = numB m ∧ GrewW B g r (xs ++ ys) w wr

set_option maxRecDepth 100000 in
theorem WNum_any (B g : Nat) (r : Option Nat) (xs : List UInt8) (n : Int) (w : World) (hw : IsW w B g r xs) (hx : xs.length ≤ 1000000) (h1 : -9223372036854775808 ≤ n) (h2 : n ≤ 9223372036854775807) :
    Calls Try.prog 22 #[.pointer (some ⟨g, 0, none⟩), .int .i64 n] w fun e w' => e = .returned (.tuple #[]) ∧ GrewW B g r (xs ++ numB n.toNat) w w' := by
  obtain ⟨m, hm⟩ : ∃ m : Nat, n.toNat = m := ⟨_, rfl⟩
  have hm2 : m < 9223372036854775808 := by omega
  have hl9 := numB_len9 hm2
  have start : NumAt B g r xs m w m w := ⟨Nat.le_refl _, [], rfl, by simpa using GrewW.refl hw⟩
  have Start := Lib.hid start; clear start hw
  have Hl9 := Lib.hid hl9; clear hl9
  rw [hm]
  have Hm := Lib.hid hm; clear hm
  go_enter Try.func22, Try.ntmps22
  go_wp2
  all_goals
    go_loopw [1] (fun i wr => ∃ k : Nat, i = .int .i64 k ∧ NumAt B g r xs m w k wr) (fun i _ => (intOf i).toNat)
    case atStart => exact ⟨m, by have := Hm.out; congr 1; omega, Start.out⟩
    case round =>
      obtain ⟨k, rfl, hk, ys, hys, r1, hr1, hf1, ht1⟩ := hrel
      have Hf1 := Lib.hid hf1; clear hf1
      have Ht1 := Lib.hid ht1; clear ht1
      have hyl : ys.length + (numB k).length ≤ 9 := by have := Hl9.out; rw [← hys, List.length_append] at this; exact this
      have hkl := numB_ne k
      have Hys := Lib.hid hys; clear hys
      have Hr1 := Lib.hid hr1
      obtain ⟨hB, A, n1, c, hh, hown, hxl, hro, hne⟩ := hr1
      have hc : wr.cell? ⟨g, 0, none⟩ = some (.slice A n1 c) := row_cell hh 0
      have hz := row_frozen hh 0
      have hxl2 : (xs ++ ys).length = xs.length + ys.length := List.length_append
      have n1b : n1 ≤ 1000009 := by omega
      have Hh := Lib.hid hh; clear hh
      have Hown := Lib.hid hown; clear hown
      have Hro := Lib.hid hro; clear hro
      have Hne := Lib.hid hne; clear hne
      have Hxl := Lib.hid hxl; clear hxl
      clear hxl2 hyl
      have hgs := (Array.getElem?_eq_some_iff.1 Hh.out).1
      by_cases hlt : k < 128
      · have hmod : (k : Int) % 256 = (k : Int) := by omega
        go_wp2_with (at_builtin; refine wpList_app2 rfl (.tmp 26) (.tmp 29) _ rfl 5 _ 1 Try.underlying36 u8_info rfl B A n1 c (bytesV (xs ++ ys)) rfl (Hown.out.alloc _) (some ⟨wr.heap.size, 0, none⟩) 1 1 [.int .u8 (k : Int)] rfl rfl (Seen.of_cells (heap_alloc_new wr _)) (by simp [Value.oneCell']) (by unfold maxLen; omega) (by omega) (by simp; omega) ?_; intro A4 c4 w4 hown4 hg4 hr4; have Hown4 := Lib.hid hown4; have Hg4 := Lib.hid hg4; have Hr4 := Lib.hid hr4; have hh4 := Lib.hid (app_heap Hh.out Hro.out Hne.out hg4); have hc4 : w4.cell? ⟨g, 0, none⟩ = some (.slice A n1 c) := row_cell hh4.out 0; have hz4 := row_frozen hh4.out 0; clear hown4 hg4 hr4)
        go_end0
        refine ⟨rfl, ?_⟩
        rw [← Hys.out, numB_lt hlt, ← List.append_assoc]
        exact grew_num hB (by omega) Hr1.out Hf1.out Ht1.out Hh.out Hro.out Hne.out Hg4.out Hr4.out Hown4.out Hxl.out
      · have hor := or_more k
        have hzb : k % 128 + 128 < 256 := by omega
        obtain ⟨z, hze⟩ : ∃ z, k % 128 + 128 = z := ⟨_, rfl⟩
        rw [hze] at hor hzb
        have Hze := Lib.hid hze; clear hze
        go_wp2_with (at_builtin; refine wpList_app2 rfl (.tmp 14) (.tmp 18) _ rfl 5 _ 1 Try.underlying36 u8_info rfl B A n1 c (bytesV (xs ++ ys)) rfl (Hown.out.alloc _) (some ⟨wr.heap.size, 0, none⟩) 1 1 [.int .u8 (z : Int)] rfl rfl (Seen.of_cells (heap_alloc_new wr _)) (by simp [Value.oneCell']) (by unfold maxLen; omega) (by omega) (by simp; omega) ?_; intro A4 c4 w4 hown4 hg4 hr4; have Hown4 := Lib.hid hown4; have Hg4 := Lib.hid hg4; have Hr4 := Lib.hid hr4; have hh4 := Lib.hid (app_heap Hh.out Hro.out Hne.out hg4); have hc4 : w4.cell? ⟨g, 0, none⟩ = some (.slice A n1 c) := row_cell hh4.out 0; have hz4 := row_frozen hh4.out 0; clear hown4 hg4 hr4)
        go_roundw
        case rel =>
          refine ⟨k / 128, by go_num, by omega, ys ++ [UInt8.ofNat z], ?_, ?_⟩
          · rw [List.append_assoc, ← Hys.out, numB_ge hlt, Hze.out]; rfl
          · rw [← List.append_assoc]
            exact grew_num hB (by omega) Hr1.out Hf1.out Ht1.out Hh.out Hro.out Hne.out Hg4.out Hr4.out Hown4.out Hxl.out
        case measure => simp [intOf]; omega

theorem copyOf_any (A : Option Addr) (n c : Nat) (bs : List UInt8) (w : World) (hn : bs.length = n) (hl : n ≤ 2000000) (h : Seen w A (bytesV bs)) :
    Calls Try.prog 29 #[.slice A n c] w (OwnRet 5 (bytesV bs) w) := by
  have Hh := Lib.hid h; clear h
  have Hn := Lib.hid hn; clear hn
  go_enter Try.func29, Try.ntmps29
  go_wp2_with (at_builtin; refine wpList_app rfl (.const (.slice none 0 0)) (.tmp 3) _ rfl 5 _ 1 Try.underlying36 u8_info rfl w.heap.size none 0 0 [] rfl (World.ownsRow_nil _ _ _ _) A n c (bytesV bs) rfl (by rw [bytes_length]; exact Hn.out) Hh.out (bytes_one _) (by unfold maxLen; omega) (by omega) (Nat.le_refl _) ?_; intro A4 c4 w4 hown4 hb4; simp only [Nat.zero_add, List.nil_append] at hown4; have Hown4 := Lib.hid hown4; clear hown4; simp only [Nat.zero_add])
  go_ret
  have el : (bytesV bs).length = n := by rw [bytes_length]; exact Hn.out
  exact ⟨A4, c4, by rw [el]; rfl, by rw [el]; exact Hown4.out, hb4⟩

theorem WBytes_any (B g : Nat) (r : Option Nat) (xs : List UInt8) (w : World) (hw : IsW w B g r xs) (hx : xs.length ≤ 1000000) :
    Calls Try.prog 23 #[.pointer (some ⟨g, 0, none⟩)] w (OwnRet 5 (bytesV xs) w) := by
  obtain ⟨hB, A, n1, c, hh, hown, hxl, hro, hne⟩ := hw
  have hc : w.cell? ⟨g, 0, none⟩ = some (.slice A n1 c) := row_cell hh 0
  clear hh hro hne
  have Hown := Lib.hid hown; clear hown
  go_enter Try.func23, Try.ntmps23
  go_wp2_with (go_at_call 29; refine (copyOf_any A n1 c xs w hxl (by omega) (.of_own Hown.out)).mono ?_; rintro e w1 ⟨A1, c1, rfl, hown1, hb1⟩; have Hown1 := Lib.hid hown1; have Hb1 := Lib.hid hb1; clear hown1 hb1)
  go_ret
  exact ⟨A1, c1, rfl, Hown1.out, Hb1.out⟩
/-- the zero Writer -/
theorem IsW.zero (w : World) (B : Nat) (hB : B ≤ w.heap.size) : IsW (w.alloc (.cells #[.slice none 0 0] 63)) B w.heap.size none [] :=
  ⟨hB, none, 0, 0, heap_alloc_new _ _, World.ownsRow_nil _ _ _ _, rfl, rfl, by simp⟩
end Go.Proofs.Ytkjfaijdmpnjkaa
