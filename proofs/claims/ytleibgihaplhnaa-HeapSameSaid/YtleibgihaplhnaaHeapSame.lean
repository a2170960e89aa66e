/-
  HeapSame: names that are set in another order (up to 60) stand as in the first one; it holds for every input, and the arguments stay as they were. No condition.
-/
import Derived.Test.YtleibgihaplhnaaHeapTwo
import Derived.Test.YtleibgihaplhnaaRows
import Derived.Test.YtleibgihaplhnaaChecked
namespace Go.Proofs.Ytleibgihaplhnaa.HeapSame
open Go.ChangeShapes Go.WideShapes Go.ChangeAt Go.RowKit Go.Maps Go.Sort
set_option linter.unusedVariables false

/-- the first i keys are in, each by its place -/
def Filled (xs : List Int) (i : Nat) (x : List Ent) : Prop := x.length = i ∧ ∀ r, r ∈ x ↔ ∃ (j : Nat), j < i ∧ r.1 = (j : Int) ∧ xs[j]? = some r.2
theorem Filled.nil (xs : List Int) : Filled xs 0 [] := ⟨rfl, fun r => ⟨fun h => (by cases h), fun ⟨j, h, _⟩ => (by omega)⟩⟩
theorem Filled.more {xs : List Int} {i : Nat} {x : List Ent} (h : Filled xs i x) {k : Int} (hk : xs[i]? = some k) : Filled xs (i + 1) (putE x ((i : Int), k)) := by
  have hno : outE x (i : Int) = x := List.filter_eq_self.2 fun r hr => by
    obtain ⟨j, hj, e, _⟩ := (h.2 r).1 hr
    have : r.1 ≠ (i : Int) := by omega
    simpa using this
  refine ⟨by rw [putE, hno, insE_length, h.1], fun r => ?_⟩
  rw [mem_putE, h.2 r]
  constructor
  · rintro (rfl | ⟨⟨j, hj, e, hx⟩, _⟩)
    · exact ⟨i, by omega, rfl, hk⟩
    · exact ⟨j, by omega, e, hx⟩
  · rintro ⟨j, hj, e, hx⟩
    by_cases hji : j = i
    · subst hji
      rw [hk] at hx
      injection hx with hx
      exact .inl (Prod.ext e hx.symm)
    · exact .inr ⟨⟨j, by omega, e, hx⟩, by show r.1 ≠ (i : Int); omega⟩
/-- just the names below n -/
def Names (n : Nat) (x : List Ent) : Prop := (∀ r ∈ x, ∃ j : Nat, j < n ∧ r.1 = (j : Int)) ∧ ∀ j : Nat, j < n → ∃ r ∈ x, r.1 = (j : Int)
theorem Names.nil : Names 0 [] := ⟨fun r h => (by cases h), fun j h => (by omega)⟩
theorem Names.put {n m : Nat} {x : List Ent} (h : Names n x) {i : Nat} (k : Int) (hm : m = n ∧ i < n ∨ m = n + 1 ∧ i = n) : Names m (putE x ((i : Int), k)) := by
  refine ⟨fun r hr => ?_, fun j hj => ?_⟩
  · rcases mem_putE.1 hr with rfl | ⟨hr, _⟩
    · exact ⟨i, by omega, rfl⟩
    · obtain ⟨j, hj, e⟩ := h.1 r hr
      exact ⟨j, by omega, e⟩
  · by_cases e : j = i
    · subst e
      exact ⟨((j : Int), k), mem_putE.2 (.inl rfl), rfl⟩
    · obtain ⟨r, hr, e2⟩ := h.2 j (by omega)
      exact ⟨r, mem_putE.2 (.inr ⟨hr, by show r.1 ≠ (i : Int); omega⟩), e2⟩
/-- from i on the keys are those -/
def Down (xs : List Int) (i : Nat) (x : List Ent) : Prop := ∀ r ∈ x, ∀ j : Nat, r.1 = (j : Int) → i ≤ j → xs[j]? = some r.2
theorem Down.put {xs : List Int} {i : Nat} {x : List Ent} (h : Down xs (i + 1) x) {k : Int} (hk : xs[i]? = some k) : Down xs i (putE x ((i : Int), k)) := by
  intro r hr j e hij
  rcases mem_putE.1 hr with rfl | ⟨hr, hne⟩
  · obtain rfl : i = j := by
      have : (i : Int) = (j : Int) := e
      omega
    exact hk
  · have : r.1 ≠ (i : Int) := hne
    exact h r hr j e (by omega)
theorem Down.start {xs : List Int} {n : Nat} {x : List Ent} (h : Names n x) : Down xs n x := fun r hr j e hj => by
  obtain ⟨j', hj', e'⟩ := h.1 r hr
  omega
/-- the two stand alike -/
theorem alike {xs : List Int} {n : Nat} {xa xb : List Ent} (ga : GoodE xa) (gb : GoodE xb) (ha : Filled xs n xa) (hb : Names n xb) (hd : Down xs 0 xb) : xb = xa := by
  refine gb.unique ga fun r => ?_
  rw [ha.2 r]
  constructor
  · intro hr
    obtain ⟨j, hj, e⟩ := hb.1 r hr
    exact ⟨j, hj, e, hd r hr j e (Nat.zero_le _)⟩
  · rintro ⟨j, hj, e, hx⟩
    obtain ⟨r', hr', e'⟩ := hb.2 j hj
    have h1 := hd r' hr' j e' (Nat.zero_le _)
    rw [hx] at h1
    injection h1 with h1
    have : r = r' := Prod.ext (e.trans e'.symm) h1
    rw [this]
    exact hr'

set_option maxRecDepth 100000 in
set_option maxHeartbeats 4000000 in
theorem walkIn (A C : Option Addr) (n m c d : Nat) (xs ys : List Int) (a : Int) (w : World) (hn : xs.length = n) (hm : ys.length = m) (hs : Seen w A (numsV xs)) (ht : Seen w C (numsV ys)) (hu : ∀ x ∈ xs, In64 x) (hv : ∀ x ∈ ys, In64 x) (h60 : n ≤ 60) (hnm : n ≤ m) (h100 : m ≤ 100) :
    Calls Try.prog 5 #[.slice A n c, .slice C m d, .int .i64 a] w fun e w' => e = .returned (.bool true) ∧ Below w.heap.size w w' := by
  have Hn := Lib.hid hn; have Hm := Lib.hid hm; have Hs := Lib.hid hs; have Ht := Lib.hid ht; have Hu := Lib.hid hu; have Hv := Lib.hid hv
  clear hn hm hs ht hu hv
  have h1 : ¬ (n : Int) > 60 := by omega
  have h2 : ¬ (m : Int) < (n : Int) := by omega
  have h3 : ¬ (m : Int) > 100 := by omega
  obtain ⟨W1, hW1⟩ : ∃ W1, (w.alloc (.cells #[.slice none 0 0, .map none] 27)).alloc (.cells #[.slice none 0 0, .map none] 27) = W1 := ⟨_, rfl⟩
  have H1 := Lib.hid (show Two W1 w.heap.size w.heap.size (w.heap.size + 1) [] [] by rw [← hW1]; exact Two.new w)
  have B1 := Lib.hid (show Below w.heap.size w W1 by rw [← hW1]; exact ((Below.refl _ _).alloc (Nat.le_refl _) _).alloc (by simp) _)
  go_enter Try.func5, Try.ntmps5
  go_wp2
  clear hW1
  go_loopw [9] (fun iv wr => ∃ (i : Nat) (xa xb : List Ent), iv = .int .i64 (i : Int) ∧ i ≤ n ∧ Two wr w.heap.size w.heap.size (w.heap.size + 1) xa xb ∧ Filled ys i xa ∧ (Names i xb ∧ xb.length ≤ i) ∧ Below w.heap.size w wr) (fun iv _ => n - (intOf iv).toNat)
  case atStart => exact ⟨0, [], [], rfl, by omega, H1.out, Filled.nil _, ⟨Names.nil, Nat.le_refl _⟩, B1.out⟩
  case round =>
    obtain ⟨i, xa, xb, rfl, hin, hh, hf, hg, hb⟩ := hrel
    have Hh := Lib.hid hh; have Hf := Lib.hid hf; have Hg := Lib.hid hg; have Hb := Lib.hid hb
    clear hh hf hg hb
    by_cases hi : i < n
    · obtain ⟨g, o, k, rfl, hk, hc⟩ := Ht.out.num (j := i) (by have := Hm.out; omega)
      obtain ⟨g2, o2, k2, rfl, hk2, hc2⟩ := Hs.out.num (j := i) (by have := Hn.out; omega)
      have Hk := Lib.hid hk; have Hk2 := Lib.hid hk2; have Hc2 := Lib.hid hc2
      have hcr := (Hb.out.cell (block_lt_of_cell hc)).trans hc
      have i0 : (0 : Int) ≤ (i : Int) := by omega
      have i1 : (i : Int) < (n : Int) := by omega
      have i2 : (i : Int) < (m : Int) := by omega
      clear hk hk2 hc hc2
      go_wp2_with (first
        | (go_at_call_of 7 (Value.pointer (some ⟨w.heap.size, 0, none⟩)); refine (SetA_any w.heap.size w.heap.size (w.heap.size + 1) xa xb (i : Int) k wr Hh.out (by have := Hf.out.1; omega) ⟨⟨by omega, by omega⟩, Hv.out k (List.mem_of_getElem? Hk.out)⟩ Hb.out.size).mono ?_; rintro e w2 ⟨rfl, h2, b2⟩; have H2 := Lib.hid h2; have B2 := Lib.hid (Hb.out.trans b2); have hc3 := (B2.out.cell (block_lt_of_cell Hc2.out)).trans Hc2.out; clear h2 b2 hcr)
        | (go_at_call 7; refine (SetB_any w.heap.size w.heap.size (w.heap.size + 1) (putE xa ((i : Int), k)) xb (i : Int) k2 w2 H2.out (by have := Hg.out.2; omega) ⟨⟨by omega, by omega⟩, Hu.out k2 (List.mem_of_getElem? Hk2.out)⟩ B2.out.size).mono ?_; rintro e w3 ⟨rfl, h3, b3⟩; have H3 := Lib.hid h3; have B3 := Lib.hid (B2.out.trans b3); clear h3 b3))
      go_roundw
      case rel => exact ⟨i + 1, _, _, by go_num, by omega, H3.out, Hf.out.more Hk.out, ⟨Hg.out.1.put k2 (.inr ⟨rfl, rfl⟩), by have h1 := putE_length xb ((i : Int), k2); have h2 := Hg.out.2; omega⟩, B3.out⟩
      case measure => simp [intOf]; omega
    · obtain rfl : i = n := by omega
      have i1 : ¬ (i : Int) < (i : Int) := by omega
      clear hi hin
      go_wp2
      go_loopw [10, 11] (fun jv lv wr => ∃ (j : Nat) (xb : List Ent), jv = .int .i64 (j : Int) ∧ j ≤ i ∧ Two wr w.heap.size w.heap.size (w.heap.size + 1) xa xb ∧ (Names i xb ∧ xb.length ≤ i + j) ∧ Below w.heap.size w wr) (fun jv _ _ => i - (intOf jv).toNat)
      case atStart => exact ⟨0, xb, rfl, by omega, Hh.out, ⟨Hg.out.1, by have := Hg.out.2; omega⟩, Hb.out⟩
      case round =>
        obtain ⟨j, xb2, rfl, hjn, hh2, hg2, hb2⟩ := hrel
        have Hh2 := Lib.hid hh2; have Hg2 := Lib.hid hg2; have Hb2 := Lib.hid hb2
        clear hh2 hg2 hb2
        by_cases hj : j < i
        · have j0 : (0 : Int) ≤ (j : Int) := by omega
          have j1 : (j : Int) < (i : Int) := by omega
          obtain ⟨v, hv⟩ : ∃ v, wrap64 (a + (j : Int) % 7) = v := ⟨_, rfl⟩
          have hvb := wrap64_bd (a + (j : Int) % 7)
          rw [hv] at hvb
          have e1 := Int.emod_nonneg v (show (i : Int) ≠ 0 by omega)
          have e2 := Int.emod_lt_of_pos v (show (0 : Int) < (i : Int) by omega)
          obtain ⟨p, hp⟩ : ∃ p : Nat, v % (i : Int) = p := ⟨(v % (i : Int)).toNat, by omega⟩
          have hpi : p < i := by omega
          obtain ⟨g, o, k, rfl, hk, hc⟩ := Ht.out.num (j := p) (by have := Hm.out; omega)
          have Hk := Lib.hid hk; have Hc := Lib.hid hc; have Hv2 := Lib.hid hv; have Hp := Lib.hid hp; have Hvb := Lib.hid hvb
          have hcr := (Hb2.out.cell (block_lt_of_cell hc)).trans hc
          have p0 : (0 : Int) ≤ (p : Int) := by omega
          have p1 : (p : Int) < (m : Int) := by omega
          have i5 : ¬ (i : Int) < 1 := by omega
          clear hk hc e1 e2 hp hvb
          go_wp2_with (first
            | (go_at_call 18; refine (Pick_any v (i : Int) wr Hvb.out.1 Hvb.out.2 (by omega) (by omega)).mono ?_; rintro e w' ⟨rfl, rfl⟩; rw [Hp.out])
            | (go_at_call 7; refine (SetB_any w.heap.size w.heap.size (w.heap.size + 1) xa xb2 (p : Int) k wr Hh2.out (by have := Hg2.out.2; omega) ⟨⟨by omega, by omega⟩, Hv.out k (List.mem_of_getElem? Hk.out)⟩ Hb2.out.size).mono ?_; rintro e w3 ⟨rfl, h3, b3⟩; have H3 := Lib.hid h3; have B3 := Lib.hid (Hb2.out.trans b3); clear h3 b3))
          go_roundw
          case rel => exact ⟨j + 1, _, by go_num, by omega, H3.out, ⟨Hg2.out.1.put k (.inl ⟨rfl, hpi⟩), by have h1 := putE_length xb2 ((p : Int), k); have h2 := Hg2.out.2; omega⟩, B3.out⟩
          case measure => simp [intOf]; omega
        · obtain rfl : j = i := by omega
          have j1 : ¬ (j : Int) < (j : Int) := by omega
          clear hj hjn
          go_wp2
          go_loopw [12] (fun lv wr => ∃ (l : Nat) (xb : List Ent), lv = .int .i64 ((l : Int) - 1) ∧ l ≤ j ∧ Two wr w.heap.size w.heap.size (w.heap.size + 1) xa xb ∧ (Names j xb ∧ Down ys l xb ∧ xb.length ≤ 3 * j - l) ∧ Below w.heap.size w wr) (fun lv _ => (intOf lv + 1).toNat)
          case atStart => exact ⟨j, xb2, rfl, Nat.le_refl _, Hh2.out, ⟨Hg2.out.1, Down.start Hg2.out.1, by have := Hg2.out.2; omega⟩, Hb2.out⟩
          case round =>
            obtain ⟨l, xb3, rfl, hlj, hh3, hg3, hb3⟩ := hrel
            have Hh3 := Lib.hid hh3; have Hg3 := Lib.hid hg3; have Hb3 := Lib.hid hb3
            clear hh3 hg3 hb3
            cases l with
            | succ p =>
              have ep : ((p + 1 : Nat) : Int) - 1 = (p : Int) := by omega
              obtain ⟨g, o, k, rfl, hk, hc⟩ := Ht.out.num (j := p) (by have := Hm.out; omega)
              have hcr := (Hb3.out.cell (block_lt_of_cell hc)).trans hc
              have Hk := Lib.hid hk
              have p0 : (0 : Int) ≤ (p : Int) := by omega
              have p1 : (p : Int) < (m : Int) := by omega
              rw [ep]
              clear hk hc ep
              go_wp2_with (go_at_call 7; refine (SetB_any w.heap.size w.heap.size (w.heap.size + 1) xa xb3 (p : Int) k wr Hh3.out (by have := Hg3.out.2.2; omega) ⟨⟨by omega, by omega⟩, Hv.out k (List.mem_of_getElem? Hk.out)⟩ Hb3.out.size).mono ?_; rintro e w3 ⟨rfl, h3, b3⟩; have H3 := Lib.hid h3; have B3 := Lib.hid (Hb3.out.trans b3); clear h3 b3)
              go_roundw
              case rel => exact ⟨p, _, rfl, by omega, H3.out, ⟨Hg3.out.1.put k (.inl ⟨rfl, by omega⟩), Hg3.out.2.1.put Hk.out, by have h1 := putE_length xb3 ((p : Int), k); have h2 := Hg3.out.2.2; omega⟩, B3.out⟩
              case measure => simp [intOf] <;> omega
            | zero =>
              have hxx : xb3 = xa := by
                obtain ⟨qa, ma, ga⟩ := Hh3.out.a
                obtain ⟨qb, mb, gb⟩ := Hh3.out.swap.a
                exact alike ga.good gb.good Hf.out Hg3.out.1 Hg3.out.2.1
              subst hxx
              have hlen := Hf.out.1
              have Hl5 := Lib.hid (show xb3.length ≤ 50000 by omega)
              have ez : (((0 : Nat) : Int)) - 1 = -1 := rfl
              have hq1 : ((j : Int) == (j : Int)) = true := by simp
              rw [ez]
              have Hlen := Lib.hid hlen
              clear ez hlen
              go_wp2_with (first
                | (go_at_call_of 16 (Value.pointer (some ⟨w.heap.size, 0, none⟩)); refine (AllA_any w.heap.size w.heap.size (w.heap.size + 1) xb3 xb3 wr Hh3.out Hl5.out).mono ?_; rintro e w4 ⟨A4, c4, rfl, s4, h4, b4⟩; have S4 := Lib.hid s4; have H4 := Lib.hid h4; have B4 := Lib.hid (Hb3.out.trans (b4.mono Hb3.out.size)); clear s4 h4 b4)
                | (go_at_call 16; refine (AllB_any w.heap.size w.heap.size (w.heap.size + 1) xb3 xb3 w4 H4.out Hl5.out).mono ?_; rintro e w5 ⟨A5, c5, rfl, s5, h5, b5⟩; have S5 := Lib.hid s5; have S4b := Lib.hid (S4.out.below b5); have H5 := Lib.hid h5; have B5 := Lib.hid (B4.out.trans (b5.mono B4.out.size)); clear s5 h5 b5)
                | (go_at_call 15; refine (SameInts_any A4 A5 xb3.length xb3.length c4 c5 (namesE xb3) (namesE xb3) w5 (namesE_length xb3) (namesE_length xb3) S4b.out S5.out (by have := Hl5.out; unfold maxLen; omega)).mono ?_; rintro e w6 ⟨rfl, b6⟩; rw [decide_eq_true rfl]; have H6 := Lib.hid (H5.out.below b6); have B6 := Lib.hid (B5.out.trans (b6.mono B5.out.size)); clear b6)
                | (go_at_call_of 14 (Value.pointer (some ⟨w.heap.size, 0, none⟩)); refine (LenA_any w.heap.size w.heap.size (w.heap.size + 1) xb3 xb3 w6 H6.out).mono ?_; rintro e w7 ⟨rfl, rfl⟩; rw [Hlen.out])
                | (go_at_call 14; refine (LenB_any w.heap.size w.heap.size (w.heap.size + 1) xb3 xb3 w6 H6.out).mono ?_; rintro e w7 ⟨rfl, rfl⟩; rw [Hlen.out])
                | (go_at_call 6; refine (awake_any w6).mono ?_; rintro e w8 ⟨rfl, b8⟩; have B8 := Lib.hid (B6.out.trans (b8.mono B6.out.size)); clear b8))
              go_ret
              exact ⟨rfl, B8.out⟩

theorem walk (A : Option Addr) (n c : Nat) (xs : List Int) (C : Option Addr) (m d : Nat) (ys : List Int) (a : Int) (w : World) (hn : xs.length = n) (hnc : n ≤ c) (hcm : c ≤ maxLen) (hs : Seen w A (numsV xs)) (hu : ∀ x ∈ xs, In64 x) (hm : ys.length = m) (hmd : m ≤ d) (hdm : d ≤ maxLen) (ht : Seen w C (numsV ys)) (hv : ∀ x ∈ ys, In64 x) (ha : (Lit.int .i64 a).wf = true) :
    Calls Try.prog 5 #[.slice A n c, .slice C m d, .int .i64 a] w fun e w' => e = .returned (.bool true) ∧ Below w.heap.size w w' := by
  by_cases h1 : n ≤ 60
  · by_cases h2 : n ≤ m
    · by_cases h3 : m ≤ 100
      · exact walkIn A C n m c d xs ys a w hn hm hs ht hu hv h1 h2 h3
      · have i1 : ¬ (n : Int) > 60 := by omega
        have i2 : ¬ (m : Int) < (n : Int) := by omega
        have i3 : (m : Int) > 100 := by omega
        go_enter Try.func5, Try.ntmps5
        go_wp2_with (go_at_call 6; refine (awake_any w).mono ?_; rintro e w4 ⟨rfl, hb4⟩; have B4 := Lib.hid hb4; clear hb4)
        go_ret
        exact ⟨rfl, B4.out⟩
    · have i1 : ¬ (n : Int) > 60 := by omega
      have i2 : (m : Int) < (n : Int) := by omega
      go_enter Try.func5, Try.ntmps5
      go_wp2_with (go_at_call 6; refine (awake_any w).mono ?_; rintro e w4 ⟨rfl, hb4⟩; have B4 := Lib.hid hb4; clear hb4)
      go_ret
      exact ⟨rfl, B4.out⟩
  · have i1 : (n : Int) > 60 := by omega
    go_enter Try.func5, Try.ntmps5
    go_wp2_with (go_at_call 6; refine (awake_any w).mono ?_; rintro e w4 ⟨rfl, hb4⟩; have B4 := Lib.hid hb4; clear hb4)
    go_ret
    exact ⟨rfl, B4.out⟩

/-! ### THE ROW -/
theorem own : ownKnob Try.prog.godebug = none := by kernel_rfl

set_option maxRecDepth 100000 in
theorem lifted (os : Os) (started : os.Started) (H : Type) (enc : TypeId × Value → H) :
    ReturnsInHanded {} Try.checked os 5 .any (Rows.heapSameSpec.pre6 enc Try.prog Try.f5 Rows.heapSameRow.domain false) (Rows.heapSameSpec.post enc Try.prog Try.f5 false true false false) := by
  refine returnsInHanded_of_change (C := Try.checked) own started (by kernel_rfl) Try.func5
    (ChangeSpec.witness6 (enc := enc) (C := Try.checked) false ⟨#[], #[.slice none 0 0, .slice none 0 0, .int .i64 0], []⟩ 8 (by kernel_rfl) (by kernel_rfl) (by kernel_rfl) (by kernel_rfl)) ?_
  intro W base args ds gs before hval0 hW hcnd _
  have hval : ∀ (j : Nat) t v, Try.f5.params[j]? = some t → args[j]? = some v → Value.okWide Try.prog W .any base t v := hval0
  have hW' := hW
  obtain ⟨p, q, hA0, hV, rfl, hfz, hnd⟩ := hW
  have hA : DataW.TrodAll enc Try.prog W 0 (fun _ => true) true Try.f5.params.toList args.toList ds p := hA0
  rw [Try.params5] at hA hval
  obtain ⟨v0, vs0, d0, ds0, p0, q0, hargs, rfl, rfl, h0, r0⟩ := trodAll_cons hA
  obtain ⟨v1, vs1, d1, ds1, p1, q1, rfl, rfl, rfl, h1, r1⟩ := trodAll_cons r0
  obtain ⟨v2, vs2, d2, ds2, p2, q2, rfl, rfl, rfl, h2, r2⟩ := trodAll_cons r1
  obtain ⟨rfl, rfl, rfl⟩ := trodAll_nil r2
  obtain rfl : args = #[v0, v1, v2] := by cases args; simp_all
  obtain ⟨rfl, rfl⟩ := trodVars_none hV
  obtain ⟨A0, n0, c0, us0, rfl, hn0, hnc0, hcm0, hs0, hu0⟩ := open_nums Try.underlying44 Try.underlying3 (by kernel_rfl) (hval 0 44 v0 rfl rfl) h0
  obtain ⟨A1, n1, c1, us1, rfl, hn1, hnc1, hcm1, hs1, hu1⟩ := open_nums Try.underlying44 Try.underlying3 (by kernel_rfl) (hval 1 44 v1 rfl rfl) h1
  obtain ⟨a2, rfl, rfl, rfl, w2⟩ := open_int Try.underlying3 (hval 2 3 v2 rfl rfl) h2
  refine (walk A0 n0 c0 us0 A1 n1 c1 us1 a2 W hn0 hnc0 hcm0 hs0 hu0 hn1 hnc1 hcm1 hs1 hu1 w2).mono fun e W' ⟨he, hg⟩ => ?_
  subst he
  exact ⟨_, rfl, law_post hW' rfl (by kernel_rfl) (by kernel_rfl) (by kernel_rfl) Try.underlying4 rfl rfl rfl hg⟩

theorem over : Rows.heapSameRow.holds Try.pinned (OpenSpec.ofChange Rows.heapSameSpec) :=
  OpenClaim.holds_of_wide 5 Try.f5 rfl rfl rfl rfl rfl rfl rfl ⟨rfl, rfl, rfl, rfl, rfl⟩ rfl rfl rfl rfl rfl (by kernel_rfl) Try.func5 (by kernel_rfl)
    (of_decide_eq_true (by kernel_rfl)) (by unfold Func.isWrapper; first | (rw [if_pos (by decide +kernel)]; kernel_rfl) | (rw [if_neg (by decide +kernel)]; exact ⟨rfl, rfl⟩))
    (fun os started H enc _ => lifted os started H enc)

theorem proved : Rows.HeapSameSaid :=
  over
#print axioms proved

end Go.Proofs.Ytleibgihaplhnaa.HeapSame
