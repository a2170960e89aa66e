/-
  HeapRises: whatever keys there are (up to 100), taken least by least they rise; it holds for every input, and the argument stays as it was. No condition.
-/
import Derived.Test.YtleibgihaplhnaaHeapA
import Derived.Test.YtleibgihaplhnaaNums
import Derived.Test.YtleibgihaplhnaaRows
import Derived.Test.YtleibgihaplhnaaChecked
namespace Go.Proofs.Ytleibgihaplhnaa.HeapRises
open Go.ChangeShapes Go.WideShapes Go.ChangeAt Go.RowKit Go.Maps Go.Sort
set_option linter.unusedVariables false

/-- the first i keys are in, each by its place -/
def Filled (xs : List Int) (i : Nat) (x : List Ent) : Prop := x.length = i ∧ ∀ r, r ∈ x ↔ ∃ (j : Nat), j < i ∧ r.1 = (j : Int) ∧ xs[j]? = some r.2
theorem Filled.nil (xs : List Int) : Filled xs 0 [] := ⟨rfl, fun r => ⟨fun h => (by cases h), fun ⟨j, h, _⟩ => (by omega)⟩⟩
theorem Filled.more {xs : List Int} {i : Nat} {x : List Ent} (h : Filled xs i x) {k : Int} (hk : xs[i]? = some k) : Filled xs (i + 1) (putE x ((i : Int), k)) := by
  have hno : outE x (i : Int) = x := List.filter_eq_self.2 fun r hr => by
    obtain ⟨j, hj, e, _⟩ := (h.2 r).1 hr
    have : r.1 ≠ (i : Int) := by omega
    simpa using this
  refine ⟨by rw [putE, hno, insE_length, h.1], fun r => ?_⟩
  rw [mem_putE, h.2 r]
  constructor
  · rintro (rfl | ⟨⟨j, hj, e, hx⟩, _⟩)
    · exact ⟨i, by omega, rfl, hk⟩
    · exact ⟨j, by omega, e, hx⟩
  · rintro ⟨j, hj, e, hx⟩
    by_cases hji : j = i
    · subst hji
      rw [hk] at hx
      injection hx with hx
      exact .inl (Prod.ext e hx.symm)
    · exact .inr ⟨⟨j, by omega, e, hx⟩, by show r.1 ≠ (i : Int); omega⟩
/-- what is left on the way down: so many, each with its own key, all behind what was taken -/
structure Left (xs : List Int) (i : Nat) (nm key : Int) (x : List Ent) : Prop where
  len : x.length + i = xs.length
  own : ∀ r ∈ x, ∃ j : Nat, r.1 = (j : Int) ∧ xs[j]? = some r.2
  rise : 0 < i → ∀ r ∈ x, ahead (nm, key) r
theorem Left.start {xs : List Int} {x : List Ent} (h : Filled xs xs.length x) : Left xs 0 (-1) 0 x :=
  ⟨by have := h.1; omega, fun r hr => by obtain ⟨j, _, h1, h2⟩ := (h.2 r).1 hr; exact ⟨j, h1, h2⟩, fun h => by omega⟩
theorem out_first {a : Ent} {s : List Ent} (h : GoodE (a :: s)) : outE (a :: s) a.1 = s := by
  unfold outE
  rw [List.filter_cons_of_neg (by simp)]
  exact List.filter_eq_self.2 fun r hr => by simpa using fun e : r.1 = a.1 => (List.pairwise_cons.1 h.names).1 r hr e.symm
theorem least_cons {a : Ent} {s : List Ent} {n k : Int} {ok : Bool} (h : (a :: s = [] ∧ n = 0 ∧ k = 0 ∧ ok = false) ∨ ((a :: s)[0]? = some (n, k) ∧ ok = true)) : a.1 = n ∧ a.2 = k ∧ ok = true := by
  rcases h with ⟨e, _⟩ | ⟨e, rfl⟩
  · cases e
  · simp only [List.getElem?_cons_zero, Option.some.injEq] at e
    rw [e]
    exact ⟨rfl, rfl, rfl⟩
theorem least_nil {n k : Int} {ok : Bool} (h : (([] : List Ent) = [] ∧ n = 0 ∧ k = 0 ∧ ok = false) ∨ (([] : List Ent)[0]? = some (n, k) ∧ ok = true)) : n = 0 ∧ k = 0 ∧ ok = false := by
  rcases h with ⟨_, h⟩ | ⟨e, _⟩
  · exact h
  · cases e
theorem Left.next {xs : List Int} {i : Nat} {nm key : Int} {a : Ent} {s : List Ent} (h : Left xs i nm key (a :: s)) (hg : GoodE (a :: s)) : Left xs (i + 1) a.1 a.2 s :=
  ⟨by have := h.len; simp at this; omega, fun r hr => h.own r (by simp [hr]), fun _ r hr => (List.pairwise_cons.1 hg.up).1 r hr⟩

set_option maxRecDepth 100000 in
set_option maxHeartbeats 4000000 in
theorem walkIn (A : Option Addr) (n c : Nat) (xs : List Int) (w : World) (hn : xs.length = n) (hs : Seen w A (numsV xs)) (hu : ∀ x ∈ xs, In64 x) (h100 : n ≤ 100) :
    Calls Try.prog 4 #[.slice A n c] w fun e w' => e = .returned (.bool true) ∧ Below w.heap.size w w' := by
  have Hn := Lib.hid hn; have Hs := Lib.hid hs; have Hu := Lib.hid hu
  clear hn hs hu
  have h1 : ¬ (n : Int) > 100 := by omega
  obtain ⟨W1, hW1⟩ : ∃ W1, w.alloc (.cells #[.slice none 0 0, .map none] 27) = W1 := ⟨_, rfl⟩
  have H1 := Lib.hid (show HeapAt W1 w.heap.size w.heap.size none none [] by rw [← hW1]; exact new_heap w)
  have B1 := Lib.hid (show Below w.heap.size w W1 by rw [← hW1]; exact (Below.refl _ _).alloc (Nat.le_refl _) _)
  go_enter Try.func4, Try.ntmps4
  go_wp2
  clear hW1
  go_loopw [4] (fun iv wr => ∃ (i : Nat) (q m : Option Nat) (x : List Ent), iv = .int .i64 (i : Int) ∧ i ≤ n ∧ HeapAt wr w.heap.size w.heap.size q m x ∧ Filled xs i x ∧ Below w.heap.size w wr) (fun iv _ => n - (intOf iv).toNat)
  case atStart => exact ⟨0, none, none, [], rfl, by omega, H1.out, Filled.nil _, B1.out⟩
  case round =>
    obtain ⟨i, q, m, x, rfl, hin, hh, hf, hb⟩ := hrel
    have Hh := Lib.hid hh; have Hf := Lib.hid hf; have Hb := Lib.hid hb
    clear hh hf hb
    by_cases hi : i < n
    · obtain ⟨g, o, k, rfl, hk, hc⟩ := (Hs.out.below Hb.out).num (j := i) (by have := Hn.out; omega)
      have Hk := Lib.hid hk
      have i0 : (0 : Int) ≤ (i : Int) := by omega
      have i1 : (i : Int) < (n : Int) := by omega
      clear hk
      go_wp2_with (go_at_call 7; refine (Set_any w.heap.size w.heap.size q m x (i : Int) k wr Hh.out (by have := Hf.out.1; omega) ⟨⟨by omega, by omega⟩, Hu.out k (List.mem_of_getElem? Hk.out)⟩ Hb.out.size).mono ?_; rintro e w2 ⟨rfl, q2, m2, h2, t2, -⟩; have H2 := Lib.hid h2; have B2 := Lib.hid (Hb.out.trans (Hh.out.over Hb.out.size t2)); clear h2 t2)
      go_roundw
      case rel => exact ⟨i + 1, q2, m2, _, by go_num, by omega, H2.out, Hf.out.more Hk.out, B2.out⟩
      case measure => simp [intOf]; omega
    · obtain rfl : i = n := by omega
      have i1 : ¬ (i : Int) < (i : Int) := by omega
      have HL := Lib.hid (Left.start (xs := xs) (x := x) (by rw [Hn.out]; exact Hf.out))
      clear hi hin
      go_wp2
      go_loopw [5, 6, 7] (fun nv kv jv wr => ∃ (j : Nat) (nm key : Int) (q m : Option Nat) (x : List Ent), nv = .int .i64 nm ∧ kv = .int .i64 key ∧ jv = .int .i64 (j : Int) ∧ HeapAt wr w.heap.size w.heap.size q m x ∧ Left xs j nm key x ∧ Below w.heap.size w wr) (fun _ _ jv _ => i - (intOf jv).toNat)
      case atStart => exact ⟨0, -1, 0, q, m, x, rfl, rfl, rfl, Hh.out, HL.out, Hb.out⟩
      case round =>
        obtain ⟨j, nm, key, q2, m2, x2, rfl, rfl, rfl, hh2, hl2, hb2⟩ := hrel
        have Hh2 := Lib.hid hh2; have Hl2 := Lib.hid hl2; have Hb2 := Lib.hid hb2
        clear hh2 hl2 hb2
        cases x2 with
        | cons a s =>
          obtain ⟨a1, a2⟩ := a
          have hj : j < i := by have h1 := Hl2.out.len; have h2 := Hn.out; simp at h1; omega
          obtain ⟨p, rfl, hp⟩ : ∃ p : Nat, a1 = (p : Int) ∧ xs[p]? = some a2 := Hl2.out.own (a1, a2) (by simp)
          have hpl : p < i := by have h1 := (List.getElem?_eq_some_iff.1 hp).1; have h2 := Hn.out; omega
          obtain ⟨g, o, k, rfl, hk, hc⟩ := (Hs.out.below Hb2.out).num (j := p) (by have := Hn.out; omega)
          rw [hp] at hk
          injection hk with hk
          subst hk
          have j0 : (0 : Int) ≤ (j : Int) := by omega
          have j1 : (j : Int) < (i : Int) := by omega
          have p0 : (0 : Int) ≤ (p : Int) := by omega
          have p1 : (p : Int) < (i : Int) := by omega
          have p2 : ¬ (p : Int) < 0 := by omega
          have p3 : ¬ (i : Int) ≤ (p : Int) := by omega
          have Hfirst := Lib.hid (out_first Hh2.out.good)
          have Hnext := Lib.hid (Hl2.out.next Hh2.out.good)
          have hsl : (((p : Int), a2) :: s).length ≤ 50000 := by have h1 := Hl2.out.len; have h2 := Hn.out; omega
          have Hsl := Lib.hid hsl
          clear hp hsl
          by_cases hj0 : j = 0
          · subst hj0
            go_wp2_with (first
              | (go_at_call 12; refine (Least_any w.heap.size w.heap.size q2 m2 (((p : Int), a2) :: s) wr Hh2.out (by have := Hsl.out; omega)).mono ?_; rintro e w3 ⟨n3, k3, ok3, rfl, hl3, hb3⟩; obtain ⟨rfl, rfl, rfl⟩ := least_cons hl3; have B3 := Lib.hid (Hb2.out.trans (hb3.mono Hb2.out.size)); have H3 := Lib.hid (Hh2.out.below hb3); have hc := (hb3.cell (block_lt_of_cell hc)).trans hc; clear hb3 hl3)
              | (go_at_call 9; refine (Drop_any w.heap.size w.heap.size q2 m2 (((p : Int), a2) :: s) (p : Int) w3 H3.out Hsl.out (by omega) (by omega)).mono ?_; rintro e w4 ⟨b4, rfl, -, h4, t4⟩; have B4 := Lib.hid (B3.out.trans (H3.out.over B3.out.size t4)); rw [show outE (((p : Int), a2) :: s) (p : Int) = s from Hfirst.out] at h4; have H4 := Lib.hid h4; clear h4 t4))
            go_roundw
            case rel => exact ⟨0 + 1, (p : Int), a2, q2, m2, s, rfl, rfl, by go_num, H4.out, Hnext.out, B4.out⟩
            case measure => simp [intOf]; omega
          · have hr := Hl2.out.rise (by omega) ((p : Int), a2) (by simp)
            have j2 : (0 : Int) < (j : Int) := by omega
            unfold ahead at hr
            simp only at hr
            have r1 : ¬ a2 < key := by omega
            by_cases r2 : a2 = key
            · have r3 : ¬ (p : Int) ≤ nm := by omega
              subst r2
              clear hr
              go_wp2_with (first
                | (go_at_call 12; refine (Least_any w.heap.size w.heap.size q2 m2 (((p : Int), a2) :: s) wr Hh2.out (by have := Hsl.out; omega)).mono ?_; rintro e w3 ⟨n3, k3, ok3, rfl, hl3, hb3⟩; obtain ⟨rfl, rfl, rfl⟩ := least_cons hl3; have B3 := Lib.hid (Hb2.out.trans (hb3.mono Hb2.out.size)); have H3 := Lib.hid (Hh2.out.below hb3); have hc := (hb3.cell (block_lt_of_cell hc)).trans hc; clear hb3 hl3)
                | (go_at_call 9; refine (Drop_any w.heap.size w.heap.size q2 m2 (((p : Int), a2) :: s) (p : Int) w3 H3.out Hsl.out (by omega) (by omega)).mono ?_; rintro e w4 ⟨b4, rfl, -, h4, t4⟩; have B4 := Lib.hid (B3.out.trans (H3.out.over B3.out.size t4)); rw [show outE (((p : Int), a2) :: s) (p : Int) = s from Hfirst.out] at h4; have H4 := Lib.hid h4; clear h4 t4))
              go_roundw
              case rel => exact ⟨j + 1, (p : Int), a2, q2, m2, s, rfl, rfl, by go_num, H4.out, Hnext.out, B4.out⟩
              case measure => simp [intOf]; omega
            · have r3 : (a2 == key) = false := by simpa using r2
              clear hr
              go_wp2_with (first
                | (go_at_call 12; refine (Least_any w.heap.size w.heap.size q2 m2 (((p : Int), a2) :: s) wr Hh2.out (by have := Hsl.out; omega)).mono ?_; rintro e w3 ⟨n3, k3, ok3, rfl, hl3, hb3⟩; obtain ⟨rfl, rfl, rfl⟩ := least_cons hl3; have B3 := Lib.hid (Hb2.out.trans (hb3.mono Hb2.out.size)); have H3 := Lib.hid (Hh2.out.below hb3); have hc := (hb3.cell (block_lt_of_cell hc)).trans hc; clear hb3 hl3)
                | (go_at_call 9; refine (Drop_any w.heap.size w.heap.size q2 m2 (((p : Int), a2) :: s) (p : Int) w3 H3.out Hsl.out (by omega) (by omega)).mono ?_; rintro e w4 ⟨b4, rfl, -, h4, t4⟩; have B4 := Lib.hid (B3.out.trans (H3.out.over B3.out.size t4)); rw [show outE (((p : Int), a2) :: s) (p : Int) = s from Hfirst.out] at h4; have H4 := Lib.hid h4; clear h4 t4))
              go_roundw
              case rel => exact ⟨j + 1, (p : Int), a2, q2, m2, s, rfl, rfl, by go_num, H4.out, Hnext.out, B4.out⟩
              case measure => simp [intOf]; omega
        | nil =>
          have hj : j = i := by have h1 := Hl2.out.len; have h2 := Hn.out; simp at h1; omega
          subst hj
          have j1 : ¬ (j : Int) < (j : Int) := by omega
          go_wp2_with (first
            | (go_at_call 12; refine (Least_any w.heap.size w.heap.size q2 m2 [] wr Hh2.out (by simp)).mono ?_; rintro e w3 ⟨n3, k3, ok3, rfl, hl3, hb3⟩; obtain ⟨rfl, rfl, rfl⟩ := least_nil hl3; have B3 := Lib.hid (Hb2.out.trans (hb3.mono Hb2.out.size)); clear hb3 hl3)
            | (go_at_call 6; refine (awake_any w3).mono ?_; rintro e w4 ⟨rfl, hb4⟩; have B4 := Lib.hid (B3.out.trans (hb4.mono B3.out.size)); clear hb4))
          go_ret
          exact ⟨rfl, B4.out⟩

theorem walk (A : Option Addr) (n c : Nat) (xs : List Int) (w : World) (hn : xs.length = n) (hnc : n ≤ c) (hcm : c ≤ maxLen) (hs : Seen w A (numsV xs)) (hu : ∀ x ∈ xs, In64 x) :
    Calls Try.prog 4 #[.slice A n c] w fun e w' => e = .returned (.bool true) ∧ Below w.heap.size w w' := by
  by_cases h1 : n ≤ 100
  · exact walkIn A n c xs w hn hs hu h1
  · have h2 : (n : Int) > 100 := by omega
    go_enter Try.func4, Try.ntmps4
    go_wp2_with (go_at_call 6; refine (awake_any w).mono ?_; rintro e w4 ⟨rfl, hb4⟩; have B4 := Lib.hid hb4; clear hb4)
    go_ret
    exact ⟨rfl, B4.out⟩

/-! ### THE ROW -/
theorem own : ownKnob Try.prog.godebug = none := by kernel_rfl

set_option maxRecDepth 100000 in
theorem lifted (os : Os) (started : os.Started) (H : Type) (enc : TypeId × Value → H) :
    ReturnsInHanded {} Try.checked os 4 .any (Rows.heapRisesSpec.pre6 enc Try.prog Try.f4 Rows.heapRisesRow.domain false) (Rows.heapRisesSpec.post enc Try.prog Try.f4 false true false false) := by
  refine returnsInHanded_of_change (C := Try.checked) own started (by kernel_rfl) Try.func4
    (ChangeSpec.witness6 (enc := enc) (C := Try.checked) false ⟨#[], #[.slice none 0 0], []⟩ 8 (by kernel_rfl) (by kernel_rfl) (by kernel_rfl) (by kernel_rfl)) ?_
  intro W base args ds gs before hval0 hW hcnd _
  have hval : ∀ (j : Nat) t v, Try.f4.params[j]? = some t → args[j]? = some v → Value.okWide Try.prog W .any base t v := hval0
  have hW' := hW
  obtain ⟨p, q, hA0, hV, rfl, hfz, hnd⟩ := hW
  have hA : DataW.TrodAll enc Try.prog W 0 (fun _ => true) true Try.f4.params.toList args.toList ds p := hA0
  rw [Try.params4] at hA hval
  obtain ⟨v0, vs0, d0, ds0, p0, q0, hargs, rfl, rfl, h0, r0⟩ := trodAll_cons hA
  obtain ⟨rfl, rfl, rfl⟩ := trodAll_nil r0
  obtain rfl : args = #[v0] := by cases args; simp_all
  obtain ⟨rfl, rfl⟩ := trodVars_none hV
  obtain ⟨A0, n0, c0, us0, rfl, hn0, hnc0, hcm0, hs0, hu0⟩ := open_nums Try.underlying44 Try.underlying3 (by kernel_rfl) (hval 0 44 v0 rfl rfl) h0
  refine (walk A0 n0 c0 us0 W hn0 hnc0 hcm0 hs0 hu0).mono fun e W' ⟨he, hg⟩ => ?_
  subst he
  exact ⟨_, rfl, law_post hW' rfl (by kernel_rfl) (by kernel_rfl) (by kernel_rfl) Try.underlying4 rfl rfl rfl hg⟩

theorem over : Rows.heapRisesRow.holds Try.pinned (OpenSpec.ofChange Rows.heapRisesSpec) :=
  OpenClaim.holds_of_wide 4 Try.f4 rfl rfl rfl rfl rfl rfl rfl ⟨rfl, rfl, rfl, rfl, rfl⟩ rfl rfl rfl rfl rfl (by kernel_rfl) Try.func4 (by kernel_rfl)
    (of_decide_eq_true (by kernel_rfl)) (by unfold Func.isWrapper; first | (rw [if_pos (by decide +kernel)]; kernel_rfl) | (rw [if_neg (by decide +kernel)]; exact ⟨rfl, rfl⟩))
    (fun os started H enc _ => lifted os started H enc)

theorem proved : Rows.HeapRisesSaid :=
  over
#print axioms proved

end Go.Proofs.Ytleibgihaplhnaa.HeapRises
