/-
  rlog's contracts at a log that says x; awake of dotterellaw14. Conditions: a log in memory.
-/
import Derived.Test.YtigjkmlhpefafaaRlgMch
import Derived.Test.YtigjkmlhpefafaaRlgCut
import Derived.Test.YtigjkmlhpefafaaRlgGet
import Derived.Test.YtigjkmlhpefafaaRlgSam
namespace Go.Proofs.Ytigjkmlhpefafaa
open Go.ChangeShapes Go.WideShapes Go.ChangeAt Go.RowKit
set_option linter.unusedVariables false

theorem GrewL.below {w w' : World} {B g : Nat} {q : Option Nat} {base term base0 term0 : Int} {x x0 : List Dat} (h : GrewL B g q base term x w w') (h0 : LogD w B g q base0 term0 x0) (hB : B ≤ w.heap.size) : Below B w w' := by
  obtain ⟨q', _, _, t⟩ := h
  exact t.below (fun k hk => (h0.block hk).1) hB
theorem Last_D (B g n : Nat) (q : Option Nat) (base term : Int) (x : List Dat) (w : World) (h : LogD w B g q base term x) (hn : x.length = n) (h0 : 0 ≤ base) (h3 : base ≤ 4611686018427387904) (hl : n ≤ 1000000) :
    Calls Try.prog 9 #[.pointer (some ⟨g, 0, none⟩)] w fun e w' => e = .returned (.tuple #[.int .i64 (base + n), .int .i64 (termN term x n)]) ∧ Below w.heap.size w w' := by
  obtain ⟨X, rfl, h⟩ := h
  rw [List.length_map] at hn
  have := Last_any B g n q base term X w h hn h0 h3 hl
  rw [lastT_eq, hn] at this
  exact this
theorem Term_D (B g p : Nat) (q : Option Nat) (base term prev : Int) (x : List Dat) (w : World) (h : LogD w B g q base term x) (h0 : 0 ≤ base) (hp : p ≤ x.length) (hi : prev = base + p) (h3 : prev ≤ 9223372036854775807) (hl : x.length ≤ 1000000) :
    Calls Try.prog 17 #[.pointer (some ⟨g, 0, none⟩), .int .i64 prev] w fun e w' => e = .returned (.tuple #[.int .i64 (termN term x p), .bool true]) ∧ Below w.heap.size w w' := by
  obtain ⟨X, rfl, h⟩ := h
  rw [List.length_map] at hp hl
  exact Term_at B g p q base term prev X w h h0 hp hi h3 hl
theorem Match_D (B g p n m : Nat) (q : Option Nat) (base term prev t : Int) (x : List Dat) (Y : List Ent) (C : Option Addr) (d : Nat) (w : World) (h : LogD w B g q base term x) (hn : x.length = n) (h0 : 0 ≤ base) (h3 : base ≤ 4611686018427387904) (hl : n ≤ 50000) (hp : p ≤ n) (hi : prev = base + p) (ht : t = termN term x p)
    (hY : EntsAt w C Y) (hm : Y.length = m) (hml : m ≤ 50000) (hmd : m ≤ d) (hC : ∀ gC o, C = some ⟨gC, o, none⟩ → Y ≠ [] → ¬ FootL g q gC) (hBw : B ≤ w.heap.size) :
    Calls Try.prog 14 #[.pointer (some ⟨g, 0, none⟩), .int .i64 prev, .int .i64 t, .slice C m d] w (MatchRet B g p q base term x (Y.map Ent.dat) w) := by
  obtain ⟨X, rfl, h⟩ := h
  subst ht
  rw [List.length_map] at hn
  exact Match_at B g p n m q base term prev X Y C d w h hn h0 h3 hl hp hi hY hm hml hmd hC hBw
theorem Match_noneD (B g n m : Nat) (q : Option Nat) (base term prev t : Int) (x : List Dat) (C : Option Addr) (d : Nat) (w : World) (h : LogD w B g q base term x) (hn : x.length = n) (h0 : 0 ≤ base) (hi : prev < base ∨ base + n < prev) (h3 : prev ≤ 9223372036854775807) :
    Calls Try.prog 14 #[.pointer (some ⟨g, 0, none⟩), .int .i64 prev, .int .i64 t, .slice C m d] w fun e w' => e = .returned (.tuple #[.int .i64 0, .bool false]) ∧ Below w.heap.size w w' := by
  obtain ⟨X, rfl, h⟩ := h
  rw [List.length_map] at hn
  exact Match_none B g n m q base term prev t X C d w h hn h0 hi h3
theorem Cut_D (B g n p : Nat) (q : Option Nat) (base term i : Int) (x : List Dat) (w : World) (h : LogD w B g q base term x) (hn : x.length = n) (h0 : 0 ≤ base) (h3 : base ≤ 4611686018427387904) (hp : p ≤ n) (hi : i = base + p) (hl : n ≤ 100000) (hBw : B ≤ w.heap.size) :
    Calls Try.prog 12 #[.pointer (some ⟨g, 0, none⟩), .int .i64 i] w (CutRet B g q i (termN term x p) (x.drop p) w) := by
  obtain ⟨X, rfl, h⟩ := h
  rw [List.length_map] at hn
  exact Cut_at B g n p q base term i X w h hn h0 h3 hp hi hl hBw
theorem Cut_noD (B g n : Nat) (q : Option Nat) (base term i : Int) (x : List Dat) (w : World) (h : LogD w B g q base term x) (hn : x.length = n) (h0 : 0 ≤ base) (hi : i < base ∨ base + n < i) (h3 : i ≤ 9223372036854775807) :
    Calls Try.prog 12 #[.pointer (some ⟨g, 0, none⟩), .int .i64 i] w fun e w' => e = .returned (.bool false) ∧ Below w.heap.size w w' := by
  obtain ⟨X, rfl, h⟩ := h
  rw [List.length_map] at hn
  exact Cut_no B g n q base term i X w h hn h0 hi h3
theorem Get_D (B g n p : Nat) (q : Option Nat) (base term i : Int) (x : List Dat) (d : Dat) (w : World) (h : LogD w B g q base term x) (hn : x.length = n) (h0 : 0 ≤ base) (h3 : base ≤ 4611686018427387904) (hp : x[p]? = some d) (hi : i = base + p + 1) (hl : n ≤ 100000) :
    Calls Try.prog 10 #[.pointer (some ⟨g, 0, none⟩), .int .i64 i] w (GetRet d w) := by
  obtain ⟨X, rfl, h⟩ := h
  rw [List.length_map] at hn
  rw [List.getElem?_map, Option.map_eq_some_iff] at hp
  obtain ⟨e, he, rfl⟩ := hp
  exact Get_in B g n p q base term i X e w h hn h0 h3 he hi hl

/-! ### awake -/
/-- one entry in a slice of its own -/
theorem EntsAt.one (w : World) (e : Ent) (he : EntOk w e) : EntsAt (w.alloc (.cells #[.int .i64 e.t, .int .i64 e.k, .slice e.A e.n e.c] 28)) (some ⟨w.heap.size, 0, none⟩) [e] :=
  ⟨Seen.of_cells (heap_alloc_new w _), fun x hx => by
    rw [List.mem_singleton.1 hx]
    exact he.below ((Below.refl _ _).alloc (Nat.le_refl _) _)⟩
/-- entries of one term, matched with one of another -/
theorem agree_zero {a b : Dat} {k : Nat} (h : IsAgree [a] [b] k) (hab : a.1 ≠ b.1) : k = 0 := by
  have h1 := h.lx
  by_cases hk : k = 0
  · exact hk
  · exact absurd (h.same 0 a b (by omega) rfl rfl) hab
set_option maxRecDepth 100000 in
set_option maxHeartbeats 2000000 in
theorem awake_any (w : World) : Calls Try.prog 5 #[] w fun e w' => e = .returned (.bool true) ∧ Below w.heap.size w w' := by
  go_enter Try.func5, Try.ntmps5
  go_wp2_with fail
  refine (New_yes 0 0 w (by omega) (by omega)).mono ?_
  rintro en w1 ⟨rfl, h1, b1, -⟩
  have B1 := Lib.hid b1
  have H1 := Lib.hid h1
  clear b1 h1
  go_wp2_with fail
  refine (Push_any w.heap.size w.heap.size 0 none 0 0 [] 1 0 none 0 0 [] w1 H1.out rfl (by omega) (by omega) (by omega) rfl (by omega) (Seen.nil _ _) B1.out.size).mono ?_
  rintro en w2 ⟨rfl, h2⟩
  have B2 := Lib.hid (B1.out.trans (h2.below H1.out B1.out.size))
  obtain ⟨q2, h2, -, -⟩ := h2
  have H2 := Lib.hid h2
  clear h2
  go_wp2_with fail
  refine (Push_any w.heap.size w.heap.size 1 q2 0 0 _ 1 0 none 0 0 [] w2 H2.out rfl (by omega) (by omega) (by omega) rfl (by omega) (Seen.nil _ _) B2.out.size).mono ?_
  rintro en w3 ⟨rfl, h3⟩
  have B3 := Lib.hid (B2.out.trans (h3.below H2.out B2.out.size))
  obtain ⟨q3, h3, -, -⟩ := h3
  have H3 := Lib.hid h3
  clear h3
  go_wp2_with fail
  refine (Match_D w.heap.size w.heap.size 1 2 1 q3 0 0 1 1 _ [⟨2, 0, none, 0, 0, []⟩] (some ⟨w3.heap.size, 0, none⟩) 1 _ (H3.out.below ((Below.refl _ _).alloc (Nat.le_refl _) _)) rfl (by omega) (by omega) (by omega) (by omega) (by omega) rfl (EntsAt.one w3 ⟨2, 0, none, 0, 0, []⟩ ⟨rfl, by show 0 ≤ 10000; omega, SeenU.nil _ _⟩) rfl (by omega) (by omega) (fun gC o e _ hf => by injection e with e; injection e with e; subst e; have := (H3.out.block hf).2; omega) (by have := B3.out.size; simp; omega)).mono ?_
  rintro en w4 ⟨k, hk, h4⟩
  obtain rfl := agree_zero hk (by decide)
  obtain ⟨h4, -⟩ | ⟨-, rfl, h4⟩ := h4
  · exact absurd h4 (by decide)
  have B4 := Lib.hid ((B3.out.alloc B3.out.size _).trans (h4.below (H3.out.below ((Below.refl _ _).alloc (Nat.le_refl _) _)) (by have := B3.out.size; simp; omega)))
  obtain ⟨q4, h4, -, -⟩ := h4
  have H4 := Lib.hid h4
  clear h4 hk
  go_wp2_with fail
  refine (Last_D w.heap.size w.heap.size 2 q4 0 0 _ w4 H4.out rfl (by omega) (by omega) (by omega)).mono ?_
  rintro en w5 ⟨rfl, b5⟩
  have B5 := Lib.hid (B4.out.trans (b5.mono B4.out.size))
  clear b5
  have hT : termN 0 ((([] ++ [((1 : Int), (0 : Int), ([] : List UInt8))] ++ [(1, 0, [])]).take (1 + 0)) ++ (([⟨2, 0, none, 0, 0, []⟩] : List Ent).map Ent.dat).drop 0) 2 = 2 := rfl
  rw [hT]
  clear hT
  go_wp2_with (go_at_call 6; refine (New_no (-1) w5 (by omega)).mono ?_; rintro en w6 ⟨rfl, rfl⟩)
  go_ret
  exact ⟨rfl, B5.out⟩
end Go.Proofs.Ytigjkmlhpefafaa
