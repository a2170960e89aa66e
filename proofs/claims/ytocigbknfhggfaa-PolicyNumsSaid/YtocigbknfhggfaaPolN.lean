/-
  Contracts of policy.Nums and policy.From. Conditions: what the arguments read as.
-/
import Derived.Test.YtocigbknfhggfaaPolA
import Derived.StillTailTactics
import Derived.Laws.ResultCell
namespace Go.Proofs.Ytocigbknfhggfaa
open Go.ChangeShapes Go.WideShapes Go.ChangeAt Go.RowKit
set_option linter.unusedVariables false

def numsOf (p : Pol) : List Int := [p.re, p.we, p.li, p.bu]
def fromP : List Int → Option Pol
  | [a, b, c, d] => if rightP ⟨a, b, c, d⟩ = true then some ⟨a, b, c, d⟩ else none
  | _ => none
theorem from_nums (p : Pol) : fromP (numsOf p) = if rightP p = true then some p else none := rfl
theorem from_some {ns : List Int} {p : Pol} (h : fromP ns = some p) : rightP p = true ∧ numsOf p = ns := by
  unfold fromP at h
  split at h
  · split at h
    · rename_i hr
      injection h with h
      subst h
      exact ⟨hr, rfl⟩
    · cases h
  · cases h
theorem nums_in {p : Pol} (h : InP p) : ∀ x ∈ numsOf p, In64 x := by
  intro x hx
  simp only [numsOf, List.mem_cons, List.not_mem_nil, or_false] at hx
  obtain ⟨h1, h2, h3, h4⟩ := h
  rcases hx with rfl | rfl | rfl | rfl <;> assumption

set_option maxRecDepth 100000 in
theorem Nums_any (p : Pol) (w : World) (hp : InP p) : Calls Try.prog 15 #[.agg #[.int .i64 p.re, .int .i64 p.we, .int .i64 p.li, .int .i64 p.bu]] w fun e w' => ∃ A, e = .returned (.slice A 4 4) ∧ Seen w' A (numsV (numsOf p)) ∧ Below w.heap.size w w' := by
  obtain ⟨re, we, li, bu⟩ := p
  simp only [numsOf]
  obtain ⟨w1, hw1⟩ : ∃ w1, w.alloc (.cells #[.int .i64 re, .int .i64 we, .int .i64 li, .int .i64 bu] 26) = w1 := ⟨_, rfl⟩
  have hb1 : Below w.heap.size w w1 := by rw [← hw1]; exact below_box _ _
  have ⟨c0, c1, c2, c3, _⟩ : PolAt w1 w.heap.size 0 ⟨re, we, li, bu⟩ := by rw [← hw1]; exact pol_of_row (heap_alloc_new _ _) hp
  simp only at c0 c1 c2 c3
  have Hb1 := Lib.hid hb1; clear hb1
  go_enter Try.func15, Try.ntmps15
  go_wp2
  go_ret
  exact ⟨_, rfl, Seen.of_cells (heap_alloc_new _ _), Hb1.out.alloc Hb1.out.size _⟩

theorem results_cell_2 {P : Program} {fn : Func} {p u : Tmp} {ty : TypeId} (h : fn.results = #[.cell p ty, .tmp u]) (tmps : Array Value) (w : World) (g : Nat) (t : TypeId) (cs : Array Value) (fr : Nat × Nat) (d : TypeDesc) (b : Value)
    (hp : tmps.getD p undef = .pointer (some ⟨g, 0, none⟩)) (hb : tmps.getD u undef = b) (hg : w.heap[g]? = some (.cells cs t fr))
    (hu : P.underlying ty = some d) (hd : (match d with | .struct _ | .array _ _ => true | _ => false) = true) (hi : (P.info? ty).map (·.size) = some cs.size) :
    (results fn tmps).run P w = .ok (.tuple #[.agg cs, b]) w := by
  rw [results_cell_tmp h, hp, hb]
  simp [asAddr, run_loadVar_row w g t ty cs fr d hg hu hd hi, Result.andThen]

theorem below_setRow {w w' : World} (h : Below w.heap.size w w') (new : Array Value) : Below w.heap.size w (w'.setRow w.heap.size new) := h.trans ⟨rfl, rfl, rfl, by simp, fun q hq => setRow_other w' w.heap.size q _ (by omega)⟩
attribute [local go_sem ↓] ldPol_eq
set_option maxRecDepth 100000 in
set_option maxHeartbeats 2000000 in
theorem From_any (A : Option Addr) (n c : Nat) (ns : List Int) (w : World) (hn : ns.length = n) (hm : n ≤ maxLen) (hs : Seen w A (numsV ns)) (hi : ∀ x ∈ ns, In64 x) :
    Calls Try.prog 14 #[.slice A n c] w fun e w' => (match fromP ns with | some p => e = .returned (.tuple #[.agg #[.int .i64 p.re, .int .i64 p.we, .int .i64 p.li, .int .i64 p.bu], .bool true]) | none => e = .returned (.tuple #[.agg #[.int .i64 0, .int .i64 0, .int .i64 0, .int .i64 0], .bool false])) ∧ Below w.heap.size w w' := by
  unfold maxLen at hm
  by_cases h4 : n = 4
  · subst h4
    match ns, hn with
    | [a, b, d, e], _ =>
      obtain ⟨g, o, hA, hc⟩ : ∃ g o, A = some ⟨g, o, none⟩ ∧ ∀ (j : Nat) v, (numsV [a, b, d, e])[j]? = some v → w.cell? ⟨g, o + j, none⟩ = some v := by
        rcases hs with h | h
        · cases h
        · exact h
      subst hA
      obtain ⟨w1, hw1⟩ : ∃ w1, w.alloc (.cells #[.int .i64 0, .int .i64 0, .int .i64 0, .int .i64 0] 26) = w1 := ⟨_, rfl⟩
      have hb1 : Below w.heap.size w w1 := by rw [← hw1]; exact below_box _ _
      have hg1 : w1.heap[w.heap.size]? = some (.cells #[.int .i64 0, .int .i64 0, .int .i64 0, .int .i64 0] 26 (0, 0)) := by rw [← hw1]; exact heap_alloc_new _ _
      have c0 : w1.cell? ⟨g, o, none⟩ = some (.int .i64 a) := (hb1.cell (block_lt_of_cell (hc 0 _ rfl))).trans (hc 0 _ rfl)
      have c1 : w1.cell? ⟨g, o + 1, none⟩ = some (.int .i64 b) := (hb1.cell (block_lt_of_cell (hc 1 _ rfl))).trans (hc 1 _ rfl)
      have c2 : w1.cell? ⟨g, o + 2, none⟩ = some (.int .i64 d) := (hb1.cell (block_lt_of_cell (hc 2 _ rfl))).trans (hc 2 _ rfl)
      have c3 : w1.cell? ⟨g, o + 3, none⟩ = some (.int .i64 e) := (hb1.cell (block_lt_of_cell (hc 3 _ rfl))).trans (hc 3 _ rfl)
      have f0 : ∀ ob, (w1.alloc ob).cell? ⟨g, o, none⟩ = some (.int .i64 a) := fun ob => (World.cell?_alloc_lt _ _ _ (block_lt_of_cell c0)).trans c0
      have f1 : ∀ ob, (w1.alloc ob).cell? ⟨g, o + 1, none⟩ = some (.int .i64 b) := fun ob => (World.cell?_alloc_lt _ _ _ (block_lt_of_cell c1)).trans c1
      have f2 : ∀ ob, (w1.alloc ob).cell? ⟨g, o + 2, none⟩ = some (.int .i64 d) := fun ob => (World.cell?_alloc_lt _ _ _ (block_lt_of_cell c2)).trans c2
      have f3 : ∀ ob, (w1.alloc ob).cell? ⟨g, o + 3, none⟩ = some (.int .i64 e) := fun ob => (World.cell?_alloc_lt _ _ _ (block_lt_of_cell c3)).trans c3
      have Hb1 := Lib.hid hb1; have Hg1 := Lib.hid hg1; have Hi := Lib.hid hi
      clear hb1 hg1
      have C := fun w => Right_any ⟨a, b, d, e⟩ w
      have hfrom : fromP [a, b, d, e] = if rightP ⟨a, b, d, e⟩ = true then some ⟨a, b, d, e⟩ else none := rfl
      rw [hfrom]
      obtain ⟨r, hr⟩ : ∃ r, rightP ⟨a, b, d, e⟩ = r := ⟨_, rfl⟩
      simp only [hr] at C ⊢
      have C := Lib.hid C
      clear hr hfrom
      clear hc hs hi
      go_enter Try.func14, Try.ntmps14
      go_wp2
      go_region
      obtain ⟨w2, hw2, hb2, hz2, hv2⟩ : ∃ w2, (w1.alloc (.cells #[.int .i64 a, .int .i64 b, .int .i64 d, .int .i64 e] 26)).drew = w2 ∧ Below w.heap.size w w2 ∧ w2.heap[w.heap.size]? = some (.cells #[.int .i64 0, .int .i64 0, .int .i64 0, .int .i64 0] 26 (0, 0)) ∧ PolAt w2 w1.heap.size 0 ⟨a, b, d, e⟩ :=
        ⟨_, rfl, below_drewN (Hb1.out.alloc Hb1.out.size _) 1, row_below (w' := w1.alloc _) Hg1.out (below_box _ _), pol_of_row (w := (w1.alloc _).drew) (heap_alloc_new _ _) ⟨Hi.out _ (by simp), Hi.out _ (by simp), Hi.out _ (by simp), Hi.out _ (by simp)⟩⟩
      rw [hw2]
      clear f0 f1 f2 f3 c0 c1 c2 c3 hw1 hw2
      have Hld := Lib.hid (fun (w' : World) (hb : Below w2.heap.size w2 w') => ldPol_run (hv2.below hb))
      simp only at Hld
      have hld2 := Hld.out w2 (Below.refl _ _)
      have Hb2 := Lib.hid hb2; have Hz2 := Lib.hid hz2
      clear hb2 hz2 hv2
      cases r with
      | false =>
        go_wp2_with (first
          | (go_at_call 8; refine (C.out _).mono ?_; rintro ee w3 ⟨rfl, hb3⟩; have Hb3 := Lib.hid (Hb2.out.trans (hb3.mono Hb2.out.size)); have Hz3 := Lib.hid (row_below Hz2.out hb3); have hld3 := Hld.out w3 hb3; clear hb3)
          | (refine wpList_store_row rfl 26 (.tmp 2) (.tmp 25) rfl w.heap.size #[.int .i64 0, .int .i64 0, .int .i64 0, .int .i64 0] rfl rfl 26 _ Hz3.out pol_info rfl (by simp [Value.oneCell']) ?_))
        refine bodyPost_ret (v := .tuple #[.agg #[.int .i64 0, .int .i64 0, .int .i64 0, .int .i64 0], .bool false]) (results_cell_2 rfl _ _ w.heap.size 26 #[.int .i64 0, .int .i64 0, .int .i64 0, .int .i64 0] (0, 0) _ (.bool false) rfl rfl (setRow_heap _ w.heap.size _ _ _ (0, 0) Hz3.out) Try.underlying26 rfl pol_info) rfl ?_
        exact ⟨rfl, below_setRow Hb3.out _⟩
      | true =>
        go_wp2_with (first
          | (go_at_call 8; refine (C.out _).mono ?_; rintro ee w3 ⟨rfl, hb3⟩; have Hb3 := Lib.hid (Hb2.out.trans (hb3.mono Hb2.out.size)); have Hz3 := Lib.hid (row_below Hz2.out hb3); have hld3 := Hld.out w3 hb3; clear hb3)
          | (refine wpList_store_row rfl 26 (.tmp 2) (.tmp 26) rfl w.heap.size #[.int .i64 a, .int .i64 b, .int .i64 d, .int .i64 e] rfl rfl 26 _ Hz3.out pol_info rfl (by simp [Value.oneCell']) ?_))
        refine bodyPost_ret (v := .tuple #[.agg #[.int .i64 a, .int .i64 b, .int .i64 d, .int .i64 e], .bool true]) (results_cell_2 rfl _ _ w.heap.size 26 #[.int .i64 a, .int .i64 b, .int .i64 d, .int .i64 e] (0, 0) _ (.bool true) rfl rfl (setRow_heap _ w.heap.size _ _ _ (0, 0) Hz3.out) Try.underlying26 rfl pol_info) rfl ?_
        exact ⟨rfl, below_setRow Hb3.out _⟩
  · have hq : fromP ns = none := by
      unfold fromP
      split
      · simp at hn; omega
      · rfl
    rw [hq]
    have h5 : ((n : Int) != 4) = true := by simp; omega
    clear hq
    have Hz := Lib.hid (heap_alloc_new w (.cells #[.int .i64 0, .int .i64 0, .int .i64 0, .int .i64 0] 26))
    have Hb := Lib.hid (below_box w (.cells #[.int .i64 0, .int .i64 0, .int .i64 0, .int .i64 0] 26))
    go_enter Try.func14, Try.ntmps14
    go_wp2_with (refine wpList_store_row rfl 26 (.tmp 2) (.tmp 8) rfl w.heap.size #[.int .i64 0, .int .i64 0, .int .i64 0, .int .i64 0] rfl rfl 26 _ Hz.out pol_info rfl (by simp [Value.oneCell']) ?_)
    refine bodyPost_ret (v := .tuple #[.agg #[.int .i64 0, .int .i64 0, .int .i64 0, .int .i64 0], .bool false]) (results_cell_2 rfl _ _ w.heap.size 26 #[.int .i64 0, .int .i64 0, .int .i64 0, .int .i64 0] (0, 0) _ (.bool false) rfl rfl (setRow_heap _ w.heap.size _ _ _ (0, 0) Hz.out) Try.underlying26 rfl pol_info) rfl ?_
    exact ⟨rfl, below_setRow Hb.out _⟩
theorem From_yes (A : Option Addr) (n c : Nat) (ns : List Int) (p : Pol) (w : World) (hn : ns.length = n) (hm : n ≤ maxLen) (hs : Seen w A (numsV ns)) (hi : ∀ x ∈ ns, In64 x) (hf : fromP ns = some p) :
    Calls Try.prog 14 #[.slice A n c] w fun e w' => e = .returned (.tuple #[.agg #[.int .i64 p.re, .int .i64 p.we, .int .i64 p.li, .int .i64 p.bu], .bool true]) ∧ Below w.heap.size w w' := by
  have h := From_any A n c ns w hn hm hs hi
  rw [hf] at h
  exact h
theorem From_no (A : Option Addr) (n c : Nat) (ns : List Int) (w : World) (hn : ns.length = n) (hm : n ≤ maxLen) (hs : Seen w A (numsV ns)) (hi : ∀ x ∈ ns, In64 x) (hf : fromP ns = none) :
    Calls Try.prog 14 #[.slice A n c] w fun e w' => e = .returned (.tuple #[.agg #[.int .i64 0, .int .i64 0, .int .i64 0, .int .i64 0], .bool false]) ∧ Below w.heap.size w w' := by
  have h := From_any A n c ns w hn hm hs hi
  rw [hf] at h
  exact h
end Go.Proofs.Ytocigbknfhggfaa
