/-
  Contracts of (*rlog.Log).Get, and of From at any index that a log may have. Conditions: a log in memory.
-/
import Derived.Test.YtigjkmlhpefafaaRlgFrm
import Derived.Deep.RegionWith
namespace Go.Proofs.Ytigjkmlhpefafaa
open Go.ChangeShapes Go.WideShapes Go.ChangeAt Go.RowKit
set_option linter.unusedVariables false

theorem results_cell_2 {P : Program} {fn : Func} {p u : Tmp} {ty : TypeId} (h : fn.results = #[.cell p ty, .tmp u]) (tmps : Array Value) (w : World) (g : Nat) (t : TypeId) (cs : Array Value) (fr : Nat × Nat) (d : TypeDesc) (b : Value)
    (hp : tmps.getD p undef = .pointer (some ⟨g, 0, none⟩)) (hb : tmps.getD u undef = b) (hg : w.heap[g]? = some (.cells cs t fr))
    (hu : P.underlying ty = some d) (hd : (match d with | .struct _ | .array _ _ => true | _ => false) = true) (hi : (P.info? ty).map (·.size) = some cs.size) :
    (results fn tmps).run P w = .ok (.tuple #[.agg cs, b]) w := by
  rw [results_cell_tmp h, hp, hb]
  simp [asAddr, run_loadVar_row w g t ty cs fr d hg hu hd hi, Result.andThen]

theorem RowAt.one {w : World} {b : Nat} {e : Ent} (h : RowAt w b 1 [e]) : w.heap[b]? = some (.cells #[.int .i64 e.t, .int .i64 e.k, .slice e.A e.n e.c] 28 (0, 0)) := by
  obtain ⟨rest, h1, h2⟩ := h
  have := List.length_eq_zero_iff.1 (show rest.length = 0 from h2)
  subst this
  exact h1
/-- what Get hands back -/
def GetRet (d : Dat) (w : World) (en : Ending) (w' : World) : Prop :=
  ∃ A c n, en = .returned (.tuple #[.agg #[.int .i64 d.1, .int .i64 d.2.1, .slice A n c], .bool true]) ∧ EntOk w' ⟨d.1, d.2.1, A, n, c, d.2.2⟩ ∧ Below w.heap.size w w'
attribute [local go_sem ↓] ldEnt_eq stEnt_eq
set_option maxRecDepth 100000 in
set_option maxHeartbeats 2000000 in
theorem Get_in (B g n p : Nat) (q : Option Nat) (base term i : Int) (X : List Ent) (e : Ent) (w : World) (h : LogAt w B g q base term X) (hn : X.length = n) (h0 : 0 ≤ base) (h3 : base ≤ 4611686018427387904) (hp : X[p]? = some e) (hi : i = base + p + 1) (hl : n ≤ 100000) :
    Calls Try.prog 10 #[.pointer (some ⟨g, 0, none⟩), .int .i64 i] w (GetRet e.dat w) := by
  have hpn : p < n := by have := (List.getElem?_eq_some_iff.1 hp).1; omega
  obtain ⟨w1, hw1, hb1, hh1⟩ := ent_box w ⟨0, 0, none, 0, 0, []⟩
  simp only at hw1 hh1
  have hr1 : RowAt w1 w.heap.size 1 [] := ⟨_, hh1, rfl⟩
  have KH := Lib.hid (has_yes B g n q base term i X w1 (h.below hb1) hn h0 (by omega) (by omega) (by omega))
  have H1 := Lib.hid (h.below hb1); have Hn := Lib.hid hn; have Hb1 := Lib.hid hb1; have Hr1 := Lib.hid hr1; have Hp := Lib.hid hp
  have s1 : IntKind.i64.wrap (i - base) = (p : Int) + 1 := by rw [i64_sub (by omega) (by omega)]; omega
  have s2 : IntKind.i64.wrap (p : Int) = (p : Int) := by have := i64_add (a := (p : Int)) (b := 0) (by omega) (by omega); simpa using this
  have p0 : (0 : Int) ≤ (p : Int) := by omega
  have p1 : (p : Int) < (n : Int) := by omega
  clear h hn hi hb1 hr1 hh1 hp
  go_enter Try.func10, Try.ntmps10
  go_upto_region 3 with (go_at_call 18; refine KH.out.mono ?_; rintro en w2 ⟨rfl, hb2⟩; have Hb2 := Lib.hid hb2; clear hb2)
  have H2 := Lib.hid (H1.out.below Hb2.out.drew)
  obtain ⟨A, c, a0, a1, a2, hs⟩ := H2.out.cells
  obtain ⟨gA, oA, rfl, l0, l1, l2⟩ := hs.ent Hp.out
  rw [Hn.out] at a2
  have hld := ldEnt_run l0 l1 l2
  have hok := H2.out.ok e (List.mem_of_getElem? Hp.out)
  have KC := Lib.hid (clone_any e.t e.k e.A e.n e.c e.bs w2.drew hok.len hok.small hok.see.1)
  have Hok := Lib.hid hok
  have hlt1 : w.heap.size < w2.heap.size := Nat.lt_of_lt_of_le Hr1.out.lt Hb2.out.size
  clear hs hok a1 l0 l1 l2
  go_region_with (go_at_call 16; refine KC.out.mono ?_; rintro en w5 ⟨A5, c5, rfl, hown5, hb5⟩; simp only at hown5; obtain ⟨w6, hst, hr6, ht6⟩ := ((Hr1.out.below Hb2.out.drew).below hb5).put (j := 0) rfl (by omega) ⟨e.t, e.k, A5, e.n, c5, e.bs⟩; simp only [Nat.zero_mul] at hst; have Hown5 := Lib.hid hown5; have Hb5 := Lib.hid hb5; have Hr6 := Lib.hid hr6; have Ht6 := Lib.hid ht6; clear hown5 hb5 hr6 ht6)
  all_goals
    go_wp2_with fail
    have hb5 : Below w.heap.size w w5 := (Hb1.out.trans (Hb2.out.drew.mono Hb1.out.size)).trans (Hb5.out.mono (Nat.le_of_lt hlt1))
    have hnb : NoBytes w5 (fun k => k = w.heap.size) := fun k cs fr hk e => by
      obtain ⟨rest, hh, _⟩ := (Hr1.out.below Hb2.out.drew).below Hb5.out
      rw [hk, hh] at e
      injection e with e
      injection e with _ e
      exact absurd e (by decide)
    have hfin : GetRet e.dat w (.returned (.tuple #[.agg #[.int .i64 e.t, .int .i64 e.k, .slice A5 e.n c5], .bool true])) w6 :=
      ⟨A5, c5, e.n, rfl, EntOk.turned (e := ⟨e.t, e.k, A5, e.n, c5, e.bs⟩) ⟨Hok.out.len, Hok.out.small, SeenU.own Hown5.out⟩ Ht6.out hnb, hb5.trans (Ht6.out.below (fun k e => by omega) hb5.size)⟩
    exact bodyPost_ret (v := .tuple #[.agg #[.int .i64 e.t, .int .i64 e.k, .slice A5 e.n c5], .bool true]) (results_cell_2 rfl _ _ w.heap.size 28 #[.int .i64 e.t, .int .i64 e.k, .slice A5 e.n c5] (0, 0) _ (.bool true) rfl rfl Hr6.out.one Try.underlying28 rfl ent_size) rfl hfin

/-! ### From at any index -/
/-- From from the entry behind place on, at most so many -/
theorem From_any (B g n p M : Nat) (q : Option Nat) (base term i : Int) (x : List Dat) (w : World) (h : LogD w B g q base term x) (hn : x.length = n) (h0 : 0 ≤ base) (h3 : base ≤ 4611686018427387904) (hp : p ≤ n) (hi : i = base + p + 1) (hl : n ≤ 100000) (hM : 1 ≤ M) (hM2 : M ≤ 1000000) :
    Calls Try.prog 13 #[.pointer (some ⟨g, 0, none⟩), .int .i64 i, .int .i64 (M : Int)] w (FromRet (min M (n - p)) ((x.drop p).take M) w) := by
  obtain ⟨X, rfl, h⟩ := h
  rw [List.length_map] at hn
  by_cases hpn : p = n
  · have e1 : (X.map Ent.dat).drop p = [] := List.drop_eq_nil_of_le (by rw [List.length_map]; omega)
    rw [e1, List.take_nil, show min M (n - p) = 0 by omega]
    exact From_none B g n q base term i M X w h hn h0 (by omega) (by omega)
  · have := From_some B g n p (min M (n - p)) q base term i (M : Int) X w h hn h0 h3 (by omega) hi hl (by omega) (by omega)
    have e1 : ((X.map Ent.dat).drop p).take (min M (n - p)) = ((X.map Ent.dat).drop p).take M := by
      have hlen : ((X.map Ent.dat).drop p).length = n - p := by rw [List.length_drop, List.length_map, hn]
      by_cases hc : M ≤ n - p
      · rw [Nat.min_eq_left hc]
      · rw [Nat.min_eq_right (by omega), List.take_of_length_le (by omega), List.take_of_length_le (by omega)]
    rw [e1] at this
    exact this
end Go.Proofs.Ytigjkmlhpefafaa
