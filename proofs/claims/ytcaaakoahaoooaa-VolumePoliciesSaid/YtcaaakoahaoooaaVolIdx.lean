/-
  Contracts of slices.IndexFunc and ContainsFunc at chunks, with a predicate that reads. Conditions: how the chunks lie; the predicate's contract.
-/
import Derived.Test.YtcaaakoahaoooaaVolSrv
namespace Go.Proofs.Ytcaaakoahaoooaa
open Go.ChangeShapes Go.WideShapes Go.ChangeAt Go.RowKit
set_option linter.unusedVariables false

def ckA (k : Ck) : Value := .agg #[.int .i64 k.id, .int .i64 k.vo, .int .i64 k.ep, .slice k.m.A k.m.n k.m.c, .slice k.j.A k.j.n k.j.c]
/-- what a predicate says of chunks, from a world on -/
def PredK (fn : Nat) (lb : Array Value) (p : Chk → Bool) (X : List Ck) (w : World) : Prop :=
  ∀ W k, Below w.heap.size w W → k ∈ X → Calls Try.prog fn (#[ckA k] ++ lb) W fun e W' => e = .returned (.bool (p k.dat)) ∧ Below W.heap.size W W'
def IxRet (p : Chk → Bool) (X : List Ck) (w : World) (e : Ending) (w' : World) : Prop :=
  ∃ i : Int, e = .returned (.int .i64 i) ∧ (0 ≤ i ↔ (X.map Ck.dat).any p = true) ∧ -1 ≤ i ∧ i ≤ 1000 ∧ Below w.heap.size w w'
attribute [local go_sem ↓] ldCk_eq
set_option maxRecDepth 100000 in
set_option maxHeartbeats 1000000 in
theorem VIndexFunc (S : Sl) (X : List Ck) (fn : Nat) (a0 : Value) (p : Chk → Bool) (w : World) (h : KsT w S X) (hl : X.length ≤ 64) (hp : PredK fn #[a0] p X w) (eg : ∀ args w, (callFunc fn args).run Try.prog w = .ok (.enter fn args) w) :
    Calls Try.prog 56 #[.slice S.A S.n S.c, .func (.func fn) #[] #[a0]] w (IxRet p X w) := by
  obtain ⟨A0, n, c0⟩ := S
  have hlen := h.len
  simp only at hlen ⊢
  have Hk := Lib.hid h; have Hn := Lib.hid hlen; have Hp := Lib.hid hp
  have hn6 : n ≤ 64 := by omega
  clear h hlen hl hp
  go_enter Try.func56, Try.ntmps56
  go_wp2
  go_loopw [8] (fun iv wr => ∃ i : Nat, i ≤ n ∧ iv = .int .i64 (i : Int) ∧ ((X.take i).map Ck.dat).any p = false ∧ Below w.heap.size w wr) (fun iv _ => n - (intOf iv).toNat)
  case atStart => exact ⟨0, by omega, rfl, rfl, Below.refl _ _⟩
  case round =>
    obtain ⟨i, hin, rfl, hno, hb⟩ := hrel
    by_cases hi : i < n
    · obtain ⟨k, hx⟩ : ∃ r, X[i]? = some r := ⟨_, List.getElem?_eq_getElem (by have := Hn.out; omega)⟩
      obtain ⟨g1, o1, hA, hat⟩ := (Hk.out.below hb).get hx
      simp only at hA
      subst hA
      have hld := ldCk_run hat
      have i0 : (0 : Int) ≤ (i : Int) := by omega
      have i1 : (i : Int) < (n : Int) := by omega
      have C := Lib.hid (Hp.out wr k hb (List.mem_of_getElem? hx))
      have htk : X.take (i + 1) = X.take i ++ [k] := by
        obtain ⟨h1, h2⟩ := List.getElem?_eq_some_iff.1 hx
        rw [List.take_succ_eq_append_getElem h1, h2]
      obtain ⟨b, hb0⟩ : ∃ b, p k.dat = b := ⟨_, rfl⟩
      rw [hb0] at C
      have Hb := Lib.hid hb; have Hno := Lib.hid hno; have Htk := Lib.hid htk; have Hb0 := Lib.hid hb0; have Hm := Lib.hid (List.mem_of_getElem? hx)
      clear hb hno htk hb0 hx hat
      cases b with
      | true =>
        go_wp2_with (refine C.out.mono ?_; rintro e w' ⟨rfl, hb3⟩; have Hb3 := Lib.hid (Hb.out.trans (hb3.mono Hb.out.size)); clear hb3)
        go_ret
        refine ⟨(i : Int), rfl, ⟨fun _ => ?_, fun _ => i0⟩, by omega, by omega, Hb3.out⟩
        rw [List.any_eq_true]
        exact ⟨k.dat, List.mem_map.2 ⟨k, Hm.out, rfl⟩, Hb0.out⟩
      | false =>
        go_wp2_with (refine C.out.mono ?_; rintro e w' ⟨rfl, hb3⟩; have Hb3 := Lib.hid (Hb.out.trans (hb3.mono Hb.out.size)); clear hb3)
        go_roundw
        case rel => exact ⟨i + 1, by omega, by go_num, by rw [Htk.out, List.map_append, List.any_append, Hno.out]; simp [Hb0.out], Hb3.out⟩
        case measure => simp [intOf]; omega
    · obtain rfl : i = n := by omega
      have i1 : ¬ (i : Int) < (i : Int) := by omega
      have hty : X.take i = X := List.take_of_length_le (by rw [Hn.out]; exact Nat.le_refl _)
      rw [hty] at hno
      have Hno := Lib.hid hno; have Hb := Lib.hid hb
      clear hno hb hty
      go_wp2
      go_ret
      exact ⟨-1, rfl, ⟨fun h => by omega, fun h => by rw [Hno.out] at h; cases h⟩, by omega, by omega, Hb.out⟩
set_option maxRecDepth 100000 in
set_option maxHeartbeats 1000000 in
theorem VContainsFunc (S : Sl) (X : List Ck) (fn : Nat) (a0 : Value) (p : Chk → Bool) (w : World) (h : KsT w S X) (hl : X.length ≤ 64) (hp : PredK fn #[a0] p X w) (eg : ∀ args w, (callFunc fn args).run Try.prog w = .ok (.enter fn args) w) :
    Calls Try.prog 31 #[.slice S.A S.n S.c, .func (.func fn) #[] #[a0]] w fun e w' => e = .returned (.bool ((X.map Ck.dat).any p)) ∧ Below w.heap.size w w' := by
  have C := Lib.hid (VIndexFunc S X fn a0 p w h hl hp eg)
  clear h hl hp
  obtain ⟨b, hb⟩ : ∃ b, (X.map Ck.dat).any p = b := ⟨_, rfl⟩
  have Hb := Lib.hid hb
  rw [hb]
  clear hb
  go_enter Try.func31, Try.ntmps31
  go_wp2_with (go_at_call 56; refine C.out.mono ?_; rintro e w' ⟨i, rfl, hi, h1, h2, hb3⟩; have Hi := Lib.hid hi; have Hb3 := Lib.hid hb3; clear hi hb3)
  go_ret
  refine ⟨bool_eq ?_, Hb3.out⟩
  have := Hi.out
  rw [Hb.out] at this
  rw [Bool.eq_iff_iff, decide_eq_true_eq]
  exact this
end Go.Proofs.Ytcaaakoahaoooaa
