/-
  Contracts of maps.Copy (into a map that has nobody), with and Put of the table. Conditions: what each names.
-/
import Derived.Test.YtkjfaijdmpnjkaaDupFn
import Derived.Laws.IdiomRangeMap
namespace Go.Proofs.Ytkjfaijdmpnjkaa
open Go.ChangeShapes Go.WideShapes Go.ChangeAt Go.RowKit Go.Maps
set_option linter.unusedVariables false

set_option maxHeartbeats 4000000 in
set_option maxRecDepth 100000 in
theorem Copy_some (bd bs : Nat) (x : List Lst) (w : World) (hd : TabM w bd []) (hs : TabM w bs x) (hne : bd ≠ bs) (hx : x.length ≤ 1000) :
    Calls Try.prog 28 #[.map (some bd), .map (some bs)] w fun e w' => e = .returned (.tuple #[]) ∧ TabM w' bd x ∧ w.grownBy w' (some bd) := by
  have hbd := hd.lt
  have hbs := hs.lt
  have T := Try.underlying24
  go_enter Try.func28, Try.ntmps28
  go_wp2_with (at_range; refine wpList_range_own _ rfl _ 24 rfl 3 54 keyed T lsR bs x.length _ rfl hs ?_; intro w0 hrg0 hg0 hs0)
  go_frame
  go_loopw [8] (fun _ wr => ∃ (left : Lit → Bool) (cnt : Nat) (Dout : DataW Value), wr.ranges Try.prog 3 lsR bs w.heap.size x.length (tabD x) left cnt ∧ cnt ≤ x.length ∧
      wr.ownsMap Try.prog 3 lsR bd (x.length - cnt) Dout ∧ Agree Dout (tabD x) left ∧ w.grownBy wr (some bd))
    (fun _ wr => wr.rangeLeft bs w.heap.size)
  case atStart =>
    exact ⟨_, _, .map [], hrg0, by rw [tabD_size]; exact Nat.le_refl _, (hd.kept hg0 (by simp)).mono (Nat.zero_le _), agree_start _, hg0.but _⟩
  case round =>
    obtain ⟨left, cnt, Dout, hrg, hcs, hout, hA, hgw⟩ := hrel
    go_wp2_with (first
      | (at_next; refine wpList_next_ranges _ rfl _ rfl 3 keyed lsR (Value.int .i64) (fun c : Int × Int => Value.agg #[.int .i64 c.1, .int .i64 c.2]) (fun key kl hkey => by obtain ⟨x, rfl, _⟩ := Maps.keyOf_int_inv Try.underlying3 hkey; exact ⟨x, rfl⟩) (fun v y hv => lsR_inv hv) bs w.heap.size x.length _ _ _ rfl hrg ?_ ?_)
      | go_in)
    · intro hc0 hl0
      go_wp2
      go_end0
      subst hc0
      have e := agree_end hA hl0 (hout.canon keyed) (hrg.owns.canon keyed)
      subst e
      exact ⟨rfl, hout, hgw⟩
    · intro k c1 c2 kl yd yp w1 cnt1 hkey hlk hv2 hat hrg1 hlt hg1 hs1 hen
      have hout1 := hout.kept hg1 (fun e => by have := Option.some.inj e; omega)
      have hout2 := hout1.alloc (.cells #[.int .i64 c1, .int .i64 c2] 54)
      go_wp2_with (first
        | (at_mapUpdate; refine wpList_mapUpdate_own _ rfl _ _ _ 24 rfl 3 54 keyed T lsR bd _ _ rfl hout2 (by unfold maxLen; omega) _ _ _ rfl rfl hkey yd yp hv2 ?_; intro w2 hout3 hg2; go_frame)
        | go_in)
      have ga := World.grownBy_alloc w1 (.cells #[.int .i64 c1, .int .i64 c2] 54) (some bd)
      have hrgA := hrg1.kept ga (fun e => hne (Option.some.inj e).symm) (fun e => by have := Option.some.inj e; omega)
      have hrg2 := hrgA.kept hg2 (fun e => hne (Option.some.inj e).symm) (fun e => by have := Option.some.inj e; omega)
      go_roundw
      case rel =>
        exact ⟨_, cnt1, _, hrg2, by omega, hout3.mono (by omega), agree_step hA hout.isMap (keyed.key hkey) hat, ((hgw.andThen hg1 (fun j hj => .inl (by cases hj; exact Nat.le_refl _))).andThen ga (fun j hj => .inr hj)).andThen hg2 (fun j hj => .inr hj)⟩
      case measure => rw [hrg2.left_eq, hrg.left_eq]; exact hlt

set_option maxHeartbeats 2000000 in
theorem Copy_nil (pd : Option Nat) (w : World) :
    Calls Try.prog 28 #[.map pd, .map none] w fun e w' => e = .returned (.tuple #[]) ∧ w' = w.alloc (.mapIter none 0 #[] 0) := by
  have hrg := run_range_nilMap (P := Try.prog) w 24 _ _ Try.underlying24
  have hnx : ∀ ty, (Instr.next (.pointer (some ⟨w.heap.size, 0, none⟩)) false ty).run Try.prog (w.alloc (.mapIter none 0 #[] 0)) = _ := fun ty => run_next_nilMap _ ty 0 0 #[]
  go_enter Try.func28, Try.ntmps28
  go_wp2
  refine wp_loop_rounds 1 ?_
  rw [rounds_succ]
  go_wp2
  go_end0
  exact ⟨rfl, rfl⟩

theorem Copy_any (bd : Nat) (m : Option Nat) (x : List Lst) (w : World) (hd : TabM w bd []) (hs : MapT w m x) (hne : m ≠ some bd) (hx : x.length ≤ 1000) :
    Calls Try.prog 28 #[.map (some bd), .map m] w fun e w' => e = .returned (.tuple #[]) ∧ TabM w' bd x ∧ Turned (fun k => k = bd) w w' := by
  rcases hs with ⟨rfl, rfl⟩ | ⟨b, rfl, hm⟩
  · refine (Copy_nil (some bd) w).mono ?_
    rintro e w' ⟨rfl, rfl⟩
    exact ⟨rfl, hd.below (below_alloc _ _), .of_below (below_alloc _ _)⟩
  · refine (Copy_some bd b x w hd hm (fun e => hne (by rw [e])) hx).mono ?_
    rintro e w' ⟨rfl, h1, h2⟩
    exact ⟨rfl, h1, Turned.of_grown h2 fun k e => by injection e with e; exact e.symm⟩

/-! ### with -/
theorem make_hint (w : World) (k : Int) : (Instr.makeMap 24 (some (.int .i64 k))).run Try.prog w = .ok (.map (some w.heap.size)) (w.alloc (.map #[] 0)) := by
  simp [Instr.makeMap, run_underlying Try.underlying24, asInt, asIntOf, Result.andThen]
set_option maxRecDepth 100000 in
set_option maxHeartbeats 2000000 in
theorem with_any (m : Option Nat) (x : List Lst) (c n e : Int) (w : World) (H : MapT w m x) (hr : Rise x) (h1 : -9223372036854775808 ≤ c) (h2 : c ≤ 9223372036854775807) (hx : x.length ≤ 1000) :
    Calls Try.prog 18 #[.map m, .int .i64 c, .agg #[.int .i64 n, .int .i64 e]] w fun en w' => ∃ b, en = .returned (.map (some b)) ∧ w.heap.size ≤ b ∧ TabM w' b (putL x c n e) ∧ Below w.heap.size w w' := by
  obtain ⟨W1, hW1⟩ : ∃ W1, w.alloc (.cells #[.int .i64 n, .int .i64 e] 54) = W1 := ⟨_, rfl⟩
  have x0 : W1.cell? ⟨w.heap.size, 0, none⟩ = some (.int .i64 n) := by rw [← hW1]; exact (new_ls _ _ _).1
  have x1 : W1.cell? ⟨w.heap.size, 1, none⟩ = some (.int .i64 e) := by rw [← hW1]; exact (new_ls _ _ _).2
  have hb1 : Below w.heap.size w W1 := by rw [← hW1]; exact below_alloc _ _
  have H1 := H.below hb1
  have hlen := fun ty => len_run H1 ty
  obtain ⟨W2, hW2⟩ : ∃ W2, W1.alloc (.map #[] 0) = W2 := ⟨_, rfl⟩
  have hb2 : Below W1.heap.size W1 W2 := by rw [← hW2]; exact below_alloc _ _
  have H2 := H1.below hb2
  have hd : TabM W2 W1.heap.size [] := by rw [← hW2]; exact TabM.made W1
  have hlt := H1.lt
  have y0 := (hb2.cell (block_lt_of_cell x0)).trans x0
  have y1 := (hb2.cell (block_lt_of_cell x1)).trans x1
  have hs1 := hb1.size
  have hx1 := block_lt_of_cell x0
  simp only at hx1
  have K := Copy_any W1.heap.size m x W2 hd H2 (fun e => by have := hlt _ e; omega) hx
  have HK := Lib.hid K; have Hb := Lib.hid (hb1.trans (hb2.mono hs1)); have Hy0 := Lib.hid y0; have Hy1 := Lib.hid y1; have Hr := Lib.hid hr; have Hx := Lib.hid hx; have Hs1 := Lib.hid hs1; have Hx1 := Lib.hid hx1
  have hmk := fun k => make_hint W1 k
  rw [hW2] at hmk
  clear K hb1 hb2 y0 y1 hd H2 H hlt H1 hr hs1
  go_enter Try.func18, Try.ntmps18
  go_wp2_with (first
    | (go_at_call 28; refine HK.out.mono ?_; rintro e3 w3 ⟨rfl, h3, t3⟩; have z0 := t3.cell Hy0.out (by simp; have := Hx1.out; omega); have z1 := t3.cell Hy1.out (by simp; have := Hx1.out; omega); obtain ⟨w4, hrun4, h4, t4⟩ := put_run n e h3 Hr.out h1 h2 (by have := Hx.out; omega); have H4 := Lib.hid h4; have T3 := Lib.hid t3; have T4 := Lib.hid t4; clear h3 t3 h4 t4))
  go_ret
  exact ⟨W1.heap.size, rfl, Hs1.out, H4.out, Hb.out.trans ((T3.out.trans T4.out (r := fun k => k = W1.heap.size) (fun _ e => e) (fun _ _ e => e)).below (fun k e => by rw [e]; exact Hs1.out) Hb.out.size)⟩
end Go.Proofs.Ytkjfaijdmpnjkaa
