/-
  dotterelref12's Set: what it hands back. Conditions: what the slice reads as, how many it is at most, and numbers that an int holds.
-/
import Derived.Test.YtbfjakchgmdldaaGreatPlyO
import Derived.Test.YtbfjakchgmdldaaGreatSchSet
import Derived.Test.YtbfjakchgmdldaaGreatPolR
namespace Go.Proofs.YtbfjakchgmdldaaGreat
open Go.ChangeShapes Go.WideShapes Go.ChangeAt Go.RowKit
set_option linter.unusedVariables false

/-- what ref's Set makes of the list -/
def SetY (y : List RF) (id ver : Int) (p : Pol) (e : Int) (y' : List RF) : Prop :=
  (e = 1 ∧ y' = y ∧ (id < 0 ∨ ver < 0 ∨ rightP p = false)) ∨ (¬ (id < 0 ∨ ver < 0 ∨ rightP p = false) ∧
    ((e = 13 ∧ y' = y ∧ ∃ (i : Nat) (r : RF), y[i]? = some r ∧ r.id = id ∧ ver < r.f.ver) ∨
     (e = 0 ∧ ∃ (i : Nat) (r : RF), y[i]? = some r ∧ r.id = id ∧ ¬ ver < r.f.ver ∧ y' = y.set i { r with f := setFl r.f ver p }) ∨
     (e = 0 ∧ (∀ r ∈ y, r.id ≠ id) ∧ ∃ c : Nat, c ≤ y.length ∧ (∀ (j : Nat) s, j < c → y[j]? = some s → s.id < id) ∧ (∀ s, y[c]? = some s → ¬ s.id < id) ∧ y' = y.take c ++ [⟨id, setFl newFl ver p, none, 0⟩] ++ y.drop c)))
def RSetRet (y : List RF) (id ver : Int) (p : Pol) (w : World) (en : Ending) (w' : World) : Prop :=
  ∃ (e : Int) (y' : List RF) (A : Option Addr) (c : Nat), en = .returned (.tuple #[.slice A y'.length c, .int .i64 e]) ∧ SetY y id ver p e y' ∧ RowsRet y' w A c w'
theorem at_has {y : List RF} {id v : Int} {i : Nat} {r : RF} (h : (v = -1 ∧ ∀ r ∈ y, r.id ≠ id) ∨ ∃ (i : Nat) (r : RF), v = (i : Int) ∧ y[i]? = some r ∧ r.id = id) (hi : y[i]? = some r) (hid : r.id = id) (hone : ∀ (j : Nat) s, y[j]? = some s → s.id = id → j = i) : v = (i : Int) := by
  rcases h with ⟨_, hno⟩ | ⟨j, s, rfl, hj, hjd⟩
  · exact absurd hid (hno r (List.mem_of_getElem? hi))
  · rw [hone j s hj hjd]
theorem at_none {y : List RF} {id v : Int} (h : (v = -1 ∧ ∀ r ∈ y, r.id ≠ id) ∨ ∃ (i : Nat) (r : RF), v = (i : Int) ∧ y[i]? = some r ∧ r.id = id) (hno : ∀ r ∈ y, r.id ≠ id) : v = -1 := by
  rcases h with ⟨rfl, _⟩ | ⟨j, s, rfl, hj, hjd⟩
  · rfl
  · exact absurd hjd (hno s (List.mem_of_getElem? hj))
/-- a flow in a box: a new version, and a new policy -/
theorem box_ver {w : World} {g : Nat} {r : RF} (h : w.heap[g]? = some (.cells (rfArr r) 49 (0, 0))) (v : Int) : (w.setCell ⟨g, 1, none⟩ (.int .i64 v)).heap[g]? = some (.cells (rfArr { r with f := { r.f with ver := v } }) 49 (0, 0)) := row_set h 1 _
theorem box_pol {w : World} {g : Nat} {r : RF} (h : w.heap[g]? = some (.cells (rfArr r) 49 (0, 0))) (p : Pol) :
    ∃ W, (stPol (.pointer (some ⟨g, 2, none⟩)) (.agg #[.int .i64 p.re, .int .i64 p.we, .int .i64 p.li, .int .i64 p.bu])).run Tryz.prog w = .ok () W ∧ W.heap[g]? = some (.cells (rfArr { r with f := { r.f with p := p } }) 49 (0, 0)) ∧ Turned (fun j => j = g) w W := by
  have hth : w.there g 2 4 := fun j hj => by
    refine ⟨?_, row_frozen h _⟩
    rw [row_cell h, Array.getElem?_eq_getElem (by show 2 + j < 10; omega)]
    rfl
  exact ⟨_, run_storeAt_mid w g 2 28 #[.int .i64 p.re, .int .i64 p.we, .int .i64 p.li, .int .i64 p.bu] hth pol_info (by simp [Value.oneCell']), row_set (row_set (row_set (row_set h 2 (.int .i64 p.re)) 3 (.int .i64 p.we)) 4 (.int .i64 p.li)) 5 (.int .i64 p.bu), turned_cells (p := fun j => j = g) (fun _ => rfl) _ _ _ (Turned.refl _ _)⟩

attribute [local go_sem ↓] ldPol_eq stPol_eq ldFlow_eq
set_option maxRecDepth 100000 in
set_option maxHeartbeats 4000000 in
theorem RSet_bad (A : Option Addr) (n c : Nat) (y : List RF) (id ver : Int) (p : Pol) (w : World) (hl : y.length = n) (hnc : n ≤ c ∧ c ≤ maxLen) (hr : RowAt w A 49 (rfsV y)) (hp : InP p) (hbad : id < 0 ∨ ver < 0 ∨ rightP p = false) :
    Calls Tryz.prog 6 #[.slice A n c, .int .i64 id, .int .i64 ver, .agg #[.int .i64 p.re, .int .i64 p.we, .int .i64 p.li, .int .i64 p.bu]] w (RSetRet y id ver p w) := by
  have key : ∀ w', Below w.heap.size w w' → RSetRet y id ver p w (.returned (.tuple #[.slice A n c, .int .i64 1])) w' := fun w' hb =>
    ⟨1, y, A, c, by rw [hl], .inl ⟨rfl, rfl, hbad⟩, hr.below hb, by rw [hl]; exact hnc, hb⟩
  have Key := Lib.hid key
  clear key hl hnc hr
  obtain ⟨w1, hw1, hb1, hp1⟩ := pol_box w p hp
  have hld := ldPol_run hp1
  have Hb1 := Lib.hid hb1
  clear hb1 hp1
  by_cases hk : id < 0
  · clear hbad
    go_enter Tryz.func6, Tryz.ntmps6
    go_wp2
    go_ret2
    exact Key.out _ Hb1.out
  · by_cases hv : ver < 0
    · clear hbad
      go_enter Tryz.func6, Tryz.ntmps6
      go_wp2
      go_ret2
      exact Key.out _ Hb1.out
    · have KR := Lib.hid (RRight_any p w1)
      rw [(hbad.resolve_left hk).resolve_left hv] at KR
      clear hbad
      go_enter Tryz.func6, Tryz.ntmps6
      go_wp2_with (go_at_call 18; refine KR.out.mono ?_; rintro e w2 ⟨rfl, hb2⟩; have Hb2 := Lib.hid hb2; clear hb2 hld)
      go_ret2
      exact Key.out _ (Hb1.out.trans (Hb2.out.mono Hb1.out.size))
set_option maxRecDepth 100000 in
set_option maxHeartbeats 4000000 in
theorem RSet_has (A : Option Addr) (n c i : Nat) (y : List RF) (r : RF) (id ver : Int) (p : Pol) (w : World) (hl : y.length = n) (hn : n ≤ 100000) (hnc : n ≤ c ∧ c ≤ maxLen) (hs : RowAt w A 49 (rfsV y)) (hp : InP p) (hgood : ¬ (id < 0 ∨ ver < 0 ∨ rightP p = false)) (hi : y[i]? = some r) (hid : r.id = id) (hone : ∀ (j : Nat) s, y[j]? = some s → s.id = id → j = i) :
    Calls Tryz.prog 6 #[.slice A n c, .int .i64 id, .int .i64 ver, .agg #[.int .i64 p.re, .int .i64 p.we, .int .i64 p.li, .int .i64 p.bu]] w (RSetRet y id ver p w) := by
  obtain ⟨w1, hw1, hb1, hp1⟩ := pol_box w p hp
  have hld := ldPol_run hp1
  have hk : ¬ id < 0 := fun h => hgood (.inl h)
  have hv : ¬ ver < 0 := fun h => hgood (.inr (.inl h))
  have KR := Lib.hid (RRight_any p w1)
  have hr : rightP p = true := by
    cases h : rightP p with
    | true => rfl
    | false => exact absurd (.inr (.inr h)) hgood
  rw [hr] at KR
  have KA := Lib.hid (fun (W : World) (hb : Below w.heap.size w W) => RAt_any A n c y id W hl hn (hs.seen.below hb))
  have hin : i < n := by rw [← hl]; exact (List.getElem?_eq_some_iff.1 hi).1
  have KW := Lib.hid (fun (W : World) (hb : Below w.heap.size w W) (r' : RF) => RWith_any A n c i y r' W hl hn hin (hs.seen.below hb))
  obtain ⟨ga, o, rfl, hc⟩ := hs.seen.rf hi
  have HC := Lib.hid (fun (W : World) (hb : Below w.heap.size w W) (j : Nat) v (hv : (rfV r)[j]? = some v) => show W.cell? ⟨ga, o + i * 10 + j, none⟩ = some v from (hb.cell (block_lt_of_cell (hc j v hv))).trans (hc j v hv))
  have Key13 := Lib.hid (fun (W : World) (hb : Below w.heap.size w W) (hlt : ver < r.f.ver) => show RSetRet y id ver p w (.returned (.tuple #[.slice (some ⟨ga, o, none⟩) n c, .int .i64 13])) W from ⟨13, y, _, c, by rw [hl], .inr ⟨hgood, .inl ⟨rfl, rfl, i, r, hi, hid, hlt⟩⟩, hs.below hb, by rw [hl]; exact hnc, hb⟩)
  have Hb1 := Lib.hid hb1; have Hl := Lib.hid hl; have Hi := Lib.hid hi; have Hidr := Lib.hid hid; have Hone := Lib.hid hone; have Hgood := Lib.hid hgood; have Hp1 := Lib.hid hp1
  have i0 : (0 : Int) ≤ (i : Int) := by omega
  have i1 : (i : Int) < (n : Int) := by omega
  clear hb1 hl hi hid hone hgood hnc hs hp hr hc hp1
  go_enter Tryz.func6, Tryz.ntmps6
  go_upto_region 4 with (first
    | (go_at_call 12; refine (KA.out w2 (Hb1.out.trans (Hb2.out.mono Hb1.out.size))).mono ?_; rintro e w3 ⟨v, rfl, hv3, rfl⟩; obtain rfl := at_has hv3 Hi.out Hidr.out Hone.out; clear hv3)
    | (go_at_call 18; refine KR.out.mono ?_; rintro e w2 ⟨rfl, hb2⟩; have Hb2 := Lib.hid hb2; clear hb2 hld))
  have hb2 := Hb1.out.trans (Hb2.out.mono Hb1.out.size)
  have d1 : w2.cell? ⟨ga, o + i * 10 + 1, none⟩ = some (.int .i64 r.f.ver) := HC.out w2 hb2 1 _ rfl
  have HB2 := Lib.hid hb2
  have i2 : ¬ (i : Int) < 0 := by omega
  clear hb2 hw1
  by_cases hlt : ver < r.f.ver
  · go_wp2
    go_ret2
    exact Key13.out _ HB2.out hlt
  · have hle : r.f.ver ≤ ver := by omega
    have hld := ldFlow_run (r := r) (fun j v hv => HC.out w2 HB2.out j v hv)
    obtain ⟨w3, hw3, hb3, hx3⟩ := rf_box w2 r
    have Hb3 := Lib.hid hb3; have Hx3 := Lib.hid hx3
    have hx4 := box_ver hx3 ver
    have hc3 : w3.cell? ⟨w2.heap.size, 1, none⟩ = some (.int .i64 r.f.ver) := row_cell hx3 1
    have hz3 : w3.frozen? ⟨w2.heap.size, 1, none⟩ = false := row_frozen hx3 1
    obtain ⟨w4, hw4⟩ : ∃ W, w3.setCell ⟨w2.heap.size, 1, none⟩ (.int .i64 ver) = W := ⟨_, rfl⟩
    have t4 : Turned (fun j => j = w2.heap.size) w3 w4 := by rw [← hw4]; exact set_wo (g := w2.heap.size) 1 _
    rw [hw4] at hx4
    have hpne : ¬ w.heap.size = w2.heap.size := by
      have h1 := Hb1.out.size
      have h2 := block_lt_of_cell Hp1.out.1
      have h3 := Hb2.out.size
      have h4 : w.heap.size < w1.heap.size := h2
      omega
    have hld4 := ldPol_run (PolAt.turned ((Hp1.out.below Hb2.out).below hb3) t4 hpne)
    obtain ⟨w5, r5, hx5, t5⟩ := box_pol hx4 p
    obtain ⟨r2, hr2⟩ : ∃ x, ({ r with f := setFl r.f ver p } : RF) = x := ⟨_, rfl⟩
    have hx5' : w5.heap[w2.heap.size]? = some (.cells (rfArr r2) 49 (0, 0)) := by rw [← hr2]; exact hx5
    have hld5 := ldFlow_row hx5'
    have Hb5 := Lib.hid (show Below w.heap.size w w5 from HB2.out.trans ((hb3.trans ((t4.below (fun j hj => by rw [hj]; exact Nat.le_refl _) hb3.size).trans (t5.below (fun j hj => by rw [hj]; exact Nat.le_refl _) (Nat.le_trans hb3.size t4.size)))).mono HB2.out.size))
    have KW5 := Lib.hid (KW.out w5 Hb5.out r2)
    have Hr2 := Lib.hid hr2
    clear hb3 hx3 hx4 t4 t5 hx5 hx5' hpne hr2
    go_upto_region 8 with (refine wpList_store_row rfl 49 (.tmp 11) (.tmp 46) rfl w2.heap.size (rfArr r) rfl rfl 49 _ (heap_alloc_new _ _) rf_size rfl (by simp [rfArr, Value.oneCell']) ?_; rw [World.setRow_alloc_new, hw3])
    go_wp2_with (go_at_call 19; refine KW5.out.mono ?_; rintro e w6 ⟨A6, c6, rfl, h6⟩; have H6 := Lib.hid h6; clear h6)
    go_ret2
    refine ⟨0, y.set i r2, A6, c6, by rw [List.length_set]; rfl, .inr ⟨Hgood.out, .inr (.inl ⟨rfl, i, r, Hi.out, Hidr.out, by omega, by rw [← Hr2.out]⟩)⟩, H6.out.1, H6.out.2.1, Hb5.out.trans (H6.out.2.2.mono Hb5.out.size)⟩
theorem rf_new (w : World) (r : RF) : ∃ W, w.alloc (.cells #[.int .i64 r.id, .int .i64 r.f.ver, .int .i64 r.f.p.re, .int .i64 r.f.p.we, .int .i64 r.f.p.li, .int .i64 r.f.p.bu, .int .i64 r.f.c.r, .int .i64 r.f.c.p, .int .i64 r.f.c.l, .slice r.A r.f.q.length r.c] 49) = W ∧ Below w.heap.size w W ∧ Seen W (some ⟨w.heap.size, 0, none⟩) (rfsV [r]) :=
  ⟨_, rfl, below_box _ _, by
    have h := Seen.of_cells (heap_alloc_new w (.cells (rfArr r) 49))
    rw [rfArr_list] at h
    rw [show rfsV [r] = rfV r by simp [rfsV]]
    exact h⟩
set_option maxRecDepth 100000 in
set_option maxHeartbeats 4000000 in
theorem RSet_new (A : Option Addr) (n c : Nat) (y : List RF) (id ver : Int) (p : Pol) (w : World) (hl : y.length = n) (hn : n ≤ 100000) (hnc : n ≤ c ∧ c ≤ maxLen) (hs : RowAt w A 49 (rfsV y)) (hp : InP p) (hgood : ¬ (id < 0 ∨ ver < 0 ∨ rightP p = false)) (hno : ∀ r ∈ y, r.id ≠ id) :
    Calls Tryz.prog 6 #[.slice A n c, .int .i64 id, .int .i64 ver, .agg #[.int .i64 p.re, .int .i64 p.we, .int .i64 p.li, .int .i64 p.bu]] w (RSetRet y id ver p w) := by
  obtain ⟨w1, hw1, hb1, hp1⟩ := pol_box w p hp
  have hld := ldPol_run hp1
  have hk : ¬ id < 0 := fun h => hgood (.inl h)
  have hv : ¬ ver < 0 := fun h => hgood (.inr (.inl h))
  have KR := Lib.hid (RRight_any p w1)
  have hr : rightP p = true := by
    cases h : rightP p with
    | true => rfl
    | false => exact absurd (.inr (.inr h)) hgood
  rw [hr] at KR
  have KA := Lib.hid (fun (W : World) (hb : Below w.heap.size w W) => RAt_any A n c y id W hl hn (hs.seen.below hb))
  have HSn := Lib.hid (fun (W : World) (hb : Below w.heap.size w W) => show Seen W A (rfsV y) from hs.seen.below hb)
  have Hb1 := Lib.hid hb1; have Hl := Lib.hid hl; have Hno := Lib.hid hno; have Hgood := Lib.hid hgood; have Hp1 := Lib.hid hp1; have Hnc := Lib.hid hnc
  clear hb1 hl hno hgood hnc hs hp hr hp1
  go_enter Tryz.func6, Tryz.ntmps6
  go_wp2_with (first
    | (go_at_call 12; refine (KA.out w2 (Hb1.out.trans (Hb2.out.mono Hb1.out.size))).mono ?_; rintro e w3 ⟨v, rfl, hv3, rfl⟩; obtain rfl := at_none hv3 Hno.out; clear hv3)
    | (go_at_call 18; refine KR.out.mono ?_; rintro e w2 ⟨rfl, hb2⟩; have Hb2 := Lib.hid hb2; clear hb2 hld))
  have HB2 := Lib.hid (Hb1.out.trans (Hb2.out.mono Hb1.out.size))
  have HP2 := Lib.hid (Hp1.out.below Hb2.out)
  clear hw1 KA KR
  go_loopw [12] (fun kv wr => ∃ (k : Nat), kv = .int .i64 (k : Int) ∧ k ≤ n ∧ (∀ (j : Nat) s, j < k → y[j]? = some s → s.id < id) ∧ wr = w2) (fun kv _ => n - (intOf kv).toNat)
  case atStart => exact ⟨0, rfl, by omega, fun j s h => by omega, rfl⟩
  case round =>
    obtain ⟨k, rfl, hkn, hlo, rfl⟩ := hrel
    have Hlo := Lib.hid hlo
    clear hlo
    have k0 : (0 : Int) ≤ (k : Int) := by omega
    by_cases hgo : k < n ∧ ∃ s, y[k]? = some s ∧ s.id < id
    · obtain ⟨hlt, s, hsk, hsi⟩ := hgo
      have k1 : (k : Int) < (n : Int) := by omega
      obtain ⟨g, o, rfl, hc⟩ := (HSn.out wr HB2.out).rf hsk
      have d0 : wr.cell? ⟨g, o + k * 10, none⟩ = some (.int .i64 s.id) := hc 0 _ rfl
      have Hsk := Lib.hid hsk
      have wk := wrap_in ((k : Int) + 1) (by omega) (by omega)
      clear hc hsk
      go_wp2
      go_roundw
      case rel => exact ⟨k + 1, by go_num, by omega, fun j s' hj hs' => by
        by_cases e : j = k
        · subst e
          rw [Hsk.out] at hs'
          injection hs' with hs'
          rw [← hs']
          exact hsi
        · exact Hlo.out j s' (by omega) hs', trivial⟩
      case measure => simp [intOf]; omega
    · have hhi : ∀ s, y[k]? = some s → ¬ s.id < id := fun s hs hlt => hgo ⟨by rw [← Hl.out]; exact (List.getElem?_eq_some_iff.1 hs).1, s, hs, hlt⟩
      have Hhi := Lib.hid hhi
      have Hgo := Lib.hid hgo
      clear hhi hgo
      obtain ⟨w3, hw3, hb3, hown3⟩ := rf_none wr
      have Hb3 := Lib.hid hb3; have Own3 := Lib.hid (hown3 wr.heap.size (Nat.le_refl _))
      have Hs3 := Lib.hid ((HSn.out w3 (HB2.out.trans (hb3.mono HB2.out.size))).rf_take k)
      have Hl3 := Lib.hid (show (rfsV (y.take k)).length = k * 10 by rw [rfsV_length, List.length_take, Hl.out]; congr 1; omega)
      have kc : (k : Int) ≤ (c : Int) := by have := Hnc.out.1; omega
      have kc2 : k ≤ c := by omega
      have hcm := Hnc.out.2
      unfold maxLen at hcm
      clear hb3 hown3
      have wrk := Lib.hid (show (0 : Nat) + k = k from Nat.zero_add k)
      by_cases hlt : k < n
      case' pos =>
        have k1 : (k : Int) < (n : Int) := by omega
        obtain ⟨s, hsk⟩ : ∃ s, y[k]? = some s := ⟨_, List.getElem?_eq_getElem (by rw [Hl.out]; exact hlt)⟩
        obtain ⟨g, o, rfl, hc⟩ := (HSn.out wr HB2.out).rf hsk
        have d0 : wr.cell? ⟨g, o + k * 10, none⟩ = some (.int .i64 s.id) := hc 0 _ rfl
        have hsi := Hhi.out s hsk
        clear hc hsk
        go_upto_region 14 with fail
        clear hsi d0
      case' neg =>
        have k1 : ¬ (k : Int) < (n : Int) := by omega
        go_upto_region 14 with fail
      all_goals
        clear k1
        have Hlt := Lib.hid hlt
        clear hlt
        go_upto_region 15 with (at_builtin; refine wpList_app4 rfl (.tmp 70) (.tmp 73) _ rfl 49 _ 10 96 Tryz.underlying26 rf_info rfl (by omega) wr.heap.size (some ⟨wr.heap.size, 0, none⟩) 0 0 [] rfl Own3.out _ k c (rfsV (y.take k)) rfl Hl3.out Hs3.out (rfsV_one _) (by unfold maxLen; omega) (by omega) Hb3.out.size ?_; intro A4 c4 w4 hown4 hg4 hbk4; rw [Nat.zero_add, List.nil_append] at hown4; have tg4 : Turned (fun x => (Value.slice (some ⟨wr.heap.size, 0, none⟩) 0 0).ownBlock = some x) w3 w4 := Turned.of_grown hg4 fun x e => e; have Own4 := Lib.hid hown4; have HB4 := Lib.hid (Hb3.out.trans (tg4.below (fun x e => by have e2 := own_is e; omega) Hb3.out.size)); clear hown4 hg4 hbk4 tg4)
        have hld := ldPol_run (HP2.out.below HB4.out)
        obtain ⟨w5, hw5, hb5, hsee5⟩ := rf_new w4 ⟨id, setFl newFl ver p, none, 0⟩
        have HB5 := Lib.hid (HB4.out.trans (hb5.mono HB4.out.size)); have Own5 := Lib.hid (own_belowM Own4.out hb5); have Hsee5 := Lib.hid hsee5
        replace hw5 : w4.alloc (.cells #[.int .i64 id, .int .i64 ver, .int .i64 p.re, .int .i64 p.we, .int .i64 p.li, .int .i64 p.bu, .int .i64 0, .int .i64 0, .int .i64 0, .slice none 0 0] 49) = w5 := hw5
        clear hb5 hsee5
        go_upto_region 16 with (at_builtin; refine wpList_app4 rfl (.tmp 75) (.tmp 80) _ rfl 49 _ 10 96 Tryz.underlying26 rf_info rfl (by omega) wr.heap.size A4 k c4 (rfsV (y.take k)) rfl Own5.out (some ⟨w4.heap.size, 0, none⟩) 1 1 (rfsV [⟨id, setFl newFl ver p, none, 0⟩]) rfl rfl Hsee5.out (rfsV_one _) (by unfold maxLen; omega) (by omega) HB5.out.size ?_; intro A6 c6 w6 hown6 hg6 hbk6; rw [← rfsV_append] at hown6; have tg6 : Turned (fun x => (Value.slice A4 k c4).ownBlock = some x) w5 w6 := Turned.of_grown hg6 fun x e => e; have Own6 := Lib.hid hown6; have HB6 := Lib.hid (HB5.out.trans (tg6.below (fun x e => (Own5.out.lt x e).1) HB5.out.size)); clear hown6 hg6 hbk6 tg6)
        clear hld hw3 hw5
        have hdl : (rfsV (y.drop k)).length = (n - k) * 10 := by rw [rfsV_length, List.length_drop, Hl.out]
        have Hdl := Lib.hid hdl
        have HsW := Lib.hid (HSn.out w6 (HB2.out.trans (HB6.out.mono HB2.out.size)))
        have Hfin := Lib.hid (show ∀ (A8 : Option Addr) (c8 : Nat) (w8 : World), w8.ownsRow wr.heap.size 49 10 (.slice A8 (k + 1 + (n - k)) c8) (k + 1 + (n - k)) (rfsV (y.take k ++ [⟨id, setFl newFl ver p, none, 0⟩]) ++ rfsV (y.drop k)) → Below wr.heap.size wr w8 → RSetRet y id ver p w (.returned (.tuple #[.slice A8 (k + 1 + (n - k)) c8, .int .i64 0])) w8 by
          intro A8 c8 w8 hown hb
          have hlen : (y.take k ++ [(⟨id, setFl newFl ver p, none, 0⟩ : RF)] ++ y.drop k).length = k + 1 + (n - k) := by
            rw [List.length_append, List.length_append, List.length_take, List.length_drop, Hl.out]
            simp only [List.length_cons, List.length_nil]
            omega
          rw [← rfsV_append] at hown
          refine ⟨0, y.take k ++ [⟨id, setFl newFl ver p, none, 0⟩] ++ y.drop k, A8, c8, by rw [hlen], .inr ⟨Hgood.out, .inr (.inr ⟨rfl, Hno.out, k, by rw [Hl.out]; exact hkn, Hlo.out, Hhi.out, rfl⟩)⟩, RowAt.of_own hown, by rw [hlen]; exact own_caps hown, HB2.out.trans (hb.mono HB2.out.size)⟩)
        have kn : (k : Int) ≤ (n : Int) := by omega
        have nc : (n : Int) ≤ (c : Int) := by have := Hnc.out.1; omega
        have nc2 : n ≤ c := Hnc.out.1
        clear hdl
        skip
      · obtain rfl : n = k := by have := Hlt.out; omega
        have hdn : rfsV (y.drop n) = [] := List.length_eq_zero_iff.1 (by rw [Hdl.out, Nat.sub_self, Nat.zero_mul])
        have Hfin2 := Lib.hid (fun (A8 : Option Addr) (c8 : Nat) (w8 : World) (h : w8.ownsRow wr.heap.size 49 10 (.slice A8 (n + 1 + 0) c8) (n + 1 + 0) (rfsV (y.take n ++ [⟨id, setFl newFl ver p, none, 0⟩]) ++ [])) (hb : Below wr.heap.size wr w8) => Hfin.out A8 c8 w8 (by rw [Nat.sub_self, hdn]; exact h) hb)
        rw [Nat.sub_self] at Hfin2
        clear hdn
        by_cases hcn : c = n
        · subst hcn
          go_wp2_with (at_builtin; refine wpList_app4 rfl (.tmp 82) (.tmp 85) _ rfl 49 _ 10 96 Tryz.underlying26 rf_info rfl (by omega) wr.heap.size A6 _ c6 _ rfl Own6.out _ 0 _ [] rfl rfl (Seen.nil _ _) (by simp) (by unfold maxLen; omega) (by omega) HB6.out.size ?_; intro A8 c8 w8 hown8 hg8 hbk8; have tg8 : Turned (fun x => (Value.slice A6 _ c6).ownBlock = some x) w6 w8 := Turned.of_grown hg8 fun x e => e; have Own8 := Lib.hid hown8; have HB8 := Lib.hid (HB6.out.trans (tg8.below (fun x e => (Own6.out.lt x e).1) HB6.out.size)); clear hown8 hg8 hbk8 tg8)
          go_ret2
          exact Hfin2.out _ _ _ Own8.out HB8.out
        · cases A with
          | none =>
            go_wp2_with (at_builtin; refine wpList_app4 rfl (.tmp 82) (.tmp 85) _ rfl 49 _ 10 96 Tryz.underlying26 rf_info rfl (by omega) wr.heap.size A6 _ c6 _ rfl Own6.out _ 0 _ [] rfl rfl (Seen.nil _ _) (by simp) (by unfold maxLen; omega) (by omega) HB6.out.size ?_; intro A8 c8 w8 hown8 hg8 hbk8; have tg8 : Turned (fun x => (Value.slice A6 _ c6).ownBlock = some x) w6 w8 := Turned.of_grown hg8 fun x e => e; have Own8 := Lib.hid hown8; have HB8 := Lib.hid (HB6.out.trans (tg8.below (fun x e => (Own6.out.lt x e).1) HB6.out.size)); clear hown8 hg8 hbk8 tg8)
            go_ret2
            exact Hfin2.out _ _ _ Own8.out HB8.out
          | some a =>
            go_wp2_with (at_builtin; refine wpList_app4 rfl (.tmp 82) (.tmp 85) _ rfl 49 _ 10 96 Tryz.underlying26 rf_info rfl (by omega) wr.heap.size A6 _ c6 _ rfl Own6.out _ 0 _ [] rfl rfl (Seen.nil _ _) (by simp) (by unfold maxLen; omega) (by omega) HB6.out.size ?_; intro A8 c8 w8 hown8 hg8 hbk8; have tg8 : Turned (fun x => (Value.slice A6 _ c6).ownBlock = some x) w6 w8 := Turned.of_grown hg8 fun x e => e; have Own8 := Lib.hid hown8; have HB8 := Lib.hid (HB6.out.trans (tg8.below (fun x e => (Own6.out.lt x e).1) HB6.out.size)); clear hown8 hg8 hbk8 tg8)
            go_ret2
            exact Hfin2.out _ _ _ Own8.out HB8.out
      · have hck2 : ¬ c = k := by have := Hlt.out; omega
        go_wp2_with (at_builtin; refine wpList_app4 rfl (.tmp 82) (.tmp 85) _ rfl 49 _ 10 96 Tryz.underlying26 rf_info rfl (by omega) wr.heap.size A6 (k + 1) c6 _ rfl Own6.out (some ⟨g, o + k * 10, none⟩) (n - k) (c - k) (rfsV (y.drop k)) rfl Hdl.out (Seen.rf_drop (c := c) HsW.out) (rfsV_one _) (by unfold maxLen; omega) (by omega) HB6.out.size ?_; intro A8 c8 w8 hown8 hg8 hbk8; have tg8 : Turned (fun x => (Value.slice A6 (k + 1) c6).ownBlock = some x) w6 w8 := Turned.of_grown hg8 fun x e => e; have Own8 := Lib.hid hown8; have HB8 := Lib.hid (HB6.out.trans (tg8.below (fun x e => (Own6.out.lt x e).1) HB6.out.size)); clear hown8 hg8 hbk8 tg8)
        go_ret2
        exact Hfin.out _ _ _ Own8.out HB8.out
end Go.Proofs.YtbfjakchgmdldaaGreat
