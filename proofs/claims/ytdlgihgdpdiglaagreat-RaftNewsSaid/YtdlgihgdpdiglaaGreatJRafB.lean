/-
  Joined: RafRd, RafLd, RafPut. Conditions: each theorem's own.
-/
import Derived.Test.YtdlgihgdpdiglaaGreatJRafA
import Derived.Test.YtdlgihgdpdiglaaGreatJRlg
import Derived.Test.YtdlgihgdpdiglaaGreatVfA
import Derived.LoopN

section
namespace Go.Proofs.YtdlgihgdpdiglaaGreat
open Go.ChangeShapes Go.WideShapes Go.ChangeAt Go.RowKit
set_option linter.unusedVariables false

/-- an entry that a leader makes -/
def EntRight (d : rl.Dat) : Prop := 0 < d.1 ∧ (d.2.1 = 0 → d.2.2 = []) ∧ (d.2.1 = 2 → ∃ us, quo.RightQ us ∧ quo.bytesQ us = d.2.2)
/-- what is read: the entry, what is left, the first error -/
def rdEnt (bs : List UInt8) (er : Nat) : rl.Dat × List UInt8 × Nat :=
  let a := rdNum bs er 1099511627776
  let b := rdNum a.2.1 a.2.2 2
  let t := rdText b.2.1 b.2.2 800
  (((a.1 : Int), (b.1 : Int), t.1), t.2.1, t.2.2)
def ReadEntRet (g : Nat) (x : rl.Dat × List UInt8 × Nat) (w : World) (e : Ending) (w' : World) : Prop :=
  ∃ A c rt, e = .returned (.tuple #[.agg #[.int .i64 x.1.1, .int .i64 x.1.2.1, .slice A x.1.2.2.length c], .bool rt]) ∧ (rt = true ↔ x.2.2 = 0 ∧ EntRight x.1) ∧ w'.ownsRow w.heap.size 5 1 (.slice A x.1.2.2.length c) x.1.2.2.length (bytesV x.1.2.2) ∧ IsR w' g x.2.1 x.2.2 ∧ Turned (fun k => k = g) w w'
theorem rdNum_le (bs : List UInt8) (e : Nat) (m : Int) (hm : 0 ≤ m) : ((rdNum bs e m).1 : Int) ≤ m := by
  unfold rdNum
  split
  · simpa using hm
  · split
    · simpa using hm
    · split
      · simpa using hm
      · simp only; omega
theorem rdNum_err (bs : List UInt8) (e : Nat) (m : Int) (h : e ≠ 0) : rdNum bs e m = (0, bs, e) := by unfold rdNum; rw [if_pos h]
theorem rdText_len (bs : List UInt8) (e : Nat) (m : Int) (hm : 0 ≤ m) : ((rdText bs e m).1.length : Int) ≤ m := by
  have := rdNum_le bs e m hm
  unfold rdText
  simp only
  split
  · simpa using hm
  · simp only [List.length_take]; omega
section
attribute [local go_sem ↓] rl.ldEnt_eq
set_option maxRecDepth 100000 in
set_option maxHeartbeats 1000000 in
theorem NreadEntry (g er : Nat) (bs : List UInt8) (w : World) (h : IsR w g bs er) :
    Calls Tryz.prog 138 #[.pointer (some ⟨g, 0, none⟩)] w (ReadEntRet g (rdEnt bs er) w) := by
  obtain ⟨a, r1, e1, ha⟩ : ∃ a r1 e1, rdNum bs er 1099511627776 = (a, r1, e1) := ⟨_, _, _, rfl⟩
  obtain ⟨k, r2, e2, hk⟩ : ∃ k r2 e2, rdNum r1 e1 2 = (k, r2, e2) := ⟨_, _, _, rfl⟩
  obtain ⟨t, r3, e3, ht⟩ : ∃ t r3 e3, rdText r2 e2 800 = (t, r3, e3) := ⟨_, _, _, rfl⟩
  have hx : rdEnt bs er = (((a : Int), (k : Int), t), r3, e3) := by unfold rdEnt; simp only [ha, hk, ht]
  rw [hx]
  have hal : (a : Int) ≤ 1099511627776 := by have := rdNum_le bs er 1099511627776 (by omega); rw [ha] at this; exact this
  have hkl : (k : Int) ≤ 2 := by have := rdNum_le r1 e1 2 (by omega); rw [hk] at this; exact this
  have htl : (t.length : Int) ≤ 800 := by have := rdText_len r2 e2 800 (by omega); rw [ht] at this; exact this
  obtain ⟨w0, hw0, hb0, hh0⟩ := rl.ent_box w ⟨0, 0, none, 0, 0, []⟩
  simp only at hw0 hh0
  have hgw := h.lt
  have H0 := Lib.hid (h.below hb0)
  have Hb0 := Lib.hid hb0; have Hh0 := Lib.hid hh0
  have hs0 : w.heap.size < w0.heap.size := (Array.getElem?_eq_some_iff.1 hh0).1
  have Hal := Lib.hid hal; have Hkl := Lib.hid hkl; have Htl := Lib.hid htl
  clear hx h hb0 hh0 hal hkl htl
  go_enter Tryz.func138, Tryz.ntmps138
  go_wp2_with fail
  refine (RNum_any g er bs 1099511627776 w0 H0.out (by omega) (by omega)).mono ?_
  rw [ha]
  rintro e w1 ⟨rfl, hr1, ht1⟩
  have Hr1 := Lib.hid hr1; have Ht1 := Lib.hid ht1
  clear hr1 ht1 hw0 ha
  go_wp2_with fail
  refine (RNum_any g e1 r1 2 w1 Hr1.out (by omega) (by omega)).mono ?_
  rw [hk]
  rintro e w2 ⟨rfl, hr2, ht2⟩
  have Hr2 := Lib.hid hr2; have Ht2 := Lib.hid (turned_step Ht1.out ht2 fun _ _ e => e)
  clear hr2 ht2 hk
  go_wp2_with fail
  refine (RText_any g e2 r2 800 w2 Hr2.out (by omega) (by omega)).mono ?_
  rw [ht]
  rintro e w3 ⟨A, c, rfl, hown, hr3, ht3⟩
  simp only at hown hr3
  have Ht3 := Lib.hid (turned_step Ht2.out ht3 fun _ _ e => e)
  obtain ⟨w4, hw4, hb4, hh4⟩ := rl.ent_box w3 ⟨(a : Int), (k : Int), A, t.length, c, t⟩
  simp only at hw4 hh4
  have Hown := Lib.hid (own_below hown hb4); have Hr3 := Lib.hid (hr3.below hb4); have Hb4 := Lib.hid hb4; have Hh4 := Lib.hid hh4
  have Hp := Lib.hid (show w4.heap[w.heap.size]? = some (.cells #[.int .i64 0, .int .i64 0, .slice none 0 0] 73 (0, 0)) from row_below (Ht3.out.heap Hh0.out (by omega)) hb4)
  have s23 : w2.heap.size ≤ w3.heap.size := ht3.size
  clear hown hr3 ht3 ht hb4 hh4
  have b0 : w4.cell? ⟨w3.heap.size, 0, none⟩ = some (.int .i64 (a : Int)) := row_cell Hh4.out 0
  have b1 : w4.cell? ⟨w3.heap.size, 1, none⟩ = some (.int .i64 (k : Int)) := row_cell Hh4.out 1
  have b2 : w4.cell? ⟨w3.heap.size, 2, none⟩ = some (.slice A t.length c) := row_cell Hh4.out 2
  have KE := Lib.hid (Err_any g e3 r3 w4 Hr3.out)
  have hsz4 : w3.heap.size < w4.heap.size := (Array.getElem?_eq_some_iff.1 Hh4.out).1
  have Ld := Lib.hid (show ∀ V, Below w4.heap.size w4 V → (rl.ldEnt (.pointer (some ⟨w3.heap.size, 0, none⟩))).run Tryz.prog V = .ok (.agg #[.int .i64 (a : Int), .int .i64 (k : Int), .slice A t.length c]) V from fun V hb => by
    have hh := row_below Hh4.out hb
    exact rl.ldEnt_run (e := ⟨(a : Int), (k : Int), A, t.length, c, t⟩) (row_cell hh 0) (row_cell hh 1) (row_cell hh 2))
  have Fin := Lib.hid (show ∀ (rt : Bool) (V : World), (rt = true ↔ e3 = 0 ∧ EntRight ((a : Int), (k : Int), t)) → Below w4.heap.size w4 V → ReadEntRet g (((a : Int), (k : Int), t), r3, e3) w (.returned (.tuple #[.agg #[.int .i64 (a : Int), .int .i64 (k : Int), .slice A t.length c], .bool rt])) (V.setRow w.heap.size #[.int .i64 (a : Int), .int .i64 (k : Int), .slice A t.length c]) from fun rt V hrt hb => by
    have tv : Turned (fun k => k = w.heap.size) V (V.setRow w.heap.size #[.int .i64 (a : Int), .int .i64 (k : Int), .slice A t.length c]) := ⟨rfl, rfl, rfl, by simp, fun j _ hj => setRow_other V w.heap.size j _ (fun e => hj (by first | exact e | exact e.symm))⟩
    have h2 : w.heap.size ≤ w2.heap.size := Nat.le_trans (Nat.le_of_lt hs0) Ht2.out.size
    have h2' : w.heap.size < w2.heap.size := Nat.lt_of_lt_of_le hs0 Ht2.out.size
    refine ⟨A, c, rt, rfl, hrt, own_base (tv.own (own_below Hown.out hb) fun j hj e => by have := (Hown.out.lt j hj).1; omega) h2, ((Hr3.out.below hb).far tv fun j hj e => ?_), ?_⟩
    · omega
    · exact turned_step (turned_step (turned_step (Turned.of_below Hb0.out) Ht3.out fun _ _ e => e) (Turned.of_below (p := fun _ => False) (Hb4.out.trans (hb.mono (Nat.le_of_lt hsz4)))) fun _ _ e => e.elim) tv fun j hj e => by omega)
  have HpV := Lib.hid (show ∀ V, Below w4.heap.size w4 V → V.heap[w.heap.size]? = some (.cells #[.int .i64 0, .int .i64 0, .slice none 0 0] 73 (0, 0)) from fun V hb => row_below Hp.out hb)
  have KR := Lib.hid (quo.QRead_any A t.length c t w4 rfl (by have := Htl.out; omega) (Seen.of_own Hown.out))
  by_cases he3 : e3 = 0
  · have q3 : ((e3 : Int) == 0) = true := by simp [he3]
    by_cases ha0 : (0 : Int) < (a : Int)
    · have He3 := Lib.hid he3; have Ha0 := Lib.hid ha0
      have qa : decide (0 < a) = true := decide_eq_true (by omega)
      clear he3 ha0
      by_cases hk0 : (k : Int) = 0
      · have q0 : ((k : Int) == 0) = true := by simpa using hk0
        have Hk0 := Lib.hid hk0; clear hk0
        by_cases hte : t = []
        · have ql : ((t.length : Int) == 0) = true := by simp [hte]
          have Hte := Lib.hid hte; clear hte
          go_upto_region 9 with (first | (go_at_call 189; refine KE.out.mono ?_; rintro e w5 ⟨rfl, rfl⟩))
          have hld := Ld.out w4 (Below.refl _ _)
          go_wp2_with (refine wpList_store_row rfl 73 (.tmp 2) (.tmp 46) rfl w.heap.size #[.int .i64 (a : Int), .int .i64 (k : Int), .slice A t.length c] rfl rfl 73 _ (HpV.out w4 (Below.refl _ _)) rl.ent_size rfl (by simp [Value.oneCell']) ?_)
          exact bodyPost_ret (v := .tuple #[.agg #[.int .i64 (a : Int), .int .i64 (k : Int), .slice A t.length c], .bool true]) (rl.results_cell_2 rfl _ _ w.heap.size 73 #[.int .i64 (a : Int), .int .i64 (k : Int), .slice A t.length c] (0, 0) _ (.bool true) rfl rfl (setRow_heap _ _ _ _ _ (0, 0) (HpV.out w4 (Below.refl _ _))) Tryz.underlying73 rfl rl.ent_size) rfl (Fin.out true w4 (⟨fun _ => ⟨He3.out, by show (0 : Int) < (a : Int); exact Ha0.out, fun _ => Hte.out, fun e => by have := Hk0.out; have e : (k : Int) = 2 := e; omega⟩, fun _ => rfl⟩) (Below.refl _ _))
        · have ql : ((t.length : Int) == 0) = false := by simpa using hte
          have Hte := Lib.hid hte; clear hte
          go_upto_region 9 with (first | (go_at_call 189; refine KE.out.mono ?_; rintro e w5 ⟨rfl, rfl⟩))
          have hld := Ld.out w4 (Below.refl _ _)
          go_wp2_with (refine wpList_store_row rfl 73 (.tmp 2) (.tmp 46) rfl w.heap.size #[.int .i64 (a : Int), .int .i64 (k : Int), .slice A t.length c] rfl rfl 73 _ (HpV.out w4 (Below.refl _ _)) rl.ent_size rfl (by simp [Value.oneCell']) ?_)
          exact bodyPost_ret (v := .tuple #[.agg #[.int .i64 (a : Int), .int .i64 (k : Int), .slice A t.length c], .bool false]) (rl.results_cell_2 rfl _ _ w.heap.size 73 #[.int .i64 (a : Int), .int .i64 (k : Int), .slice A t.length c] (0, 0) _ (.bool false) rfl rfl (setRow_heap _ _ _ _ _ (0, 0) (HpV.out w4 (Below.refl _ _))) Tryz.underlying73 rfl rl.ent_size) rfl (Fin.out false w4 (⟨fun e => absurd e (by decide), fun e => absurd (e.2.2.1 Hk0.out) Hte.out⟩) (Below.refl _ _))
      · have q0 : ((k : Int) == 0) = false := by simpa using hk0
        by_cases hk2 : (k : Int) = 2
        · have q2 : ((k : Int) == 2) = true := by simpa using hk2
          have Hk0 := Lib.hid hk0; have Hk2 := Lib.hid hk2; clear hk0 hk2
          go_upto_region 7 with (first | (go_at_call 189; refine KE.out.mono ?_; rintro e w5 ⟨rfl, rfl⟩))
          go_wp2_with fail
          refine KR.out.mono ?_
          rintro e w6 ⟨⟨us, UA, uc, hur, hub, rfl, hul, huc, hus⟩ | ⟨hno, rfl⟩, hb6⟩
          · have Hb6 := Lib.hid hb6
            have Hur := Lib.hid hur; have Hub := Lib.hid hub
            clear hb6 hur hub hul huc hus
            go_upto_region 9 with fail
            have hld := Ld.out w6 Hb6.out
            go_wp2_with (refine wpList_store_row rfl 73 (.tmp 2) (.tmp 46) rfl w.heap.size #[.int .i64 (a : Int), .int .i64 (k : Int), .slice A t.length c] rfl rfl 73 _ (HpV.out w6 Hb6.out) rl.ent_size rfl (by simp [Value.oneCell']) ?_)
            exact bodyPost_ret (v := .tuple #[.agg #[.int .i64 (a : Int), .int .i64 (k : Int), .slice A t.length c], .bool true]) (rl.results_cell_2 rfl _ _ w.heap.size 73 #[.int .i64 (a : Int), .int .i64 (k : Int), .slice A t.length c] (0, 0) _ (.bool true) rfl rfl (setRow_heap _ _ _ _ _ (0, 0) (HpV.out w6 Hb6.out)) Tryz.underlying73 rfl rl.ent_size) rfl (Fin.out true w6 (⟨fun _ => ⟨He3.out, by show (0 : Int) < (a : Int); exact Ha0.out, fun e => absurd e Hk0.out, fun _ => ⟨us, Hur.out, Hub.out⟩⟩, fun _ => rfl⟩) Hb6.out)
          · have Hb6 := Lib.hid hb6
            have Hno := Lib.hid hno
            clear hb6 hno
            go_upto_region 9 with fail
            have hld := Ld.out w6 Hb6.out
            go_wp2_with (refine wpList_store_row rfl 73 (.tmp 2) (.tmp 46) rfl w.heap.size #[.int .i64 (a : Int), .int .i64 (k : Int), .slice A t.length c] rfl rfl 73 _ (HpV.out w6 Hb6.out) rl.ent_size rfl (by simp [Value.oneCell']) ?_)
            exact bodyPost_ret (v := .tuple #[.agg #[.int .i64 (a : Int), .int .i64 (k : Int), .slice A t.length c], .bool false]) (rl.results_cell_2 rfl _ _ w.heap.size 73 #[.int .i64 (a : Int), .int .i64 (k : Int), .slice A t.length c] (0, 0) _ (.bool false) rfl rfl (setRow_heap _ _ _ _ _ (0, 0) (HpV.out w6 Hb6.out)) Tryz.underlying73 rfl rl.ent_size) rfl (Fin.out false w6 (⟨fun e => absurd e (by decide), fun e => by obtain ⟨us, h1, h2⟩ := e.2.2.2 Hk2.out; exact absurd h2 (Hno.out us h1)⟩) Hb6.out)
        · have q2 : ((k : Int) == 2) = false := by simpa using hk2
          have Hk0 := Lib.hid hk0; have Hk2 := Lib.hid hk2; clear hk0 hk2
          go_upto_region 9 with (first | (go_at_call 189; refine KE.out.mono ?_; rintro e w5 ⟨rfl, rfl⟩))
          have hld := Ld.out w4 (Below.refl _ _)
          go_wp2_with (refine wpList_store_row rfl 73 (.tmp 2) (.tmp 46) rfl w.heap.size #[.int .i64 (a : Int), .int .i64 (k : Int), .slice A t.length c] rfl rfl 73 _ (HpV.out w4 (Below.refl _ _)) rl.ent_size rfl (by simp [Value.oneCell']) ?_)
          exact bodyPost_ret (v := .tuple #[.agg #[.int .i64 (a : Int), .int .i64 (k : Int), .slice A t.length c], .bool true]) (rl.results_cell_2 rfl _ _ w.heap.size 73 #[.int .i64 (a : Int), .int .i64 (k : Int), .slice A t.length c] (0, 0) _ (.bool true) rfl rfl (setRow_heap _ _ _ _ _ (0, 0) (HpV.out w4 (Below.refl _ _))) Tryz.underlying73 rfl rl.ent_size) rfl (Fin.out true w4 (⟨fun _ => ⟨He3.out, by show (0 : Int) < (a : Int); exact Ha0.out, fun e => absurd e Hk0.out, fun e => absurd e Hk2.out⟩, fun _ => rfl⟩) (Below.refl _ _))
    · have He3 := Lib.hid he3; have Ha0 := Lib.hid ha0
      have qa : decide (0 < a) = false := decide_eq_false (by omega)
      clear he3 ha0
      by_cases hk0 : (k : Int) = 0
      · have q0 : ((k : Int) == 0) = true := by simpa using hk0
        have Hk0 := Lib.hid hk0; clear hk0
        go_upto_region 9 with (first | (go_at_call 189; refine KE.out.mono ?_; rintro e w5 ⟨rfl, rfl⟩))
        have hld := Ld.out w4 (Below.refl _ _)
        go_wp2_with (refine wpList_store_row rfl 73 (.tmp 2) (.tmp 46) rfl w.heap.size #[.int .i64 (a : Int), .int .i64 (k : Int), .slice A t.length c] rfl rfl 73 _ (HpV.out w4 (Below.refl _ _)) rl.ent_size rfl (by simp [Value.oneCell']) ?_)
        exact bodyPost_ret (v := .tuple #[.agg #[.int .i64 (a : Int), .int .i64 (k : Int), .slice A t.length c], .bool false]) (rl.results_cell_2 rfl _ _ w.heap.size 73 #[.int .i64 (a : Int), .int .i64 (k : Int), .slice A t.length c] (0, 0) _ (.bool false) rfl rfl (setRow_heap _ _ _ _ _ (0, 0) (HpV.out w4 (Below.refl _ _))) Tryz.underlying73 rfl rl.ent_size) rfl (Fin.out false w4 (⟨fun e => absurd e (by decide), fun e => (by have h1 : (0 : Int) < (a : Int) := e.2.1; have := Ha0.out; omega)⟩) (Below.refl _ _))
      · have q0 : ((k : Int) == 0) = false := by simpa using hk0
        by_cases hk2 : (k : Int) = 2
        · have q2 : ((k : Int) == 2) = true := by simpa using hk2
          have Hk0 := Lib.hid hk0; have Hk2 := Lib.hid hk2; clear hk0 hk2
          go_upto_region 7 with (first | (go_at_call 189; refine KE.out.mono ?_; rintro e w5 ⟨rfl, rfl⟩))
          go_wp2_with fail
          refine KR.out.mono ?_
          rintro e w6 ⟨⟨us, UA, uc, hur, hub, rfl, hul, huc, hus⟩ | ⟨hno, rfl⟩, hb6⟩
          · have Hb6 := Lib.hid hb6
            have Hur := Lib.hid hur; have Hub := Lib.hid hub
            clear hb6 hur hub hul huc hus
            go_upto_region 9 with fail
            have hld := Ld.out w6 Hb6.out
            go_wp2_with (refine wpList_store_row rfl 73 (.tmp 2) (.tmp 46) rfl w.heap.size #[.int .i64 (a : Int), .int .i64 (k : Int), .slice A t.length c] rfl rfl 73 _ (HpV.out w6 Hb6.out) rl.ent_size rfl (by simp [Value.oneCell']) ?_)
            exact bodyPost_ret (v := .tuple #[.agg #[.int .i64 (a : Int), .int .i64 (k : Int), .slice A t.length c], .bool false]) (rl.results_cell_2 rfl _ _ w.heap.size 73 #[.int .i64 (a : Int), .int .i64 (k : Int), .slice A t.length c] (0, 0) _ (.bool false) rfl rfl (setRow_heap _ _ _ _ _ (0, 0) (HpV.out w6 Hb6.out)) Tryz.underlying73 rfl rl.ent_size) rfl (Fin.out false w6 (⟨fun e => absurd e (by decide), fun e => (by have h1 : (0 : Int) < (a : Int) := e.2.1; have := Ha0.out; omega)⟩) Hb6.out)
          · have Hb6 := Lib.hid hb6
            have Hno := Lib.hid hno
            clear hb6 hno
            go_upto_region 9 with fail
            have hld := Ld.out w6 Hb6.out
            go_wp2_with (refine wpList_store_row rfl 73 (.tmp 2) (.tmp 46) rfl w.heap.size #[.int .i64 (a : Int), .int .i64 (k : Int), .slice A t.length c] rfl rfl 73 _ (HpV.out w6 Hb6.out) rl.ent_size rfl (by simp [Value.oneCell']) ?_)
            exact bodyPost_ret (v := .tuple #[.agg #[.int .i64 (a : Int), .int .i64 (k : Int), .slice A t.length c], .bool false]) (rl.results_cell_2 rfl _ _ w.heap.size 73 #[.int .i64 (a : Int), .int .i64 (k : Int), .slice A t.length c] (0, 0) _ (.bool false) rfl rfl (setRow_heap _ _ _ _ _ (0, 0) (HpV.out w6 Hb6.out)) Tryz.underlying73 rfl rl.ent_size) rfl (Fin.out false w6 (⟨fun e => absurd e (by decide), fun e => (by have h1 : (0 : Int) < (a : Int) := e.2.1; have := Ha0.out; omega)⟩) Hb6.out)
        · have q2 : ((k : Int) == 2) = false := by simpa using hk2
          have Hk0 := Lib.hid hk0; have Hk2 := Lib.hid hk2; clear hk0 hk2
          go_upto_region 9 with (first | (go_at_call 189; refine KE.out.mono ?_; rintro e w5 ⟨rfl, rfl⟩))
          have hld := Ld.out w4 (Below.refl _ _)
          go_wp2_with (refine wpList_store_row rfl 73 (.tmp 2) (.tmp 46) rfl w.heap.size #[.int .i64 (a : Int), .int .i64 (k : Int), .slice A t.length c] rfl rfl 73 _ (HpV.out w4 (Below.refl _ _)) rl.ent_size rfl (by simp [Value.oneCell']) ?_)
          exact bodyPost_ret (v := .tuple #[.agg #[.int .i64 (a : Int), .int .i64 (k : Int), .slice A t.length c], .bool false]) (rl.results_cell_2 rfl _ _ w.heap.size 73 #[.int .i64 (a : Int), .int .i64 (k : Int), .slice A t.length c] (0, 0) _ (.bool false) rfl rfl (setRow_heap _ _ _ _ _ (0, 0) (HpV.out w4 (Below.refl _ _))) Tryz.underlying73 rfl rl.ent_size) rfl (Fin.out false w4 (⟨fun e => absurd e (by decide), fun e => (by have h1 : (0 : Int) < (a : Int) := e.2.1; have := Ha0.out; omega)⟩) (Below.refl _ _))
  · have q3 : ((e3 : Int) == 0) = false := by simpa using he3
    have He3 := Lib.hid he3; clear he3
    by_cases hk0 : (k : Int) = 0
    · have q0 : ((k : Int) == 0) = true := by simpa using hk0
      have Hk0 := Lib.hid hk0; clear hk0
      go_upto_region 9 with (first | (go_at_call 189; refine KE.out.mono ?_; rintro e w5 ⟨rfl, rfl⟩))
      have hld := Ld.out w4 (Below.refl _ _)
      go_wp2_with (refine wpList_store_row rfl 73 (.tmp 2) (.tmp 46) rfl w.heap.size #[.int .i64 (a : Int), .int .i64 (k : Int), .slice A t.length c] rfl rfl 73 _ (HpV.out w4 (Below.refl _ _)) rl.ent_size rfl (by simp [Value.oneCell']) ?_)
      exact bodyPost_ret (v := .tuple #[.agg #[.int .i64 (a : Int), .int .i64 (k : Int), .slice A t.length c], .bool false]) (rl.results_cell_2 rfl _ _ w.heap.size 73 #[.int .i64 (a : Int), .int .i64 (k : Int), .slice A t.length c] (0, 0) _ (.bool false) rfl rfl (setRow_heap _ _ _ _ _ (0, 0) (HpV.out w4 (Below.refl _ _))) Tryz.underlying73 rfl rl.ent_size) rfl (Fin.out false w4 (⟨fun e => absurd e (by decide), fun e => absurd e.1 He3.out⟩) (Below.refl _ _))
    · have q0 : ((k : Int) == 0) = false := by simpa using hk0
      by_cases hk2 : (k : Int) = 2
      · have q2 : ((k : Int) == 2) = true := by simpa using hk2
        have Hk0 := Lib.hid hk0; have Hk2 := Lib.hid hk2; clear hk0 hk2
        go_upto_region 7 with (first | (go_at_call 189; refine KE.out.mono ?_; rintro e w5 ⟨rfl, rfl⟩))
        go_wp2_with fail
        refine KR.out.mono ?_
        rintro e w6 ⟨⟨us, UA, uc, hur, hub, rfl, hul, huc, hus⟩ | ⟨hno, rfl⟩, hb6⟩
        · have Hb6 := Lib.hid hb6
          have Hur := Lib.hid hur; have Hub := Lib.hid hub
          clear hb6 hur hub hul huc hus
          go_upto_region 9 with fail
          have hld := Ld.out w6 Hb6.out
          go_wp2_with (refine wpList_store_row rfl 73 (.tmp 2) (.tmp 46) rfl w.heap.size #[.int .i64 (a : Int), .int .i64 (k : Int), .slice A t.length c] rfl rfl 73 _ (HpV.out w6 Hb6.out) rl.ent_size rfl (by simp [Value.oneCell']) ?_)
          exact bodyPost_ret (v := .tuple #[.agg #[.int .i64 (a : Int), .int .i64 (k : Int), .slice A t.length c], .bool false]) (rl.results_cell_2 rfl _ _ w.heap.size 73 #[.int .i64 (a : Int), .int .i64 (k : Int), .slice A t.length c] (0, 0) _ (.bool false) rfl rfl (setRow_heap _ _ _ _ _ (0, 0) (HpV.out w6 Hb6.out)) Tryz.underlying73 rfl rl.ent_size) rfl (Fin.out false w6 (⟨fun e => absurd e (by decide), fun e => absurd e.1 He3.out⟩) Hb6.out)
        · have Hb6 := Lib.hid hb6
          have Hno := Lib.hid hno
          clear hb6 hno
          go_upto_region 9 with fail
          have hld := Ld.out w6 Hb6.out
          go_wp2_with (refine wpList_store_row rfl 73 (.tmp 2) (.tmp 46) rfl w.heap.size #[.int .i64 (a : Int), .int .i64 (k : Int), .slice A t.length c] rfl rfl 73 _ (HpV.out w6 Hb6.out) rl.ent_size rfl (by simp [Value.oneCell']) ?_)
          exact bodyPost_ret (v := .tuple #[.agg #[.int .i64 (a : Int), .int .i64 (k : Int), .slice A t.length c], .bool false]) (rl.results_cell_2 rfl _ _ w.heap.size 73 #[.int .i64 (a : Int), .int .i64 (k : Int), .slice A t.length c] (0, 0) _ (.bool false) rfl rfl (setRow_heap _ _ _ _ _ (0, 0) (HpV.out w6 Hb6.out)) Tryz.underlying73 rfl rl.ent_size) rfl (Fin.out false w6 (⟨fun e => absurd e (by decide), fun e => absurd e.1 He3.out⟩) Hb6.out)
      · have q2 : ((k : Int) == 2) = false := by simpa using hk2
        have Hk0 := Lib.hid hk0; have Hk2 := Lib.hid hk2; clear hk0 hk2
        go_upto_region 9 with (first | (go_at_call 189; refine KE.out.mono ?_; rintro e w5 ⟨rfl, rfl⟩))
        have hld := Ld.out w4 (Below.refl _ _)
        go_wp2_with (refine wpList_store_row rfl 73 (.tmp 2) (.tmp 46) rfl w.heap.size #[.int .i64 (a : Int), .int .i64 (k : Int), .slice A t.length c] rfl rfl 73 _ (HpV.out w4 (Below.refl _ _)) rl.ent_size rfl (by simp [Value.oneCell']) ?_)
        exact bodyPost_ret (v := .tuple #[.agg #[.int .i64 (a : Int), .int .i64 (k : Int), .slice A t.length c], .bool false]) (rl.results_cell_2 rfl _ _ w.heap.size 73 #[.int .i64 (a : Int), .int .i64 (k : Int), .slice A t.length c] (0, 0) _ (.bool false) rfl rfl (setRow_heap _ _ _ _ _ (0, 0) (HpV.out w4 (Below.refl _ _))) Tryz.underlying73 rfl rl.ent_size) rfl (Fin.out false w4 (⟨fun e => absurd e (by decide), fun e => absurd e.1 He3.out⟩) (Below.refl _ _))
end
end Go.Proofs.YtdlgihgdpdiglaaGreat
end

section
namespace Go.Proofs.YtdlgihgdpdiglaaGreat
open Go.ChangeShapes Go.WideShapes Go.ChangeAt Go.RowKit
set_option linter.unusedVariables false

theorem logD_base {w : World} {B B' g : Nat} {q : Option Nat} {base term : Int} {x : List rl.Dat} (h : rl.LogD w B g q base term x) (hb : B' ≤ B) : rl.LogD w B' g q base term x := by
  obtain ⟨X, e, h1, ⟨A, c, h2, h3, h4⟩, h5⟩ := h
  exact ⟨X, e, Nat.le_trans hb h1, ⟨A, c, h2, rl.own_baseM h3 hb, h4⟩, h5⟩
/-- a node that has no entries as yet -/
def LoadedRet (n : Nat) (c : Nc) (w : World) (e : Ending) (w' : World) : Prop :=
  e = .returned (.tuple #[]) ∧ ∃ l q, NcAt w' n { c with lg := .pointer (some ⟨l, 0, none⟩) } ∧ rl.LogD w' w.heap.size l q c.si c.sn [] ∧ Turned (fun k => k = n) w w'
set_option maxRecDepth 100000 in
set_option maxHeartbeats 1000000 in
theorem NloadEntries_none (B n gen : Nat) (c : Nc) (w : World) (h : NcAt w n c) (hv : ReadV w B c.v gen []) (h0 : 0 ≤ c.si) (h1 : c.si ≤ 1099511627776) (h2 : 0 ≤ c.sn) :
    Calls Tryz.prog 74 #[.pointer (some ⟨n, 0, none⟩)] w (LoadedRet n c w) := by
  have c6 := h.c6; have c7 := h.c7
  have H := Lib.hid h; have Hv := Lib.hid hv; have H0 := Lib.hid h0; have H1 := Lib.hid h1; have H2 := Lib.hid h2
  have hnl := h.lt
  clear h hv h0 h1 h2
  go_enter Tryz.func74, Tryz.ntmps74
  go_upto_region 0 with fail
  go_quiet (fail)
  rename_i nq
  obtain ⟨w1, hw1⟩ : ∃ w1, w.drewN nq = w1 := ⟨_, rfl⟩
  rw [hw1]
  have hb1 : Below w.heap.size w w1 := by rw [← hw1]; exact below_drewN (Below.refl _ _) nq
  have Hb1 := Lib.hid hb1
  have d5 := (H.out.below hb1).c5
  clear c6 c7 hw1 hb1
  go_upto_region 1 with fail
  go_wp2_with fail
  refine (rl.New_yes c.si c.sn w1 H0.out H2.out).mono ?_
  rintro e w2 ⟨rfl, hl, hb2, -⟩
  have Hl := Lib.hid hl
  have Hb2 := Lib.hid (Hb1.out.trans (hb2.mono Hb1.out.size))
  have hs12 := hb2.size
  clear hl hb2 d5
  obtain ⟨l, hl⟩ : ∃ l, w1.heap.size = l := ⟨_, rfl⟩
  have Hsl := Lib.hid (show w.heap.size ≤ l by have := Hb1.out.size; omega)
  rw [hl] at Hl ⊢
  have hr2 := H.out.below Hb2.out
  have d5 := hr2.c5
  have z5 := hr2.fr 5
  have hw3 : WroteN n { c with lg := .pointer (some ⟨l, 0, none⟩) } w2 (w2.setCell ⟨n, 5, none⟩ (.pointer (some ⟨l, 0, none⟩))) := (WroteN.refl hr2).set 5 _ rfl
  obtain ⟨w3, hw3e⟩ : ∃ w3, w2.setCell ⟨n, 5, none⟩ (.pointer (some ⟨l, 0, none⟩)) = w3 := ⟨_, rfl⟩
  have Hw3 := Lib.hid hw3
  rw [hw3e] at Hw3
  have t23 := Hw3.out.2
  have T3 := Lib.hid (turned_step (Turned.of_below Hb2.out) t23 fun _ _ e => e)
  have Hl3 := Lib.hid (rl.LogD.turned Hl.out t23 (fun k hk e => by have := (Hl.out.block hk).1; have := Hsl.out; omega) (fun k cs fr e x => by
    have hr := hr2
    unfold NcAt at hr
    rw [e, hr] at x
    injection x with x
    injection x with _ x _
    exact absurd x (by decide)))
  have Hv3 := Lib.hid (show ReadV w3 B c.v gen [] from by
    obtain ⟨g', j, m, next, k1, k2, k3, k4⟩ := Hv.out.below Hb2.out
    refine ⟨g', j, m, next, t23.heap k1 (fun e => ?_), k2.turned t23 (fun k e _ => ?_), k3, k4⟩
    · have hr := hr2
      unfold NcAt at hr
      rw [e, hr] at k1
      injection k1 with x
      injection x with _ x _
      exact absurd x (by decide)
    · subst e
      exact ⟨_, _, _, hr2, by decide⟩)
  clear hw3 t23 hr2 hs12 hl
  go_wp2
  clear hw3e d5 z5
  go_loopw [2, 3] (fun iv tv wr => iv = .int .i64 c.si ∧ tv = .int .i64 c.sn ∧ wr = w3) (fun _ _ _ => 0)
  case atStart => exact ⟨rfl, rfl, rfl⟩
  case round =>
    obtain ⟨rfl, rfl, hwr⟩ := hrel
    subst hwr
    have ws : IntKind.i64.wrap (c.si + 1) = c.si + 1 := rl.i64_add (by have := H0.out; omega) (by have := H1.out; omega)
    have KK := Lib.hid (fun W => NentryKey (c.si + 1) W (by have := H0.out; omega) (by have := H1.out; omega))
    have KG := Lib.hid (fun W (hb : Below wr.heap.size wr W) => Get_any B c.v gen [] (c.si + 1 + 1) W (Hv3.out.below hb) (by have := H0.out; omega) (by have := H1.out; omega))
    have e1 := Hw3.out.1.c1
    have Cs := Lib.hid (show ∀ W, Below wr.heap.size wr W → W.cell? ⟨n, 1, none⟩ = some (.pointer (some ⟨c.v, 0, none⟩)) from fun W hb => (Hw3.out.1.below hb).c1)
    go_upto_region 3 with fail
    go_region_held3 (fun w' => w'.cell? ⟨n, 1, none⟩ = some (.pointer (some ⟨c.v, 0, none⟩)))
      (first | exact e1 | exact Cs.out _ Hb4.out)
      (first
        | (go_at_call 137; refine (KK.out _).mono ?_; rintro e wq ⟨rfl, rfl⟩)
        | (go_at_call 71; refine (KG.out _ (Below.refl wr.heap.size wr).drew).mono ?_; intro e w4 hg4; obtain ⟨A4, c4, rfl, hown4, hb4⟩ := GetRet.zero hg4; clear hg4; have Hb4 := Lib.hid ((Below.refl wr.heap.size wr).drew.trans hb4); have Hown4 := Lib.hid hown4; clear hown4 hb4))
    have hs4 := Hb4.out.size
    clear e1
    go_wp2_with fail
    refine (NewR_any A4 0 c4 [] w4 rfl (by omega) (Seen.of_own Hown4.out)).mono ?_
    rintro e w5 ⟨g5, rfl, hg5, hr5, hb5⟩
    have Hr5 := Lib.hid hr5; have Hb5 := Lib.hid (Hb4.out.trans (hb5.mono hs4))
    have Hg5 := Lib.hid (show wr.heap.size ≤ g5 by omega)
    clear hr5 hb5 hg5
    obtain ⟨d, rest, er, hd⟩ : ∃ d rest er, rdEnt [] 0 = (d, rest, er) := ⟨_, _, _, rfl⟩
    have KR := Lib.hid (NreadEntry g5 0 [] w5 Hr5.out)
    rw [hd] at KR
    clear hd
    go_wp2_with fail
    refine KR.out.mono ?_
    rintro e w6 ⟨A6, c6, rt, rfl, -, hown6, -, ht6⟩
    obtain ⟨w7, hw7, hb7, hh7⟩ := rl.ent_box w6 ⟨d.1, d.2.1, A6, d.2.2.length, c6, d.2.2⟩
    simp only at hw7 hh7 ⊢
    have H7 := Lib.hid (turned_step (turned_step T3.out (Turned.of_below (p := fun _ => False) Hb5.out) fun _ _ e => e.elim) (turned_step ht6 (Turned.of_below (p := fun _ => False) hb7) fun _ _ e => e.elim) fun k hk e => by have := Hg5.out; have := T3.out.size; have e : k = g5 := e; omega)
    have L7 := Lib.hid (show rl.LogD w7 l l none c.si c.sn [] from by
      have hl := Hl3.out.below Hb5.out
      have hbk : ∀ k, rl.FootL l none k → k < wr.heap.size := fun k hk => (Hl3.out.block hk).2
      refine (hl.turned ht6 (fun k hk e => by have := hbk k hk; have := Hg5.out; have e : k = g5 := e; omega) (fun k cs fr e x => ?_)).below hb7
      obtain ⟨A, n', c', hh, _⟩ := Hr5.out
      have e : k = g5 := e
      rw [e, hh] at x
      injection x with x
      injection x with _ x _
      exact absurd x (by decide))
    have N7 := Lib.hid (show NcAt w7 n { c with lg := .pointer (some ⟨l, 0, none⟩) } from ((Hw3.out.1.below Hb5.out).turned ht6 (fun e => by have := Hg5.out; have := T3.out.size; omega)).below hb7)
    clear ht6 hown6 hb7 hh7
    go_upto_region 6 with fail
    go_quiet (fail)
    go_wp2
    go_end0
    exact ⟨rfl, l, none, N7.out.draw _, logD_base (L7.out.below (below_drewN (Below.refl _ _) _)) Hsl.out, turned_step H7.out (Turned.of_below (p := fun _ => False) (below_drewN (Below.refl _ _) _)) fun _ _ e => e.elim⟩
/-! ### membersAt where nothing stands behind the base -/
/-- the snapshot's members, and the base -/
theorem NmembersAt_base (B n l : Nat) (q : Option Nat) (c : Nc) (i term : Int) (x : List rl.Dat) (w : World) (h : NcAt w n c) (hlg : c.lg = .pointer (some ⟨l, 0, none⟩)) (hl : rl.LogD w B l q c.si term x) (hi : i ≤ c.si) :
    Calls Tryz.prog 75 #[.pointer (some ⟨n, 0, none⟩), .int .i64 i] w fun e w' => e = .returned (.tuple #[.slice c.sm.A c.sm.n c.sm.c, .int .i64 c.si]) ∧ Below w.heap.size w w' := by
  have c5 := h.c5
  rw [hlg] at c5
  have KB := Lib.hid (LBase B l q c.si term x w hl)
  have H := Lib.hid h
  clear h hl
  go_enter Tryz.func75, Tryz.ntmps75
  go_wp2_with fail
  refine KB.out.mono ?_
  rintro e w1 ⟨rfl, hb1⟩
  have Hb1 := Lib.hid hb1
  have c8 := (H.out.below hb1).c8
  clear hb1 c5 hlg
  go_wp2
  go_loopw [1] (fun iv wr => iv = .int .i64 i ∧ wr = w1) (fun _ _ => 0)
  case atStart => exact ⟨rfl, rfl⟩
  case round =>
    obtain ⟨rfl, hwr⟩ := hrel
    subst hwr
    have q1 : ¬ c.si < i := by omega
    have q2 : decide (c.si < i) = false := decide_eq_false q1
    go_wp2
    go_ret2
    exact ⟨rfl, Hb1.out⟩
end Go.Proofs.YtdlgihgdpdiglaaGreat
end

section
namespace Go.Proofs.YtdlgihgdpdiglaaGreat
open Go.ChangeShapes Go.WideShapes Go.ChangeAt Go.RowKit
set_option linter.unusedVariables false

/-! ### room -/
theorem secs_le16 {gen : Nat} (hg : gen ≤ 1099511627776) : ∀ {ts : List (List UInt8)} {k : Nat}, (∀ t ∈ ts, t.length ≤ 930) → k + ts.length ≤ 1000000 → secsUp gen k ts ≤ 16 * ts.length
  | [], _, _, _ => Nat.le_refl _
  | t :: r, k, h, hk => by
    rw [List.length_cons] at hk ⊢
    have h1 := many_small (n := k) hg (by omega) (h t (by simp))
    have h2 := secs_le16 hg (ts := r) (k := k + 1) (fun u hu => h u (by simp [hu])) (by omega)
    rw [secsUp]
    omega
theorem used_le {st : Vt} (h : st.Ok) : st.used ≤ 16 * st.cs.length := by
  have := h.few
  have h1 := secs_le16 h.g (ts := st.texts) (k := 0) h.small (by rw [st.texts_length]; omega)
  rw [st.texts_length] at h1
  exact h1
theorem fits_room {st : Vt} (h : st.Ok) {c : Chg} (hc : c.Ok) (hr : 16 * st.cs.length + 16 ≤ st.m) : st.fits c := by
  have h1 := used_le h
  have := h.few
  have h2 := many_small (n := st.cs.length) h.g (by omega) (Nat.le_trans (Chg.text_len hc) (by omega) : c.text.length ≤ 930)
  unfold Vt.fits
  omega
theorem noted_m (st : Vt) (c : Chg) : (st.noted c).m = st.m := rfl
theorem noted_len (st : Vt) (c : Chg) : (st.noted c).cs.length = st.cs.length + 1 := by simp [Vt.noted]

/-! ### a change of the vault -/
theorem Parts.put {w w' : World} {B : Nat} {a : Ad} {N : Nd} {FV' : Nat → Prop} {st' : Vt} (h : Parts w B a N) (ht : Turned a.FV w w') (hv : IsF w' B a.v a.g a.s FV' st') (hf : ∀ k, FV' k → a.FV k ∨ w.heap.size ≤ k) : Parts w' B { a with FV := FV' } { N with st := st' } := by
  have hb : rl.NoBytes w a.FV := fun k cs fr hk e => h.vault.noBytes k cs fr hk e
  have hi : NoInts w a.FV := fun k cs fr hk e => h.type e (by unfold TouchT; decide) (.inl hk)
  refine ⟨hv, h.log.turned ht (fun k hk hk2 => ?_) hb, h.sm.turned ht hi, h.mem.turned ht hi, h.votes.turned ht hi, h.sslen, h.ss.turned ht hb, fun p hp => ?_⟩
  · obtain ⟨X, _, hl⟩ := h.log
    obtain ⟨h1, h2, cs, T, h3, h4⟩ := hl.block hk
    obtain ⟨_, _, ⟨cs', T', k3, k4⟩ | ⟨es, c, k3⟩⟩ := h.vault.kinds hk2
    · rw [h3] at k3
      injection k3 with k3
      injection k3 with _ e _
      subst e
      rcases h4 with rfl | rfl <;> exact absurd k4 (by unfold TouchT; decide)
    · rw [h3] at k3; cases k3
  · obtain ⟨h1, h2, h3⟩ := h.peers p hp
    refine ⟨h1, fun e => ?_, map_turned h3 ht h2⟩
    rcases hf p e with e | e
    · exact h2 e
    · obtain ⟨es, c, hm⟩ := h3.map
      have := (Array.getElem?_eq_some_iff.1 hm).1
      omega
theorem IsA.put {w w' : World} {B n : Nat} {a : Ad} {N : Nd} {st' : Vt} (h : IsA w B n a N) (ht : Turned a.FV w w') (hv : NewF w B a.v a.g a.s a.FV st' w') : MovA B n a { N with st := st' } w w' := by
  obtain ⟨FV', h1, h2⟩ := hv
  refine ⟨{ a with FV := FV' }, ⟨h.lo, h.row.turned ht (fun e => h.far (.inl e)), h.parts.put ht h1 h2⟩, fun k hk => ?_, ht.mono fun k _ e => .inr (.inl e), rfl, rfl, rfl⟩
  rcases hk with e | e | e | e
  · exact .inl (.inl e)
  · rcases h2 k e with e | e
    · exact .inl (.inr (.inl e))
    · exact .inr e
  · exact .inl (.inr (.inr (.inl e)))
  · exact .inl (.inr (.inr (.inr e)))

/-! ### a node's structs -/
def ldSn (p : Value) : Sem Value := Instr.loadAt 95 p
theorem ldSn_eq (p : Value) : Instr.loadAt 95 p = ldSn p := rfl
theorem snap_size : (Tryz.prog.info? 95).map (·.size) = some 4 := by kernel_rfl
theorem NcAt.ldSn {w : World} {n : Nat} {c : Nc} (h : NcAt w n c) : (ldSn (.pointer (some ⟨n, 6, none⟩))).run Tryz.prog w = .ok (.agg #[.int .i64 c.si, .int .i64 c.sn, .slice c.sm.A c.sm.n c.sm.c, .slice c.ss.A c.ss.n c.ss.c]) w := by
  have hr : w.rangeAt n 6 [.int .i64 c.si, .int .i64 c.sn, .slice c.sm.A c.sm.n c.sm.c, .slice c.ss.A c.ss.n c.ss.c] := fun j v hv => by
    match j, hv with
    | 0, hv => simp at hv; subst hv; exact h.c6
    | 1, hv => simp at hv; subst hv; exact h.c7
    | 2, hv => simp at hv; subst hv; exact h.c8
    | 3, hv => simp at hv; subst hv; exact h.c9
  exact run_loadAt_mid w n 6 95 _ _ hr Tryz.underlying95 rfl snap_size
theorem NcAt.ldBl {w : World} {n : Nat} {c : Nc} (h : NcAt w n c) : (bal.ldBal (.pointer (some ⟨n, 3, none⟩))).run Tryz.prog w = .ok (.agg #[.int .i64 c.te, .int .i64 c.vo]) w := by
  have hr : w.rangeAt n 3 [.int .i64 c.te, .int .i64 c.vo] := fun j v hv => by
    match j, hv with
    | 0, hv => simp at hv; subst hv; exact h.c3
    | 1, hv => simp at hv; subst hv; exact h.c4
  exact run_loadAt_mid w n 3 92 _ _ hr Tryz.underlying92 rfl bal.bal_info
end Go.Proofs.YtdlgihgdpdiglaaGreat
end
