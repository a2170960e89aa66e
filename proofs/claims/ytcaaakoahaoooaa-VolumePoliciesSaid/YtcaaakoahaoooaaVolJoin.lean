/-
  Contract of volume's join. Conditions: a state in memory, as find asks; a command of numbers that an int holds.
-/
import Derived.Test.YtcaaakoahaoooaaVolDrop
namespace Go.Proofs.Ytcaaakoahaoooaa
open Go.ChangeShapes Go.WideShapes Go.ChangeAt Go.RowKit
set_option linter.unusedVariables false

attribute [local go_sem ↓] ldCk_eq
attribute [local go_sem ↓] stCk_eq
set_option maxRecDepth 100000 in
set_option maxHeartbeats 4000000 in
theorem VJoin (g : Nat) (s : St) (c : Cmd) (w : World) (h : StAt w g s) (hf : StFit s) (ho : OrdS s) (hk : c.k = 7) :
    Calls Try.prog 51 #[.pointer (some ⟨g, 0, none⟩), cmdA c] w (DoRet g (chunkS s c) w) := by
  unfold cmdA
  obtain ⟨w1, hw1, hb1, hr1⟩ := cmd_box w c
  have c1 : w1.cell? ⟨w.heap.size, 1, none⟩ = some (.int .i64 c.a) := row_cell hr1 1
  have c2 : w1.cell? ⟨w.heap.size, 2, none⟩ = some (.int .i64 c.b) := row_cell hr1 2
  have c3 : w1.cell? ⟨w.heap.size, 3, none⟩ = some (.int .i64 c.c) := row_cell hr1 3
  have H := Lib.hid (h.below hb1); have Hb1 := Lib.hid hb1; have Hr1 := Lib.hid hr1
  have hgl := h.lt
  have KI := VisServer g s c.c w1 H.out
  unfold chunkS
  have Hk := Lib.hid hk
  clear h hb1 hr1
  by_cases h7 : c.k = 7 ∧ isSrv s c.c = false
  · rw [if_pos h7]
    rw [h7.2] at KI
    replace KI := Lib.hid KI
    clear h7 hk
    go_enter Try.func51, Try.ntmps51
    go_wp2_with (go_at_call 75; refine KI.out.mono ?_; rintro e w2 ⟨rfl, rfl⟩)
    go_ret
    exact DoRet.err Hb1.out (by decide)
  rw [if_neg h7]
  have hsv : isSrv s c.c = true := by
    cases he : isSrv s c.c with
    | true => rfl
    | false => exact absurd ⟨hk, he⟩ h7
  rw [hsv] at KI
  replace KI := Lib.hid KI
  clear h7 hk hsv
  cases hfs : findS s c.a with
  | none =>
    have KE := Lib.hid (VinEpoch_none g s c.a c.b w1 H.out hf ho hfs)
    have Hb1 := Hb1
    clear hfs
    go_enter Try.func51, Try.ntmps51
    go_wp2_with fail
    refine KI.out.mono ?_
    rintro e w1' ⟨rfl, rfl⟩
    go_wp2_with fail
    refine KE.out.mono ?_
    rintro e w2 ⟨rfl, hb2⟩
    obtain ⟨wz, w3, hwz, hst9, hb3, hr3⟩ := ck_new w2 ck0
    simp only [ck0, Sl.nil] at hst9 hr3
    have Hb3 := Lib.hid (Hb1.out.trans ((hb2.trans (hb3.mono hb2.size)).mono Hb1.out.size))
    clear hb2 hb3 hr3 hw1 c1 c2
    go_wp2
    go_ret
    exact DoRet.err Hb3.out (by decide)
  | some x =>
    obtain ⟨i, j, k⟩ := x
    simp only
    by_cases hep : k.ep ≠ c.b
    · rw [if_pos hep]
      have KE := Lib.hid (VinEpoch_old g s c.a c.b i j k w1 H.out hf ho hfs hep)
      clear hfs hep
      go_enter Try.func51, Try.ntmps51
      go_wp2_with fail
      refine KI.out.mono ?_
      rintro e w1' ⟨rfl, rfl⟩
      go_wp2_with fail
      refine KE.out.mono ?_
      rintro e w2 ⟨rfl, hb2⟩
      obtain ⟨wz, w3, hwz, hst9, hb3, hr3⟩ := ck_new w2 ck0
      simp only [ck0, Sl.nil] at hst9 hr3
      have Hb3 := Lib.hid (Hb1.out.trans ((hb2.trans (hb3.mono hb2.size)).mono Hb1.out.size))
      clear hb2 hb3 hr3 hw1 c1 c2
      go_wp2
      go_ret
      exact DoRet.err Hb3.out (by decide)
    · rw [if_neg hep]
      have hep : k.ep = c.b := Decidable.of_not_not hep
      have KE := VinEpoch_yes g s c.a i j k w1 H.out hf ho hfs
      rw [hep] at KE
      replace KE := Lib.hid KE
      have hfa := findS_some hfs
      have hkf := (hf.vs i hfa.1).ks k (List.mem_of_getElem? hfa.2.1)
      have Hfa := Lib.hid hfa; have Hkf := Lib.hid hkf; have Hf := Lib.hid hf; have Ho := Lib.hid ho
      have e0 : chunkF c k = if hasK c.c k = true then .inr 8 else if 4 ≤ k.ms.length + k.js.length then .inr 6 else .inl { k with js := k.js ++ [c.c] } := by
        unfold chunkF
        rw [if_neg (by have := Hk.out; omega), if_pos Hk.out]
      rw [e0]
      clear hfs hfa hkf hf ho hep e0
      by_cases hb : hasK c.c k = true
      · rw [if_pos hb]
        have Hb := Lib.hid hb
        clear hb
        go_enter Try.func51, Try.ntmps51
        go_wp2_with fail
        refine KI.out.mono ?_
        rintro e w1' ⟨rfl, rfl⟩
        go_wp2_with fail
        refine KE.out.mono ?_
        rintro e w2 ⟨r, rfl, rfl, hown, hb2⟩
        unfold ckA
        obtain ⟨wz, w3, hwz, hst9, hb3, hr3⟩ := ck_new w2 r
        have hld := ldCk_run (CkAt.of_row hr3)
        have hown3 := hown.below hb3
        have hml : r.ms.length ≤ 16 := Hkf.out.ml
        have hjl : r.js.length ≤ 16 := Hkf.out.jl
        have KH := Vhas r c.c w3 hown3.ok (by omega) (by omega)
        have hb13 := hb2.trans (hb3.mono hb2.size)
        have hr13 := row_below Hr1.out hb13
        have x3 : w3.cell? ⟨w.heap.size, 3, none⟩ = some (.int .i64 c.c) := row_cell hr13 3
        have Hb13 := Lib.hid (Hb1.out.trans (hb13.mono Hb1.out.size)); have Hr13 := Lib.hid hr13; have Hw13 := Lib.hid hb13; have Hr3 := Lib.hid hr3; have Hown3 := Lib.hid hown3
        have hs1 : w1.heap.size ≤ w2.heap.size := hb2.size
        have hsw : w.heap.size < w1.heap.size := (Array.getElem?_eq_some_iff.1 Hr1.out).1
        rw [Hb.out] at KH
        unfold ckA at KH
        replace KH := Lib.hid KH
        clear hown hb2 hb3 hr3 hown3 hb13 hr13 c1 c2 c3 hw1
        go_wp2_with (go_at_call 33; refine KH.out.mono ?_; rintro e w4 ⟨rfl, hb4⟩; have Hb4 := Lib.hid (Hb13.out.trans (hb4.mono Hb13.out.size)); clear hb4)
        go_ret
        exact DoRet.err Hb4.out (by decide)
      · rw [if_neg hb]
        have Hb := Lib.hid (show hasK c.c k = false by simpa using hb)
        clear hb
        by_cases hm : 4 ≤ k.ms.length + k.js.length
        · rw [if_pos hm]
          have Hm := Lib.hid hm
          clear hm
          go_enter Try.func51, Try.ntmps51
          go_wp2_with fail
          refine KI.out.mono ?_
          rintro e w1' ⟨rfl, rfl⟩
          go_wp2_with fail
          refine KE.out.mono ?_
          rintro e w2 ⟨r, rfl, rfl, hown, hb2⟩
          unfold ckA
          obtain ⟨wz, w3, hwz, hst9, hb3, hr3⟩ := ck_new w2 r
          have hld := ldCk_run (CkAt.of_row hr3)
          have hown3 := hown.below hb3
          have hml : r.ms.length ≤ 16 := Hkf.out.ml
          have hjl : r.js.length ≤ 16 := Hkf.out.jl
          have KH := Vhas r c.c w3 hown3.ok (by omega) (by omega)
          have hb13 := hb2.trans (hb3.mono hb2.size)
          have hr13 := row_below Hr1.out hb13
          have x3 : w3.cell? ⟨w.heap.size, 3, none⟩ = some (.int .i64 c.c) := row_cell hr13 3
          have Hb13 := Lib.hid (Hb1.out.trans (hb13.mono Hb1.out.size)); have Hr13 := Lib.hid hr13; have Hw13 := Lib.hid hb13; have Hr3 := Lib.hid hr3; have Hown3 := Lib.hid hown3
          have hs1 : w1.heap.size ≤ w2.heap.size := hb2.size
          have hsw : w.heap.size < w1.heap.size := (Array.getElem?_eq_some_iff.1 Hr1.out).1
          rw [Hb.out] at KH
          unfold ckA at KH
          replace KH := Lib.hid KH
          clear hown hb2 hb3 hr3 hown3 hb13 hr13 c1 c2 c3 hw1
          go_wp2_with fail
          refine KH.out.mono ?_
          rintro e w4 ⟨rfl, hb4⟩
          have hr4 := row_below Hr3.out hb4
          have y3 : w4.cell? ⟨w2.heap.size, 3, none⟩ = some (.slice r.m.A r.m.n r.m.c) := row_cell hr4 3
          have y4 : w4.cell? ⟨w2.heap.size, 4, none⟩ = some (.slice r.j.A r.j.n r.j.c) := row_cell hr4 4
          have hown4 := Hown3.out.below hb4
          have hmn : r.ms.length = r.m.n := hown4.ok.m.len
          have hjn : r.js.length = r.j.n := hown4.ok.j.len
          have Hr4 := Lib.hid hr4; have Hown4 := Lib.hid hown4; have Hb4 := Lib.hid hb4; have Hjn := Lib.hid hjn; have Hmn := Lib.hid hmn
          have m16 : r.m.n ≤ 16 := by omega
          have j16 : r.j.n ≤ 16 := by omega
          have hsum : 4 ≤ (r.m.n : Int) + (r.j.n : Int) := by
            have h := Hm.out
            have h' : 4 ≤ r.ms.length + r.js.length := h
            omega
          clear hmn hjn hr4 hown4 hb4
          go_wp2
          go_ret
          exact DoRet.err (Hb13.out.trans (Hb4.out.mono Hb13.out.size)) (by decide)
        · rw [if_neg hm]
          have Hm := Lib.hid hm
          clear hm
          go_enter Try.func51, Try.ntmps51
          go_wp2_with fail
          refine KI.out.mono ?_
          rintro e w1' ⟨rfl, rfl⟩
          go_wp2_with fail
          refine KE.out.mono ?_
          rintro e w2 ⟨r, rfl, rfl, hown, hb2⟩
          unfold ckA
          obtain ⟨wz, w3, hwz, hst9, hb3, hr3⟩ := ck_new w2 r
          have hld := ldCk_run (CkAt.of_row hr3)
          have hown3 := hown.below hb3
          have hml : r.ms.length ≤ 16 := Hkf.out.ml
          have hjl : r.js.length ≤ 16 := Hkf.out.jl
          have KH := Vhas r c.c w3 hown3.ok (by omega) (by omega)
          have hb13 := hb2.trans (hb3.mono hb2.size)
          have hr13 := row_below Hr1.out hb13
          have x3 : w3.cell? ⟨w.heap.size, 3, none⟩ = some (.int .i64 c.c) := row_cell hr13 3
          have Hb13 := Lib.hid (Hb1.out.trans (hb13.mono Hb1.out.size)); have Hr13 := Lib.hid hr13; have Hw13 := Lib.hid hb13; have Hr3 := Lib.hid hr3; have Hown3 := Lib.hid hown3
          have hs1 : w1.heap.size ≤ w2.heap.size := hb2.size
          have hsw : w.heap.size < w1.heap.size := (Array.getElem?_eq_some_iff.1 Hr1.out).1
          rw [Hb.out] at KH
          unfold ckA at KH
          replace KH := Lib.hid KH
          clear hown hb2 hb3 hr3 hown3 hb13 hr13 c1 c2 c3 hw1
          go_wp2_with fail
          refine KH.out.mono ?_
          rintro e w4 ⟨rfl, hb4⟩
          have hr4 := row_below Hr3.out hb4
          have y3 : w4.cell? ⟨w2.heap.size, 3, none⟩ = some (.slice r.m.A r.m.n r.m.c) := row_cell hr4 3
          have y4 : w4.cell? ⟨w2.heap.size, 4, none⟩ = some (.slice r.j.A r.j.n r.j.c) := row_cell hr4 4
          have hown4 := Hown3.out.below hb4
          have hmn : r.ms.length = r.m.n := hown4.ok.m.len
          have hjn : r.js.length = r.j.n := hown4.ok.j.len
          have Hr4 := Lib.hid hr4; have Hown4 := Lib.hid hown4; have Hb4 := Lib.hid hb4; have Hjn := Lib.hid hjn; have Hmn := Lib.hid hmn
          have m16 : r.m.n ≤ 16 := by omega
          have j16 : r.j.n ≤ 16 := by omega
          have hsum : ¬ 4 ≤ (r.m.n : Int) + (r.j.n : Int) := by
            have h := Hm.out
            have h' : ¬ 4 ≤ r.ms.length + r.js.length := h
            omega
          have y3c : w4.cell? ⟨w.heap.size, 3, none⟩ = some (.int .i64 c.c) := row_cell (row_below Hr13.out hb4) 3
          obtain ⟨w5, hw5⟩ : ∃ w5, w4.alloc (.cells #[.int .i64 c.c] 3) = w5 := ⟨_, rfl⟩
          have hb5 : Below w4.heap.size w4 w5 := by rw [← hw5]; exact below_box _ _
          have hs5 : Seen w5 (some ⟨w4.heap.size, 0, none⟩) [.int .i64 c.c] := by rw [← hw5]; exact Seen.of_cells (heap_alloc_new _ _)
          have Ho5 := Lib.hid (hown4.below hb5); have Hs5 := Lib.hid hs5; have Hr5 := Lib.hid (row_below hr4 hb5); have Hb5 := Lib.hid (Hw13.out.trans ((hb4.trans (hb5.mono hb4.size)).mono Hw13.out.size))
          have hs15 := Hb5.out.size
          clear hmn hjn hr4 hown4 hb4 hb5 hs5
          go_wp2_with (at_builtin; refine wpList_app2 rfl (.tmp 40) (.tmp 43) _ rfl 3 _ 8 Try.underlying30 int_info rfl w1.heap.size r.j.A r.j.n r.j.c (numsV r.js) rfl Ho5.out.j (some ⟨w4.heap.size, 0, none⟩) 1 1 [.int .i64 c.c] rfl rfl Hs5.out (fun u hu => by simp at hu; subst hu; rfl) (by unfold maxLen; omega) (by omega) hs15 ?_; intro A6 c6 w6 hown6 hg6 hbk6; have t6 : Turned (fun k => (Value.slice r.j.A r.j.n r.j.c).ownBlock = some k) w5 w6 := Turned.of_grown hg6 (fun k e => e); have hr6 := t6.heap Hr5.out (fun e => box_ne Hr5.out Ho5.out.j e rfl); have f4 := row_cell hr6 4; have z4 := row_frozen hr6 4; have Hown6 := Lib.hid hown6; have T6 := Lib.hid t6; have Hbk6 := Lib.hid hbk6; have Hr6 := Lib.hid hr6; obtain ⟨w7, hw7⟩ : ∃ w7, w6.setCell ⟨w2.heap.size, 4, none⟩ (.slice A6 (r.j.n + 1) c6) = w7 := ⟨_, rfl⟩; have hr7 : w7.heap[w2.heap.size]? = some (.cells #[.int .i64 r.id, .int .i64 r.vo, .int .i64 r.ep, .slice r.m.A r.m.n r.m.c, .slice A6 (r.j.n + 1) c6] 48 (0, 0)) := (by rw [← hw7, row_set hr6]; rfl); have t7 : Turned (fun k => k = w2.heap.size) w6 w7 := (by rw [← hw7]; exact (Turned.refl (fun k => k = w2.heap.size) w6).setCell (b := ⟨w2.heap.size, 4, none⟩) (fun _ => rfl) _); have hldq := ldCk_run (k := { r with j := ⟨A6, r.j.n + 1, c6⟩, js := r.js ++ [c.c] }) (CkAt.of_row hr7); have Hr7 := Lib.hid hr7; have T7 := Lib.hid t7; clear hown6 hg6 hbk6 t6 hr6 hr7 t7)
          have b6 : Below w1.heap.size w5 w6 := T6.out.below (fun k e => (Ho5.out.j.lt k e).1) hs15
          have hs16 := b6.size
          have hbc : Below w1.heap.size w1 w7 := (Hb5.out.trans b6).trans (T7.out.below (fun k e => by omega) (by omega))
          have em6 := T6.out.own Ho5.out.m (fun k hk e => Ho5.out.ne k hk e)
          have em7 := T7.out.own em6 (fun k hk e => box_ne Hr6.out em6 hk e)
          have ej6 : w6.ownsRow w1.heap.size 3 1 (.slice A6 (r.j.n + 1) c6) (r.j.n + 1) (numsV (r.js ++ [c.c])) := by rw [numsV_append]; exact Hown6.out
          have ej7 := T7.out.own ej6 (fun k hk e => box_ne Hr6.out ej6 hk e)
          have hokq : CkOk w7 { r with j := ⟨A6, r.j.n + 1, c6⟩, js := r.js ++ [c.c] } := by
            obtain ⟨id, vo, ep, ⟨mA, mn, mc⟩, j, ms, js⟩ := r
            exact ⟨IntsT.own em7, IntsT.own ej7⟩
          have hfe := Hkf.out.ep
          have hfid : r.dat.id = c.a := Hfa.out.2.2
          have KR := Vrenew g s i j r.dat { r with j := ⟨A6, r.j.n + 1, c6⟩, js := r.js ++ [c.c] } w7 (H.out.below hbc) Hf.out Ho.out ⟨Hfa.out.1, Hfa.out.2.1, rfl⟩ hokq hfe.1 hfe.2
          unfold ckA at KR
          simp only at KR
          have Hbc := Lib.hid hbc
          refine KR.mono ?_
          rintro e w10 ⟨rfl, hst10, ht10⟩
          have Hst := Lib.hid hst10; have Ht := Lib.hid ht10
          clear b6 hs16 hbc em6 em7 ej6 ej7 hokq hfe hfid KR hst10 ht10 hldq f4 z4 hw7 hw5 y3 y4 y3c x3 hld hst9 hwz
          go_wp2
          go_ret
          exact ⟨rfl, fun _ => Hst.out, (Turned.of_below (p := fun k => k = g) (Hb1.out.trans (Hbc.out.mono Hb1.out.size))).trans Ht.out (fun _ e => e) (fun _ _ e => e)⟩
end Go.Proofs.Ytcaaakoahaoooaa
