/-
  Joined: VolCmd, VolApp, VolGood, RefVol, RefDo, RefApp, VolAwk, VolAw2, VolHas. Conditions: each theorem's own.
-/
import Derived.Test.YtmdmpliiiecmlaaGreatJA
import Derived.Test.YtmdmpliiiecmlaaGreatVolRes
import Derived.Test.YtmdmpliiiecmlaaGreatJD

section
namespace Go.Proofs.YtmdmpliiiecmlaaGreat
open Go.ChangeShapes Go.WideShapes Go.ChangeAt Go.RowKit
set_option linter.unusedVariables false
set_option linter.unusedSimpArgs false

/-- what does a command of a kind -/
def cmdFn (k : Int) : FuncId := if k = 1 then 51 else if k = 2 then 52 else if k = 3 then 53 else if k = 4 then 54 else if k = 5 then 55 else if k = 6 then 56 else if k = 7 then 57 else 58
def CmdsRet (w : World) (e : Ending) (w' : World) : Prop := ∃ ks F, e = .returned (.map (some w.heap.size)) ∧ ValsM w' w.heap.size ks F ∧ (∀ k, k ∈ ks ↔ 1 ≤ k ∧ k ≤ 8) ∧ (∀ k, 1 ≤ k → k ≤ 8 → F k = .func (.func (cmdFn k)) #[] #[]) ∧ Below w.heap.size w w'
set_option maxRecDepth 100000 in
set_option maxHeartbeats 1000000 in
theorem VCommands (w : World) : Calls Tryz.prog 20 #[] w (CmdsRet w) := by
  have hmm := @run_makeMap Tryz.prog
  obtain ⟨w1, hw1⟩ : ∃ w1, w.alloc (.map #[] 0) = w1 := ⟨_, rfl⟩
  have hm1 : ValsM w1 w.heap.size [] (fun _ => undef) := by rw [← hw1]; exact ValsM.made w _
  have hb1 : Below w.heap.size w w1 := by rw [← hw1]; exact (Below.refl _ _).alloc (Nat.le_refl _) _
  obtain ⟨w2, hr2, hm2, ht2⟩ := put_run Tryz.underlying66 (.func (.func 51) #[] #[]) hm1 (k := 1) (by omega) (by omega) (by simp [putK, outK, insK])
  have hb2 := hb1.trans (ht2.below (fun k e => by omega) hb1.size)
  obtain ⟨w3, hr3, hm3, ht3⟩ := put_run Tryz.underlying66 (.func (.func 52) #[] #[]) hm2 (k := 2) (by omega) (by omega) (by simp [putK, outK, insK])
  have hb3 := hb2.trans (ht3.below (fun k e => by omega) hb2.size)
  obtain ⟨w4, hr4, hm4, ht4⟩ := put_run Tryz.underlying66 (.func (.func 53) #[] #[]) hm3 (k := 3) (by omega) (by omega) (by simp [putK, outK, insK])
  have hb4 := hb3.trans (ht4.below (fun k e => by omega) hb3.size)
  obtain ⟨w5, hr5, hm5, ht5⟩ := put_run Tryz.underlying66 (.func (.func 54) #[] #[]) hm4 (k := 4) (by omega) (by omega) (by simp [putK, outK, insK])
  have hb5 := hb4.trans (ht5.below (fun k e => by omega) hb4.size)
  obtain ⟨w6, hr6, hm6, ht6⟩ := put_run Tryz.underlying66 (.func (.func 55) #[] #[]) hm5 (k := 5) (by omega) (by omega) (by simp [putK, outK, insK])
  have hb6 := hb5.trans (ht6.below (fun k e => by omega) hb5.size)
  obtain ⟨w7, hr7, hm7, ht7⟩ := put_run Tryz.underlying66 (.func (.func 56) #[] #[]) hm6 (k := 6) (by omega) (by omega) (by simp [putK, outK, insK])
  have hb7 := hb6.trans (ht7.below (fun k e => by omega) hb6.size)
  obtain ⟨w8, hr8, hm8, ht8⟩ := put_run Tryz.underlying66 (.func (.func 57) #[] #[]) hm7 (k := 7) (by omega) (by omega) (by simp [putK, outK, insK])
  have hb8 := hb7.trans (ht8.below (fun k e => by omega) hb7.size)
  obtain ⟨w9, hr9, hm9, ht9⟩ := put_run Tryz.underlying66 (.func (.func 58) #[] #[]) hm8 (k := 8) (by omega) (by omega) (by simp [putK, outK, insK])
  have hb9 := hb8.trans (ht9.below (fun k e => by omega) hb8.size)
  have Hm := Lib.hid hm9; have Hb := Lib.hid hb9
  clear hm1 hm2 hm3 hm4 hm5 hm6 hm7 hm8 hm9 hb1 hb2 hb3 hb4 hb5 hb6 hb7 hb8 hb9 ht2 ht3 ht4 ht5 ht6 ht7 ht8 ht9
  go_enter Tryz.func20, Tryz.ntmps20
  go_wp2
  go_ret
  refine ⟨_, _, rfl, Hm.out, fun k => ?_, fun k h1 h5 => ?_, Hb.out⟩
  · simp only [mem_putK, List.not_mem_nil, or_false]
    omega
  · unfold updV cmdFn
    rcases (show k = 1 ∨ k = 2 ∨ k = 3 ∨ k = 4 ∨ k = 5 ∨ k = 6 ∨ k = 7 ∨ k = 8 by omega) with rfl | rfl | rfl | rfl | rfl | rfl | rfl | rfl <;> rfl
end Go.Proofs.YtmdmpliiiecmlaaGreat
end

section
namespace Go.Proofs.YtmdmpliiiecmlaaGreat
open Go.ChangeShapes Go.WideShapes Go.ChangeAt Go.RowKit
set_option linter.unusedVariables false
set_option linter.unusedSimpArgs false

/-- what a command needs -/
structure ReadyS (s : St) (c : Cmd) : Prop where
  fit : StFit s
  ord : OrdS s
  ne : ∀ i, i < 64 → (s.vs i).bl ≠ 0 → (s.vs i).ks ≠ []
  fit2 : StFit (doS s c).1
  cmd : CmdIn c
theorem VDo (g : Nat) (s : St) (c : Cmd) (w : World) (h : StAt w g s) (hr : ReadyS s c) (hk : 1 ≤ c.k ∧ c.k ≤ 8) :
    Calls Tryz.prog (cmdFn c.k) #[.pointer (some ⟨g, 0, none⟩), cmdA c] w (DoRet g (doS s c) w) := by
  have e6 : 6 ≤ c.k → doS s c = chunkS s c := fun h => by unfold doS; rw [if_neg (by omega), if_neg (by omega), if_neg (by omega), if_neg (by omega), if_neg (by omega)]
  unfold cmdFn
  by_cases h1 : c.k = 1
  · rw [if_pos h1]; exact VServer g s c w h hr.cmd h1
  rw [if_neg h1]
  by_cases h2 : c.k = 2
  · rw [if_pos h2]; exact VCreate g s c w h hr.fit hr.cmd h2
  rw [if_neg h2]
  by_cases h3 : c.k = 3
  · rw [if_pos h3]; exact VRemove g s c w h h3
  rw [if_neg h3]
  by_cases h4 : c.k = 4
  · rw [if_pos h4]; exact VResize g s c w h hr.fit hr.ne h4
  rw [if_neg h4]
  by_cases h5 : c.k = 5
  · rw [if_pos h5]; exact VChange g s c w h hr.fit hr.cmd h5
  rw [if_neg h5]
  rw [e6 (by omega)]
  by_cases h6 : c.k = 6
  · rw [if_pos h6]; exact VDrop g s c w h hr.fit hr.ord h6
  rw [if_neg h6]
  by_cases h7 : c.k = 7
  · rw [if_pos h7]; exact VJoin g s c w h hr.fit hr.ord h7
  rw [if_neg h7]
  exact VPromote g s c w h hr.fit hr.ord (by omega)
theorem enter_of {P : Program} {f : FuncId} {fn : Func} (hf : P.funcs[f]? = some fn) (hname : (fn.name == "runtime.NumGoroutine") = false) (hb : fn.body.isSome = true) (args : Array Value) (w : World) :
    (callFunc f args).run P w = .ok (.enter f args) w := by
  have h1 : fn.name ≠ "runtime.NumGoroutine" := by simpa using hname
  obtain ⟨c, hc⟩ := Option.isSome_iff_exists.1 hb
  simp [callFunc, hf, h1, hc]
theorem cmd_enter {k : Int} (hk : 1 ≤ k ∧ k ≤ 8) (args : Array Value) (w : World) : (callFunc (cmdFn k) args).run Tryz.prog w = .ok (.enter (cmdFn k) args) w := by
  rcases (show k = 1 ∨ k = 2 ∨ k = 3 ∨ k = 4 ∨ k = 5 ∨ k = 6 ∨ k = 7 ∨ k = 8 by omega) with rfl | rfl | rfl | rfl | rfl | rfl | rfl | rfl
  · exact enter_of Tryz.func51 (by kernel_rfl) (by kernel_rfl) args w
  · exact enter_of Tryz.func52 (by kernel_rfl) (by kernel_rfl) args w
  · exact enter_of Tryz.func53 (by kernel_rfl) (by kernel_rfl) args w
  · exact enter_of Tryz.func54 (by kernel_rfl) (by kernel_rfl) args w
  · exact enter_of Tryz.func55 (by kernel_rfl) (by kernel_rfl) args w
  · exact enter_of Tryz.func56 (by kernel_rfl) (by kernel_rfl) args w
  · exact enter_of Tryz.func57 (by kernel_rfl) (by kernel_rfl) args w
  · exact enter_of Tryz.func58 (by kernel_rfl) (by kernel_rfl) args w
def ldSt (p : Value) : Sem Value := Instr.loadAt 61 p
theorem ldSt_eq (p : Value) : Instr.loadAt 61 p = ldSt p := rfl
def stSt (p v : Value) : Sem Unit := Instr.storeAt 61 p v
theorem stSt_eq (p v : Value) : Instr.storeAt 61 p v = stSt p v := rfl
def ldCmd (p : Value) : Sem Value := Instr.loadAt 38 p
theorem ldCmd_eq (p : Value) : Instr.loadAt 38 p = ldCmd p := rfl
def zVol : List Value := [.int .i64 0, .int .i64 0, .int .i64 0, .int .i64 0, .int .i64 0, .int .i64 0, .slice none 0 0]
def zStL : List Value := List.replicate 16 (.int .i64 0) ++ (List.replicate 64 zVol).flatten ++ [.int .i64 0]
def zStV : Value := .agg zStL.toArray
theorem zSt_info : (Tryz.prog.info? 61).map (fun i => (i.zero, i.size)) = some (some zStV, 465) := by kernel_rfl
theorem zSt_run : ∀ w, (zeroValue 61).run Tryz.prog w = .ok (.agg zStL.toArray) w := (zero_of_info zSt_info).1
theorem zSt_size : zStL.toArray.size = 465 := by kernel_rfl
theorem st_size : (Tryz.prog.info? 61).map (·.size) = some 465 := (zero_of_info zSt_info).2
theorem rangeAt_row {w : World} {g : Nat} {cs : Array Value} {T : TypeId} (h : w.heap[g]? = some (.cells cs T (0, 0))) : w.rangeAt g 0 cs.toList := fun j v hv => by
  rw [Nat.zero_add, row_cell h]
  simpa using hv
theorem ldSt_run {w : World} {g : Nat} {cs : Array Value} {T : TypeId} (h : w.heap[g]? = some (.cells cs T (0, 0))) (hs : cs.size = 465) : (ldSt (.pointer (some ⟨g, 0, none⟩))).run Tryz.prog w = .ok (.agg cs) w :=
  run_loadAt_mid w g 0 61 cs.toList _ (rangeAt_row h) Tryz.underlying61 rfl (by rw [st_size, Array.length_toList, hs])
theorem cmd_info : (Tryz.prog.info? 38).map (·.size) = some 8 := by kernel_rfl
theorem ldCmd_run {w : World} {g : Nat} {c : Cmd} {T : TypeId} (h : w.heap[g]? = some (.cells #[.int .i64 c.k, .int .i64 c.a, .int .i64 c.b, .int .i64 c.c, .int .i64 c.p.re, .int .i64 c.p.we, .int .i64 c.p.li, .int .i64 c.p.bu] T (0, 0))) :
    (ldCmd (.pointer (some ⟨g, 0, none⟩))).run Tryz.prog w = .ok (cmdA c) w :=
  run_loadAt_mid w g 0 38 _ _ (rangeAt_row h) Tryz.underlying38 rfl cmd_info
/-- every cell of a state takes one cell -/
theorem StC.one {w : World} {g : Nat} {cs : Array Value} {s : St} {K : Nat → Sl} {X : Nat → List Ck} (h : StC w g cs s K X) : cs.all (·.oneCell') = true := by
  rw [Array.all_eq_true_iff_forall_mem]
  intro v hv
  obtain ⟨j, hj, e⟩ := Array.mem_iff_getElem.1 hv
  have hj5 : j < 465 := by rw [← h.size]; exact hj
  have e1 : cs[j]? = some v := by rw [Array.getElem?_eq_getElem hj, e]
  rcases Nat.lt_or_ge j 16 with h1 | h1
  · rw [h.pk j h1] at e1; injection e1 with e1; rw [← e1]; rfl
  rcases Nat.lt_or_ge j 464 with h2 | h2
  · obtain ⟨i, r, hr, rfl⟩ : ∃ i r, r < 7 ∧ j = 16 + i * 7 + r := ⟨(j - 16) / 7, (j - 16) % 7, Nat.mod_lt _ (by omega), by omega⟩
    have hi : i < 64 := by omega
    rcases (show r = 0 ∨ r = 1 ∨ r = 2 ∨ r = 3 ∨ r = 4 ∨ r = 5 ∨ r = 6 by omega) with rfl | rfl | rfl | rfl | rfl | rfl | rfl
    · rw [Nat.add_zero, h.c0 i hi] at e1; injection e1 with e1; rw [← e1]; rfl
    · rw [h.c1 i hi] at e1; injection e1 with e1; rw [← e1]; rfl
    · rw [h.c2 i hi] at e1; injection e1 with e1; rw [← e1]; rfl
    · rw [h.c3 i hi] at e1; injection e1 with e1; rw [← e1]; rfl
    · rw [h.c4 i hi] at e1; injection e1 with e1; rw [← e1]; rfl
    · rw [h.c5 i hi] at e1; injection e1 with e1; rw [← e1]; rfl
    · rw [h.c6 i hi] at e1; injection e1 with e1; rw [← e1]; rfl
  · obtain rfl : j = 464 := by omega
    rw [h.md] at e1; injection e1 with e1; rw [← e1]; rfl
/-- the same cells at another place -/
theorem StC.at {w w' : World} {g g' : Nat} {cs : Array Value} {s : St} {K : Nat → Sl} {X : Nat → List Ck} (h : StC w g cs s K X) (hr : w'.heap[g']? = some (.cells cs 61 (0, 0))) (hk : ∀ q, q < 64 → KsT w' (K q) (X q)) : StC w' g' cs s K X :=
  ⟨hr, h.size, h.pk, h.c0, h.c1, h.c2, h.c3, h.c4, h.c5, h.c6, h.md, hk, h.dat⟩
/-- a state stored whole into a row of its own -/
theorem stSt_run {w : World} {g : Nat} {cs cz : Array Value} {T : TypeId} (h : w.heap[g]? = some (.cells cz T (0, 0))) (hz : cz.size = 465) (hs : cs.size = 465) (h1 : cs.all (·.oneCell') = true) :
    ∃ w', (stSt (.pointer (some ⟨g, 0, none⟩)) (.agg cs)).run Tryz.prog w = .ok () w' ∧ w'.heap[g]? = some (.cells cs T (0, 0)) ∧ Turned (fun k => k = g) w w' :=
  st_row (T := 61) h (by rw [hz, hs]) (by rw [st_size, hs]) h1
def AppRet (g : Nat) (o : St × Int) (w : World) (e : Ending) (w' : World) : Prop :=
  e = .returned (.int .i64 o.2) ∧ StAt w' g o.1 ∧ Turned (fun k => k = g) w w'
theorem AppRet.err {g : Nat} {s : St} {x : Int} {w w' : World} (h : Below w.heap.size w w') (hs : StAt w g s) : AppRet g (s, x) w (.returned (.int .i64 x)) w' := ⟨rfl, hs.below h, .of_below h⟩
attribute [local go_sem ↓] ldSt_eq
attribute [local go_sem ↓] stSt_eq
attribute [local go_sem ↓] ldCmd_eq
set_option maxRecDepth 100000 in
set_option maxHeartbeats 4000000 in
theorem VApply (g : Nat) (s : St) (c : Cmd) (w : World) (h : StAt w g s) (hr : ReadyS s c) :
    Calls Tryz.prog 10 #[.pointer (some ⟨g, 0, none⟩), cmdA c] w (AppRet g (applyS s c) w) := by
  obtain ⟨O, hO⟩ : ∃ O, applyS s c = O := ⟨_, rfl⟩
  rw [hO]
  unfold cmdA
  obtain ⟨w1, hw1, hb1, hr1⟩ := cmd_box w c
  have c0 : w1.drew.cell? ⟨w.heap.size, 0, none⟩ = some (.int .i64 c.k) := row_cell (w := w1.drew) hr1 0
  have hgl := h.lt
  have H0 := Lib.hid h; have Hr := Lib.hid hr; have Hb1 := Lib.hid hb1; have Hr1 := Lib.hid hr1; have HO := Lib.hid hO
  have KC := Lib.hid (VCommands w1.drew)
  clear h hr hb1 hr1 hO
  go_enter Tryz.func10, Tryz.ntmps10
  go_upto_region 1 with fail
  refine wp_region_T (S := (fun W => W.cell? ⟨w.heap.size, 0, none⟩ = some (.int .i64 c.k))) 8 (by kernel_rfl) ?_
  have hHeld := c0
  refine wpAnyT_takeN (n := 9) (i := 1) (v := ?vr1) rfl (by kernel_rfl) (by kernel_rfl) (by kernel_rfl) (by kernel_rfl) (by kernel_rfl) (by rfl) (by rfl) (fun _ _ _ h => h) (Or.inl ⟨by rfl, ?hyr1⟩) hHeld ?restr1
  case hyr1 => (intro w' hS; have s1 := hS; (try simp only [List.getElem_toArray, List.getElem_cons_succ, List.getElem_cons_zero]); go_simp; try with_reducible rfl)
  try simp only [Act.put, List.setIfInBounds_toArray, List.set_cons_zero, List.set_cons_succ, List.getElem_toArray, List.getElem_cons_succ, List.getElem_cons_zero]
  refine wpAnyT_takeN (n := 9) (i := 2) (v := ?vr2) rfl (by kernel_rfl) (by kernel_rfl) (by kernel_rfl) (by kernel_rfl) (by kernel_rfl) (by rfl) (by rfl) (fun _ _ _ h => h) (Or.inl ⟨by rfl, ?hyr2⟩) hHeld ?restr2
  case hyr2 => (intro w' hS; have s1 := hS; (try simp only [List.getElem_toArray, List.getElem_cons_succ, List.getElem_cons_zero]); go_simp; try with_reducible rfl)
  try simp only [Act.put, List.setIfInBounds_toArray, List.set_cons_zero, List.set_cons_succ, List.getElem_toArray, List.getElem_cons_succ, List.getElem_cons_zero]
  refine wpAnyT_one (i := 0) (by kernel_rfl) rfl (fun K hK => ?_)
  (try simp only [List.getElem_toArray, List.getElem_cons_succ, List.getElem_cons_zero])
  go_simp
  refine KC.out.mono ?_
  rintro e w2 ⟨ks, F, rfl, hm, hks, hF, hb⟩
  have c02 : w2.cell? ⟨w.heap.size, 0, none⟩ = some (.int .i64 c.k) := row_cell (row_below (w := w1.drew) Hr1.out hb) 0
  obtain ⟨v, kn, hlk, hkn, hv⟩ : ∃ v kn, (Instr.lookup 66 (.map (some w1.heap.size)) (.int .i64 c.k) true).run Tryz.prog w2 = .ok (.tuple #[v, .bool kn]) w2 ∧ kn = decide (1 ≤ c.k ∧ c.k ≤ 8) ∧ (kn = true → v = .func (.func (cmdFn c.k)) #[] #[]) := by
    refine ⟨_, _, has_run (e := 64) (z := .nilFunc) Tryz.underlying66 (by kernel_rfl) hm Hr.out.cmd.hk.1 Hr.out.cmd.hk.2, ?_, fun h => ?_⟩
    · by_cases hk : 1 ≤ c.k ∧ c.k ≤ 8
      · rw [decide_eq_true hk, decide_eq_true ((hks _).2 hk)]
      · rw [decide_eq_false hk, decide_eq_false (fun e => hk ((hks _).1 e))]
    · have hk := of_decide_eq_true h
      rw [if_pos hk]
      exact hF _ ((hks _).1 hk).1 ((hks _).1 hk).2
  have Hb2 := Lib.hid (Hb1.out.trans (((Below.refl w1.heap.size w1).drew.trans hb).mono Hb1.out.size))
  have Hr2 := Lib.hid (row_below (w := w1.drew) Hr1.out hb)
  have Hkn := Lib.hid hkn
  have Hv := Lib.hid hv
  clear hb hm hks hF hkn hv
  refine hK.out _ _ (fun _ => c02) ?_
  clear hHeld
  have hHeld := c02
  clear hK K
  try simp only [Act.put, List.setIfInBounds_toArray, List.set_cons_zero, List.set_cons_succ, List.getElem_toArray, List.getElem_cons_succ, List.getElem_cons_zero]
  refine wpAnyT_one (i := 3) (by kernel_rfl) rfl (fun K hK => ?_)
  (try simp only [List.getElem_toArray, List.getElem_cons_succ, List.getElem_cons_zero])
  go_simp
  refine hK.out _ _ (fun _ => c02) ?_
  clear hHeld
  have hHeld := c02
  clear hK K
  try simp only [Act.put, List.setIfInBounds_toArray, List.set_cons_zero, List.set_cons_succ, List.getElem_toArray, List.getElem_cons_succ, List.getElem_cons_zero]
  refine wpAnyT_one (i := 4) (by kernel_rfl) rfl (fun K hK => ?_)
  (try simp only [List.getElem_toArray, List.getElem_cons_succ, List.getElem_cons_zero])
  go_simp
  refine hK.out _ _ (fun _ => c02) ?_
  clear hHeld
  have hHeld := c02
  clear hK K
  try simp only [Act.put, List.setIfInBounds_toArray, List.set_cons_zero, List.set_cons_succ, List.getElem_toArray, List.getElem_cons_succ, List.getElem_cons_zero]
  refine wpAnyT_takeN (n := 9) (i := 5) (v := ?vr3) rfl (by kernel_rfl) (by kernel_rfl) (by kernel_rfl) (by kernel_rfl) (by kernel_rfl) (by rfl) (by rfl) (fun _ _ _ h => h) (Or.inl ⟨by rfl, ?hyr3⟩) hHeld ?restr3
  case hyr3 => (intro w' hS; have s1 := hS; (try simp only [List.getElem_toArray, List.getElem_cons_succ, List.getElem_cons_zero]); go_simp; try with_reducible rfl)
  try simp only [Act.put, List.setIfInBounds_toArray, List.set_cons_zero, List.set_cons_succ, List.getElem_toArray, List.getElem_cons_succ, List.getElem_cons_zero]
  refine wpAnyT_takeN (n := 9) (i := 6) (v := ?vr4) rfl (by kernel_rfl) (by kernel_rfl) (by kernel_rfl) (by kernel_rfl) (by kernel_rfl) (by rfl) (by rfl) (fun _ _ _ h => h) (Or.inl ⟨by rfl, ?hyr4⟩) hHeld ?restr4
  case hyr4 => (intro w' hS; have s1 := hS; (try simp only [List.getElem_toArray, List.getElem_cons_succ, List.getElem_cons_zero]); go_simp; try with_reducible rfl)
  try simp only [Act.put, List.setIfInBounds_toArray, List.set_cons_zero, List.set_cons_succ, List.getElem_toArray, List.getElem_cons_succ, List.getElem_cons_zero]
  refine wpAnyT_one (i := 7) (by kernel_rfl) rfl (fun K hK => ?_)
  (try simp only [List.getElem_toArray, List.getElem_cons_succ, List.getElem_cons_zero])
  go_simp
  refine hK.out _ _ (fun _ => c02) ?_
  clear hHeld
  have hHeld := c02
  clear hK K
  try simp only [Act.put, List.setIfInBounds_toArray, List.set_cons_zero, List.set_cons_succ, List.getElem_toArray, List.getElem_cons_succ, List.getElem_cons_zero]
  refine wpAnyT_one (i := 8) (by kernel_rfl) rfl (fun K hK => ?_)
  (try simp only [List.getElem_toArray, List.getElem_cons_succ, List.getElem_cons_zero])
  go_simp
  refine hK.out _ _ (fun h => (by cases h)) ?_
  clear hK K
  try simp only [Act.put, List.setIfInBounds_toArray, List.set_cons_zero, List.set_cons_succ, List.getElem_toArray, List.getElem_cons_succ, List.getElem_cons_zero]
  refine wpAnyT_done (by kernel_rfl) ?_ _
  clear hHeld c0 c02 hlk hw1
  cases kn with
  | false =>
    have hO := HO.out
    have hk := of_decide_eq_false Hkn.out.symm
    unfold applyS at hO
    rw [if_neg hk] at hO
    subst hO
    go_wp2
    go_ret
    exact AppRet.err Hb2.out H0.out
  | true =>
    have hk := of_decide_eq_true Hkn.out.symm
    have hv := Hv.out rfl
    subst hv
    obtain ⟨cs, K, X, h⟩ := H0.out
    have h2 := h.below Hb2.out
    have hld := ldSt_run h2.row h2.size
    have hz := zSt_run
    have hZs := zSt_size
    obtain ⟨Z, hZ⟩ : ∃ Z, zStL.toArray = Z := ⟨_, rfl⟩
    rw [hZ] at hz hZs
    clear hZ
    obtain ⟨w3, hw3⟩ : ∃ w3, w2.alloc (.cells Z 61) = w3 := ⟨_, rfl⟩
    have hb3 : Below w2.heap.size w2 w3 := by rw [← hw3]; exact below_box _ _
    have hr3 : w3.heap[w2.heap.size]? = some (.cells Z 61 (0, 0)) := by rw [← hw3]; exact heap_alloc_new _ _
    obtain ⟨w4, hst4, hr4, ht4⟩ := stSt_run hr3 hZs h2.size h2.one
    have hb4 : Below w2.heap.size w2 w4 := hb3.trans (ht4.below (fun k e => by omega) hb3.size)
    have h4 : StC w4 w2.heap.size cs s K X := h2.at hr4 (fun q hq => (h2.ks q hq).below hb4)
    have hld4 := ldCmd_run (row_below Hr2.out hb4)
    obtain ⟨s', r, hd⟩ : ∃ s' r, doS s c = (s', r) := ⟨_, _, rfl⟩
    have KD0 := VDo w2.heap.size s c w4 ⟨_, _, _, h4⟩ Hr.out hk
    rw [hd] at KD0
    have hfit : StFit s' := by have := Hr.out.fit2; rw [hd] at this; exact this
    obtain ⟨f, hf⟩ : ∃ f, cmdFn c.k = f := ⟨_, rfl⟩
    have hce := fun args w => cmd_enter hk args w
    rw [hf] at KD0 hce
    rw [hf]
    unfold cmdA at hld4 KD0
    have KD := Lib.hid KD0
    have hO : applyS s c = if r ≠ 0 then (s, r) else if admS s' then (s', 0) else (s, 14) := by unfold applyS; rw [if_pos hk, hd]
    rw [HO.out] at hO
    replace HO := Lib.hid hO
    have Hb4 := Lib.hid (Hb2.out.trans (hb4.mono Hb2.out.size)); have Hh := Lib.hid h; have Hfit := Lib.hid hfit
    clear hd hf KD0 h4 hb4 hr4 ht4 hb3 hr3 hZs h2 h hfit hO hk Hkn Hv
    go_wp2_with fail
    refine KD.out.mono ?_
    rintro e w5 ⟨rfl, hs5, ht5⟩
    simp only at hs5 ⊢
    have hb5 : Below w.heap.size w w5 := Hb4.out.trans (ht5.below (fun k e => by have := Hb2.out.size; omega) Hb4.out.size)
    by_cases hr0 : r = 0
    · have hne : (r != 0) = false := by simp [hr0]
      have hs5' := hs5 hr0
      have hO := HO.out
      rw [if_neg (by simp [hr0])] at hO
      have KA := Lib.hid (Vadmitted w2.heap.size s' w5 hs5' Hfit.out)
      have Hs5 := Lib.hid hs5'
      obtain ⟨ad, had⟩ : ∃ ad, admS s' = ad := ⟨_, rfl⟩
      rw [had] at KA hO
      have Hb5 := Lib.hid hb5
      replace HO := Lib.hid hO
      clear hs5 hs5' had hb5 ht5 hr0 hO
      cases ad with
      | false =>
        have hO := HO.out
        rw [if_neg (by decide)] at hO
        subst hO
        go_wp2_with (go_at_call 21; refine KA.out.mono ?_; rintro e w6 ⟨rfl, hb6⟩; have Hb6 := Lib.hid (Hb5.out.trans (hb6.mono Hb5.out.size)); clear hb6)
        go_ret
        exact AppRet.err Hb6.out H0.out
      | true =>
        have hO := HO.out
        rw [if_pos rfl] at hO
        replace HO := Lib.hid hO
        clear hO
        go_wp2_with fail
        refine KA.out.mono ?_
        rintro e w6 ⟨rfl, hb6⟩
        obtain ⟨cs6, K6, X6, h6⟩ := Hs5.out.below hb6
        have hb06 := Hb5.out.trans (hb6.mono Hb5.out.size)
        have hg6 := row_below Hh.out.row hb06
        have hld6 := ldSt_run h6.row h6.size
        obtain ⟨w7, hst7, hr7, ht7⟩ := stSt_run hg6 Hh.out.size h6.size h6.one
        have hno : NoCk w6 (fun k => k = g) := noCk_box hg6 (by decide) (by decide)
        have h7 : StC w7 g cs6 s' K6 X6 := h6.at hr7 (fun q hq => (h6.ks q hq).turned ht7 hno.1 hno.2)
        have H7 := Lib.hid h7; have Ht7 := Lib.hid ht7; have Hb06 := Lib.hid hb06
        clear h7 ht7 hb06 hb6 h6 hr7 hno hg6
        go_wp2
        go_ret
        rw [HO.out]
        exact ⟨rfl, ⟨_, _, _, H7.out⟩, (Turned.of_below (p := fun k => k = g) Hb06.out).trans Ht7.out (fun _ e => e) (fun _ _ e => e)⟩
    · have hne : (r != 0) = true := by simpa using hr0
      have hO := HO.out
      rw [if_pos hr0] at hO
      have Hb5 := Lib.hid hb5
      subst hO
      clear hs5 ht5 hb5 hr0
      go_wp2
      go_ret
      exact AppRet.err Hb5.out H0.out
end Go.Proofs.YtmdmpliiiecmlaaGreat
end

section
namespace Go.Proofs.YtmdmpliiiecmlaaGreat
open Go.ChangeShapes Go.WideShapes Go.ChangeAt Go.RowKit
set_option linter.unusedVariables false
set_option linter.unusedSimpArgs false

def srvP (pk : Nat → Int) (x : Int) : Prop := 0 ≤ x ∧ x ≤ 15 ∧ 0 < pk x.toNat
/-- a chunk of volume i, when md chunks were made by n commands -/
structure GoodK (pk : Nat → Int) (md n : Int) (i : Nat) (k : Chk) : Prop where
  id : 1 ≤ k.id ∧ k.id ≤ md
  vo : k.vo = i
  ep : 1 ≤ k.ep ∧ k.ep ≤ n
  ne : k.ms ≠ []
  nd : (k.ms ++ k.js).Nodup
  len : k.ms.length + k.js.length ≤ 4
  srv : ∀ x ∈ k.ms ++ k.js, srvP pk x
structure GoodV (pk : Nat → Int) (md n : Int) (i : Nat) (v : Vol) : Prop where
  zero : v.bl = 0 → v = vol0
  bl : 0 ≤ v.bl ∧ v.bl ≤ 512
  p : v.bl ≠ 0 → rightP v.p = true
  ver : v.bl ≠ 0 → 1 ≤ v.ver ∧ v.ver ≤ n
  kl : (v.ks.length : Int) = countF v.bl
  ks : ∀ k ∈ v.ks, GoodK pk md n i k
structure GoodD (n : Int) (s : St) : Prop where
  pk : ∀ i, i < 16 → 0 ≤ s.pk i ∧ s.pk i ≤ 64
  md : 0 ≤ s.md ∧ s.md ≤ 64 * n
  vs : ∀ i, i < 64 → GoodV s.pk s.md n i (s.vs i)
  ord : OrdS s
  adm : True := trivial
structure GoodS (n : Int) (s : St) : Prop where
  d : GoodD n s
  adm : admS s = true
theorem GoodK.mono {pk pk' : Nat → Int} {md md' n n' : Int} {i : Nat} {k : Chk} (h : GoodK pk md n i k) (hp : ∀ x, srvP pk x → srvP pk' x) (hm : md ≤ md') (hn : n ≤ n') : GoodK pk' md' n' i k :=
  ⟨⟨h.id.1, by have := h.id.2; omega⟩, h.vo, ⟨h.ep.1, by have := h.ep.2; omega⟩, h.ne, h.nd, h.len, fun x hx => hp x (h.srv x hx)⟩
theorem GoodV.mono {pk pk' : Nat → Int} {md md' n n' : Int} {i : Nat} {v : Vol} (h : GoodV pk md n i v) (hp : ∀ x, srvP pk x → srvP pk' x) (hm : md ≤ md') (hn : n ≤ n') : GoodV pk' md' n' i v :=
  ⟨h.zero, h.bl, h.p, fun e => ⟨(h.ver e).1, by have := (h.ver e).2; omega⟩, h.kl, fun k hk => (h.ks k hk).mono hp hm hn⟩
theorem rightP_in {p : Pol} (h : rightP p = true) : InP p := by
  obtain ⟨h1, h2, h3, h4, _⟩ := (rightP_iff p).1 h
  unfold InP In64
  omega
theorem GoodV.fit {pk : Nat → Int} {md n : Int} {i : Nat} {v : Vol} (h : GoodV pk md n i v) (hi : i < 64) (hn : n ≤ 1000000000) (hmd : md ≤ 64000000000) : VolFit v := by
  refine ⟨h.bl, ?_, ?_, ?_, fun k hk => ?_⟩
  · by_cases hb : v.bl = 0
    · rw [h.zero hb]; unfold vol0 pol0 InP In64; simp
    · exact rightP_in (h.p hb)
  · by_cases hb : v.bl = 0
    · rw [h.zero hb]; unfold vol0; simp
    · have := h.ver hb; omega
  · have := h.kl; have := h.bl; unfold countF at *; omega
  · have hg := h.ks k hk
    have hl := hg.len
    refine ⟨by have := hg.id; omega, by have := hg.vo; omega, by have := hg.ep; omega, by omega, by omega, fun x hx => ?_, fun x hx => ?_⟩
    · have := hg.srv x (List.mem_append_left _ hx); unfold srvP at this; omega
    · have := hg.srv x (List.mem_append_right _ hx); unfold srvP at this; omega
theorem GoodD.fit {n : Int} {s : St} (h : GoodD n s) (hn : n ≤ 1000000000) : StFit s :=
  ⟨fun i hi => by have := h.pk i hi; omega, fun i hi => (h.vs i hi).fit hi hn (by have := h.md; omega), by have := h.md; omega⟩
theorem GoodD.ne {n : Int} {s : St} (h : GoodD n s) : ∀ i, i < 64 → (s.vs i).bl ≠ 0 → (s.vs i).ks ≠ [] := fun i hi hb e => by
  have h1 := (h.vs i hi).kl
  have h2 := (h.vs i hi).bl
  rw [e] at h1
  unfold countF at h1
  simp at h1
  omega
theorem GoodD.mono {n n' : Int} {s : St} (h : GoodD n s) (hn : n ≤ n') : GoodD n' s := ⟨h.pk, by have := h.md; omega, fun i hi => (h.vs i hi).mono (fun _ e => e) (Int.le_refl _) hn, h.ord, trivial⟩
theorem good0 : GoodS 0 st0 := by
  refine ⟨⟨fun i _ => by simp [st0], by simp [st0], fun i _ => ⟨fun _ => rfl, by simp [st0, vol0], fun e => absurd rfl e, fun e => absurd rfl e, by simp [st0, vol0, countF], fun k hk => by cases hk⟩, ⟨fun i _ => List.Pairwise.nil, fun i i' _ _ k hk => by cases hk⟩, trivial⟩, ?_⟩
  have : serversL st0.pk = [] := by unfold serversL; rw [List.filter_eq_nil_iff]; intro a _; simp [st0]
  unfold admS
  rw [this]
  rfl
/-- a volume told anew, whose numbers are those of some of its chunks, or new ones -/
theorem OrdS.setV {s : St} (h : OrdS s) {i : Nat} {v : Vol} (hr : RiseK v.ks) (hs : ∀ k ∈ v.ks, (∃ k0 ∈ (s.vs i).ks, k0.id = k.id) ∨ ∀ j, j < 64 → ∀ k' ∈ (s.vs j).ks, k'.id ≠ k.id) (hi : i < 64) : OrdS (setV s i v) := by
  refine ⟨fun j hj => ?_, fun a b ha hb k hk k' hk' e => ?_⟩
  · by_cases e : j = i
    · subst e; rw [setV_same]; exact hr
    · rw [setV_other e]; exact h.rise j hj
  · by_cases ea : a = i
    · by_cases eb : b = i
      · rw [ea, eb]
      · subst ea
        rw [setV_same] at hk
        rw [setV_other eb] at hk'
        rcases hs k hk with ⟨k0, h0, e0⟩ | hno
        · exact h.one a b ha hb k0 h0 k' hk' (e0.trans e)
        · exact absurd e.symm (hno b hb k' hk')
    · by_cases eb : b = i
      · subst eb
        rw [setV_same] at hk'
        rw [setV_other ea] at hk
        rcases hs k' hk' with ⟨k0, h0, e0⟩ | hno
        · exact h.one a b ha hb k hk k0 h0 (e.trans e0.symm)
        · exact absurd e (hno a ha k hk)
      · rw [setV_other ea] at hk
        rw [setV_other eb] at hk'
        exact h.one a b ha hb k hk k' hk' e
theorem GoodD.setV {n : Int} {s : St} (h : GoodD n s) {i : Nat} {v : Vol} (hi : i < 64) (hv : GoodV s.pk s.md (n + 1) i v) (ho : OrdS (setV s i v)) : GoodD (n + 1) (setV s i v) := by
  refine ⟨h.pk, by have := h.md; show 0 ≤ s.md ∧ s.md ≤ 64 * (n + 1); omega, fun j hj => ?_, ho, trivial⟩
  by_cases e : j = i
  · subst e; rw [setV_same]; exact hv
  · rw [setV_other e]; exact (h.vs j hj).mono (fun _ e => e) (Int.le_refl _) (by omega)
/-! ### what fill makes -/
theorem mem_servers {pk : Nat → Int} {x : Nat} (h : x ∈ serversL pk) : x < 16 ∧ 0 < pk x := by
  have := List.mem_filter.1 h
  exact ⟨List.mem_range.1 this.1, by simpa using this.2⟩
theorem servers_nodup (pk : Nat → Int) : (serversL pk).Nodup := List.Nodup.sublist List.filter_sublist List.nodup_range
theorem servers_mem {pk : Nat → Int} {x : Int} (h : srvP pk x) : x.toNat ∈ serversL pk := by
  unfold srvP at h
  unfold serversL
  rw [List.mem_filter, List.mem_range]
  exact ⟨by omega, by simpa using h.2.2⟩
theorem fewF_sub (f : Nat → Nat) (ids : List Nat) (n : Nat) : ∀ x ∈ fewF f ids n, x ∈ ids := fun x hx => by
  have := List.mem_of_mem_take hx
  rwa [List.mem_mergeSort] at this
theorem fewF_nodup (f : Nat → Nat) {ids : List Nat} (h : ids.Nodup) (n : Nat) : (fewF f ids n).Nodup :=
  List.Nodup.sublist (List.take_sublist _ _) ((List.mergeSort_perm ids _).nodup_iff.2 h)
theorem fewF_len (f : Nat → Nat) (ids : List Nat) (n : Nat) : (fewF f ids n).length = min n ids.length := by
  unfold fewF
  rw [List.length_take, List.length_mergeSort]
theorem toI_nodup {l : List Nat} (h : l.Nodup) : (toI l).Nodup := by
  unfold toI
  rw [List.Nodup, List.pairwise_map]
  exact h.imp fun h e => h (by omega)
theorem newK_good {pk : Nat → Int} {hv : Nat → Nat} {copies : Nat} {id n : Int} {i : Nat} {md : Int} (h1 : 1 ≤ copies) (h4 : copies ≤ 4) (hs : serversL pk ≠ []) (hid : 1 ≤ id ∧ id ≤ md) (hn : 1 ≤ n) :
    GoodK pk md n i ⟨id, i, 1, toI (fewF hv (serversL pk) copies), []⟩ := by
  have hl := fewF_len hv (serversL pk) copies
  have hs1 : 0 < (serversL pk).length := List.length_pos_iff.2 hs
  refine ⟨hid, rfl, ⟨Int.le_refl _, hn⟩, fun e => ?_, ?_, ?_, fun x hx => ?_⟩
  · have : (toI (fewF hv (serversL pk) copies)).length = 0 := by
      show (toI _).length = 0
      rw [show toI (fewF hv (serversL pk) copies) = [] from e]
      rfl
    rw [toI_length, hl] at this
    omega
  · show (toI _ ++ []).Nodup
    rw [List.append_nil]
    exact toI_nodup (fewF_nodup hv (servers_nodup pk) copies)
  · show (toI _).length + 0 ≤ 4
    rw [toI_length, hl]
    omega
  · have hx' : x ∈ toI (fewF hv (serversL pk) copies) := by simpa using hx
    unfold toI at hx'
    rw [List.mem_map] at hx'
    obtain ⟨y, hy, rfl⟩ := hx'
    have := mem_servers (fewF_sub _ _ _ y hy)
    unfold srvP
    exact ⟨by omega, by omega, by simpa using this.2⟩
theorem fillK_good {pk : Nat → Int} {hv : List Int} {copies i : Nat} {md n : Int} (h1 : 1 ≤ copies) (h4 : copies ≤ 4) (hs : serversL pk ≠ []) (hm : 0 ≤ md) (hn : 1 ≤ n) : ∀ q : Nat,
    (∀ k ∈ fillK (serversL pk) (i : Int) copies md hv q, GoodK pk (md + q) n i k ∧ md < k.id) ∧ RiseK (fillK (serversL pk) (i : Int) copies md hv q)
  | 0 => ⟨fun k hk => (by cases hk), List.Pairwise.nil⟩
  | q + 1 => by
    obtain ⟨a, b⟩ := fillK_good (hv := hv) (i := i) h1 h4 hs hm hn q
    refine ⟨fun k hk => ?_, ?_⟩
    · rw [fillK, List.mem_append, List.mem_singleton] at hk
      rcases hk with hk | rfl
      · exact ⟨(a k hk).1.mono (fun _ e => e) (by omega) (Int.le_refl _), (a k hk).2⟩
      · exact ⟨newK_good h1 h4 hs (by omega) hn, by show md < md + q + 1; omega⟩
    · rw [fillK]
      refine List.pairwise_append.2 ⟨b, List.pairwise_singleton _ _, fun x hx y hy => ?_⟩
      rw [List.mem_singleton] at hy
      subst hy
      have := (a x hx).1.id.2
      show x.id < md + q + 1
      omega
/-- a volume's lacking chunks made: from a state in which that volume may have too few -/
theorem fill_good {n : Int} {s : St} {i copies : Nat} {v : Vol} (h : GoodD n s) (hi : i < 64) (h1 : 1 ≤ copies) (h4 : copies ≤ 4) (hs : serversL s.pk ≠ []) (hn0 : 0 ≤ n) (hbl : 1 ≤ v.bl ∧ v.bl ≤ 512) (hp : rightP v.p = true) (hver : 1 ≤ v.ver ∧ v.ver ≤ n + 1)
    (hkl : (v.ks.length : Int) ≤ countF v.bl) (hk : ∀ k ∈ v.ks, k ∈ (s.vs i).ks) (hr : RiseK v.ks) : GoodD (n + 1) (fillS (setV s i v) i copies) ∧ (fillS (setV s i v) i copies).md ≤ s.md + countF v.bl := by
  obtain ⟨q, hq⟩ : ∃ q, (countF v.bl).toNat - v.ks.length = q := ⟨_, rfl⟩
  have hcnt : 1 ≤ countF v.bl ∧ countF v.bl ≤ 64 := by unfold countF; omega
  have hm := h.md
  obtain ⟨hv, hhv⟩ : ∃ hv, flatK (allKs (setV s i v) 64) = hv := ⟨_, rfl⟩
  obtain ⟨fg, fr⟩ := fillK_good (hv := hv) (i := i) (md := s.md) (n := n + 1) h1 h4 hs hm.1 (by omega) q
  have hfl := fillK_len (serversL s.pk) (i : Int) copies s.md hv q
  obtain ⟨F, hF⟩ : ∃ F, fillK (serversL s.pk) (i : Int) copies s.md hv q = F := ⟨_, rfl⟩
  rw [hF] at fg fr hfl
  have e : fillS (setV s i v) i copies = { setV s i { v with ks := v.ks ++ F } with md := s.md + q } := by
    unfold fillS fillQ
    rw [setV_setV]
    simp only [setV_same]
    rw [hq, hhv]
    show ({ pk := s.pk, vs := _, md := _ } : St) = _
    rw [show fillK (serversL (setV s i v).pk) (i : Int) copies (setV s i v).md hv q = F from hF]
    rfl
  rw [e]
  have ho : OrdS (setV s i { v with ks := v.ks ++ F }) := by
    refine h.ord.setV (List.pairwise_append.2 ⟨hr, fr, fun x hx y hy => ?_⟩) (fun k hk' => ?_) hi
    · have h1 := ((h.vs i hi).ks x (hk x hx)).id.2
      have h2 := (fg y hy).2
      omega
    · rcases List.mem_append.1 hk' with h2 | h2
      · exact .inl ⟨k, hk k h2, rfl⟩
      · refine .inr fun j hj k' hk'' e => ?_
        have h3 := ((h.vs j hj).ks k' hk'').id.2
        have h4 := (fg k h2).2
        omega
  refine ⟨⟨h.pk, ?_, fun j hj => ?_, ⟨ho.rise, ho.one⟩, trivial⟩, ?_⟩
  · show 0 ≤ s.md + (q : Int) ∧ s.md + (q : Int) ≤ 64 * (n + 1)
    omega
  · by_cases ej : j = i
    · subst ej
      show GoodV s.pk (s.md + q) (n + 1) j ((setV s j { v with ks := v.ks ++ F }).vs j)
      rw [setV_same]
      refine ⟨fun e => ?_, by show 0 ≤ v.bl ∧ v.bl ≤ 512; omega, fun _ => hp, fun _ => hver, ?_, fun k hk' => ?_⟩
      · exact absurd (show v.bl = 0 from e) (by omega)
      · show ((v.ks ++ F).length : Int) = countF v.bl
        rw [List.length_append, hfl]
        omega
      · rcases List.mem_append.1 hk' with h2 | h2
        · exact ((h.vs j hi).ks k (hk k h2)).mono (fun _ e => e) (by omega) (by omega)
        · exact (fg k h2).1
    · show GoodV s.pk (s.md + q) (n + 1) j ((setV s i { v with ks := v.ks ++ F }).vs j)
      rw [setV_other ej]
      exact (h.vs j hj).mono (fun _ e => e) (by omega) (by omega)
  · show s.md + (q : Int) ≤ s.md + countF v.bl
    omega
/-! ### what is done to a chunk -/
theorem without_nodup {l : List Int} {x : Int} (h : l.Nodup) : (withoutL l x).Nodup := List.Nodup.sublist List.filter_sublist h
theorem mem_without {l : List Int} {x y : Int} : y ∈ withoutL l x ↔ y ∈ l ∧ y ≠ x := by
  unfold withoutL
  rw [List.mem_filter]
  simp
theorem without_len {l : List Int} {x : Int} : (withoutL l x).length ≤ l.length := List.length_filter_le _ _
theorem without_lt {l : List Int} {x : Int} (h : x ∈ l) : (withoutL l x).length < l.length := by
  unfold withoutL
  rw [List.length_filter_lt_length_iff_exists]
  exact ⟨x, h, by simp⟩
theorem without_nil {l : List Int} {x : Int} (hn : l.Nodup) (hne : l ≠ []) (h : withoutL l x = []) : l = [x] := by
  have hall : ∀ y ∈ l, y = x := fun y hy => by
    by_cases e : y = x
    · exact e
    · have := mem_without.2 ⟨hy, e⟩
      rw [h] at this
      cases this
  cases l with
  | nil => exact absurd rfl hne
  | cons a r =>
    have ha := hall a (List.mem_cons_self ..)
    cases r with
    | nil => rw [ha]
    | cons b t =>
      have hb := hall b (by simp)
      rw [List.nodup_cons] at hn
      exact absurd (show a ∈ b :: t by rw [ha, hb]; simp) hn.1
theorem chunkF_good {pk : Nat → Int} {md n : Int} {i : Nat} {k k' : Chk} {c : Cmd} (h : GoodK pk md n i k) (hc : c.k = 7 → srvP pk c.c) (hf : chunkF c k = .inl k') :
    k'.id = k.id ∧ k'.ep = k.ep ∧ GoodK pk md (n + 1) i { k' with ep := k'.ep + 1 } := by
  obtain ⟨hid, hvo, hep, hne, hnd, hlen, hsrv⟩ := h
  obtain ⟨nd1, nd2, nd3⟩ := List.nodup_append.1 hnd
  unfold chunkF at hf
  by_cases h6 : c.k = 6
  · rw [if_pos h6] at hf
    split at hf
    · cases hf
    rename_i hh
    split at hf
    · cases hf
    rename_i hm
    injection hf with hf
    subst hf
    refine ⟨rfl, rfl, hid, hvo, ⟨by show 1 ≤ k.ep + 1; omega, by show k.ep + 1 ≤ n + 1; omega⟩, fun e => hm (without_nil nd1 hne e), ?_, ?_, fun x hx => ?_⟩
    · exact List.nodup_append.2 ⟨without_nodup nd1, without_nodup nd2, fun a ha b hb => nd3 a (mem_without.1 ha).1 b (mem_without.1 hb).1⟩
    · show (withoutL k.ms c.c).length + (withoutL k.js c.c).length ≤ 4
      have h1 := without_len (l := k.ms) (x := c.c)
      have h2 := without_len (l := k.js) (x := c.c)
      omega
    · rcases List.mem_append.1 hx with hx | hx
      · exact hsrv x (List.mem_append_left _ (mem_without.1 hx).1)
      · exact hsrv x (List.mem_append_right _ (mem_without.1 hx).1)
  rw [if_neg h6] at hf
  by_cases h7 : c.k = 7
  · rw [if_pos h7] at hf
    split at hf
    · cases hf
    rename_i hh
    split at hf
    · cases hf
    rename_i hl
    injection hf with hf
    subst hf
    have hno : c.c ∉ k.ms ∧ c.c ∉ k.js := by
      simp only [hasK, Bool.or_eq_true, decide_eq_true_eq, not_or] at hh
      exact hh
    refine ⟨rfl, rfl, hid, hvo, ⟨by show 1 ≤ k.ep + 1; omega, by show k.ep + 1 ≤ n + 1; omega⟩, hne, ?_, ?_, fun x hx => ?_⟩
    · show (k.ms ++ (k.js ++ [c.c])).Nodup
      rw [← List.append_assoc]
      refine List.nodup_append.2 ⟨hnd, by simp, fun a ha b hb e => ?_⟩
      rw [List.mem_singleton] at hb
      subst hb; subst e
      rcases List.mem_append.1 ha with h | h
      · exact hno.1 h
      · exact hno.2 h
    · show k.ms.length + (k.js ++ [c.c]).length ≤ 4
      rw [List.length_append]
      simp only [List.length_cons, List.length_nil]
      omega
    · have hx' : x ∈ k.ms ++ k.js ∨ x = c.c := by
        simp only [List.mem_append, List.mem_singleton] at hx ⊢
        rcases hx with h | h | h
        · exact .inl (.inl h)
        · exact .inl (.inr h)
        · exact .inr h
      rcases hx' with h | rfl
      · exact hsrv x h
      · exact hc h7
  rw [if_neg h7] at hf
  split at hf
  · rename_i hin
    injection hf with hf
    subst hf
    refine ⟨rfl, rfl, hid, hvo, ⟨by show 1 ≤ k.ep + 1; omega, by show k.ep + 1 ≤ n + 1; omega⟩, by simp, ?_, ?_, fun x hx => ?_⟩
    · show (k.ms ++ [c.c] ++ withoutL k.js c.c).Nodup
      refine List.nodup_append.2 ⟨List.nodup_append.2 ⟨nd1, by simp, fun a ha b hb => ?_⟩, without_nodup nd2, fun a ha b hb => ?_⟩
      · rw [List.mem_singleton] at hb
        subst hb
        exact nd3 a ha _ hin
      · rcases List.mem_append.1 ha with h | h
        · exact nd3 a h b (mem_without.1 hb).1
        · rw [List.mem_singleton] at h
          subst h
          exact fun e => (mem_without.1 hb).2 e.symm
    · show (k.ms ++ [c.c]).length + (withoutL k.js c.c).length ≤ 4
      have := without_lt hin
      rw [List.length_append]
      simp only [List.length_cons, List.length_nil]
      omega
    · rcases List.mem_append.1 hx with h | h
      · rcases List.mem_append.1 h with h | h
        · exact hsrv x (List.mem_append_left _ h)
        · rw [List.mem_singleton] at h
          subst h
          exact hsrv _ (List.mem_append_right _ hin)
      · exact hsrv x (List.mem_append_right _ (mem_without.1 h).1)
  · cases hf
theorem rise_set {X : List Chk} (h : RiseK X) {j : Nat} {k k' : Chk} (hj : X[j]? = some k) (e : k'.id = k.id) : RiseK (X.set j k') := by
  have e1 : (X.set j k').map Chk.id = X.map Chk.id := by
    rw [List.map_set, e]
    obtain ⟨h1, h2⟩ := List.getElem?_eq_some_iff.1 hj
    apply List.ext_getElem
    · simp
    · intro m h3 h4
      rw [List.getElem_set]
      split
      · rename_i e3
        subst e3
        rw [List.getElem_map, h2]
      · rfl
  have h2 : ∀ Y : List Chk, RiseK Y ↔ (Y.map Chk.id).Pairwise (· < ·) := fun Y => by rw [List.pairwise_map]; rfl
  rw [h2, e1, ← h2]
  exact h
theorem renew_good {n : Int} {s : St} {i j : Nat} {k k' : Chk} (h : GoodD n s) (hi : i < 64) (hj : (s.vs i).ks[j]? = some k) (hid : k'.id = k.id) (hg : GoodK s.pk s.md (n + 1) i { k' with ep := k'.ep + 1 }) : GoodD (n + 1) (renewS s i j k') := by
  have hv := h.vs i hi
  have hne : (s.vs i).bl ≠ 0 := fun e => by
    rw [hv.zero e] at hj
    simp [vol0] at hj
  have hmem : ∀ x ∈ ((s.vs i).ks.set j { k' with ep := k'.ep + 1 }), x ∈ (s.vs i).ks ∨ x = { k' with ep := k'.ep + 1 } := fun x hx => List.mem_or_eq_of_mem_set hx
  refine h.setV hi ⟨fun e => absurd (show (s.vs i).bl = 0 from e) hne, hv.bl, hv.p, fun _ => ⟨(hv.ver hne).1, by show (s.vs i).ver ≤ n + 1; have := (hv.ver hne).2; omega⟩, ?_, fun x hx => ?_⟩ (h.ord.setV (rise_set (h.ord.rise i hi) hj hid) (fun x hx => ?_) hi)
  · show (((s.vs i).ks.set j { k' with ep := k'.ep + 1 }).length : Int) = countF (s.vs i).bl
    rw [List.length_set]
    exact hv.kl
  · rcases hmem x hx with h1 | rfl
    · exact (hv.ks x h1).mono (fun _ e => e) (Int.le_refl _) (by omega)
    · exact hg
  · rcases hmem x hx with h1 | rfl
    · exact .inl ⟨x, h1, rfl⟩
    · exact .inl ⟨k, List.mem_of_getElem? hj, hid.symm⟩
theorem isSrv_P {s : St} {x : Int} (h : isSrv s x = true) : srvP s.pk x := by
  simp only [isSrv, Bool.and_eq_true, decide_eq_true_eq] at h
  exact ⟨h.1.1, h.1.2, h.2⟩
theorem chunkS_good {n : Int} {s : St} {c : Cmd} (h : GoodD n s) : GoodD (n + 1) (chunkS s c).1 ∧ (chunkS s c).1.md = s.md := by
  unfold chunkS
  split
  · exact ⟨h.mono (by omega), rfl⟩
  rename_i h7
  split
  · exact ⟨h.mono (by omega), rfl⟩
  · rename_i i j k hfs
    obtain ⟨hi, hj, hid⟩ := findS_some hfs
    split
    · exact ⟨h.mono (by omega), rfl⟩
    split
    · exact ⟨h.mono (by omega), rfl⟩
    · rename_i k' hk'
      obtain ⟨e1, e2, e3⟩ := chunkF_good ((h.vs i hi).ks k (List.mem_of_getElem? hj)) (fun hc => isSrv_P (by
        cases hb : isSrv s c.c with
        | true => rfl
        | false => exact absurd ⟨hc, hb⟩ h7)) hk'
      exact ⟨renew_good h hi hj e1 e3, rfl⟩
/-- how many chunks a command may make -/
def budC (c : Cmd) : Int := if (c.k = 2 ∨ c.k = 4) ∧ 1 ≤ c.b ∧ c.b ≤ 512 then countF c.b else 0
theorem doS_good {n : Int} {s : St} {c : Cmd} (h : GoodD n s) (hn : 0 ≤ n) (hc : CmdIn c) : GoodD (n + 1) (doS s c).1 ∧ (doS s c).1.md ≤ s.md + budC c := by
  have hb0 : 0 ≤ budC c := by unfold budC; split <;> (try unfold countF) <;> omega
  have stay : ∀ e : Int, GoodD (n + 1) (s, e).1 ∧ (s, e).1.md ≤ s.md + budC c := fun e => ⟨h.mono (by omega), by show s.md ≤ _; omega⟩
  unfold doS
  by_cases h1 : c.k = 1
  · rw [if_pos h1]
    split
    · rename_i hh
      simp only [Bool.and_eq_true, decide_eq_true_eq] at hh
      have hmono : ∀ x, srvP s.pk x → srvP (fun i : Nat => if (i : Int) = c.a then c.b else s.pk i) x := fun x hx => by
        unfold srvP at hx ⊢
        refine ⟨hx.1, hx.2.1, ?_⟩
        show 0 < if ((x.toNat : Nat) : Int) = c.a then c.b else s.pk x.toNat
        split
        · omega
        · exact hx.2.2
      refine ⟨⟨fun i hi => ?_, by have := h.md; show 0 ≤ s.md ∧ s.md ≤ 64 * (n + 1); omega, fun i hi => (h.vs i hi).mono hmono (Int.le_refl _) (by omega), ⟨h.ord.rise, h.ord.one⟩, trivial⟩, by show s.md ≤ _; omega⟩
      show 0 ≤ (if (i : Int) = c.a then c.b else s.pk i) ∧ (if (i : Int) = c.a then c.b else s.pk i) ≤ 64
      split
      · omega
      · exact h.pk i hi
    · exact stay 1
  rw [if_neg h1]
  by_cases h2 : c.k = 2
  · rw [if_pos h2]
    split
    · exact stay 1
    rename_i ht
    split
    · exact stay 8
    split
    · exact stay 7
    rename_i hl
    simp only [Bool.not_eq_true', Bool.not_eq_false, Bool.and_eq_true, decide_eq_true_eq] at ht
    obtain ⟨⟨⟨ha, hb⟩, hcc⟩, hp⟩ := ht
    have hbl : 1 ≤ c.b ∧ c.b ≤ 512 := by unfold areB at hb; exact of_decide_eq_true hb
    have hcnt : 0 ≤ countF c.b := by unfold countF; omega
    have := fill_good (v := ⟨c.b, c.p, 1, []⟩) (copies := c.c.toNat) (i := c.a.toNat) h (by omega) (by omega) (by omega) (fun e => by rw [e] at hl; simp at hl; omega) hn hbl hp ⟨Int.le_refl _, by show (1 : Int) ≤ n + 1; omega⟩ (by simpa using hcnt) (fun k hk => by cases hk) List.Pairwise.nil
    refine ⟨this.1, ?_⟩
    have e : budC c = countF c.b := by unfold budC; rw [if_pos ⟨.inl h2, hbl⟩]
    rw [e]
    exact this.2
  rw [if_neg h2]
  by_cases h3 : c.k = 3
  · rw [if_pos h3]
    split
    · rename_i hv
      obtain ⟨m, hm, hm64, _⟩ := isVol_nat hv
      have et : c.a.toNat = m := by omega
      rw [et]
      refine ⟨h.setV hm64 ⟨fun _ => rfl, by simp [vol0], fun e => absurd rfl e, fun e => absurd rfl e, by simp [vol0, countF], fun k hk => by cases hk⟩ (h.ord.setV List.Pairwise.nil (fun k hk => by cases hk) hm64), by show s.md ≤ _; omega⟩
    · exact stay 7
  rw [if_neg h3]
  by_cases h4 : c.k = 4
  · rw [if_pos h4]
    split
    · exact stay 1
    rename_i hb
    split
    · exact stay 7
    rename_i hv
    rw [Bool.not_eq_false] at hb hv
    obtain ⟨m, hm, hm64, hm0⟩ := isVol_nat hv
    have et : c.a.toNat = m := by omega
    have hbl : 1 ≤ c.b ∧ c.b ≤ 512 := by unfold areB at hb; exact of_decide_eq_true hb
    simp only [et]
    have hvm := h.vs m hm64
    obtain ⟨k0, r0, hks⟩ : ∃ k0 r0, (s.vs m).ks = k0 :: r0 := by
      cases hx : (s.vs m).ks with
      | nil => exact absurd hx (h.ne m hm64 hm0)
      | cons a r => exact ⟨a, r, rfl⟩
    obtain ⟨q, hq⟩ : ∃ q : Nat, (countF c.b).toNat = q + 1 := ⟨(countF c.b).toNat - 1, by unfold countF; omega⟩
    have hcnt0 : 0 ≤ countF c.b := (by unfold countF; omega)
    have hcnt : ((q + 1 : Nat) : Int) = countF c.b := (by omega)
    rw [hq, hks]
    simp only [List.take_succ_cons]
    have hk0 := hvm.ks k0 (by rw [hks]; exact List.mem_cons_self ..)
    have h0 : 0 < k0.ms.length := List.length_pos_iff.2 hk0.ne
    have hlen4 := hk0.len
    have hsrv : serversL s.pk ≠ [] := fun e => by
      obtain ⟨x, hx⟩ : ∃ x, x ∈ k0.ms := List.exists_mem_of_ne_nil _ hk0.ne
      have := servers_mem (hk0.srv x (List.mem_append_left _ hx))
      rw [e] at this
      cases this
    have hsub : ∀ k ∈ k0 :: r0.take q, k ∈ (s.vs m).ks := fun k hk => by
      rw [hks]
      have : k ∈ (k0 :: r0).take (q + 1) := by rw [List.take_succ_cons]; exact hk
      exact List.mem_of_mem_take this
    have hrise : RiseK (k0 :: r0.take q) := by
      have := h.ord.rise m hm64
      rw [hks] at this
      have h2 := this.sublist (List.take_sublist (q + 1) (k0 :: r0))
      rwa [List.take_succ_cons] at h2
    have := fill_good (v := { s.vs m with bl := c.b, ks := k0 :: r0.take q }) (copies := k0.ms.length) (i := m) h hm64 (by omega) (by omega) hsrv hn hbl (hvm.p hm0) ⟨(hvm.ver hm0).1, by have := (hvm.ver hm0).2; show (s.vs m).ver ≤ n + 1; omega⟩ (by
      show ((k0 :: r0.take q).length : Int) ≤ countF c.b
      rw [← hcnt, List.length_cons, List.length_take]
      omega) hsub hrise
    refine ⟨this.1, ?_⟩
    have e : budC c = countF c.b := by unfold budC; rw [if_pos ⟨.inr h4, hbl⟩]
    rw [e]
    exact this.2
  rw [if_neg h4]
  by_cases h5 : c.k = 5
  · rw [if_pos h5]
    split
    · exact stay 1
    rename_i hp
    split
    · exact stay 7
    rename_i hv
    rw [Bool.not_eq_false] at hp hv
    obtain ⟨m, hm, hm64, hm0⟩ := isVol_nat hv
    have et : c.a.toNat = m := by omega
    simp only [et]
    have hvm := h.vs m hm64
    refine ⟨h.setV hm64 ⟨fun e => absurd (show (s.vs m).bl = 0 from e) hm0, hvm.bl, fun _ => hp, fun _ => ?_, hvm.kl, fun k hk => (hvm.ks k hk).mono (fun _ e => e) (Int.le_refl _) (by omega)⟩ (h.ord.setV (h.ord.rise m hm64) (fun k hk => .inl ⟨k, hk, rfl⟩) hm64), by show s.md ≤ _; omega⟩
    have := hvm.ver hm0
    show 1 ≤ (s.vs m).ver + 1 ∧ (s.vs m).ver + 1 ≤ n + 1
    omega
  rw [if_neg h5]
  obtain ⟨a, b⟩ := chunkS_good (c := c) h
  exact ⟨a, by rw [b]; omega⟩
theorem GoodS.ready {n : Int} {s : St} {c : Cmd} (h : GoodS n s) (hn : 0 ≤ n) (hn2 : n < 1000000000) (hc : CmdIn c) : ReadyS s c :=
  ⟨h.d.fit (by omega), h.d.ord, h.d.ne, (doS_good h.d hn hc).1.fit (by omega), hc⟩
theorem applyS_good {n : Int} {s : St} {c : Cmd} (h : GoodS n s) (hn : 0 ≤ n) (hc : CmdIn c) : GoodS (n + 1) (applyS s c).1 ∧ (applyS s c).1.md ≤ s.md + budC c := by
  have hb0 : 0 ≤ budC c := by unfold budC; split <;> (try unfold countF) <;> omega
  have stay : GoodS (n + 1) s ∧ s.md ≤ s.md + budC c := ⟨⟨h.d.mono (by omega), h.adm⟩, by omega⟩
  unfold applyS
  split
  · split
    · exact stay
    split
    · rename_i ha
      exact ⟨⟨(doS_good h.d hn hc).1, ha⟩, (doS_good h.d hn hc).2⟩
    · exact stay
  · exact stay
end Go.Proofs.YtmdmpliiiecmlaaGreat
end

section
namespace Go.Proofs.YtmdmpliiiecmlaaGreat
open Go.ChangeShapes Go.WideShapes Go.ChangeAt Go.RowKit
set_option linter.unusedVariables false
set_option linter.unusedSimpArgs false

/-! ### lists that rise by a key -/
section
variable {α : Type} {f : α → Int}
def RiseBy (f : α → Int) (l : List α) : Prop := l.Pairwise fun a b => f a < f b
theorem RiseBy.inj {l : List α} (h : RiseBy f l) {a b : α} (ha : a ∈ l) (hb : b ∈ l) (e : f a = f b) : a = b := by
  unfold RiseBy at h
  rw [List.pairwise_iff_getElem] at h
  obtain ⟨i, hi, rfl⟩ := List.mem_iff_getElem.1 ha
  obtain ⟨j, hj, rfl⟩ := List.mem_iff_getElem.1 hb
  rcases Nat.lt_trichotomy i j with hij | rfl | hij
  · have := h i j hi hj hij; omega
  · rfl
  · have := h j i hj hi hij; omega
theorem RiseBy.same {l m : List α} (h : RiseBy f l) (k : RiseBy f m) (hm : ∀ x, x ∈ l ↔ x ∈ m) : l = m :=
  List.Perm.eq_of_pairwise (le := fun a b => f a < f b) (fun a b _ _ h1 h2 => absurd h2 (by omega)) h k
    ((List.perm_ext_iff_of_nodup (List.Pairwise.imp (fun {a b} h e => by subst e; omega) h) (List.Pairwise.imp (fun {a b} h e => by subst e; omega) k)).2 hm)
theorem RiseBy.filter {l : List α} (h : RiseBy f l) (q : α → Bool) : RiseBy f (l.filter q) := List.Pairwise.filter q h
theorem RiseBy.snoc {l : List α} (h : RiseBy f l) {a : α} (ha : ∀ x ∈ l, f x < f a) : RiseBy f (l ++ [a]) :=
  List.pairwise_append.2 ⟨h, List.pairwise_singleton _ _, fun x hx y hy => by rw [List.mem_singleton] at hy; subst hy; exact ha x hx⟩
theorem RiseBy.set {l : List α} (h : RiseBy f l) {i : Nat} {a b : α} (hi : l[i]? = some a) (e : f b = f a) : RiseBy f (l.set i b) ∧ ∀ x, x ∈ l.set i b ↔ x = b ∨ (x ∈ l ∧ f x ≠ f b) := by
  obtain ⟨hl, hia⟩ := List.getElem?_eq_some_iff.1 hi
  have hget : ∀ (j : Nat) (y : α), (l.set i b)[j]? = some y → ∃ z, l[j]? = some z ∧ f z = f y := by
    intro j y hj
    rw [List.getElem?_set] at hj
    by_cases hij : i = j
    · subst hij
      rw [if_pos rfl, if_pos hl] at hj
      injection hj with hj
      exact ⟨a, hi, by rw [← hj, e]⟩
    · rw [if_neg hij] at hj
      exact ⟨y, hj, rfl⟩
  refine ⟨?_, fun x => ?_⟩
  · unfold RiseBy at h ⊢
    rw [List.pairwise_iff_getElem] at h ⊢
    intro p q hp hq hpq
    obtain ⟨z1, h1, e1⟩ := hget p _ (List.getElem?_eq_getElem hp)
    obtain ⟨z2, h2, e2⟩ := hget q _ (List.getElem?_eq_getElem hq)
    obtain ⟨k1, rfl⟩ := List.getElem?_eq_some_iff.1 h1
    obtain ⟨k2, rfl⟩ := List.getElem?_eq_some_iff.1 h2
    have := h p q k1 k2 hpq
    omega
  · constructor
    · intro hx
      obtain ⟨j, hj⟩ := List.mem_iff_getElem?.1 hx
      rw [List.getElem?_set] at hj
      by_cases hij : i = j
      · subst hij
        rw [if_pos rfl, if_pos hl] at hj
        injection hj with hj
        exact .inl hj.symm
      · rw [if_neg hij] at hj
        refine .inr ⟨List.mem_of_getElem? hj, fun ek => hij ?_⟩
        obtain ⟨k1, hk⟩ := List.getElem?_eq_some_iff.1 hj
        unfold RiseBy at h
        rw [List.pairwise_iff_getElem] at h
        rcases Nat.lt_trichotomy i j with h1 | h1 | h1
        · have := h i j hl k1 h1; rw [hk, hia] at this; omega
        · exact h1
        · have := h j i k1 hl h1; rw [hk, hia] at this; omega
    · rintro (rfl | ⟨hx, hne⟩)
      · exact List.mem_iff_getElem?.2 ⟨i, by rw [List.getElem?_set, if_pos rfl, if_pos hl]⟩
      · obtain ⟨j, hj⟩ := List.mem_iff_getElem?.1 hx
        refine List.mem_iff_getElem?.2 ⟨j, ?_⟩
        rw [List.getElem?_set, if_neg]
        · exact hj
        · rintro rfl
          rw [hi] at hj
          injection hj with hj
          exact hne (by rw [← hj, e])
theorem RiseBy.erase {l : List α} (h : RiseBy f l) {i : Nat} {a : α} (hi : l[i]? = some a) : RiseBy f (l.take i ++ l.drop (i + 1)) ∧ ∀ x, x ∈ l.take i ++ l.drop (i + 1) ↔ (x ∈ l ∧ f x ≠ f a) := by
  obtain ⟨hl, hia⟩ := List.getElem?_eq_some_iff.1 hi
  have hsp : l = l.take i ++ a :: l.drop (i + 1) := by
    conv => lhs; rw [← List.take_append_drop i l, List.drop_eq_getElem_cons hl, hia]
  have h2 := h
  unfold RiseBy at h2
  rw [hsp] at h2
  obtain ⟨p1, p2, p3⟩ := List.pairwise_append.1 h2
  obtain ⟨p4, p5⟩ := List.pairwise_cons.1 p2
  refine ⟨List.pairwise_append.2 ⟨p1, p5, fun x hx y hy => p3 x hx y (List.mem_cons_of_mem _ hy)⟩, fun x => ?_⟩
  constructor
  · intro hx
    rcases List.mem_append.1 hx with hx | hx
    · exact ⟨List.mem_of_mem_take hx, fun e => by have := p3 x hx a (by simp); omega⟩
    · exact ⟨List.mem_of_mem_drop hx, fun e => by have := p4 x hx; omega⟩
  · rintro ⟨hx, hne⟩
    rw [hsp] at hx
    rcases List.mem_append.1 hx with hx | hx
    · exact List.mem_append_left _ hx
    · rcases List.mem_cons.1 hx with rfl | hx
      · exact absurd rfl hne
      · exact List.mem_append_right _ hx
theorem RiseBy.insert {l : List α} (h : RiseBy f l) {k : Nat} {a : α} (h1 : ∀ x ∈ l.take k, f x < f a) (h2 : ∀ x ∈ l.drop k, f a < f x) : RiseBy f (l.take k ++ [a] ++ l.drop k) ∧ ∀ x, x ∈ l.take k ++ [a] ++ l.drop k ↔ x = a ∨ x ∈ l := by
  refine ⟨List.pairwise_append.2 ⟨List.pairwise_append.2 ⟨h.sublist (List.take_sublist _ _), List.pairwise_singleton _ _, fun x hx y hy => by rw [List.mem_singleton] at hy; subst hy; exact h1 x hx⟩, h.sublist (List.drop_sublist _ _), fun x hx y hy => ?_⟩, fun x => ?_⟩
  · have hy2 := h2 y hy
    rcases List.mem_append.1 hx with hx | hx
    · have := h1 x hx; omega
    · rw [List.mem_singleton] at hx; subst hx; exact hy2
  · conv => rhs; rw [← List.take_append_drop k l]
    simp only [List.mem_append, List.mem_singleton]
    constructor
    · rintro ((h | h) | h)
      · exact .inr (.inl h)
      · exact .inl h
      · exact .inr (.inr h)
    · rintro (h | h | h)
      · exact .inl (.inr h)
      · exact .inl (.inl h)
      · exact .inr h
end

/-! ### the document's state -/
structure RV where
  id : Int
  bl : Int
  p : Pol
  ver : Int
  ids : List Int
structure RS where
  pk : Nat → Int
  vs : List RV
  cs : List Chk
  nx : Int
def rvOf (s : St) (i : Nat) : RV := ⟨(i : Int), (s.vs i).bl, (s.vs i).p, (s.vs i).ver, idsK (s.vs i).ks⟩
structure Rel (s : St) (r : RS) : Prop where
  pk : ∀ i, i < 16 → r.pk i = s.pk i
  vr : RiseBy RV.id r.vs
  vm : ∀ v, v ∈ r.vs ↔ ∃ i : Nat, i < 64 ∧ (s.vs i).bl ≠ 0 ∧ v = rvOf s i
  cr : RiseBy Chk.id r.cs
  cm : ∀ k, k ∈ r.cs ↔ ∃ i : Nat, i < 64 ∧ k ∈ (s.vs i).ks
  nx : r.nx = s.md + 1
theorem Rel.new : Rel st0 ⟨fun _ => 0, [], [], 1⟩ :=
  ⟨fun _ _ => rfl, List.Pairwise.nil, fun v => ⟨fun h => (by cases h), fun ⟨i, _, h, _⟩ => absurd rfl h⟩, List.Pairwise.nil, fun k => ⟨fun h => (by cases h), fun ⟨i, _, h⟩ => (by cases h)⟩, rfl⟩
theorem volsL_rise (s : St) (q : Nat → Bool) : RiseBy RV.id (((List.range 64).filter q).map (rvOf s)) := by
  unfold RiseBy
  rw [List.pairwise_map]
  refine List.Pairwise.imp ?_ (List.Pairwise.filter q List.pairwise_lt_range)
  intro a b h
  show (a : Int) < (b : Int)
  omega
/-- the volumes, told one by one -/
theorem Rel.vols {s : St} {r : RS} (h : Rel s r) : r.vs = ((List.range 64).filter fun i => decide ((s.vs i).bl ≠ 0)).map (rvOf s) := by
  refine h.vr.same (volsL_rise s _) fun v => ?_
  rw [h.vm]
  simp only [List.mem_map, List.mem_filter, List.mem_range, decide_eq_true_eq]
  constructor
  · rintro ⟨i, h1, h2, rfl⟩
    exact ⟨i, ⟨h1, h2⟩, rfl⟩
  · rintro ⟨i, ⟨h1, h2⟩, rfl⟩
    exact ⟨i, h1, h2, rfl⟩
/-! ### policies -/
def polsR (r : RS) (sv : Int) : List Pol := (r.vs.filter fun v => r.cs.any fun k => decide (k.vo = v.id) && hasK sv k).map RV.p
theorem Rel.pols {n : Int} {s : St} {r : RS} (h : Rel s r) (hg : GoodD n s) (sv : Int) : polsR r sv = polsS s sv := by
  unfold polsR polsS
  rw [h.vols, List.filter_map, List.map_map, List.filter_filter]
  have : (List.range 64).filter (fun a => (((fun v : RV => r.cs.any fun k => decide (k.vo = v.id) && hasK sv k) ∘ rvOf s) a && decide ((s.vs a).bl ≠ 0))) = (List.range 64).filter (fun i => (s.vs i).ks.any (hasK sv)) := by
    apply List.filter_congr
    intro i hi
    have hi64 := List.mem_range.1 hi
    rw [Bool.eq_iff_iff]
    simp only [Function.comp, Bool.and_eq_true, List.any_eq_true, decide_eq_true_eq]
    constructor
    · rintro ⟨⟨k, hk, hv, hh⟩, _⟩
      obtain ⟨j, hj, hkj⟩ := (h.cm k).1 hk
      have hvo := ((hg.vs j hj).ks k hkj).vo
      have : j = i := by have : k.vo = (i : Int) := hv; omega
      subst this
      exact ⟨k, hkj, hh⟩
    · rintro ⟨k, hk, hh⟩
      refine ⟨⟨k, (h.cm k).2 ⟨i, hi64, hk⟩, ((hg.vs i hi64).ks k hk).vo, hh⟩, fun hb => ?_⟩
      rw [(hg.vs i hi64).zero hb] at hk
      cases hk
  rw [this]
  rfl
def admR (r : RS) : Bool := (List.range 16).all fun i => !decide (0 < r.pk i) || admitsP (r.pk i) (polsR r (i : Int))
theorem Rel.adm {n : Int} {s : St} {r : RS} (h : Rel s r) (hg : GoodD n s) : admR r = admS s := by
  unfold admR admS
  rw [Bool.eq_iff_iff, List.all_eq_true, List.all_eq_true]
  constructor
  · intro hh x hx
    have hx2 := mem_servers hx
    have := hh x (List.mem_range.2 hx2.1)
    rw [h.pk x hx2.1, h.pols hg] at this
    simpa [hx2.2] using this
  · intro hh x hx
    have hx16 := List.mem_range.1 hx
    rw [h.pk x hx16, h.pols hg]
    by_cases hp : 0 < s.pk x
    · have := hh x (by unfold serversL; rw [List.mem_filter]; exact ⟨hx, by simpa using hp⟩)
      simp [hp, this]
    · simp [hp]
/-! ### where things stand -/
theorem Rel.volAt {s : St} {r : RS} (h : Rel s r) {i : Nat} (hi : i < 64) (hb : (s.vs i).bl ≠ 0) : ∃ q : Nat, r.vs[q]? = some (rvOf s i) ∧ ∀ (j : Nat) (v : RV), r.vs[j]? = some v → v.id = (i : Int) → j = q := by
  have hm := (h.vm (rvOf s i)).2 ⟨i, hi, hb, rfl⟩
  obtain ⟨q, hq⟩ := List.mem_iff_getElem?.1 hm
  refine ⟨q, hq, fun j v hj hv => ?_⟩
  obtain ⟨k1, e1⟩ := List.getElem?_eq_some_iff.1 hq
  obtain ⟨k2, e2⟩ := List.getElem?_eq_some_iff.1 hj
  have hr := h.vr
  unfold RiseBy at hr
  rw [List.pairwise_iff_getElem] at hr
  rcases Nat.lt_trichotomy j q with h1 | h1 | h1
  · have := hr j q k2 k1 h1
    rw [e1, e2, hv] at this
    exact absurd this (by show ¬ (i : Int) < (i : Int); omega)
  · exact h1
  · have := hr q j k1 k2 h1
    rw [e1, e2, hv] at this
    exact absurd this (by show ¬ (i : Int) < (i : Int); omega)
/-- a volume told anew: its row, and its chunks -/
theorem Rel.setV {n : Int} {s : St} {r : RS} (h : Rel s r) (hg : GoodD n s) {i q : Nat} {v : Vol} {cs : List Chk} (hi : i < 64) (hq : r.vs[q]? = some (rvOf s i)) (hv : v.bl ≠ 0) (hc1 : RiseBy Chk.id cs) (hc2 : ∀ k, k ∈ cs ↔ (k ∈ r.cs ∧ k.vo ≠ (i : Int)) ∨ k ∈ v.ks) :
    Rel (setV s i v) ⟨r.pk, r.vs.set q ⟨(i : Int), v.bl, v.p, v.ver, idsK v.ks⟩, cs, r.nx⟩ := by
  obtain ⟨s1, s2⟩ := h.vr.set (b := ⟨(i : Int), v.bl, v.p, v.ver, idsK v.ks⟩) hq rfl
  refine ⟨h.pk, s1, fun x => ?_, hc1, fun k => ?_, h.nx⟩
  · rw [s2, h.vm]
    constructor
    · rintro (rfl | ⟨⟨j, h1, h2, rfl⟩, hne⟩)
      · exact ⟨i, hi, by rw [setV_same]; exact hv, by unfold rvOf; rw [setV_same]⟩
      · have hji : j ≠ i := fun e => hne (by subst e; rfl)
        exact ⟨j, h1, by rw [setV_other hji]; exact h2, by unfold rvOf; rw [setV_other hji]⟩
    · rintro ⟨j, h1, h2, rfl⟩
      by_cases e : j = i
      · subst e
        left
        unfold rvOf
        rw [setV_same]
      · right
        rw [setV_other e] at h2
        refine ⟨⟨j, h1, h2, by unfold rvOf; rw [setV_other e]⟩, fun e2 => e ?_⟩
        have : (j : Int) = (i : Int) := e2
        omega
  · rw [hc2]
    constructor
    · rintro (⟨hk, hvo⟩ | hk)
      · obtain ⟨j, hj, hkj⟩ := (h.cm k).1 hk
        have hji : j ≠ i := fun e => hvo (by rw [← e]; exact ((hg.vs j hj).ks k hkj).vo)
        exact ⟨j, hj, by rw [setV_other hji]; exact hkj⟩
      · exact ⟨i, hi, by rw [setV_same]; exact hk⟩
    · rintro ⟨j, hj, hk⟩
      by_cases e : j = i
      · subst e
        rw [setV_same] at hk
        exact .inr hk
      · rw [setV_other e] at hk
        refine .inl ⟨(h.cm k).2 ⟨j, hj, hk⟩, fun hvo => e ?_⟩
        have := ((hg.vs j hj).ks k hk).vo
        omega
end Go.Proofs.YtmdmpliiiecmlaaGreat
end

section
namespace Go.Proofs.YtmdmpliiiecmlaaGreat
open Go.ChangeShapes Go.WideShapes Go.ChangeAt Go.RowKit
set_option linter.unusedVariables false
set_option linter.unusedSimpArgs false

/-! ### where a volume, or a chunk, stands -/
def volIx (l : List RV) (id : Int) : Option Nat := l.findIdx? fun v => decide (v.id = id)
def chIx (l : List Chk) (id : Int) : Option Nat := l.findIdx? fun k => decide (k.id = id)
theorem findIx_some {α : Type} {f : α → Int} {l : List α} (h : RiseBy f l) {x : α} (hx : x ∈ l) {v : Int} (hv : f x = v) : ∃ q : Nat, l.findIdx? (fun y => decide (f y = v)) = some q ∧ l[q]? = some x := by
  cases hf : l.findIdx? (fun y => decide (f y = v)) with
  | none =>
    rw [List.findIdx?_eq_none_iff] at hf
    have := hf x hx
    simp [hv] at this
  | some q =>
    have hq := hf
    rw [List.findIdx?_eq_some_iff_getElem] at hf
    obtain ⟨hl, hp, _⟩ := hf
    have he : f l[q] = v := by simpa using hp
    have := h.inj (List.getElem_mem hl) hx (he.trans hv.symm)
    exact ⟨q, rfl, by rw [List.getElem?_eq_getElem hl, this]⟩
theorem findIx_none {α : Type} {f : α → Int} {l : List α} {v : Int} (h : ∀ x ∈ l, f x ≠ v) : l.findIdx? (fun y => decide (f y = v)) = none := by
  rw [List.findIdx?_eq_none_iff]
  intro x hx
  simpa using h x hx
theorem Rel.volYes {s : St} {r : RS} (h : Rel s r) {a : Int} (hv : isVol s a = true) : ∃ q i : Nat, a = (i : Int) ∧ i < 64 ∧ (s.vs i).bl ≠ 0 ∧ volIx r.vs a = some q ∧ r.vs[q]? = some (rvOf s i) := by
  obtain ⟨i, rfl, hi, hb⟩ := isVol_nat hv
  obtain ⟨q, h1, h2⟩ := findIx_some h.vr ((h.vm (rvOf s i)).2 ⟨i, hi, hb, rfl⟩) (v := (i : Int)) rfl
  exact ⟨q, i, rfl, hi, hb, h1, h2⟩
theorem Rel.volNo {s : St} {r : RS} (h : Rel s r) {a : Int} (hv : isVol s a = false) : volIx r.vs a = none := by
  refine findIx_none fun x hx e => ?_
  obtain ⟨i, hi, hb, rfl⟩ := (h.vm x).1 hx
  have e2 : (i : Int) = a := e
  subst e2
  have : isVol s (i : Int) = true := by
    simp only [isVol, Bool.and_eq_true, decide_eq_true_eq, Int.toNat_natCast]
    exact ⟨by omega, hb⟩
  rw [this] at hv
  cases hv
theorem Rel.chYes {s : St} {r : RS} (h : Rel s r) {id : Int} {i j : Nat} {k : Chk} (hf : FoundAt s id i j k) : ∃ q : Nat, chIx r.cs id = some q ∧ r.cs[q]? = some k :=
  findIx_some h.cr ((h.cm k).2 ⟨i, hf.1, List.mem_of_getElem? hf.2.1⟩) hf.2.2
theorem Rel.chNo {s : St} {r : RS} (h : Rel s r) {id : Int} (hf : NoChunk s id) : chIx r.cs id = none := by
  refine findIx_none fun x hx e => ?_
  obtain ⟨i, hi, hk⟩ := (h.cm x).1 hx
  exact hf i hi x hk e
theorem set_self {α : Type} {l : List α} {q : Nat} {x : α} (h : l[q]? = some x) : l.set q x = l := by
  obtain ⟨hl, rfl⟩ := List.getElem?_eq_some_iff.1 h
  exact List.set_getElem_self hl
/-! ### a chunk -/
def chunkR (r : RS) (c : Cmd) : RS × Int :=
  match chIx r.cs c.a with
  | none => (r, 7)
  | some q =>
    if c.k = 7 ∧ (c.c < 0 ∨ 15 < c.c ∨ r.pk c.c.toNat = 0) then (r, 7) else
    match r.cs[q]? with
    | none => (r, 7)
    | some k => if k.ep ≠ c.b then (r, 10) else
      match chunkF c k with
      | .inr e => (r, e)
      | .inl k' => ({ r with cs := r.cs.set q { k' with ep := k'.ep + 1 } }, 0)
theorem ids_set {l : List Chk} {j : Nat} {k k' : Chk} (h : l[j]? = some k) (e : k'.id = k.id) : idsK (l.set j k') = idsK l := by
  unfold idsK
  rw [List.map_set, e]
  refine set_self ?_
  rw [List.getElem?_map, h]
  rfl
theorem chunkF_id {k k' : Chk} {c : Cmd} (hf : chunkF c k = .inl k') : k'.id = k.id ∧ k'.ep = k.ep ∧ k'.vo = k.vo := by
  unfold chunkF at hf
  split at hf
  · split at hf
    · cases hf
    split at hf
    · cases hf
    injection hf with hf
    subst hf
    exact ⟨rfl, rfl, rfl⟩
  split at hf
  · split at hf
    · cases hf
    split at hf
    · cases hf
    injection hf with hf
    subst hf
    exact ⟨rfl, rfl, rfl⟩
  split at hf
  · injection hf with hf
    subst hf
    exact ⟨rfl, rfl, rfl⟩
  · cases hf
theorem Rel.renew {n : Int} {s : St} {r : RS} (h : Rel s r) (hg : GoodD n s) {id : Int} {i j q : Nat} {k kk : Chk} (hf : FoundAt s id i j k) (hq : r.cs[q]? = some k) (hid : kk.id = k.id) (hvo : kk.vo = k.vo) :
    Rel (Go.Proofs.YtmdmpliiiecmlaaGreat.setV s i { s.vs i with ks := (s.vs i).ks.set j kk }) { r with cs := r.cs.set q kk } := by
  obtain ⟨hi, hj, hkid⟩ := hf
  have hmem := List.mem_of_getElem? hj
  have hb : (s.vs i).bl ≠ 0 := fun e => by
    rw [(hg.vs i hi).zero e] at hmem
    cases hmem
  obtain ⟨p, hp, _⟩ := h.volAt hi hb
  obtain ⟨c1, c2⟩ := h.cr.set (b := kk) hq hid
  obtain ⟨d1, d2⟩ := RiseBy.set (f := Chk.id) (hg.ord.rise i hi) (b := kk) hj hid
  have hkvo := ((hg.vs i hi).ks k hmem).vo
  have key := h.setV hg (v := { s.vs i with ks := (s.vs i).ks.set j kk }) (cs := r.cs.set q kk) hi hp hb c1 (fun x => by
    rw [c2]
    show _ ↔ _ ∨ x ∈ (s.vs i).ks.set j kk
    rw [d2]
    constructor
    · rintro (rfl | ⟨hx, hne⟩)
      · exact .inr (.inl rfl)
      · by_cases hv : x.vo = (i : Int)
        · obtain ⟨a, ha, hxa⟩ := (h.cm x).1 hx
          have := ((hg.vs a ha).ks x hxa).vo
          have : a = i := by omega
          subst this
          exact .inr (.inr ⟨hxa, hne⟩)
        · exact .inl ⟨hx, hv⟩
    · rintro (⟨hx, hv⟩ | rfl | ⟨hx, hne⟩)
      · refine .inr ⟨hx, fun e => hv ?_⟩
        obtain ⟨a, ha, hxa⟩ := (h.cm x).1 hx
        have := hg.ord.one a i ha hi x hxa k hmem (e.trans hid)
        subst this
        exact ((hg.vs a ha).ks x hxa).vo
      · exact .inl rfl
      · exact .inr ⟨(h.cm x).2 ⟨i, hi, hx⟩, hne⟩)
  have e : r.vs.set p ⟨(i : Int), (s.vs i).bl, (s.vs i).p, (s.vs i).ver, idsK ((s.vs i).ks.set j kk)⟩ = r.vs := by
    rw [ids_set hj hid]
    exact set_self hp
  have key2 : Rel (Go.Proofs.YtmdmpliiiecmlaaGreat.setV s i { s.vs i with ks := (s.vs i).ks.set j kk }) ⟨r.pk, r.vs.set p ⟨(i : Int), (s.vs i).bl, (s.vs i).p, (s.vs i).ver, idsK ((s.vs i).ks.set j kk)⟩, r.cs.set q kk, r.nx⟩ := key
  rw [e] at key2
  exact key2
theorem Rel.chunk {n : Int} {s : St} {r : RS} (h : Rel s r) (hg : GoodD n s) (c : Cmd) : (chunkR r c).2 = (chunkS s c).2 ∧ Rel (chunkS s c).1 (chunkR r c).1 := by
  have hsrv : (c.c < 0 ∨ 15 < c.c ∨ r.pk c.c.toNat = 0) ↔ isSrv s c.c = false := by
    rw [← Bool.not_eq_true]
    unfold isSrv
    simp only [Bool.and_eq_true, decide_eq_true_eq]
    constructor
    · rintro (h1 | h1 | h1) ⟨h2, h3⟩
      · omega
      · omega
      · rw [h.pk _ (by omega)] at h1; omega
    · intro h1
      by_cases h2 : c.c < 0
      · exact .inl h2
      · by_cases h3 : 15 < c.c
        · exact .inr (.inl h3)
        · refine .inr (.inr ?_)
          rw [h.pk _ (by omega)]
          have h4 := (hg.pk c.c.toNat (by omega)).1
          rcases Int.lt_or_le 0 (s.pk c.c.toNat) with h5 | h5
          · exact absurd ⟨by omega, h5⟩ h1
          · omega
  unfold chunkR chunkS
  cases hf : findS s c.a with
  | none =>
    rw [h.chNo (findS_none hf)]
    by_cases h7 : c.k = 7 ∧ isSrv s c.c = false
    · rw [if_pos h7]; exact ⟨rfl, h⟩
    · rw [if_neg h7]; exact ⟨rfl, h⟩
  | some x =>
    obtain ⟨i, j, k⟩ := x
    have hfa := findS_some hf
    obtain ⟨q, hq1, hq2⟩ := h.chYes hfa
    rw [hq1]
    simp only
    by_cases h7 : c.k = 7 ∧ isSrv s c.c = false
    · rw [if_pos h7, if_pos ⟨h7.1, hsrv.2 h7.2⟩]; exact ⟨rfl, h⟩
    · rw [if_neg h7, if_neg (fun e => h7 ⟨e.1, hsrv.1 e.2⟩), hq2]
      simp only
      by_cases he : k.ep ≠ c.b
      · rw [if_pos he, if_pos he]; exact ⟨rfl, h⟩
      · rw [if_neg he, if_neg he]
        cases hc : chunkF c k with
        | inr e => exact ⟨rfl, h⟩
        | inl k' =>
          obtain ⟨e1, e2, e3⟩ := chunkF_id hc
          exact ⟨rfl, h.renew hg hfa hq2 (kk := { k' with ep := k'.ep + 1 }) e1 e3⟩
/-! ### new chunks -/
theorem count_has {k : Chk} (h : (k.ms ++ k.js).Nodup) (x : Int) : (k.ms ++ k.js).count x = if hasK x k then 1 else 0 := by
  have hh : hasK x k = decide (x ∈ k.ms ++ k.js) := by
    unfold hasK
    rw [Bool.eq_iff_iff]
    simp
  rw [hh]
  by_cases hx : x ∈ k.ms ++ k.js
  · rw [h.count, if_pos hx, decide_eq_true hx]; rfl
  · rw [h.count, if_neg hx, decide_eq_false hx]; rfl
theorem count_flat {l : List Chk} (h : ∀ k ∈ l, (k.ms ++ k.js).Nodup) (x : Int) : (flatK l).count x = (l.filter (hasK x)).length := by
  induction l with
  | nil => rfl
  | cons k l ih =>
    have e : flatK (k :: l) = (k.ms ++ k.js) ++ flatK l := by simp [flatK]
    rw [e, List.count_append, ih (fun k hk => h k (List.mem_cons_of_mem _ hk)), count_has (h k (by simp)), List.filter_cons]
    cases hasK x k <;> simp <;> omega
theorem fillK_congr {ids : List Nat} {vo : Int} {copies : Nat} {md : Int} {hv hv' : List Int} (h : ∀ x, hv.count x = hv'.count x) : ∀ q : Nat, fillK ids vo copies md hv q = fillK ids vo copies md hv' q
  | 0 => rfl
  | q + 1 => by
    rw [fillK, fillK, fillK_congr h q]
    congr 5
    funext i
    rw [List.count_append, List.count_append, h]
/-- as many chunks more of the volume at q -/
def fillR (r : RS) (q : Nat) (v : RV) (copies m : Nat) : RS :=
  let F := fillK (serversL r.pk) v.id copies (r.nx - 1) (flatK r.cs) m
  { r with vs := r.vs.set q { v with ids := v.ids ++ idsK F }, cs := r.cs ++ F, nx := r.nx + m }
/-- what holds ahead of filling -/
structure PreF (s : St) : Prop where
  vo : ∀ i, i < 64 → ∀ k ∈ (s.vs i).ks, k.vo = (i : Int)
  id : ∀ i, i < 64 → ∀ k ∈ (s.vs i).ks, k.id ≤ s.md
  nd : ∀ i, i < 64 → ∀ k ∈ (s.vs i).ks, (k.ms ++ k.js).Nodup
  rise : ∀ i, i < 64 → RiseK (s.vs i).ks
  one : ∀ a b, a < 64 → b < 64 → ∀ k ∈ (s.vs a).ks, ∀ k' ∈ (s.vs b).ks, k.id = k'.id → a = b
theorem PreF.all {s : St} (h : PreF s) : (allKs s 64).Nodup := by
  unfold allKs
  rw [List.Nodup, List.pairwise_flatMap]
  refine ⟨fun i hi => ?_, ?_⟩
  · exact List.Pairwise.imp (R := fun a b : Chk => a.id < b.id) (fun {a b} hab e => by subst e; omega) (h.rise i (List.mem_range.1 hi))
  · refine List.Pairwise.imp_of_mem ?_ (List.pairwise_lt_range (n := 64))
    intro a b ha hb hab x hx y hy e
    subst e
    have := h.one a b (List.mem_range.1 ha) (List.mem_range.1 hb) x hx x hy rfl
    omega
theorem Rel.count {s : St} {r : RS} (h : Rel s r) (hp : PreF s) (x : Int) : (flatK (allKs s 64)).count x = (flatK r.cs).count x := by
  have hperm : (allKs s 64).Perm r.cs := (List.perm_ext_iff_of_nodup hp.all (List.Pairwise.imp (R := fun a b : Chk => a.id < b.id) (fun {a b} hab e => by subst e; omega) h.cr)).2 fun k => by
    rw [h.cm]
    unfold allKs
    rw [List.mem_flatMap]
    constructor
    · rintro ⟨i, hi, hk⟩; exact ⟨i, List.mem_range.1 hi, hk⟩
    · rintro ⟨i, hi, hk⟩; exact ⟨i, List.mem_range.2 hi, hk⟩
  have : (flatK (allKs s 64)).Perm (flatK r.cs) := by
    unfold flatK
    exact hperm.flatMap_right _
  exact this.count_eq x
theorem servers_congr {p q : Nat → Int} (h : ∀ i, i < 16 → p i = q i) : serversL p = serversL q := by
  unfold serversL
  apply List.filter_congr
  intro x hx
  rw [h x (List.mem_range.1 hx)]
theorem fillK_mem (ids : List Nat) (vo : Int) (copies : Nat) (md : Int) (hv : List Int) : ∀ q : Nat, (∀ k ∈ fillK ids vo copies md hv q, k.vo = vo ∧ md < k.id ∧ k.id ≤ md + q) ∧ RiseBy Chk.id (fillK ids vo copies md hv q)
  | 0 => ⟨fun k hk => (by cases hk), List.Pairwise.nil⟩
  | q + 1 => by
    obtain ⟨a, b⟩ := fillK_mem ids vo copies md hv q
    rw [fillK]
    refine ⟨fun k hk => ?_, b.snoc fun x hx => ?_⟩
    · rcases List.mem_append.1 hk with hk | hk
      · have := a k hk; exact ⟨this.1, this.2.1, by omega⟩
      · rw [List.mem_singleton] at hk
        subst hk
        exact ⟨rfl, by show md < md + q + 1; omega, by show md + q + 1 ≤ md + ((q + 1 : Nat) : Int); omega⟩
    · have := (a x hx).2.2
      show x.id < md + q + 1
      omega
theorem Rel.fill {s : St} {r : RS} (h : Rel s r) (hp : PreF s) {i q : Nat} (hi : i < 64) (hb : (s.vs i).bl ≠ 0) (hq : r.vs[q]? = some (rvOf s i)) (copies m : Nat) : Rel (fillQ s i copies m) (fillR r q (rvOf s i) copies m) := by
  obtain ⟨F, hF⟩ : ∃ F, fillK (serversL s.pk) (i : Int) copies s.md (flatK (allKs s 64)) m = F := ⟨_, rfl⟩
  have hF2 : fillK (serversL r.pk) (rvOf s i).id copies (r.nx - 1) (flatK r.cs) m = F := by
    rw [← hF, servers_congr h.pk, h.nx, show s.md + 1 - 1 = s.md by omega]
    exact (fillK_congr (h.count hp) m).symm
  obtain ⟨f1, f2⟩ := fillK_mem (serversL s.pk) (i : Int) copies s.md (flatK (allKs s 64)) m
  rw [hF] at f1 f2
  have e1 : fillQ s i copies m = { Go.Proofs.YtmdmpliiiecmlaaGreat.setV s i { s.vs i with ks := (s.vs i).ks ++ F } with md := s.md + m } := by unfold fillQ; rw [hF]
  have e2 : fillR r q (rvOf s i) copies m = { r with vs := r.vs.set q { rvOf s i with ids := (rvOf s i).ids ++ idsK F }, cs := r.cs ++ F, nx := r.nx + m } := by unfold fillR; rw [hF2]
  rw [e1, e2]
  obtain ⟨s1, s2⟩ := h.vr.set (b := { rvOf s i with ids := (rvOf s i).ids ++ idsK F }) hq rfl
  have eids : (rvOf s i).ids ++ idsK F = idsK ((s.vs i).ks ++ F) := by simp [rvOf, idsK]
  refine ⟨h.pk, s1, fun x => ?_, ?_, fun k => ?_, ?_⟩
  · rw [s2, h.vm]
    constructor
    · rintro (rfl | ⟨⟨j, h1, h2, rfl⟩, hne⟩)
      · refine ⟨i, hi, ?_, ?_⟩
        · show ((Go.Proofs.YtmdmpliiiecmlaaGreat.setV s i _).vs i).bl ≠ 0
          rw [setV_same]; exact hb
        · show _ = rvOf (Go.Proofs.YtmdmpliiiecmlaaGreat.setV s i _) i
          unfold rvOf
          rw [setV_same]
          simp [idsK]
      · have hji : j ≠ i := fun e => hne (by subst e; rfl)
        refine ⟨j, h1, ?_, ?_⟩
        · show ((Go.Proofs.YtmdmpliiiecmlaaGreat.setV s i _).vs j).bl ≠ 0
          rw [setV_other hji]; exact h2
        · show _ = rvOf (Go.Proofs.YtmdmpliiiecmlaaGreat.setV s i _) j
          unfold rvOf
          rw [setV_other hji]
    · rintro ⟨j, h1, h2, rfl⟩
      have h2' : ((Go.Proofs.YtmdmpliiiecmlaaGreat.setV s i { s.vs i with ks := (s.vs i).ks ++ F }).vs j).bl ≠ 0 := h2
      by_cases e : j = i
      · subst e
        left
        show rvOf (Go.Proofs.YtmdmpliiiecmlaaGreat.setV s j _) j = _
        unfold rvOf
        rw [setV_same]
        simp [idsK]
      · right
        rw [setV_other e] at h2'
        refine ⟨⟨j, h1, h2', ?_⟩, fun e2 => e ?_⟩
        · show rvOf (Go.Proofs.YtmdmpliiiecmlaaGreat.setV s i _) j = rvOf s j
          unfold rvOf
          rw [setV_other e]
        · have : (j : Int) = (i : Int) := e2
          omega
  · refine List.pairwise_append.2 ⟨h.cr, f2, fun x hx y hy => ?_⟩
    obtain ⟨a, ha, hxa⟩ := (h.cm x).1 hx
    have h1 := hp.id a ha x hxa
    have h2 := (f1 y hy).2.1
    omega
  · show k ∈ r.cs ++ F ↔ ∃ j, j < 64 ∧ k ∈ ((Go.Proofs.YtmdmpliiiecmlaaGreat.setV s i { s.vs i with ks := (s.vs i).ks ++ F }).vs j).ks
    rw [List.mem_append, h.cm]
    constructor
    · rintro (⟨j, hj, hk⟩ | hk)
      · by_cases e : j = i
        · subst e
          exact ⟨j, hj, by rw [setV_same]; exact List.mem_append_left _ hk⟩
        · exact ⟨j, hj, by rw [setV_other e]; exact hk⟩
      · exact ⟨i, hi, by rw [setV_same]; exact List.mem_append_right _ hk⟩
    · rintro ⟨j, hj, hk⟩
      by_cases e : j = i
      · subst e
        rw [setV_same] at hk
        rcases List.mem_append.1 hk with hk | hk
        · exact .inl ⟨j, hj, hk⟩
        · exact .inr hk
      · rw [setV_other e] at hk
        exact .inl ⟨j, hj, hk⟩
  · show r.nx + (m : Int) = s.md + (m : Int) + 1
    rw [h.nx]; omega
end Go.Proofs.YtmdmpliiiecmlaaGreat
end

section
namespace Go.Proofs.YtmdmpliiiecmlaaGreat
open Go.ChangeShapes Go.WideShapes Go.ChangeAt Go.RowKit
set_option linter.unusedVariables false
set_option linter.unusedSimpArgs false

def insAt (l : List RV) (a : Int) : Nat := (l.takeWhile fun v => decide (v.id < a)).length
/-- the volume at q, cut to so many chunks, with so many blocks -/
def cutR (r : RS) (q : Nat) (v : RV) (keep : Nat) (b : Int) : RS :=
  { r with cs := r.cs.filter (fun k => !decide (k.id ∈ v.ids.drop keep)), vs := r.vs.set q { v with bl := b, ids := v.ids.take keep } }
def copiesR (r : RS) (v : RV) : Nat :=
  match v.ids with
  | [] => 0
  | id :: _ => match chIx r.cs id with
    | none => 0
    | some j => match r.cs[j]? with
      | none => 0
      | some k => k.ms.length
def doR (r : RS) (c : Cmd) : RS × Int :=
  if c.k = 1 then
    if c.a < 0 ∨ 15 < c.a ∨ c.b < 1 ∨ 64 < c.b then (r, 1) else ({ r with pk := fun i => if (i : Int) = c.a then c.b else r.pk i }, 0)
  else if c.k = 2 then
    if c.a < 0 ∨ 63 < c.a ∨ c.b < 1 ∨ 512 < c.b ∨ c.c < 1 ∨ 3 < c.c ∨ rightP c.p = false then (r, 1)
    else match volIx r.vs c.a with
      | some _ => (r, 8)
      | none => if ((serversL r.pk).length : Int) < c.c then (r, 7) else
        (fillR { r with vs := r.vs.take (insAt r.vs c.a) ++ [⟨c.a, c.b, c.p, 1, []⟩] ++ r.vs.drop (insAt r.vs c.a) } (insAt r.vs c.a) ⟨c.a, c.b, c.p, 1, []⟩ c.c.toNat (countF c.b).toNat, 0)
  else if c.k = 3 then
    match volIx r.vs c.a with
    | none => (r, 7)
    | some q => match r.vs[q]? with
      | none => (r, 7)
      | some v => ({ r with cs := r.cs.filter (fun k => !decide (k.id ∈ v.ids)), vs := r.vs.take q ++ r.vs.drop (q + 1) }, 0)
  else if c.k = 4 then
    if c.b < 1 ∨ 512 < c.b then (r, 1) else
    match volIx r.vs c.a with
    | none => (r, 7)
    | some q => match r.vs[q]? with
      | none => (r, 7)
      | some v => (fillR (cutR r q v (min (countF c.b).toNat v.ids.length) c.b) q { v with bl := c.b, ids := v.ids.take (min (countF c.b).toNat v.ids.length) } (copiesR r v) ((countF c.b).toNat - min (countF c.b).toNat v.ids.length), 0)
  else if c.k = 5 then
    if rightP c.p = false then (r, 1) else
    match volIx r.vs c.a with
    | none => (r, 7)
    | some q => match r.vs[q]? with
      | none => (r, 7)
      | some v => ({ r with vs := r.vs.set q { v with p := c.p, ver := v.ver + 1 } }, 0)
  else chunkR r c
def applyR (r : RS) (c : Cmd) : RS × Int :=
  if 1 ≤ c.k ∧ c.k ≤ 8 then
    if (doR r c).2 ≠ 0 then (r, (doR r c).2) else if admR (doR r c).1 then ((doR r c).1, 0) else (r, 14)
  else (r, 22)

theorem preF_setV {n : Int} {s : St} (hg : GoodD n s) {i : Nat} {v : Vol} (hi : i < 64) (hk : ∀ k ∈ v.ks, k ∈ (s.vs i).ks) (hr : RiseK v.ks) : PreF (setV s i v) := by
  have hsub : ∀ j, j < 64 → ∀ k ∈ ((setV s i v).vs j).ks, k ∈ (s.vs j).ks := fun j hj k hkj => by
    by_cases e : j = i
    · subst e; rw [setV_same] at hkj; exact hk k hkj
    · rwa [setV_other e] at hkj
  refine ⟨fun j hj k hkj => ((hg.vs j hj).ks k (hsub j hj k hkj)).vo, fun j hj k hkj => ((hg.vs j hj).ks k (hsub j hj k hkj)).id.2, fun j hj k hkj => ((hg.vs j hj).ks k (hsub j hj k hkj)).nd, fun j hj => ?_,
    fun a b ha hb k hka k' hkb e => hg.ord.one a b ha hb k (hsub a ha k hka) k' (hsub b hb k' hkb) e⟩
  by_cases e : j = i
  · subst e; rw [setV_same]; exact hr
  · rw [setV_other e]; exact hg.ord.rise j hj
theorem insAt_le (l : List RV) (a : Int) : insAt l a ≤ l.length := by
  unfold insAt
  exact (List.takeWhile_sublist _).length_le
theorem insAt_take {l : List RV} {a : Int} : ∀ x ∈ l.take (insAt l a), x.id < a := by
  intro x hx
  unfold insAt at hx
  rw [← List.prefix_iff_eq_take.1 (List.takeWhile_prefix _)] at hx
  have := List.all_eq_true.1 (List.all_takeWhile (p := fun v : RV => decide (v.id < a)) (l := l)) x hx
  simpa using this
theorem insAt_drop {l : List RV} (h : RiseBy RV.id l) {a : Int} (hne : ∀ x ∈ l, x.id ≠ a) : ∀ x ∈ l.drop (insAt l a), a < x.id := by
  intro x hx
  induction l with
  | nil => cases hx
  | cons y l ih =>
    obtain ⟨h1, h2⟩ := List.pairwise_cons.1 h
    unfold insAt at hx
    by_cases hy : y.id < a
    · rw [List.takeWhile_cons_of_pos (by simpa using hy), List.length_cons, List.drop_succ_cons] at hx
      exact ih h2 (fun z hz => hne z (List.mem_cons_of_mem _ hz)) hx
    · rw [List.takeWhile_cons_of_neg (by simpa using hy), List.length_nil, List.drop_zero] at hx
      have hya := hne y (by simp)
      rcases List.mem_cons.1 hx with rfl | hx
      · omega
      · have := h1 x hx; omega
theorem take_min {α : Type} (l : List α) (m : Nat) : l.take (min m l.length) = l.take m := by
  rw [← List.take_eq_take_min]
theorem rel_copies {u : St} {i x cp : Nat} {r : RS} (h : x = cp) (k : Rel (fillS u i cp) r) : Rel (fillS u i x) r := h ▸ k
theorem Rel.do {n : Int} {s : St} {r : RS} (h : Rel s r) (hg : GoodD n s) (c : Cmd) : (doR r c).2 = (doS s c).2 ∧ Rel (doS s c).1 (doR r c).1 := by
  have hsv := servers_congr h.pk
  unfold doR doS
  by_cases h1 : c.k = 1
  · rw [if_pos h1, if_pos h1]
    by_cases ha : c.a < 0 ∨ 15 < c.a ∨ c.b < 1 ∨ 64 < c.b
    · rw [if_pos ha, if_neg (by simp only [Bool.and_eq_true, decide_eq_true_eq]; omega)]
      exact ⟨rfl, h⟩
    · rw [if_neg ha, if_pos (by simp only [Bool.and_eq_true, decide_eq_true_eq]; omega)]
      refine ⟨rfl, ⟨fun i hi => ?_, h.vr, h.vm, h.cr, h.cm, h.nx⟩⟩
      show (if (i : Int) = c.a then c.b else r.pk i) = (if (i : Int) = c.a then c.b else s.pk i)
      rw [h.pk i hi]
  rw [if_neg h1, if_neg h1]
  by_cases h2 : c.k = 2
  · rw [if_pos h2, if_pos h2]
    by_cases ha : c.a < 0 ∨ 63 < c.a ∨ c.b < 1 ∨ 512 < c.b ∨ c.c < 1 ∨ 3 < c.c ∨ rightP c.p = false
    · rw [if_pos ha, if_pos (by
        simp only [areB, Bool.not_eq_true', Bool.and_eq_false_iff, decide_eq_false_iff_not]
        rcases ha with ha | ha | ha | ha | ha | ha | ha
        · left; left; left; omega
        · left; left; left; omega
        · left; left; right; omega
        · left; left; right; omega
        · left; right; omega
        · left; right; omega
        · right; exact ha)]
      exact ⟨rfl, h⟩
    · have hr : rightP c.p = true := by rw [← Bool.not_eq_false]; exact fun e => ha (by simp [e])
      have hab : (0 ≤ c.a ∧ c.a ≤ 63) ∧ (1 ≤ c.b ∧ c.b ≤ 512) ∧ (1 ≤ c.c ∧ c.c ≤ 3) := by omega
      have hcond : ¬ (!(decide (0 ≤ c.a ∧ c.a ≤ 63) && areB c.b && decide (1 ≤ c.c ∧ c.c ≤ 3) && rightP c.p)) = true := by
        simp only [areB, hr, Bool.not_eq_true', Bool.not_eq_false, Bool.and_true, Bool.and_eq_true, decide_eq_true_eq]
        omega
      rw [if_neg ha, if_neg hcond]
      obtain ⟨i, hi⟩ := Int.eq_ofNat_of_zero_le hab.1.1
      have hi64 : i < 64 := by omega
      rw [hi, Int.toNat_natCast]
      by_cases hb : (s.vs i).bl > 0
      · have hv : isVol s (i : Int) = true := by
          simp only [isVol, Bool.and_eq_true, decide_eq_true_eq, Int.toNat_natCast]
          omega
        obtain ⟨q, i', _, _, _, hq, _⟩ := h.volYes hv
        rw [hq, if_pos hb]
        exact ⟨rfl, h⟩
      · have hz : (s.vs i).bl = 0 := by have := (hg.vs i hi64).bl; omega
        have hv : isVol s (i : Int) = false := by
          simp only [isVol, Bool.and_eq_false_iff, decide_eq_false_iff_not, Int.toNat_natCast]
          right; omega
        rw [h.volNo hv, if_neg hb]
        simp only
        rw [hsv]
        by_cases hl : ((serversL s.pk).length : Int) < c.c
        · rw [if_pos hl, if_pos hl]
          exact ⟨rfl, h⟩
        · rw [if_neg hl, if_neg hl]
          refine ⟨rfl, ?_⟩
          have hvi := (hg.vs i hi64).zero hz
          have hno : ∀ x ∈ r.vs, x.id ≠ (i : Int) := fun x hx e => by
            obtain ⟨j, hj, hbj, rfl⟩ := (h.vm x).1 hx
            have : (j : Int) = (i : Int) := e
            have : j = i := by omega
            subst this
            exact hbj hz
          obtain ⟨s1, s2⟩ := h.vr.insert (k := insAt r.vs (i : Int)) (a := (⟨(i : Int), c.b, c.p, 1, []⟩ : RV)) insAt_take (insAt_drop h.vr hno)
          obtain ⟨t, ht⟩ : ∃ t, Go.Proofs.YtmdmpliiiecmlaaGreat.setV s i ⟨c.b, c.p, 1, []⟩ = t := ⟨_, rfl⟩
          have hti : t.vs i = ⟨c.b, c.p, 1, []⟩ := by rw [← ht, setV_same]
          have hto : ∀ j, j ≠ i → t.vs j = s.vs j := fun j e => by rw [← ht, setV_other e]
          have hrel : Rel t { r with vs := r.vs.take (insAt r.vs (i : Int)) ++ [⟨(i : Int), c.b, c.p, 1, []⟩] ++ r.vs.drop (insAt r.vs (i : Int)) } := by
            refine ⟨by rw [← ht]; exact h.pk, s1, fun x => ?_, h.cr, fun k => ?_, by rw [← ht]; exact h.nx⟩
            · rw [s2, h.vm]
              constructor
              · rintro (rfl | ⟨j, hj, hbj, rfl⟩)
                · exact ⟨i, hi64, by rw [hti]; show c.b ≠ 0; omega, by unfold rvOf; rw [hti]; rfl⟩
                · have hji : j ≠ i := fun e => by subst e; exact hbj hz
                  exact ⟨j, hj, by rw [hto j hji]; exact hbj, by unfold rvOf; rw [hto j hji]⟩
              · rintro ⟨j, hj, hbj, rfl⟩
                by_cases e : j = i
                · subst e
                  left
                  unfold rvOf
                  rw [hti]
                  rfl
                · right
                  rw [hto j e] at hbj
                  exact ⟨j, hj, hbj, by unfold rvOf; rw [hto j e]⟩
            · rw [h.cm]
              constructor
              · rintro ⟨j, hj, hk⟩
                have hji : j ≠ i := fun e => by subst e; rw [hvi] at hk; cases hk
                exact ⟨j, hj, by rw [hto j hji]; exact hk⟩
              · rintro ⟨j, hj, hk⟩
                by_cases e : j = i
                · subst e; rw [hti] at hk; cases hk
                · exact ⟨j, hj, by rwa [hto j e] at hk⟩
          have hpre : PreF t := by rw [← ht]; exact preF_setV hg hi64 (fun k hk => by cases hk) List.Pairwise.nil
          have hrv : rvOf t i = ⟨(i : Int), c.b, c.p, 1, []⟩ := by unfold rvOf; rw [hti]; rfl
          have hq : (r.vs.take (insAt r.vs (i : Int)) ++ [(⟨(i : Int), c.b, c.p, 1, []⟩ : RV)] ++ r.vs.drop (insAt r.vs (i : Int)))[insAt r.vs (i : Int)]? = some (rvOf t i) := by
            have hle := insAt_le r.vs (i : Int)
            rw [List.append_assoc, List.getElem?_append_right (by rw [List.length_take]; omega), List.length_take, Nat.min_eq_left hle, Nat.sub_self, hrv]
            rfl
          have hfin := hrel.fill hpre hi64 (by rw [hti]; show c.b ≠ 0; omega) hq c.c.toNat (countF c.b).toNat
          rw [hrv] at hfin
          have e : fillS t i c.c.toNat = fillQ t i c.c.toNat (countF c.b).toNat := by unfold fillS; rw [hti]; rfl
          rw [ht, e]
          exact hfin
  rw [if_neg h2, if_neg h2]
  by_cases h3 : c.k = 3
  · rw [if_pos h3, if_pos h3]
    cases hv : isVol s c.a with
    | false =>
      rw [h.volNo hv]
      exact ⟨rfl, h⟩
    | true =>
      obtain ⟨q, i, hia, hi, hb, hq1, hq2⟩ := h.volYes hv
      rw [hq1, hia, Int.toNat_natCast]
      simp only [hq2, if_true]
      refine ⟨by first | rfl | trivial, ?_⟩
      obtain ⟨s1, s2⟩ := h.vr.erase hq2
      refine ⟨h.pk, s1, fun x => ?_, h.cr.filter _, fun k => ?_, h.nx⟩
      · rw [s2, h.vm]
        constructor
        · rintro ⟨⟨j, hj, hbj, rfl⟩, hne⟩
          have hji : j ≠ i := fun e => hne (by subst e; rfl)
          exact ⟨j, hj, by rw [setV_other hji]; exact hbj, by unfold rvOf; rw [setV_other hji]⟩
        · rintro ⟨j, hj, hbj, rfl⟩
          by_cases e : j = i
          · subst e
            rw [setV_same] at hbj
            exact absurd rfl hbj
          · rw [setV_other e] at hbj
            refine ⟨⟨j, hj, hbj, by unfold rvOf; rw [setV_other e]⟩, fun e2 => e ?_⟩
            have : (j : Int) = (i : Int) := e2
            omega
      · rw [List.mem_filter, h.cm]
        simp only [Bool.not_eq_true', decide_eq_false_iff_not]
        constructor
        · rintro ⟨⟨j, hj, hk⟩, hno⟩
          have hji : j ≠ i := fun e => hno (by subst e; exact List.mem_map.2 ⟨k, hk, rfl⟩)
          exact ⟨j, hj, by rw [setV_other hji]; exact hk⟩
        · rintro ⟨j, hj, hk⟩
          by_cases e : j = i
          · subst e
            rw [setV_same] at hk
            cases hk
          · rw [setV_other e] at hk
            refine ⟨⟨j, hj, hk⟩, fun hin => e ?_⟩
            obtain ⟨k', hk', hid⟩ := List.mem_map.1 hin
            exact hg.ord.one j i hj hi k hk k' hk' hid.symm
  rw [if_neg h3, if_neg h3]
  by_cases h4 : c.k = 4
  · rw [if_pos h4, if_pos h4]
    by_cases hbb : c.b < 1 ∨ 512 < c.b
    · rw [if_pos hbb, if_pos (by unfold areB; rw [decide_eq_false_iff_not]; omega)]
      exact ⟨rfl, h⟩
    · rw [if_neg hbb, if_neg (by unfold areB; rw [Bool.not_eq_false, decide_eq_true_eq]; omega)]
      cases hv : isVol s c.a with
      | false =>
        rw [h.volNo hv, if_pos rfl]
        exact ⟨rfl, h⟩
      | true =>
        obtain ⟨q, i, hia, hi, hb, hq1, hq2⟩ := h.volYes hv
        rw [hq1, hia, Int.toNat_natCast, if_neg (by decide)]
        simp only [hq2]
        refine ⟨by first | rfl | trivial, ?_⟩
        obtain ⟨M, hM⟩ : ∃ M, (countF c.b).toNat = M := ⟨_, rfl⟩
        have hM1 : 1 ≤ M := by unfold countF at hM; omega
        rw [hM]
        have hil : (rvOf s i).ids.length = (s.vs i).ks.length := by simp [rvOf, idsK]
        rw [hil]
        obtain ⟨L, hL⟩ : ∃ L, (s.vs i).ks.length = L := ⟨_, rfl⟩
        rw [hL]
        obtain ⟨u, hu⟩ : ∃ u : Vol, { s.vs i with bl := c.b, ks := (s.vs i).ks.take M } = u := ⟨_, rfl⟩
        have hub : u.bl = c.b ∧ u.p = (s.vs i).p ∧ u.ver = (s.vs i).ver ∧ u.ks = (s.vs i).ks.take M := by rw [← hu]; exact ⟨rfl, rfl, rfl, rfl⟩
        rw [hu]
        have hne := hg.ne i hi hb
        obtain ⟨cp, hcp⟩ : ∃ cp : Nat, (match (s.vs i).ks.take M with | k :: _ => k.ms.length | [] => 0) = cp := ⟨_, rfl⟩
        refine rel_copies hcp ?_
        have hcp2 : copiesR r (rvOf s i) = cp := by
          cases hk : (s.vs i).ks with
          | nil => exact absurd hk hne
          | cons k l =>
            obtain ⟨M', rfl⟩ : ∃ M', M = M' + 1 := ⟨M - 1, by omega⟩
            rw [hk, List.take_succ_cons] at hcp
            have e1 : (rvOf s i).ids = k.id :: idsK l := by simp [rvOf, hk, idsK]
            obtain ⟨p, hp1, hp2⟩ := h.chYes (id := k.id) (i := i) (j := 0) (k := k) ⟨hi, by rw [hk]; rfl, rfl⟩
            unfold copiesR
            rw [e1]
            simp only [hp1, hp2]
            exact hcp
        rw [hcp2]
        obtain ⟨t, ht⟩ : ∃ t, Go.Proofs.YtmdmpliiiecmlaaGreat.setV s i u = t := ⟨_, rfl⟩
        have hti : t.vs i = u := by rw [← ht, setV_same]
        have htake : (rvOf s i).ids.take (min M L) = idsK u.ks := by
          rw [hub.2.2.2, ← hL, ← hil, take_min]
          simp [rvOf, idsK, List.map_take]
        have hrk : RiseK u.ks := by rw [hub.2.2.2]; exact (hg.ord.rise i hi).sublist (List.take_sublist _ _)
        have hrel : Rel t (cutR r q (rvOf s i) (min M L) c.b) := by
          have hsp : ∀ k, k ∈ (s.vs i).ks → (k.id ∈ (rvOf s i).ids.drop (min M L) ↔ k ∉ u.ks) := fun k hk => by
            have e1 : (rvOf s i).ids.drop (min M L) = idsK ((s.vs i).ks.drop (min M L)) := by simp [rvOf, idsK, List.map_drop]
            have e2 : u.ks = (s.vs i).ks.take (min M L) := by rw [hub.2.2.2, ← hL, take_min]
            rw [e1, e2]
            have hr := hg.ord.rise i hi
            have hsplit := hr
            unfold RiseK at hsplit
            rw [← List.take_append_drop (min M L) (s.vs i).ks] at hsplit
            obtain ⟨_, _, p3⟩ := List.pairwise_append.1 hsplit
            constructor
            · intro hin hk2
              obtain ⟨k', hk', hid⟩ := List.mem_map.1 hin
              have := p3 k hk2 k' hk'
              omega
            · intro hno
              rw [← List.take_append_drop (min M L) (s.vs i).ks] at hk
              rcases List.mem_append.1 hk with hk | hk
              · exact absurd hk hno
              · exact List.mem_map.2 ⟨k, hk, rfl⟩
          have key := h.setV hg (v := u) (cs := r.cs.filter (fun k => !decide (k.id ∈ (rvOf s i).ids.drop (min M L)))) hi hq2 (by rw [hub.1]; omega) (h.cr.filter _) (fun k => by
            rw [List.mem_filter]
            simp only [Bool.not_eq_true', decide_eq_false_iff_not]
            constructor
            · rintro ⟨hk, hno⟩
              by_cases hvo : k.vo = (i : Int)
              · obtain ⟨j, hj, hkj⟩ := (h.cm k).1 hk
                have := ((hg.vs j hj).ks k hkj).vo
                have : j = i := by omega
                subst this
                right
                rw [hsp k hkj] at hno
                exact Classical.not_not.1 hno
              · exact .inl ⟨hk, hvo⟩
            · rintro (⟨hk, hvo⟩ | hk)
              · refine ⟨hk, fun hin => hvo ?_⟩
                obtain ⟨k', hk', hid⟩ := List.mem_map.1 (List.mem_of_mem_drop hin)
                obtain ⟨j, hj, hkj⟩ := (h.cm k).1 hk
                have := hg.ord.one j i hj hi k hkj k' hk' hid.symm
                subst this
                exact ((hg.vs j hj).ks k hkj).vo
              · have hk2 : k ∈ (s.vs i).ks := by rw [hub.2.2.2] at hk; exact List.mem_of_mem_take hk
                refine ⟨(h.cm k).2 ⟨i, hi, hk2⟩, fun hin => ?_⟩
                exact (hsp k hk2).1 hin hk)
          rw [ht] at key
          have e : (⟨(i : Int), u.bl, u.p, u.ver, idsK u.ks⟩ : RV) = { rvOf s i with bl := c.b, ids := (rvOf s i).ids.take (min M L) } := by
            rw [htake, hub.1, hub.2.1, hub.2.2.1]
            rfl
          rw [e] at key
          exact key
        have hpre : PreF t := by rw [← ht]; exact preF_setV hg hi (fun k hk => by rw [hub.2.2.2] at hk; exact List.mem_of_mem_take hk) hrk
        have hrv : rvOf t i = { rvOf s i with bl := c.b, ids := (rvOf s i).ids.take (min M L) } := by
          rw [htake]
          unfold rvOf
          rw [hti, hub.1, hub.2.1, hub.2.2.1]
        have hq : (cutR r q (rvOf s i) (min M L) c.b).vs[q]? = some (rvOf t i) := by
          show (r.vs.set q _)[q]? = _
          rw [List.getElem?_set, if_pos rfl, if_pos (List.getElem?_eq_some_iff.1 hq2).1, hrv]
        have hfin := hrel.fill hpre hi (by rw [hti, hub.1]; omega) hq cp (M - min M L)
        rw [hrv] at hfin
        have e : fillS t i cp = fillQ t i cp (M - min M L) := by
          unfold fillS
          rw [hti, hub.1, hM, hub.2.2.2, List.length_take, hL]
        rw [ht, e]
        exact hfin
  rw [if_neg h4, if_neg h4]
  by_cases h5 : c.k = 5
  · rw [if_pos h5, if_pos h5]
    by_cases hr : rightP c.p = false
    · rw [if_pos hr, if_pos hr]; exact ⟨rfl, h⟩
    · rw [if_neg hr, if_neg hr]
      cases hv : isVol s c.a with
      | false =>
        rw [h.volNo hv, if_pos rfl]
        exact ⟨rfl, h⟩
      | true =>
        obtain ⟨q, i, hia, hi, hb, hq1, hq2⟩ := h.volYes hv
        rw [hq1, hia, Int.toNat_natCast, if_neg (by decide)]
        simp only [hq2]
        refine ⟨by first | rfl | trivial, ?_⟩
        have key := h.setV hg (v := { s.vs i with p := c.p, ver := (s.vs i).ver + 1 }) (cs := r.cs) hi hq2 hb h.cr (fun k => by
          constructor
          · intro hk
            by_cases hvo : k.vo = (i : Int)
            · obtain ⟨j, hj, hkj⟩ := (h.cm k).1 hk
              have := ((hg.vs j hj).ks k hkj).vo
              have : j = i := by omega
              subst this
              exact .inr hkj
            · exact .inl ⟨hk, hvo⟩
          · rintro (⟨hk, _⟩ | hk)
            · exact hk
            · exact (h.cm k).2 ⟨i, hi, hk⟩)
        exact key
  rw [if_neg h5, if_neg h5]
  exact h.chunk hg c
theorem Rel.apply {n : Int} {s : St} {r : RS} (h : Rel s r) (hg : GoodS n s) (hn : 0 ≤ n) {c : Cmd} (hc : CmdIn c) : (applyR r c).2 = (applyS s c).2 ∧ Rel (applyS s c).1 (applyR r c).1 := by
  obtain ⟨h1, h2⟩ := h.do hg.d c
  have hgd := (doS_good hg.d hn hc).1
  unfold applyR applyS
  by_cases hk : 1 ≤ c.k ∧ c.k ≤ 8
  · rw [if_pos hk, if_pos hk, h1]
    by_cases he : (doS s c).2 ≠ 0
    · rw [if_pos he, if_pos he]; exact ⟨rfl, h⟩
    · rw [if_neg he, if_neg he, h2.adm hgd]
      by_cases ha : admS (doS s c).1 = true
      · rw [if_pos ha, if_pos ha]; exact ⟨rfl, h2⟩
      · rw [if_neg ha, if_neg ha]; exact ⟨rfl, h⟩
  · rw [if_neg hk, if_neg hk]; exact ⟨rfl, h⟩
end Go.Proofs.YtmdmpliiiecmlaaGreat
end

section
namespace Go.Proofs.YtmdmpliiiecmlaaGreat
open Go.ChangeShapes Go.WideShapes Go.ChangeAt Go.RowKit
set_option linter.unusedVariables false
set_option linter.unusedSimpArgs false

def bdSt (parts : Array (Nat × Value)) : Sem Value := Instr.build 61 parts
theorem bdSt_eq (parts : Array (Nat × Value)) : Instr.build 61 parts = bdSt parts := rfl
theorem bdSt_run (w : World) : (bdSt #[]).run Tryz.prog w = .ok (.agg zStL.toArray) w := by kernel_rfl
theorem zFlat : ∀ (n i r : Nat), i < n → r < 7 → (List.replicate n zVol).flatten[i * 7 + r]? = zVol[r]?
  | 0, _, _, h, _ => by omega
  | n + 1, 0, r, _, hr => by
    rw [List.replicate_succ, List.flatten_cons, List.getElem?_append_left (by simp [zVol]; omega)]
    simp
  | n + 1, i + 1, r, hi, hr => by
    rw [List.replicate_succ, List.flatten_cons, List.getElem?_append_right (by simp [zVol]; omega)]
    have := zFlat n i r (by omega) hr
    rw [show (i + 1) * 7 + r - zVol.length = i * 7 + r by simp [zVol]; omega]
    exact this
theorem zFlat_len : ((List.replicate 64 zVol).flatten).length = 448 := by kernel_rfl
theorem zSt_pk {i : Nat} (h : i < 16) : zStL.toArray[i]? = some (.int .i64 0) := by
  rw [List.getElem?_toArray]
  unfold zStL
  rw [List.append_assoc, List.getElem?_append_left (by simpa using h), List.getElem?_replicate, if_pos h]
theorem zSt_vol {i r : Nat} (h : i < 64) (hr : r < 7) : zStL.toArray[16 + i * 7 + r]? = zVol[r]? := by
  rw [List.getElem?_toArray]
  unfold zStL
  rw [List.append_assoc, List.getElem?_append_right (by simp; omega), List.length_replicate, show 16 + i * 7 + r - 16 = i * 7 + r by omega, List.getElem?_append_left (by rw [zFlat_len]; omega)]
  exact zFlat 64 i r h hr
theorem zSt_md : zStL.toArray[464]? = some (.int .i64 0) := by
  rw [List.getElem?_toArray]
  unfold zStL
  rw [List.append_assoc, List.getElem?_append_right (by simp), List.length_replicate, List.getElem?_append_right (by rw [zFlat_len]; omega), zFlat_len]
  rfl
theorem st0_at {w : World} {g : Nat} (h : w.heap[g]? = some (.cells zStL.toArray 61 (0, 0))) : StAt w g st0 :=
  ⟨_, fun _ => Sl.nil, fun _ => [], h, zSt_size, fun i hi => zSt_pk hi, fun i hi => zSt_vol (r := 0) hi (by omega), fun i hi => zSt_vol (r := 1) hi (by omega), fun i hi => zSt_vol (r := 2) hi (by omega), fun i hi => zSt_vol (r := 3) hi (by omega),
    fun i hi => zSt_vol (r := 4) hi (by omega), fun i hi => zSt_vol (r := 5) hi (by omega), fun i hi => zSt_vol (r := 6) hi (by omega), zSt_md, fun i hi => KsT.nil _, fun i hi => rfl⟩
attribute [local go_sem ↓] bdSt_eq
def NewRet (w : World) (e : Ending) (w' : World) : Prop := e = .returned (.pointer (some ⟨w.heap.size, 0, none⟩)) ∧ StAt w' w.heap.size st0 ∧ Below w.heap.size w w'
set_option maxRecDepth 100000 in
theorem VNew (w : World) : Calls Tryz.prog 7 #[] w (NewRet w) := by
  have hbd := bdSt_run
  obtain ⟨Z, hZ⟩ : ∃ Z, zStL.toArray = Z := ⟨_, rfl⟩
  have hs := fun (V : World) (h : V.heap[w.heap.size]? = some (.cells zStL.toArray 61 (0, 0))) => st0_at h
  rw [hZ] at hbd hs
  have Hs := Lib.hid hs
  clear hZ hs
  go_enter Tryz.func7, Tryz.ntmps7
  go_wp2
  go_ret
  exact ⟨rfl, Hs.out _ (heap_alloc_new _ _), below_box _ _⟩

/-! ### the example, told -/
def pA : Pol := ⟨1000, 1, 0, 0⟩
def cA1 : Cmd := ⟨1, 2, 1, 0, pol0⟩
def cA2 : Cmd := ⟨2, 0, 9, 1, pA⟩
def cA3 : Cmd := ⟨2, 1, 1, 1, pA⟩
def pkA1 : Nat → Int := fun i => if (i : Int) = 2 then 1 else 0
def sA1 : St := ⟨pkA1, fun _ => vol0, 0⟩
def sA2 : St := ⟨pkA1, fun j => if j = 0 then ⟨9, pA, 1, [⟨1, 0, 1, [2], []⟩, ⟨2, 0, 1, [2], []⟩]⟩ else vol0, 2⟩
theorem few_one (f : Nat → Nat) (x : Nat) : fewF f [x] 1 = [x] := by
  unfold fewF
  rw [List.mergeSort_singleton]
  rfl
theorem servers_A : serversL pkA1 = [2] := by kernel_rfl
theorem adm_A1 : admS sA1 = true := by kernel_rfl
theorem adm_A2 : admS sA2 = true := by kernel_rfl
theorem awk1 : applyS st0 cA1 = (sA1, 0) := by
  have h : doS st0 cA1 = (sA1, 0) := by
    unfold doS
    rw [if_pos (show cA1.k = 1 from rfl), if_pos (by decide)]
    rfl
  unfold applyS
  rw [if_pos (by decide), h]
  simp [adm_A1]
theorem awk2 : applyS sA1 cA2 = (sA2, 0) := by
  have h : doS sA1 cA2 = (sA2, 0) := by
    unfold doS
    rw [if_neg (by decide), if_pos (show cA2.k = 2 from rfl), if_neg (by decide), if_neg (by decide), if_neg (by rw [show serversL sA1.pk = [2] from servers_A]; decide)]
    unfold fillS
    have e1 : (countF ((setV sA1 cA2.a.toNat ⟨cA2.b, cA2.p, 1, []⟩).vs cA2.a.toNat).bl).toNat - ((setV sA1 cA2.a.toNat ⟨cA2.b, cA2.p, 1, []⟩).vs cA2.a.toNat).ks.length = 2 := by decide
    rw [e1]
    unfold fillQ
    rw [show serversL (setV sA1 cA2.a.toNat ⟨cA2.b, cA2.p, 1, []⟩).pk = [2] from servers_A]
    simp only [fillK, show cA2.c.toNat = 1 from rfl, few_one]
    unfold sA2
    congr 1
    unfold setV
    congr 1
    funext j
    by_cases e : j = 0
    · subst e; rfl
    · simp only [show cA2.a.toNat = 0 from rfl, if_neg e]
      rfl
  unfold applyS
  rw [if_pos (by decide), h]
  simp [adm_A2]
theorem awk3 : applyS sA2 cA3 = (sA2, 14) := by
  have h : ∃ s', doS sA2 cA3 = (s', 0) ∧ admS s' = false := by
    unfold doS
    rw [if_neg (by decide), if_pos (show cA3.k = 2 from rfl), if_neg (by decide), if_neg (by decide), if_neg (by rw [show serversL sA2.pk = [2] from servers_A]; decide)]
    refine ⟨_, rfl, ?_⟩
    unfold fillS
    have e1 : (countF ((setV sA2 cA3.a.toNat ⟨cA3.b, cA3.p, 1, []⟩).vs cA3.a.toNat).bl).toNat - ((setV sA2 cA3.a.toNat ⟨cA3.b, cA3.p, 1, []⟩).vs cA3.a.toNat).ks.length = 1 := by decide
    rw [e1]
    unfold fillQ
    rw [show serversL (setV sA2 cA3.a.toNat ⟨cA3.b, cA3.p, 1, []⟩).pk = [2] from servers_A]
    simp only [fillK, show cA3.c.toNat = 1 from rfl, few_one]
    show admS _ = false
    kernel_rfl
  obtain ⟨s', h1, h2⟩ := h
  unfold applyS
  rw [if_pos (by decide), h1]
  simp [h2]
end Go.Proofs.YtmdmpliiiecmlaaGreat
end

section
namespace Go.Proofs.YtmdmpliiiecmlaaGreat
open Go.ChangeShapes Go.WideShapes Go.ChangeAt Go.RowKit
set_option linter.unusedVariables false
set_option linter.unusedSimpArgs false

def bdCmd (parts : Array (Nat × Value)) : Sem Value := Instr.build 38 parts
theorem bdCmd_eq (parts : Array (Nat × Value)) : Instr.build 38 parts = bdCmd parts := rfl
theorem bdA1 (w : World) : (bdCmd #[(0, .int .i64 1), (1, .int .i64 2), (2, .int .i64 1)]).run Tryz.prog w = .ok (cmdA cA1) w := by kernel_rfl
theorem bdA2 (w : World) : (bdCmd #[(0, .int .i64 2), (1, .int .i64 0), (2, .int .i64 9), (3, .int .i64 1), (4, .agg #[.int .i64 1000, .int .i64 1, .int .i64 0, .int .i64 0])]).run Tryz.prog w = .ok (cmdA cA2) w := by kernel_rfl
theorem bdA3 (w : World) : (bdCmd #[(0, .int .i64 2), (1, .int .i64 1), (2, .int .i64 1), (3, .int .i64 1), (4, .agg #[.int .i64 1000, .int .i64 1, .int .i64 0, .int .i64 0])]).run Tryz.prog w = .ok (cmdA cA3) w := by kernel_rfl
theorem inA1 : CmdIn cA1 := by constructor <;> (simp only [cA1, pol0, InP, In64]; omega)
theorem inA2 : CmdIn cA2 := by constructor <;> (simp only [cA2, pA, InP, In64]; omega)
theorem inA3 : CmdIn cA3 := by constructor <;> (simp only [cA3, pA, InP, In64]; omega)
theorem goodA1 : GoodS 1 sA1 := by
  have := (applyS_good good0 (Int.le_refl 0) inA1).1
  rwa [awk1] at this
theorem goodA2 : GoodS 2 sA2 := by
  have := (applyS_good goodA1 (by decide) inA2).1
  rwa [awk2] at this
theorem volA2 : isVol sA2 ((0 : Nat) : Int) = true := by kernel_rfl
theorem stPol_run {w : World} {g : Nat} {cs : Array Value} {T : TypeId} (h : w.heap[g]? = some (.cells cs T (0, 0))) (hs : cs.size = 4) (p : Pol) :
    ∃ w', (stPol (.pointer (some ⟨g, 0, none⟩)) (.agg #[.int .i64 p.re, .int .i64 p.we, .int .i64 p.li, .int .i64 p.bu])).run Tryz.prog w = .ok () w' ∧ w'.heap[g]? = some (.cells #[.int .i64 p.re, .int .i64 p.we, .int .i64 p.li, .int .i64 p.bu] T (0, 0)) ∧ Turned (fun k => k = g) w w' :=
  st_row (T := 36) h (by rw [hs]; rfl) pol_info (by simp [Value.oneCell'])
attribute [local go_sem ↓] bdCmd_eq
attribute [local go_sem ↓] ldPol_eq
attribute [local go_sem ↓] stPol_eq
attribute [local go_sem ↓] stVo_eq
set_option maxRecDepth 100000 in
set_option maxHeartbeats 2000000 in
theorem VAwake (w : World) : Calls Tryz.prog 6 #[] w fun e w' => e = .returned (.bool true) ∧ Below w.heap.size w w' := by
  have KN := Lib.hid (VNew w)
  have b1 := bdA1; have b2 := bdA2; have b3 := bdA3
  go_enter Tryz.func6, Tryz.ntmps6
  go_wp2_with fail
  refine KN.out.mono ?_
  rintro e w1 ⟨rfl, hs1, hb1⟩
  obtain ⟨g, hg⟩ : ∃ g, w.heap.size = g := ⟨_, rfl⟩
  rw [hg] at hs1 ⊢
  have hg1 := hs1.lt
  obtain ⟨w2, hw2⟩ : ∃ w2, w1.alloc (.cells #[.int .i64 0, .int .i64 0, .int .i64 0, .int .i64 0] 36) = w2 := ⟨_, rfl⟩
  have hb2 : Below w1.heap.size w1 w2 := by rw [← hw2]; exact below_box _ _
  have hr2 : w2.heap[w1.heap.size]? = some (.cells #[.int .i64 0, .int .i64 0, .int .i64 0, .int .i64 0] 36 (0, 0)) := by rw [← hw2]; exact heap_alloc_new _ _
  obtain ⟨w3, hst3, hr3, ht3⟩ := stPol_run hr2 rfl pA
  simp only [pA] at hst3 hr3
  have hb3 : Below w1.heap.size w1 w3 := hb2.trans (ht3.below (fun k e => by omega) hb2.size)
  have hs3 := hs1.below hb3
  have KA := VApply g st0 cA1 w3 hs3 (good0.ready (Int.le_refl 0) (by decide) inA1)
  rw [awk1] at KA
  have Hg := Lib.hid hg
  have Hb3 := Lib.hid (hb1.trans (hb3.mono (by rw [hg]; omega))); have Hr3 := Lib.hid hr3; have KA1 := Lib.hid KA
  clear hb1 hs1 hb2 hr2 hr3 ht3 hb3 hs3 KA hg
  go_wp2_with fail
  refine KA1.out.mono ?_
  rintro e w4 ⟨rfl, hs4, ht4⟩
  have hr4 := ht4.heap Hr3.out (by omega)
  have hld := ldPol_run (pol_of_row (p := ⟨1000, 1, 0, 0⟩) hr4 (by simp only [InP, In64]; omega))
  have KA := VApply g sA1 cA2 w4 hs4 (goodA1.ready (by decide) (by decide) inA2)
  rw [awk2] at KA
  have KA2 := Lib.hid KA; have Hr4 := Lib.hid hr4
  have Hb4 := Lib.hid (Hb3.out.trans (ht4.below (fun k e => by have := Hg.out; omega) Hb3.out.size))
  clear hr4 hs4 ht4 KA
  go_wp2_with fail
  refine KA2.out.mono ?_
  rintro e w5 ⟨rfl, hs5, ht5⟩
  have hr5 := ht5.heap Hr4.out (by omega)
  have KV := VVolume_yes g sA2 0 w5 hs5 (goodA2.d.fit (by decide)) volA2
  have KV' := Lib.hid KV; have Hr5 := Lib.hid hr5; have Hs5 := Lib.hid hs5
  have Hb5 := Lib.hid (Hb4.out.trans (ht5.below (fun k e => by have := Hg.out; omega) Hb4.out.size))
  clear hr5 hs5 ht5 KV hld
  go_wp2_with fail
  refine KV'.out.mono ?_
  rintro e w6 ⟨S, rfl, hown6, hb6⟩
  obtain ⟨A, n, c⟩ := S
  have hn : n = 2 := by
    have := hown6.1
    rw [numsV_length] at this
    have e2 : (idsK (sA2.vs 0).ks).length = 2 := by kernel_rfl
    simp only at this
    omega
  subst hn
  obtain ⟨w7, hw7⟩ : ∃ w7, w6.alloc (.cells #[.int .i64 0, .int .i64 0, .int .i64 0, .int .i64 0, .int .i64 0, .int .i64 0, .int .i64 0, .slice none 0 0] 43) = w7 := ⟨_, rfl⟩
  have hb7 : Below w6.heap.size w6 w7 := by rw [← hw7]; exact below_box _ _
  have hr7 : w7.heap[w6.heap.size]? = some (.cells #[.int .i64 0, .int .i64 0, .int .i64 0, .int .i64 0, .int .i64 0, .int .i64 0, .int .i64 0, .slice none 0 0] 43 (0, 0)) := by rw [← hw7]; exact heap_alloc_new _ _
  obtain ⟨w8, hst8, hr8, ht8⟩ := stVo_run hr7 rfl (0 : Int) (sA2.vs 0).bl (sA2.vs 0).p.re (sA2.vs 0).p.we (sA2.vs 0).p.li (sA2.vs 0).p.bu (sA2.vs 0).ver ⟨A, 2, c⟩
  simp only at hst8 hr8
  have hb68 : Below w6.heap.size w6 w8 := hb7.trans (ht8.below (fun k e => by omega) hb7.size)
  have hb58 := hb6.trans (hb68.mono hb6.size)
  have hs8 := Hs5.out.below hb58
  have hr58 := row_below Hr5.out hb58
  have hld := ldPol_run (pol_of_row (p := ⟨1000, 1, 0, 0⟩) hr58 (by simp only [InP, In64]; omega))
  have KA := VApply g sA2 cA3 w8 hs8 (goodA2.ready (by decide) (by decide) inA3)
  rw [awk3] at KA
  have KA3 := Lib.hid KA; have Hr8 := Lib.hid hr8
  have hg6 : g < w6.heap.size := by have := hb6.size; have := Hs5.out.lt; omega
  have Hb8 := Lib.hid (Hb5.out.trans (hb58.mono Hb5.out.size))
  clear hown6 hb6 hb7 hr7 hb68 hb58 hs8 hr58 KA hr8 ht8
  go_wp2_with fail
  refine KA3.out.mono ?_
  rintro e w9 ⟨rfl, hs9, ht9⟩
  have hr9 := ht9.heap Hr8.out (by omega)
  have d7 : w9.cell? ⟨w6.heap.size, 7, none⟩ = some (.slice A 2 c) := row_cell hr9 7
  have Hb9 := Lib.hid (Hb8.out.trans (ht9.below (fun k e => by have := Hg.out; omega) Hb8.out.size))
  clear hr9 hs9 ht9 hld
  go_wp2
  go_ret
  exact ⟨rfl, Hb9.out⟩
end Go.Proofs.YtmdmpliiiecmlaaGreat
end

section
namespace Go.Proofs.YtmdmpliiiecmlaaGreat
open Go.ChangeShapes Go.WideShapes Go.ChangeAt Go.RowKit
set_option linter.unusedVariables false

theorem take_snoc {α : Type} {l : List α} {k : Nat} {x : α} (h : l[k]? = some x) : l.take (k + 1) = l.take k ++ [x] := by
  obtain ⟨h1, h2⟩ := List.getElem?_eq_some_iff.1 h
  rw [List.take_succ_eq_append_getElem h1, h2]
theorem bool_ret' {a b : Bool} (h : a = b) : Ending.returned (.bool a) = Ending.returned (.bool b) := by rw [h]
theorem not_take {us : List Int} {k : Nat} {x v : Int} (hx : us[k]? = some x) (h : ¬ v ∈ us.take k) (hne : x ≠ v) : ¬ v ∈ us.take (k + 1) := by
  rw [take_snoc hx]
  simp only [List.mem_append, List.mem_singleton, not_or]
  exact ⟨h, fun e => hne e.symm⟩
set_option maxRecDepth 100000 in
theorem Has_any (A : Option Addr) (n c : Nat) (us : List Int) (v : Int) (w : World) (hn : us.length = n) (hm : n ≤ maxLen) (hs : Seen w A (numsV us)) :
    Calls Tryz.prog 80 #[.slice A n c, .int .i64 v] w fun e w' => e = .returned (.bool (decide (v ∈ us))) ∧ w' = w := by
  unfold maxLen at hm
  have Hs := Lib.hid hs; have Hn := Lib.hid hn
  clear hs hn
  go_enter Tryz.func80, Tryz.ntmps80
  go_wp2
  go_loopw [5] (fun i wr => ∃ k : Nat, k ≤ n ∧ i = .int .i64 k ∧ w = wr ∧ ¬ v ∈ us.take k) (fun i _ => n - (intOf i).toNat)
  case atStart => exact ⟨0, by omega, rfl, rfl, by simp⟩
  case round =>
    obtain ⟨k, hk, rfl, rfl, hg⟩ := hrel
    have Hg := Lib.hid hg; clear hg
    by_cases hlt : k < n
    · obtain ⟨g, o, x, rfl, hx, hc⟩ := Hs.out.num (j := k) (by have := Hn.out; omega)
      have Hx := Lib.hid hx; clear hx
      have b0 : (0 : Int) ≤ (k : Int) := by omega
      have b1 : (k : Int) < (n : Int) := by omega
      by_cases he : x = v
      · subst he
        go_wp2
        go_ret
        exact ⟨bool_ret' (decide_eq_true (List.mem_of_getElem? Hx.out)).symm, rfl⟩
      · have hq : (x == v) = false := by simpa using he
        have He := Lib.hid he; clear he
        go_wp2
        go_roundw
        case rel => exact ⟨k + 1, by omega, by go_num, by first | trivial | rfl, not_take Hx.out Hg.out He.out⟩
        case measure => simp [intOf]; omega
    · obtain rfl : k = n := by omega
      go_wp2
      go_ret
      exact ⟨bool_ret' (decide_eq_false fun h => Hg.out (by rw [List.take_of_length_le (by have := Hn.out; omega)]; exact h)).symm, rfl⟩
end Go.Proofs.YtmdmpliiiecmlaaGreat
end
