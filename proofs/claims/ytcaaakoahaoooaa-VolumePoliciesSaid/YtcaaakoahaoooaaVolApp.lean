/-
  Contract of volume's Apply: a command done on a copy, which is taken if what it tells is admitted. Conditions: a state in memory, whose numbers and whose successor's are within bounds, whose chunks rise, and whose volumes have one each; a command of numbers that an int holds.
-/
import Derived.Test.YtcaaakoahaoooaaVolCmd
namespace Go.Proofs.Ytcaaakoahaoooaa
open Go.ChangeShapes Go.WideShapes Go.ChangeAt Go.RowKit
set_option linter.unusedVariables false
set_option linter.unusedSimpArgs false

/-- what a command needs -/
structure ReadyS (s : St) (c : Cmd) : Prop where
  fit : StFit s
  ord : OrdS s
  ne : ∀ i, i < 64 → (s.vs i).bl ≠ 0 → (s.vs i).ks ≠ []
  fit2 : StFit (doS s c).1
  cmd : CmdIn c
theorem VDo (g : Nat) (s : St) (c : Cmd) (w : World) (h : StAt w g s) (hr : ReadyS s c) (hk : 1 ≤ c.k ∧ c.k ≤ 8) :
    Calls Try.prog (cmdFn c.k) #[.pointer (some ⟨g, 0, none⟩), cmdA c] w (DoRet g (doS s c) w) := by
  have e6 : 6 ≤ c.k → doS s c = chunkS s c := fun h => by unfold doS; rw [if_neg (by omega), if_neg (by omega), if_neg (by omega), if_neg (by omega), if_neg (by omega)]
  unfold cmdFn
  by_cases h1 : c.k = 1
  · rw [if_pos h1]; exact VServer g s c w h hr.cmd h1
  rw [if_neg h1]
  by_cases h2 : c.k = 2
  · rw [if_pos h2]; exact VCreate g s c w h hr.fit hr.cmd h2
  rw [if_neg h2]
  by_cases h3 : c.k = 3
  · rw [if_pos h3]; exact VRemove g s c w h h3
  rw [if_neg h3]
  by_cases h4 : c.k = 4
  · rw [if_pos h4]; exact VResize g s c w h hr.fit hr.ne h4
  rw [if_neg h4]
  by_cases h5 : c.k = 5
  · rw [if_pos h5]; exact VChange g s c w h hr.fit hr.cmd h5
  rw [if_neg h5]
  rw [e6 (by omega)]
  by_cases h6 : c.k = 6
  · rw [if_pos h6]; exact VDrop g s c w h hr.fit hr.ord h6
  rw [if_neg h6]
  by_cases h7 : c.k = 7
  · rw [if_pos h7]; exact VJoin g s c w h hr.fit hr.ord h7
  rw [if_neg h7]
  exact VPromote g s c w h hr.fit hr.ord (by omega)
theorem enter_of {P : Program} {f : FuncId} {fn : Func} (hf : P.funcs[f]? = some fn) (hname : (fn.name == "runtime.NumGoroutine") = false) (hb : fn.body.isSome = true) (args : Array Value) (w : World) :
    (callFunc f args).run P w = .ok (.enter f args) w := by
  have h1 : fn.name ≠ "runtime.NumGoroutine" := by simpa using hname
  obtain ⟨c, hc⟩ := Option.isSome_iff_exists.1 hb
  simp [callFunc, hf, h1, hc]
theorem cmd_enter {k : Int} (hk : 1 ≤ k ∧ k ≤ 8) (args : Array Value) (w : World) : (callFunc (cmdFn k) args).run Try.prog w = .ok (.enter (cmdFn k) args) w := by
  rcases (show k = 1 ∨ k = 2 ∨ k = 3 ∨ k = 4 ∨ k = 5 ∨ k = 6 ∨ k = 7 ∨ k = 8 by omega) with rfl | rfl | rfl | rfl | rfl | rfl | rfl | rfl
  · exact enter_of Try.func45 (by kernel_rfl) (by kernel_rfl) args w
  · exact enter_of Try.func46 (by kernel_rfl) (by kernel_rfl) args w
  · exact enter_of Try.func47 (by kernel_rfl) (by kernel_rfl) args w
  · exact enter_of Try.func48 (by kernel_rfl) (by kernel_rfl) args w
  · exact enter_of Try.func49 (by kernel_rfl) (by kernel_rfl) args w
  · exact enter_of Try.func50 (by kernel_rfl) (by kernel_rfl) args w
  · exact enter_of Try.func51 (by kernel_rfl) (by kernel_rfl) args w
  · exact enter_of Try.func52 (by kernel_rfl) (by kernel_rfl) args w
def ldSt (p : Value) : Sem Value := Instr.loadAt 69 p
theorem ldSt_eq (p : Value) : Instr.loadAt 69 p = ldSt p := rfl
def stSt (p v : Value) : Sem Unit := Instr.storeAt 69 p v
theorem stSt_eq (p v : Value) : Instr.storeAt 69 p v = stSt p v := rfl
def ldCmd (p : Value) : Sem Value := Instr.loadAt 36 p
theorem ldCmd_eq (p : Value) : Instr.loadAt 36 p = ldCmd p := rfl
def zVol : List Value := [.int .i64 0, .int .i64 0, .int .i64 0, .int .i64 0, .int .i64 0, .int .i64 0, .slice none 0 0]
def zStL : List Value := List.replicate 16 (.int .i64 0) ++ (List.replicate 64 zVol).flatten ++ [.int .i64 0]
def zStV : Value := .agg zStL.toArray
theorem zSt_info : (Try.prog.info? 69).map (fun i => (i.zero, i.size)) = some (some zStV, 465) := by kernel_rfl
theorem zSt_run : ∀ w, (zeroValue 69).run Try.prog w = .ok (.agg zStL.toArray) w := (zero_of_info zSt_info).1
theorem zSt_size : zStL.toArray.size = 465 := by kernel_rfl
theorem st_size : (Try.prog.info? 69).map (·.size) = some 465 := (zero_of_info zSt_info).2
theorem rangeAt_row {w : World} {g : Nat} {cs : Array Value} {T : TypeId} (h : w.heap[g]? = some (.cells cs T (0, 0))) : w.rangeAt g 0 cs.toList := fun j v hv => by
  rw [Nat.zero_add, row_cell h]
  simpa using hv
theorem ldSt_run {w : World} {g : Nat} {cs : Array Value} {T : TypeId} (h : w.heap[g]? = some (.cells cs T (0, 0))) (hs : cs.size = 465) : (ldSt (.pointer (some ⟨g, 0, none⟩))).run Try.prog w = .ok (.agg cs) w :=
  run_loadAt_mid w g 0 69 cs.toList _ (rangeAt_row h) Try.underlying69 rfl (by rw [st_size, Array.length_toList, hs])
theorem cmd_info : (Try.prog.info? 36).map (·.size) = some 8 := by kernel_rfl
theorem ldCmd_run {w : World} {g : Nat} {c : Cmd} {T : TypeId} (h : w.heap[g]? = some (.cells #[.int .i64 c.k, .int .i64 c.a, .int .i64 c.b, .int .i64 c.c, .int .i64 c.p.re, .int .i64 c.p.we, .int .i64 c.p.li, .int .i64 c.p.bu] T (0, 0))) :
    (ldCmd (.pointer (some ⟨g, 0, none⟩))).run Try.prog w = .ok (cmdA c) w :=
  run_loadAt_mid w g 0 36 _ _ (rangeAt_row h) Try.underlying36 rfl cmd_info
/-- every cell of a state takes one cell -/
theorem StC.one {w : World} {g : Nat} {cs : Array Value} {s : St} {K : Nat → Sl} {X : Nat → List Ck} (h : StC w g cs s K X) : cs.all (·.oneCell') = true := by
  rw [Array.all_eq_true_iff_forall_mem]
  intro v hv
  obtain ⟨j, hj, e⟩ := Array.mem_iff_getElem.1 hv
  have hj5 : j < 465 := by rw [← h.size]; exact hj
  have e1 : cs[j]? = some v := by rw [Array.getElem?_eq_getElem hj, e]
  rcases Nat.lt_or_ge j 16 with h1 | h1
  · rw [h.pk j h1] at e1; injection e1 with e1; rw [← e1]; rfl
  rcases Nat.lt_or_ge j 464 with h2 | h2
  · obtain ⟨i, r, hr, rfl⟩ : ∃ i r, r < 7 ∧ j = 16 + i * 7 + r := ⟨(j - 16) / 7, (j - 16) % 7, Nat.mod_lt _ (by omega), by omega⟩
    have hi : i < 64 := by omega
    rcases (show r = 0 ∨ r = 1 ∨ r = 2 ∨ r = 3 ∨ r = 4 ∨ r = 5 ∨ r = 6 by omega) with rfl | rfl | rfl | rfl | rfl | rfl | rfl
    · rw [Nat.add_zero, h.c0 i hi] at e1; injection e1 with e1; rw [← e1]; rfl
    · rw [h.c1 i hi] at e1; injection e1 with e1; rw [← e1]; rfl
    · rw [h.c2 i hi] at e1; injection e1 with e1; rw [← e1]; rfl
    · rw [h.c3 i hi] at e1; injection e1 with e1; rw [← e1]; rfl
    · rw [h.c4 i hi] at e1; injection e1 with e1; rw [← e1]; rfl
    · rw [h.c5 i hi] at e1; injection e1 with e1; rw [← e1]; rfl
    · rw [h.c6 i hi] at e1; injection e1 with e1; rw [← e1]; rfl
  · obtain rfl : j = 464 := by omega
    rw [h.md] at e1; injection e1 with e1; rw [← e1]; rfl
/-- the same cells at another place -/
theorem StC.at {w w' : World} {g g' : Nat} {cs : Array Value} {s : St} {K : Nat → Sl} {X : Nat → List Ck} (h : StC w g cs s K X) (hr : w'.heap[g']? = some (.cells cs 69 (0, 0))) (hk : ∀ q, q < 64 → KsT w' (K q) (X q)) : StC w' g' cs s K X :=
  ⟨hr, h.size, h.pk, h.c0, h.c1, h.c2, h.c3, h.c4, h.c5, h.c6, h.md, hk, h.dat⟩
/-- a state stored whole into a row of its own -/
theorem stSt_run {w : World} {g : Nat} {cs cz : Array Value} {T : TypeId} (h : w.heap[g]? = some (.cells cz T (0, 0))) (hz : cz.size = 465) (hs : cs.size = 465) (h1 : cs.all (·.oneCell') = true) :
    ∃ w', (stSt (.pointer (some ⟨g, 0, none⟩)) (.agg cs)).run Try.prog w = .ok () w' ∧ w'.heap[g]? = some (.cells cs T (0, 0)) ∧ Turned (fun k => k = g) w w' :=
  st_row (T := 69) h (by rw [hz, hs]) (by rw [st_size, hs]) h1
def AppRet (g : Nat) (o : St × Int) (w : World) (e : Ending) (w' : World) : Prop :=
  e = .returned (.int .i64 o.2) ∧ StAt w' g o.1 ∧ Turned (fun k => k = g) w w'
theorem AppRet.err {g : Nat} {s : St} {x : Int} {w w' : World} (h : Below w.heap.size w w') (hs : StAt w g s) : AppRet g (s, x) w (.returned (.int .i64 x)) w' := ⟨rfl, hs.below h, .of_below h⟩
attribute [local go_sem ↓] ldSt_eq
attribute [local go_sem ↓] stSt_eq
attribute [local go_sem ↓] ldCmd_eq
set_option maxRecDepth 100000 in
set_option maxHeartbeats 4000000 in
theorem VApply (g : Nat) (s : St) (c : Cmd) (w : World) (h : StAt w g s) (hr : ReadyS s c) :
    Calls Try.prog 11 #[.pointer (some ⟨g, 0, none⟩), cmdA c] w (AppRet g (applyS s c) w) := by
  obtain ⟨O, hO⟩ : ∃ O, applyS s c = O := ⟨_, rfl⟩
  rw [hO]
  unfold cmdA
  obtain ⟨w1, hw1, hb1, hr1⟩ := cmd_box w c
  have c0 : w1.drew.cell? ⟨w.heap.size, 0, none⟩ = some (.int .i64 c.k) := row_cell (w := w1.drew) hr1 0
  have hgl := h.lt
  have H0 := Lib.hid h; have Hr := Lib.hid hr; have Hb1 := Lib.hid hb1; have Hr1 := Lib.hid hr1; have HO := Lib.hid hO
  have KC := Lib.hid (VCommands w1.drew)
  clear h hr hb1 hr1 hO
  go_enter Try.func11, Try.ntmps11
  go_upto_region 1 with fail
  refine wp_region_T (S := (fun W => W.cell? ⟨w.heap.size, 0, none⟩ = some (.int .i64 c.k))) 8 (by kernel_rfl) ?_
  have hHeld := c0
  refine wpAnyT_takeN (n := 9) (i := 1) (v := ?vr1) rfl (by kernel_rfl) (by kernel_rfl) (by kernel_rfl) (by kernel_rfl) (by kernel_rfl) (by rfl) (by rfl) (fun _ _ _ h => h) (Or.inl ⟨by rfl, ?hyr1⟩) hHeld ?restr1
  case hyr1 => (intro w' hS; have s1 := hS; (try simp only [List.getElem_toArray, List.getElem_cons_succ, List.getElem_cons_zero]); go_simp; try with_reducible rfl)
  try simp only [Act.put, List.setIfInBounds_toArray, List.set_cons_zero, List.set_cons_succ, List.getElem_toArray, List.getElem_cons_succ, List.getElem_cons_zero]
  refine wpAnyT_takeN (n := 9) (i := 2) (v := ?vr2) rfl (by kernel_rfl) (by kernel_rfl) (by kernel_rfl) (by kernel_rfl) (by kernel_rfl) (by rfl) (by rfl) (fun _ _ _ h => h) (Or.inl ⟨by rfl, ?hyr2⟩) hHeld ?restr2
  case hyr2 => (intro w' hS; have s1 := hS; (try simp only [List.getElem_toArray, List.getElem_cons_succ, List.getElem_cons_zero]); go_simp; try with_reducible rfl)
  try simp only [Act.put, List.setIfInBounds_toArray, List.set_cons_zero, List.set_cons_succ, List.getElem_toArray, List.getElem_cons_succ, List.getElem_cons_zero]
  refine wpAnyT_one (i := 0) (by kernel_rfl) rfl (fun K hK => ?_)
  (try simp only [List.getElem_toArray, List.getElem_cons_succ, List.getElem_cons_zero])
  go_simp
  refine KC.out.mono ?_
  rintro e w2 ⟨ks, F, rfl, hm, hks, hF, hb⟩
  have c02 : w2.cell? ⟨w.heap.size, 0, none⟩ = some (.int .i64 c.k) := row_cell (row_below (w := w1.drew) Hr1.out hb) 0
  obtain ⟨v, kn, hlk, hkn, hv⟩ : ∃ v kn, (Instr.lookup 75 (.map (some w1.heap.size)) (.int .i64 c.k) true).run Try.prog w2 = .ok (.tuple #[v, .bool kn]) w2 ∧ kn = decide (1 ≤ c.k ∧ c.k ≤ 8) ∧ (kn = true → v = .func (.func (cmdFn c.k)) #[] #[]) := by
    refine ⟨_, _, has_run (e := 73) (z := .nilFunc) Try.underlying75 (by kernel_rfl) hm Hr.out.cmd.hk.1 Hr.out.cmd.hk.2, ?_, fun h => ?_⟩
    · by_cases hk : 1 ≤ c.k ∧ c.k ≤ 8
      · rw [decide_eq_true hk, decide_eq_true ((hks _).2 hk)]
      · rw [decide_eq_false hk, decide_eq_false (fun e => hk ((hks _).1 e))]
    · have hk := of_decide_eq_true h
      rw [if_pos hk]
      exact hF _ ((hks _).1 hk).1 ((hks _).1 hk).2
  have Hb2 := Lib.hid (Hb1.out.trans (((Below.refl w1.heap.size w1).drew.trans hb).mono Hb1.out.size))
  have Hr2 := Lib.hid (row_below (w := w1.drew) Hr1.out hb)
  have Hkn := Lib.hid hkn
  have Hv := Lib.hid hv
  clear hb hm hks hF hkn hv
  refine hK.out _ _ (fun _ => c02) ?_
  clear hHeld
  have hHeld := c02
  clear hK K
  try simp only [Act.put, List.setIfInBounds_toArray, List.set_cons_zero, List.set_cons_succ, List.getElem_toArray, List.getElem_cons_succ, List.getElem_cons_zero]
  refine wpAnyT_one (i := 3) (by kernel_rfl) rfl (fun K hK => ?_)
  (try simp only [List.getElem_toArray, List.getElem_cons_succ, List.getElem_cons_zero])
  go_simp
  refine hK.out _ _ (fun _ => c02) ?_
  clear hHeld
  have hHeld := c02
  clear hK K
  try simp only [Act.put, List.setIfInBounds_toArray, List.set_cons_zero, List.set_cons_succ, List.getElem_toArray, List.getElem_cons_succ, List.getElem_cons_zero]
  refine wpAnyT_one (i := 4) (by kernel_rfl) rfl (fun K hK => ?_)
  (try simp only [List.getElem_toArray, List.getElem_cons_succ, List.getElem_cons_zero])
  go_simp
  refine hK.out _ _ (fun _ => c02) ?_
  clear hHeld
  have hHeld := c02
  clear hK K
  try simp only [Act.put, List.setIfInBounds_toArray, List.set_cons_zero, List.set_cons_succ, List.getElem_toArray, List.getElem_cons_succ, List.getElem_cons_zero]
  refine wpAnyT_takeN (n := 9) (i := 5) (v := ?vr3) rfl (by kernel_rfl) (by kernel_rfl) (by kernel_rfl) (by kernel_rfl) (by kernel_rfl) (by rfl) (by rfl) (fun _ _ _ h => h) (Or.inl ⟨by rfl, ?hyr3⟩) hHeld ?restr3
  case hyr3 => (intro w' hS; have s1 := hS; (try simp only [List.getElem_toArray, List.getElem_cons_succ, List.getElem_cons_zero]); go_simp; try with_reducible rfl)
  try simp only [Act.put, List.setIfInBounds_toArray, List.set_cons_zero, List.set_cons_succ, List.getElem_toArray, List.getElem_cons_succ, List.getElem_cons_zero]
  refine wpAnyT_takeN (n := 9) (i := 6) (v := ?vr4) rfl (by kernel_rfl) (by kernel_rfl) (by kernel_rfl) (by kernel_rfl) (by kernel_rfl) (by rfl) (by rfl) (fun _ _ _ h => h) (Or.inl ⟨by rfl, ?hyr4⟩) hHeld ?restr4
  case hyr4 => (intro w' hS; have s1 := hS; (try simp only [List.getElem_toArray, List.getElem_cons_succ, List.getElem_cons_zero]); go_simp; try with_reducible rfl)
  try simp only [Act.put, List.setIfInBounds_toArray, List.set_cons_zero, List.set_cons_succ, List.getElem_toArray, List.getElem_cons_succ, List.getElem_cons_zero]
  refine wpAnyT_one (i := 7) (by kernel_rfl) rfl (fun K hK => ?_)
  (try simp only [List.getElem_toArray, List.getElem_cons_succ, List.getElem_cons_zero])
  go_simp
  refine hK.out _ _ (fun _ => c02) ?_
  clear hHeld
  have hHeld := c02
  clear hK K
  try simp only [Act.put, List.setIfInBounds_toArray, List.set_cons_zero, List.set_cons_succ, List.getElem_toArray, List.getElem_cons_succ, List.getElem_cons_zero]
  refine wpAnyT_one (i := 8) (by kernel_rfl) rfl (fun K hK => ?_)
  (try simp only [List.getElem_toArray, List.getElem_cons_succ, List.getElem_cons_zero])
  go_simp
  refine hK.out _ _ (fun h => (by cases h)) ?_
  clear hK K
  try simp only [Act.put, List.setIfInBounds_toArray, List.set_cons_zero, List.set_cons_succ, List.getElem_toArray, List.getElem_cons_succ, List.getElem_cons_zero]
  refine wpAnyT_done (by kernel_rfl) ?_ _
  clear hHeld c0 c02 hlk hw1
  cases kn with
  | false =>
    have hO := HO.out
    have hk := of_decide_eq_false Hkn.out.symm
    unfold applyS at hO
    rw [if_neg hk] at hO
    subst hO
    go_wp2
    go_ret
    exact AppRet.err Hb2.out H0.out
  | true =>
    have hk := of_decide_eq_true Hkn.out.symm
    have hv := Hv.out rfl
    subst hv
    obtain ⟨cs, K, X, h⟩ := H0.out
    have h2 := h.below Hb2.out
    have hld := ldSt_run h2.row h2.size
    have hz := zSt_run
    have hZs := zSt_size
    obtain ⟨Z, hZ⟩ : ∃ Z, zStL.toArray = Z := ⟨_, rfl⟩
    rw [hZ] at hz hZs
    clear hZ
    obtain ⟨w3, hw3⟩ : ∃ w3, w2.alloc (.cells Z 69) = w3 := ⟨_, rfl⟩
    have hb3 : Below w2.heap.size w2 w3 := by rw [← hw3]; exact below_box _ _
    have hr3 : w3.heap[w2.heap.size]? = some (.cells Z 69 (0, 0)) := by rw [← hw3]; exact heap_alloc_new _ _
    obtain ⟨w4, hst4, hr4, ht4⟩ := stSt_run hr3 hZs h2.size h2.one
    have hb4 : Below w2.heap.size w2 w4 := hb3.trans (ht4.below (fun k e => by omega) hb3.size)
    have h4 : StC w4 w2.heap.size cs s K X := h2.at hr4 (fun q hq => (h2.ks q hq).below hb4)
    have hld4 := ldCmd_run (row_below Hr2.out hb4)
    obtain ⟨s', r, hd⟩ : ∃ s' r, doS s c = (s', r) := ⟨_, _, rfl⟩
    have KD0 := VDo w2.heap.size s c w4 ⟨_, _, _, h4⟩ Hr.out hk
    rw [hd] at KD0
    have hfit : StFit s' := by have := Hr.out.fit2; rw [hd] at this; exact this
    obtain ⟨f, hf⟩ : ∃ f, cmdFn c.k = f := ⟨_, rfl⟩
    have hce := fun args w => cmd_enter hk args w
    rw [hf] at KD0 hce
    rw [hf]
    unfold cmdA at hld4 KD0
    have KD := Lib.hid KD0
    have hO : applyS s c = if r ≠ 0 then (s, r) else if admS s' then (s', 0) else (s, 14) := by unfold applyS; rw [if_pos hk, hd]
    rw [HO.out] at hO
    replace HO := Lib.hid hO
    have Hb4 := Lib.hid (Hb2.out.trans (hb4.mono Hb2.out.size)); have Hh := Lib.hid h; have Hfit := Lib.hid hfit
    clear hd hf KD0 h4 hb4 hr4 ht4 hb3 hr3 hZs h2 h hfit hO hk Hkn Hv
    go_wp2_with fail
    refine KD.out.mono ?_
    rintro e w5 ⟨rfl, hs5, ht5⟩
    simp only at hs5 ⊢
    have hb5 : Below w.heap.size w w5 := Hb4.out.trans (ht5.below (fun k e => by have := Hb2.out.size; omega) Hb4.out.size)
    by_cases hr0 : r = 0
    · have hne : (r != 0) = false := by simp [hr0]
      have hs5' := hs5 hr0
      have hO := HO.out
      rw [if_neg (by simp [hr0])] at hO
      have KA := Lib.hid (Vadmitted w2.heap.size s' w5 hs5' Hfit.out)
      have Hs5 := Lib.hid hs5'
      obtain ⟨ad, had⟩ : ∃ ad, admS s' = ad := ⟨_, rfl⟩
      rw [had] at KA hO
      have Hb5 := Lib.hid hb5
      replace HO := Lib.hid hO
      clear hs5 hs5' had hb5 ht5 hr0 hO
      cases ad with
      | false =>
        have hO := HO.out
        rw [if_neg (by decide)] at hO
        subst hO
        go_wp2_with (go_at_call 27; refine KA.out.mono ?_; rintro e w6 ⟨rfl, hb6⟩; have Hb6 := Lib.hid (Hb5.out.trans (hb6.mono Hb5.out.size)); clear hb6)
        go_ret
        exact AppRet.err Hb6.out H0.out
      | true =>
        have hO := HO.out
        rw [if_pos rfl] at hO
        replace HO := Lib.hid hO
        clear hO
        go_wp2_with fail
        refine KA.out.mono ?_
        rintro e w6 ⟨rfl, hb6⟩
        obtain ⟨cs6, K6, X6, h6⟩ := Hs5.out.below hb6
        have hb06 := Hb5.out.trans (hb6.mono Hb5.out.size)
        have hg6 := row_below Hh.out.row hb06
        have hld6 := ldSt_run h6.row h6.size
        obtain ⟨w7, hst7, hr7, ht7⟩ := stSt_run hg6 Hh.out.size h6.size h6.one
        have hno : NoCk w6 (fun k => k = g) := noCk_box hg6 (by decide) (by decide)
        have h7 : StC w7 g cs6 s' K6 X6 := h6.at hr7 (fun q hq => (h6.ks q hq).turned ht7 hno.1 hno.2)
        have H7 := Lib.hid h7; have Ht7 := Lib.hid ht7; have Hb06 := Lib.hid hb06
        clear h7 ht7 hb06 hb6 h6 hr7 hno hg6
        go_wp2
        go_ret
        rw [HO.out]
        exact ⟨rfl, ⟨_, _, _, H7.out⟩, (Turned.of_below (p := fun k => k = g) Hb06.out).trans Ht7.out (fun _ e => e) (fun _ _ e => e)⟩
    · have hne : (r != 0) = true := by simpa using hr0
      have hO := HO.out
      rw [if_pos hr0] at hO
      have Hb5 := Lib.hid hb5
      subst hO
      clear hs5 ht5 hb5 hr0
      go_wp2
      go_ret
      exact AppRet.err Hb5.out H0.out
end Go.Proofs.Ytcaaakoahaoooaa
