/-
  Joined: VolCmd, VolApp. Conditions: each theorem's own.
-/
import Derived.Test.YteebkolccbcehaaGreatJA
import Derived.Test.YteebkolccbcehaaGreatVolRes
import Derived.Test.YteebkolccbcehaaGreatJI

section
set_option linter.all false
namespace Go.Proofs.YteebkolccbcehaaGreat
open Go.ChangeShapes Go.WideShapes Go.ChangeAt Go.RowKit
def XE (k : Int) : FuncId := if k = 1 then 40 else if k = 2 then 41 else if k = 3 then 42 else if k = 4 then 43 else if k = 5 then 44 else if k = 6 then 45 else if k = 7 then 46 else 47
def CmdsRet (w : World) (e : Ending) (w' : World) : Prop := ∃ ks F, e = .returned (.map (some w.heap.size)) /\ xQ w' w.heap.size ks F /\ (∀ k, k ∈ ks ↔ 1 <= k /\ k <= 8) /\ (∀ k, 1 <= k -> k <= 8 -> F k = .func (.func (XE k)) #[] #[]) /\ Below w.heap.size w w'
set_option maxRecDepth 100000 in
set_option maxHeartbeats 1000000 in
theorem VCommands (w : World) : Calls Tryz.prog 15 #[] w (CmdsRet w) := by
 have hmm := @run_makeMap Tryz.prog
 obtain ⟨w1, hw1⟩ : ∃ w1, w.alloc (.map #[] 0) = w1 := ⟨_, rfl⟩
 have hm1 : xQ w1 w.heap.size [] (fun _ => undef) := by rw [<- hw1]; exact xQ.made w _
 have hb1 : Below w.heap.size w w1 := by rw [<- hw1]; exact (Below.refl _ _).alloc (Nat.le_refl _) _
 obtain ⟨w2, hr2, hm2, ht2⟩ := ZB Tryz.underlying60 (.func (.func 40) #[] #[]) hm1 (k := 1) (by omega) (by omega) (by simp [putK, outK, insK])
 have hb2 := hb1.trans (ht2.below (fun k e => by omega) hb1.size)
 obtain ⟨w3, hr3, hm3, ht3⟩ := ZB Tryz.underlying60 (.func (.func 41) #[] #[]) hm2 (k := 2) (by omega) (by omega) (by simp [putK, outK, insK])
 have hb3 := hb2.trans (ht3.below (fun k e => by omega) hb2.size)
 obtain ⟨w4, hr4, hm4, ht4⟩ := ZB Tryz.underlying60 (.func (.func 42) #[] #[]) hm3 (k := 3) (by omega) (by omega) (by simp [putK, outK, insK])
 have hb4 := hb3.trans (ht4.below (fun k e => by omega) hb3.size)
 obtain ⟨w5, hr5, hm5, ht5⟩ := ZB Tryz.underlying60 (.func (.func 43) #[] #[]) hm4 (k := 4) (by omega) (by omega) (by simp [putK, outK, insK])
 have hb5 := hb4.trans (ht5.below (fun k e => by omega) hb4.size)
 obtain ⟨w6, hr6, hm6, ht6⟩ := ZB Tryz.underlying60 (.func (.func 44) #[] #[]) hm5 (k := 5) (by omega) (by omega) (by simp [putK, outK, insK])
 have hb6 := hb5.trans (ht6.below (fun k e => by omega) hb5.size)
 obtain ⟨w7, hr7, hm7, ht7⟩ := ZB Tryz.underlying60 (.func (.func 45) #[] #[]) hm6 (k := 6) (by omega) (by omega) (by simp [putK, outK, insK])
 have hb7 := hb6.trans (ht7.below (fun k e => by omega) hb6.size)
 obtain ⟨w8, hr8, hm8, ht8⟩ := ZB Tryz.underlying60 (.func (.func 46) #[] #[]) hm7 (k := 7) (by omega) (by omega) (by simp [putK, outK, insK])
 have hb8 := hb7.trans (ht8.below (fun k e => by omega) hb7.size)
 obtain ⟨w9, hr9, hm9, ht9⟩ := ZB Tryz.underlying60 (.func (.func 47) #[] #[]) hm8 (k := 8) (by omega) (by omega) (by simp [putK, outK, insK])
 have hb9 := hb8.trans (ht9.below (fun k e => by omega) hb8.size)
 have Hm := ihq hm9; have Hb := ihq hb9
 clear hm1 hm2 hm3 hm4 hm5 hm6 hm7 hm8 hm9 hb1 hb2 hb3 hb4 hb5 hb6 hb7 hb8 hb9 ht2 ht3 ht4 ht5 ht6 ht7 ht8 ht9
 go_enter Tryz.func15, Tryz.ntmps15
 go_wp2
 go_ret
 refine ⟨_, _, rfl, Hm.out, fun k => ?_, fun k h1 h5 => ?_, Hb.out⟩
 ·simp only [mem_putK, List.not_mem_nil, or_false]
  omega
 ·unfold updV XE
  rcases (show k = 1 \/ k = 2 \/ k = 3 \/ k = 4 \/ k = 5 \/ k = 6 \/ k = 7 \/ k = 8 by omega) with rfl | rfl | rfl | rfl | rfl | rfl | rfl | rfl <;> rfl
end Go.Proofs.YteebkolccbcehaaGreat
end

section
set_option linter.all false
namespace Go.Proofs.YteebkolccbcehaaGreat
open Go.ChangeShapes Go.WideShapes Go.ChangeAt Go.RowKit
structure ReadyS (s : St) (c : Cmd) : Prop where
 fit : yF s
 ord : OrdS s
 ne : ∀ i, i < 64 -> (s.vs i).bl ≠ 0 -> (s.vs i).ks ≠ []
 fit2 : yF (doS s c).1
 cmd : yj c
theorem VDo (g : Nat) (s : St) (c : Cmd) (w : World) (h : StAt w g s) (hr : ReadyS s c) (hk : 1 <= c.k /\ c.k <= 8) :
  Calls Tryz.prog (XE c.k) #[.pointer (some ⟨g, 0, none⟩), cmdA c] w (yC g (doS s c) w) := by
 have e6 : 6 <= c.k -> doS s c = xK s c := fun h => by unfold doS; rw [if_neg (by omega), if_neg (by omega), if_neg (by omega), if_neg (by omega), if_neg (by omega)]
 unfold XE
 by_cases h1 : c.k = 1
 ·rw [if_pos h1]; exact VServer g s c w h hr.cmd h1
 rw [if_neg h1]
 by_cases h2 : c.k = 2
 ·rw [if_pos h2]; exact VCreate g s c w h hr.fit hr.cmd h2
 rw [if_neg h2]
 by_cases h3 : c.k = 3
 ·rw [if_pos h3]; exact VRemove g s c w h h3
 rw [if_neg h3]
 by_cases h4 : c.k = 4
 ·rw [if_pos h4]; exact VResize g s c w h hr.fit hr.ne h4
 rw [if_neg h4]
 by_cases h5 : c.k = 5
 ·rw [if_pos h5]; exact VChange g s c w h hr.fit hr.cmd h5
 rw [if_neg h5]
 rw [e6 (by omega)]
 by_cases h6 : c.k = 6
 ·rw [if_pos h6]; exact VDrop g s c w h hr.fit hr.ord h6
 rw [if_neg h6]
 by_cases h7 : c.k = 7
 ·rw [if_pos h7]; exact VJoin g s c w h hr.fit hr.ord h7
 rw [if_neg h7]
 exact VPromote g s c w h hr.fit hr.ord (by omega)
theorem Zg {P : Program} {f : FuncId} {fn : Func} (hf : P.funcs[f]? = some fn) (hname : (fn.name == "runtime.NumGoroutine") = false) (hb : fn.body.isSome = true) (args : Array Value) (w : World) :
  (callFunc f args).run P w = .ok (.enter f args) w := by
 have h1 : fn.name ≠ "runtime.NumGoroutine" := by simpa using hname
 obtain ⟨c, hc⟩ := Option.isSome_iff_exists.1 hb
 simp [callFunc, hf, h1, hc]
theorem cmd_enter {k : Int} (hk : 1 <= k /\ k <= 8) (args : Array Value) (w : World) : (callFunc (XE k) args).run Tryz.prog w = .ok (.enter (XE k) args) w := by
 rcases (show k = 1 \/ k = 2 \/ k = 3 \/ k = 4 \/ k = 5 \/ k = 6 \/ k = 7 \/ k = 8 by omega) with rfl | rfl | rfl | rfl | rfl | rfl | rfl | rfl
 ·exact Zg Tryz.func40 (by kernel_rfl) (by kernel_rfl) args w
 ·exact Zg Tryz.func41 (by kernel_rfl) (by kernel_rfl) args w
 ·exact Zg Tryz.func42 (by kernel_rfl) (by kernel_rfl) args w
 ·exact Zg Tryz.func43 (by kernel_rfl) (by kernel_rfl) args w
 ·exact Zg Tryz.func44 (by kernel_rfl) (by kernel_rfl) args w
 ·exact Zg Tryz.func45 (by kernel_rfl) (by kernel_rfl) args w
 ·exact Zg Tryz.func46 (by kernel_rfl) (by kernel_rfl) args w
 ·exact Zg Tryz.func47 (by kernel_rfl) (by kernel_rfl) args w
def ldSt (p : Value) : Sem Value := Instr.loadAt 57 p
theorem ldSt_eq (p : Value) : Instr.loadAt 57 p = ldSt p := rfl
def stSt (p v : Value) : Sem Unit := Instr.storeAt 57 p v
theorem stSt_eq (p v : Value) : Instr.storeAt 57 p v = stSt p v := rfl
def Ye (p : Value) : Sem Value := Instr.loadAt 39 p
theorem yK (p : Value) : Instr.loadAt 39 p = Ye p := rfl
def zVol : List Value := [.int .i64 0, .int .i64 0, .int .i64 0, .int .i64 0, .int .i64 0, .int .i64 0, .slice none 0 0]
def zStL : List Value := List.replicate 16 (.int .i64 0) ++ (List.replicate 64 zVol).flatten ++ [.int .i64 0]
def zStV : Value := .agg zStL.toArray
theorem zSt_info : (Tryz.prog.info? 57).map (fun i => (i.zero, i.size)) = some (some zStV, 465) := by kernel_rfl
theorem zSt_run : ∀ w, (zeroValue 57).run Tryz.prog w = .ok (.agg zStL.toArray) w := (zero_of_info zSt_info).1
theorem YM : zStL.toArray.size = 465 := by kernel_rfl
theorem st_size : (Tryz.prog.info? 57).map (·.size) = some 465 := (zero_of_info zSt_info).2
theorem Xv {w : World} {g : Nat} {cs : Array Value} {T : TypeId} (h : w.heap[g]? = some (.cells cs T (0, 0))) : w.rangeAt g 0 cs.toList := fun j v hv => by
 rw [Nat.zero_add, zc h]
 simpa using hv
theorem ldSt_run {w : World} {g : Nat} {cs : Array Value} {T : TypeId} (h : w.heap[g]? = some (.cells cs T (0, 0))) (hs : cs.size = 465) : (ldSt (.pointer (some ⟨g, 0, none⟩))).run Tryz.prog w = .ok (.agg cs) w :=
 run_loadAt_mid w g 0 57 cs.toList _ (Xv h) Tryz.underlying57 rfl (by rw [st_size, Array.length_toList, hs])
theorem cmd_info : (Tryz.prog.info? 39).map (·.size) = some 8 := by kernel_rfl
theorem Xk {w : World} {g : Nat} {c : Cmd} {T : TypeId} (h : w.heap[g]? = some (.cells #[.int .i64 c.k, .int .i64 c.a, .int .i64 c.b, .int .i64 c.c, .int .i64 c.p.re, .int .i64 c.p.we, .int .i64 c.p.li, .int .i64 c.p.bu] T (0, 0))) :
  (Ye (.pointer (some ⟨g, 0, none⟩))).run Tryz.prog w = .ok (cmdA c) w :=
 run_loadAt_mid w g 0 39 _ _ (Xv h) Tryz.underlying39 rfl cmd_info
theorem StC.one {w : World} {g : Nat} {cs : Array Value} {s : St} {K : Nat -> Sl} {X : Nat -> List Ck} (h : StC w g cs s K X) : cs.all (·.oneCell') = true := by
 rw [Array.all_eq_true_iff_forall_mem]
 intro v hv
 obtain ⟨j, hj, e⟩ := Array.mem_iff_getElem.1 hv
 have hj5 : j < 465 := by rw [<- h.size]; exact hj
 have e1 : cs[j]? = some v := by rw [Array.getElem?_eq_getElem hj, e]
 rcases Nat.lt_or_ge j 16 with h1 | h1
 ·rw [h.pk j h1] at e1; injection e1 with e1; rw [<- e1]; rfl
 rcases Nat.lt_or_ge j 464 with h2 | h2
 ·obtain ⟨i, r, hr, rfl⟩ : ∃ i r, r < 7 /\ j = 16 + i * 7 + r := ⟨(j - 16) / 7, (j - 16) % 7, Nat.mod_lt _ (by omega), by omega⟩
  have hi : i < 64 := by omega
  rcases (show r = 0 \/ r = 1 \/ r = 2 \/ r = 3 \/ r = 4 \/ r = 5 \/ r = 6 by omega) with rfl | rfl | rfl | rfl | rfl | rfl | rfl
  ·rw [Nat.add_zero, h.c0 i hi] at e1; injection e1 with e1; rw [<- e1]; rfl
  ·rw [h.c1 i hi] at e1; injection e1 with e1; rw [<- e1]; rfl
  ·rw [h.c2 i hi] at e1; injection e1 with e1; rw [<- e1]; rfl
  ·rw [h.c3 i hi] at e1; injection e1 with e1; rw [<- e1]; rfl
  ·rw [h.c4 i hi] at e1; injection e1 with e1; rw [<- e1]; rfl
  ·rw [h.c5 i hi] at e1; injection e1 with e1; rw [<- e1]; rfl
  ·rw [h.c6 i hi] at e1; injection e1 with e1; rw [<- e1]; rfl
 ·obtain rfl : j = 464 := by omega
  rw [h.md] at e1; injection e1 with e1; rw [<- e1]; rfl
theorem StC.at {w w' : World} {g g' : Nat} {cs : Array Value} {s : St} {K : Nat -> Sl} {X : Nat -> List Ck} (h : StC w g cs s K X) (hr : w'.heap[g']? = some (.cells cs 57 (0, 0))) (hk : ∀ q, q < 64 -> KsT w' (K q) (X q)) : StC w' g' cs s K X :=
 ⟨hr, h.size, h.pk, h.c0, h.c1, h.c2, h.c3, h.c4, h.c5, h.c6, h.md, hk, h.dat⟩
theorem stSt_run {w : World} {g : Nat} {cs cz : Array Value} {T : TypeId} (h : w.heap[g]? = some (.cells cz T (0, 0))) (hz : cz.size = 465) (hs : cs.size = 465) (h1 : cs.all (·.oneCell') = true) :
  ∃ w', (stSt (.pointer (some ⟨g, 0, none⟩)) (.agg cs)).run Tryz.prog w = .ok () w' /\ w'.heap[g]? = some (.cells cs T (0, 0)) /\ Turned (fun k => k = g) w w' :=
 ZH (T := 57) h (by rw [hz, hs]) (by rw [st_size, hs]) h1
def Xs (g : Nat) (o : St × Int) (w : World) (e : Ending) (w' : World) : Prop :=
 e = .returned (.int .i64 o.2) /\ StAt w' g o.1 /\ Turned (fun k => k = g) w w'
theorem Xs.err {g : Nat} {s : St} {x : Int} {w w' : World} (h : Below w.heap.size w w') (hs : StAt w g s) : Xs g (s, x) w (.returned (.int .i64 x)) w' := ⟨rfl, hs.below h, .of_below h⟩
attribute [local go_sem ↓] ldSt_eq
attribute [local go_sem ↓] stSt_eq
attribute [local go_sem ↓] yK
set_option maxRecDepth 100000 in
set_option maxHeartbeats 4000000 in
theorem Qo (g : Nat) (s : St) (c : Cmd) (w : World) (h : StAt w g s) (hr : ReadyS s c) :
  Calls Tryz.prog 8 #[.pointer (some ⟨g, 0, none⟩), cmdA c] w (Xs g (yR s c) w) := by
 obtain ⟨O, hO⟩ : ∃ O, yR s c = O := ⟨_, rfl⟩
 rw [hO]
 unfold cmdA
 obtain ⟨w1, hw1, hb1, hr1⟩ := zN w c
 have c0 : w1.drew.cell? ⟨w.heap.size, 0, none⟩ = some (.int .i64 c.k) := zc (w := w1.drew) hr1 0
 have hgl := h.lt
 have H0 := ihq h; have Hr := ihq hr; have Hb1 := ihq hb1; have Hr1 := ihq hr1; have HO := ihq hO
 have KC := ihq (VCommands w1.drew)
 clear h hr hb1 hr1 hO
 go_enter Tryz.func8, Tryz.ntmps8
 go_upto_region 1 with fail
 refine zU (S := (fun W => W.cell? ⟨w.heap.size, 0, none⟩ = some (.int .i64 c.k))) 8 (by kernel_rfl) ?_
 have hHeld := c0
 refine zr (n := 9) (i := 1) (v := ?vr1) rfl (by kernel_rfl) (by kernel_rfl) (by kernel_rfl) (by kernel_rfl) (by kernel_rfl) (by rfl) (by rfl) (fun _ _ _ h => h) (Or.inl ⟨by rfl, ?hyr1⟩) hHeld ?restr1
 case hyr1 => (intro w' hS; have s1 := hS; (try simp only [iq4, iq5, iq6]); go_simp; try with_reducible rfl)
 try simp only [Act.put, iq1, iq2, iq3, iq4, iq5, iq6]
 refine zr (n := 9) (i := 2) (v := ?vr2) rfl (by kernel_rfl) (by kernel_rfl) (by kernel_rfl) (by kernel_rfl) (by kernel_rfl) (by rfl) (by rfl) (fun _ _ _ h => h) (Or.inl ⟨by rfl, ?hyr2⟩) hHeld ?restr2
 case hyr2 => (intro w' hS; have s1 := hS; (try simp only [iq4, iq5, iq6]); go_simp; try with_reducible rfl)
 try simp only [Act.put, iq1, iq2, iq3, iq4, iq5, iq6]
 refine zn (i := 0) (by kernel_rfl) rfl (fun K hK => ?_)
 (try simp only [iq4, iq5, iq6])
 go_simp
 refine KC.out.mono ?_
 rintro e w2 ⟨ks, F, rfl, hm, hks, hF, hb⟩
 have c02 : w2.cell? ⟨w.heap.size, 0, none⟩ = some (.int .i64 c.k) := zc (za (w := w1.drew) Hr1.out hb) 0
 obtain ⟨v, kn, hlk, hkn, hv⟩ : ∃ v kn, (Instr.lookup 60 (.map (some w1.heap.size)) (.int .i64 c.k) true).run Tryz.prog w2 = .ok (.tuple #[v, .bool kn]) w2 /\ kn = decide (1 <= c.k /\ c.k <= 8) /\ (kn = true -> v = .func (.func (XE c.k)) #[] #[]) := by
  refine ⟨_, _, has_run (e := 58) (z := .nilFunc) Tryz.underlying60 (by kernel_rfl) hm Hr.out.cmd.hk.1 Hr.out.cmd.hk.2, ?_, fun h => ?_⟩
  ·by_cases hk : 1 <= c.k /\ c.k <= 8
   ·rw [decide_eq_true hk, decide_eq_true ((hks _).2 hk)]
   ·rw [decide_eq_false hk, decide_eq_false (fun e => hk ((hks _).1 e))]
  ·have hk := of_decide_eq_true h
   rw [if_pos hk]
   exact hF _ ((hks _).1 hk).1 ((hks _).1 hk).2
 have Hb2 := ihq (Hb1.out.trans (((Below.refl w1.heap.size w1).drew.trans hb).mono Hb1.out.size))
 have Hr2 := ihq (za (w := w1.drew) Hr1.out hb)
 have Hkn := ihq hkn
 have Hv := ihq hv
 clear hb hm hks hF hkn hv
 refine hK.out _ _ (fun _ => c02) ?_
 clear hHeld
 have hHeld := c02
 clear hK K
 try simp only [Act.put, iq1, iq2, iq3, iq4, iq5, iq6]
 refine zn (i := 3) (by kernel_rfl) rfl (fun K hK => ?_)
 (try simp only [iq4, iq5, iq6])
 go_simp
 refine hK.out _ _ (fun _ => c02) ?_
 clear hHeld
 have hHeld := c02
 clear hK K
 try simp only [Act.put, iq1, iq2, iq3, iq4, iq5, iq6]
 refine zn (i := 4) (by kernel_rfl) rfl (fun K hK => ?_)
 (try simp only [iq4, iq5, iq6])
 go_simp
 refine hK.out _ _ (fun _ => c02) ?_
 clear hHeld
 have hHeld := c02
 clear hK K
 try simp only [Act.put, iq1, iq2, iq3, iq4, iq5, iq6]
 refine zr (n := 9) (i := 5) (v := ?vr3) rfl (by kernel_rfl) (by kernel_rfl) (by kernel_rfl) (by kernel_rfl) (by kernel_rfl) (by rfl) (by rfl) (fun _ _ _ h => h) (Or.inl ⟨by rfl, ?hyr3⟩) hHeld ?restr3
 case hyr3 => (intro w' hS; have s1 := hS; (try simp only [iq4, iq5, iq6]); go_simp; try with_reducible rfl)
 try simp only [Act.put, iq1, iq2, iq3, iq4, iq5, iq6]
 refine zr (n := 9) (i := 6) (v := ?vr4) rfl (by kernel_rfl) (by kernel_rfl) (by kernel_rfl) (by kernel_rfl) (by kernel_rfl) (by rfl) (by rfl) (fun _ _ _ h => h) (Or.inl ⟨by rfl, ?hyr4⟩) hHeld ?restr4
 case hyr4 => (intro w' hS; have s1 := hS; (try simp only [iq4, iq5, iq6]); go_simp; try with_reducible rfl)
 try simp only [Act.put, iq1, iq2, iq3, iq4, iq5, iq6]
 refine zn (i := 7) (by kernel_rfl) rfl (fun K hK => ?_)
 (try simp only [iq4, iq5, iq6])
 go_simp
 refine hK.out _ _ (fun _ => c02) ?_
 clear hHeld
 have hHeld := c02
 clear hK K
 try simp only [Act.put, iq1, iq2, iq3, iq4, iq5, iq6]
 refine zn (i := 8) (by kernel_rfl) rfl (fun K hK => ?_)
 (try simp only [iq4, iq5, iq6])
 go_simp
 refine hK.out _ _ (fun h => (by cases h)) ?_
 clear hK K
 try simp only [Act.put, iq1, iq2, iq3, iq4, iq5, iq6]
 refine zu (by kernel_rfl) ?_ _
 clear hHeld c0 c02 hlk hw1
 cases kn with
 | false =>
  have hO := HO.out
  have hk := of_decide_eq_false Hkn.out.symm
  unfold yR at hO
  rw [if_neg hk] at hO
  subst hO
  go_wp2
  go_ret
  exact Xs.err Hb2.out H0.out
 | true =>
  have hk := of_decide_eq_true Hkn.out.symm
  have hv := Hv.out rfl
  subst hv
  obtain ⟨cs, K, X, h⟩ := H0.out
  have h2 := h.below Hb2.out
  have hld := ldSt_run h2.row h2.size
  have hz := zSt_run
  have hZs := YM
  obtain ⟨Z, hZ⟩ : ∃ Z, zStL.toArray = Z := ⟨_, rfl⟩
  rw [hZ] at hz hZs
  clear hZ
  obtain ⟨w3, hw3⟩ : ∃ w3, w2.alloc (.cells Z 57) = w3 := ⟨_, rfl⟩
  have hb3 : Below w2.heap.size w2 w3 := by rw [<- hw3]; exact zg _ _
  have hr3 : w3.heap[w2.heap.size]? = some (.cells Z 57 (0, 0)) := by rw [<- hw3]; exact heap_alloc_new _ _
  obtain ⟨w4, hst4, hr4, ht4⟩ := stSt_run hr3 hZs h2.size h2.one
  have hb4 : Below w2.heap.size w2 w4 := hb3.trans (ht4.below (fun k e => by omega) hb3.size)
  have h4 : StC w4 w2.heap.size cs s K X := h2.at hr4 (fun q hq => (h2.ks q hq).below hb4)
  have hld4 := Xk (za Hr2.out hb4)
  obtain ⟨s', r, hd⟩ : ∃ s' r, doS s c = (s', r) := ⟨_, _, rfl⟩
  have KD0 := VDo w2.heap.size s c w4 ⟨_, _, _, h4⟩ Hr.out hk
  rw [hd] at KD0
  have hfit : yF s' := by have := Hr.out.fit2; rw [hd] at this; exact this
  obtain ⟨f, hf⟩ : ∃ f, XE c.k = f := ⟨_, rfl⟩
  have hce := fun args w => cmd_enter hk args w
  rw [hf] at KD0 hce
  rw [hf]
  unfold cmdA at hld4 KD0
  have KD := ihq KD0
  have hO : yR s c = if r ≠ 0 then (s, r) else if admS s' then (s', 0) else (s, 14) := by unfold yR; rw [if_pos hk, hd]
  rw [HO.out] at hO
  replace HO := ihq hO
  have Hb4 := ihq (Hb2.out.trans (hb4.mono Hb2.out.size)); have Hh := ihq h; have Hfit := ihq hfit
  clear hd hf KD0 h4 hb4 hr4 ht4 hb3 hr3 hZs h2 h hfit hO hk Hkn Hv
  go_wp2_with fail
  refine KD.out.mono ?_
  rintro e w5 ⟨rfl, hs5, ht5⟩
  simp only at hs5 ⊢
  have hb5 : Below w.heap.size w w5 := Hb4.out.trans (ht5.below (fun k e => by have := Hb2.out.size; omega) Hb4.out.size)
  by_cases hr0 : r = 0
  ·have hne : (r != 0) = false := by simp [hr0]
   have hs5' := hs5 hr0
   have hO := HO.out
   rw [if_neg (by simp [hr0])] at hO
   have KA := ihq (Q2 w2.heap.size s' w5 hs5' Hfit.out)
   have Hs5 := ihq hs5'
   obtain ⟨ad, had⟩ : ∃ ad, admS s' = ad := ⟨_, rfl⟩
   rw [had] at KA hO
   have Hb5 := ihq hb5
   replace HO := ihq hO
   clear hs5 hs5' had hb5 ht5 hr0 hO
   cases ad with
   | false =>
    have hO := HO.out
    rw [if_neg (by decide)] at hO
    subst hO
    go_wp2_with (go_at_call 16; refine KA.out.mono ?_; rintro e w6 ⟨rfl, hb6⟩; have Hb6 := ihq (Hb5.out.trans (hb6.mono Hb5.out.size)); clear hb6)
    go_ret
    exact Xs.err Hb6.out H0.out
   | true =>
    have hO := HO.out
    rw [if_pos rfl] at hO
    replace HO := ihq hO
    clear hO
    go_wp2_with fail
    refine KA.out.mono ?_
    rintro e w6 ⟨rfl, hb6⟩
    obtain ⟨cs6, K6, X6, h6⟩ := Hs5.out.below hb6
    have hb06 := Hb5.out.trans (hb6.mono Hb5.out.size)
    have hg6 := za Hh.out.row hb06
    have hld6 := ldSt_run h6.row h6.size
    obtain ⟨w7, hst7, hr7, ht7⟩ := stSt_run hg6 Hh.out.size h6.size h6.one
    have hno : NoCk w6 (fun k => k = g) := Y3 hg6 (by decide) (by decide)
    have h7 : StC w7 g cs6 s' K6 X6 := h6.at hr7 (fun q hq => (h6.ks q hq).turned ht7 hno.1 hno.2)
    have H7 := ihq h7; have Ht7 := ihq ht7; have Hb06 := ihq hb06
    clear h7 ht7 hb06 hb6 h6 hr7 hno hg6
    go_wp2
    go_ret
    rw [HO.out]
    exact ⟨rfl, ⟨_, _, _, H7.out⟩, (Turned.of_below (p := fun k => k = g) Hb06.out).trans Ht7.out (fun _ e => e) (fun _ _ e => e)⟩
  ·have hne : (r != 0) = true := by simpa using hr0
   have hO := HO.out
   rw [if_pos hr0] at hO
   have Hb5 := ihq hb5
   subst hO
   clear hs5 ht5 hb5 hr0
   go_wp2
   go_ret
   exact Xs.err Hb5.out H0.out
end Go.Proofs.YteebkolccbcehaaGreat
end
