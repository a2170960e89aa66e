/-
  Joined: VolSim, VolCat. Conditions: each theorem's own.
-/
import Derived.Test.YteebkolccbcehaaGreatVolDrop

section
set_option linter.all false
namespace Go.Proofs.YteebkolccbcehaaGreat
open Go.ChangeShapes Go.WideShapes Go.ChangeAt Go.RowKit
def putL (cs : Array Value) (o : Nat) : List Value -> Array Value
 | [] => cs
 | v :: r => putL (cs.setIfInBounds o v) (o + 1) r
theorem Yq : ∀ (vs : List Value) (cs : Array Value) (o : Nat), (putL cs o vs).size = cs.size
 | [], _, _ => rfl
 | v :: r, cs, o => by rw [putL, Yq r, Array.size_setIfInBounds]
theorem Zr : ∀ (vs : List Value) (cs : Array Value) (o j : Nat), (j < o \/ o + vs.length <= j) -> (putL cs o vs)[j]? = cs[j]?
 | [], _, _, _, _ => rfl
 | v :: r, cs, o, j, h => by
  rw [putL, Zr r _ _ _ (by simp only [List.length_cons] at h; omega), zJ (by simp only [List.length_cons] at h; omega)]
theorem xf : ∀ (vs : List Value) (cs : Array Value) (o j : Nat) (v : Value), vs[j]? = some v -> o + vs.length <= cs.size -> (putL cs o vs)[o + j]? = some v
 | [], _, _, _, _, h, _ => by simp at h
 | u :: r, cs, o, 0, v, h, hs => by
  simp at h
  subst h
  simp only [List.length_cons] at hs
  rw [putL]
  simp only [Nat.add_zero]
  rw [Zr r _ _ _ (.inl (by omega)), yH (by omega)]
 | u :: r, cs, o, j + 1, v, h, hs => by
  simp only [List.length_cons] at hs
  rw [putL]
  have := xf r (cs.setIfInBounds o u) (o + 1) j v (by simpa using h) (by rw [Array.size_setIfInBounds]; omega)
  rwa [show o + (j + 1) = o + 1 + j by omega]
theorem YU : ∀ (vs : List Value) (w : World) (g o : Nat) (cs : Array Value) (T : TypeId), w.heap[g]? = some (.cells cs T (0, 0)) -> (w.setCells g o vs).heap[g]? = some (.cells (putL cs o vs) T (0, 0))
 | [], _, _, _, _, _, h => h
 | v :: r, w, g, o, cs, T, h => YU r (w.setCell ⟨g, o, none⟩ v) g (o + 1) (cs.setIfInBounds o v) T (zG h o v)
theorem st_mid {w : World} {g o : Nat} {cs new : Array Value} {T T' : TypeId} (h : w.heap[g]? = some (.cells cs T' (0, 0))) (hs : o + new.size <= cs.size) (hi : (Tryz.prog.info? T).map (·.size) = some new.size) (h1 : new.all (·.oneCell') = true) :
  ∃ w', (Instr.storeAt T (.pointer (some ⟨g, o, none⟩)) (.agg new)).run Tryz.prog w = .ok () w' /\ w'.heap[g]? = some (.cells (putL cs o new.toList) T' (0, 0)) /\ Turned (fun k => k = g) w w' := by
 have hth : w.there g o new.size := fun i hi => ⟨by rw [zc h, Array.getElem?_eq_getElem (by omega)]; rfl, zt h _⟩
 exact ⟨_, run_storeAt_mid w g o T new hth hi h1, YU _ _ _ _ _ _ h, xG (p := fun k => k = g) (fun _ => rfl) _ _ _ (Turned.refl _ _)⟩
theorem Z9 : (Tryz.prog.info? 54).map (·.size) = some 7 := by kernel_rfl
def stVol (p v : Value) : Sem Unit := Instr.storeAt 54 p v
theorem YR (p v : Value) : Instr.storeAt 54 p v = stVol p v := rfl
def stPol (p v : Value) : Sem Unit := Instr.storeAt 37 p v
theorem YS (p v : Value) : Instr.storeAt 37 p v = stPol p v := rfl
theorem StC.setVol {w w' : World} {g : Nat} {cs cs' : Array Value} {s : St} {K : Nat -> Sl} {X : Nat -> List Ck} (h : StC w g cs s K X) {i : Nat} (hi : i < 64) {v : Vol} {S : Sl} {Y : List Ck}
  (hr : w'.heap[g]? = some (.cells cs' 57 (0, 0))) (hsz : cs'.size = 465) (hoth : ∀ j, (j < 16 + i * 7 \/ 16 + i * 7 + 7 <= j) -> cs'[j]? = cs[j]?)
  (h0 : cs'[16 + i * 7]? = some (.int .i64 v.bl)) (h1 : cs'[16 + i * 7 + 1]? = some (.int .i64 v.p.re)) (h2 : cs'[16 + i * 7 + 2]? = some (.int .i64 v.p.we)) (h3 : cs'[16 + i * 7 + 3]? = some (.int .i64 v.p.li)) (h4 : cs'[16 + i * 7 + 4]? = some (.int .i64 v.p.bu))
  (h5 : cs'[16 + i * 7 + 5]? = some (.int .i64 v.ver)) (h6 : cs'[16 + i * 7 + 6]? = some (.slice S.A S.n S.c)) (hY : KsT w' S Y) (hd : Y.map Ck.dat = v.ks) (hk : ∀ q, q < 64 -> q ≠ i -> KsT w' (K q) (X q)) :
  StC w' g cs' (setV s i v) (updN K i S) (updN X i Y) := by
 refine ⟨hr, hsz, fun q hq => ?_, fun q hq => ?_, fun q hq => ?_, fun q hq => ?_, fun q hq => ?_, fun q hq => ?_, fun q hq => ?_, fun q hq => ?_, ?_, fun q hq => ?_, fun q hq => ?_⟩
 ·rw [hoth _ (by omega)]; exact h.pk q hq
 ·by_cases hqi : q = i
  ·subst hqi; rw [zE]; exact h0
  ·rw [hoth _ (by omega), zA hqi]; exact h.c0 q hq
 ·by_cases hqi : q = i
  ·subst hqi; rw [zE]; exact h1
  ·rw [hoth _ (by omega), zA hqi]; exact h.c1 q hq
 ·by_cases hqi : q = i
  ·subst hqi; rw [zE]; exact h2
  ·rw [hoth _ (by omega), zA hqi]; exact h.c2 q hq
 ·by_cases hqi : q = i
  ·subst hqi; rw [zE]; exact h3
  ·rw [hoth _ (by omega), zA hqi]; exact h.c3 q hq
 ·by_cases hqi : q = i
  ·subst hqi; rw [zE]; exact h4
  ·rw [hoth _ (by omega), zA hqi]; exact h.c4 q hq
 ·by_cases hqi : q = i
  ·subst hqi; rw [zE]; exact h5
  ·rw [hoth _ (by omega), zA hqi]; exact h.c5 q hq
 ·by_cases hqi : q = i
  ·subst hqi; rw [yN]; exact h6
  ·rw [hoth _ (by omega), yu hqi]; exact h.c6 q hq
 ·rw [hoth _ (by omega)]; exact h.md
 ·by_cases hqi : q = i
  ·subst hqi; rw [yN, yN]; exact hY
  ·rw [yu hqi, yu hqi]; exact hk q hq hqi
 ·by_cases hqi : q = i
  ·subst hqi; rw [yN, zE]; exact hd
  ·rw [yu hqi, zA hqi]; exact h.dat q hq
theorem StC.setPk {w w' : World} {g : Nat} {cs : Array Value} {s : St} {K : Nat -> Sl} {X : Nat -> List Ck} (h : StC w g cs s K X) {n : Nat} (hn : n < 16) {x : Int}
  (hr : w'.heap[g]? = some (.cells (cs.setIfInBounds n (.int .i64 x)) 57 (0, 0))) (hk : ∀ q, q < 64 -> KsT w' (K q) (X q)) :
  StC w' g (cs.setIfInBounds n (.int .i64 x)) { s with pk := fun i => if (i : Int) = (n : Int) then x else s.pk i } K X := by
 refine ⟨hr, by rw [Array.size_setIfInBounds]; exact h.size, fun q hq => ?_, fun q hq => ?_, fun q hq => ?_, fun q hq => ?_, fun q hq => ?_, fun q hq => ?_, fun q hq => ?_, fun q hq => ?_, ?_, hk, h.dat⟩
 ·by_cases hqn : q = n
  ·subst hqn; rw [yH (by rw [h.size]; omega)]; simp
  ·rw [zJ hqn, h.pk q hq]
   have : ¬ ((q : Int) = (n : Int)) := by omega
   simp [this]
 ·rw [zJ (by omega)]; exact h.c0 q hq
 ·rw [zJ (by omega)]; exact h.c1 q hq
 ·rw [zJ (by omega)]; exact h.c2 q hq
 ·rw [zJ (by omega)]; exact h.c3 q hq
 ·rw [zJ (by omega)]; exact h.c4 q hq
 ·rw [zJ (by omega)]; exact h.c5 q hq
 ·rw [zJ (by omega)]; exact h.c6 q hq
 ·rw [zJ (by omega)]; exact h.md
set_option maxRecDepth 100000 in
set_option maxHeartbeats 2000000 in
theorem VServer (g : Nat) (s : St) (c : Cmd) (w : World) (h : StAt w g s) (hc : yj c) (hk : c.k = 1) :
  Calls Tryz.prog 40 #[.pointer (some ⟨g, 0, none⟩), cmdA c] w (yC g (doS s c) w) := by
 unfold cmdA
 obtain ⟨w1, hw1, hb1, hr1⟩ := zN w c
 have c1 : w1.cell? ⟨w.heap.size, 1, none⟩ = some (.int .i64 c.a) := zc hr1 1
 have c2 : w1.cell? ⟨w.heap.size, 2, none⟩ = some (.int .i64 c.b) := zc hr1 2
 have Hb1 := ihq hb1
 have hgl := h.lt
 obtain ⟨cs, K, X, h⟩ := h
 have H := ihq (h.below hb1); have H0 := ihq h
 have KW := ihq (fun w => Zo c.a 0 15 w)
 have KI := ihq (fun w => VisCapacity c.b w hc.hb)
 have e0 : doS s c = if decide (0 <= c.a /\ c.a <= 15) && decide (1 <= c.b /\ c.b <= 64) then ({ s with pk := fun i => if (i : Int) = c.a then c.b else s.pk i }, 0) else (s, 1) := by unfold doS; rw [if_pos hk]
 rw [e0]
 clear hb1 h hc e0 hk
 by_cases ha : 0 <= c.a /\ c.a <= 15
 ·rw [decide_eq_true ha] at KW ⊢
  by_cases hb : 1 <= c.b /\ c.b <= 64
  ·rw [decide_eq_true hb] at KI ⊢
   rw [if_pos (by decide)]
   obtain ⟨n, hn⟩ := Int.eq_ofNat_of_zero_le ha.1
   have hn16 : n < 16 := by omega
   have e1 : (fun i : Nat => if (i : Int) = c.a then c.b else s.pk i) = fun i : Nat => if (i : Int) = (n : Int) then c.b else s.pk i := by rw [hn]
   rw [e1]
   have i0 : (0 : Int) <= (n : Int) := by omega
   have i1 : (n : Int) < 16 := by omega
   have hn' : c.a = (n : Int) := hn
   rw [hn'] at c1
   have Hr1 := ihq hr1; have Hn := ihq hn'
   clear hr1 ha hb e1 hn hn'
   go_enter Tryz.func40, Tryz.ntmps40
   go_upto_region 3 with (first
    | (go_at_call 75; refine (KI.out _).mono ?_; rintro e w2 ⟨rfl, hb2⟩; have Hb2 := ihq hb2; clear hb2)
    | (go_at_call 74; refine (show Calls _ _ #[.int .i64 (n : Int), .int .i64 0, .int .i64 15] _ _ from (by have := KW.out w1; rwa [Hn.out] at this)).mono ?_; rintro e w' ⟨rfl, rfl⟩))
   have h2 := H.out.below Hb2.out
   have hr2 := za Hr1.out Hb2.out
   have d1 : w2.drew.cell? ⟨w.heap.size, 1, none⟩ = some (.int .i64 (n : Int)) := by rw [<- Hn.out]; exact zc (w := w2.drew) hr2 1
   have d2 : w2.drew.cell? ⟨w.heap.size, 2, none⟩ = some (.int .i64 c.b) := zc (w := w2.drew) hr2 2
   have z : w2.drew.frozen? ⟨g, n, none⟩ = false := zt (w := w2.drew) h2.row n
   have d3 : w2.drew.cell? ⟨g, n, none⟩ = some (.int .i64 (s.pk n)) := (zc (w := w2.drew) h2.row n).trans (h2.pk n hn16)
   have H2 := ihq h2
   clear h2 hr2 c1 c2
   go_region
   all_goals
    go_wp2
    go_ret
    have t3 : Turned (fun k => k = g) w2 (w2.drew.setCell ⟨g, n, none⟩ (.int .i64 c.b)) := ((Turned.of_below (p := fun k => k = g) (Below.refl _ _).drew).setCell (b := ⟨g, n, none⟩) (fun _ => rfl) _)
    refine ⟨rfl, fun _ => ⟨_, K, X, H2.out.setPk hn16 (zG (w := w2.drew) H2.out.row n _) (fun q hq => (H2.out.ks q hq).turned t3 H2.out.noCk.1 H2.out.noCk.2)⟩, (Turned.of_below (p := fun k => k = g) (Hb1.out.trans (Hb2.out.mono Hb1.out.size))).trans t3 (fun _ e => e) (fun _ _ e => e)⟩
  ·rw [decide_eq_false hb] at KI ⊢
   rw [if_neg (by decide)]
   go_enter Tryz.func40, Tryz.ntmps40
   go_wp2_with (first
    | (go_at_call 75; refine (KI.out _).mono ?_; rintro e w2 ⟨rfl, hb2⟩; have Hb2 := ihq (Hb1.out.trans (hb2.mono Hb1.out.size)); clear hb2)
    | (go_at_call 74; refine (KW.out _).mono ?_; rintro e w' ⟨rfl, rfl⟩))
   go_ret
   exact yC.err Hb2.out (by decide)
 ·rw [decide_eq_false ha] at KW ⊢
  rw [if_neg (by simp)]
  clear ha
  go_enter Tryz.func40, Tryz.ntmps40
  go_wp2_with (go_at_call 74; refine (KW.out _).mono ?_; rintro e w' ⟨rfl, rfl⟩)
  go_ret
  exact yC.err Hb1.out (by decide)
theorem Zb {s : St} {a : Int} (h : yB s a = true) : ∃ n : Nat, a = (n : Int) /\ n < 64 /\ (s.vs n).bl ≠ 0 := by
 simp only [yB, Bool.and_eq_true, decide_eq_true_eq] at h
 obtain ⟨n, rfl⟩ := Int.eq_ofNat_of_zero_le h.1.1
 exact ⟨n, rfl, by omega, by simpa using h.2⟩
def bdVol (parts : Array (Nat × Value)) : Sem Value := Instr.build 54 parts
theorem Qg (parts : Array (Nat × Value)) : Instr.build 54 parts = bdVol parts := rfl
theorem bdVol_run0 (w : World) : (bdVol #[]).run Tryz.prog w = .ok (.agg #[.int .i64 0, .int .i64 0, .int .i64 0, .int .i64 0, .int .i64 0, .int .i64 0, .slice none 0 0]) w := by kernel_rfl
theorem QX (w : World) (b re we li bu ver : Int) : (bdVol #[(0, .int .i64 b), (1, .agg #[.int .i64 re, .int .i64 we, .int .i64 li, .int .i64 bu]), (2, .int .i64 ver)]).run Tryz.prog w = .ok (.agg #[.int .i64 b, .int .i64 re, .int .i64 we, .int .i64 li, .int .i64 bu, .int .i64 ver, .slice none 0 0]) w := by kernel_rfl
theorem vol_put {w : World} {g : Nat} {cs : Array Value} {s : St} {K : Nat -> Sl} {X : Nat -> List Ck} (h : StC w g cs s K X) {i : Nat} (hi : i < 64) (b ver : Int) (p : Pol) :
  ∃ w', (stVol (.pointer (some ⟨g, 16 + i * 7, none⟩)) (.agg #[.int .i64 b, .int .i64 p.re, .int .i64 p.we, .int .i64 p.li, .int .i64 p.bu, .int .i64 ver, .slice none 0 0])).run Tryz.prog w = .ok () w' /\
   (∃ cs', StC w' g cs' (setV s i ⟨b, p, ver, []⟩) (updN K i Sl.nil) (updN X i [])) /\ Turned (fun k => k = g) w w' := by
 obtain ⟨w', h1, h2, h3⟩ := st_mid (o := 16 + i * 7) (T := 54) (new := #[.int .i64 b, .int .i64 p.re, .int .i64 p.we, .int .i64 p.li, .int .i64 p.bu, .int .i64 ver, .slice none 0 0]) h.row (by rw [h.size]; simp; omega) Z9 (by simp [Value.oneCell'])
 refine ⟨w', h1, ⟨_, h.setVol (S := Sl.nil) (Y := []) hi h2 (by rw [Yq]; exact h.size) (fun j hj => Zr _ _ _ _ (by simpa using hj)) ?_ ?_ ?_ ?_ ?_ ?_ ?_ (KsT.nil _) rfl (fun q hq _ => (h.ks q hq).turned h3 h.noCk.1 h.noCk.2)⟩, h3⟩
 ·exact xf _ cs (16 + i * 7) 0 _ rfl (by rw [h.size]; simp; omega)
 ·exact xf _ cs (16 + i * 7) 1 _ rfl (by rw [h.size]; simp; omega)
 ·exact xf _ cs (16 + i * 7) 2 _ rfl (by rw [h.size]; simp; omega)
 ·exact xf _ cs (16 + i * 7) 3 _ rfl (by rw [h.size]; simp; omega)
 ·exact xf _ cs (16 + i * 7) 4 _ rfl (by rw [h.size]; simp; omega)
 ·exact xf _ cs (16 + i * 7) 5 _ rfl (by rw [h.size]; simp; omega)
 ·exact xf _ cs (16 + i * 7) 6 _ rfl (by rw [h.size]; simp; omega)
attribute [local go_sem ↓] YR
attribute [local go_sem ↓] Qg
set_option maxRecDepth 100000 in
set_option maxHeartbeats 2000000 in
theorem VRemove (g : Nat) (s : St) (c : Cmd) (w : World) (h : StAt w g s) (hk : c.k = 3) :
  Calls Tryz.prog 42 #[.pointer (some ⟨g, 0, none⟩), cmdA c] w (yC g (doS s c) w) := by
 unfold cmdA
 obtain ⟨w1, hw1, hb1, hr1⟩ := zN w c
 have c1 : w1.cell? ⟨w.heap.size, 1, none⟩ = some (.int .i64 c.a) := zc hr1 1
 have Hb1 := ihq hb1
 have hbd := bdVol_run0
 have e0 : doS s c = if yB s c.a then (setV s c.a.toNat vol0, 0) else (s, 7) := by unfold doS; rw [if_neg (by omega), if_neg (by omega), if_pos hk]
 rw [e0]
 by_cases hv : yB s c.a = true
 ·rw [if_pos hv]
  obtain ⟨n, hn, hn64, _⟩ := Zb hv
  have et : c.a.toNat = n := by omega
  rw [et]
  rw [hn] at hv c1
  have KV := ihq (Zj g s n w1 (h.below hb1) hv)
  obtain ⟨cs, K, X, h1⟩ := h.below hb1
  obtain ⟨w2, hst, ⟨cs', hs2⟩, ht2⟩ := vol_put h1 hn64 0 0 pol0
  have Hs2 := ihq hs2; have Ht2 := ihq ht2
  simp only [pol0] at hst
  clear h hb1 hr1 hv hn h1 hs2 ht2 hk e0 et
  go_enter Tryz.func42, Tryz.ntmps42
  go_wp2_with (go_at_call 38; refine KV.out.mono ?_; rintro e w3 ⟨rfl, rfl⟩)
  go_ret
  exact ⟨rfl, fun _ => ⟨_, _, _, Hs2.out⟩, (Turned.of_below (p := fun k => k = g) Hb1.out).trans Ht2.out (fun _ e => e) (fun _ _ e => e)⟩
 ·rw [if_neg hv]
  have KV := ihq (ZZ g s c.a w1 (h.below hb1) (by simpa using hv))
  clear h hb1 hr1 hv hk e0
  go_enter Tryz.func42, Tryz.ntmps42
  go_wp2_with (go_at_call 38; refine KV.out.mono ?_; rintro e w3 ⟨rfl, rfl⟩)
  go_ret
  exact yC.err Hb1.out (by decide)
attribute [local go_sem ↓] YS
attribute [local go_sem ↓] yA
set_option maxRecDepth 100000 in
set_option maxHeartbeats 2000000 in
theorem VChange (g : Nat) (s : St) (c : Cmd) (w : World) (h : StAt w g s) (hf : yF s) (hc : yj c) (hk : c.k = 5) :
  Calls Tryz.prog 44 #[.pointer (some ⟨g, 0, none⟩), cmdA c] w (yC g (doS s c) w) := by
 unfold cmdA
 obtain ⟨w1, hw1, hb1, hr1⟩ := zN w c
 have c1 : w1.cell? ⟨w.heap.size, 1, none⟩ = some (.int .i64 c.a) := zc hr1 1
 have hat : Z8 w1 w.heap.size 4 c.p := ⟨zc hr1 4, zc hr1 5, zc hr1 6, zc hr1 7, hc.hp⟩
 have hld := zZ hat
 have Hb1 := ihq hb1; have Hr1 := ihq hr1; have Hat := ihq hat
 have KR := ihq (Yw c.p w1)
 have e0 : doS s c = if yc c.p = false then (s, 1) else if yB s c.a = false then (s, 7) else (setV s c.a.toNat { s.vs c.a.toNat with p := c.p, ver := (s.vs c.a.toNat).ver + 1 }, 0) := by unfold doS; rw [if_neg (by omega), if_neg (by omega), if_neg (by omega), if_neg (by omega), if_pos hk]
 rw [e0]
 have H := ihq (h.below hb1)
 clear h hb1 hr1 hc e0 hk hat
 by_cases hr : yc c.p = false
 ·rw [if_pos hr]
  rw [hr] at KR
  clear hr
  go_enter Tryz.func44, Tryz.ntmps44
  go_wp2_with (go_at_call 77; refine KR.out.mono ?_; rintro e w2 ⟨rfl, hb2⟩; have Hb2 := ihq (Hb1.out.trans (hb2.mono Hb1.out.size)); clear hb2)
  go_ret
  exact yC.err Hb2.out (by decide)
 ·rw [if_neg hr]
  have hr : yc c.p = true := by simpa using hr
  rw [hr] at KR
  clear hr
  by_cases hv : yB s c.a = false
  ·rw [if_pos hv]
   have KV := ihq (fun W (hb : Below w1.heap.size w1 W) => ZZ g s c.a W (H.out.below hb) hv)
   clear hv
   go_enter Tryz.func44, Tryz.ntmps44
   go_wp2_with fail
   refine KR.out.mono ?_
   rintro e w2 ⟨rfl, hb2⟩
   have d1 : w2.cell? ⟨w.heap.size, 1, none⟩ = some (.int .i64 c.a) := zc (za Hr1.out hb2) 1
   have KV2 := ihq (KV.out w2 hb2)
   have Hb2 := ihq (Hb1.out.trans (hb2.mono Hb1.out.size))
   clear hb2
   go_wp2_with (go_at_call 38; refine KV2.out.mono ?_; rintro e w3 ⟨rfl, rfl⟩)
   go_ret
   exact yC.err Hb2.out (by decide)
  ·rw [if_neg hv]
   have hv : yB s c.a = true := by simpa using hv
   obtain ⟨n, hn, hn64, _⟩ := Zb hv
   have et : c.a.toNat = n := by omega
   rw [et]
   rw [hn] at hv
   have KV := ihq (fun W (hb : Below w1.heap.size w1 W) => Zj g s n W (H.out.below hb) hv)
   have hver := (hf.vs n hn64).ver
   have Hn := ihq hn
   clear hv hn et hf
   go_enter Tryz.func44, Tryz.ntmps44
   go_wp2_with fail
   refine KR.out.mono ?_
   rintro e w2 ⟨rfl, hb2⟩
   have d1 : w2.cell? ⟨w.heap.size, 1, none⟩ = some (.int .i64 (n : Int)) := by rw [<- Hn.out]; exact zc (za Hr1.out hb2) 1
   have hld2 := zZ (Hat.out.below hb2)
   have KV2 := ihq (KV.out w2 hb2)
   obtain ⟨cs, K, X, h2⟩ := H.out.below hb2
   obtain ⟨w3, hst3, hr3, ht3⟩ := st_mid (o := 16 + n * 7 + 1) (T := 37) (new := #[.int .i64 c.p.re, .int .i64 c.p.we, .int .i64 c.p.li, .int .i64 c.p.bu]) h2.row (by rw [h2.size]; simp; omega) Yd (by simp [Value.oneCell'])
   rw [YS] at hst3
   have hsz : (putL cs (16 + n * 7 + 1) [.int .i64 c.p.re, .int .i64 c.p.we, .int .i64 c.p.li, .int .i64 c.p.bu]).size = 465 := by rw [Yq]; exact h2.size
   obtain ⟨cs3, hcs3⟩ : ∃ cs3, putL cs (16 + n * 7 + 1) [.int .i64 c.p.re, .int .i64 c.p.we, .int .i64 c.p.li, .int .i64 c.p.bu] = cs3 := ⟨_, rfl⟩
   have hoth : ∀ j, (j < 16 + n * 7 + 1 \/ 16 + n * 7 + 5 <= j) -> cs3[j]? = cs[j]? := fun j hj => by rw [<- hcs3]; exact Zr _ _ _ _ (by simpa using hj)
   have hg1 : cs3[16 + n * 7 + 1]? = some (.int .i64 c.p.re) := by rw [<- hcs3]; exact xf _ _ _ 0 _ rfl (by rw [h2.size]; simp; omega)
   have hg2 : cs3[16 + n * 7 + 2]? = some (.int .i64 c.p.we) := by rw [<- hcs3]; exact xf _ _ _ 1 _ rfl (by rw [h2.size]; simp; omega)
   have hg3 : cs3[16 + n * 7 + 3]? = some (.int .i64 c.p.li) := by rw [<- hcs3]; exact xf _ _ _ 2 _ rfl (by rw [h2.size]; simp; omega)
   have hg4 : cs3[16 + n * 7 + 4]? = some (.int .i64 c.p.bu) := by rw [<- hcs3]; exact xf _ _ _ 3 _ rfl (by rw [h2.size]; simp; omega)
   have hr3' : w3.heap[g]? = some (.cells cs3 57 (0, 0)) := by rw [<- hcs3]; exact hr3
   rw [hcs3] at hsz
   have v5 : w3.cell? ⟨g, 16 + n * 7 + 5, none⟩ = some (.int .i64 (s.vs n).ver) := by rw [zc hr3', hoth _ (by omega)]; exact h2.c5 n hn64
   have z5 : w3.frozen? ⟨g, 16 + n * 7 + 5, none⟩ = false := zt hr3' _
   have H2 := ihq h2; have Hr3 := ihq hr3'; have Ht3 := ihq ht3; have Hoth := ihq hoth; have Hg := ihq (And.intro hg1 (And.intro hg2 (And.intro hg3 hg4))); have Hsz := ihq hsz
   have Hb2 := ihq (Hb1.out.trans (hb2.mono Hb1.out.size))
   clear hb2 h2 hr3 hr3' ht3 hoth hg1 hg2 hg3 hg4 hsz hcs3
   go_wp2_with (go_at_call 38; refine KV2.out.mono ?_; rintro e w3 ⟨rfl, rfl⟩)
   go_ret
   have t4 : Turned (fun k => k = g) w2 (w3.setCell ⟨g, 16 + n * 7 + 5, none⟩ (.int .i64 ((s.vs n).ver + 1))) := (Ht3.out.trans (r := fun k => k = g) ((Turned.refl (fun k => k = g) w3).setCell (b := ⟨g, 16 + n * 7 + 5, none⟩) (fun _ => rfl) _) (fun _ e => e) (fun _ _ e => e))
   obtain ⟨g1, g2, g3, g4⟩ := Hg.out
   refine ⟨rfl, fun _ => ⟨_, _, _, H2.out.setVol (v := { s.vs n with p := c.p, ver := (s.vs n).ver + 1 }) (S := K n) (Y := X n) hn64 (zG Hr3.out _ _) (by rw [Array.size_setIfInBounds]; exact Hsz.out) (fun j hj => by rw [zJ (by omega)]; exact Hoth.out j (by omega)) ?_ ?_ ?_ ?_ ?_ ?_ ?_ ((H2.out.ks n hn64).turned t4 H2.out.noCk.1 H2.out.noCk.2) (H2.out.dat n hn64) (fun q hq _ => (H2.out.ks q hq).turned t4 H2.out.noCk.1 H2.out.noCk.2)⟩, (Turned.of_below (p := fun k => k = g) Hb2.out).trans t4 (fun _ e => e) (fun _ _ e => e)⟩
   ·rw [zJ (by omega), Hoth.out _ (by omega)]; exact H2.out.c0 n hn64
   ·rw [zJ (by omega)]; exact g1
   ·rw [zJ (by omega)]; exact g2
   ·rw [zJ (by omega)]; exact g3
   ·rw [zJ (by omega)]; exact g4
   ·rw [yH (by rw [Hsz.out]; omega)]
   ·rw [zJ (by omega), Hoth.out _ (by omega)]; exact H2.out.c6 n hn64
end Go.Proofs.YteebkolccbcehaaGreat
end

section
set_option linter.all false
namespace Go.Proofs.YteebkolccbcehaaGreat
open Go.ChangeShapes Go.WideShapes Go.ChangeAt Go.RowKit Go.Sort
theorem VGrow (n : Nat) (w : World) (hn : n <= 1000) :
  Calls Tryz.prog 117 #[.slice none 0 0, .int .i64 (n : Int)] w fun e w' => ∃ A c, e = .returned (.slice A 0 c) /\ w'.ownsRow w.heap.size 3 1 (.slice A 0 c) 0 [] /\ Below w.heap.size w w' := by
 by_cases h0 : n = 0
 ·subst h0
  refine (Any8.slices_Grow_room Tryz.growA none 0 0 0 w (by omega) (by omega) (by omega) (by omega)).mono ?_
  rintro e w' ⟨rfl, rfl⟩
  exact ⟨none, 0, rfl, World.ownsRow_nil _ _ _ _, Below.refl _ _⟩
 ·obtain ⟨i0, hi, hz, hs, hb⟩ := info_parts zP
  refine (Any8.slices_Grow_grow Tryz.growA i0 _ hi hz (by rw [hs]; omega) none 0 0 n [] w (by omega) (by omega) (by rw [hb]; omega) (by omega) (by simp) (fun _ => rfl) (fun a h => by cases h)).mono ?_
  rintro e w' ⟨rfl, rfl⟩
  refine ⟨_, _, rfl, ⟨by simp, .inr ⟨w.heap.size, _, _, rfl, Nat.le_refl _, heap_alloc_new w.drew _, by omega, ?_, ?_, by simp⟩⟩, (Below.refl _ _).drew.alloc (Nat.le_refl _) _⟩
  ·exact grownCap_le_maxLen _ _ _ _ (by unfold maxLen; omega)
  ·have := grownCap_ge w n 0 (Tryz.growA_ren.t 25)
   simp [size_zeroCells, Value.cells]
   omega
def sumN (n1 n2 i : Nat) : Nat := if i = 0 then 0 else if i = 1 then n1 else n1 + n2
set_option maxRecDepth 100000 in
set_option maxHeartbeats 2000000 in
theorem VConcat (s t : Sl) (us vs : List Int) (g : Nat) (w : World) (hg : w.cell? ⟨g, 0, none⟩ = some (.slice s.A s.n s.c)) (hg1 : w.cell? ⟨g, 1, none⟩ = some (.slice t.A t.n t.c)) (h : zQ w s us) (k : zQ w t vs) (hl : us.length <= 100) (hl2 : vs.length <= 100) :
  Calls Tryz.prog 97 #[.slice (some ⟨g, 0, none⟩) 2 2] w (IntsRet (us ++ vs) w) := by
 obtain ⟨A1, n1, c1⟩ := s
 obtain ⟨A2, n2, c2⟩ := t
 have e1 := h.len; have e2 := k.len
 simp only at e1 e2 hg hg1
 have h1 : n1 <= 100 := by omega
 have h2 : n2 <= 100 := by omega
 have HS := ihq h.see.1; have HT := ihq k.see.1; have G0 := ihq hg; have G1 := ihq hg1; have E1 := ihq e1; have E2 := ihq e2
 have hgl := block_lt_of_cell hg
 clear h k e1 e2 hg hg1 hl hl2
 go_enter Tryz.func97, Tryz.ntmps97
 go_wp2
 go_loopw [3, 11] (fun zv iv wr => ∃ i : Nat, i <= 2 /\ iv = .int .i64 (i : Int) /\ zv = .int .i64 (sumN n1 n2 i : Nat) /\ wr = w) (fun zv iv _ => 2 - (intOf iv).toNat)
 case atStart => exact ⟨0, by omega, rfl, rfl, rfl⟩
 case round =>
  obtain ⟨i, hi, rfl, rfl, rfl⟩ := hrel
  rcases (by omega : i = 0 \/ i = 1 \/ i = 2) with rfl | rfl | rfl
  ·have g0 := G0.out
   have e0 : sumN n1 n2 0 = 0 := rfl
   rw [e0]
   clear e0
   have hz : (0 : Int) <= (n1 : Int) := by omega
   have hz2 : ¬ ((n1 : Int) < 0) := by omega
   go_wp2
   go_roundw
   case rel => exact ⟨1, by omega, by go_num, rfl, trivial⟩
   case measure => simp [intOf]
  ·have g1 := G1.out
   have e0 : sumN n1 n2 1 = n1 := rfl
   rw [e0]
   clear e0
   have hz2 : ¬ ((n1 : Int) + (n2 : Int) < 0) := by omega
   go_wp2
   go_roundw
   case rel => exact ⟨2, by omega, by go_num, by show _ = Value.int .i64 ((n1 + n2 : Nat) : Int); rw [Int.natCast_add], trivial⟩
   case measure => simp [intOf]
  ·have e0 : sumN n1 n2 2 = n1 + n2 := rfl
   rw [e0]
   clear e0
   obtain ⟨n, hn⟩ : ∃ n, n1 + n2 = n := ⟨_, rfl⟩
   have hn2 : n <= 200 := by omega
   rw [hn]
   have KG := ihq (VGrow n wr (by omega))
   have Hn := ihq hn
   clear hn
   go_wp2_with (go_at_call 117; refine KG.out.mono ?_; rintro e w1 ⟨A0, c0, rfl, hown0, hb0⟩; have Hown0 := ihq hown0; have Hb0 := ihq hb0; clear hown0 hb0)
   have hgw : g < wr.heap.size := hgl
   obtain ⟨wo, hwo⟩ : ∃ wo : World, wo = wr := ⟨_, rfl⟩
   rw [<- hwo] at Hown0 Hb0 HS HT G0 G1
   go_loopw [6, 27] (fun sv iv wq => ∃ (i : Nat) (A' : Option Addr) (c' : Nat), i <= 2 /\ iv = .int .i64 (i : Int) /\ sv = .slice A' (sumN n1 n2 i) c' /\ wq.ownsRow wo.heap.size 3 1 (.slice A' (sumN n1 n2 i) c') (sumN n1 n2 i) (zo ((us ++ vs).take (sumN n1 n2 i))) /\ Below wo.heap.size wo wq) (fun sv iv _ => 2 - (intOf iv).toNat)
   case atStart => exact ⟨0, _, _, by omega, rfl, rfl, by simpa [sumN, zo] using Hown0.out, Hb0.out⟩
   case round =>
    obtain ⟨i, A', c', hi, rfl, rfl, ho, hb⟩ := hrel
    rcases (by omega : i = 0 \/ i = 1 \/ i = 2) with rfl | rfl | rfl
    ·have e0 : sumN n1 n2 0 = 0 := rfl
     rw [e0] at ho ⊢
     have et : (us ++ vs).take 0 = ([] : List Int) := by simp
     rw [et] at ho
     have gg : wr.cell? ⟨g, 0, none⟩ = some (.slice A1 n1 c1) := by rw [hb.cell (p := ⟨g, 0, none⟩) (by rw [hwo]; exact hgl)]; exact G0.out
     have hss := HS.out.below hb
     have hne : (zo us).length = n1 := by rw [zz]; exact E1.out
     have Ho := ihq ho; have Hb := ihq hb; have Hss := ihq hss; have Hne := ihq hne
     clear ho hb hss hne e0 et
     go_wp2_with (at_builtin; refine ym rfl (.tmp 31) (.tmp 32) _ rfl 3 _ 8 Tryz.underlying28 zP rfl wo.heap.size A' 0 c' (zo ([] : List Int)) rfl Ho.out A1 n1 c1 (zo us) rfl Hne.out Hss.out (yf _) (by unfold maxLen; omega) (by omega) Hb.out.size ?_; intro A4 c4 w4 hown4 hg4 hbk4; have Hown4 := ihq hown4; have Hg4 := ihq hg4; clear hown4 hg4 hbk4)
     go_roundw
     case rel =>
      have tg : Turned (fun k => (Value.slice A' 0 c').ownBlock = some k) wr w4 := Turned.of_grown Hg4.out fun k e => e
      have e1 : sumN n1 n2 (0 + 1) = 0 + n1 := by simp [sumN]
      refine ⟨0 + 1, A4, c4, by omega, by go_num, by rw [e1, Nat.zero_add], ?_, Hb.out.trans (tg.below (fun k e => (Ho.out.lt k e).1) Hb.out.size)⟩
      rw [e1]
      have := Hown4.out
      rw [<- zW] at this
      have ee : (us ++ vs).take (0 + n1) = ([] : List Int) ++ us := by rw [Nat.zero_add, <- E1.out, List.take_left]; rfl
      rw [ee]
      exact this
     case measure => simp [intOf]
    ·have e0 : sumN n1 n2 1 = n1 := rfl
     rw [e0] at ho ⊢
     have et : (us ++ vs).take n1 = us := by rw [<- E1.out, List.take_left]
     rw [et] at ho
     have gg : wr.cell? ⟨g, 1, none⟩ = some (.slice A2 n2 c2) := by rw [hb.cell (p := ⟨g, 1, none⟩) (by rw [hwo]; exact hgl)]; exact G1.out
     have hss := HT.out.below hb
     have hne : (zo vs).length = n2 := by rw [zz]; exact E2.out
     have Ho := ihq ho; have Hb := ihq hb; have Hss := ihq hss; have Hne := ihq hne
     clear ho hb hss hne e0 et
     go_wp2_with (at_builtin; refine ym rfl (.tmp 31) (.tmp 32) _ rfl 3 _ 8 Tryz.underlying28 zP rfl wo.heap.size A' n1 c' (zo us) rfl Ho.out A2 n2 c2 (zo vs) rfl Hne.out Hss.out (yf _) (by unfold maxLen; omega) (by omega) Hb.out.size ?_; intro A4 c4 w4 hown4 hg4 hbk4; have Hown4 := ihq hown4; have Hg4 := ihq hg4; clear hown4 hg4 hbk4)
     go_roundw
     case rel =>
      have tg : Turned (fun k => (Value.slice A' n1 c').ownBlock = some k) wr w4 := Turned.of_grown Hg4.out fun k e => e
      have e1 : sumN n1 n2 (1 + 1) = n1 + n2 := by simp [sumN]
      refine ⟨1 + 1, A4, c4, by omega, by go_num, by rw [e1], ?_, Hb.out.trans (tg.below (fun k e => (Ho.out.lt k e).1) Hb.out.size)⟩
      rw [e1]
      have := Hown4.out
      rw [<- zW] at this
      have ee : (us ++ vs).take (n1 + n2) = us ++ vs := by rw [List.take_of_length_le (by rw [List.length_append, E1.out, E2.out]; exact Nat.le_refl _)]
      rw [ee]
      exact this
     case measure => simp [intOf]
    ·have e0 : sumN n1 n2 2 = n1 + n2 := rfl
     rw [e0] at ho ⊢
     have et : (us ++ vs).take (n1 + n2) = us ++ vs := by rw [List.take_of_length_le (by rw [List.length_append, E1.out, E2.out]; exact Nat.le_refl _)]
     rw [et] at ho
     have Ho := ihq ho; have Hb := ihq hb
     clear ho hb et e0
     go_wp2
     go_ret
     subst hwo
     exact ⟨⟨A', n1 + n2, c'⟩, rfl, Ho.out, Hb.out⟩
end Go.Proofs.YteebkolccbcehaaGreat
end
