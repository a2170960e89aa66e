/-
  A state's cells stored anew, side by side; contracts of volume's server, remove and change. Conditions: a state in memory, whose numbers are within bounds; a command of numbers that an int holds.
-/
import Derived.Test.YtcaaakoahaoooaaVolDrop
namespace Go.Proofs.Ytcaaakoahaoooaa
open Go.ChangeShapes Go.WideShapes Go.ChangeAt Go.RowKit
set_option linter.unusedVariables false

/-- cells stored side by side -/
def putL (cs : Array Value) (o : Nat) : List Value → Array Value
  | [] => cs
  | v :: r => putL (cs.setIfInBounds o v) (o + 1) r
theorem putL_size : ∀ (vs : List Value) (cs : Array Value) (o : Nat), (putL cs o vs).size = cs.size
  | [], _, _ => rfl
  | v :: r, cs, o => by rw [putL, putL_size r, Array.size_setIfInBounds]
theorem putL_other : ∀ (vs : List Value) (cs : Array Value) (o j : Nat), (j < o ∨ o + vs.length ≤ j) → (putL cs o vs)[j]? = cs[j]?
  | [], _, _, _, _ => rfl
  | v :: r, cs, o, j, h => by
    rw [putL, putL_other r _ _ _ (by simp only [List.length_cons] at h; omega), set_get (by simp only [List.length_cons] at h; omega)]
theorem putL_get : ∀ (vs : List Value) (cs : Array Value) (o j : Nat) (v : Value), vs[j]? = some v → o + vs.length ≤ cs.size → (putL cs o vs)[o + j]? = some v
  | [], _, _, _, _, h, _ => by simp at h
  | u :: r, cs, o, 0, v, h, hs => by
    simp at h
    subst h
    simp only [List.length_cons] at hs
    rw [putL]
    simp only [Nat.add_zero]
    rw [putL_other r _ _ _ (.inl (by omega)), set_get_same (by omega)]
  | u :: r, cs, o, j + 1, v, h, hs => by
    simp only [List.length_cons] at hs
    rw [putL]
    have := putL_get r (cs.setIfInBounds o u) (o + 1) j v (by simpa using h) (by rw [Array.size_setIfInBounds]; omega)
    rwa [show o + (j + 1) = o + 1 + j by omega]
theorem setCells_row : ∀ (vs : List Value) (w : World) (g o : Nat) (cs : Array Value) (T : TypeId), w.heap[g]? = some (.cells cs T (0, 0)) → (w.setCells g o vs).heap[g]? = some (.cells (putL cs o vs) T (0, 0))
  | [], _, _, _, _, _, h => h
  | v :: r, w, g, o, cs, T, h => setCells_row r (w.setCell ⟨g, o, none⟩ v) g (o + 1) (cs.setIfInBounds o v) T (row_set h o v)
/-- a struct stored whole into the middle of a row -/
theorem st_mid {w : World} {g o : Nat} {cs new : Array Value} {T T' : TypeId} (h : w.heap[g]? = some (.cells cs T' (0, 0))) (hs : o + new.size ≤ cs.size) (hi : (Try.prog.info? T).map (·.size) = some new.size) (h1 : new.all (·.oneCell') = true) :
    ∃ w', (Instr.storeAt T (.pointer (some ⟨g, o, none⟩)) (.agg new)).run Try.prog w = .ok () w' ∧ w'.heap[g]? = some (.cells (putL cs o new.toList) T' (0, 0)) ∧ Turned (fun k => k = g) w w' := by
  have hth : w.there g o new.size := fun i hi => ⟨by rw [row_cell h, Array.getElem?_eq_getElem (by omega)]; rfl, row_frozen h _⟩
  exact ⟨_, run_storeAt_mid w g o T new hth hi h1, setCells_row _ _ _ _ _ _ h, turned_cellsI (p := fun k => k = g) (fun _ => rfl) _ _ _ (Turned.refl _ _)⟩
theorem vol_size : (Try.prog.info? 66).map (·.size) = some 7 := by kernel_rfl
def stVol (p v : Value) : Sem Unit := Instr.storeAt 66 p v
theorem stVol_eq (p v : Value) : Instr.storeAt 66 p v = stVol p v := rfl
def stPol (p v : Value) : Sem Unit := Instr.storeAt 29 p v
theorem stPol_eq (p v : Value) : Instr.storeAt 29 p v = stPol p v := rfl

/-- another volume -/
theorem StC.setVol {w w' : World} {g : Nat} {cs cs' : Array Value} {s : St} {K : Nat → Sl} {X : Nat → List Ck} (h : StC w g cs s K X) {i : Nat} (hi : i < 64) {v : Vol} {S : Sl} {Y : List Ck}
    (hr : w'.heap[g]? = some (.cells cs' 69 (0, 0))) (hsz : cs'.size = 465) (hoth : ∀ j, (j < 16 + i * 7 ∨ 16 + i * 7 + 7 ≤ j) → cs'[j]? = cs[j]?)
    (h0 : cs'[16 + i * 7]? = some (.int .i64 v.bl)) (h1 : cs'[16 + i * 7 + 1]? = some (.int .i64 v.p.re)) (h2 : cs'[16 + i * 7 + 2]? = some (.int .i64 v.p.we)) (h3 : cs'[16 + i * 7 + 3]? = some (.int .i64 v.p.li)) (h4 : cs'[16 + i * 7 + 4]? = some (.int .i64 v.p.bu))
    (h5 : cs'[16 + i * 7 + 5]? = some (.int .i64 v.ver)) (h6 : cs'[16 + i * 7 + 6]? = some (.slice S.A S.n S.c)) (hY : KsT w' S Y) (hd : Y.map Ck.dat = v.ks) (hk : ∀ q, q < 64 → q ≠ i → KsT w' (K q) (X q)) :
    StC w' g cs' (setV s i v) (updN K i S) (updN X i Y) := by
  refine ⟨hr, hsz, fun q hq => ?_, fun q hq => ?_, fun q hq => ?_, fun q hq => ?_, fun q hq => ?_, fun q hq => ?_, fun q hq => ?_, fun q hq => ?_, ?_, fun q hq => ?_, fun q hq => ?_⟩
  · rw [hoth _ (by omega)]; exact h.pk q hq
  · by_cases hqi : q = i
    · subst hqi; rw [setV_same]; exact h0
    · rw [hoth _ (by omega), setV_other hqi]; exact h.c0 q hq
  · by_cases hqi : q = i
    · subst hqi; rw [setV_same]; exact h1
    · rw [hoth _ (by omega), setV_other hqi]; exact h.c1 q hq
  · by_cases hqi : q = i
    · subst hqi; rw [setV_same]; exact h2
    · rw [hoth _ (by omega), setV_other hqi]; exact h.c2 q hq
  · by_cases hqi : q = i
    · subst hqi; rw [setV_same]; exact h3
    · rw [hoth _ (by omega), setV_other hqi]; exact h.c3 q hq
  · by_cases hqi : q = i
    · subst hqi; rw [setV_same]; exact h4
    · rw [hoth _ (by omega), setV_other hqi]; exact h.c4 q hq
  · by_cases hqi : q = i
    · subst hqi; rw [setV_same]; exact h5
    · rw [hoth _ (by omega), setV_other hqi]; exact h.c5 q hq
  · by_cases hqi : q = i
    · subst hqi; rw [updN_same]; exact h6
    · rw [hoth _ (by omega), updN_other hqi]; exact h.c6 q hq
  · rw [hoth _ (by omega)]; exact h.md
  · by_cases hqi : q = i
    · subst hqi; rw [updN_same, updN_same]; exact hY
    · rw [updN_other hqi, updN_other hqi]; exact hk q hq hqi
  · by_cases hqi : q = i
    · subst hqi; rw [updN_same, setV_same]; exact hd
    · rw [updN_other hqi, setV_other hqi]; exact h.dat q hq
/-- another capacity -/
theorem StC.setPk {w w' : World} {g : Nat} {cs : Array Value} {s : St} {K : Nat → Sl} {X : Nat → List Ck} (h : StC w g cs s K X) {n : Nat} (hn : n < 16) {x : Int}
    (hr : w'.heap[g]? = some (.cells (cs.setIfInBounds n (.int .i64 x)) 69 (0, 0))) (hk : ∀ q, q < 64 → KsT w' (K q) (X q)) :
    StC w' g (cs.setIfInBounds n (.int .i64 x)) { s with pk := fun i => if (i : Int) = (n : Int) then x else s.pk i } K X := by
  refine ⟨hr, by rw [Array.size_setIfInBounds]; exact h.size, fun q hq => ?_, fun q hq => ?_, fun q hq => ?_, fun q hq => ?_, fun q hq => ?_, fun q hq => ?_, fun q hq => ?_, fun q hq => ?_, ?_, hk, h.dat⟩
  · by_cases hqn : q = n
    · subst hqn; rw [set_get_same (by rw [h.size]; omega)]; simp
    · rw [set_get hqn, h.pk q hq]
      have : ¬ ((q : Int) = (n : Int)) := by omega
      simp [this]
  · rw [set_get (by omega)]; exact h.c0 q hq
  · rw [set_get (by omega)]; exact h.c1 q hq
  · rw [set_get (by omega)]; exact h.c2 q hq
  · rw [set_get (by omega)]; exact h.c3 q hq
  · rw [set_get (by omega)]; exact h.c4 q hq
  · rw [set_get (by omega)]; exact h.c5 q hq
  · rw [set_get (by omega)]; exact h.c6 q hq
  · rw [set_get (by omega)]; exact h.md
set_option maxRecDepth 100000 in
set_option maxHeartbeats 2000000 in
theorem VServer (g : Nat) (s : St) (c : Cmd) (w : World) (h : StAt w g s) (hc : CmdIn c) (hk : c.k = 1) :
    Calls Try.prog 45 #[.pointer (some ⟨g, 0, none⟩), cmdA c] w (DoRet g (doS s c) w) := by
  unfold cmdA
  obtain ⟨w1, hw1, hb1, hr1⟩ := cmd_box w c
  have c1 : w1.cell? ⟨w.heap.size, 1, none⟩ = some (.int .i64 c.a) := row_cell hr1 1
  have c2 : w1.cell? ⟨w.heap.size, 2, none⟩ = some (.int .i64 c.b) := row_cell hr1 2
  have Hb1 := Lib.hid hb1
  have hgl := h.lt
  obtain ⟨cs, K, X, h⟩ := h
  have H := Lib.hid (h.below hb1); have H0 := Lib.hid h
  have KW := Lib.hid (fun w => Vwithin c.a 0 15 w)
  have KI := Lib.hid (fun w => VisCapacity c.b w hc.hb)
  have e0 : doS s c = if decide (0 ≤ c.a ∧ c.a ≤ 15) && decide (1 ≤ c.b ∧ c.b ≤ 64) then ({ s with pk := fun i => if (i : Int) = c.a then c.b else s.pk i }, 0) else (s, 1) := by unfold doS; rw [if_pos hk]
  rw [e0]
  clear hb1 h hc e0 hk
  by_cases ha : 0 ≤ c.a ∧ c.a ≤ 15
  · rw [decide_eq_true ha] at KW ⊢
    by_cases hb : 1 ≤ c.b ∧ c.b ≤ 64
    · rw [decide_eq_true hb] at KI ⊢
      rw [if_pos (by decide)]
      obtain ⟨n, hn⟩ := Int.eq_ofNat_of_zero_le ha.1
      have hn16 : n < 16 := by omega
      have e1 : (fun i : Nat => if (i : Int) = c.a then c.b else s.pk i) = fun i : Nat => if (i : Int) = (n : Int) then c.b else s.pk i := by rw [hn]
      rw [e1]
      have i0 : (0 : Int) ≤ (n : Int) := by omega
      have i1 : (n : Int) < 16 := by omega
      have hn' : c.a = (n : Int) := hn
      rw [hn'] at c1
      have Hr1 := Lib.hid hr1; have Hn := Lib.hid hn'
      clear hr1 ha hb e1 hn hn'
      go_enter Try.func45, Try.ntmps45
      go_upto_region 3 with (first
        | (go_at_call 66; refine (KI.out _).mono ?_; rintro e w2 ⟨rfl, hb2⟩; have Hb2 := Lib.hid hb2; clear hb2)
        | (go_at_call 44; refine (show Calls _ _ #[.int .i64 (n : Int), .int .i64 0, .int .i64 15] _ _ from (by have := KW.out w1; rwa [Hn.out] at this)).mono ?_; rintro e w' ⟨rfl, rfl⟩))
      have h2 := H.out.below Hb2.out
      have hr2 := row_below Hr1.out Hb2.out
      have d1 : w2.drew.cell? ⟨w.heap.size, 1, none⟩ = some (.int .i64 (n : Int)) := by rw [← Hn.out]; exact row_cell (w := w2.drew) hr2 1
      have d2 : w2.drew.cell? ⟨w.heap.size, 2, none⟩ = some (.int .i64 c.b) := row_cell (w := w2.drew) hr2 2
      have z : w2.drew.frozen? ⟨g, n, none⟩ = false := row_frozen (w := w2.drew) h2.row n
      have d3 : w2.drew.cell? ⟨g, n, none⟩ = some (.int .i64 (s.pk n)) := (row_cell (w := w2.drew) h2.row n).trans (h2.pk n hn16)
      have H2 := Lib.hid h2
      clear h2 hr2 c1 c2
      go_region
      all_goals
        go_wp2
        go_ret
        have t3 : Turned (fun k => k = g) w2 (w2.drew.setCell ⟨g, n, none⟩ (.int .i64 c.b)) := ((Turned.of_below (p := fun k => k = g) (Below.refl _ _).drew).setCell (b := ⟨g, n, none⟩) (fun _ => rfl) _)
        refine ⟨rfl, fun _ => ⟨_, K, X, H2.out.setPk hn16 (row_set (w := w2.drew) H2.out.row n _) (fun q hq => (H2.out.ks q hq).turned t3 H2.out.noCk.1 H2.out.noCk.2)⟩, (Turned.of_below (p := fun k => k = g) (Hb1.out.trans (Hb2.out.mono Hb1.out.size))).trans t3 (fun _ e => e) (fun _ _ e => e)⟩
    · rw [decide_eq_false hb] at KI ⊢
      rw [if_neg (by decide)]
      go_enter Try.func45, Try.ntmps45
      go_wp2_with (first
        | (go_at_call 66; refine (KI.out _).mono ?_; rintro e w2 ⟨rfl, hb2⟩; have Hb2 := Lib.hid (Hb1.out.trans (hb2.mono Hb1.out.size)); clear hb2)
        | (go_at_call 44; refine (KW.out _).mono ?_; rintro e w' ⟨rfl, rfl⟩))
      go_ret
      exact DoRet.err Hb2.out (by decide)
  · rw [decide_eq_false ha] at KW ⊢
    rw [if_neg (by simp)]
    clear ha
    go_enter Try.func45, Try.ntmps45
    go_wp2_with (go_at_call 44; refine (KW.out _).mono ?_; rintro e w' ⟨rfl, rfl⟩)
    go_ret
    exact DoRet.err Hb1.out (by decide)

theorem isVol_nat {s : St} {a : Int} (h : isVol s a = true) : ∃ n : Nat, a = (n : Int) ∧ n < 64 ∧ (s.vs n).bl ≠ 0 := by
  simp only [isVol, Bool.and_eq_true, decide_eq_true_eq] at h
  obtain ⟨n, rfl⟩ := Int.eq_ofNat_of_zero_le h.1.1
  exact ⟨n, rfl, by omega, by simpa using h.2⟩
def bdVol (parts : Array (Nat × Value)) : Sem Value := Instr.build 66 parts
theorem bdVol_eq (parts : Array (Nat × Value)) : Instr.build 66 parts = bdVol parts := rfl
theorem bdVol_run0 (w : World) : (bdVol #[]).run Try.prog w = .ok (.agg #[.int .i64 0, .int .i64 0, .int .i64 0, .int .i64 0, .int .i64 0, .int .i64 0, .slice none 0 0]) w := by kernel_rfl
theorem bdVol_run (w : World) (b re we li bu ver : Int) : (bdVol #[(0, .int .i64 b), (1, .agg #[.int .i64 re, .int .i64 we, .int .i64 li, .int .i64 bu]), (2, .int .i64 ver)]).run Try.prog w = .ok (.agg #[.int .i64 b, .int .i64 re, .int .i64 we, .int .i64 li, .int .i64 bu, .int .i64 ver, .slice none 0 0]) w := by kernel_rfl
/-- a volume without chunks, stored whole -/
theorem vol_put {w : World} {g : Nat} {cs : Array Value} {s : St} {K : Nat → Sl} {X : Nat → List Ck} (h : StC w g cs s K X) {i : Nat} (hi : i < 64) (b ver : Int) (p : Pol) :
    ∃ w', (stVol (.pointer (some ⟨g, 16 + i * 7, none⟩)) (.agg #[.int .i64 b, .int .i64 p.re, .int .i64 p.we, .int .i64 p.li, .int .i64 p.bu, .int .i64 ver, .slice none 0 0])).run Try.prog w = .ok () w' ∧
      (∃ cs', StC w' g cs' (setV s i ⟨b, p, ver, []⟩) (updN K i Sl.nil) (updN X i [])) ∧ Turned (fun k => k = g) w w' := by
  obtain ⟨w', h1, h2, h3⟩ := st_mid (o := 16 + i * 7) (T := 66) (new := #[.int .i64 b, .int .i64 p.re, .int .i64 p.we, .int .i64 p.li, .int .i64 p.bu, .int .i64 ver, .slice none 0 0]) h.row (by rw [h.size]; simp; omega) vol_size (by simp [Value.oneCell'])
  refine ⟨w', h1, ⟨_, h.setVol (S := Sl.nil) (Y := []) hi h2 (by rw [putL_size]; exact h.size) (fun j hj => putL_other _ _ _ _ (by simpa using hj)) ?_ ?_ ?_ ?_ ?_ ?_ ?_ (KsT.nil _) rfl (fun q hq _ => (h.ks q hq).turned h3 h.noCk.1 h.noCk.2)⟩, h3⟩
  · exact putL_get _ cs (16 + i * 7) 0 _ rfl (by rw [h.size]; simp; omega)
  · exact putL_get _ cs (16 + i * 7) 1 _ rfl (by rw [h.size]; simp; omega)
  · exact putL_get _ cs (16 + i * 7) 2 _ rfl (by rw [h.size]; simp; omega)
  · exact putL_get _ cs (16 + i * 7) 3 _ rfl (by rw [h.size]; simp; omega)
  · exact putL_get _ cs (16 + i * 7) 4 _ rfl (by rw [h.size]; simp; omega)
  · exact putL_get _ cs (16 + i * 7) 5 _ rfl (by rw [h.size]; simp; omega)
  · exact putL_get _ cs (16 + i * 7) 6 _ rfl (by rw [h.size]; simp; omega)
attribute [local go_sem ↓] stVol_eq
attribute [local go_sem ↓] bdVol_eq
set_option maxRecDepth 100000 in
set_option maxHeartbeats 2000000 in
theorem VRemove (g : Nat) (s : St) (c : Cmd) (w : World) (h : StAt w g s) (hk : c.k = 3) :
    Calls Try.prog 47 #[.pointer (some ⟨g, 0, none⟩), cmdA c] w (DoRet g (doS s c) w) := by
  unfold cmdA
  obtain ⟨w1, hw1, hb1, hr1⟩ := cmd_box w c
  have c1 : w1.cell? ⟨w.heap.size, 1, none⟩ = some (.int .i64 c.a) := row_cell hr1 1
  have Hb1 := Lib.hid hb1
  have hbd := bdVol_run0
  have e0 : doS s c = if isVol s c.a then (setV s c.a.toNat vol0, 0) else (s, 7) := by unfold doS; rw [if_neg (by omega), if_neg (by omega), if_pos hk]
  rw [e0]
  by_cases hv : isVol s c.a = true
  · rw [if_pos hv]
    obtain ⟨n, hn, hn64, _⟩ := isVol_nat hv
    have et : c.a.toNat = n := by omega
    rw [et]
    rw [hn] at hv c1
    have KV := Lib.hid (Vvolume_yes g s n w1 (h.below hb1) hv)
    obtain ⟨cs, K, X, h1⟩ := h.below hb1
    obtain ⟨w2, hst, ⟨cs', hs2⟩, ht2⟩ := vol_put h1 hn64 0 0 pol0
    have Hs2 := Lib.hid hs2; have Ht2 := Lib.hid ht2
    simp only [pol0] at hst
    clear h hb1 hr1 hv hn h1 hs2 ht2 hk e0 et
    go_enter Try.func47, Try.ntmps47
    go_wp2_with (go_at_call 24; refine KV.out.mono ?_; rintro e w3 ⟨rfl, rfl⟩)
    go_ret
    exact ⟨rfl, fun _ => ⟨_, _, _, Hs2.out⟩, (Turned.of_below (p := fun k => k = g) Hb1.out).trans Ht2.out (fun _ e => e) (fun _ _ e => e)⟩
  · rw [if_neg hv]
    have KV := Lib.hid (Vvolume_no g s c.a w1 (h.below hb1) (by simpa using hv))
    clear h hb1 hr1 hv hk e0
    go_enter Try.func47, Try.ntmps47
    go_wp2_with (go_at_call 24; refine KV.out.mono ?_; rintro e w3 ⟨rfl, rfl⟩)
    go_ret
    exact DoRet.err Hb1.out (by decide)
attribute [local go_sem ↓] stPol_eq
attribute [local go_sem ↓] ldPol_eq
set_option maxRecDepth 100000 in
set_option maxHeartbeats 2000000 in
theorem VChange (g : Nat) (s : St) (c : Cmd) (w : World) (h : StAt w g s) (hf : StFit s) (hc : CmdIn c) (hk : c.k = 5) :
    Calls Try.prog 49 #[.pointer (some ⟨g, 0, none⟩), cmdA c] w (DoRet g (doS s c) w) := by
  unfold cmdA
  obtain ⟨w1, hw1, hb1, hr1⟩ := cmd_box w c
  have c1 : w1.cell? ⟨w.heap.size, 1, none⟩ = some (.int .i64 c.a) := row_cell hr1 1
  have hat : PolAt w1 w.heap.size 4 c.p := ⟨row_cell hr1 4, row_cell hr1 5, row_cell hr1 6, row_cell hr1 7, hc.hp⟩
  have hld := ldPol_run hat
  have Hb1 := Lib.hid hb1; have Hr1 := Lib.hid hr1; have Hat := Lib.hid hat
  have KR := Lib.hid (Right_any c.p w1)
  have e0 : doS s c = if rightP c.p = false then (s, 1) else if isVol s c.a = false then (s, 7) else (setV s c.a.toNat { s.vs c.a.toNat with p := c.p, ver := (s.vs c.a.toNat).ver + 1 }, 0) := by unfold doS; rw [if_neg (by omega), if_neg (by omega), if_neg (by omega), if_neg (by omega), if_pos hk]
  rw [e0]
  have H := Lib.hid (h.below hb1)
  clear h hb1 hr1 hc e0 hk hat
  by_cases hr : rightP c.p = false
  · rw [if_pos hr]
    rw [hr] at KR
    clear hr
    go_enter Try.func49, Try.ntmps49
    go_wp2_with (go_at_call 53; refine KR.out.mono ?_; rintro e w2 ⟨rfl, hb2⟩; have Hb2 := Lib.hid (Hb1.out.trans (hb2.mono Hb1.out.size)); clear hb2)
    go_ret
    exact DoRet.err Hb2.out (by decide)
  · rw [if_neg hr]
    have hr : rightP c.p = true := by simpa using hr
    rw [hr] at KR
    clear hr
    by_cases hv : isVol s c.a = false
    · rw [if_pos hv]
      have KV := Lib.hid (fun W (hb : Below w1.heap.size w1 W) => Vvolume_no g s c.a W (H.out.below hb) hv)
      clear hv
      go_enter Try.func49, Try.ntmps49
      go_wp2_with fail
      refine KR.out.mono ?_
      rintro e w2 ⟨rfl, hb2⟩
      have d1 : w2.cell? ⟨w.heap.size, 1, none⟩ = some (.int .i64 c.a) := row_cell (row_below Hr1.out hb2) 1
      have KV2 := Lib.hid (KV.out w2 hb2)
      have Hb2 := Lib.hid (Hb1.out.trans (hb2.mono Hb1.out.size))
      clear hb2
      go_wp2_with (go_at_call 24; refine KV2.out.mono ?_; rintro e w3 ⟨rfl, rfl⟩)
      go_ret
      exact DoRet.err Hb2.out (by decide)
    · rw [if_neg hv]
      have hv : isVol s c.a = true := by simpa using hv
      obtain ⟨n, hn, hn64, _⟩ := isVol_nat hv
      have et : c.a.toNat = n := by omega
      rw [et]
      rw [hn] at hv
      have KV := Lib.hid (fun W (hb : Below w1.heap.size w1 W) => Vvolume_yes g s n W (H.out.below hb) hv)
      have hver := (hf.vs n hn64).ver
      have Hn := Lib.hid hn
      clear hv hn et hf
      go_enter Try.func49, Try.ntmps49
      go_wp2_with fail
      refine KR.out.mono ?_
      rintro e w2 ⟨rfl, hb2⟩
      have d1 : w2.cell? ⟨w.heap.size, 1, none⟩ = some (.int .i64 (n : Int)) := by rw [← Hn.out]; exact row_cell (row_below Hr1.out hb2) 1
      have hld2 := ldPol_run (Hat.out.below hb2)
      have KV2 := Lib.hid (KV.out w2 hb2)
      obtain ⟨cs, K, X, h2⟩ := H.out.below hb2
      obtain ⟨w3, hst3, hr3, ht3⟩ := st_mid (o := 16 + n * 7 + 1) (T := 29) (new := #[.int .i64 c.p.re, .int .i64 c.p.we, .int .i64 c.p.li, .int .i64 c.p.bu]) h2.row (by rw [h2.size]; simp; omega) pol_info (by simp [Value.oneCell'])
      rw [stPol_eq] at hst3
      have hsz : (putL cs (16 + n * 7 + 1) [.int .i64 c.p.re, .int .i64 c.p.we, .int .i64 c.p.li, .int .i64 c.p.bu]).size = 465 := by rw [putL_size]; exact h2.size
      obtain ⟨cs3, hcs3⟩ : ∃ cs3, putL cs (16 + n * 7 + 1) [.int .i64 c.p.re, .int .i64 c.p.we, .int .i64 c.p.li, .int .i64 c.p.bu] = cs3 := ⟨_, rfl⟩
      have hoth : ∀ j, (j < 16 + n * 7 + 1 ∨ 16 + n * 7 + 5 ≤ j) → cs3[j]? = cs[j]? := fun j hj => by rw [← hcs3]; exact putL_other _ _ _ _ (by simpa using hj)
      have hg1 : cs3[16 + n * 7 + 1]? = some (.int .i64 c.p.re) := by rw [← hcs3]; exact putL_get _ _ _ 0 _ rfl (by rw [h2.size]; simp; omega)
      have hg2 : cs3[16 + n * 7 + 2]? = some (.int .i64 c.p.we) := by rw [← hcs3]; exact putL_get _ _ _ 1 _ rfl (by rw [h2.size]; simp; omega)
      have hg3 : cs3[16 + n * 7 + 3]? = some (.int .i64 c.p.li) := by rw [← hcs3]; exact putL_get _ _ _ 2 _ rfl (by rw [h2.size]; simp; omega)
      have hg4 : cs3[16 + n * 7 + 4]? = some (.int .i64 c.p.bu) := by rw [← hcs3]; exact putL_get _ _ _ 3 _ rfl (by rw [h2.size]; simp; omega)
      have hr3' : w3.heap[g]? = some (.cells cs3 69 (0, 0)) := by rw [← hcs3]; exact hr3
      rw [hcs3] at hsz
      have v5 : w3.cell? ⟨g, 16 + n * 7 + 5, none⟩ = some (.int .i64 (s.vs n).ver) := by rw [row_cell hr3', hoth _ (by omega)]; exact h2.c5 n hn64
      have z5 : w3.frozen? ⟨g, 16 + n * 7 + 5, none⟩ = false := row_frozen hr3' _
      have H2 := Lib.hid h2; have Hr3 := Lib.hid hr3'; have Ht3 := Lib.hid ht3; have Hoth := Lib.hid hoth; have Hg := Lib.hid (And.intro hg1 (And.intro hg2 (And.intro hg3 hg4))); have Hsz := Lib.hid hsz
      have Hb2 := Lib.hid (Hb1.out.trans (hb2.mono Hb1.out.size))
      clear hb2 h2 hr3 hr3' ht3 hoth hg1 hg2 hg3 hg4 hsz hcs3
      go_wp2_with (go_at_call 24; refine KV2.out.mono ?_; rintro e w3 ⟨rfl, rfl⟩)
      go_ret
      have t4 : Turned (fun k => k = g) w2 (w3.setCell ⟨g, 16 + n * 7 + 5, none⟩ (.int .i64 ((s.vs n).ver + 1))) := (Ht3.out.trans (r := fun k => k = g) ((Turned.refl (fun k => k = g) w3).setCell (b := ⟨g, 16 + n * 7 + 5, none⟩) (fun _ => rfl) _) (fun _ e => e) (fun _ _ e => e))
      obtain ⟨g1, g2, g3, g4⟩ := Hg.out
      refine ⟨rfl, fun _ => ⟨_, _, _, H2.out.setVol (v := { s.vs n with p := c.p, ver := (s.vs n).ver + 1 }) (S := K n) (Y := X n) hn64 (row_set Hr3.out _ _) (by rw [Array.size_setIfInBounds]; exact Hsz.out) (fun j hj => by rw [set_get (by omega)]; exact Hoth.out j (by omega)) ?_ ?_ ?_ ?_ ?_ ?_ ?_ ((H2.out.ks n hn64).turned t4 H2.out.noCk.1 H2.out.noCk.2) (H2.out.dat n hn64) (fun q hq _ => (H2.out.ks q hq).turned t4 H2.out.noCk.1 H2.out.noCk.2)⟩, (Turned.of_below (p := fun k => k = g) Hb2.out).trans t4 (fun _ e => e) (fun _ _ e => e)⟩
      · rw [set_get (by omega), Hoth.out _ (by omega)]; exact H2.out.c0 n hn64
      · rw [set_get (by omega)]; exact g1
      · rw [set_get (by omega)]; exact g2
      · rw [set_get (by omega)]; exact g3
      · rw [set_get (by omega)]; exact g4
      · rw [set_get_same (by rw [Hsz.out]; omega)]
      · rw [set_get (by omega), Hoth.out _ (by omega)]; exact H2.out.c6 n hn64
end Go.Proofs.Ytcaaakoahaoooaa
