/-
  Contracts of slices.Clone at chunks, of volume's inEpoch and renew. Conditions: a state in memory, as find asks.
-/
import Derived.Test.YtcaaakoahaoooaaVolVol
namespace Go.Proofs.Ytcaaakoahaoooaa
open Go.ChangeShapes Go.WideShapes Go.ChangeAt Go.RowKit
set_option linter.unusedVariables false

/-- chunks in a row of the call's own -/
def CloneKRet (X : List Ck) (w : World) (e : Ending) (w' : World) : Prop :=
  ∃ (g c : Nat), e = .returned (.slice (some ⟨g, 0, none⟩) X.length c) ∧ w'.ownsRow w.heap.size 48 5 (.slice (some ⟨g, 0, none⟩) X.length c) X.length (cksV X) ∧ Below w.heap.size w w'
theorem VCloneK (S : Sl) (X : List Ck) (w : World) (h : KsT w S X) (h0 : 0 < X.length) (hl : X.length ≤ 64) :
    Calls Try.prog 69 #[.slice S.A S.n S.c] w (CloneKRet X w) := by
  obtain ⟨A, n, c⟩ := S
  have hn := h.len
  simp only at hn ⊢
  obtain ⟨i0, hi, hz0, hz1, hz2⟩ := info_parts ck_info
  rcases h.see.1 with he | ⟨g, o, hA, hc⟩
  · have := cksV_length X
    rw [he] at this
    simp at this
    omega
  · simp only at hA
    subst hA
    have z : ∀ w, (Go.sizeOf 48).run Try.prog w = .ok 5 w := Try.sizeOf48
    have hC := AnyE.slices_Clone Try.cloneK i0 _ 5 72 hi hz0 hz1 hz2 rfl (by omega) z g o n c (cksV X) w (by rw [cksV_length, hn]) (by unfold maxLen; omega) (by omega) hc (cksV_oneCell X)
    refine hC.mono ?_
    rintro e w' ⟨v', rfl, h1, h2, h3⟩
    subst hn
    rcases h1.2 with ⟨hv, hn⟩ | ⟨g', cap, cur, hv, hg, r⟩
    · omega
    · subst hv
      exact ⟨g', cap, rfl, h1, h3⟩
/-- the j-th chunk of a row stored anew -/
theorem ks_set {w : World} {B g n c j : Nat} {X : List Ck} (h : w.ownsRow B 48 5 (.slice (some ⟨g, 0, none⟩) n c) n (cksV X)) (hj : j < X.length) (r : Ck) :
    ∃ w', (stCk (.pointer (some ⟨g, j * 5, none⟩)) (.agg #[.int .i64 r.id, .int .i64 r.vo, .int .i64 r.ep, .slice r.m.A r.m.n r.m.c, .slice r.j.A r.j.n r.j.c])).run Try.prog w = .ok () w' ∧
      w'.ownsRow B 48 5 (.slice (some ⟨g, 0, none⟩) n c) n (cksV (X.set j r)) ∧ Turned (fun k => k = g) w w' := by
  have hlen := h.1
  rw [cksV_length] at hlen
  rcases h.2 with ⟨hv, _⟩ | ⟨g', cap, cur, hv, hg, hh, h1, h2, h3, h4⟩
  · cases hv
  injection hv with hv _ hc
  injection hv with hv
  injection hv with hv
  subst hv; subst hc
  have hsp : X = X.take j ++ [X[j]] ++ X.drop (j + 1) := by rw [← List.take_succ_eq_append_getElem hj, List.take_append_drop]
  have hset : X.set j r = X.take j ++ [r] ++ X.drop (j + 1) := by rw [List.set_eq_take_append_cons_drop, if_pos hj]; simp
  obtain ⟨Z, hZ⟩ : ∃ Z, cur.toList.drop (n * 5) = Z := ⟨_, rfl⟩
  have ecur : cur = (cksV (X.take j) ++ ckC X[j] ++ (cksV (X.drop (j + 1)) ++ Z)).toArray := by
    have e1 : cksV X = cksV (X.take j) ++ ckC X[j] ++ cksV (X.drop (j + 1)) := by
      conv => lhs; rw [hsp]
      rw [cksV_append, cksV_append, cksV_one1]
    have e2 : cur.toList = cksV X ++ Z := by rw [← h4, ← hZ, List.take_append_drop]
    apply Array.ext'
    rw [e2, e1]
    simp [List.append_assoc]
  have hrow : w.heap[g]? = some (.cells (cksV (X.take j) ++ ckC X[j] ++ (cksV (X.drop (j + 1)) ++ Z)).toArray 48 (0, 0)) := by rw [← ecur]; exact hh
  have hl1 : (cksV (X.take j)).length = j * 5 := by rw [cksV_length, List.length_take]; omega
  have hs := set_row (b := g) (e := 48) (Z := cksV (X.drop (j + 1)) ++ Z) (ckC r) (cksV (X.take j)) (ckC X[j]) w (j * 5) hrow rfl hl1
  have hth : w.there g (j * 5) 5 := fun q hq => ⟨by
    rw [row_cell hh, Array.getElem?_eq_getElem (by rw [h3]; omega)]; rfl, row_frozen hh _⟩
  refine ⟨_, run_storeAt_mid w g (j * 5) 48 #[.int .i64 r.id, .int .i64 r.vo, .int .i64 r.ep, .slice r.m.A r.m.n r.m.c, .slice r.j.A r.j.n r.j.c] hth ck_size (by simp [Value.oneCell']), ?_, turned_cellsI (p := fun k => k = g) (fun _ => rfl) _ _ _ (Turned.refl _ _)⟩
  have e3 : cksV (X.set j r) = cksV (X.take j) ++ ckC r ++ cksV (X.drop (j + 1)) := by rw [hset, cksV_append, cksV_append, cksV_one1]
  have hl3 : (cksV (X.set j r)).length = n * 5 := by rw [cksV_length, List.length_set]; omega
  refine ⟨hl3, .inr ⟨g, c, _, rfl, hg, hs, h1, h2, ?_, ?_⟩⟩
  · have := congrArg Array.size ecur
    simp only [List.size_toArray, List.length_append] at this ⊢
    have e5 : (ckC r).length = (ckC X[j]).length := rfl
    omega
  · show List.take (n * 5) (cksV (X.take j) ++ ckC r ++ (cksV (X.drop (j + 1)) ++ Z)) = _
    rw [← List.append_assoc, ← e3, ← hl3, List.take_left]

attribute [local go_sem ↓] ldCk_eq
attribute [local go_sem ↓] stCk_eq
/-- what inEpoch hands back: an error, or a chunk by itself -/
def EpochNo (x : Int) (w : World) (e : Ending) (w' : World) : Prop :=
  e = .returned (.tuple #[.agg #[.int .i64 0, .int .i64 0, .int .i64 0, .slice none 0 0, .slice none 0 0], .int .i64 x]) ∧ Below w.heap.size w w'
def EpochYes (k : Chk) (w : World) (e : Ending) (w' : World) : Prop :=
  ∃ r : Ck, r.dat = k ∧ e = .returned (.tuple #[ckA r, .int .i64 0]) ∧ CkOwn w' w.heap.size r ∧ Below w.heap.size w w'
set_option maxRecDepth 100000 in
set_option maxHeartbeats 2000000 in
theorem VinEpoch_none (g : Nat) (s : St) (id ep : Int) (w : World) (h : StAt w g s) (hf : StFit s) (ho : OrdS s) (hn : findS s id = none) :
    Calls Try.prog 71 #[.pointer (some ⟨g, 0, none⟩), .int .i64 id, .int .i64 ep] w (EpochNo 7 w) := by
  obtain ⟨w1, hw1, hb1, hr1⟩ := ck_box w ck0
  simp only [ck0, Sl.nil] at hw1 hr1
  have KC := Lib.hid (VChunk g s id w1 (h.below hb1) hf ho)
  rw [hn] at KC
  have Hb1 := Lib.hid hb1; have Hr1 := Lib.hid hr1
  clear h hf ho hn hb1 hr1
  unfold ChunkRet at KC
  simp only at KC
  go_enter Try.func71, Try.ntmps71
  go_wp2_with fail
  refine KC.out.mono ?_
  rintro e w2 ⟨rfl, hb2⟩
  obtain ⟨wz, w3, hwz, hst9, hb3, hr3⟩ := ck_new w2 ck0
  simp only [ck0, Sl.nil] at hst9 hr3
  obtain ⟨w4, hst, hr4, ht4⟩ := stCk_run (row_below (row_below Hr1.out hb2) hb3) rfl ck0
  simp only [ck0, Sl.nil] at hst hr4
  have Hb3 := Lib.hid (Hb1.out.trans ((hb2.trans (hb3.mono hb2.size)).mono Hb1.out.size)); have Hr4 := Lib.hid hr4; have Ht4 := Lib.hid ht4
  clear hb2 hb3 hr3 hr4 ht4 hw1
  go_wp2
  refine bodyPost_ret (v := .tuple #[.agg #[.int .i64 0, .int .i64 0, .int .i64 0, .slice none 0 0, .slice none 0 0], .int .i64 7]) (results_cell_2 rfl _ _ w.heap.size 48 #[.int .i64 0, .int .i64 0, .int .i64 0, .slice none 0 0, .slice none 0 0] (0, 0) _ (.int .i64 7) rfl rfl Hr4.out Try.underlying48 rfl ck_size) rfl ?_
  exact ⟨rfl, Hb3.out.trans (Ht4.out.below (fun k e => by omega) Hb3.out.size)⟩
set_option maxRecDepth 100000 in
set_option maxHeartbeats 2000000 in
theorem VinEpoch_old (g : Nat) (s : St) (id ep : Int) (i j : Nat) (k : Chk) (w : World) (h : StAt w g s) (hf : StFit s) (ho : OrdS s) (hn : findS s id = some (i, j, k)) (he : k.ep ≠ ep) :
    Calls Try.prog 71 #[.pointer (some ⟨g, 0, none⟩), .int .i64 id, .int .i64 ep] w (EpochNo 10 w) := by
  obtain ⟨w1, hw1, hb1, hr1⟩ := ck_box w ck0
  simp only [ck0, Sl.nil] at hw1 hr1
  have KC := Lib.hid (VChunk g s id w1 (h.below hb1) hf ho)
  rw [hn] at KC
  have Hb1 := Lib.hid hb1; have Hr1 := Lib.hid hr1
  clear h hf ho hn hb1 hr1
  unfold ChunkRet at KC
  simp only at KC
  go_enter Try.func71, Try.ntmps71
  go_wp2_with fail
  refine KC.out.mono ?_
  rintro e w2 ⟨r, rfl, rfl, hown, hb2⟩
  unfold ckA
  obtain ⟨wz, w3, hwz, hst9, hb3, hr3⟩ := ck_new w2 r
  have d2 : w3.cell? ⟨w2.heap.size, 2, none⟩ = some (.int .i64 r.ep) := row_cell hr3 2
  obtain ⟨w4, hst, hr4, ht4⟩ := stCk_run (row_below (row_below Hr1.out hb2) hb3) rfl ck0
  simp only [ck0, Sl.nil] at hst hr4
  have Hb3 := Lib.hid (Hb1.out.trans ((hb2.trans (hb3.mono hb2.size)).mono Hb1.out.size)); have Hr4 := Lib.hid hr4; have Ht4 := Lib.hid ht4
  have hd : (r.ep != ep) = true := by simpa [Ck.dat] using he
  clear hb2 hb3 hr3 hr4 ht4 hw1 hown he
  go_wp2
  refine bodyPost_ret (v := .tuple #[.agg #[.int .i64 0, .int .i64 0, .int .i64 0, .slice none 0 0, .slice none 0 0], .int .i64 10]) (results_cell_2 rfl _ _ w.heap.size 48 #[.int .i64 0, .int .i64 0, .int .i64 0, .slice none 0 0, .slice none 0 0] (0, 0) _ (.int .i64 10) rfl rfl Hr4.out Try.underlying48 rfl ck_size) rfl ?_
  exact ⟨rfl, Hb3.out.trans (Ht4.out.below (fun k e => by omega) Hb3.out.size)⟩
set_option maxRecDepth 100000 in
set_option maxHeartbeats 2000000 in
theorem VinEpoch_yes (g : Nat) (s : St) (id : Int) (i j : Nat) (k : Chk) (w : World) (h : StAt w g s) (hf : StFit s) (ho : OrdS s) (hn : findS s id = some (i, j, k)) :
    Calls Try.prog 71 #[.pointer (some ⟨g, 0, none⟩), .int .i64 id, .int .i64 k.ep] w (EpochYes k w) := by
  obtain ⟨w1, hw1, hb1, hr1⟩ := ck_box w ck0
  simp only [ck0, Sl.nil] at hw1 hr1
  have KC := Lib.hid (VChunk g s id w1 (h.below hb1) hf ho)
  rw [hn] at KC
  have Hb1 := Lib.hid hb1; have Hr1 := Lib.hid hr1
  clear h hf ho hn hb1 hr1
  unfold ChunkRet at KC
  simp only at KC
  go_enter Try.func71, Try.ntmps71
  go_wp2_with fail
  refine KC.out.mono ?_
  rintro e w2 ⟨r, rfl, rfl, hown, hb2⟩
  unfold ckA
  obtain ⟨wz, w3, hwz, hst9, hb3, hr3⟩ := ck_new w2 r
  have d2 : w3.cell? ⟨w2.heap.size, 2, none⟩ = some (.int .i64 r.ep) := row_cell hr3 2
  have hld := ldCk_run (CkAt.of_row hr3)
  have hr31 := row_below (row_below Hr1.out hb2) hb3
  obtain ⟨w4, hst, hr4, ht4⟩ := stCk_run hr31 rfl r
  have Hb3 := Lib.hid (Hb1.out.trans ((hb2.trans (hb3.mono hb2.size)).mono Hb1.out.size)); have Hr4 := Lib.hid hr4; have Ht4 := Lib.hid ht4; have Hr31 := Lib.hid hr31
  have Hown := Lib.hid ((hown.below hb3).base Hb1.out.size)
  have hd : (r.ep != r.ep) = false := by simp
  have hd2 : (r.dat.ep) = r.ep := rfl
  clear hb2 hb3 hr3 hr4 ht4 hw1 hown hr31
  go_wp2
  refine bodyPost_ret (v := .tuple #[ckA r, .int .i64 0]) (results_cell_2 rfl _ _ w.heap.size 48 #[.int .i64 r.id, .int .i64 r.vo, .int .i64 r.ep, .slice r.m.A r.m.n r.m.c, .slice r.j.A r.j.n r.j.c] (0, 0) _ (.int .i64 0) rfl rfl Hr4.out Try.underlying48 rfl ck_size) rfl ?_
  refine ⟨r, rfl, rfl, Hown.out.turned Ht4.out (fun b e cs fr hb => ?_), Hb3.out.trans (Ht4.out.below (fun k e => by omega) Hb3.out.size)⟩
  subst e
  rw [Hr31.out] at hb
  injection hb with hb
  injection hb with _ hb
  exact absurd hb (by decide)
end Go.Proofs.Ytcaaakoahaoooaa
