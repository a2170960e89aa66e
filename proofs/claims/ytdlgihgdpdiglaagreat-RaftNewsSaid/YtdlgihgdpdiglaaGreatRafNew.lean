/-
  Contract of raft's load over a vault that has nothing, and of New. Conditions: a vault that has no value, and room; members that are right, or none.
-/
import Derived.Test.YtdlgihgdpdiglaaGreatJRafB
import Derived.BigRegion
namespace Go.Proofs.YtdlgihgdpdiglaaGreat
open Go.ChangeShapes Go.WideShapes Go.ChangeAt Go.RowKit
set_option linter.unusedVariables false

/-- a node's cells as New lays them -/
def c00 (id : Int) (v : Nat) : Nc := ⟨id, v, 0, 0, 0, .pointer none, 0, 0, Sl.nil, Sl.nil, Sl.nil, 0, 0, -1, 0, 0, false, 0, Sl.nil, 0, 0, 0, none, Sl.nil⟩
/-- a fresh node -/
def N00 (id : Int) (us : List Int) (st : Vt) : Nd := ⟨id, 0, 0, -1, 0, 0, us, [], us, 0, 0, -1, 0, 0, false, 0, [], 1099511627776, 1099511627776, 0, [], st⟩
/-- the change that load makes -/
def chgS (us : List Int) : Chg := ⟨1, some (snapB 0 0 us [])⟩
theorem snapB_len {us : List Int} (hus : quo.RightQ us ∨ us = []) {ss : List UInt8} (h : ss.length ≤ 700) {si sn : Int} (h1 : si ≤ 1099511627776) (h2 : sn ≤ 1099511627776) : (snapB si sn us ss).length ≤ 900 := by
  have a1 := numB_len9 (n := si.toNat) (by omega)
  have a2 := numB_len9 (n := sn.toNat) (by omega)
  have a3 := memB_len hus
  have a4 := txB_len (bs := memB us) (by omega)
  have a5 := txB_len (bs := ss) (by omega)
  unfold snapB
  simp only [List.length_append]
  omega
theorem chgS_ok {us : List Int} (hus : quo.RightQ us ∨ us = []) : (chgS us).Ok := ⟨by show (0 : Int) ≤ 1; omega, by show (1 : Int) ≤ 1099511627776; omega, snapB_len hus (by simp) (by omega) (by omega)⟩
/-- what load leaves -/
def FreshRet (B n v g s : Nat) (FV : Nat → Prop) (N' : Nd) (w w' : World) : Prop :=
  ∃ a, IsA w' B n a N' ∧ (∀ k, FootA n a k → (k = n ∨ FV k) ∨ w.heap.size ≤ k) ∧ Turned (fun k => k = n ∨ FV k) w w' ∧ a.v = v ∧ a.g = g ∧ a.s = s
section
attribute [local go_sem ↓] ldSn_eq
set_option maxRecDepth 100000 in
set_option maxHeartbeats 4000000 in
theorem Nload_fresh (B n v g s : Nat) (FV : Nat → Prop) (st : Vt) (id : Int) (m : Sl) (us : List Int) (w : World) (h : NcAt w n (c00 id v)) (hB : B ≤ n) (hv : IsF w B v g s FV st) (hx : st.x = []) (hroom : 16 * st.cs.length + 16 ≤ st.m) (hm : IntsR w m us) (hus : quo.RightQ us ∨ us = []) (hml : m.n ≤ 1000) :
    Calls Tryz.prog 34 #[.pointer (some ⟨n, 0, none⟩), .slice m.A m.n m.c] w fun e w' => e = .returned (.int .i64 0) ∧ FreshRet B n v g s FV (N00 id us (st.noted (chgS us))) w w' := by
  have KC := Lib.hid (NClone m us w hm (by omega))
  have H := Lib.hid h; have HV := Lib.hid hv; have Hus := Lib.hid hus; have Hx := Lib.hid hx; have Hroom := Lib.hid hroom
  have hnl := h.lt
  clear h hv hx hm hus hroom
  go_enter Tryz.func34, Tryz.ntmps34
  go_wp2_with fail
  refine KC.out.mono ?_
  rintro e w1 ⟨s1, rfl, hown1, hb1⟩
  have Hown1 := Lib.hid hown1; have Hb1 := Lib.hid hb1
  have H1 := Lib.hid (H.out.below hb1)
  have c8 := H1.out.c8; have c4 := H1.out.c4; have z8 := H1.out.fr 8; have z4 := H1.out.fr 4
  unfold c00 at c8 c4
  simp only at c8 c4
  have hw2 := ((WroteN.refl H1.out).set 8 (.slice s1.A s1.n s1.c) (c' := { c00 id v with sm := s1 }) rfl).set 4 (.int .i64 (-1)) (c' := { c00 id v with sm := s1, vo := -1 }) rfl
  obtain ⟨w2, hw2e⟩ : ∃ w2, (w1.setCell ⟨n, 8, none⟩ (.slice s1.A s1.n s1.c)).setCell ⟨n, 4, none⟩ (.int .i64 (-1)) = w2 := ⟨_, rfl⟩
  clear hown1 hb1
  go_upto_region 2 with fail
  rw [hw2e] at hw2
  have noB : ∀ {W : World}, NcAt W n (c00 id v) → ∀ T, T ≠ 101 → ∀ k cs fr, k = n → W.heap[k]? ≠ some (.cells cs T fr) := fun {W} hr T hT k cs fr e x => by
    subst e
    unfold NcAt at hr
    rw [hr] at x
    injection x with x
    injection x with _ x _
    exact hT x.symm
  have N2 := Lib.hid hw2.1
  have V2 := Lib.hid (show IsF w2 B v g s FV st from (HV.out.below Hb1.out).turned hw2.2 (fun k hk e => by
      obtain ⟨_, _, ⟨cs, T, h3, h4⟩ | ⟨es, cc, h3⟩⟩ := (HV.out.below Hb1.out).kinds hk
      · exact noB H1.out T (by rintro rfl; exact absurd h4 (by unfold TouchT; decide)) k cs _ e h3
      · subst e
        have hr := H1.out
        unfold NcAt at hr
        rw [hr] at h3; cases h3) (noB H1.out _ (by decide)))
  have M2 := Lib.hid ((IntsAt.own Hown1.out).turned hw2.2 (noB H1.out _ (by decide)))
  have T2 := Lib.hid (turned_step (Turned.of_below Hb1.out) hw2.2 fun _ _ e => e)
  clear hw2 noB c8 c4 z8 z4 hw2e
  have hgz : ∀ (k : Int) (W : World), Below w2.heap.size w2 W → k = 0 ∨ k = 1 → Calls Tryz.prog 71 #[.pointer (some ⟨v, 0, none⟩), .int .i64 k] W (GetRet [] k W) := fun k W hb hk => by
    have := Get_any B v _ _ k W (V2.out.below hb).read (by omega) (by omega)
    rw [Hx.out] at this
    exact this
  have Hgz := Lib.hid hgz
  clear hgz
  have d1 := N2.out.c1
  unfold c00 at d1
  simp only at d1
  go_wp2_with fail
  refine (Hgz.out 1 w2 (Below.refl _ _) (.inr rfl)).mono ?_
  intro e w3 hg3
  obtain ⟨A3, e3, rfl, -, hb3⟩ := GetRet.zero hg3
  have Hb3 := Lib.hid hb3
  have N3 := Lib.hid (N2.out.below hb3)
  have d1' := N3.out.c1
  unfold c00 at d1'
  simp only at d1'
  clear hg3 hb3 d1
  go_wp2_with fail
  refine (Hgz.out 0 w3 Hb3.out (.inl rfl)).mono ?_
  intro e w4 hg4
  obtain ⟨A4, e4, rfl, -, hb4⟩ := GetRet.zero hg4
  have Hb4 := Lib.hid (Hb3.out.trans (hb4.mono Hb3.out.size))
  have N4 := Lib.hid (N3.out.below hb4)
  have d7 := N4.out.c7
  have d3 := N4.out.c3
  unfold c00 at d3 d7
  simp only at d3 d7
  clear hg4 hb4 d1'
  go_upto_region 9 with fail
  go_quiet (fail)
  rename_i nq
  obtain ⟨w5, hw5⟩ : ∃ w5, w4.drewN nq = w5 := ⟨_, rfl⟩
  rw [hw5]
  have hb45 : Below w4.heap.size w4 w5 := by rw [← hw5]; exact below_drewN (Below.refl _ _) nq
  have Hb5 := Lib.hid (Hb4.out.trans (hb45.mono Hb4.out.size))
  have N5 := Lib.hid (N4.out.below hb45)
  clear hw5 hb45 d3 d7
  have KL := Lib.hid (NloadEntries_none B n _ _ w5 N5.out (by have := (V2.out.below Hb5.out).read; rw [Hx.out] at this; exact this) (by show (0 : Int) ≤ 0; omega) (by show (0 : Int) ≤ 1099511627776; omega) (by show (0 : Int) ≤ 0; omega))
  go_wp2_with fail
  refine KL.out.mono ?_
  rintro e w6 ⟨rfl, l, q, hn6, hl6, ht6⟩
  have noB5 : ∀ T, T ≠ 101 → ∀ k cs fr, k = n → w5.heap[k]? ≠ some (.cells cs T fr) := fun T hT k cs fr e x => by
    subst e
    have hr := N5.out
    unfold NcAt at hr
    rw [hr] at x
    injection x with x
    injection x with _ x _
    exact hT x.symm
  have v5 := V2.out.below Hb5.out
  have hP6 : Parts w6 B ⟨v, g, s, l, q, FV, s1, Sl.nil, Sl.nil, Sl.nil, none, Sl.nil⟩ ⟨id, 0, 0, -1, 0, 0, us, [], [], 0, 0, -1, 0, 0, false, 0, [], 0, 0, 0, [], st⟩ :=
    ⟨v5.turned ht6 (fun k hk e => by
      obtain ⟨_, _, ⟨cs, T, h3, h4⟩ | ⟨es, cc, h3⟩⟩ := v5.kinds hk
      · exact noB5 T (by rintro rfl; exact absurd h4 (by unfold TouchT; decide)) k cs _ e h3
      · subst e
        have hr := N5.out
        unfold NcAt at hr
        rw [hr] at h3; cases h3) (noB5 _ (by decide)), logD_base hl6 (by have := v5.size; exact this), (M2.out.below Hb5.out).turned ht6 (noB5 _ (by decide)), IntsAt.nil _, IntsAt.nil _, rfl, rl.SeenU.nil _ _, (fun p hp => by cases hp)⟩
  have hA6 : IsA w6 B n ⟨v, g, s, l, q, FV, s1, Sl.nil, Sl.nil, Sl.nil, none, Sl.nil⟩ ⟨id, 0, 0, -1, 0, 0, us, [], [], 0, 0, -1, 0, 0, false, 0, [], 0, 0, 0, [], st⟩ := ⟨hB, hn6, hP6⟩
  have hnew : ∀ k, rl.FootL l q k → w.heap.size ≤ k := fun k hk => by
    have h1 := (hl6.block hk).1
    have h2 := T2.out.size
    have h3 := Hb5.out.size
    omega
  have Hnew := Lib.hid hnew
  have A6 := Lib.hid hA6
  have T6 := Lib.hid (turned_step (turned_step T2.out (Turned.of_below (p := fun _ => False) Hb5.out) fun _ _ e => e.elim) ht6 fun _ _ e => e)
  clear noB5 v5 hP6 hA6 hnew hn6 hl6 ht6 KL N5 N4 N3 N2
  have d5 := A6.out.row.c5
  unfold Nd.c at d5
  simp only at d5
  have KLO := Lib.hid (NlastOf B l 0 q 0 0 [] w6 A6.out.parts.log rfl (by omega) (by omega) (by omega))
  go_wp2_with fail
  refine KLO.out.mono ?_
  rintro e w7 ⟨rfl, hb7⟩
  have A7 := Lib.hid (A6.out.below hb7)
  have B7 := Lib.hid hb7
  have KMA := Lib.hid (NmembersAt_base B n l q _ 0 0 [] w7 A7.out.row rfl A7.out.parts.log (by show (0 : Int) ≤ 0; omega))
  unfold Nd.c at KMA
  simp only at KMA
  clear hb7 d5
  rw [show (0 : Int) + ((0 : Nat) : Int) = 0 from rfl]
  go_wp2_with fail
  refine KMA.out.mono ?_
  rintro e w8 ⟨rfl, hb8⟩
  have A8 := Lib.hid (A7.out.below hb8)
  have B8 := Lib.hid (B7.out.trans (hb8.mono B7.out.size))
  have d10 := A8.out.row.c10; have d11 := A8.out.row.c11
  have z10 := A8.out.row.fr 10; have z11 := A8.out.row.fr 11
  unfold Nd.c at d10 d11
  simp only at d10 d11
  clear hb8
  have hw9 := ((WroteN.refl A8.out.row).set 10 (.slice s1.A s1.n s1.c) (c' := ({ id := id, rf := 0, te := 0, vo := -1, si := 0, sn := 0, sm := us, ss := [], mem := us, chg := 0, role := 0, lead := -1, com := 0, told := 0, unt := false, wait := 0, votes := [], ct := 0, ci := 0, clock := 0, x := [], st := st } : Nd).c ⟨v, g, s, l, q, FV, s1, Sl.nil, s1, Sl.nil, none, Sl.nil⟩) rfl).set 11 (.int .i64 0) (c' := ({ id := id, rf := 0, te := 0, vo := -1, si := 0, sn := 0, sm := us, ss := [], mem := us, chg := 0, role := 0, lead := -1, com := 0, told := 0, unt := false, wait := 0, votes := [], ct := 0, ci := 0, clock := 0, x := [], st := st } : Nd).c ⟨v, g, s, l, q, FV, s1, Sl.nil, s1, Sl.nil, none, Sl.nil⟩) rfl
  obtain ⟨w9, hw9e⟩ : ∃ w9, (w8.setCell ⟨n, 10, none⟩ (.slice s1.A s1.n s1.c)).setCell ⟨n, 11, none⟩ (.int .i64 0) = w9 := ⟨_, rfl⟩
  rw [hw9e] at hw9
  have A9 := Lib.hid (A8.out.wrote hw9 ⟨A8.out.parts.vault, A8.out.parts.log, A8.out.parts.sm, A8.out.parts.sm, A8.out.parts.votes, A8.out.parts.sslen, A8.out.parts.ss, A8.out.parts.peers⟩)
  have T9 := Lib.hid (turned_step (turned_step T6.out (Turned.of_below (p := fun _ => False) B8.out) fun _ _ e => e.elim) hw9.2 fun _ _ e => e)
  clear hw9
  go_upto_region 13 with fail
  clear d10 d11 z10 z11 hw9e
  have d19 := A9.out.row.c19; have d20 := A9.out.row.c20
  have z19 := A9.out.row.fr 19; have z20 := A9.out.row.fr 20
  unfold Nd.c at d19 d20
  simp only at d19 d20
  go_upto_region 14 with fail
  have hw10 := ((WroteN.refl A9.out.row).set 19 (.int .i64 1099511627776) (c' := ({ id := id, rf := 0, te := 0, vo := -1, si := 0, sn := 0, sm := us, ss := [], mem := us, chg := 0, role := 0, lead := -1, com := 0, told := 0, unt := false, wait := 0, votes := [], ct := 1099511627776, ci := 0, clock := 0, x := [], st := st } : Nd).c ⟨v, g, s, l, q, FV, s1, Sl.nil, s1, Sl.nil, none, Sl.nil⟩) rfl).set 20 (.int .i64 1099511627776) (c' := (N00 id us st).c ⟨v, g, s, l, q, FV, s1, Sl.nil, s1, Sl.nil, none, Sl.nil⟩) rfl
  obtain ⟨w10, hw10e⟩ : ∃ w10, (w9.setCell ⟨n, 19, none⟩ (.int .i64 1099511627776)).setCell ⟨n, 20, none⟩ (.int .i64 1099511627776) = w10 := ⟨_, rfl⟩
  rw [hw10e] at hw10 ⊢
  have A10 := Lib.hid (A9.out.wrote hw10 ⟨A9.out.parts.vault, A9.out.parts.log, A9.out.parts.sm, A9.out.parts.mem, A9.out.parts.votes, A9.out.parts.sslen, A9.out.parts.ss, A9.out.parts.peers⟩)
  have T10 := Lib.hid (turned_step T9.out hw10.2 fun _ _ e => e)
  clear hw10 hw10e d19 d20 z19 z20
  have d6 : w10.drew.cell? ⟨n, 6, none⟩ = some (.int .i64 0) := A10.out.row.c6
  have d14 : w10.drew.cell? ⟨n, 14, none⟩ = some (.int .i64 0) := A10.out.row.c14
  have d15 : w10.drew.cell? ⟨n, 15, none⟩ = some (.int .i64 0) := A10.out.row.c15
  have d16 : w10.drew.cell? ⟨n, 16, none⟩ = some (.bool false) := A10.out.row.c16
  have z14 : w10.drew.frozen? ⟨n, 14, none⟩ = false := A10.out.row.fr 14
  have z15 : w10.drew.frozen? ⟨n, 15, none⟩ = false := A10.out.row.fr 15
  have z16 : w10.drew.frozen? ⟨n, 16, none⟩ = false := A10.out.row.fr 16
  have hr10 : NcAt w10.drew n ((N00 id us st).c ⟨v, g, s, l, q, FV, s1, Sl.nil, s1, Sl.nil, none, Sl.nil⟩) := A10.out.row
  obtain ⟨w11, hw11⟩ : ∃ w11, w10.drew = w11 := ⟨_, rfl⟩
  rw [hw11] at d6 d14 d15 d16 z14 z15 z16 hr10
  have Hr10 := Lib.hid hr10
  have P10 := Lib.hid (show Parts w11 B ⟨v, g, s, l, q, FV, s1, Sl.nil, s1, Sl.nil, none, Sl.nil⟩ (N00 id us st) from by rw [← hw11]; exact A10.out.parts.below (Below.refl _ _).drew)
  have T11 := Lib.hid (show Turned (fun k => k = n) w w11 from by rw [← hw11]; exact turned_step T10.out (Turned.of_below (p := fun _ => False) (Below.refl _ _).drew) fun _ _ e => e.elim)
  clear hr10
  go_cut [4] (fun sv wx => sv = .int .i64 0 ∧ WroteN n ((N00 id us st).c ⟨v, g, s, l, q, FV, s1, Sl.nil, s1, Sl.nil, none, Sl.nil⟩) w11 wx)
  case first =>
    go_region
    all_goals
      go_wp2
      go_meet
      refine ⟨rfl, ?_⟩
      exact WroteN.set (c := (N00 id us st).c ⟨v, g, s, l, q, FV, s1, Sl.nil, s1, Sl.nil, none, Sl.nil⟩) (WroteN.set (c := (N00 id us st).c ⟨v, g, s, l, q, FV, s1, Sl.nil, s1, Sl.nil, none, Sl.nil⟩) (WroteN.set (c := (N00 id us st).c ⟨v, g, s, l, q, FV, s1, Sl.nil, s1, Sl.nil, none, Sl.nil⟩) (WroteN.refl Hr10.out) _ _ rfl) _ _ rfl) _ _ rfl
  case rest =>
    obtain ⟨rfl, hw12⟩ := hcut
    have hA11 : IsA w11 B n ⟨v, g, s, l, q, FV, s1, Sl.nil, s1, Sl.nil, none, Sl.nil⟩ (N00 id us st) := ⟨hB, Hr10.out, P10.out⟩
    have hA12 := hA11.wrote hw12 P10.out
    have A12 := Lib.hid (hA12.below (Below.refl wc.heap.size wc).drew)
    have T12 := Lib.hid (turned_step (turned_step T11.out hw12.2 fun _ _ e => e) (Turned.of_below (p := fun _ => False) (Below.refl wc.heap.size wc).drew) fun _ _ e => e.elim)
    clear hw12 hA11 hA12 d6 d14 d15 d16 z14 z15 z16 hw11
    obtain ⟨w12, hw12⟩ : ∃ w12, wc.drew = w12 := ⟨_, rfl⟩
    rw [hw12] at A12 T12
    have KT := Lib.hid (Ntext 0 0 s1 Sl.nil us [] w12 (by unfold In64; omega) (by unfold In64; omega) Hus.out A12.out.parts.sm rfl (by show 0 ≤ 10000; omega) (.inl rfl))
    have KP := Lib.hid (fun (W : World) (A : Option Addr) (m' c' : Nat) (hb : Below w12.heap.size w12 W) (hm : (snapB 0 0 us []).length = m') (hs : Seen W A (bytesV (snapB 0 0 us []))) =>
      Put_any B v g s FV st 1 A m' c' (snapB 0 0 us []) W (A12.out.parts.vault.below hb) (by omega) (by omega) hm (by have := snapB_len Hus.out (ss := []) (si := 0) (sn := 0) (by simp) (by omega) (by omega); omega) hs)
    have Hsl := Lib.hid (snapB_len Hus.out (ss := []) (si := 0) (sn := 0) (by simp) (by omega) (by omega))
    have Hfit := Lib.hid (show st.fits ⟨1, some (snapB 0 0 us [])⟩ from fits_room HV.out.ok (chgS_ok Hus.out) Hroom.out)
    have Cs := Lib.hid (show ∀ W, NcAt W n ((N00 id us st).c ⟨v, g, s, l, q, FV, s1, Sl.nil, s1, Sl.nil, none, Sl.nil⟩) → (W.cell? ⟨n, 1, none⟩ = some (.pointer (some ⟨v, 0, none⟩)) ∧ (ldSn (.pointer (some ⟨n, 6, none⟩))).run Tryz.prog W = .ok (.agg #[.int .i64 0, .int .i64 0, .slice s1.A s1.n s1.c, .slice none 0 0]) W) from fun W r => ⟨r.c1, r.ldSn⟩)
    obtain ⟨f1, f2⟩ := Cs.out _ A12.out.row
    go_upto_region 17 with fail
    go_region_held3 (fun w' => w'.cell? ⟨n, 1, none⟩ = some (.pointer (some ⟨v, 0, none⟩)) ∧ (ldSn (.pointer (some ⟨n, 6, none⟩))).run Tryz.prog w' = .ok (.agg #[.int .i64 0, .int .i64 0, .slice s1.A s1.n s1.c, .slice none 0 0]) w')
      (first | ((try rw [hw12]); exact ⟨f1, f2⟩) | exact Cs.out _ Hr13.out | exact Cs.out _ Hr14.out | exact Cs.out _ Hr15.out)
      (first
        | (go_at_call 80; (try rw [hw12]); refine KT.out.mono ?_; rintro e w13 ⟨A13, c13, rfl, hown13, hb13⟩; have Hown13 := Lib.hid hown13; have Hb13 := Lib.hid hb13; have Hr13 := Lib.hid (A12.out.row.below hb13); clear hown13 hb13)
        | (go_at_call 79; refine (KP.out w13 A13 _ c13 Hb13.out (bytes_length _).symm (Seen.of_own Hown13.out)).mono ?_; intro e w14 hp; obtain ⟨rfl, hnew, htp⟩ := hp.fit (by omega) (by omega) Hsl.out Hfit.out; have Hnew2 := Lib.hid hnew; have Htp := Lib.hid htp; have Hr14 := Lib.hid ((A12.out.below Hb13.out).row.turned htp (fun e => (A12.out.below Hb13.out).far (.inl e))); clear hp hnew htp)
        | (go_at_call 78; refine (Nkept n _ 0 w14 Hr14.out).mono ?_; rintro e w15 ⟨rfl, hw15⟩; have Hw15 := Lib.hid hw15; have Hr15 := Lib.hid (show NcAt w15 n ((N00 id us st).c ⟨v, g, s, l, q, FV, s1, Sl.nil, s1, Sl.nil, none, Sl.nil⟩) from hw15.1); clear hw15))
    go_wp2
    go_ret
    refine ⟨rfl, ?_⟩
    obtain ⟨FV', hv1, hv2⟩ := Hnew2.out
    have A13' := A12.out.below Hb13.out
    have p14 : Parts w14 B ⟨v, g, s, l, q, FV', s1, Sl.nil, s1, Sl.nil, none, Sl.nil⟩ (N00 id us (st.noted (chgS us))) := A13'.parts.put Htp.out hv1 hv2
    have h14 : IsA w14 B n ⟨v, g, s, l, q, FV', s1, Sl.nil, s1, Sl.nil, none, Sl.nil⟩ (N00 id us (st.noted (chgS us))) := ⟨hB, Hr14.out, p14⟩
    have h15 := h14.wrote Hw15.out p14
    have hs13 : w.heap.size ≤ w13.heap.size := Nat.le_trans T12.out.size Hb13.out.size
    refine ⟨_, h15, fun k hk => ?_, ?_, rfl, rfl, rfl⟩
    · rcases hk with e | e | e | e
      · exact .inl (.inl e)
      · rcases hv2 k e with e | e
        · exact .inl (.inr e)
        · exact .inr (Nat.le_trans hs13 e)
      · exact .inr (Hnew.out k e)
      · cases e
    · have t1 : Turned (fun k => k = n ∨ FV k) w w13 := (turned_step T12.out (Turned.of_below (p := fun _ => False) Hb13.out) fun _ _ e => e.elim).mono fun k _ e => .inl e
      exact turned_step (turned_step t1 Htp.out fun k _ e => .inr e) Hw15.out.2 fun k _ e => .inl e
end

/-! ### New -/
theorem node_size : (Tryz.prog.info? 101).map (·.size) = some 24 := by kernel_rfl
/-- where there is no vault, no number, or where the members aren't right -/
theorem NNew_nil (id : Int) (A : Option Addr) (m c : Nat) (w : World) : Calls Tryz.prog 10 #[.int .i64 id, .pointer none, .slice A m c] w fun e w' => e = .returned (.tuple #[.pointer none, .int .i64 1]) ∧ Below w.heap.size w w' := by
  go_enter Tryz.func10, Tryz.ntmps10
  go_wp2
  go_ret2
  exact ⟨rfl, Below.refl _ _⟩
end Go.Proofs.YtdlgihgdpdiglaaGreat
