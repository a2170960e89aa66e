/-
  Contracts of raft's mayStand, countVotes, stand and Tick of a node that is its only member. Conditions: such a node, without entries of members, whose vault has room.
-/
import Derived.Test.YtdlgihgdpdiglaaGreatRafAdd
import Derived.Test.YtdlgihgdpdiglaaGreatBalMem
import Derived.Test.YtdlgihgdpdiglaaGreatQuoByt
import Derived.Test.YtdlgihgdpdiglaaGreatBalFn
import Derived.Test.YtdlgihgdpdiglaaGreatBalByt
namespace Go.Proofs.YtdlgihgdpdiglaaGreat
open Go.ChangeShapes Go.WideShapes Go.ChangeAt Go.RowKit
set_option linter.unusedVariables false

theorem won_one {id : Int} (h : 0 ≤ id ∧ id ≤ 15) : quo.wonQ [id] [id] = true := by
  have hr := right_one h
  unfold quo.wonQ
  simp [hr, quo.cntIn]
attribute [local irreducible] wpQuiet
set_option maxRecDepth 100000 in
set_option maxHeartbeats 1000000 in
theorem NmayStand_one (B n : Nat) (a : Ad) (N : Nd) (w : World) (h : IsA w B n a N) (hm : N.mem = [N.id]) (hg : N.chg = N.si) (h0 : 0 ≤ N.si) (h3 : N.si ≤ 549755813888) :
    Calls Tryz.prog 57 #[.pointer (some ⟨n, 0, none⟩)] w fun e w' => e = .returned (.bool true) ∧ Below w.heap.size w w' := by
  have H := Lib.hid h
  have c11 := h.row.c11
  unfold Nd.c at c11
  simp only at c11
  rw [hg] at c11
  have hw : IntKind.i64.wrap (N.si - 1) = N.si - 1 := rl.i64_sub (by omega) (by omega)
  have KM := Lib.hid (NmembersAt_base B n a.l a.q (N.c a) (N.si - 1) N.sn N.x w h.row rfl h.parts.log (by show N.si - 1 ≤ N.si; omega))
  have hmem := h.parts.mem
  rw [hm] at hmem
  have hml := hmem.len
  have Hmem := Lib.hid hmem
  have Hml := Lib.hid (show a.mem.n ≤ 1000000 from by rw [← hml]; simp)
  clear h hmem hml
  go_enter Tryz.func57, Tryz.ntmps57
  go_wp2_with fail
  refine KM.out.mono ?_
  rintro e w1 ⟨rfl, hb1⟩
  have Hb1 := Lib.hid hb1
  have KI := Lib.hid (fun (q : BelowOf w1) => NisMember n (N.c a) [N.id] q.v (((H.out.row.below hb1)).below q.h) ((Hmem.out.below hb1).below q.h) Hml.out)
  rw [show decide ((N.c a).id ∈ [N.id]) = true from by simp [Nd.c]] at KI
  clear hb1 c11 hw
  go_upto_region 2 with fail
  refine wp_region_quiet_below (by kernel_rfl) (by kernel_rfl) ?_
  repeat (quiet_step (fail))
  quiet_step (exact Calls.below_of (KI.out _))
  repeat (quiet_step (fail))
  refine wpQuiet_nil ?_
  rintro _ ⟨⟨w9, hb9⟩, rfl⟩
  have Hb9 := Lib.hid hb9
  clear hb9
  go_wp2
  go_ret
  exact ⟨rfl, Hb1.out.trans (Hb9.out.mono Hb1.out.size)⟩
set_option maxRecDepth 100000 in
set_option maxHeartbeats 1000000 in
theorem NcountVotes_one (B n : Nat) (a : Ad) (N : Nd) (w : World) (h : IsA w B n a N) (hv : N.votes = [N.id]) (hr : N.rf = 0) (hm : N.mem = [N.id]) (hid : 0 ≤ N.id ∧ N.id ≤ 15) (hl : N.x.length < 90000) (h0 : 0 ≤ N.si) (h3 : N.si ≤ 549755813888) (ht : In64 N.te) (hroom : 16 * N.st.cs.length + 16 ≤ N.st.m) (hc : N.com ≤ N.si + N.x.length) :
    Calls Tryz.prog 117 #[.pointer (some ⟨n, 0, none⟩)] w fun e w' => e = .returned (.tuple #[]) ∧ ∃ FV' q' p, MovE B n a { a with FV := FV', q := q', votes := Sl.nil, peers := some p } (N.leads.added 0 []) w w' := by
  have H := Lib.hid h
  have hmem := h.parts.mem
  rw [hm] at hmem
  have hvot := h.parts.votes
  rw [hv] at hvot
  have hml := hmem.len
  have hvl := hvot.len
  have e10 : ∀ q : BelowOf w, q.v.cell? ⟨n, 10, none⟩ = some (.slice a.mem.A a.mem.n a.mem.c) := fun q => (h.row.below q.h).c10
  have e18 : ∀ q : BelowOf w, q.v.cell? ⟨n, 18, none⟩ = some (.slice a.votes.A a.votes.n a.votes.c) := fun q => (h.row.below q.h).c18
  have KW := Lib.hid (fun q : BelowOf w => quo.Won_any a.mem.A a.votes.A a.mem.n a.mem.c a.votes.n a.votes.c [N.id] [N.id] q.v hml (by rw [← hml]; simp [maxLen]) (hmem.below q.h).see hvl (by rw [← hvl]; simp) (hvot.below q.h).see (fun x hx => by rw [List.mem_singleton.1 hx]; unfold In64; omega))
  rw [won_one hid] at KW
  clear h hmem hvot hml hvl
  go_enter Tryz.func117, Tryz.ntmps117
  go_upto_region 0 with fail
  refine wp_region_quiet_below (by kernel_rfl) (by kernel_rfl) ?_
  repeat (quiet_step (fail))
  quiet_step (exact Calls.below_of (KW.out _))
  refine wpQuiet_nil ?_
  rintro w1 ⟨⟨_, hb1⟩, rfl⟩
  have M1 := Lib.hid (MovE.of_below H.out hb1)
  have KL := Lib.hid (Nlead_one B n a N w1 M1.out.1 hr hm hid hl h0 h3 ht hroom hc)
  clear hb1 e10 e18
  go_wp2_with fail
  refine KL.out.mono ?_
  rintro e w2 ⟨rfl, FV', q', p, hm2⟩
  have M2 := Lib.hid hm2
  clear hm2
  go_wp2
  go_end0
  exact ⟨rfl, FV', q', p, M1.out.trans M2.out⟩

/-! ### stand -/
theorem LastD (B g n : Nat) (q : Option Nat) (base term : Int) (x : List rl.Dat) (w : World) (h : rl.LogD w B g q base term x) (hn : x.length = n) (h0 : 0 ≤ base) (h3 : base ≤ 4611686018427387904) (hl : n ≤ 1000000) :
    Calls Tryz.prog 35 #[.pointer (some ⟨g, 0, none⟩)] w fun e w' => e = .returned (.tuple #[.int .i64 (base + n), .int .i64 (rl.termN term x n)]) ∧ Below w.heap.size w w' := by
  obtain ⟨X, rfl, h⟩ := h
  rw [List.length_map] at hn
  have := rl.Last_any B g n q base term X w h hn h0 h3 hl
  rw [rl.lastT_eq, hn] at this
  exact this
def stBl (p v : Value) : Sem Unit := Instr.storeAt 92 p v
theorem stBl_eq (p v : Value) : Instr.storeAt 92 p v = stBl p v := rfl
/-- a node that stands, ahead of noting where its log ends -/
def Nd.rises (N : Nd) : Nd := { (N.cast ⟨N.te + 1, N.id⟩).rested with role := 1, lead := -1, wait := 0, votes := [N.id] }
/-- a node that stands alone, and leads at once -/
def Nd.stood (N : Nd) : Nd := { (N.cast ⟨N.te + 1, N.id⟩).rested with role := 1, lead := -1, wait := 0, votes := [N.id], ct := rl.termN N.sn N.x N.x.length, ci := N.si + N.x.length }
section
attribute [local go_sem ↓] bal.ldBal_eq stBl_eq
set_option maxRecDepth 100000 in
set_option maxHeartbeats 4000000 in
theorem Nstand_one (B n : Nat) (a : Ad) (N : Nd) (w : World) (h : IsA w B n a N) (hr : N.rf = 0) (hm : N.mem = [N.id]) (hid : 0 ≤ N.id ∧ N.id ≤ 15) (hl : N.x.length < 90000) (h0 : 0 ≤ N.si) (h3 : N.si ≤ 549755813888) (ht : 0 ≤ N.te ∧ N.te < 1099511627776) (hvo : In64 N.vo) (hroom : 16 * N.st.cs.length + 32 ≤ N.st.m) (hc : N.com ≤ N.si + N.x.length) :
    Calls Tryz.prog 58 #[.pointer (some ⟨n, 0, none⟩)] w fun e w' => e = .returned (.tuple #[]) ∧ ∃ a' p, a'.peers = some p ∧ MovE B n a a' (N.stood.leads.added 0 []) w w' := by
  have H := Lib.hid h
  have hst : bal.standB ⟨N.te, N.vo⟩ N.id = ⟨N.te + 1, N.id⟩ := by
    unfold bal.standB
    rw [if_neg (by simp only; omega)]
  have KS := Lib.hid (fun W => bal.Stand_any ⟨N.te, N.vo⟩ N.id W ⟨by unfold In64; simp only; omega, hvo⟩)
  rw [hst] at KS
  simp only at KS
  obtain ⟨w1, hw1⟩ : ∃ w1, w.drew.alloc (.cells #[.int .i64 0, .int .i64 0] 92) = w1 := ⟨_, rfl⟩
  have hb1 : Below w.heap.size w w1 := by rw [← hw1]; exact ((Below.refl w.heap.size w).drew).alloc (Nat.le_refl _) _
  have hh1 : bal.BalAt w1 w.heap.size ⟨0, 0⟩ := by rw [← hw1]; exact heap_alloc_new w.drew _
  have Hb1 := Lib.hid hb1; have Hh1 := Lib.hid hh1
  have l0 : (bal.ldBal (.pointer (some ⟨n, 3, none⟩))).run Tryz.prog w.drew = .ok (.agg #[.int .i64 N.te, .int .i64 N.vo]) w.drew := (h.row.below (Below.refl _ _).drew).ldBl
  have l1 : (bal.ldBal (.pointer (some ⟨n, 3, none⟩))).run Tryz.prog w1 = .ok (.agg #[.int .i64 N.te, .int .i64 N.vo]) w1 := (h.row.below hb1).ldBl
  have k0 : w.drew.cell? ⟨n, 0, none⟩ = some (.int .i64 N.id) := h.row.c0
  have k1 : w1.cell? ⟨n, 0, none⟩ = some (.int .i64 N.id) := (h.row.below hb1).c0
  clear h hb1 hh1 hst
  go_enter Tryz.func58, Tryz.ntmps58
  go_upto_region 0 with fail
  go_cut [2] (fun pv wx => ∃ bx, pv = .pointer (some ⟨bx, 0, none⟩) ∧ w.heap.size ≤ bx ∧ bal.BalAt wx bx ⟨N.te + 1, N.id⟩ ∧ Below w.heap.size w wx)
  case first =>
    go_region_with (first
      | (go_at_call 112; (with_reducible refine (KS.out w1).mono ?_); rintro e w2 ⟨rfl, hb2⟩; have B2 := Lib.hid (Hb1.out.trans (hb2.mono Hb1.out.size)); obtain ⟨w4, hst4, hg4, ht4⟩ := st_row (T := 92) (new := #[.int .i64 (N.te + 1), .int .i64 N.id]) (Hh1.out.below hb2) rfl bal.bal_info (by simp [Value.oneCell']); rw [stBl_eq] at hst4; have Hf4 := Lib.hid (show w.heap.size ≤ w.heap.size ∧ bal.BalAt w4 w.heap.size ⟨N.te + 1, N.id⟩ ∧ Below w.heap.size w w4 from ⟨Nat.le_refl _, hg4, B2.out.trans (ht4.below (fun k e => by omega) B2.out.size)⟩); clear hb2 hg4 ht4)
      | (go_at_call 112; refine (KS.out w.drew).mono ?_; rintro e w2 ⟨rfl, hb2⟩; have B2 := Lib.hid ((Below.refl w.heap.size w).drew.trans hb2); obtain ⟨w3, hw3⟩ : ∃ w3, w2.alloc (.cells #[.int .i64 0, .int .i64 0] 92) = w3 := ⟨_, rfl⟩; have hh3 : bal.BalAt w3 w2.heap.size ⟨0, 0⟩ := (by rw [← hw3]; exact heap_alloc_new w2 _); have b3 : Below w2.heap.size w2 w3 := (by rw [← hw3]; exact box_below _ _); obtain ⟨w4, hst4, hg4, ht4⟩ := st_row (T := 92) (new := #[.int .i64 (N.te + 1), .int .i64 N.id]) hh3 rfl bal.bal_info (by simp [Value.oneCell']); rw [stBl_eq] at hst4; have Hf4 := Lib.hid (show w.heap.size ≤ w2.heap.size ∧ bal.BalAt w4 w2.heap.size ⟨N.te + 1, N.id⟩ ∧ Below w.heap.size w w4 from ⟨B2.out.size, hg4, (B2.out.trans (b3.mono B2.out.size)).trans (ht4.below (fun k e => by have := B2.out.size; omega) (Nat.le_trans B2.out.size b3.size))⟩); clear hb2 hg4 ht4 hh3 b3))
    all_goals
      go_wp2
      go_meet
      exact ⟨_, rfl, Hf4.out⟩
  case rest =>
    obtain ⟨bx, rfl, hbx, hbal, hbc⟩ := hcut
    have Mc := Lib.hid (MovE.of_below H.out hbc)
    have Hbx := Lib.hid hbx; have Hbal := Lib.hid hbal; have Bc := Lib.hid hbc
    have hld := bal.ldBal_run hbal
    simp only at hld
    have hrb : bal.RightB ⟨N.te + 1, N.id⟩ := by unfold bal.RightB; simp only; omega
    have KRt := Lib.hid (bal.Right_any ⟨N.te + 1, N.id⟩ wc)
    rw [decide_eq_true hrb] at KRt
    have Hrb := Lib.hid hrb
    clear hbx hbal hbc l0 l1 k0 k1 hw1 hrb
    have KC := Lib.hid (fun W (hb : Below wc.heap.size wc W) => Ncast_over B n a N ⟨N.te + 1, N.id⟩ W (Mc.out.1.below hb) hr Hrb.out (by simp only; omega) (by omega))
    have Ldq := Lib.hid (show ∀ W, Below wc.heap.size wc W → (bal.ldBal (.pointer (some ⟨bx, 0, none⟩))).run Tryz.prog W = .ok (.agg #[.int .i64 (N.te + 1), .int .i64 N.id]) W from fun W hb => bal.ldBal_run (Hbal.out.below hb))
    go_upto_region 2 with (first
      | (go_at_call 113; refine KRt.out.mono ?_; rintro e w2 ⟨rfl, hb2⟩; have Hb2 := Lib.hid hb2; have hld2 := Ldq.out w2 hb2; clear hb2)
      | (go_at_call 114; refine (KC.out w2 Hb2.out).mono ?_; rintro e w3 ⟨rfl, hm3⟩; have M3 := Lib.hid ((Mc.out.below Hb2.out).then hm3); clear hm3))
    obtain ⟨a1, hm3⟩ := M3.out
    have M3E := Lib.hid (show MovE B n a a1 ((N.cast ⟨N.te + 1, N.id⟩).rested) w w3 from hm3)
    clear hm3 M3 hld hld2
    have c0 := M3E.out.1.row.c0
    unfold Nd.c Nd.rested Nd.cast at c0
    simp only at c0
    obtain ⟨w4, hw4⟩ : ∃ w4, w3.alloc (.cells #[.int .i64 N.id] 3) = w4 := ⟨_, rfl⟩
    have hb4 : Below w3.heap.size w3 w4 := by rw [← hw4]; exact box_below _ _
    have hh4 : w4.heap[w3.heap.size]? = some (.cells #[.int .i64 N.id] 3 (0, 0)) := by rw [← hw4]; exact heap_alloc_new _ _
    have M4 := Lib.hid (M3E.out.below hb4)
    have Hv4 := Lib.hid (show IntsAt w4 ⟨some ⟨w3.heap.size, 0, none⟩, 1, 1⟩ [N.id] from ⟨rfl, Nat.le_refl _, Seen.of_cells hh4, .inr ⟨_, 0, _, _, rfl, hh4⟩⟩)
    have d12 := M4.out.1.row.c12; have d13 := M4.out.1.row.c13; have d17 := M4.out.1.row.c17; have d18 := M4.out.1.row.c18
    have z12 := M4.out.1.row.fr 12; have z13 := M4.out.1.row.fr 13; have z17 := M4.out.1.row.fr 17; have z18 := M4.out.1.row.fr 18
    unfold Nd.c Nd.rested Nd.cast at d12 d13 d17 d18
    simp only at d12 d13 d17 d18
    go_upto_region 3 with fail
    have hw5 := ((((WroteN.refl M4.out.1.row).set 12 (.int .i64 1) (c' := ({ (N.cast ⟨N.te + 1, N.id⟩).rested with role := 1 } : Nd).c a1) rfl).set 13 (.int .i64 (-1)) (c' := ({ (N.cast ⟨N.te + 1, N.id⟩).rested with role := 1, lead := -1 } : Nd).c a1) rfl).set 17 (.int .i64 0) (c' := ({ (N.cast ⟨N.te + 1, N.id⟩).rested with role := 1, lead := -1, wait := 0 } : Nd).c a1) rfl).set 18 (.slice (some ⟨w3.heap.size, 0, none⟩) 1 1) (c' := N.rises.c { a1 with votes := ⟨some ⟨w3.heap.size, 0, none⟩, 1, 1⟩ }) rfl
    change Code.wp _ _ _ _ ((((w4.setCell ⟨n, 12, none⟩ (.int .i64 1)).setCell ⟨n, 13, none⟩ (.int .i64 (-1))).setCell ⟨n, 17, none⟩ (.int .i64 0)).setCell ⟨n, 18, none⟩ (.slice (some ⟨w3.heap.size, 0, none⟩) 1 1))
    obtain ⟨w5, hw5e⟩ : ∃ w5, (((w4.setCell ⟨n, 12, none⟩ (.int .i64 1)).setCell ⟨n, 13, none⟩ (.int .i64 (-1))).setCell ⟨n, 17, none⟩ (.int .i64 0)).setCell ⟨n, 18, none⟩ (.slice (some ⟨w3.heap.size, 0, none⟩) 1 1) = w5 := ⟨_, rfl⟩
    rw [hw5e] at hw5 ⊢
    have p4 := M4.out.1.parts
    have M5 := Lib.hid (M4.out.wrote hw5 (a2 := { a1 with votes := ⟨some ⟨w3.heap.size, 0, none⟩, 1, 1⟩ }) (N2 := N.rises) ⟨p4.vault, p4.log, p4.sm, p4.mem, Hv4.out, p4.sslen, p4.ss, p4.peers⟩ (fun j e => .inl e) rfl rfl rfl)
    clear hw5 hw5e p4 d12 d13 d17 d18 z12 z13 z17 z18 c0 hh4 hb4 hw4 KC Ldq
    obtain ⟨vs, hvs⟩ : ∃ vs : Sl, (⟨some ⟨w3.heap.size, 0, none⟩, 1, 1⟩ : Sl) = vs := ⟨_, rfl⟩
    rw [hvs] at M5
    have e5 := M5.out.1.row.c5
    unfold Nd.c at e5
    simp only at e5
    obtain ⟨L, hL⟩ : ∃ L, N.x.length = L := ⟨_, rfl⟩
    have KLd := Lib.hid (LastD B a1.l L a1.q N.si N.sn N.x w5 M5.out.1.parts.log hL h0 (by omega) (by omega))
    obtain ⟨tl, htl⟩ : ∃ tl, rl.termN N.sn N.x L = tl := ⟨_, rfl⟩
    rw [htl] at KLd
    go_wp2_with fail
    refine KLd.out.mono ?_
    rintro e w6 ⟨rfl, hb6⟩
    have M6 := Lib.hid (M5.out.below hb6)
    clear hb6 e5
    go_wp2_with fail
    refine (NendOf (N.si + (L : Int)) tl w6).mono ?_
    rintro e w7 ⟨rfl, hb7⟩
    have M7 := Lib.hid (M6.out.below hb7)
    have d19 := M7.out.1.row.c19; have d20 := M7.out.1.row.c20
    have z19 := M7.out.1.row.fr 19; have z20 := M7.out.1.row.fr 20
    unfold Nd.c at d19 d20
    simp only at d19 d20
    have hw8 := ((WroteN.refl M7.out.1.row).set 19 (.int .i64 tl) (c' := ({ N.rises with ct := tl } : Nd).c { a1 with votes := vs }) rfl).set 20 (.int .i64 (N.si + (L : Int))) (c' := ({ N.rises with ct := tl, ci := N.si + (L : Int) } : Nd).c { a1 with votes := vs }) rfl
    obtain ⟨w8, hw8e⟩ : ∃ w8, (w7.setCell ⟨n, 19, none⟩ (.int .i64 tl)).setCell ⟨n, 20, none⟩ (.int .i64 (N.si + (L : Int))) = w8 := ⟨_, rfl⟩
    rw [hw8e] at hw8
    have p7 := M7.out.1.parts
    have hst8 : ({ N.rises with ct := tl, ci := N.si + (L : Int) } : Nd) = N.stood := by unfold Nd.stood Nd.rises; rw [← hL] at htl ⊢; rw [htl]
    have M8 := Lib.hid (M7.out.wrote hw8 ⟨p7.vault, p7.log, p7.sm, p7.mem, p7.votes, p7.sslen, p7.ss, p7.peers⟩ (fun j e => .inl e) rfl rfl rfl)
    rw [hst8] at M8
    have hmem := M8.out.1.parts.mem
    rw [show N.stood.mem = [N.id] from hm] at hmem
    have hml := hmem.len
    have KO := Lib.hid (Nothers n _ [N.id] w8 M8.out.1.row hmem (by simp) (by show a1.mem.n ≤ _; have := hml; simp at this; omega))
    rw [show othersL [N.id] (N.stood.c { a1 with votes := vs }).id = [] from others_one N.id] at KO
    clear hw8 p7 hst8 hmem hml hb7
    go_wp2_with fail
    refine KO.out.mono ?_
    rintro e w9 ⟨A9, c9, rfl, hown9, hb9⟩
    have M9 := Lib.hid (M8.out.below hb9)
    rw [show (numsV ([] : List Int)).length = 0 from rfl]
    have KV := Lib.hid (NcountVotes_one B n _ N.stood w9 M9.out.1 rfl hr hm hid hl h0 h3 (by show In64 (N.te + 1); unfold In64; omega) (by show 16 * (N.st.noted _).cs.length + 16 ≤ (N.st.noted _).m; rw [noted_len, noted_m]; omega) hc)
    clear hown9 hb9 d19 d20 z19 z20 hw8e hvs
    go_wp2
    go_loopw [54] (fun iv wr => iv = .int .i64 0 ∧ wr = w9) (fun _ _ => 0)
    case atStart => exact ⟨rfl, rfl⟩
    case round =>
      obtain ⟨rfl, hwr⟩ := hrel
      subst hwr
      go_wp2_with fail
      refine KV.out.mono ?_
      rintro e w10 ⟨rfl, FV', q', p, hm10⟩
      have M10 := Lib.hid hm10
      clear hm10
      go_wp2
      go_end0
      exact ⟨rfl, _, p, rfl, M9.out.trans M10.out⟩
end
end Go.Proofs.YtdlgihgdpdiglaaGreat
