/-
  Joined: RafTck, RafFsh, RafAwk. Conditions: each theorem's own.
-/
import Derived.Test.YtdlgihgdpdiglaaGreatRafStd
import Derived.Test.YtdlgihgdpdiglaaGreatJRafC
import Derived.Test.YtdlgihgdpdiglaaGreatVfA
import Derived.Test.YtdlgihgdpdiglaaGreatRafAdd
import Derived.Test.YtdlgihgdpdiglaaGreatJRafA

section
namespace Go.Proofs.YtdlgihgdpdiglaaGreat
open Go.ChangeShapes Go.WideShapes Go.ChangeAt Go.RowKit
set_option linter.unusedVariables false

attribute [local irreducible] wpQuiet
set_option maxRecDepth 100000 in
set_option maxHeartbeats 1000000 in
theorem NTick_lead (B n : Nat) (a : Ad) (N : Nd) (w : World) (h : IsA w B n a N) (hr : N.rf = 0) (hro : N.role = 2) (hm : N.mem = [N.id]) (h0 : 0 ≤ N.clock) (h1 : N.clock ≤ 1000000) :
    Calls Tryz.prog 26 #[.pointer (some ⟨n, 0, none⟩)] w fun e w' => e = .returned (.tuple #[]) ∧ MovE B n a a { N with clock := N.clock + 1 } w w' := by
  have H := Lib.hid h
  have KD := Lib.hid (NDead n (N.c a) w h.row)
  have hd : decide ((N.c a).rf ≠ 0) = false := by simp [Nd.c, hr]
  rw [hd] at KD
  have c12 := h.row.c12; have c21 := h.row.c21; have z21 := h.row.fr 21
  unfold Nd.c at c12 c21
  simp only at c12 c21
  rw [hro] at c12
  have hw : IntKind.i64.wrap (N.clock + 1) = N.clock + 1 := rl.i64_add (by omega) (by omega)
  have hw1 := (WroteN.refl h.row).set 21 (.int .i64 (N.clock + 1)) (c' := ({ N with clock := N.clock + 1 } : Nd).c a) rfl
  have p0 := h.parts
  have hm1 := (MovE.refl h).wrote hw1 ⟨p0.vault, p0.log, p0.sm, p0.mem, p0.votes, p0.sslen, p0.ss, p0.peers⟩ (fun j e => .inl e) rfl rfl rfl
  obtain ⟨w1, hw1e⟩ : ∃ w1, w.setCell ⟨n, 21, none⟩ (.int .i64 (N.clock + 1)) = w1 := ⟨_, rfl⟩
  rw [hw1e] at hm1
  have c21b := hm1.1.row.c21
  unfold Nd.c at c21b
  simp only at c21b
  have M1 := Lib.hid hm1
  have KH := Lib.hid (NhandAll_one B n _ _ w1 hm1.1 hm)
  clear h hd hw1 p0 hm1
  by_cases h3 : (N.clock + 1) % 3 = 0
  · have q3 : ((N.clock + 1) % 3 == 0) = true := by simpa using h3
    clear h3
    go_enter Tryz.func26, Tryz.ntmps26
    go_wp2_with (first
      | (go_at_call 39; refine KD.out.mono ?_; rintro e w2 ⟨rfl, rfl⟩)
      | (go_at_call 56; refine KH.out.mono ?_; rintro e w3 ⟨rfl, hb3⟩; have Hb3 := Lib.hid hb3; clear hb3))
    go_end0
    exact ⟨rfl, M1.out.below Hb3.out⟩
  · have q3 : ((N.clock + 1) % 3 == 0) = false := by simpa using h3
    clear h3
    go_enter Tryz.func26, Tryz.ntmps26
    go_wp2_with (first
      | (go_at_call 39; refine KD.out.mono ?_; rintro e w2 ⟨rfl, rfl⟩))
    go_end0
    exact ⟨rfl, M1.out⟩
set_option maxRecDepth 100000 in
set_option maxHeartbeats 1000000 in
theorem NTick_wait (B n : Nat) (a : Ad) (N : Nd) (w : World) (h : IsA w B n a N) (hr : N.rf = 0) (hro : N.role = 0) (hm : N.mem = [N.id]) (hid : 0 ≤ N.id ∧ N.id ≤ 15) (h0 : 0 ≤ N.wait) (h1 : N.wait ≤ 1000000) (hwt : ¬ N.wait + 1 = 13 + 7 * N.id) :
    Calls Tryz.prog 26 #[.pointer (some ⟨n, 0, none⟩)] w fun e w' => e = .returned (.tuple #[]) ∧ MovE B n a a { N with wait := N.wait + 1 } w w' := by
  have H := Lib.hid h
  have KD := Lib.hid (NDead n (N.c a) w h.row)
  have hd : decide ((N.c a).rf ≠ 0) = false := by simp [Nd.c, hr]
  rw [hd] at KD
  have c12 := h.row.c12; have c17 := h.row.c17; have z17 := h.row.fr 17
  unfold Nd.c at c12 c17
  simp only at c12 c17
  rw [hro] at c12
  have hw : IntKind.i64.wrap (N.wait + 1) = N.wait + 1 := rl.i64_add (by omega) (by omega)
  have hx1 : IntKind.i64.wrap (7 * N.id) = 7 * N.id := by
    have e := rl.i64_add (a := 6 * N.id) (b := N.id) (by omega) (by omega)
    rwa [show 6 * N.id + N.id = 7 * N.id by omega] at e
  have hx2 : IntKind.i64.wrap (13 + 7 * N.id) = 13 + 7 * N.id := rl.i64_add (by omega) (by omega)
  have hq : (N.wait + 1 == 13 + 7 * N.id) = false := by simpa using hwt
  have hw1 := (WroteN.refl h.row).set 17 (.int .i64 (N.wait + 1)) (c' := ({ N with wait := N.wait + 1 } : Nd).c a) rfl
  have p0 := h.parts
  have hm1 := (MovE.refl h).wrote hw1 ⟨p0.vault, p0.log, p0.sm, p0.mem, p0.votes, p0.sslen, p0.ss, p0.peers⟩ (fun j e => .inl e) rfl rfl rfl
  obtain ⟨w1, hw1e⟩ : ∃ w1, w.setCell ⟨n, 17, none⟩ (.int .i64 (N.wait + 1)) = w1 := ⟨_, rfl⟩
  rw [hw1e] at hm1
  have d17 : ∀ q : BelowOf w1, q.v.cell? ⟨n, 17, none⟩ = some (.int .i64 (N.wait + 1)) := fun q => (hm1.1.row.below q.h).c17
  have d0 : ∀ q : BelowOf w1, q.v.cell? ⟨n, 0, none⟩ = some (.int .i64 N.id) := fun q => (hm1.1.row.below q.h).c0
  have M1 := Lib.hid hm1
  clear h hd hw1 p0 hm1 hwt h0 h1 hro
  go_enter Tryz.func26, Tryz.ntmps26
  go_wp2_with (first
    | (go_at_call 39; refine KD.out.mono ?_; rintro e w2 ⟨rfl, rfl⟩))
  refine wp_region_quiet_below (by kernel_rfl) (by kernel_rfl) ?_
  repeat (quiet_step (fail))
  refine wpQuiet_nil ?_
  rintro _ ⟨⟨w9, hb9⟩, rfl⟩
  have Hb9 := Lib.hid hb9
  clear hb9
  go_wp2
  go_end0
  exact ⟨rfl, M1.out.below Hb9.out⟩
set_option maxRecDepth 100000 in
set_option maxHeartbeats 1000000 in
theorem NTick_stand (B n : Nat) (a : Ad) (N : Nd) (w : World) (h : IsA w B n a N) (hr : N.rf = 0) (hro : N.role = 0) (hm : N.mem = [N.id]) (hid : 0 ≤ N.id ∧ N.id ≤ 15) (h0 : 0 ≤ N.wait) (h1 : N.wait ≤ 1000000) (hwt : N.wait + 1 = 13 + 7 * N.id) (hg : N.chg = N.si) (hl : N.x.length < 90000) (hs0 : 0 ≤ N.si) (hs3 : N.si ≤ 549755813888) (ht : 0 ≤ N.te ∧ N.te < 1099511627776) (hvo : In64 N.vo) (hroom : 16 * N.st.cs.length + 32 ≤ N.st.m) (hc : N.com ≤ N.si + N.x.length) :
    Calls Tryz.prog 26 #[.pointer (some ⟨n, 0, none⟩)] w fun e w' => e = .returned (.tuple #[]) ∧ ∃ a' p, a'.peers = some p ∧ MovE B n a a' (({ N with wait := N.wait + 1 } : Nd).stood.leads.added 0 []) w w' := by
  have H := Lib.hid h
  have KD := Lib.hid (NDead n (N.c a) w h.row)
  have hd : decide ((N.c a).rf ≠ 0) = false := by simp [Nd.c, hr]
  rw [hd] at KD
  have c12 := h.row.c12; have c17 := h.row.c17; have z17 := h.row.fr 17
  unfold Nd.c at c12 c17
  simp only at c12 c17
  rw [hro] at c12
  have hw : IntKind.i64.wrap (N.wait + 1) = N.wait + 1 := rl.i64_add (by omega) (by omega)
  have hx1 : IntKind.i64.wrap (7 * N.id) = 7 * N.id := by
    have e := rl.i64_add (a := 6 * N.id) (b := N.id) (by omega) (by omega)
    rwa [show 6 * N.id + N.id = 7 * N.id by omega] at e
  have hx2 : IntKind.i64.wrap (13 + 7 * N.id) = 13 + 7 * N.id := rl.i64_add (by omega) (by omega)
  have hq : (N.wait + 1 == 13 + 7 * N.id) = true := by simpa using hwt
  have hw1 := (WroteN.refl h.row).set 17 (.int .i64 (N.wait + 1)) (c' := ({ N with wait := N.wait + 1 } : Nd).c a) rfl
  have p0 := h.parts
  have hm1 := (MovE.refl h).wrote hw1 ⟨p0.vault, p0.log, p0.sm, p0.mem, p0.votes, p0.sslen, p0.ss, p0.peers⟩ (fun j e => .inl e) rfl rfl rfl
  obtain ⟨w1, hw1e⟩ : ∃ w1, w.setCell ⟨n, 17, none⟩ (.int .i64 (N.wait + 1)) = w1 := ⟨_, rfl⟩
  rw [hw1e] at hm1
  have d17 : ∀ q : BelowOf w1, q.v.cell? ⟨n, 17, none⟩ = some (.int .i64 (N.wait + 1)) := fun q => (hm1.1.row.below q.h).c17
  have d0 : ∀ q : BelowOf w1, q.v.cell? ⟨n, 0, none⟩ = some (.int .i64 N.id) := fun q => (hm1.1.row.below q.h).c0
  have M1 := Lib.hid hm1
  have KM := Lib.hid (fun (q : BelowOf w1) => NmayStand_one B n a _ q.v (hm1.1.below q.h) hm hg hs0 hs3)
  clear h hd hw1 p0 hm1 hwt h0 h1 hro
  go_enter Tryz.func26, Tryz.ntmps26
  go_wp2_with (first
    | (go_at_call 39; refine KD.out.mono ?_; rintro e w2 ⟨rfl, rfl⟩))
  refine wp_region_quiet_below (by kernel_rfl) (by kernel_rfl) ?_
  repeat (quiet_step (fail))
  quiet_step (exact Calls.below_of (KM.out _))
  repeat (quiet_step (fail))
  refine wpQuiet_nil ?_
  rintro _ ⟨⟨w9, hb9⟩, rfl⟩
  have hm9 := M1.out.below hb9
  have KS := Lib.hid (Nstand_one B n a _ _ hm9.1 hr hm hid hl hs0 hs3 ht hvo hroom hc)
  have M9 := Lib.hid hm9
  clear hb9 hm9
  go_wp2_with fail
  refine KS.out.mono ?_
  rintro e w10 ⟨rfl, a', p, hp, hm10⟩
  have M10 := Lib.hid hm10
  clear hm10
  go_wp2
  go_end0
  exact ⟨rfl, a', p, hp, M9.out.trans M10.out⟩
end Go.Proofs.YtdlgihgdpdiglaaGreat
end

section
namespace Go.Proofs.YtdlgihgdpdiglaaGreat
open Go.ChangeShapes Go.WideShapes Go.ChangeAt Go.RowKit
set_option linter.unusedVariables false

theorem footD_lo {w : World} {B g s : Nat} {r : Option Nat} {d : Dv} (h : IsD w B g s r d) {k : Nat} (hk : FootD g s r k) : B ≤ k := by
  have hl := h.lt
  rcases hk with e | e | e
  · omega
  · omega
  · exact (hl.2.2.2.2 k e).1
theorem IsA.foot_lo {w : World} {B n : Nat} {a : Ad} {N : Nd} (h : IsA w B n a N) {k : Nat} (hk : FootA n a k) : B ≤ k := by
  rcases hk with e | e
  · rw [e]; exact h.lo
  · exact (h.parts.kinds e).1
theorem IsA.size {w : World} {B n : Nat} {a : Ad} {N : Nd} (h : IsA w B n a N) : B ≤ w.heap.size := Nat.le_trans h.lo (Nat.le_of_lt h.row.lt)
/-- what a node's call leaves turned nothing below -/
theorem MovE.low {B n : Nat} {a a' : Ad} {N N' : Nd} {w w' : World} (h0 : IsA w B n a N) (h : MovE B n a a' N' w w') : Below B w w' := h.2.2.1.below (fun k hk => h0.foot_lo hk) h0.size
/-- a node was made upon a fresh device -/
theorem made_low {B v g s : Nat} {FV : Nat → Prop} {st : Vt} {N' : Nd} {w w1 w' : World} {e : Ending} (hv : IsF w1 B v g s FV st) (hw : Below B w w1) (h : NewNode B v g s FV N' w1 e w') :
    ∃ n a, e = .returned (.tuple #[.pointer (some ⟨n, 0, none⟩), .int .i64 0]) ∧ IsA w' B n a N' ∧ Below B w w' := by
  obtain ⟨n, a, h1, h2, h3, h4, h5, _⟩ := h
  exact ⟨n, a, h1, h3, hw.trans (h5.below (fun k hk => (hv.kinds hk).1) hv.size)⟩

attribute [local irreducible] wpQuiet
set_option maxRecDepth 100000 in
set_option maxHeartbeats 1000000 in
theorem LFresh_any (id : Int) (m : Sl) (us : List Int) (w : World) (hid : 0 ≤ id ∧ id ≤ 15) (hm : IntsR w m us) (hus : quo.RightQ us ∨ us = []) (hml : m.n ≤ 1000) :
    Calls Tryz.prog 24 #[.int .i64 id, .slice m.A m.n m.c] w fun e w' => ∃ n g a, e = .returned (.tuple #[.pointer (some ⟨n, 0, none⟩), .pointer (some ⟨g, 0, none⟩)]) ∧ IsA w' w.heap.size n a (N00 id us ((Vt.new 2048).noted (chgS us))) ∧ Below w.heap.size w w' := by
  obtain ⟨B, hB⟩ : ∃ B, w.heap.size = B := ⟨_, rfl⟩
  have HB := Lib.hid hB; clear hB
  have Hm := Lib.hid hm
  clear hm
  go_enter Tryz.func24, Tryz.ntmps24
  go_wp2_with fail
  refine (New_any 2048 w (by omega) (by omega)).mono ?_
  rw [HB.out]
  rintro e w1 ⟨g, s, rfl, hd, hb⟩
  have Hd1 := Lib.hid hd; have Hb1 := Lib.hid hb
  clear hd hb
  have hB1 : B ≤ w1.heap.size := by have := Hb1.out.size; have := HB.out; omega
  go_wp2_with fail
  refine (VOpen_any B g s none (Dv.new 2048) (Vt.new 2048) w1 Hd1.out (DevOk.new (by omega) (by omega)) (Vt.new_ok (by omega) (by omega))).mono ?_
  rintro e w2 ⟨v, F, rfl, hv, hiv, hF, ht⟩
  have Hv2 := Lib.hid hiv
  have Hb2 := Lib.hid (Hb1.out.trans (ht.below (fun k hk => footD_lo Hd1.out hk) hB1))
  have hm2 : IntsR w2 m us := Hm.out.below (by rw [HB.out]; exact Hb2.out)
  have KN := Lib.hid (NNew_yes B v g s F (Vt.new 2048) id m us w2 hid hiv rfl (by show 16 * 0 + 16 ≤ 2048 - 2 * (2048 / 4); omega) hm2 hus hml)
  clear hv hiv ht hF hm2
  go_wp2_with fail
  refine KN.out.mono ?_
  rintro e w3 hn
  obtain ⟨n, a, rfl, hn3, hb3⟩ := made_low Hv2.out Hb2.out hn
  have Hn3 := Lib.hid hn3; have Hb3 := Lib.hid hb3
  clear hn hn3 hb3
  go_wp2
  go_ret2
  exact ⟨n, g, a, rfl, by rw [HB.out]; exact Hn3.out, by rw [HB.out]; exact Hb3.out⟩
end Go.Proofs.YtdlgihgdpdiglaaGreat
end

section
namespace Go.Proofs.YtdlgihgdpdiglaaGreat
open Go.ChangeShapes Go.WideShapes Go.ChangeAt Go.RowKit
set_option linter.unusedVariables false

/-! ### Applied, at a log -/
/-- what Applied tells of a node whose entries behind p are committed -/
theorem NApplied_log (B n p M : Nat) (a : Ad) (N : Nd) (w : World) (h : IsA w B n a N) (hr : N.rf = 0) (hs : N.si = 0) (hto : N.told = (p : Int)) (hco : N.com = ((p + M : Nat) : Int)) (hl : N.x.length ≤ 90000) (hp : p + M = N.x.length) :
    Calls Tryz.prog 17 #[.pointer (some ⟨n, 0, none⟩)] w (AppliedRet B n a N ((N.x.drop p).take M) w) := by
  have hlog := h.parts.log
  rw [hs] at hlog
  refine NApplied_of B n (min M (N.x.length - p)) a N _ w h hr (by omega) (by omega) (by omega) (by omega) (by omega) ?_
  have hd : rl.LogD w.drew B a.l a.q 0 N.sn N.x := hlog.below (Below.refl _ _).drew
  rw [hto, hco, show ((p + M : Nat) : Int) - (p : Int) = (M : Int) by omega]
  by_cases hM : M = 0
  · subst hM
    obtain ⟨X, hX, hl2⟩ := hd
    have hXl : X.length = N.x.length := by rw [← hX]; simp
    rw [show min 0 (N.x.length - p) = 0 by omega, List.take_zero]
    exact rl.From_none B a.l N.x.length a.q 0 N.sn ((p : Int) + 1) ((0 : Nat) : Int) X w.drew hl2 hXl (by omega) (by omega) (by omega)
  · exact rl.From_any B a.l N.x.length p M a.q 0 N.sn ((p : Int) + 1) N.x w.drew hd rfl (by omega) (by omega) (by omega) (by omega) (by omega) (by omega) (by omega)

/-! ### the node of awake -/
def ST2 : Vt := (Vt.new 2048).noted (chgS [2])
/-- it waits -/
def NA (i : Int) : Nd := { N00 2 [2] ST2 with wait := i }
/-- it leads -/
def NB (k : Int) : Nd := { ((NA 27).stood.leads.added 0 []) with clock := k }
/-- i ticks went by -/
def TickedN (B n i : Nat) (w : World) : Prop := (i ≤ 26 ∧ ∃ a, IsA w B n a (NA (i : Int))) ∨ (27 ≤ i ∧ ∃ a p, a.peers = some p ∧ IsA w B n a (NB ((i : Int) - 27)))
theorem TickedN.below {B n i : Nat} {w w' : World} (h : TickedN B n i w) (hb : Below w.heap.size w w') : TickedN B n i w' := by
  rcases h with ⟨h1, a, h2⟩ | ⟨h1, a, p, h2, h3⟩
  · exact .inl ⟨h1, a, h2.below hb⟩
  · exact .inr ⟨h1, a, p, h2, h3.below hb⟩
theorem tick_any (B n i : Nat) (w : World) (h : TickedN B n i w) (hi : i < 40) :
    Calls Tryz.prog 26 #[.pointer (some ⟨n, 0, none⟩)] w fun e w' => e = .returned (.tuple #[]) ∧ TickedN B n (i + 1) w' ∧ Below B w w' := by
  rcases h with ⟨h1, a, h2⟩ | ⟨h1, a, p, h2, h3⟩
  · by_cases hs : i = 26
    · subst hs
      refine (NTick_stand B n a (NA ((26 : Nat) : Int)) w h2 rfl rfl rfl (by show 0 ≤ (2 : Int) ∧ (2 : Int) ≤ 15; omega) (by show (0 : Int) ≤ ((26 : Nat) : Int); omega) (by show ((26 : Nat) : Int) ≤ 1000000; omega) rfl rfl (by show 0 < 90000; omega) (by show (0 : Int) ≤ 0; omega) (by show (0 : Int) ≤ 549755813888; omega) (by show (0 : Int) ≤ 0 ∧ (0 : Int) < 1099511627776; omega) (by show In64 (-1); unfold In64; omega) (by show 16 * ((Vt.new 2048).noted (chgS [2])).cs.length + 32 ≤ 2048 - 2 * (2048 / 4); rw [noted_len]; show 16 * (0 + 1) + 32 ≤ _; omega) (by show (0 : Int) ≤ 0 + ((0 : Nat) : Int); omega)).mono ?_
      rintro e w' ⟨rfl, a', p, hp, hm⟩
      exact ⟨rfl, .inr ⟨by omega, a', p, hp, hm.1⟩, hm.low h2⟩
    · refine (NTick_wait B n a (NA (i : Int)) w h2 rfl rfl rfl (by show 0 ≤ (2 : Int) ∧ (2 : Int) ≤ 15; omega) (by show (0 : Int) ≤ (i : Int); omega) (by show (i : Int) ≤ 1000000; omega) (by show ¬ (i : Int) + 1 = 13 + 7 * 2; omega)).mono ?_
      rintro e w' ⟨rfl, hm⟩
      have h := hm.1
      have hl := hm.low h2
      rw [show ({ NA (i : Int) with wait := (NA (i : Int)).wait + 1 } : Nd) = NA ((i + 1 : Nat) : Int) from by unfold NA; congr 1] at h
      exact ⟨rfl, .inl ⟨by omega, a, h⟩, hl⟩
  · refine (NTick_lead B n a (NB ((i : Int) - 27)) w h3 rfl rfl rfl (by show 0 ≤ (i : Int) - 27; omega) (by show (i : Int) - 27 ≤ 1000000; omega)).mono ?_
    rintro e w' ⟨rfl, hm⟩
    have h := hm.1
    have hl := hm.low h3
    rw [show ({ NB ((i : Int) - 27) with clock := (NB ((i : Int) - 27)).clock + 1 } : Nd) = NB (((i + 1 : Nat) : Int) - 27) from by show NB ((i : Int) - 27 + 1) = _; congr 1; omega] at h
    exact ⟨rfl, .inr ⟨by omega, a, p, h2, h⟩, hl⟩

theorem status_role (a c d e f : Value) (x : Int) (W : World) : (Instr.field 35 (.agg #[a, .int .i64 x, c, d, e, f]) 1).run Tryz.prog W = .ok (.int .i64 x) W := by
  simp [Instr.field, run_underlying Tryz.underlying35, asAgg, part, Tryz.sizeOf3, Tryz.isAgg3, go_sem]
/-- what a row of elements of any size reads as -/
theorem own_seenS {w : World} {base z n c : Nat} {A : Option Addr} {e : TypeId} {xs : List Value} (h : w.ownsRow base e z (.slice A n c) n xs) : Seen w A xs := by
  rcases h.2 with ⟨hv, hn⟩ | ⟨g, cap, cur, hv, _, hh, h1, h2, h3, h4⟩
  · refine .inl ?_
    have := h.1
    exact List.length_eq_zero_iff.1 (by rw [this, hn, Nat.zero_mul])
  · injection hv with hA _ _
    refine .inr ⟨g, 0, hA, fun j v hj => ?_⟩
    have hjl := (List.getElem?_eq_some_iff.1 hj).1
    rw [Nat.zero_add, row_cell hh]
    rw [← h4, List.getElem?_take] at hj
    split at hj
    · rw [← hj]; simp
    · cases hj
set_option maxRecDepth 100000 in
set_option maxHeartbeats 2000000 in
theorem awake_any (w : World) : Calls Tryz.prog 7 #[] w fun e w' => e = .returned (.bool true) ∧ Below w.heap.size w w' := by
  obtain ⟨w0, hw0⟩ : ∃ w0, w.alloc (.cells #[.int .i64 2] 3) = w0 := ⟨_, rfl⟩
  have hb0 : Below w.heap.size w w0 := by rw [← hw0]; exact (Below.refl _ _).alloc (Nat.le_refl _) _
  have hi0 : IntsAt w0 ⟨some ⟨w.heap.size, 0, none⟩, 1, 1⟩ [2] := by
    have hg : w0.heap[w.heap.size]? = some (.cells #[.int .i64 2] 3 (0, 0)) := by rw [← hw0]; exact heap_alloc_new _ _
    exact ⟨rfl, Nat.le_refl _, Seen.of_cells hg, .inr ⟨_, _, _, _, rfl, hg⟩⟩
  have KF := Lib.hid (LFresh_any 2 ⟨some ⟨w.heap.size, 0, none⟩, 1, 1⟩ [2] w0 (by omega) hi0.reads (.inl (by decide)) (by show 1 ≤ 1000; omega))
  have Hb0 := Lib.hid hb0
  clear hb0 hi0
  go_enter Tryz.func7, Tryz.ntmps7
  go_wp2_with fail
  refine KF.out.mono ?_
  rintro e w1 ⟨n, g, a, rfl, hn, hb1⟩
  obtain ⟨B, hB⟩ : ∃ B, w0.heap.size = B := ⟨_, rfl⟩
  rw [hB] at hn hb1
  have HB := Lib.hid hB
  have Hn := Lib.hid hn; have Hb1 := Lib.hid hb1
  clear hn hb1 hB
  go_wp2
  go_loopw [3] (fun iv wr => ∃ i : Nat, i ≤ 40 ∧ iv = .int .i64 (i : Int) ∧ TickedN B n i wr ∧ Below B w0 wr) (fun iv _ => 40 - (intOf iv).toNat)
  case atStart => exact ⟨0, by omega, rfl, .inl ⟨by omega, a, Hn.out⟩, Hb1.out⟩
  case round =>
    obtain ⟨i, hi, rfl, ht, hb⟩ := hrel
    have Ht := Lib.hid ht; have Hb := Lib.hid hb
    clear ht hb
    by_cases hlt : i < 40
    · have i1 : (i : Int) < 40 := by omega
      have KT := Lib.hid (tick_any B n i wr Ht.out hlt)
      go_wp2_with fail
      refine KT.out.mono ?_
      rintro e w2 ⟨rfl, ht2, hb2⟩
      have Ht2 := Lib.hid ht2; have Hb2 := Lib.hid hb2
      clear ht2 hb2
      go_wp2
      go_roundw
      case rel => exact ⟨i + 1, by omega, by go_num, Ht2.out, Hb.out.trans Hb2.out⟩
      case measure => simp [intOf]; omega
    · obtain rfl : i = 40 := by omega
      have htk := Ht.out
      rcases htk with ⟨h1, -⟩ | ⟨-, a2, p2, hp2, hN⟩
      · exact absurd h1 (by omega)
      have i1 : ¬ ((40 : Nat) : Int) < 40 := by omega
      obtain ⟨w3, hw3⟩ : ∃ w3, wr.alloc (.cells #[.int .u8 7] 5) = w3 := ⟨_, rfl⟩
      have hb3 : Below wr.heap.size wr w3 := by rw [← hw3]; exact (Below.refl _ _).alloc (Nat.le_refl _) _
      have hs3 : rl.SeenU w3 (some ⟨wr.heap.size, 0, none⟩) [7] := by
        have hg : w3.heap[wr.heap.size]? = some (.cells #[.int .u8 7] 5 (0, 0)) := by rw [← hw3]; exact heap_alloc_new _ _
        exact ⟨Seen.of_cells hg, .inr ⟨_, _, _, _, rfl, hg⟩⟩
      obtain ⟨N, hNe⟩ : ∃ N, NB (((40 : Nat) : Int) - 27) = N := ⟨_, rfl⟩
      have f1 : N.rf = 0 := by rw [← hNe]; rfl
      have f2 : N.role = 2 := by rw [← hNe]; rfl
      have f3 : N.mem = [N.id] := by rw [← hNe]; rfl
      have f4 : N.id = 2 := by rw [← hNe]; rfl
      have f5 : N.x = [(1, 0, [])] := by rw [← hNe]; rfl
      have f6 : N.si = 0 := by rw [← hNe]; rfl
      have f7 : N.te = 1 := by rw [← hNe]; rfl
      have f8 : N.com = 1 := by rw [← hNe]; rfl
      have f9 : N.told = 0 := by rw [← hNe]; rfl
      have f10 : 16 * N.st.cs.length + 16 ≤ N.st.m := by
        rw [← hNe]
        show 16 * (((ST2.noted _).noted _).cs.length) + 16 ≤ 2048 - 2 * (2048 / 4)
        unfold ST2
        rw [noted_len, noted_len, noted_len]
        show 16 * (0 + 1 + 1 + 1) + 16 ≤ _
        omega
      rw [hNe] at hN
      have KP := Lib.hid (NPropose_one B n p2 a2 N (some ⟨wr.heap.size, 0, none⟩) 1 1 [7] w3 (hN.below hb3) f1 f2 f3 (by rw [f4]; omega) hp2 (by rw [f5]; show 1 < 90000; omega) (by omega) (by omega) (by rw [f7]; unfold In64; omega) rfl (by omega) hs3 f10 (by rw [f8, f6, f5]; show (1 : Int) ≤ 0 + ((1 : Nat) : Int); omega))
      rw [f6, f5, f7] at KP
      have HN3 := Lib.hid (hN.below hb3)
      have Hb3 := Lib.hid (Hb.out.trans (hb3.mono hN.size))
      have g1 : (N.added 1 [7]).rf = 0 := f1
      have g2 : (N.added 1 [7]).role = 2 := f2
      have g3 : (N.added 1 [7]).si = 0 := f6
      have g4 : (N.added 1 [7]).told = 0 := f9
      have g5 : (N.added 1 [7]).com = 2 := by show N.si + ((N.x.length + 1 : Nat) : Int) = 2; rw [f6, f5]; rfl
      have g6 : (N.added 1 [7]).x = [(1, 0, []), (1, 1, [7])] := by show N.x ++ [(N.te, 1, [7])] = _; rw [f5, f7]; rfl
      have g7 : (N.added 1 [7]).mem = [2] := by show N.mem = _; rw [f3, f4]
      obtain ⟨M, hM⟩ : ∃ M, N.added 1 [7] = M := ⟨_, rfl⟩
      rw [hM] at KP g1 g2 g3 g4 g5 g6 g7
      clear hN hb3 hs3 f1 f2 f3 f4 f5 f6 f7 f8 f9 f10 hNe hM
      go_wp2_with (go_at_call 13; refine KP.out.mono ?_; rintro e w4 ⟨rfl, F4, q4, hm4⟩; have M4 := Lib.hid hm4; clear hm4)
      have KA := Lib.hid (NApplied_log B n 0 2 _ M w4 M4.out.1 g1 g3 g4 g5 (by rw [g6]; show 2 ≤ 90000; omega) (by rw [g6]; rfl))
      rw [g6] at KA
      go_wp2_with fail
      refine KA.out.mono ?_
      rintro e w5 ⟨⟨A5, n5, c5⟩, Z, rfl, hz1, hz2, hown, hok, hN5, ht5⟩
      obtain ⟨e1, e2, rfl⟩ : ∃ e1 e2, Z = [e1, e2] := by
        rcases Z with _ | ⟨e1, _ | ⟨e2, _ | ⟨e3, r⟩⟩⟩
        · simp at hz2
        · simp at hz2
        · exact ⟨e1, e2, rfl⟩
        · simp at hz2
      obtain rfl : n5 = 2 := hz1
      rw [g4] at hown
      have hsee := own_seenS (A := A5) (n := 2) (c := c5) hown
      have hbs : e2.bs = [7] := by
        have := (List.cons.inj (List.cons.inj hz2).2).1
        exact (Prod.mk.inj (Prod.mk.inj this).2).2
      have he2 := hok e2 (by simp)
      have hn2 : e2.n = 1 := by rw [← he2.len, hbs]; rfl
      obtain ⟨gq, oq, rfl, hc⟩ : ∃ gq oq, A5 = some ⟨gq, oq, none⟩ ∧ (w5.cell? ⟨gq, oq + 4, none⟩ = some (.int .i64 2) ∧ w5.cell? ⟨gq, oq + 7, none⟩ = some (.slice e2.A 1 e2.c)) := by
        rcases hsee with h | ⟨gq, oq, hA, hc⟩
        · cases h
        · exact ⟨gq, oq, hA, hc 4 _ rfl, by rw [← hn2]; exact hc 7 _ rfl⟩
      have hs7 := he2.see.1
      rw [hbs] at hs7
      obtain ⟨gb, ob, b7, hA7, hb7, -, hc7⟩ := hs7.byteAt (j := 0) (by simp)
      have hb7' : b7 = 7 := by simpa using hb7.symm
      subst hb7'
      have hcap : 2 ≤ c5 := by
        rcases rl.own_capM (A := some ⟨gq, oq, none⟩) (n := 2) (c := c5) hown with h | ⟨h, _⟩
        · exact h
        · cases h
      have hcell : ∀ w6, Below w5.heap.size w5 w6 → w6.cell? ⟨gq, oq + 4, none⟩ = some (.int .i64 2) ∧ w6.cell? ⟨gq, oq + 7, none⟩ = some (.slice (some ⟨gb, ob, none⟩) 1 e2.c) ∧ w6.cell? ⟨gb, ob, none⟩ = some (.int .u8 7) := fun w6 hb6 => ⟨(hb6.cell (block_lt_of_cell hc.1)).trans hc.1, by rw [← hA7]; exact (hb6.cell (block_lt_of_cell hc.2)).trans hc.2, by have := (hb6.cell (block_lt_of_cell hc7)).trans hc7; simpa using this⟩
      have Hcell := Lib.hid hcell
      have h5 : IsA w5 B n _ _ := hN5
      have KS := Lib.hid (NStatus B n _ _ w5 h5 (by show 0 ≤ M.si; rw [g3]; omega) (by show M.si ≤ _; rw [g3]; omega) (by show M.x.length ≤ _; rw [g6]; show 2 ≤ 1000000; omega) (by show M.mem.length ≤ _; rw [g7]; show 1 ≤ 1000000; omega))
      unfold StatusRet at KS
      simp only at KS
      rw [g2] at KS
      have Hb5 := Lib.hid (Hb3.out.trans ((M4.out.low HN3.out).trans (ht5.below (fun k hk => by rw [hk]; exact M4.out.1.lo) M4.out.1.size)))
      clear hz2 hown hsee hbs he2 hn2 hc hs7 hb7 hc7 hA7 hcell hN5 ht5 hok h5
      have hfr := status_role
      rw [show Sl.v ⟨some ⟨gq, oq, none⟩, 2, c5⟩ = .slice (some ⟨gq, oq, none⟩) 2 c5 from rfl]
      go_wp2_with (go_at_call 12; refine KS.out.mono ?_; rintro e w6 ⟨s6, rfl, -, hb6⟩; obtain ⟨k4, k7, kb⟩ := Hcell.out w6 hb6; have Hb6 := Lib.hid hb6; clear hb6)
      go_ret
      exact ⟨rfl, Hb0.out.trans (Below.mono (Hb5.out.trans (Hb6.out.mono (by have := Hb5.out.size; have := HB.out; omega))) (by have := Hb0.out.size; have := HB.out; omega))⟩
end Go.Proofs.YtdlgihgdpdiglaaGreat
end
