/-
  Contracts of raft's add, Propose and lead of a node that is its only member. Conditions: such a node, whose vault has room.
-/
import Derived.Test.YtdlgihgdpdiglaaGreatRafAdv
namespace Go.Proofs.YtdlgihgdpdiglaaGreat
open Go.ChangeShapes Go.WideShapes Go.ChangeAt Go.RowKit
set_option linter.unusedVariables false

theorem MovE.trans {B n : Nat} {a a1 a2 : Ad} {N1 N2 : Nd} {w w1 w2 : World} (h : MovE B n a a1 N1 w w1) (k : MovE B n a1 a2 N2 w1 w2) : MovE B n a a2 N2 w w2 := by
  obtain ⟨h1, h2, h3, h4, h5, h6⟩ := h
  obtain ⟨k1, k2, k3, k4, k5, k6⟩ := k
  refine ⟨k1, fun j hj => ?_, turned_step h3 k3 fun j hj e => ?_, k4.trans h4, k5.trans h5, k6.trans h6⟩
  · rcases k2 j hj with e | e
    · exact h2 j e
    · exact .inr (Nat.le_trans h3.size e)
  · rcases h2 j e with e | e
    · exact e
    · omega
theorem termN_last (sn : Int) (x : List rl.Dat) (d : rl.Dat) : rl.termN sn (x ++ [d]) (x.length + 1) = d.1 := by simp [rl.termN]
/-- the node with an entry more, that is committed -/
def Nd.added (N : Nd) (k : Int) (bs : List UInt8) : Nd := { N.pushed (N.te, k, bs) with com := N.si + (N.x.length + 1 : Nat) }
set_option maxRecDepth 100000 in
set_option maxHeartbeats 2000000 in
theorem Nadd_one (B n p : Nat) (a : Ad) (N : Nd) (k : Int) (A : Option Addr) (m c : Nat) (bs : List UInt8) (w : World) (h : IsA w B n a N) (hr : N.rf = 0) (hm : N.mem = [N.id]) (hid : 0 ≤ N.id ∧ N.id ≤ 15) (hp : a.peers = some p) (hl : N.x.length < 90000) (h0 : 0 ≤ N.si) (h3 : N.si ≤ 549755813888) (ht : In64 N.te) (hk : In64 k) (hk2 : ¬ k = 2) (hbl : bs.length = m) (hb8 : m ≤ 800) (hs : rl.SeenU w A bs) (hroom : 16 * N.st.cs.length + 16 ≤ N.st.m) (hc : N.com ≤ N.si + N.x.length) :
    Calls Tryz.prog 38 #[.pointer (some ⟨n, 0, none⟩), .int .i64 k, .slice A m c] w fun e w' => e = .returned (.tuple #[.int .i64 (N.si + (N.x.length + 1 : Nat)), .bool true]) ∧ ∃ FV' q', MovE B n a { a with FV := FV', q := q' } (N.added k bs) w w' := by
  have KP := Lib.hid (Npush B n N.x.length a N N.te k A m c bs w h hr rfl h0 h3 (by omega) ht hk hk2 hbl hb8 hs hroom)
  have c3 := h.row.c3
  unfold Nd.c at c3
  simp only at c3
  have H := Lib.hid h
  obtain ⟨L, hL⟩ : ∃ L, N.x.length = L := ⟨_, rfl⟩
  have hx1 : (N.x ++ [(N.te, k, bs)]).length = L + 1 := by simp [hL]
  have HX1 := Lib.hid hx1
  have HT := Lib.hid (show rl.termN N.sn (N.x ++ [(N.te, k, bs)]) (L + 1) = N.te from by rw [← hL]; exact termN_last _ _ _)
  unfold Nd.added
  rw [hL] at hl hc ⊢
  clear h hs hx1
  go_enter Tryz.func38, Tryz.ntmps38
  go_wp2_with fail
  refine KP.out.mono ?_
  rintro e w1 ⟨rfl, FV', q', hm1⟩
  have M1 := Lib.hid hm1
  clear hm1 c3
  have c5 := M1.out.1.row.c5
  unfold Nd.c at c5
  simp only at c5
  have KL := Lib.hid (NlastOf B a.l (L + 1) q' N.si N.sn (N.x ++ [(N.te, k, bs)]) w1 M1.out.1.parts.log HX1.out h0 (by omega) (by omega))
  go_wp2_with fail
  refine KL.out.mono ?_
  rintro e w2 ⟨rfl, hb2⟩
  have M2 := Lib.hid (M1.out.below hb2)
  have KH := Lib.hid (NhandAll_one B n _ _ w2 M2.out.1 hm)
  clear hb2 c5
  go_wp2_with fail
  refine KH.out.mono ?_
  rintro e w3 ⟨rfl, hb3⟩
  have M3 := Lib.hid (M2.out.below hb3)
  have KA := Lib.hid (Nadvance_one B n (L + 1) p _ _ w3 M3.out.1 hm hid hp HX1.out (by omega) h0 h3 HT.out (by show N.com < N.si + ((L + 1 : Nat) : Int); omega))
  clear hb3
  go_wp2_with fail
  refine KA.out.mono ?_
  rintro e w4 ⟨rfl, hm4⟩
  have M4 := Lib.hid hm4
  clear hm4
  go_wp2
  go_ret2
  exact ⟨rfl, FV', q', M3.out.trans M4.out⟩

/-! ### Propose -/
set_option maxRecDepth 100000 in
set_option maxHeartbeats 1000000 in
theorem NPropose_one (B n p : Nat) (a : Ad) (N : Nd) (A : Option Addr) (m c : Nat) (bs : List UInt8) (w : World) (h : IsA w B n a N) (hr : N.rf = 0) (hro : N.role = 2) (hm : N.mem = [N.id]) (hid : 0 ≤ N.id ∧ N.id ≤ 15) (hp : a.peers = some p) (hl : N.x.length < 90000) (h0 : 0 ≤ N.si) (h3 : N.si ≤ 549755813888) (ht : In64 N.te) (hbl : bs.length = m) (hb8 : m ≤ 800) (hs : rl.SeenU w A bs) (hroom : 16 * N.st.cs.length + 16 ≤ N.st.m) (hc : N.com ≤ N.si + N.x.length) :
    Calls Tryz.prog 13 #[.pointer (some ⟨n, 0, none⟩), .slice A m c] w fun e w' => e = .returned (.tuple #[.int .i64 (N.si + (N.x.length + 1 : Nat)), .int .i64 N.te, .int .i64 0]) ∧ ∃ FV' q', MovE B n a { a with FV := FV', q := q' } (N.added 1 bs) w w' := by
  have KL := Lib.hid (Nleads n (N.c a) w h.row)
  have hd : decide ((N.c a).role = 2 ∧ (N.c a).rf = 0) = true := by simp [Nd.c, hro, hr]
  rw [hd] at KL
  have KA := Lib.hid (Nadd_one B n p a N 1 A m c bs w h hr hm hid hp hl h0 h3 ht (by unfold In64; omega) (by omega) hbl hb8 hs hroom hc)
  have c3 := h.row.c3
  unfold Nd.c at c3
  simp only at c3
  have hm8 : ¬ (800 : Int) < (m : Int) := by omega
  have hm8' : ¬ 800 < m := by omega
  clear h hs hd
  obtain ⟨I, hI⟩ : ∃ I, N.si + (N.x.length + 1 : Nat) = I := ⟨_, rfl⟩
  rw [hI] at KA ⊢
  clear hI
  go_enter Tryz.func13, Tryz.ntmps13
  go_wp2_with (first
    | (go_at_call 37; refine KL.out.mono ?_; rintro e w1 ⟨rfl, rfl⟩)
    | (go_at_call 38; refine KA.out.mono ?_; rintro e w2 ⟨rfl, hm2⟩; have M2 := Lib.hid hm2; clear hm2))
  go_ret3
  exact ⟨rfl, M2.out⟩

/-! ### lead -/
/-- a node that begins to lead -/
def Nd.leads (N : Nd) : Nd := { N with role := 2, lead := N.id, votes := [], clock := 0 }
set_option maxRecDepth 100000 in
set_option maxHeartbeats 2000000 in
theorem Nlead_one (B n : Nat) (a : Ad) (N : Nd) (w : World) (h : IsA w B n a N) (hr : N.rf = 0) (hm : N.mem = [N.id]) (hid : 0 ≤ N.id ∧ N.id ≤ 15) (hl : N.x.length < 90000) (h0 : 0 ≤ N.si) (h3 : N.si ≤ 549755813888) (ht : In64 N.te) (hroom : 16 * N.st.cs.length + 16 ≤ N.st.m) (hc : N.com ≤ N.si + N.x.length) :
    Calls Tryz.prog 183 #[.pointer (some ⟨n, 0, none⟩)] w fun e w' => e = .returned (.tuple #[]) ∧ ∃ FV' q' p, MovE B n a { a with FV := FV', q := q', votes := Sl.nil, peers := some p } (N.leads.added 0 []) w w' := by
  have H := Lib.hid h
  have hmm := @run_makeMap Tryz.prog
  have c0 := h.row.c0; have c8 := h.row.c12; have c13 := h.row.c13; have c18 := h.row.c18; have c21 := h.row.c21
  have z12 := h.row.fr 12; have z13 := h.row.fr 13; have z18 := h.row.fr 18; have z21 := h.row.fr 21
  unfold Nd.c at c0 c8 c13 c18 c21
  simp only at c0 c8 c13 c18 c21
  clear h
  go_enter Tryz.func183, Tryz.ntmps183
  go_upto_region 1 with fail
  have hw1 := ((((WroteN.refl H.out.row).set 12 (.int .i64 2) (c' := ({ N with role := 2 } : Nd).c a) rfl).set 13 (.int .i64 N.id) (c' := ({ N with role := 2, lead := N.id } : Nd).c a) rfl).set 18 (.slice none 0 0) (c' := ({ N with role := 2, lead := N.id, votes := [] } : Nd).c { a with votes := Sl.nil }) rfl).set 21 (.int .i64 0) (c' := N.leads.c { a with votes := Sl.nil }) rfl
  change Code.wp _ _ _ _ ((((w.setCell ⟨n, 12, none⟩ (.int .i64 2)).setCell ⟨n, 13, none⟩ (.int .i64 N.id)).setCell ⟨n, 18, none⟩ (.slice none 0 0)).setCell ⟨n, 21, none⟩ (.int .i64 0))
  obtain ⟨w1, hw1e⟩ : ∃ w1, (((w.setCell ⟨n, 12, none⟩ (.int .i64 2)).setCell ⟨n, 13, none⟩ (.int .i64 N.id)).setCell ⟨n, 18, none⟩ (.slice none 0 0)).setCell ⟨n, 21, none⟩ (.int .i64 0) = w1 := ⟨_, rfl⟩
  rw [hw1e] at hw1 ⊢
  have p0 := H.out.parts
  have M1 := Lib.hid ((MovE.refl H.out).wrote hw1 ⟨p0.vault, p0.log, p0.sm, p0.mem, IntsAt.nil _, p0.sslen, p0.ss, p0.peers⟩ (fun j e => .inl e) rfl rfl rfl)
  clear hw1 hw1e p0 c0 c8 c13 c18 c21 z12 z13 z18 z21
  obtain ⟨w2, hw2⟩ : ∃ w2, w1.alloc (.map #[] 0) = w2 := ⟨_, rfl⟩
  have hb2 : Below w1.heap.size w1 w2 := by rw [← hw2]; exact box_below _ _
  have he2 : EmptyAt w2 w1.heap.size := by rw [← hw2]; exact World.ownsMap_made w1 _ _ _
  have M2 := Lib.hid (M1.out.below hb2)
  obtain ⟨p, hp⟩ : ∃ p, w1.heap.size = p := ⟨_, rfl⟩
  have hpw : w.heap.size ≤ p := by rw [← hp]; exact M1.out.2.2.1.size
  have c22 := M2.out.1.row.c22
  have z22 := M2.out.1.row.fr 22
  unfold Nd.c at c22
  simp only at c22
  have hw3 := (WroteN.refl M2.out.1.row).set 22 (.map (some p)) (c' := N.leads.c { a with votes := Sl.nil, peers := some p }) rfl
  obtain ⟨w3, hw3e⟩ : ∃ w3, w2.setCell ⟨n, 22, none⟩ (.map (some p)) = w3 := ⟨_, rfl⟩
  rw [hw3e] at hw3
  rw [hp] at he2
  have p2 := M2.out.1.parts
  have hpB : B ≤ p := by have := (H.out.base (k := n) (.inl rfl)); omega
  have hpF : ¬ a.FV p := fun e => by have := (H.out.base (k := p) (.inr (.inl e))).2; omega
  have M3 := Lib.hid (M2.out.wrote hw3 (a2 := { a with votes := Sl.nil, peers := some p }) (N2 := N.leads) ⟨p2.vault, p2.log, p2.sm, p2.mem, p2.votes, p2.sslen, p2.ss, fun q hq => by injection hq with hq; subst hq; exact ⟨hpB, hpF, he2⟩⟩ (fun j e => by
    rcases e with e | e | e
    · exact .inl (.inl e)
    · exact .inl (.inr (.inl e))
    · injection e with e
      exact .inr (by omega)) rfl rfl rfl)
  have hmem := M3.out.1.parts.mem
  rw [show N.leads.mem = [N.id] from hm] at hmem
  have hml := hmem.len
  have KO := Lib.hid (Nothers n _ [N.id] w3 M3.out.1.row hmem (by simp) (by show a.mem.n ≤ _; rw [← hml]; simp))
  rw [show othersL [N.id] (N.leads.c { a with votes := Sl.nil, peers := some p }).id = [] from others_one N.id] at KO
  clear hw3 p2 hpB hpF hmem hml hb2 he2
  go_wp2_with fail
  refine KO.out.mono ?_
  rintro e w4 ⟨A4, c4, rfl, hown4, hb4⟩
  have M4 := Lib.hid (M3.out.below hb4)
  rw [show (numsV ([] : List Int)).length = 0 from rfl]
  clear hown4 hb4 hw3e c22 z22 hw2 hp
  have KA := Lib.hid (Nadd_one B n p _ N.leads 0 none 0 0 [] w4 M4.out.1 hr hm hid rfl hl h0 h3 ht (by unfold In64; omega) (by omega) rfl (by omega) (rl.SeenU.nil _ _) hroom hc)
  go_wp2
  go_loopw [27] (fun iv wr => iv = .int .i64 0 ∧ wr = w4) (fun _ _ => 0)
  case atStart => exact ⟨rfl, rfl⟩
  case round =>
    obtain ⟨rfl, hwr⟩ := hrel
    subst hwr
    go_wp2_with fail
    refine KA.out.mono ?_
    rintro e w5 ⟨rfl, FV', q', hm5⟩
    have M5 := Lib.hid hm5
    clear hm5
    go_wp2
    go_end0
    exact ⟨rfl, FV', q', p, M4.out.trans M5.out⟩
end Go.Proofs.YtdlgihgdpdiglaaGreat
