/-
  Joined: RafNw, RafCst, RafPsh. Conditions: each theorem's own.
-/
import Derived.Test.YtdlgihgdpdiglaaGreatRafNew
import Derived.Test.YtdlgihgdpdiglaaGreatBalMem
import Derived.Test.YtdlgihgdpdiglaaGreatQuoByt
import Derived.Test.YtdlgihgdpdiglaaGreatBalFn
import Derived.Test.YtdlgihgdpdiglaaGreatBalByt
import Derived.Test.YtdlgihgdpdiglaaGreatJRlg

section
namespace Go.Proofs.YtdlgihgdpdiglaaGreat
open Go.ChangeShapes Go.WideShapes Go.ChangeAt Go.RowKit
set_option linter.unusedVariables false

set_option maxRecDepth 100000 in
set_option maxHeartbeats 1000000 in
theorem NNew_no (id : Int) (v : Nat) (m : Sl) (us : List Int) (w : World) (hm : IntsR w m us) (hl : m.n ≤ 1000000) (hno : ¬ ((0 ≤ id ∧ id ≤ 15) ∧ (us = [] ∨ quo.RightQ us))) :
    Calls Tryz.prog 10 #[.int .i64 id, .pointer (some ⟨v, 0, none⟩), .slice m.A m.n m.c] w fun e w' => e = .returned (.tuple #[.pointer none, .int .i64 1]) ∧ Below w.heap.size w w' := by
  obtain ⟨A, n, c⟩ := m
  obtain ⟨h1, h2, h3⟩ := hm
  simp only at h1 h2 h3 hl ⊢
  have KI := Lib.hid (NisId id w)
  have KR := Lib.hid (fun W (hb : Below w.heap.size w W) => quo.Right_any A n c us W h1 (by unfold maxLen; omega) (h3.below hb))
  by_cases hid : 0 ≤ id ∧ id ≤ 15
  · have hne : ¬ us = [] := fun e => hno ⟨hid, .inl e⟩
    have hnr : ¬ quo.RightQ us := fun e => hno ⟨hid, .inr e⟩
    have hpos : (0 : Int) < (n : Int) := by have := List.length_pos_iff.2 hne; omega
    have hpn : 0 < n := by omega
    rw [decide_eq_true hid] at KI
    rw [decide_eq_false hnr] at KR
    clear hid hne hnr hno h1 h3
    go_enter Tryz.func10, Tryz.ntmps10
    go_wp2_with (first
      | (go_at_call 32; refine KI.out.mono ?_; rintro e w1 ⟨rfl, hb1⟩; have Hb1 := Lib.hid hb1; clear hb1)
      | (go_at_call 33; refine (KR.out w1 Hb1.out).mono ?_; rintro e w2 ⟨rfl, rfl⟩))
    go_ret2
    exact ⟨rfl, Hb1.out⟩
  · rw [decide_eq_false hid] at KI
    clear hid hno h1 h3
    go_enter Tryz.func10, Tryz.ntmps10
    go_wp2_with (first
      | (go_at_call 32; refine KI.out.mono ?_; rintro e w1 ⟨rfl, hb1⟩; have Hb1 := Lib.hid hb1; clear hb1))
    go_ret2
    exact ⟨rfl, Hb1.out⟩

/-- a fresh node over a vault v -/
def NewNode (B v g s : Nat) (FV : Nat → Prop) (N' : Nd) (w : World) (e : Ending) (w' : World) : Prop :=
  ∃ n a, e = .returned (.tuple #[.pointer (some ⟨n, 0, none⟩), .int .i64 0]) ∧ w.heap.size ≤ n ∧ IsA w' B n a N' ∧ (∀ k, FootA n a k → FV k ∨ w.heap.size ≤ k) ∧ Turned FV w w' ∧ a.v = v ∧ a.g = g ∧ a.s = s
set_option maxRecDepth 100000 in
set_option maxHeartbeats 1000000 in
theorem NNew_yes (B v g s : Nat) (FV : Nat → Prop) (st : Vt) (id : Int) (m : Sl) (us : List Int) (w : World) (hid : 0 ≤ id ∧ id ≤ 15) (hv : IsF w B v g s FV st) (hx : st.x = []) (hroom : 16 * st.cs.length + 16 ≤ st.m) (hm : IntsR w m us) (hus : quo.RightQ us ∨ us = []) (hml : m.n ≤ 1000) :
    Calls Tryz.prog 10 #[.int .i64 id, .pointer (some ⟨v, 0, none⟩), .slice m.A m.n m.c] w (NewNode B v g s FV (N00 id us (st.noted (chgS us))) w) := by
  have KI := Lib.hid (NisId id w)
  rw [decide_eq_true hid] at KI
  have Hm := Lib.hid hm; have HV := Lib.hid hv; have Hus := Lib.hid hus; have Hx := Lib.hid hx; have Hroom := Lib.hid hroom
  have hlen := hm.len
  have KR := Lib.hid (fun W (hb : Below w.heap.size w W) => quo.Right_any m.A m.n m.c us W hm.len (by unfold maxLen; omega) (hm.see.below hb))
  have main : ∀ W, Below w.heap.size w W → ∀ w1, W.alloc (.cells (ncells (c00 id v)) 101) = w1 → Calls Tryz.prog 34 #[.pointer (some ⟨W.heap.size, 0, none⟩), .slice m.A m.n m.c] w1 fun e w' => e = .returned (.int .i64 0) ∧ FreshRet B W.heap.size v g s FV (N00 id us (st.noted (chgS us))) w1 w' := fun W hb w1 hw1 => by
    have hb1 : Below W.heap.size W w1 := by rw [← hw1]; exact box_below _ _
    have h1 : NcAt w1 W.heap.size (c00 id v) := by rw [← hw1]; exact heap_alloc_new _ _
    have hv1 := (HV.out.below hb).below hb1
    exact Nload_fresh B W.heap.size v g s FV st id m us w1 h1 (by have := (HV.out.below hb).size; exact this) hv1 Hx.out Hroom.out ((Hm.out.below hb).below hb1) Hus.out hml
  have Main := Lib.hid main
  have fin : ∀ W, Below w.heap.size w W → ∀ w1, W.alloc (.cells (ncells (c00 id v)) 101) = w1 → ∀ w2, FreshRet B W.heap.size v g s FV (N00 id us (st.noted (chgS us))) w1 w2 → NewNode B v g s FV (N00 id us (st.noted (chgS us))) w (.returned (.tuple #[.pointer (some ⟨W.heap.size, 0, none⟩), .int .i64 0])) w2 := fun W hb w1 hw1 w2 hf => by
    obtain ⟨a, h1, h2, h3, h4⟩ := hf
    have hb1 : Below W.heap.size W w1 := by rw [← hw1]; exact box_below _ _
    have hs := hb.size
    have hb01 := hb.trans (hb1.mono hs)
    refine ⟨W.heap.size, a, rfl, hs, h1, fun k hk => ?_, turned_step (Turned.of_below hb01) h3 fun k hk e => ?_, h4⟩
    · rcases h2 k hk with (e | e) | e
      · exact .inr (by omega)
      · exact .inl e
      · exact .inr (Nat.le_trans hb01.size e)
    · rcases e with e | e
      · omega
      · exact e
  have Fin := Lib.hid fin
  clear hm hv hus hx hroom main fin hid
  unfold c00 ncells Sl.nil at Main Fin
  simp only at Main Fin
  by_cases hz : us = []
  · have hmz : ¬ (0 : Int) < (m.n : Int) := by rw [hz] at hlen; simp at hlen; omega
    have hmz2 : ¬ 0 < m.n := by omega
    clear hz hlen
    go_enter Tryz.func10, Tryz.ntmps10
    go_upto_region 3 with (first
      | (go_at_call 32; refine KI.out.mono ?_; rintro e w1 ⟨rfl, hb1⟩; have Hb1 := Lib.hid hb1; clear hb1))
    obtain ⟨W2, hW2⟩ : ∃ W2, w1.alloc (.cells #[.int .i64 id, .pointer (some ⟨v, 0, none⟩), .int .i64 0, .int .i64 0, .int .i64 0, .pointer none, .int .i64 0, .int .i64 0, .slice none 0 0, .slice none 0 0, .slice none 0 0, .int .i64 0, .int .i64 0, .int .i64 (-1), .int .i64 0, .int .i64 0, .bool false, .int .i64 0, .slice none 0 0, .int .i64 0, .int .i64 0, .int .i64 0, .map none, .slice none 0 0] 101) = W2 := ⟨_, rfl⟩
    have HW2 := Lib.hid hW2
    go_wp2_with fail
    refine (Main.out w1 Hb1.out W2 HW2.out).mono ?_
    rintro e w3 ⟨rfl, hf⟩
    have Hf := Lib.hid hf
    clear hf hW2
    go_wp2
    go_ret2
    exact Fin.out w1 Hb1.out W2 HW2.out w3 Hf.out
  · have hr : quo.RightQ us := Hus.out.elim (fun h => h) fun e => absurd e hz
    have hmz : (0 : Int) < (m.n : Int) := by have := List.length_pos_iff.2 hz; omega
    have hmz2 : 0 < m.n := by omega
    rw [decide_eq_true hr] at KR
    clear hz hlen hr
    go_enter Tryz.func10, Tryz.ntmps10
    go_upto_region 3 with (first
      | (go_at_call 32; refine KI.out.mono ?_; rintro e w1 ⟨rfl, hb1⟩; have Hb1 := Lib.hid hb1; clear hb1)
      | (go_at_call 33; refine (KR.out w1 Hb1.out).mono ?_; rintro e w2 ⟨rfl, rfl⟩))
    obtain ⟨W2, hW2⟩ : ∃ W2, w2.alloc (.cells #[.int .i64 id, .pointer (some ⟨v, 0, none⟩), .int .i64 0, .int .i64 0, .int .i64 0, .pointer none, .int .i64 0, .int .i64 0, .slice none 0 0, .slice none 0 0, .slice none 0 0, .int .i64 0, .int .i64 0, .int .i64 (-1), .int .i64 0, .int .i64 0, .bool false, .int .i64 0, .slice none 0 0, .int .i64 0, .int .i64 0, .int .i64 0, .map none, .slice none 0 0] 101) = W2 := ⟨_, rfl⟩
    have HW2 := Lib.hid hW2
    go_wp2_with fail
    refine (Main.out w2 Hb1.out W2 HW2.out).mono ?_
    rintro e w3 ⟨rfl, hf⟩
    have Hf := Lib.hid hf
    clear hf hW2
    go_wp2
    go_ret2
    exact Fin.out w2 Hb1.out W2 HW2.out w3 Hf.out
end Go.Proofs.YtdlgihgdpdiglaaGreat
end

section
namespace Go.Proofs.YtdlgihgdpdiglaaGreat
open Go.ChangeShapes Go.WideShapes Go.ChangeAt Go.RowKit
set_option linter.unusedVariables false

/-! ### a node that moved, told where -/
def MovE (B n : Nat) (a a' : Ad) (N' : Nd) (w w' : World) : Prop :=
  IsA w' B n a' N' ∧ (∀ k, FootA n a' k → FootA n a k ∨ w.heap.size ≤ k) ∧ Turned (FootA n a) w w' ∧ a'.v = a.v ∧ a'.g = a.g ∧ a'.s = a.s
theorem MovE.toA {B n : Nat} {a a' : Ad} {N' : Nd} {w w' : World} (h : MovE B n a a' N' w w') : MovA B n a N' w w' := ⟨a', h⟩
theorem MovE.refl {B n : Nat} {a : Ad} {N : Nd} {w : World} (h : IsA w B n a N) : MovE B n a a N w w := ⟨h, fun k hk => .inl hk, .refl _ _, rfl, rfl, rfl⟩
theorem MovE.then {B n : Nat} {a a1 : Ad} {N1 N2 : Nd} {w w1 w2 : World} (h : MovE B n a a1 N1 w w1) (k : MovA B n a1 N2 w1 w2) : MovA B n a N2 w w2 := by
  obtain ⟨h1, h2, h3, h4, h5, h6⟩ := h
  obtain ⟨a2, k1, k2, k3, k4, k5, k6⟩ := k
  refine ⟨a2, k1, fun j hj => ?_, turned_step h3 k3 fun j hj e => ?_, k4.trans h4, k5.trans h5, k6.trans h6⟩
  · rcases k2 j hj with e | e
    · exact h2 j e
    · exact .inr (Nat.le_trans h3.size e)
  · rcases h2 j e with e | e
    · exact e
    · omega
theorem MovE.below {B n : Nat} {a a' : Ad} {N' : Nd} {w w1 w2 : World} (h : MovE B n a a' N' w w1) (hb : Below w1.heap.size w1 w2) : MovE B n a a' N' w w2 := by
  obtain ⟨h1, h2, h3, h4⟩ := h
  exact ⟨h1.below hb, h2, turned_step h3 (Turned.of_below (p := fun _ => False) hb) fun _ _ e => e.elim, h4⟩
theorem MovE.of_below {B n : Nat} {a : Ad} {N : Nd} {w w1 : World} (h : IsA w B n a N) (hb : Below w.heap.size w w1) : MovE B n a a N w w1 := (MovE.refl h).below hb
/-- its cells are written -/
theorem MovE.wrote {B n : Nat} {a a1 a2 : Ad} {N1 N2 : Nd} {w w1 w2 : World} (h : MovE B n a a1 N1 w w1) (k : WroteN n (N2.c a2) w1 w2) (hp : Parts w1 B a2 N2) (hf : ∀ j, FootP a2 j → FootP a1 j ∨ w.heap.size ≤ j) (hv : a2.v = a1.v) (hg : a2.g = a1.g) (hs : a2.s = a1.s) : MovE B n a a2 N2 w w2 := by
  obtain ⟨h1, h2, h3, h4, h5, h6⟩ := h
  refine ⟨h1.wrote k hp, fun j hj => ?_, turned_step h3 k.2 fun j _ e => .inl e, hv.trans h4, hg.trans h5, hs.trans h6⟩
  rcases hj with e | e
  · exact .inl (.inl e)
  · rcases hf j e with e | e
    · exact h2 j (.inr e)
    · exact .inr e
/-- its vault is changed -/
theorem MovE.put {B n : Nat} {a a1 : Ad} {N1 : Nd} {st' : Vt} {FV' : Nat → Prop} {w w1 w2 : World} (h : MovE B n a a1 N1 w w1) (ht : Turned a1.FV w1 w2) (hv1 : IsF w2 B a1.v a1.g a1.s FV' st') (hv2 : ∀ k, FV' k → a1.FV k ∨ w1.heap.size ≤ k) : MovE B n a { a1 with FV := FV' } { N1 with st := st' } w w2 := by
  obtain ⟨h1, h2, h3, h4⟩ := h
  refine ⟨⟨h1.lo, h1.row.turned ht (fun e => h1.far (.inl e)), h1.parts.put ht hv1 hv2⟩, fun k hk => ?_, turned_step h3 ht fun k hk e => ?_, h4⟩
  · rcases hk with e | e | e | e
    · exact .inl (.inl e)
    · rcases hv2 k e with e | e
      · exact h2 k (.inr (.inl e))
      · exact .inr (Nat.le_trans h3.size e)
    · exact h2 k (.inr (.inr (.inl e)))
    · exact h2 k (.inr (.inr (.inr e)))
  · rcases h2 k (.inr (.inl e)) with e | e
    · exact e
    · omega

/-- the change that cast makes -/
def chgB (b : bal.Bal) : Chg := ⟨0, some (bal.bytesB b)⟩
theorem chgB_ok {b : bal.Bal} (h : bal.RightB b) : (chgB b).Ok := ⟨by show (0 : Int) ≤ 0; omega, by show (0 : Int) ≤ 1099511627776; omega, by have := bal.bytesB_length h; show (bal.bytesB b).length ≤ 900; omega⟩
/-- a node that follows nobody -/
def Nd.rested (N : Nd) : Nd := { N with role := 0, lead := -1, votes := [] }
/-- a node whose ballot is b -/
def Nd.cast (N : Nd) (b : bal.Bal) : Nd := { N with te := b.te, vo := b.vo, st := N.st.noted (chgB b) }
theorem MovA.rest {B n : Nat} {a : Ad} {N : Nd} {w w' : World} (h : IsA w B n a N) (k : WroteN n (N.c a).rested w w') : MovA B n a N.rested w w' :=
  MovA.of_wrote (a' := { a with votes := Sl.nil, peers := none }) h k ⟨h.parts.vault, h.parts.log, h.parts.sm, h.parts.mem, IntsAt.nil _, h.parts.sslen, h.parts.ss, fun p hp => by cases hp⟩ (fun j hj => by
    rcases hj with e | e | e
    · exact .inl e
    · exact .inr (.inl e)
    · cases e) rfl rfl rfl
section
attribute [local go_sem ↓] bal.ldBal_eq
set_option maxRecDepth 100000 in
set_option maxHeartbeats 4000000 in
theorem Ncast_over (B n : Nat) (a : Ad) (N : Nd) (b : bal.Bal) (w : World) (h : IsA w B n a N) (hr : N.rf = 0) (hb : bal.RightB b) (hover : N.te < b.te) (hroom : 16 * N.st.cs.length + 16 ≤ N.st.m) :
    Calls Tryz.prog 114 #[.pointer (some ⟨n, 0, none⟩), .agg #[.int .i64 b.te, .int .i64 b.vo]] w fun e w' => e = .returned (.bool true) ∧ MovA B n a (N.cast b).rested w w' := by
  obtain ⟨te, vo⟩ := b
  simp only at hover ⊢
  have hne : (te == N.te) = false := by simp; omega
  obtain ⟨w1, hw1⟩ : ∃ w1, w.alloc (.cells #[.int .i64 te, .int .i64 vo] 92) = w1 := ⟨_, rfl⟩
  have hb1 : Below w.heap.size w w1 := by rw [← hw1]; exact box_below _ _
  have hh1 : bal.BalAt w1 w.heap.size ⟨te, vo⟩ := by rw [← hw1]; exact bal.BalAt.new w ⟨te, vo⟩
  have hp : ∀ W, Below w1.heap.size w1 W → bal.BalAt W w.heap.size ⟨te, vo⟩ := fun W h => hh1.below h
  have HP := Lib.hid hp
  have A1 := Lib.hid (h.below hb1)
  have B1 := Lib.hid hb1
  have Hb := Lib.hid hb; have Hroom := Lib.hid hroom; have Hr := Lib.hid hr
  have Hhh1 := Lib.hid hh1
  have hnl := h.row.lt
  have H0 := Lib.hid h
  have hs1 : w.heap.size < w1.heap.size := (Array.getElem?_eq_some_iff.1 (show w1.heap[w.heap.size]? = _ from hh1)).1
  have ld1 : ∀ q, _ := fun q => bal.ldBal_run (hp (w1.drewN q) (below_drewN (Below.refl _ _) q))
  have ld2 : ∀ q, _ := fun q => (A1.out.row.draw q).ldBl
  unfold Nd.c at ld2
  simp only at ld1 ld2
  clear h hb1 hh1 hp hb hroom hr
  go_enter Tryz.func114, Tryz.ntmps114
  go_upto_region 1 with fail
  go_quiet (fail)
  obtain ⟨w2, hw2⟩ : ∃ w2, w1.drewN nq = w2 := ⟨_, rfl⟩
  rw [hw2]
  have hb12 : Below w1.heap.size w1 w2 := by rw [← hw2]; exact below_drewN (Below.refl _ _) nq
  have A2 := Lib.hid (A1.out.below hb12)
  have B2 := Lib.hid hb12
  clear hw2 ld1 ld2 hb12 hw1
  have KB := Lib.hid (bal.BBytes_any ⟨te, vo⟩ w2.drew Hb.out)
  simp only at KB
  have Hbl := Lib.hid (bal.bytesB_length Hb.out)
  have Hfit := Lib.hid (show N.st.fits ⟨0, some (bal.bytesB ⟨te, vo⟩)⟩ from fits_room A2.out.parts.vault.ok (chgB_ok Hb.out) Hroom.out)
  have KP := Lib.hid (fun (W : World) (A : Option Addr) (m' c' : Nat) (hb : Below w2.heap.size w2 W) (hm : (bal.bytesB ⟨te, vo⟩).length = m') (hs : Seen W A (bytesV (bal.bytesB ⟨te, vo⟩))) =>
    Put_any B a.v a.g a.s a.FV N.st 0 A m' c' (bal.bytesB ⟨te, vo⟩) W (A2.out.parts.vault.below hb) (by omega) (by omega) hm (by have := Hbl.out; omega) hs)
  have Cs := Lib.hid (show ∀ W, NcAt W n (N.c a) → bal.BalAt W w.heap.size ⟨te, vo⟩ → (W.cell? ⟨n, 1, none⟩ = some (.pointer (some ⟨a.v, 0, none⟩)) ∧ (bal.ldBal (.pointer (some ⟨w.heap.size, 0, none⟩))).run Tryz.prog W = .ok (.agg #[.int .i64 te, .int .i64 vo]) W) from fun W r b => ⟨r.c1, bal.ldBal_run b⟩)
  have Hd2 := Lib.hid (show Below w2.heap.size w2 w2.drew from (Below.refl _ _).drew)
  obtain ⟨f1, f2⟩ := Cs.out w2.drew (A2.out.row.below Hd2.out) (HP.out _ (B2.out.trans (Hd2.out.mono B2.out.size)))
  go_upto_region 3 with fail
  go_region_held3 (fun w' => w'.cell? ⟨n, 1, none⟩ = some (.pointer (some ⟨a.v, 0, none⟩)) ∧ (bal.ldBal (.pointer (some ⟨w.heap.size, 0, none⟩))).run Tryz.prog w' = .ok (.agg #[.int .i64 te, .int .i64 vo]) w')
    (first | exact ⟨f1, f2⟩ | exact Cs.out _ Hr3.out Hq3.out | exact Cs.out _ Hr4.out Hq4.out | exact Cs.out _ Hr5.out Hq5.out)
    (first
      | (go_at_call 181; refine KB.out.mono ?_; rintro e w3 ⟨A3, c3, rfl, hown3, hb3⟩; have Hown3 := Lib.hid hown3; have Hb3 := Lib.hid (Hd2.out.trans hb3); have Hr3 := Lib.hid (A2.out.row.below Hb3.out); have Hq3 := Lib.hid (HP.out _ (B2.out.trans (Hb3.out.mono B2.out.size))); clear hown3 hb3)
      | (go_at_call 79; refine (KP.out w3 A3 _ c3 Hb3.out (bytes_length _).symm (Seen.of_own Hown3.out)).mono ?_; intro e w4 hp; obtain ⟨rfl, hnew, htp⟩ := hp.fit (by omega) (by omega) (by have := Hbl.out; omega) Hfit.out; have Hnew2 := Lib.hid hnew; have Htp := Lib.hid htp; have Hr4 := Lib.hid ((A2.out.below Hb3.out).row.turned htp (fun e => (A2.out.below Hb3.out).far (.inl e))); have Hq4 := Lib.hid (show bal.BalAt w4 w.heap.size ⟨te, vo⟩ from htp.heap Hq3.out (fun e => (A2.out.below Hb3.out).parts.type Hq3.out (by unfold TouchT; decide) (.inl e))); clear hp hnew htp)
      | (go_at_call 78; refine (Nkept n _ 0 w4 Hr4.out).mono ?_; rintro e w5 ⟨rfl, hw5⟩; have Hw5 := Lib.hid hw5; have Hr5 := Lib.hid (show NcAt w5 n (N.c a) from by have := hw5.1; unfold Nd.c at this ⊢; rw [Hr.out]; exact this); have Hq5 := Lib.hid (show bal.BalAt w5 w.heap.size ⟨te, vo⟩ from hw5.2.heap Hq4.out (by omega)); clear hw5))
  obtain ⟨FV', hv1, hv2⟩ := Hnew2.out
  have m3 : MovE B n a a N w w3 := MovE.of_below H0.out (B1.out.trans ((B2.out.trans (Hb3.out.mono B2.out.size)).mono (Nat.le_of_lt hs1)))
  have m4 := m3.put Htp.out hv1 hv2
  have m5 : MovE B n a { a with FV := FV' } { N with st := N.st.noted (chgB ⟨te, vo⟩) } w w5 := m4.wrote (a2 := { a with FV := FV' }) (N2 := { N with st := N.st.noted (chgB ⟨te, vo⟩) }) ⟨Hr5.out, Hw5.out.2⟩ m4.1.parts (fun j e => .inl e) rfl rfl rfl
  have M5 := Lib.hid m5
  have HP5 := Lib.hid (show ∀ q, bal.BalAt (w5.drewN q) w.heap.size ⟨te, vo⟩ from fun q => Hq5.out)
  clear hv1 hv2 m3 m4 m5 f1 f2
  have e0 : ∀ q, (w5.drewN q).cell? ⟨w.heap.size, 0, none⟩ = some (.int .i64 te) := fun q => (HP5.out q).c0
  have e3 : ∀ q, (w5.drewN q).cell? ⟨n, 3, none⟩ = some (.int .i64 N.te) := fun q => (Hr5.out.draw q).c3
  go_upto_region 5 with fail
  go_quiet (fail)
  obtain ⟨w6, hw6⟩ : ∃ w6, w5.drewN nq = w6 := ⟨_, rfl⟩
  rw [hw6]
  have hb56 : Below w5.heap.size w5 w6 := by rw [← hw6]; exact below_drewN (Below.refl _ _) nq
  have hld : (bal.ldBal (.pointer (some ⟨w.heap.size, 0, none⟩))).run Tryz.prog w6 = .ok (.agg #[.int .i64 te, .int .i64 vo]) w6 := by rw [← hw6]; exact bal.ldBal_run (HP5.out nq)
  have M6 := Lib.hid (M5.out.below hb56)
  have s3 := M6.out.1.row.c3; have s4 := M6.out.1.row.c4; have z3 := M6.out.1.row.fr 3; have z4 := M6.out.1.row.fr 4
  unfold Nd.c at s3 s4
  simp only at s3 s4
  have hov : decide (N.te < te) = true := decide_eq_true hover
  have hw7 := ((WroteN.refl M6.out.1.row).set 3 (.int .i64 te) (c' := ({ N with st := N.st.noted (chgB ⟨te, vo⟩), te := te } : Nd).c { a with FV := FV' }) rfl).set 4 (.int .i64 vo) (c' := (N.cast ⟨te, vo⟩).c { a with FV := FV' }) rfl
  obtain ⟨w7, hw7e⟩ : ∃ w7, (w6.setCell ⟨n, 3, none⟩ (.int .i64 te)).setCell ⟨n, 4, none⟩ (.int .i64 vo) = w7 := ⟨_, rfl⟩
  rw [hw7e] at hw7
  have p6 := M6.out.1.parts
  have M7 := Lib.hid (M6.out.wrote hw7 ⟨p6.vault, p6.log, p6.sm, p6.mem, p6.votes, p6.sslen, p6.ss, p6.peers⟩ (fun j e => .inl e) rfl rfl rfl)
  have KRs := Lib.hid (Nrest n _ w7 M7.out.1.row)
  clear hw6 hb56 e0 e3 hw7 p6
  go_wp2_with (go_at_call 147; refine KRs.out.mono ?_; rintro e w8 ⟨rfl, hw8⟩; have Hw8 := Lib.hid hw8; clear hw8)
  go_ret
  exact ⟨rfl, M7.out.then (MovA.rest M7.out.1 Hw8.out)⟩
end
end Go.Proofs.YtdlgihgdpdiglaaGreat
end

section
namespace Go.Proofs.YtdlgihgdpdiglaaGreat
open Go.ChangeShapes Go.WideShapes Go.ChangeAt Go.RowKit
set_option linter.unusedVariables false

/-- the change that push makes -/
def chgE (i : Int) (d : rl.Dat) : Chg := ⟨i + 1, some (entB d)⟩
/-- a node with an entry more -/
def Nd.pushed (N : Nd) (d : rl.Dat) : Nd := { N with x := N.x ++ [d], st := N.st.noted (chgE (N.si + N.x.length + 1) d) }
theorem vault_type {w : World} {B v g s : Nat} {F : Nat → Prop} {st : Vt} (h : IsF w B v g s F st) {k : Nat} {cs : Array Value} {T : TypeId} {fr : Nat × Nat} (hb : w.heap[k]? = some (.cells cs T fr)) (hT : ¬ TouchT T) : ¬ F k := fun hk => by
  obtain ⟨_, _, ⟨cs', T', h3, h4⟩ | ⟨es, c, h3⟩⟩ := h.kinds hk
  · rw [h3] at hb
    injection hb with hb
    injection hb with _ e _
    exact hT (e ▸ h4)
  · rw [h3] at hb; cases hb
/-- its log is written -/
theorem MovE.logged {B n : Nat} {a a1 : Ad} {N1 : Nd} {x' : List rl.Dat} {w w1 w2 : World} (h : MovE B n a a1 N1 w w1) (hg : rl.GrewL B a1.l a1.q N1.si N1.sn x' w1 w2) : ∃ q', MovE B n a { a1 with q := q' } { N1 with x := x' } w w2 := by
  obtain ⟨q', k1, k2, k3⟩ := hg
  obtain ⟨h1, h2, h3, h4⟩ := h
  have hl := h1.parts.log
  have hty : ∀ k, rl.FootL a1.l a1.q k → ∃ cs T, w1.heap[k]? = some (.cells cs T (0, 0)) ∧ (T = 162 ∨ T = 73) := fun k hk => by
    obtain ⟨X, _, hl⟩ := hl
    obtain ⟨_, _, cs, T, e1, e2⟩ := hl.block hk
    exact ⟨cs, T, e1, e2⟩
  have hnb : rl.NoBytes w1 (rl.FootL a1.l a1.q) := hl.noBytes
  have hni : NoInts w1 (rl.FootL a1.l a1.q) := fun k cs fr hk e => by
    obtain ⟨cs', T, e1, e2⟩ := hty k hk
    rw [e1] at e
    injection e with e
    injection e with _ e _
    rcases e2 with rfl | rfl <;> exact absurd e (by decide)
  refine ⟨q', ⟨h1.lo, h1.row.turned k3 (fun e => h1.far (.inr (.inl e))), ⟨h1.parts.vault.turned k3 (fun k hk e => ?_) hnb, k1, h1.parts.sm.turned k3 hni, h1.parts.mem.turned k3 hni, h1.parts.votes.turned k3 hni, h1.parts.sslen, h1.parts.ss.turned k3 hnb, fun p hp => ?_⟩⟩, fun k hk => ?_, turned_step h3 k3 fun k hk e => ?_, h4⟩
  · obtain ⟨cs', T, e1, e2⟩ := hty k e
    obtain ⟨_, _, ⟨cs, T', e3, e4⟩ | ⟨es, c, e3⟩⟩ := h1.parts.vault.kinds hk
    · rw [e1] at e3
      injection e3 with e3
      injection e3 with _ e3 _
      subst e3
      rcases e2 with rfl | rfl <;> exact absurd e4 (by unfold TouchT; decide)
    · rw [e1] at e3; cases e3
  · obtain ⟨b1, b2, b3⟩ := h1.parts.peers p hp
    refine ⟨b1, b2, map_turned b3 k3 fun e => ?_⟩
    obtain ⟨cs', T, e1, e2⟩ := hty p e
    obtain ⟨es, c, hm⟩ := b3.map
    rw [e1] at hm; cases hm
  · rcases hk with e | e | e | e
    · exact .inl (.inl e)
    · exact h2 k (.inr (.inl e))
    · rcases e with e | e
      · exact h2 k (.inr (.inr (.inl (.inl e))))
      · rcases k2 k e with e | e
        · exact h2 k (.inr (.inr (.inl (.inr e))))
        · exact .inr (Nat.le_trans h3.size e)
    · exact h2 k (.inr (.inr (.inr e)))
  · rcases h2 k (.inr (.inr (.inl e))) with e | e
    · exact e
    · omega
section
attribute [local go_sem ↓] rl.ldEnt_eq
set_option maxRecDepth 100000 in
set_option maxHeartbeats 4000000 in
theorem Npush (B n L : Nat) (a : Ad) (N : Nd) (t k : Int) (A : Option Addr) (m c : Nat) (bs : List UInt8) (w : World) (h : IsA w B n a N) (hr : N.rf = 0) (hL : N.x.length = L) (h0 : 0 ≤ N.si) (h3 : N.si ≤ 549755813888) (hl : L ≤ 100000) (ht : In64 t) (hk : In64 k) (hk2 : ¬ k = 2) (hm : bs.length = m) (hm8 : m ≤ 800) (hs : rl.SeenU w A bs) (hroom : 16 * N.st.cs.length + 16 ≤ N.st.m) :
    Calls Tryz.prog 82 #[.pointer (some ⟨n, 0, none⟩), .agg #[.int .i64 t, .int .i64 k, .slice A m c]] w fun e w' => e = .returned (.bool true) ∧ ∃ FV' q', MovE B n a { a with FV := FV', q := q' } (N.pushed (t, k, bs)) w w' := by
  obtain ⟨w1, hw1, hb1, hh1⟩ := rl.ent_box w ⟨t, k, A, m, c, bs⟩
  simp only at hw1 hh1
  have hp : ∀ W, Below w1.heap.size w1 W → W.heap[w.heap.size]? = some (.cells #[.int .i64 t, .int .i64 k, .slice A m c] 73 (0, 0)) := fun W hb => row_below hh1 hb
  have HP := Lib.hid hp
  have A1 := Lib.hid (h.below hb1); have B1 := Lib.hid hb1; have H0 := Lib.hid h
  have Hroom := Lib.hid hroom; have Hr := Lib.hid hr; have Hs := Lib.hid hs; have Hm := Lib.hid hm; have Ht := Lib.hid ht; have Hk := Lib.hid hk; have Hk2 := Lib.hid hk2
  have hnl := h.row.lt
  have hs1 : w.heap.size < w1.heap.size := (Array.getElem?_eq_some_iff.1 hh1).1
  have c5 := A1.out.row.c5
  unfold Nd.c at c5
  simp only at c5
  have KL := Lib.hid (NlastOf B a.l L a.q N.si N.sn N.x w1 A1.out.parts.log hL h0 (by omega) (by omega))
  have HL := Lib.hid hL; have S0 := Lib.hid h0; have S3 := Lib.hid h3
  obtain ⟨i, hi⟩ : ∃ i, N.si + (L : Int) + 1 = i := ⟨_, rfl⟩
  have hwi : IntKind.i64.wrap (N.si + (L : Int) + 1) = i := by rw [rl.i64_add (by omega) (by omega)]; exact hi
  have Hi := Lib.hid (show N.si + (L : Int) + 1 = i ∧ 1 ≤ i ∧ i ≤ 549756813888 from ⟨hi, by omega, by omega⟩)
  clear h hb1 hh1 hp hroom hr hs hm ht hk hk2 hL h0 h3 hi
  go_enter Tryz.func82, Tryz.ntmps82
  go_wp2_with fail
  refine KL.out.mono ?_
  rintro e w2 ⟨rfl, hb2⟩
  have B2 := Lib.hid hb2
  have A2 := Lib.hid (A1.out.below hb2)
  clear c5 hb2 hw1
  have Hd2 := Lib.hid (show Below w2.heap.size w2 w2.drew from (Below.refl _ _).drew)
  have Hsm := Lib.hid (show ∀ W, Below w2.heap.size w2 W → Seen W A (bytesV bs) from fun W hb => (Hs.out.1.below ((B1.out.trans ((B2.out.trans (hb.mono B2.out.size)).mono (Nat.le_of_lt hs1))))))
  have KK := Lib.hid (fun W => NentryKey i W (by have := Hi.out; omega) (by have := Hi.out; omega))
  have KT := Lib.hid (fun W (hb : Below w2.heap.size w2 W) => NentryText t k A m c bs W Ht.out Hk.out Hm.out (by omega) (Hsm.out W hb))
  have Hel := Lib.hid (show (entB (t, k, bs)).length ≤ 900 from by have := entB_len (d := (t, k, bs)) Ht.out.2 Hk.out.2 (by show bs.length ≤ _; have := Hm.out; omega); have := Hm.out; simp only at *; omega)
  have Hfit := Lib.hid (show N.st.fits ⟨i + 1, some (entB (t, k, bs))⟩ from fits_room A2.out.parts.vault.ok ⟨by show 0 ≤ i + 1; have := Hi.out; omega, by show i + 1 ≤ _; have := Hi.out; omega, Hel.out⟩ Hroom.out)
  have KP := Lib.hid (fun (W : World) (A' : Option Addr) (m' c' : Nat) (hb : Below w2.heap.size w2 W) (hm : (entB (t, k, bs)).length = m') (hs : Seen W A' (bytesV (entB (t, k, bs)))) =>
    Put_any B a.v a.g a.s a.FV N.st (i + 1) A' m' c' (entB (t, k, bs)) W (A2.out.parts.vault.below hb) (by have := Hi.out; omega) (by have := Hi.out; omega) hm (by have := Hel.out; omega) hs)
  have Cs := Lib.hid (show ∀ W, NcAt W n (N.c a) → W.heap[w.heap.size]? = some (.cells #[.int .i64 t, .int .i64 k, .slice A m c] 73 (0, 0)) → (W.cell? ⟨n, 1, none⟩ = some (.pointer (some ⟨a.v, 0, none⟩)) ∧ (rl.ldEnt (.pointer (some ⟨w.heap.size, 0, none⟩))).run Tryz.prog W = .ok (.agg #[.int .i64 t, .int .i64 k, .slice A m c]) W) from fun W r b => ⟨r.c1, rl.ldEnt_run (e := ⟨t, k, A, m, c, bs⟩) (row_cell b 0) (row_cell b 1) (row_cell b 2)⟩)
  obtain ⟨f1, f2⟩ := Cs.out w2.drew (A2.out.row.below Hd2.out) (HP.out _ (B2.out.trans (Hd2.out.mono B2.out.size)))
  go_upto_region 2 with fail
  go_region_held3 (fun w' => w'.cell? ⟨n, 1, none⟩ = some (.pointer (some ⟨a.v, 0, none⟩)) ∧ (rl.ldEnt (.pointer (some ⟨w.heap.size, 0, none⟩))).run Tryz.prog w' = .ok (.agg #[.int .i64 t, .int .i64 k, .slice A m c]) w')
    (first | exact ⟨f1, f2⟩ | exact Cs.out _ Hr3.out Hq3.out | exact Cs.out _ Hr4.out Hq4.out | exact Cs.out _ Hr5.out Hq5.out)
    (first
      | (go_at_call 137; refine (KK.out _).mono ?_; rintro e wq ⟨rfl, rfl⟩)
      | (go_at_call 145; refine (KT.out _ Hd2.out).mono ?_; rintro e w3 ⟨A3, c3, rfl, hown3, hb3⟩; have Hown3 := Lib.hid hown3; have Hb3 := Lib.hid (Hd2.out.trans hb3); have Hr3 := Lib.hid (A2.out.row.below Hb3.out); have Hq3 := Lib.hid (HP.out _ (B2.out.trans (Hb3.out.mono B2.out.size))); clear hown3 hb3)
      | (go_at_call 79; refine (KP.out w3 A3 _ c3 Hb3.out (bytes_length _).symm (Seen.of_own Hown3.out)).mono ?_; intro e w4 hp; obtain ⟨rfl, hnew, htp⟩ := hp.fit (by have := Hi.out; omega) (by have := Hi.out; omega) Hel.out Hfit.out; have Hnew2 := Lib.hid hnew; have Htp := Lib.hid htp; have Hr4 := Lib.hid ((A2.out.below Hb3.out).row.turned htp (fun e => (A2.out.below Hb3.out).far (.inl e))); have Hq4 := Lib.hid (htp.heap Hq3.out (fun e => vault_type (A2.out.below Hb3.out).parts.vault Hq3.out (by unfold TouchT; decide) e)); clear hp hnew htp)
      | (go_at_call 78; refine (Nkept n _ 0 w4 Hr4.out).mono ?_; rintro e w5 ⟨rfl, hw5⟩; have Hw5 := Lib.hid hw5; have Hr5 := Lib.hid (show NcAt w5 n (N.c a) from by have := hw5.1; unfold Nd.c at this ⊢; rw [Hr.out]; exact this); have Hq5 := Lib.hid (hw5.2.heap Hq4.out (by omega)); clear hw5))
  obtain ⟨FV', hv1, hv2⟩ := Hnew2.out
  have b03 := B1.out.trans ((B2.out.trans (Hb3.out.mono B2.out.size)).mono (Nat.le_of_lt hs1))
  have m3 : MovE B n a a N w w3 := MovE.of_below H0.out b03
  have m4 := m3.put Htp.out hv1 hv2
  have m5 : MovE B n a { a with FV := FV' } { N with st := N.st.noted (chgE (N.si + N.x.length + 1) (t, k, bs)) } w w5 := by
    have e1 : N.si + (N.x.length : Int) + 1 = i := by rw [HL.out]; exact Hi.out.1
    rw [e1]
    exact m4.wrote (a2 := { a with FV := FV' }) (N2 := { N with st := N.st.noted (chgE i (t, k, bs)) }) ⟨Hr5.out, Hw5.out.2⟩ m4.1.parts (fun j e => .inl e) rfl rfl rfl
  have M5 := Lib.hid m5
  have Hs5 := Lib.hid (show Seen w5.drew A (bytesV bs) from by
    have h3 := (Hs.out.below b03)
    have t4 := turned_step (p := fun j => j = n ∨ a.FV j) (Htp.out.mono fun j _ e => .inr e) Hw5.out.2 fun j _ e => .inl e
    have h5 := h3.turned t4 (fun j cs fr hj => by
      rcases hj with e | e
      · exact (A2.out.below Hb3.out).noBytes j cs fr (.inl e)
      · exact (A2.out.below Hb3.out).noBytes j cs fr (.inr (.inl e)))
    exact h5.1)
  clear hv1 hv2 m3 m4 m5 f1 f2
  have Hd5 := Lib.hid (show Below w5.heap.size w5 w5.drew from (Below.refl _ _).drew)
  have f5 : w5.drew.cell? ⟨n, 5, none⟩ = some (.pointer (some ⟨a.l, 0, none⟩)) := Hr5.out.c5
  have f2 := (Cs.out w5.drew Hr5.out Hq5.out).2
  have KPu := Lib.hid (rl.Push_any B a.l L a.q N.si N.sn N.x t k A m c bs w5.drew (M5.out.1.parts.log.below Hd5.out) HL.out S0.out (by have := S3.out; omega) hl Hm.out (by omega) Hs5.out (by have := M5.out.1.base (k := n) (.inl rfl); show B ≤ w5.heap.size; omega))
  have Cs5 := Lib.hid (show ∀ W, NcAt W n (N.c a) → W.heap[w.heap.size]? = some (.cells #[.int .i64 t, .int .i64 k, .slice A m c] 73 (0, 0)) → (W.cell? ⟨n, 5, none⟩ = some (.pointer (some ⟨a.l, 0, none⟩)) ∧ (rl.ldEnt (.pointer (some ⟨w.heap.size, 0, none⟩))).run Tryz.prog W = .ok (.agg #[.int .i64 t, .int .i64 k, .slice A m c]) W) from fun W r b => ⟨r.c5, rl.ldEnt_run (e := ⟨t, k, A, m, c, bs⟩) (row_cell b 0) (row_cell b 1) (row_cell b 2)⟩)
  go_upto_region 4 with fail
  go_region_held3 (fun w' => w'.cell? ⟨n, 5, none⟩ = some (.pointer (some ⟨a.l, 0, none⟩)) ∧ (rl.ldEnt (.pointer (some ⟨w.heap.size, 0, none⟩))).run Tryz.prog w' = .ok (.agg #[.int .i64 t, .int .i64 k, .slice A m c]) w')
    (first | exact ⟨f5, f2⟩ | exact Cs5.out _ Hr6.out Hq6.out)
    (first
      | (go_at_call 140; refine KPu.out.mono ?_; rintro e w6 ⟨rfl, hg6⟩; have Hg6 := Lib.hid hg6; have T6 := Lib.hid hg6.choose_spec.2.2; have Hr6 := Lib.hid (show NcAt w6 n (N.c a) from (Hr5.out.below Hd5.out).turned T6.out (fun e => M5.out.1.far (.inr (.inl e)))); have Hq6 := Lib.hid (show w6.heap[w.heap.size]? = some (.cells #[.int .i64 t, .int .i64 k, .slice A m c] 73 (0, 0)) from T6.out.heap Hq5.out (fun e => absurd (H0.out.base (.inr (.inr (.inl e)))).2 (Nat.lt_irrefl _))); clear hg6))
  have b1 : w6.cell? ⟨w.heap.size, 1, none⟩ = some (.int .i64 k) := row_cell Hq6.out 1
  have q2 : (k == 2) = false := by simpa using Hk2.out
  go_wp2
  go_ret
  obtain ⟨q', m6⟩ := (M5.out.below Hd5.out).logged Hg6.out
  exact ⟨rfl, _, q', m6⟩
end
end Go.Proofs.YtdlgihgdpdiglaaGreat
end
