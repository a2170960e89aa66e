/-
  Contracts of (*sched.Sched).Len and Drop. Conditions: a scheduler in memory.
-/
import Derived.Test.YtbfjakchgmdldaaGreatSchPush
import Derived.Test.YtbfjakchgmdldaaGreatHomDrop
namespace Go.Proofs.YtbfjakchgmdldaaGreat
open Go.ChangeShapes Go.WideShapes Go.ChangeAt Go.RowKit Go.Maps
set_option linter.unusedVariables false

/-- how many items a flow has -/
def lenF (ks : List Int) (F : Int → Fl) (k : Int) : Int := if k ∈ ks then ((F k).q.length : Int) else 0
set_option maxRecDepth 100000 in
theorem SLen_any (B s : Nat) (ks : List Int) (F : Int → Fl) (k : Int) (w : World) (H : SchAt w B s ks F) (hi : In64 k) :
    Calls Tryz.prog 16 #[.pointer (some ⟨s, 0, none⟩), .int .i64 k] w fun e w' => e = .returned (.int .i64 (lenF ks F k)) ∧ w = w' := by
  obtain ⟨mf, q1, m1, q2, m2, bs, qs, xr, xw, h, hL⟩ := H
  obtain ⟨A1, c1, A2, c2, hrow⟩ := h.row
  have a0 : w.cell? ⟨s, 0, none⟩ = some (.map (some mf)) := row_cell hrow 0
  by_cases hk : k ∈ ks
  · have hst := h.st k hk
    obtain ⟨A, c, hqv⟩ := hst.2.2.form
    obtain ⟨n, hn⟩ : ∃ n, (F k).q.length = n := ⟨_, rfl⟩
    obtain ⟨g, hg⟩ : ∃ g, bs k = g := ⟨_, rfl⟩
    rw [hn] at hqv
    have a8 : w.cell? ⟨g, 8, none⟩ = some (.slice A n c) := by rw [← hqv, ← hg]; exact IsSt.c8 hst.2.1
    have e : lenF ks F k = n := by unfold lenF; rw [if_pos hk, hn]
    rw [e]
    have Hk := Lib.hid hk; have H1 := Lib.hid h; have Hi := Lib.hid hi; have Hg := Lib.hid hg
    clear hk h hL hst hqv hn hg hrow e hi
    go_enter Tryz.func16, Tryz.ntmps16
    go_wp2_with (refine wpList_lookP rfl (.tmp 11) (.tmp 12) rfl mf ks bs k rfl rfl H1.out.flows Hi.out.1 Hi.out.2 ?_; rw [decide_eq_true Hk.out, ptrV_some Hk.out, Hg.out])
    go_ret
    exact ⟨rfl, rfl⟩
  · have e : lenF ks F k = 0 := by unfold lenF; rw [if_neg hk]
    rw [e]
    have Hk := Lib.hid hk; have H1 := Lib.hid h; have Hi := Lib.hid hi
    clear hk h hL hrow e hi
    go_enter Tryz.func16, Tryz.ntmps16
    go_wp2_with (refine wpList_lookP rfl (.tmp 11) (.tmp 12) rfl mf ks bs k rfl rfl H1.out.flows Hi.out.1 Hi.out.2 ?_; rw [decide_eq_false Hk.out, ptrV_none Hk.out])
    go_ret
    exact ⟨rfl, rfl⟩
/-- what Drop hands back -/
def SDropRet (B s : Nat) (ks : List Int) (F : Int → Fl) (k : Int) (Q : Nat → Prop) (w : World) (en : Ending) (w' : World) : Prop :=
  en = .returned (.int .i64 (lenF ks F k)) ∧ SchAtQ w' B s (outK ks k) F Q ∧ KeptS B w w' ∧ KeepI Q w w'
set_option maxRecDepth 100000 in
set_option maxHeartbeats 4000000 in
theorem SDrop_any (B s : Nat) (ks : List Int) (F : Int → Fl) (k : Int) (w : World) (Q : Nat → Prop) (H : SchAtQ w B s ks F Q) (hi : In64 k) (hl : ks.length ≤ 10000) :
    Calls Tryz.prog 14 #[.pointer (some ⟨s, 0, none⟩), .int .i64 k] w (SDropRet B s ks F k Q w) := by
  have KL := Lib.hid (SLen_any B s ks F k w H.at_ hi)
  obtain ⟨mf, q1, m1, q2, m2, bs, qs, xr, xw, h, hL, hQ⟩ := H
  obtain ⟨A1, c1, A2, c2, hrow⟩ := h.row
  have a0 : w.cell? ⟨s, 0, none⟩ = some (.map (some mf)) := row_cell hrow 0
  obtain ⟨v, hv⟩ : ∃ v, lenF ks F k = v := ⟨_, rfl⟩
  rw [hv] at KL
  have HQ := Lib.hid hQ; have H1 := Lib.hid h; have HL := Lib.hid hL; have Hi := Lib.hid hi; have Hl := Lib.hid hl; have Hv := Lib.hid hv
  clear h hL hQ hrow hi hl hv
  go_enter Tryz.func14, Tryz.ntmps14
  go_upto_region 3 with (first
    | (refine wpList_delP rfl (.tmp 12) (.tmp 13) rfl mf ks bs k rfl rfl H1.out.flows Hi.out.1 Hi.out.2 ?_; intro w2 hm2 ht2; have HI2 := Lib.hid (KeepI.of_turned (Q := Q) ht2 fun j cs e hj => absurd hj (cells_map e H1.out.map0.choose_spec.choose_spec)); have H2 := Lib.hid (H1.out.gone ht2 hm2); clear hm2 ht2)
    | (go_at_call 16; refine KL.out.mono ?_; rintro e w1 ⟨rfl, rfl⟩))
  clear a0 KL
  obtain ⟨X, Y, hR⟩ := H2.out.1.hr
  have HR := Lib.hid hR
  have hlen := H1.out.lens HL.out
  have Hlen := Lib.hid hlen
  clear hR hlen
  go_upto_region 4 with (go_at_call 33; refine (show Calls _ _ #[.pointer (some ⟨s, 1, none⟩), .int .i64 k] w2 _ from Drop_any B (homeR s mf X Y) q1 m1 xr k w2 HR.out (by have := Hlen.out.1; have := Hl.out; omega) Hi.out.1 Hi.out.2).mono ?_; rintro e w3 ⟨b3, rfl, -, h3, t3⟩; have H3 := Lib.hid (H2.out.1.setR h3 HR.out t3 fun j hj => .inl hj); clear h3 t3)
  obtain ⟨X', Y', hW⟩ := H3.out.1.hw
  have HW := Lib.hid hW
  clear hW
  go_wp2_with (go_at_call 33; refine (show Calls _ _ #[.pointer (some ⟨s, 3, none⟩), .int .i64 k] w3 _ from Drop_any B (homeW s mf X' Y') q2 m2 xw k w3 HW.out (by have := Hlen.out.2; have := Hl.out; omega) Hi.out.1 Hi.out.2).mono ?_; rintro e w4 ⟨b4, rfl, -, h4, t4⟩; have H4 := Lib.hid (H3.out.1.setW h4 HW.out t4 fun j hj => .inl hj); clear h4 t4)
  go_ret
  unfold SDropRet
  rw [Hv.out]
  exact ⟨rfl, ⟨mf, q1, m1, q2, m2, bs, qs, _, _, H4.out.1, HL.out.drop k, fun j hj x hx => HQ.out j (mem_outK.1 hj).1 x hx⟩, (H2.out.2.trans H3.out.2.s).trans H4.out.2.s, (HI2.out.trans H3.out.2.items).trans H4.out.2.items⟩
end Go.Proofs.YtbfjakchgmdldaaGreat
