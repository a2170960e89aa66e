/-
  Contract of (*sched.Sched).Pick. Conditions: a scheduler in memory; numbers that an int holds.
-/
import Derived.Test.YtbfjakchgmdldaaSchTake
import Derived.Test.YtbfjakchgmdldaaSchNext
namespace Go.Proofs.Ytbfjakchgmdldaa
open Go.ChangeShapes Go.WideShapes Go.ChangeAt Go.RowKit Go.Maps
set_option linter.unusedVariables false

theorem results_pick {fn : Func} {p q r u : Tmp} (h : fn.results = #[.tmp p, .cell q 36, .tmp r, .tmp u]) {tmps : Array Value} {W : World} {a : Nat} {x y z : Value} {cs : Array Value} (hp : tmps.getD p undef = x) (hq : tmps.getD q undef = .pointer (some ⟨a, 0, none⟩)) (hr : tmps.getD r undef = y) (hu : tmps.getD u undef = z)
    (ha : W.heap[a]? = some (.cells cs 36 (0, 0))) (hcs : cs.size = 3) : (results fn tmps).run Try.prog W = .ok (.tuple #[x, .agg cs, y, z]) W := by
  have e2 := run_loadVar_row W a 36 36 cs (0, 0) _ ha Try.underlying36 rfl (by rw [hcs]; exact item_size)
  simp only [Array.getD_eq_getD_getElem?] at hp hq hr hu
  simp [results, h, hp, hq, hr, hu, asAddr, e2]
/-- flow k is next by phase ph, and i is its first item: what the flows then are -/
def Picked (ks : List Int) (F : Int → Fl) (now k ph : Int) (i : Itm) (F' : Int → Fl) : Prop :=
  ∃ r, k ∈ ks ∧ (F k).q = i :: r ∧ Next ks F (atF now) k ph true ∧ F' = updF F k (takenFl (F k) (atF now) ph i r)
theorem Next.up {ks : List Int} {F : Int → Fl} {now k ph : Int} (h : Next ks F now k ph true) : k ∈ ks ∧ ∃ i r, (F k).q = i :: r := by
  have hu : k ∈ ks ∧ upF (F k) = true := by
    rcases h with ⟨_, _, h⟩ | ⟨_, _, _, h⟩ | ⟨h, _⟩
    · exact ⟨h.1.1, h.1.2.1⟩
    · exact ⟨h.1.1, h.1.2.1⟩
    · cases h
  refine ⟨hu.1, ?_⟩
  have h2 := hu.2
  unfold upF at h2
  cases hq : (F k).q with
  | nil => rw [hq] at h2; cases h2
  | cons i r => exact ⟨i, r, rfl⟩
/-- what Pick hands back -/
def PickRet (B s : Nat) (ks : List Int) (F : Int → Fl) (now : Int) (w : World) (e : Ending) (w' : World) : Prop :=
  ∃ k i ph ok F', e = .returned (.tuple #[.int .i64 k, .agg #[.int .i64 i.na, .int .i64 i.de, .int .i64 i.rh], .int .i64 ph, .bool ok]) ∧ SchAt w' B s ks F' ∧ KeptS B w w' ∧ (∀ (j : Nat) (cs : Array Value), w.heap[j]? = some (.cells cs 36 (0, 0)) → w'.heap[j]? = some (.cells cs 36 (0, 0))) ∧
    ((ok = true ∧ Picked ks F now k ph i F') ∨ (ok = false ∧ k = 0 ∧ i = ⟨0, 0, 0⟩ ∧ ph = 0 ∧ F' = F ∧ Next ks F (atF now) 0 0 false))
set_option maxRecDepth 100000 in
set_option maxHeartbeats 4000000 in
theorem Pick_any (B s : Nat) (ks : List Int) (F : Int → Fl) (now : Int) (w : World) (h : SchAt w B s ks F) (hn : In64 now) (hl : ks.length ≤ 10000) (hB : B ≤ w.heap.size) :
    Calls Try.prog 13 #[.pointer (some ⟨s, 0, none⟩), .int .i64 now] w (PickRet B s ks F now w) := by
  obtain ⟨w1, hw1, hb1, hx1⟩ := itm_box w ⟨0, 0, 0⟩
  have h1 := h.below hb1
  have hq := h.old
  have HQ := Lib.hid hq; have H := Lib.hid h
  clear hq
  have Hb1 := Lib.hid hb1; have Hx1 := Lib.hid hx1; have H1 := Lib.hid h1; have Hl := Lib.hid hl; have HB := Lib.hid hB
  have KA := Lib.hid (fun W => Calls.stay (at_any now W hn))
  have Htag := Lib.hid (show isTag (atF now) from atF_bd now)
  clear hb1 hx1 h1 h hl hB hn
  go_enter Try.func13, Try.ntmps13
  go_upto_region 2 with (first | (go_at_call 21; refine (KA.out _).mono ?_; rintro e W1 ⟨rfl, rfl⟩))
  obtain ⟨t, ht⟩ : ∃ t, atF now = t := ⟨_, rfl⟩
  rw [show timesF now 65536 = t from ht]
  rw [ht] at Htag
  have Ht := Lib.hid ht
  clear ht hw1 KA
  have KN := Lib.hid (show Calls Try.prog 22 #[.pointer (some ⟨s, 0, none⟩), .int .i64 t] W1 (NextRet ks F t W1) by
    obtain ⟨mf, q1, m1, q2, m2, bs, qs, xr, xw, h, hL⟩ := H1.out
    exact next_any B s mf q1 m1 q2 m2 ks bs qs F xr xw t W1 h hL Hl.out)
  go_upto_region 3 with (go_at_call 22; refine KN.out.mono ?_; rintro e w2 ⟨k, ph, ok, rfl, hN, hb2⟩; have HN := Lib.hid hN; have Hb2 := Lib.hid hb2; clear hN hb2)
  clear KN
  have H2 := Lib.hid (H1.out.below Hb2.out)
  have hx2 := (Hb2.out.block _ (Array.getElem?_eq_some_iff.1 Hx1.out).1).trans Hx1.out
  have HX2 := Lib.hid hx2
  have HB2 := Lib.hid (show B ≤ w2.heap.size from Nat.le_trans HB.out (Nat.le_trans Hb1.out.size Hb2.out.size))
  clear hx2
  cases ok with
  | false =>
    go_wp2_with (refine wpList_store_row rfl 36 (.tmp 5) (.tmp 20) rfl w.heap.size #[.int .i64 0, .int .i64 0, .int .i64 0] rfl rfl 36 _ HX2.out item_size rfl (by simp [Value.oneCell']) ?_)
    have t3 : Below w.heap.size w (w2.setRow w.heap.size #[.int .i64 0, .int .i64 0, .int .i64 0]) := (Hb1.out.trans (Hb2.out.mono Hb1.out.size)).trans ⟨rfl, rfl, rfl, by simp, fun k hk => setRow_other _ _ k _ (by omega)⟩
    refine bodyPost_ret (results_pick rfl rfl rfl rfl rfl (setRow_heap _ _ _ _ _ (0, 0) HX2.out) rfl) rfl ?_
    unfold PickRet
    refine ⟨0, ⟨0, 0, 0⟩, 0, false, F, rfl, ?_, .of_below t3, fun j cs hj => (t3.block _ (Array.getElem?_eq_some_iff.1 hj).1).trans hj, .inr ⟨rfl, rfl, rfl, rfl, rfl, ?_⟩⟩
    · exact H.out.below t3
    · have hN := HN.out
      rw [Ht.out]
      rcases hN with ⟨h, _⟩ | ⟨h, _⟩ | ⟨_, h1, h2, h3⟩
      · cases h
      · cases h
      · exact .inr (.inr ⟨rfl, rfl, rfl, h3⟩)
  | true =>
    obtain ⟨hk, i, r, hq⟩ := HN.out.up
    have Hk := Lib.hid hk; have Hq := Lib.hid hq
    have KT := Lib.hid (take_any B s ks F k ph t i r w2 _ ((HQ.out.below Hb1.out).below Hb2.out) hk hq Htag.out Hl.out HB2.out)
    clear hk hq
    go_wp2_with (first
      | (go_at_call 23; refine KT.out.mono ?_; rintro e w3 ⟨rfl, hA, hK, hI⟩; have HX3 := Lib.hid (hI _ _ HX2.out); have HA := Lib.hid hA; have HK := Lib.hid hK; have HI := Lib.hid hI; clear hA hK hI)
      | (refine wpList_store_row rfl 36 (.tmp 5) (.tmp 26) rfl w.heap.size #[.int .i64 i.na, .int .i64 i.de, .int .i64 i.rh] rfl rfl 36 _ HX3.out item_size rfl (by simp [Value.oneCell']) ?_))
    refine bodyPost_ret (results_pick rfl rfl rfl rfl rfl (setRow_heap _ _ _ _ _ (0, 0) HX3.out) rfl) rfl ?_
    unfold PickRet
    have hbx := HA.out.box HX3.out (fun e => Nat.lt_irrefl _ e) (w' := w3.setRow w.heap.size #[.int .i64 i.na, .int .i64 i.de, .int .i64 i.rh]) ⟨rfl, rfl, rfl, by simp, fun k _ hk => setRow_other _ _ k _ (fun e => hk e)⟩ HB.out
    refine ⟨k, i, ph, true, _, rfl, hbx.1, ?_, fun j cs hj => ?_, .inl ⟨rfl, r, Hk.out, Hq.out, by rw [Ht.out]; exact HN.out, by rw [Ht.out]⟩⟩
    · exact (((KeptS.of_below Hb1.out).trans (.of_below Hb2.out)).trans HK.out).trans hbx.2
    · have hlt := (Array.getElem?_eq_some_iff.1 hj).1
      have e1 := (Hb1.out.block _ hlt).trans hj
      have e2 := (Hb2.out.block _ (Array.getElem?_eq_some_iff.1 e1).1).trans e1
      exact (setRow_other _ _ _ _ (by omega)).trans (HI.out j cs e2)
end Go.Proofs.Ytbfjakchgmdldaa
